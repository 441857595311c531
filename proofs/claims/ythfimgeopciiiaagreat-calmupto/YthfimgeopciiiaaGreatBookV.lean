/-
  The book's Commit.
-/
import Derived.Test.YthfimgeopciiiaaGreatBookY
namespace Go.Proofs.YthfimgeopciiiaaGreat
open Go.MapKept Go.ChangeMaps Go.Maps Go.RowKit Go.MuLone
set_option linter.unusedVariables false

theorem commR_ends (a : Abs) (h : Int) : (a.act? h = none ∧ a.commR h = (2, a, none)) ∨ ∃ t, a.act? h = some t ∧ (a.commR h = (8, a.without h, none) ∨ a.commR h = (6, a, none) ∨ (a.commR h = (0, a, some t) ∧ (totV a.vers : Int) + t.wr.length ≤ a.c4)) := by
  unfold Abs.commR
  cases ha : a.act? h with
  | none => exact .inl ⟨rfl, rfl⟩
  | some t =>
    refine .inr ⟨t, rfl, ?_⟩
    simp only
    by_cases h1 : (t.i && t.o) = true
    · rw [if_pos h1]; exact .inl rfl
    · rw [if_neg h1]
      by_cases h2 : a.c4 < (totV a.vers : Int) + t.wr.length
      · rw [if_pos h2]; exact .inr (.inl rfl)
      · rw [if_neg h2]; exact .inr (.inr ⟨rfl, by omega⟩)

theorem settle_len {now t : Tab} (hn : SortedT now) (ht : SortedT t) (ks : List ByteArray) : (ks.foldl (settle now) t).length ≤ now.length + t.length := by
  obtain ⟨g1, g2⟩ := settle_all now ks t ht
  have := nodup_le_len ((ks.foldl (settle now) t).map (·.1)) (now.map (·.1) ++ t.map (·.1)) g1.nd (fun k hk => by
    obtain ⟨p, hp, rfl⟩ := List.mem_map.1 hk
    have := (mem_look g1 p.1 p.2).1 hp
    rw [g2 p.1] at this
    rw [List.mem_append]
    split at this
    · exact .inl (look_key (by rw [this]; rfl))
    · exact .inr (look_key (by rw [this]; rfl)))
  simpa using this

section
variable {w W : World} {s : Sto} {m : MBk} {n M : Int}

/-- what Commit leaves -/
structure CLeft (w W W' : World) (s : Sto) (m : MBk) (B' : Bk) (R : Int × Abs × Option Tx) : Prop where
  ex : ∃ s' m', Mem w W' s' m' ∧ Nx W W' s s' m m' ∧ CommAns s.abs R s'.abs ∧ m'.bk = B'

set_option maxRecDepth 100000 in
set_option maxHeartbeats 4000000 in
/-- it is not committed -/
theorem commit_no' (Mm : Mem w W s m) (I : s.abs.Inv n) (hn : n < 2305843009213693952) (K : BkIs s.abs m.bk M) (h : Int) (hh : 0 ≤ h ∧ h ≤ m.deals.length) (hlen : m.deals.length ≤ 1099511627776) (h0 : (s.abs.commR h).1 ≠ 0) :
    Calls Tryz.prog 47 #[.pointer (some ⟨m.bb, 0, none⟩), .int .i64 h] W fun e w' => e = .returned (.bool true) ∧ CLeft w W w' s m (m.bk.after h (s.abs.commR h).1) (s.abs.commR h) := by
  have hA := K.actB I h
  have c0 : W.cell? ⟨m.bb, 0, none⟩ = some (.pointer (some ⟨s.sb, 0, none⟩)) := by obtain ⟨tag, B, -⟩ := Mm.bk; rw [← Mm.sb]; exact B.cell.1
  have HG := commit_api Mm.st Mm.mu I hn h (wf_h hh hlen)
  have HM : Hid (∀ w' s', Turn s s' W w' → CommAns s.abs (s.abs.commR h) s'.abs → (s.abs.commR h).1 ≠ 8 → CLeft w W w' s m (m.bk.after h (s.abs.commR h).1) (s.abs.commR h)) := fun w' s' t e e8 => by
    obtain ⟨M1, N1⟩ := Mm.turn t
    exact ⟨s', m, M1, N1, e, by rw [Bk.after, if_neg e8]⟩
  have HAc : Hid (∀ w' s', Turn s s' W w' → Calls Tryz.prog 24 #[.pointer (some ⟨m.bb, 0, none⟩), .int .i64 h] w' fun e w'' => e = .returned (.bool (actB m.bk h)) ∧ w'' = w') := fun w' s' t => active_h (Mm.turn t).1 h hh hlen
  rcases commR_ends s.abs h with ⟨ha, hr⟩ | ⟨t, ha, hr | hr | ⟨hr, -⟩⟩
  · rw [hr] at HG HM ⊢
    rw [hA, ha] at HAc
    have HG := hidC HG
    clear hA K I hr ha Mm h0
    go_enter Tryz.func47, Tryz.ntmps47
    go_wp2_with (first
      | (go_at_call 25; refine HG.out.mono ?_; rintro e w2 ⟨s2, rfl, hT, hab⟩)
      | (go_at_call 24; refine (HAc.out _ _ hT).mono ?_; rintro e w3 ⟨rfl, rfl⟩))
    go_ret
    exact ⟨rfl, HM.out _ _ hT hab (by decide)⟩
  · obtain ⟨i, x, rfl, hx, D, hact, htm, _, _⟩ := deal_at K I ha
    rw [hr] at HG ⊢
    rw [hA, ha] at HAc
    have HG := hidC HG
    have HGy : Hid (∀ w' s', Turn s s' W w' → Calls Tryz.prog 79 #[.pointer (some ⟨m.bb, 0, none⟩), .int .i64 ((i : Int) + 1), .int .i64 8] w' fun e w'' => e = .returned (.bool true) ∧ Mem w w'' s' (m.off i x) ∧ Nx W w'' s s' m (m.off i x)) := fun w' s' t => by
      obtain ⟨M1, N1⟩ := Mm.turn t
      exact (gone_yes M1 i x hx hact 8 (.inr rfl) hlen).mono fun e w'' ⟨h1, h2, h3⟩ => ⟨h1, h2, N1.trans h3⟩
    have HB : Hid ((m.off i x).bk = m.bk.after ((i : Int) + 1) 8) := MBk.off_bk hx
    clear hA K I hr ha Mm D hx hact HM htm h0
    go_enter Tryz.func47, Tryz.ntmps47
    go_wp2_with (first
      | (go_at_call 25; refine HG.out.mono ?_; rintro e w2 ⟨s2, rfl, hT, hab⟩)
      | (go_at_call 24; refine (HAc.out _ _ hT).mono ?_; rintro e w3 ⟨rfl, rfl⟩)
      | (go_at_call 79; refine (HGy.out _ _ hT).mono ?_; rintro e w4 ⟨rfl, hM4, hN4⟩))
    go_ret
    exact ⟨rfl, s2, _, hM4, hN4, hab, HB.out⟩
  · obtain ⟨i, x, rfl, hx, D, hact, htm, _, _⟩ := deal_at K I ha
    rw [hr] at HG HM ⊢
    rw [hA, ha] at HAc
    have HG := hidC HG
    have hGn : Hid (∀ W', Calls Tryz.prog 79 #[.pointer (some ⟨m.bb, 0, none⟩), .int .i64 ((i : Int) + 1), .int .i64 6] W' fun e w' => e = .returned (.bool false) ∧ w' = W') := fun W' => gone_no _ 6 rfl rfl m.bb W'
    clear hA K I hr ha Mm D hx hact htm h0
    go_enter Tryz.func47, Tryz.ntmps47
    go_wp2_with (first
      | (go_at_call 25; refine HG.out.mono ?_; rintro e w2 ⟨s2, rfl, hT, hab⟩)
      | (go_at_call 24; refine (HAc.out _ _ hT).mono ?_; rintro e w3 ⟨rfl, rfl⟩)
      | (go_at_call 79; refine (hGn.out _).mono ?_; rintro e w4 ⟨rfl, rfl⟩))
    go_ret
    exact ⟨rfl, HM.out _ _ hT hab (by decide)⟩
  · rw [hr] at h0; exact absurd rfl h0

end
end Go.Proofs.YthfimgeopciiiaaGreat

/-
  The book's Commit, where it is committed.
-/
namespace Go.Proofs.YthfimgeopciiiaaGreat
open Go.MapKept Go.ChangeMaps Go.Maps Go.RowKit Go.MuLone
set_option linter.unusedVariables false

theorem info_strings : (Tryz.prog.info? 115).map (fun i => (i.zero, i.size, i.bytes)) = some (some (.slice none 0 0), 1, 24) := by kernel_rfl

/-- one commit more, and its deal is done -/
structure DoneK (w W : World) (s : Sto) (m : MBk) (i : Nat) (x : MDeal) (g : Nat) (a5 : Option Addr) (c5 cap : Nat) (W5 : World) : Prop where
  app : (Builtin.append_ #[36, 36] 36 #[m.cv, .slice (some ⟨W.heap.size, 0, none⟩) 1 1]).run Tryz.prog (W.alloc (.cells #[x.kv] 115)).drew = .ok (.slice a5 (m.commits.length + 1) c5) W5
  cell : W5.cell? ⟨m.bb, 3, none⟩ = some m.cv
  frz : W5.frozen? ⟨m.bb, 3, none⟩ = false
  cell1 : (W5.setCell ⟨m.bb, 3, none⟩ (.slice a5 (m.commits.length + 1) c5)).cell? ⟨m.bb, 1, none⟩ = some (.slice (some ⟨g, 0, none⟩) m.deals.length cap)
  cell0 : (W5.setCell ⟨m.bb, 3, none⟩ (.slice a5 (m.commits.length + 1) c5)).cell? ⟨g, i * 4, none⟩ = some (.bool x.d.active)
  frz0 : (W5.setCell ⟨m.bb, 3, none⟩ (.slice a5 (m.commits.length + 1) c5)).frozen? ⟨g, i * 4, none⟩ = false
  mem : Mem w ((W5.setCell ⟨m.bb, 3, none⟩ (.slice a5 (m.commits.length + 1) c5)).setCell ⟨g, i * 4, none⟩ (.bool false)) s (m.done i x (.slice a5 (m.commits.length + 1) c5))
  nx : Nx W ((W5.setCell ⟨m.bb, 3, none⟩ (.slice a5 (m.commits.length + 1) c5)).setCell ⟨g, i * 4, none⟩ (.bool false)) s s m (m.done i x (.slice a5 (m.commits.length + 1) c5))

set_option maxRecDepth 100000 in
theorem Mem.doneK {w W : World} {s : Sto} {m : MBk} (M : Mem w W s m) {i : Nat} {x : MDeal} (hx : m.deals[i]? = some x) (hact : x.d.active = true) (hl : m.commits.length ≤ 1099511627776) :
    ∃ g a5 c5 cap W5, DoneK w W s m i x g a5 c5 cap W5 := by
  obtain ⟨i0, hi0, hz0, hz1, hz2⟩ := info_parts info_strings
  have hq2 : Quiet W ((W.alloc (.cells #[x.kv] 115)).drew) := Quiet.trans' (Keeps.alloc _ _) (Keeps.drew _)
  have hnew : (W.alloc (.cells #[x.kv] 115)).drew.heap[W.heap.size]? = some (.cells #[x.kv] 115) := heap_alloc_new W _
  have hsz : ((W.alloc (.cells #[x.kv] 115)).drew).heap.size = W.heap.size + 1 := by simp
  have hs := M.quiet.size
  generalize hw2 : (W.alloc (.cells #[x.kv] 115)).drew = w2 at *
  have M2 := M.still hq2
  obtain ⟨tag, B, h4⟩ := M2.bk
  have hown := B.cm
  obtain ⟨ak, ck, hkv, -⟩ := (B.keys i x hx).cells
  have hnews : ∀ j u, [x.kv][j]? = some u → w2.cell? ((⟨W.heap.size, 0, none⟩ : Addr).add j) = some u := fun j u hj => by
    rw [show (⟨W.heap.size, 0, none⟩ : Addr).add j = ⟨W.heap.size, j, none⟩ by cases j <;> simp [Addr.add], cell_of_heap hnew]
    simpa using hj
  obtain ⟨v', w5, happ, hown', hgrow, hnil, hat⟩ := run_append_own_at (P := Tryz.prog) w2 w.heap.size 36 36 115 i0 _ 1 24 Tryz.underlying36 hi0 hz0 hz1 hz2 (by kernel_rfl) (by omega) m.cv _ _ hown
    ⟨W.heap.size, 0, none⟩ 1 1 [x.kv] rfl hnews (by rw [hkv]; simp [Value.oneCell']) (by simp [maxLen]; omega) (by omega) (by omega)
  obtain ⟨a5, c5, hv5⟩ : ∃ a5 c5, v' = .slice a5 (m.commits.length + 1) c5 := by
    rcases hown'.2 with ⟨_, h0⟩ | ⟨g, cap, cur, e, _⟩
    · omega
    · exact ⟨_, cap, e⟩
  subst hv5
  obtain ⟨g, cap, hg, k1, k0, -, -, -, hfz, hgl⟩ := M2.dealCells hx
  have tg := B.gd g hg
  have hcb : ∀ b, m.cv.ownBlock = some b → tag b = 2 := B.gc
  have hgk : m.cv.ownBlock ≠ some g := fun e => by have h1 := hcb g e; omega
  have hbk : m.cv.ownBlock ≠ some m.bb := fun e => by have h1 := hcb _ e; have h2 := B.gb; omega
  have hbl : m.bb < w2.heap.size := lt_of_heap B.own
  have hbg : g ≠ m.bb := fun e => by rw [e] at tg; have h2 := B.gb; omega
  have hblk : w5.heap[g]? = w2.heap[g]? := hgrow.block g hgl (fun e => hgk e.symm)
  have hblb : w5.heap[m.bb]? = w2.heap[m.bb]? := hgrow.block _ hbl (fun e => hbk e.symm)
  have own5 := hblb.trans B.own
  have hs5 := heap_setCell_same (i := 3) (v := Value.slice a5 (m.commits.length + 1) c5) own5
  have hsg : (w5.setCell ⟨m.bb, 3, none⟩ (.slice a5 (m.commits.length + 1) c5)).heap[g]? = w2.heap[g]? := (heap_setCell_other _ _ _ hbg).trans hblk
  have hdv : m.dv = .slice (some ⟨g, 0, none⟩) m.deals.length cap := by
    have := B.cell.2.1
    rw [k1] at this
    exact (Option.some.inj this).symm
  obtain ⟨M5, N5⟩ := M.done hx hg hact hq2 hgrow hown' (fun b hb => by
    rcases hat with h | h
    · exact .inl (by rw [← h]; exact hb)
    · rw [h] at hb; exact .inr (by have := Option.some.inj hb; omega))
  refine ⟨g, a5, c5, cap, w5, ⟨by rw [hw2]; exact happ, ?_, frozen_of_heap own5, ?_, (World.cell?_of_block (a := ⟨g, i * 4, none⟩) hsg).trans k0, (World.frozen?_of_block (a := ⟨g, i * 4, none⟩) hsg).trans (hfz _), M5, N5⟩⟩
  · rw [cell_of_heap own5]; rfl
  · rw [cell_of_heap hs5, ← hdv]; rfl

/-- behind some of the keys -/
structure CmI (w W W' : World) (s : Sto) (m : MBk) (x : MDeal) (done : List ByteArray) (m' : MBk) : Prop where
  mem : Mem w W' s m'
  nx : Nx W W' s s m m'
  eq : m' = { m with tv := m'.tv, t := done.foldl (settle x.d.now) m.t }

def heldAppend2 (ats : Array TypeId) (ty : TypeId) (args : Array Value) : Sem Value := Builtin.append_ ats ty args
theorem append_held2 (ats : Array TypeId) (ty : TypeId) (cs : Array Bool) (args : Array Value) : builtin .append ats ty cs args = (do pure (.value (← heldAppend2 ats ty args))) := rfl
theorem append_eq2 (ats : Array TypeId) (ty : TypeId) (args : Array Value) : Builtin.append_ ats ty args = heldAppend2 ats ty args := rfl
attribute [local go_sem ↓ high] append_held2 append_eq2

section
variable {w W : World} {s : Sto} {m : MBk} {n M : Int}

/-- what the walk wants -/
structure CmH (w W : World) (s : Sto) (m : MBk) (i : Nat) (x : MDeal) (R : Int × Abs × Option Tx) : Prop where
  cm : Calls Tryz.prog 25 #[.pointer (some ⟨s.sb, 0, none⟩), .int .i64 ((i : Int) + 1)] W fun e w' => ∃ s', e = .returned (.int .i64 0) ∧ Mem w w' s' m ∧ Nx W w' s s' m m ∧ CommAns s.abs R s'.abs

set_option maxRecDepth 100000 in
set_option maxHeartbeats 4000000 in
theorem commit_yes {i : Nat} {x : MDeal} {R : Int × Abs × Option Tx} (H : CmH w W s m i x R) (c0 : W.cell? ⟨m.bb, 0, none⟩ = some (.pointer (some ⟨s.sb, 0, none⟩))) (hx : m.deals[i]? = some x) (hact : x.d.active = true) (hlen : m.deals.length ≤ 1099511627776) (hcl : m.commits.length ≤ 1099511627776) (hA : actB m.bk ((i : Int) + 1) = true)
    (b0 : Nat) (hbg : x.d.bg = (b0 : Int)) (hbc : b0 ≤ m.commits.length) (hnl : x.d.now.length ≤ 144) (htl : m.t.length ≤ 128) (hns : SortedT x.d.now) (hts : SortedT m.t) (hkl : x.d.keys.length ≤ 4398046511104)
    (hfr : ∀ (r : Nat) (q : List ByteArray × Value), m.commits[r]? = some q → b0 ≤ r → ∀ k ∈ x.d.keys, hasB q.1 k = false) :
    Calls Tryz.prog 47 #[.pointer (some ⟨m.bb, 0, none⟩), .int .i64 ((i : Int) + 1)] W fun e w' => e = .returned (.bool true) ∧ CLeft w W w' s m (m.bk.done ((i : Int) + 1) x.d) R := by
  have hil : i < m.deals.length := (List.getElem?_eq_some_iff.1 hx).1
  have HG := hidC H.cm
  have HAc : Hid (∀ w' s', Mem w w' s' m → Calls Tryz.prog 24 #[.pointer (some ⟨m.bb, 0, none⟩), .int .i64 ((i : Int) + 1)] w' fun e w'' => e = .returned (.bool true) ∧ w'' = w') := fun w' s' M1 => by
    rw [← hA]; exact active_h M1 _ (by omega) hlen
  have HGn : Hid (∀ W', Calls Tryz.prog 79 #[.pointer (some ⟨m.bb, 0, none⟩), .int .i64 ((i : Int) + 1), .int .i64 0] W' fun e w' => e = .returned (.bool false) ∧ w' = W') := fun W' => gone_no _ 0 rfl rfl m.bb W'
  have HCl : Hid (∀ w' s', Mem w w' s' m → ∃ g cap a1 c1 an ln cn, w'.cell? ⟨m.bb, 1, none⟩ = some (.slice (some ⟨g, 0, none⟩) m.deals.length cap) ∧ w'.cell? ⟨g, i * 4, none⟩ = some (.bool true) ∧ w'.cell? ⟨g, i * 4 + 1, none⟩ = some (.int .i64 b0) ∧ w'.cell? ⟨g, i * 4 + 2, none⟩ = some (.slice an ln cn) ∧ w'.cell? ⟨g, i * 4 + 3, none⟩ = some (.slice a1 x.d.keys.length c1) ∧ g < w'.heap.size ∧ x.kv = .slice a1 x.d.keys.length c1 ∧ x.nv = .slice an ln cn) := fun w' s' M1 => by
    obtain ⟨g, cap, -, k1, k0, k2, k3, k4, -, hgl⟩ := M1.dealCells hx
    obtain ⟨tag, B, -⟩ := M1.bk
    obtain ⟨a1, c1, ek, -⟩ := (B.keys i x hx).cells
    obtain ⟨an, cn, en, -⟩ := (B.now i x hx).at
    rw [hact] at k0
    rw [hbg] at k2
    exact ⟨g, cap, a1, c1, an, _, cn, k1, k0, k2, by rw [← en]; exact k3, by rw [← ek]; exact k4, hgl, ek, en⟩
  have HX0 := hidC' (And.intro hx hact)
  have HFr := hidC' hfr
  have HSo := hidC' (And.intro hns hts)
  clear H hx hact hA hfr hns hts
  go_enter Tryz.func47, Tryz.ntmps47
  go_wp2_with (first
    | (go_at_call 25; refine HG.out.mono ?_; rintro e w2 ⟨s2, rfl, hM, hN, hab⟩; obtain ⟨g, cap, a1, c1, an, ln, cn, k1, k0, k2, k3, k4, hgl, hek, hen⟩ := HCl.out _ _ hM)
    | (go_at_call 24; refine (HAc.out _ _ hM).mono ?_; rintro e w3 ⟨rfl, rfl⟩)
    | (go_at_call 79; refine (HGn.out _).mono ?_; rintro e w4 ⟨rfl, rfl⟩))
  have HN := hidC' (And.intro hN hab)
  have hqA : Quiet w4 (w4.alloc (.cells #[.bool true, .int .i64 b0, .slice an ln cn, .slice a1 x.d.keys.length c1] 117)) := Keeps.alloc _ _
  have hdA : (w4.alloc (.cells #[.bool true, .int .i64 b0, .slice an ln cn, .slice a1 x.d.keys.length c1] 117)).heap[w4.heap.size]? = some (.cells #[.bool true, .int .i64 b0, .slice an ln cn, .slice a1 x.d.keys.length c1] 117) := heap_alloc_new _ _
  have HMA := hidC' (hM.still hqA)
  have HNA := hidC' (HN.out.1.trans (Nx.quiet s2 m hqA))
  have HnD : Hid (¬ (m.has w4.heap.size ∨ w4.heap.size ∈ s2.foot)) := fun h => by have := (hM.lt h).2; omega
  generalize hWA : w4.alloc (.cells #[.bool true, .int .i64 b0, .slice an ln cn, .slice a1 x.d.keys.length c1] 117) = WA at *
  generalize hdd : w4.heap.size = dd at *
  have hddl : dd < WA.heap.size := lt_of_heap hdA
  have d1 := cell_of_heap (i := 1) hdA
  have d2 := cell_of_heap (i := 2) hdA
  have d3 := cell_of_heap (i := 3) hdA
  simp at d1 d2 d3
  have HdA := hidC' hdA
  obtain ⟨hbl, acm, capc, hcv3, hcc, hkc⟩ : m.bb < WA.heap.size ∧ ∃ acm capc, WA.cell? ⟨m.bb, 3, none⟩ = some (.slice acm m.commits.length capc) ∧ (m.commits = [] ∨ ∃ gc, acm = some ⟨gc, 0, none⟩ ∧ gc < WA.heap.size ∧ ∀ (r : Nat) (q : List ByteArray × Value), m.commits[r]? = some q → WA.cell? ⟨gc, r, none⟩ = some q.2) ∧ (x.d.keys = [] ∨ ∃ gk, a1 = some ⟨gk, 0, none⟩ ∧ gk < WA.heap.size ∧ ∀ (q : Nat) (t : ByteArray), x.d.keys[q]? = some t → WA.cell? ⟨gk, q, none⟩ = some (.string t)) := by
    obtain ⟨tag, B, -⟩ := HMA.out.bk
    obtain ⟨acm, capc, e1, e2⟩ := B.commitsAt
    refine ⟨lt_of_heap B.own, acm, capc, by rw [← e1]; exact B.cell.2.2.2, e2, ?_⟩
    obtain ⟨a', c', e3, e4⟩ := (B.keys i x HX0.out.1).cells
    rw [hek] at e3
    obtain ⟨rfl, -⟩ : a1 = a' ∧ c1 = c' := by simpa using e3
    rcases e4 with h0 | ⟨gk, h1, _, h2, h3⟩
    · exact .inl h0
    · exact .inr ⟨gk, h1, h2, h3⟩
  have HHa : Hid (∀ (r : Nat) (q : List ByteArray × Value), m.commits[r]? = some q → b0 ≤ r → ∀ k ∈ x.d.keys, ∀ wr, Quiet WA wr → Calls Tryz.prog 82 #[q.2, .string k] wr fun e w' => e = .returned (.bool false) ∧ w' = wr) := fun r q hq hr k hk wr hw => by
    obtain ⟨tag, B, -⟩ := (HMA.out.still hw).bk
    have := has_h wr _ _ _ (B.commitKeys (List.mem_of_getElem? hq)) k
    rw [HFr.out r q hq hr k hk] at this
    exact this
  clear hM hN hab hqA hdA hWA hdd k0 k1 k2 k3 k4 hgl c0 HG HAc HGn HCl HFr
  go_loopw [9] (fun k wr => ∃ r : Nat, k = .int .i64 r ∧ b0 ≤ r ∧ r ≤ m.commits.length ∧ Quiet WA wr) (fun k _ => m.commits.length - (intOf k).toNat)
  case atStart => exact ⟨b0, rfl, Nat.le_refl _, hbc, Keeps.refl _ _⟩
  case round =>
    obtain ⟨r, rfl, hbr, hr, hqr⟩ := hrel
    have c3r := (hqr.cell (o := 3) hbl (by simp)).trans hcv3
    have d3r := (hqr.cell (o := 3) hddl (by simp)).trans d3
    by_cases hrl : r < m.commits.length
    · have hrl' : (r : Int) < (m.commits.length : Int) := by omega
      obtain ⟨qc, hqc⟩ : ∃ q, m.commits[r]? = some q := ⟨_, List.getElem?_eq_getElem hrl⟩
      rcases hcc with h0 | ⟨gc, rfl, hgc, hccell⟩
      · rw [h0] at hrl; simp at hrl
      have e0 := hccell r qc hqc
      have HHr := hidC' (HHa.out r qc hqc hbr)
      clear hccell hqc HHa
      go_wp2
      go_loopw [10] (fun k wr => ∃ q : Nat, k = .int .i64 q ∧ q ≤ x.d.keys.length ∧ Quiet WA wr) (fun k _ => x.d.keys.length - (intOf k).toNat)
      case atStart => exact ⟨0, rfl, Nat.zero_le _, hqr⟩
      case round =>
        obtain ⟨q, rfl, hq, hqq⟩ := hrel
        clear c3r d3r
        have c3q := (hqq.cell (o := 3) hbl (by simp)).trans hcv3
        have d3q := (hqq.cell (o := 3) hddl (by simp)).trans d3
        have e0q := (hqq.cell (o := r) hgc (by simp)).trans e0
        by_cases hql : q < x.d.keys.length
        · have hql' : (q : Int) < (x.d.keys.length : Int) := by omega
          obtain ⟨kk, hkk⟩ : ∃ t, x.d.keys[q]? = some t := ⟨_, List.getElem?_eq_getElem hql⟩
          rcases hkc with h0 | ⟨gk, rfl, hgk, hkcell⟩
          · rw [h0] at hql; simp at hql
          have e1 := (hqq.cell (o := q) hgk (by simp)).trans (hkcell q kk hkk)
          have HHk := hidC' (HHr.out kk (List.mem_of_getElem? hkk))
          clear hkcell hkk HHr
          go_wp2
          go_quiet ((go_at_call 82; exact Calls.quiet_of_same (HHk.out _ (Quiet.trans' hqq (quiet_drewN _ _)))))
          go_wp2
          exact ⟨⟨q + 1, by go_num, by omega, Quiet.trans' hqq (quiet_drewN _ _)⟩, by simp [intOf]; omega⟩
        · have hqge : ¬ (q : Int) < (x.d.keys.length : Int) := by omega
          clear hkc HHr
          go_wp2
          exact ⟨⟨r + 1, by go_num, by omega, by omega, hqq⟩, by simp [intOf]; omega⟩
    · have hrge : ¬ (r : Int) < (m.commits.length : Int) := by omega
      have HC0 : Hid (CmI w WA wr s2 m x (x.d.keys.take 0) m) := ⟨HMA.out.still hqr, Nx.quiet s2 m hqr, rfl⟩
      clear hcc HHa
      go_wp2
      go_loopw [12] (fun k wr => ∃ (j : Nat) (m' : MBk), k = .int .i64 j ∧ j ≤ x.d.keys.length ∧ Hid (CmI w WA wr s2 m x (x.d.keys.take j) m')) (fun k _ => x.d.keys.length - (intOf k).toNat)
      case atStart => exact ⟨0, m, rfl, Nat.zero_le _, HC0⟩
      case round =>
        obtain ⟨j, m', rfl, hj, HC⟩ := hrel
        clear HC0 c3r d3r hqr
        have hd' : wr.heap[dd]? = some (.cells #[.bool true, .int .i64 b0, .slice an ln cn, .slice a1 x.d.keys.length c1] 117) := (HC.out.nx.keeps.block dd hddl HnD.out).trans HdA.out
        have f2 := cell_of_heap (i := 2) hd'
        have f3 := cell_of_heap (i := 3) hd'
        have hddr := lt_of_heap hd'
        simp at f2 f3
        clear hd'
        have hdl' : m'.deals = m.deals := by rw [HC.out.eq]
        have hbb' : m'.bb = m.bb := by rw [HC.out.eq]
        have hx' : m'.deals[i]? = some x := by rw [hdl']; exact HX0.out.1
        by_cases hjl : j < x.d.keys.length
        · have hjl' : (j : Int) < (x.d.keys.length : Int) := by omega
          obtain ⟨kk, hkk⟩ : ∃ t, x.d.keys[j]? = some t := ⟨_, List.getElem?_eq_getElem hjl⟩
          have hteq : m'.t = (x.d.keys.take j).foldl (settle x.d.now) m.t := by rw [HC.out.eq]
          have hstep : Hid ((x.d.keys.take (j + 1)).foldl (settle x.d.now) m.t = settle x.d.now m'.t kk) := by rw [Hid, hteq, take_succ_of hkk, List.foldl_append]; rfl
          have htl' : m'.t.length ≤ 272 := by
            rw [hteq]
            have := settle_len HSo.out.1 HSo.out.2 (x.d.keys.take j)
            omega
          obtain ⟨tag, B, -⟩ := HC.out.mem.bk
          obtain ⟨at_, ct, hte, -⟩ := B.tb.at
          have t2 := B.cell.2.2.1
          have z2 := B.frz 2
          have hbr := lt_of_heap B.own
          rw [hte, hbb'] at t2
          rw [hbb'] at z2 hbr
          obtain ⟨a', c', e3, e4⟩ := (B.keys i x hx').cells
          rw [hek] at e3
          obtain ⟨rfl, -⟩ : a1 = a' ∧ c1 = c' := by simpa using e3
          rcases e4 with h0 | ⟨gk, rfl, _, hgk, hkcell⟩
          · rw [h0] at hjl; simp at hjl
          have e1 := hkcell j kk hkk
          have HTg : Hid (∀ W', Quiet wr W' → Calls Tryz.prog 61 #[.slice an ln cn, .string kk] W' fun e w'' => e = .returned (.tuple #[.string ((look x.d.now kk).getD ⟨#[]⟩), .bool (look x.d.now kk).isSome]) ∧ w'' = W') := fun W' k => by
            rw [← hen]
            exact tget_h W' _ _ _ ((B.quiet k).now i x hx') (by omega) kk
          have HSet : Hid (∀ W1 v, Quiet wr W1 → PrSl wr.heap.size W1 v (settle x.d.now m'.t kk) → ∃ m1, CmI w WA (W1.setCell ⟨m.bb, 2, none⟩ v) s2 m x (x.d.keys.take (j + 1)) m1) := fun W1 v k hv => by
            obtain ⟨M5, N5⟩ := HC.out.mem.setT k hv
            rw [hbb'] at M5 N5
            refine ⟨_, M5, HC.out.nx.trans N5, ?_⟩
            rw [hstep.out]
            rw [HC.out.eq]
          have HPu : Hid (∀ V W', Quiet wr W' → Calls Tryz.prog 28 #[.slice at_ m'.t.length ct, .string kk, .string V] W' fun e w'' => ∃ a' c', e = .returned (.slice a' (tput m'.t kk V).length c') ∧ Hid (PrSl wr.heap.size w'' (.slice a' (tput m'.t kk V).length c') (tput m'.t kk V)) ∧ Hid (Quiet wr w'') ∧ (∃ u, w''.cell? ⟨m.bb, 2, none⟩ = some u) ∧ w''.frozen? ⟨m.bb, 2, none⟩ = false) := fun V W' k => by
            rw [← hte]
            refine (tput_h W' _ _ _ (B.quiet k).tb (by omega) kk V).mono fun e w'' ⟨v', h1, h2, h3⟩ => ?_
            have h4 := Quiet.trans' k h3
            have h5 : PrSl wr.heap.size w'' v' (tput m'.t kk V) := ownsRow_low h2 k.size
            obtain ⟨a', c', e2, -⟩ := h5.at
            subst e2
            exact ⟨a', c', h1, h5, h4, ⟨_, (h4.cell hbr (by simp)).trans t2⟩, (h4.frozen hbr (by simp)).trans z2⟩
          have HDr : Hid (∀ W', Quiet wr W' → Calls Tryz.prog 81 #[.slice at_ m'.t.length ct, .string kk] W' fun e w'' => ∃ a' c', e = .returned (.slice a' (tdrop m'.t kk).length c') ∧ Hid (PrSl wr.heap.size w'' (.slice a' (tdrop m'.t kk).length c') (tdrop m'.t kk)) ∧ Hid (Quiet wr w'') ∧ (∃ u, w''.cell? ⟨m.bb, 2, none⟩ = some u) ∧ w''.frozen? ⟨m.bb, 2, none⟩ = false) := fun W' k => by
            rw [← hte]
            refine (tdrop_h W' _ _ _ (B.quiet k).tb (by omega) kk).mono fun e w'' ⟨v', h1, h2, h3⟩ => ?_
            have h4 := Quiet.trans' k h3
            have h5 : PrSl wr.heap.size w'' v' (tdrop m'.t kk) := ownsRow_low h2 k.size
            obtain ⟨a', c', e2, -⟩ := h5.at
            subst e2
            exact ⟨a', c', h1, h5, h4, ⟨_, (h4.cell hbr (by simp)).trans t2⟩, (h4.frozen hbr (by simp)).trans z2⟩
          have HSe : Hid (settle x.d.now m'.t kk = if (look x.d.now kk).isSome then tput m'.t kk ((look x.d.now kk).getD ⟨#[]⟩) else tdrop m'.t kk) := by
            rw [Hid]
            unfold settle
            cases look x.d.now kk <;> rfl
          clear hkcell hkk HC B hteq hstep htl' hx' hdl' hbb' hte hek hen e3 htl hnl
          generalize settle x.d.now m'.t kk = ST at *
          generalize (look x.d.now kk).getD ⟨#[]⟩ = V at *
          generalize (look x.d.now kk).isSome = TH at *
          generalize tdrop m'.t kk = TD at *
          have HPv := hidC' (HPu.out V)
          clear HPu
          generalize tput m'.t kk V = TP at *
          generalize m'.t.length = TL at *
          go_wp2
          go_quiet ((go_at_call 61; exact Calls.quiet_of_same (HTg.out _ (quiet_drewN _ _))))
          have hqn : Quiet wr (wr.drewN nq) := quiet_drewN _ _
          cases TH with
          | true =>
            have e9 : ST = TP := HSe.out
            subst e9
            clear HSe HDr HTg
            go_wp2
            go_region_with (go_at_call 28; refine (HPv.out _ (quiet_drewN _ _)).mono ?_; rintro e w7 ⟨a', c', rfl, hP7, hq7, ⟨u7, z1⟩, z3⟩)
            all_goals
              obtain ⟨m1, hC1⟩ := HSet.out _ _ hq7.out hP7.out
              have HC1 := hidC' hC1
              clear hC1 HSet HPv z1 z3
              go_wp2
              exact ⟨⟨j + 1, m1, by go_num, by omega, HC1⟩, by simp [intOf]; omega⟩
          | false =>
            have e9 : ST = TD := HSe.out
            subst e9
            clear HSe HPv HTg
            go_wp2
            go_region_with (go_at_call 81; refine (HDr.out _ (quiet_drewN _ _)).mono ?_; rintro e w7 ⟨a', c', rfl, hP7, hq7, ⟨u7, z1⟩, z3⟩)
            all_goals
              obtain ⟨m1, hC1⟩ := HSet.out _ _ hq7.out hP7.out
              have HC1 := hidC' hC1
              clear hC1 HSet HDr z1 z3
              go_wp2
              exact ⟨⟨j + 1, m1, by go_num, by omega, HC1⟩, by simp [intOf]; omega⟩
        · have hjge : ¬ (j : Int) < (x.d.keys.length : Int) := by omega
          have hT : x.d.keys.take j = x.d.keys := List.take_of_length_le (by omega)
          rw [hT] at HC
          obtain ⟨g', a5, c5, cap', W5, D5⟩ := HC.out.mem.doneK hx' HX0.out.2 (by rw [HC.out.eq]; exact hcl)
          have hcm' : m'.commits = m.commits := by rw [HC.out.eq]
          obtain ⟨tag, B, -⟩ := HC.out.mem.bk
          obtain ⟨ac', cc', hcve, -⟩ := B.commitsAt
          have t3 := B.cell.2.2.2
          have hbr := lt_of_heap B.own
          have happ := D5.app
          have q3 := D5.cell
          have z3 := D5.frz
          have q1 := D5.cell1
          have q0 := D5.cell0
          have z0 := D5.frz0
          rw [hcve, hcm', hek] at happ
          rw [hcve, hcm', hbb'] at t3 q3
          rw [hbb'] at z3 hbr
          rw [hbb', hcm', hdl'] at q1
          rw [hbb', hcm', HX0.out.2] at q0
          rw [hbb', hcm'] at z0
          have hMF := D5.mem
          have hNF := D5.nx
          rw [hbb', hcm'] at hMF hNF
          have HF := hidC' (And.intro hMF hNF)
          change (heldAppend2 #[36, 36] 36 #[.slice ac' m.commits.length cc', .slice (some ⟨wr.heap.size, 0, none⟩) 1 1]).run Tryz.prog _ = _ at happ
          have hbn : m.bb ≠ wr.heap.size := by omega
          have hdn : dd ≠ wr.heap.size := by omega
          have HBk : Hid ((m'.done i x (.slice a5 (m.commits.length + 1) c5)).bk = m.bk.done ((i : Int) + 1) x.d) := by
            rw [Hid, HC.out.eq]
            unfold MBk.done MBk.bk Bk.done Bk.off
            simp only [List.map_append, List.map_cons, List.map_nil, Bk.mk.injEq, and_true]
            rw [show ((i : Int) + 1 - 1).toNat = i by omega]
            exact map_set_off HX0.out.1
          have HNx := hidC' (HNA.out.trans HC.out.nx)
          clear hMF hNF D5 B hcve hcm' hx' hdl' hbb' hek hen hT hkc
          go_wp2
          go_region
          go_wp2
          go_ret
          exact ⟨rfl, s2, _, HF.out.1, HNx.out.trans HF.out.2, HN.out.2, HBk.out⟩

end
end Go.Proofs.YthfimgeopciiiaaGreat
