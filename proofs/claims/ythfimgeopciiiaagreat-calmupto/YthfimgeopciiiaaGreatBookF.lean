/-
  A step of the book.
-/
import Derived.Test.YthfimgeopciiiaaGreatBookV
import Derived.Test.YthfimgeopciiiaaGreatScript
namespace Go.Proofs.YthfimgeopciiiaaGreat
open Go.MapKept Go.ChangeMaps Go.Maps Go.RowKit Go.MuLone
set_option linter.unusedVariables false

theorem info_deal : (Tryz.prog.info? 117).map (fun i => (i.zero, i.size, i.bytes)) = some (some (.agg #[.bool false, .int .i64 0, .slice none 0 0, .slice none 0 0]), 4, 64) := by kernel_rfl

/-- one deal more -/
structure PushK (w W : World) (s : Sto) (m : MBk) (bg : Int) (a5 : Option Addr) (c5 : Nat) (W5 : World) : Prop where
  app : (Builtin.append_ #[33, 33] 33 #[m.dv, .slice (some ⟨W.heap.size, 0, none⟩) 1 1]).run Tryz.prog (W.alloc (.cells #[.bool true, .int .i64 bg, m.tv, .slice none 0 0] 117)).drew = .ok (.slice a5 (m.deals.length + 1) c5) W5
  cell : W5.cell? ⟨m.bb, 1, none⟩ = some m.dv
  frz : W5.frozen? ⟨m.bb, 1, none⟩ = false
  cell1 : (W5.setCell ⟨m.bb, 1, none⟩ (.slice a5 (m.deals.length + 1) c5)).cell? ⟨m.bb, 1, none⟩ = some (.slice a5 (m.deals.length + 1) c5)
  mem : Mem w (W5.setCell ⟨m.bb, 1, none⟩ (.slice a5 (m.deals.length + 1) c5)) s (m.push (.slice a5 (m.deals.length + 1) c5) bg)
  nx : Nx W (W5.setCell ⟨m.bb, 1, none⟩ (.slice a5 (m.deals.length + 1) c5)) s s m (m.push (.slice a5 (m.deals.length + 1) c5) bg)

set_option maxRecDepth 100000 in
theorem Mem.pushK {w W : World} {s : Sto} {m : MBk} (M : Mem w W s m) (bg : Int) (hl : m.deals.length ≤ 1099511627776) : ∃ a5 c5 W5, PushK w W s m bg a5 c5 W5 := by
  obtain ⟨i0, hi0, hz0, hz1, hz2⟩ := info_parts info_deal
  have hq2 : Quiet W ((W.alloc (.cells #[.bool true, .int .i64 bg, m.tv, .slice none 0 0] 117)).drew) := Quiet.trans' (Keeps.alloc _ _) (Keeps.drew _)
  have hnew : (W.alloc (.cells #[.bool true, .int .i64 bg, m.tv, .slice none 0 0] 117)).drew.heap[W.heap.size]? = some (.cells #[.bool true, .int .i64 bg, m.tv, .slice none 0 0] 117) := heap_alloc_new W _
  have hsz : ((W.alloc (.cells #[.bool true, .int .i64 bg, m.tv, .slice none 0 0] 117)).drew).heap.size = W.heap.size + 1 := by simp
  have hs := M.quiet.size
  generalize hw2 : (W.alloc (.cells #[.bool true, .int .i64 bg, m.tv, .slice none 0 0] 117)).drew = w2 at *
  have M2 := M.still hq2
  obtain ⟨tag, B, h4⟩ := M2.bk
  have hown := B.dl
  obtain ⟨at_, ct, htv, -⟩ := B.tb.at
  have hnews : ∀ j u, [.bool true, .int .i64 bg, m.tv, .slice none 0 0][j]? = some u → w2.cell? ((⟨W.heap.size, 0, none⟩ : Addr).add j) = some u := fun j u hj => by
    rw [show (⟨W.heap.size, 0, none⟩ : Addr).add j = ⟨W.heap.size, j, none⟩ by cases j <;> simp [Addr.add], cell_of_heap hnew]
    simpa using hj
  obtain ⟨v', w5, happ, hown', hgrow, hnil, hat⟩ := run_append_own_at (P := Tryz.prog) w2 w.heap.size 33 33 117 i0 _ 4 64 Tryz.underlying33 hi0 hz0 hz1 hz2 (by kernel_rfl) (by omega) m.dv _ _ hown
    ⟨W.heap.size, 0, none⟩ 1 1 [.bool true, .int .i64 bg, m.tv, .slice none 0 0] rfl hnews (by rw [htv]; simp [Value.oneCell']) (by simp [maxLen]; omega) (by omega) (by omega)
  obtain ⟨a5, c5, hv5⟩ : ∃ a5 c5, v' = .slice a5 (m.deals.length + 1) c5 := by
    rcases hown'.2 with ⟨_, h0⟩ | ⟨g, cap, cur, e, _⟩
    · omega
    · exact ⟨_, cap, e⟩
  subst hv5
  have hbk : m.dv.ownBlock ≠ some m.bb := fun e => by have h1 := B.gd _ e; have h2 := B.gb; omega
  have hbl : m.bb < w2.heap.size := lt_of_heap B.own
  have hblb : w5.heap[m.bb]? = w2.heap[m.bb]? := hgrow.block _ hbl (fun e => hbk e.symm)
  have own5 := hblb.trans B.own
  have hs5 := heap_setCell_same (i := 1) (v := Value.slice a5 (m.deals.length + 1) c5) own5
  obtain ⟨M5, N5⟩ := M.push hq2 hgrow hown' (fun b hb => by
    rcases hat with h | h
    · exact .inl (by rw [← h]; exact hb)
    · rw [h] at hb; exact .inr (by have := Option.some.inj hb; omega))
  refine ⟨a5, c5, w5, ⟨by rw [hw2]; exact happ, ?_, frozen_of_heap own5, ?_, M5, N5⟩⟩
  · rw [cell_of_heap own5]; rfl
  · rw [cell_of_heap hs5]; rfl

/-! ### the logic -/

/-- no one has committed behind the clock -/
def Cms (a : Abs) : Prop := ∀ t ∈ a.txs, t.cm ≤ a.clock

section
variable {a a' : Abs} {n : Int}
theorem Cms.without (C : Cms a) (h : Int) : Cms (a.without h) := fun t ht => C t (List.mem_filter.1 ht).1
theorem Cms.mapT (C : Cms a) (f : Tx → Tx) (hf : ∀ t, (f t).cm = t.cm) : Cms { a with txs := a.txs.map f } := fun t ht => by
  obtain ⟨u, hu, rfl⟩ := List.mem_map.1 ht
  rw [hf]; exact C u hu
theorem Cms.readR (C : Cms a) (t : Tx) (e : Ent) : Cms (a.readR t e).2 := by
  unfold Abs.readR
  split
  · exact C
  · split
    · exact C.without _
    · exact C.mapT _ (fun _ => rfl)
theorem Cms.getR (C : Cms a) (h : Int) (k : ByteArray) : Cms (a.getR h k).2 := by
  unfold Abs.getR
  cases a.act? h with
  | none => exact C
  | some t =>
    simp only
    split
    · exact C
    · cases look t.wr k with
      | some c => exact C
      | none =>
        simp only
        split <;> exact C.readR t _
theorem Cms.scanR (C : Cms a) (h : Int) (lo hi : ByteArray) : Cms (a.scanR h lo hi).2 := by
  unfold Abs.scanR
  cases a.act? h with
  | none => exact C
  | some t =>
    simp only
    split
    · exact C
    · split <;> exact C.readR t _
theorem Cms.writeR (C : Cms a) (h : Int) (cs : List Chg) : Cms (a.writeR h cs).2 := by
  unfold Abs.writeR
  cases a.act? h with
  | none => exact C
  | some t =>
    simp only
    split
    · exact C
    · split
      · exact C
      · split
        · exact C.without _
        · split
          · exact C.without _
          · exact C.mapT _ (fun _ => rfl)
theorem Cms.abortR (C : Cms a) (h : Int) : Cms (a.abortR h).2 := by
  unfold Abs.abortR
  cases a.act? h with
  | none => exact C
  | some t => exact C.without _
theorem Cms.beginR (C : Cms a) (I : a.Inv n) : Cms a.beginR.2 := by
  unfold Abs.beginR
  split
  · exact C
  · intro t ht
    rcases List.mem_append.1 ht with h | h
    · exact C t h
    · simp at h; subst h; exact I.clock.1
theorem Cms.clean {m : Int} (C : Cms a) (D : CleanIs a m a') : Cms a' := fun t ht => by
  rw [D.txs] at ht
  rw [D.clock]
  exact C t (List.mem_filter.1 ht).1
theorem Cms.comm {t : Tx} (C : Cms a) (D : CommIs a t a') : Cms a' := fun x hx => by
  rw [D.txs, commA_txs] at hx
  obtain ⟨u, hu, rfl⟩ := List.mem_map.1 hx
  have := C u hu
  rw [D.clock]
  unfold commX
  split
  · exact Int.le_refl _
  · omega
end

/-- a store and its book, of plain data -/
structure Log (n : Int) (a : Abs) (B : Bk) : Prop where
  inv : a.Inv n
  is : ∃ M, BkIs a B M
  bud : ∀ d ∈ B.deals, (d.keys.length : Int) ≤ n * 1048576
  cms : Cms a

/-- what a step makes of the store -/
structure StepA (a : Abs) (o : StepD) (h : Int) (a' : Abs) : Prop where
  cfg : CfgEq a' a
  one : o.kind = 1 → a' = a.beginR.2
  two : o.kind = 2 → a' = (a.getR h o.key).2
  three : o.kind = 3 → a' = (a.scanR h o.key o.hi).2
  six : o.kind = 6 → a' = (a.abortR h).2

section
variable {a a' : Abs} {B B' : Bk} {n M : Int}

theorem Log.n0 (L : Log n a B) : 0 ≤ n := by have := L.inv.clock; omega
theorem Log.len (L : Log n a B) : (B.deals.length : Int) ≤ n ∧ (B.commits.length : Int) ≤ n := by
  obtain ⟨M, K⟩ := L.is
  exact ⟨by rw [K.len]; exact L.inv.begun.2, by rw [K.clk]; exact L.inv.clock.2⟩

theorem off_keys {d : Deal} {h : Int} (hd : d ∈ (B.off h).deals) : ∃ d0 ∈ B.deals, d.keys = d0.keys := by
  obtain ⟨i, hi, e⟩ := List.mem_iff_getElem.1 hd
  have h1 : (B.off h).deals[i]? = some d := by rw [List.getElem?_eq_getElem hi, e]
  unfold Bk.off at h1
  rw [modify_at] at h1
  cases hb : B.deals[i]? with
  | none => rw [hb] at h1; simp at h1
  | some d0 =>
    refine ⟨d0, List.mem_of_getElem? hb, ?_⟩
    rw [hb] at h1
    split at h1
    · rw [← Option.some.inj h1]
    · rw [← Option.some.inj h1]

theorem Log.of_same (L : Log n a B) (I : a'.Inv (n + 1)) (K : BkIs a' B M) (C : Cms a') : Log (n + 1) a' B :=
  ⟨I, ⟨M, K⟩, fun d hd => by have := L.bud d hd; omega, C⟩

theorem Log.of_off (L : Log n a B) (I : a'.Inv (n + 1)) (h : Int) (K : BkIs a' (B.off h) M) (C : Cms a') : Log (n + 1) a' (B.off h) :=
  ⟨I, ⟨M, K⟩, fun d hd => by
    obtain ⟨d0, h0, e⟩ := off_keys hd
    have := L.bud d0 h0
    rw [e]; omega, C⟩

theorem Log.of_after (L : Log n a B) (I : a'.Inv (n + 1)) (h e : Int) (K : BkIs a' (B.after h e) M) (C : Cms a') : Log (n + 1) a' (B.after h e) := by
  unfold Bk.after at *
  by_cases h8 : e = 8
  · rw [if_pos h8] at K ⊢; exact L.of_off I h K C
  · rw [if_neg h8] at K ⊢; exact L.of_same I K C

theorem Log.get (L : Log n a B) (h : Int) (k : ByteArray) : Log (n + 1) (a.getR h k).2 (B.after h (a.getR h k).1.2.2) := by
  obtain ⟨M, K⟩ := L.is
  exact L.of_after ((L.inv.getR h k).mono (by omega)) _ _ (K.getR L.inv h k) (L.cms.getR h k)

theorem Log.scan (L : Log n a B) (h : Int) (lo hi : ByteArray) : Log (n + 1) (a.scanR h lo hi).2 (B.after h (a.scanR h lo hi).1.1) := by
  obtain ⟨M, K⟩ := L.is
  exact L.of_after ((L.inv.scanR h lo hi).mono (by omega)) _ _ (K.scanR L.inv h lo hi) (L.cms.scanR h lo hi)

theorem Log.write (L : Log n a B) (h : Int) (cs : List Chg) (hcs : cs.length ≤ 1048576) : Log (n + 1) (a.writeR h cs).2 (B.afterW h (a.writeR h cs).1 cs) := by
  obtain ⟨M, K⟩ := L.is
  have I := (L.inv.writeR h cs).mono (show n ≤ n + 1 by omega)
  have K' := K.writeR L.inv h cs
  have C := L.cms.writeR h cs
  unfold Bk.afterW at *
  split at K'
  · rename_i h7; rw [if_pos h7]; exact L.of_off I h K' C
  · rename_i h7
    rw [if_neg h7]
    split at K'
    · rename_i h8; rw [if_pos h8]; exact L.of_off I h K' C
    · rename_i h8
      rw [if_neg h8]
      split at K'
      · rename_i h0
        rw [if_pos h0]
        refine ⟨I, ⟨M, K'⟩, fun d hd => ?_, C⟩
        obtain ⟨i, hi, e⟩ := List.mem_iff_getElem.1 hd
        have h1 : (B.wrote h cs).deals[i]? = some d := by rw [List.getElem?_eq_getElem hi, e]
        unfold Bk.wrote at h1
        rw [modify_at] at h1
        cases hb : B.deals[i]? with
        | none => rw [hb] at h1; simp at h1
        | some d0 =>
          have := L.bud d0 (List.mem_of_getElem? hb)
          rw [hb] at h1
          split at h1
          · rw [← Option.some.inj h1]
            simp only [List.length_append, List.length_map]
            omega
          · rw [← Option.some.inj h1]; omega
      · rename_i h0; rw [if_neg h0]; exact L.of_same I K' C

theorem Log.abort (L : Log n a B) (h : Int) : Log (n + 1) (a.abortR h).2 (if (a.act? h).isSome then B.off h else B) := by
  obtain ⟨M, K⟩ := L.is
  have I := (L.inv.abortR h).mono (show n ≤ n + 1 by omega)
  have C := L.cms.abortR h
  unfold Abs.abortR at *
  cases ha : a.act? h with
  | none => rw [ha] at I; exact L.of_same I K L.cms
  | some t =>
    rw [ha] at I C
    obtain ⟨hm, hj, _⟩ := act_mem' ha
    exact L.of_off I h (K.without L.inv h (by rw [← hj]; exact (L.inv.hs t hm).1)) C

theorem Log.begin (L : Log n a B) (hroom : ¬ a.c1 ≤ a.txs.length) : Log (n + 1) a.beginR.2 ⟨B.deals ++ [⟨true, B.commits.length, B.t, []⟩], B.t, B.commits⟩ := by
  obtain ⟨M, K⟩ := L.is
  have h0 := L.n0
  refine ⟨L.inv.beginR, ⟨M, K.begin L.inv hroom⟩, fun d hd => ?_, L.cms.beginR L.inv⟩
  rcases List.mem_append.1 hd with hd | hd
  · have := L.bud d hd; omega
  · simp at hd; subst hd; simp; omega

theorem Log.full (L : Log n a B) (hroom : a.c1 ≤ a.txs.length) : Log (n + 1) a.beginR.2 B := by
  obtain ⟨M, K⟩ := L.is
  have I := L.inv.beginR
  have e : a.beginR.2 = a := by unfold Abs.beginR; rw [if_pos hroom]
  rw [e] at I ⊢
  exact L.of_same I K L.cms

theorem Log.clean (L : Log n a B) {m : Int} (C : CleanIs a m a') : Log (n + 1) a' B := by
  obtain ⟨M, K⟩ := L.is
  exact L.of_same ((L.inv.clean C).mono (by omega)) (K.clean L.inv C) (L.cms.clean C)

theorem Log.comm (L : Log n a B) {t : Tx} (ht : t ∈ a.txs) (hc : t.cm = 0) {d : Deal} (hd : B.deals[(t.h - 1).toNat]? = some d) (hD : DealIs a t d) (hroom : (totV a.vers : Int) + t.wr.length ≤ a.c4) (C : CommIs a t a') : Log (n + 1) a' (B.done t.h d) := by
  obtain ⟨M, K⟩ := L.is
  refine ⟨L.inv.comm ht hroom C, ⟨M, K.comm L.inv ht hc hd hD C⟩, fun e he => ?_, L.cms.comm C⟩
  obtain ⟨d0, h0, e1⟩ := off_keys (h := t.h) he
  have := L.bud d0 h0
  rw [e1]; omega

end
end Go.Proofs.YthfimgeopciiiaaGreat

/-
  A step of the book: the walk.
-/
namespace Go.Proofs.YthfimgeopciiiaaGreat
open Go.MapKept Go.ChangeMaps Go.Maps Go.RowKit Go.MuLone
set_option linter.unusedVariables false

/-- what a step leaves -/
structure SOut (w W W' : World) (s : Sto) (m : MBk) (n : Int) (o : StepD) : Prop where
  ex : ∃ (s' : Sto) (m' : MBk) (h : Int), Mem w W' s' m' ∧ Nx W W' s s' m m' ∧ Log (n + 1) s'.abs m'.bk ∧ (0 ≤ h ∧ h ≤ m.deals.length) ∧ (0 ≤ o.t → o.t ≤ m.deals.length → h = o.t) ∧ StepA s.abs o h s'.abs

def heldAppend3 (ats : Array TypeId) (ty : TypeId) (args : Array Value) : Sem Value := Builtin.append_ ats ty args
theorem append_held3 (ats : Array TypeId) (ty : TypeId) (cs : Array Bool) (args : Array Value) : builtin .append ats ty cs args = (do pure (.value (← heldAppend3 ats ty args))) := rfl
theorem append_eq3 (ats : Array TypeId) (ty : TypeId) (args : Array Value) : Builtin.append_ ats ty args = heldAppend3 ats ty args := rfl
attribute [local go_sem ↓ high] append_held3 append_eq3

section
variable {w W WA : World} {s : Sto} {m : MBk} {n : Int} {o : StepD}

theorem SOut.of {W' : World} {a' : Abs} {B' : Bk} {h : Int} (k : Quiet W WA) (Lf : BLeft w WA W' s m a' B') (L : Log (n + 1) a' B') (hh : 0 ≤ h ∧ h ≤ m.deals.length) (ht : 0 ≤ o.t → o.t ≤ m.deals.length → h = o.t) (A : StepA s.abs o h a') : SOut w W W' s m n o := by
  obtain ⟨s', m', h1, h2, h3, h4⟩ := Lf.ex
  exact ⟨s', m', h, h1, (Nx.quiet s m k).trans h2, by rw [h3, h4]; exact L, hh, ht, by rw [h3]; exact A⟩

theorem writes_h {M : Int} (Mm : Mem w W s m) (I : s.abs.Inv n) (K : BkIs s.abs m.bk M) (h : Int) (hh : 0 ≤ h ∧ h ≤ m.deals.length) (hlen : m.deals.length ≤ 1099511627776) (hcl : m.commits.length ≤ 1099511627776) (v : Value) (cs : List Chg) (hch : ChAt w v cs) (hlb : ∀ b, heldBlock v = some b → b < w.heap.size) (hcs : cs.length ≤ 1048576) (hbud : ∀ (i : Nat) (x : MDeal), m.deals[i]? = some x → x.d.keys.length ≤ 2199023255552) :
    Calls Tryz.prog 46 #[.pointer (some ⟨m.bb, 0, none⟩), .int .i64 h, v] W fun e w' => e = .returned (.bool true) ∧ BLeft w W w' s m (s.abs.writeR h cs).2 (m.bk.afterW h (s.abs.writeR h cs).1 cs) := by
  cases ha : s.abs.act? h with
  | none =>
    have e : s.abs.writeR h cs = (2, s.abs) := by unfold Abs.writeR; rw [ha]
    rw [e]
    exact writes_no Mm I K h hh hlen v cs hch hlb ha
  | some t =>
    obtain ⟨i, x, rfl, hx, D, hact, htm, hcm, hth, H⟩ := writeH Mm I K hlen hcl v cs hch hlb ha
    have c0 : W.cell? ⟨m.bb, 0, none⟩ = some (.pointer (some ⟨s.sb, 0, none⟩)) := by obtain ⟨tag, B, -⟩ := Mm.bk; rw [← Mm.sb]; exact B.cell.1
    have hW : ∀ r, s.abs.writeR ((i : Int) + 1) cs = r → r = s.abs.writeR ((i : Int) + 1) cs := fun r h => h.symm
    by_cases e1 : changesE cs ≠ 0
    · have er : s.abs.writeR ((i : Int) + 1) cs = (changesE cs, s.abs) := by unfold Abs.writeR; rw [ha]; simp only; rw [if_pos e1]
      have h78 : changesE cs ≠ 7 ∧ changesE cs ≠ 8 := by rcases changesE_ne cs with h | h | h <;> rw [h] <;> decide
      have := writes_bad H e1 (by rw [er]) (hch.quiet Mm.quiet) c0
      rw [er] at this ⊢
      rw [Bk.afterW, if_neg h78.1, if_neg h78.2, if_neg e1]
      exact this
    · have e1' : changesE cs = 0 := by simpa using e1
      by_cases e2 : s.abs.c3 < t.keysWith cs
      · have er : s.abs.writeR ((i : Int) + 1) cs = (6, s.abs) := by unfold Abs.writeR; rw [ha]; simp only; rw [if_neg e1, if_pos e2]
        rw [er] at H ⊢
        exact writes_six H e1' (hch.quiet Mm.quiet)
      · by_cases e3 : s.abs.clash t cs = true
        · have er : s.abs.writeR ((i : Int) + 1) cs = (7, s.abs.without ((i : Int) + 1)) := by unfold Abs.writeR; rw [ha]; simp only; rw [if_neg e1, if_neg e2, if_pos e3]
          rw [er] at H ⊢
          exact writes_gone H (.inl ⟨rfl, e3⟩) hx hact hlen e1' (hch.quiet Mm.quiet)
        · have e3' : s.abs.clash t cs = false := by simpa using e3
          by_cases e4 : s.abs.okW t cs = false
          · have er : s.abs.writeR ((i : Int) + 1) cs = (8, s.abs.without ((i : Int) + 1)) := by unfold Abs.writeR; rw [ha]; simp only; rw [if_neg e1, if_neg e2, if_neg e3, if_pos e4]
            rw [er] at H ⊢
            exact writes_gone H (.inr ⟨rfl, e3'⟩) hx hact hlen e1' (hch.quiet Mm.quiet)
          · have er : s.abs.writeR ((i : Int) + 1) cs = (0, s.abs.writeA t cs) := by unfold Abs.writeR; rw [ha]; simp only; rw [if_neg e1, if_neg e2, if_neg e3, if_neg e4]
            rw [er] at H ⊢
            rw [e3'] at H
            exact writes_zero H hx hact hlen (D.len I htm) hcs (hbud i x hx) e1' hch Mm.quiet

/-- what Commit leaves, whole -/
structure COut (w W W' : World) (s : Sto) (m : MBk) (n : Int) : Prop where
  ex : ∃ s' m', Mem w W' s' m' ∧ Nx W W' s s' m m' ∧ Log (n + 1) s'.abs m'.bk ∧ CfgEq s'.abs s.abs

theorem bcommit_h (Mm : Mem w W s m) (L : Log n s.abs m.bk) (hn : n < 2305843009213693952) (h : Int) (hh : 0 ≤ h ∧ h ≤ m.deals.length) (hlen : m.deals.length ≤ 1099511627776) (hcl : m.commits.length ≤ 1099511627776) (hbud : ∀ (i : Nat) (x : MDeal), m.deals[i]? = some x → x.d.keys.length ≤ 2199023255552) :
    Calls Tryz.prog 47 #[.pointer (some ⟨m.bb, 0, none⟩), .int .i64 h] W fun e w' => e = .returned (.bool true) ∧ COut w W w' s m n := by
  obtain ⟨M, K⟩ := L.is
  have I := L.inv
  by_cases h0 : (s.abs.commR h).1 ≠ 0
  · refine (commit_no' Mm I hn K h hh hlen h0).mono fun e w' ⟨e1, e2⟩ => ⟨e1, ?_⟩
    obtain ⟨s', m', q1, q2, q3, q4⟩ := e2.ex
    rcases commR_ends s.abs h with ⟨ha, hr⟩ | ⟨t, ha, hr | hr | ⟨hr, -⟩⟩
    · have e3 : s'.abs = s.abs := by have := q3.no (by rw [hr]); rw [hr] at this; exact this
      refine ⟨s', m', q1, q2, ?_, by rw [e3]; exact ⟨rfl, rfl, rfl, rfl⟩⟩
      rw [e3, q4, hr]
      exact L.of_same (I.mono (by omega)) K L.cms
    · have e3 : s'.abs = s.abs.without h := by have := q3.no (by rw [hr]); rw [hr] at this; exact this
      refine ⟨s', m', q1, q2, ?_, by rw [e3]; exact ⟨rfl, rfl, rfl, rfl⟩⟩
      rw [e3, q4, hr]
      obtain ⟨_, _, _, h1, _⟩ := K.act_some I ha
      exact L.of_off ((I.without h).mono (by omega)) h (K.without I h h1) (L.cms.without h)
    · have e3 : s'.abs = s.abs := by have := q3.no (by rw [hr]); rw [hr] at this; exact this
      refine ⟨s', m', q1, q2, ?_, by rw [e3]; exact ⟨rfl, rfl, rfl, rfl⟩⟩
      rw [e3, q4, hr]
      exact L.of_same (I.mono (by omega)) K L.cms
    · rw [hr] at h0; exact absurd rfl h0
  · rcases commR_ends s.abs h with ⟨ha, hr⟩ | ⟨t, ha, hr | hr | ⟨hr, hroom⟩⟩
    · rw [hr] at h0; exact absurd (show (2 : Int) ≠ 0 by decide) h0
    · rw [hr] at h0; exact absurd (show (8 : Int) ≠ 0 by decide) h0
    · rw [hr] at h0; exact absurd (show (6 : Int) ≠ 0 by decide) h0
    · obtain ⟨i, x, rfl, hx, D, hact, htm, hcm, hth⟩ := deal_at K I ha
      have hb0 := I.bgs t htm
      have hcc : (m.commits.length : Int) = s.abs.clock := by have := K.clk; simpa [MBk.bk] using this
      have c0 : W.cell? ⟨m.bb, 0, none⟩ = some (.pointer (some ⟨s.sb, 0, none⟩)) := by obtain ⟨tag, B, -⟩ := Mm.bk; rw [← Mm.sb]; exact B.cell.1
      have H : CmH w W s m i x (s.abs.commR ((i : Int) + 1)) := ⟨by
        have := commit_api Mm.st Mm.mu I hn _ (wf_h hh hlen)
        rw [show (s.abs.commR ((i : Int) + 1)).1 = 0 by rw [hr]] at this
        refine this.mono fun e w' ⟨s', e1, e2, e3⟩ => ?_
        obtain ⟨M1, N1⟩ := Mm.turn e2
        exact ⟨s', e1, M1, N1, e3⟩⟩
      refine (commit_yes H c0 hx hact hlen hcl (by rw [K.actB I, ha]; rfl) t.bg.toNat (by rw [D.bg]; omega) (by omega) (D.len I htm) (K.t_len I) D.sorted K.sorted (by have := hbud i x hx; omega) ?_).mono fun e w' ⟨e1, e2⟩ => ⟨e1, ?_⟩
      · intro r q hq hb k hk
        have h1 : (look t.wr k).isSome = true := by
          rw [← D.keys k]
          unfold hasB
          rw [List.any_eq_true]
          exact ⟨k, hk, by simp⟩
        have h2 := K.fresh t htm hcm k h1
        rw [K.newer k t.bg (K.Ma t htm hcm)] at h2
        cases hz : hasB q.1 k with
        | false => rfl
        | true =>
          have := laterB_true (cs := m.bk.commits) (b := t.bg) (j := r) (q := q.1) (by simp only [MBk.bk, List.getElem?_map, hq, Option.map_some]) (by omega) hz
          rw [h2] at this; cases this
      · obtain ⟨s', m', q1, q2, q3, q4⟩ := e2.ex
        have C := q3.yes t (by rw [hr])
        refine ⟨s', m', q1, q2, ?_, ⟨C.c1, C.c2, C.c3, C.c4⟩⟩
        rw [q4, ← hth]
        refine L.comm htm hcm ?_ D hroom C
        rw [hth]
        simp only [MBk.bk, List.getElem?_map]
        rw [show ((i : Int) + 1 - 1).toNat = i by omega, hx]
        rfl

set_option maxRecDepth 100000 in
set_option maxHeartbeats 4000000 in
/-- one begins -/
theorem stepBegin_h (Mm : Mem w W s m) (L : Log n s.abs m.bk) (hn : n ≤ 2097152) (t : Int) (key hi : ByteArray) (la : Option Addr) (lcap : Nat) (cs : List Chg) (hlen : m.deals.length ≤ 1099511627776)
    (HH : Calls Tryz.prog 43 #[.pointer (some ⟨m.bb, 0, none⟩), .int .i64 t] WA fun e w' => ∃ h : Int, e = .returned (.int .i64 h) ∧ Hid ((0 ≤ h ∧ h ≤ m.deals.length) ∧ (0 ≤ t → t ≤ m.deals.length → h = t)) ∧ w' = WA) (hWA : W.alloc (.cells #[.int .i64 1, .int .i64 t, .string key, .string hi, .slice la cs.length lcap] 48) = WA) :
    Calls Tryz.prog 18 #[.pointer (some ⟨m.bb, 0, none⟩), .agg #[.int .i64 1, .int .i64 t, .string key, .string hi, .slice la cs.length lcap]] W fun e w' => e = .returned (.bool true) ∧ SOut w W w' s m n ⟨1, t, key, hi, .slice la cs.length lcap, cs⟩ := by
  have hqA : Quiet W WA := by rw [← hWA]; exact Keeps.alloc _ _
  have MA := Mm.still hqA
  have I := L.inv
  obtain ⟨M, K⟩ := L.is
  have SA : ∀ h, StepA s.abs ⟨1, t, key, hi, .slice la cs.length lcap, cs⟩ h s.abs.beginR.2 := fun h => ⟨beginR_cfg _, fun _ => rfl, fun e => absurd e (by decide : ¬ (1 : Int) = 2), fun e => absurd e (by decide : ¬ (1 : Int) = 3), fun e => absurd e (by decide : ¬ (1 : Int) = 6)⟩
  have c0 : WA.cell? ⟨m.bb, 0, none⟩ = some (.pointer (some ⟨s.sb, 0, none⟩)) := by obtain ⟨tag, B, -⟩ := MA.bk; rw [← MA.sb]; exact B.cell.1
  have hcc : (m.commits.length : Int) = s.abs.clock := by have := K.clk; simpa [MBk.bk] using this
  have hdl : (m.deals.length : Int) = s.abs.begun := by have := K.len; simpa [MBk.bk] using this
  have HBg := begin_api MA.st MA.mu I (show n < 2305843009213693952 by omega)
  have HHd := hidC HH
  by_cases hroom : s.abs.c1 ≤ s.abs.txs.length
  · have er : s.abs.beginR.1 = (0, 6) := by unfold Abs.beginR; rw [if_pos hroom]
    rw [er] at HBg
    have HB : Hid (Calls Tryz.prog 26 #[.pointer (some ⟨s.sb, 0, none⟩)] WA fun e w' => e = .returned (.tuple #[.int .i64 0, .int .i64 6]) ∧ ∀ h : Int, (0 ≤ h ∧ h ≤ m.deals.length) ∧ (0 ≤ t → t ≤ m.deals.length → h = t) → SOut w W w' s m n ⟨1, t, key, hi, .slice la cs.length lcap, cs⟩) := HBg.mono fun e w' ⟨s', e1, e2, e3⟩ => by
      obtain ⟨M1, N1⟩ := MA.turn e2
      exact ⟨e1, fun h hh => ⟨s', m, h, M1, (Nx.quiet s m hqA).trans N1, by rw [e3]; exact L.full hroom, hh.1, hh.2, by rw [e3]; exact SA h⟩⟩
    subst hWA
    clear Mm L K I MA hqA SA HBg HH hcc hdl
    go_enter Tryz.func18, Tryz.ntmps18
    go_wp2_with (first
      | (go_at_call 43; refine HHd.out.mono ?_; rintro e w2 ⟨h, rfl, hh, rfl⟩)
      | (go_at_call 26; refine HB.out.mono ?_; rintro e w3 ⟨rfl, hO⟩; have HO := hidC' (hO _ hh.out); clear hO))
    go_ret
    exact ⟨rfl, HO.out⟩
  · have er : s.abs.beginR.1 = ((m.deals.length : Int) + 1, 0) := by unfold Abs.beginR; rw [if_neg hroom, hdl]
    rw [er] at HBg
    have HB : Hid (Calls Tryz.prog 26 #[.pointer (some ⟨s.sb, 0, none⟩)] WA fun e w' => e = .returned (.tuple #[.int .i64 ((m.deals.length : Int) + 1), .int .i64 0]) ∧ ∃ (ad : Option Addr) (cd : Nat) (at_ : Option Addr) (lt ct : Nat) (acm : Option Addr) (ccm : Nat) (a5 : Option Addr) (c5 : Nat) (W5 : World),
        (heldAppend3 #[33, 33] 33 #[.slice ad m.deals.length cd, .slice (some ⟨w'.heap.size, 0, none⟩) 1 1]).run Tryz.prog (w'.alloc (.cells #[.bool true, .int .i64 m.commits.length, .slice at_ lt ct, .slice none 0 0] 117)).drew = .ok (.slice a5 (m.deals.length + 1) c5) W5 ∧
        w'.cell? ⟨m.bb, 1, none⟩ = some (.slice ad m.deals.length cd) ∧ w'.cell? ⟨m.bb, 2, none⟩ = some (.slice at_ lt ct) ∧ w'.cell? ⟨m.bb, 3, none⟩ = some (.slice acm m.commits.length ccm) ∧ m.bb < w'.heap.size ∧ W5.cell? ⟨m.bb, 1, none⟩ = some (.slice ad m.deals.length cd) ∧ W5.frozen? ⟨m.bb, 1, none⟩ = false ∧
        (W5.setCell ⟨m.bb, 1, none⟩ (.slice a5 (m.deals.length + 1) c5)).cell? ⟨m.bb, 1, none⟩ = some (.slice a5 (m.deals.length + 1) c5) ∧ ∀ h : Int, (0 ≤ h ∧ h ≤ m.deals.length) ∧ (0 ≤ t → t ≤ m.deals.length → h = t) → SOut w W (W5.setCell ⟨m.bb, 1, none⟩ (.slice a5 (m.deals.length + 1) c5)) s m n ⟨1, t, key, hi, .slice la cs.length lcap, cs⟩) := HBg.mono fun e w' ⟨s', e1, e2, e3⟩ => by
      obtain ⟨M1, N1⟩ := MA.turn e2
      obtain ⟨a5, c5, W5, P⟩ := M1.pushK (m.commits.length : Int) hlen
      obtain ⟨tag, B, -⟩ := M1.bk
      obtain ⟨ad, cd, hdv, -⟩ := B.dealsAt
      obtain ⟨acm, ccm, hcv, -⟩ := B.commitsAt
      obtain ⟨at_, ct, htv, -⟩ := B.tb.at
      have p1 := P.app
      have p2 := P.cell
      have q1 := B.cell.2.1
      have q2 := B.cell.2.2.1
      have q3 := B.cell.2.2.2
      rw [hdv, htv] at p1
      rw [hdv] at p2 q1
      rw [htv] at q2
      rw [hcv] at q3
      refine ⟨e1, ad, cd, at_, _, ct, acm, ccm, a5, c5, W5, p1, q1, q2, q3, lt_of_heap B.own, p2, P.frz, P.cell1, fun h hh => ⟨s', _, h, P.mem, ((Nx.quiet s m hqA).trans N1).trans P.nx, ?_, hh.1, hh.2, by rw [e3]; exact SA h⟩⟩
      rw [e3]
      have := L.begin hroom
      have eb : (m.push (.slice a5 (m.deals.length + 1) c5) (m.commits.length : Int)).bk = ⟨m.bk.deals ++ [⟨true, m.bk.commits.length, m.bk.t, []⟩], m.bk.t, m.bk.commits⟩ := by
        unfold MBk.push MBk.bk
        simp
      rw [eb]
      exact this
    subst hWA
    clear Mm L K I MA hqA SA HBg HH hcc hdl er hroom
    go_enter Tryz.func18, Tryz.ntmps18
    go_wp2_with (first
      | (go_at_call 43; refine HHd.out.mono ?_; rintro e w2 ⟨h, rfl, hh, rfl⟩)
      | (go_at_call 26; refine HB.out.mono ?_; rintro e w3 ⟨rfl, ad, cd, at_, lt, ct, acm, ccm, a5, c5, W5, happ, q1, q2, q3, hbl, q5, z5, q6, hO⟩; have HO := hidC' (hO _ hh.out); have hbn : m.bb ≠ w3.heap.size := (by omega); clear hO))
    go_region
    go_wp2
    go_ret
    exact ⟨rfl, HO.out⟩

set_option maxRecDepth 100000 in
set_option maxHeartbeats 4000000 in
theorem step_h (Mm : Mem w W s m) (L : Log n s.abs m.bk) (hn : n ≤ 2097152) (o : StepD) (ho : StepOk w o) (hcs : o.cs.length ≤ 1048576) :
    Calls Tryz.prog 18 #[.pointer (some ⟨m.bb, 0, none⟩), .agg #[.int .i64 o.kind, .int .i64 o.t, .string o.key, .string o.hi, o.lv]] W fun e w' => e = .returned (.bool true) ∧ SOut w W w' s m n o := by
  obtain ⟨kind, t, key, hi, lv, cs⟩ := o
  simp only
  have h0 := L.n0
  have hl := L.len
  have hlen : m.deals.length ≤ 1099511627776 := by have := hl.1; simp only [MBk.bk, List.length_map] at this; omega
  have hcl : m.commits.length ≤ 1099511627776 := by have := hl.2; simp only [MBk.bk, List.length_map] at this; omega
  have hbud : ∀ (i : Nat) (x : MDeal), m.deals[i]? = some x → x.d.keys.length ≤ 2199023255552 := fun i x hx => by
    have := L.bud x.d (List.mem_map.2 ⟨x, List.mem_of_getElem? hx, rfl⟩)
    omega
  obtain ⟨M, K⟩ := L.is
  have I := L.inv
  have hqA : Quiet W (W.alloc (.cells #[.int .i64 kind, .int .i64 t, .string key, .string hi, lv] 48)) := Keeps.alloc _ _
  have hbo : (W.alloc (.cells #[.int .i64 kind, .int .i64 t, .string key, .string hi, lv] 48)).heap[W.heap.size]? = some (.cells #[.int .i64 kind, .int .i64 t, .string key, .string hi, lv] 48) := heap_alloc_new _ _
  have MA := Mm.still hqA
  have hlv := ho.ch.sh
  obtain ⟨la, lcap, hlv, -⟩ := hlv
  simp only at hlv
  subst hlv
  have HH : Hid (Calls Tryz.prog 43 #[.pointer (some ⟨m.bb, 0, none⟩), .int .i64 t] (W.alloc (.cells #[.int .i64 kind, .int .i64 t, .string key, .string hi, .slice la cs.length lcap] 48)) fun e w' => ∃ h : Int, e = .returned (.int .i64 h) ∧ Hid ((0 ≤ h ∧ h ≤ m.deals.length) ∧ (0 ≤ t → t ≤ m.deals.length → h = t)) ∧ w' = (W.alloc (.cells #[.int .i64 kind, .int .i64 t, .string key, .string hi, .slice la cs.length lcap] 48))) :=
    (handle_h MA t ho.t hlen).mono fun e w' ⟨h, h1, h2, h3, h4⟩ => ⟨h, h1, ⟨h2, h3⟩, h4⟩
  have hA : ∀ h, actB m.bk h = (s.abs.act? h).isSome := fun h => K.actB I h
  have c0 : (W.alloc (.cells #[.int .i64 kind, .int .i64 t, .string key, .string hi, .slice la cs.length lcap] 48)).cell? ⟨m.bb, 0, none⟩ = some (.pointer (some ⟨s.sb, 0, none⟩)) := by obtain ⟨tag, B, -⟩ := MA.bk; rw [← MA.sb]; exact B.cell.1
  generalize hWA : W.alloc (.cells #[.int .i64 kind, .int .i64 t, .string key, .string hi, .slice la cs.length lcap] 48) = WA at *
  by_cases k2 : kind = 2
  · subst k2
    have HR : Hid (∀ (h : Int), (0 ≤ h ∧ h ≤ m.deals.length) ∧ (0 ≤ t → t ≤ m.deals.length → h = t) → Calls Tryz.prog 44 #[.pointer (some ⟨m.bb, 0, none⟩), .int .i64 h, .string key] WA fun e w' => e = .returned (.bool true) ∧ SOut w W w' s m n ⟨2, t, key, hi, .slice la cs.length lcap, cs⟩) := fun h hh => 
      (reads_h MA I K h hh.1 hlen key).mono fun e w' ⟨e1, e2⟩ => ⟨e1, SOut.of hqA e2 (L.get h key) hh.1 hh.2 ⟨getR_cfg _ _ _, fun e => absurd e (by decide : ¬ (2 : Int) = 1), fun _ => rfl, fun e => absurd e (by decide : ¬ (2 : Int) = 3), fun e => absurd e (by decide : ¬ (2 : Int) = 6)⟩⟩
    subst hWA
    clear Mm L K I MA hqA ho hA hbud c0
    go_enter Tryz.func18, Tryz.ntmps18
    go_wp2_with (first
      | (go_at_call 43; refine HH.out.mono ?_; rintro e w2 ⟨h, rfl, hh, rfl⟩)
      | (go_at_call 44; refine (HR.out _ hh.out).mono ?_; rintro e w3 ⟨rfl, hO⟩))
    go_ret
    exact ⟨rfl, hO⟩
  by_cases k3 : kind = 3
  · subst k3
    have HR : Hid (∀ (h : Int), (0 ≤ h ∧ h ≤ m.deals.length) ∧ (0 ≤ t → t ≤ m.deals.length → h = t) → Calls Tryz.prog 45 #[.pointer (some ⟨m.bb, 0, none⟩), .int .i64 h, .string key, .string hi] WA fun e w' => e = .returned (.bool true) ∧ SOut w W w' s m n ⟨3, t, key, hi, .slice la cs.length lcap, cs⟩) := fun h hh => 
      (scans_h MA I K h hh.1 hlen key hi).mono fun e w' ⟨e1, e2⟩ => ⟨e1, SOut.of hqA e2 (L.scan h key hi) hh.1 hh.2 ⟨scanR_cfg _ _ _ _, fun e => absurd e (by decide : ¬ (3 : Int) = 1), fun e => absurd e (by decide : ¬ (3 : Int) = 2), fun _ => rfl, fun e => absurd e (by decide : ¬ (3 : Int) = 6)⟩⟩
    subst hWA
    clear Mm L K I MA hqA ho hA hbud c0
    go_enter Tryz.func18, Tryz.ntmps18
    go_wp2_with (first
      | (go_at_call 43; refine HH.out.mono ?_; rintro e w2 ⟨h, rfl, hh, rfl⟩)
      | (go_at_call 45; refine (HR.out _ hh.out).mono ?_; rintro e w3 ⟨rfl, hO⟩))
    go_ret
    exact ⟨rfl, hO⟩
  by_cases k4 : kind = 4
  · subst k4
    have HR : Hid (∀ (h : Int), (0 ≤ h ∧ h ≤ m.deals.length) ∧ (0 ≤ t → t ≤ m.deals.length → h = t) → Calls Tryz.prog 46 #[.pointer (some ⟨m.bb, 0, none⟩), .int .i64 h, .slice la cs.length lcap] WA fun e w' => e = .returned (.bool true) ∧ SOut w W w' s m n ⟨4, t, key, hi, .slice la cs.length lcap, cs⟩) := fun h hh => by
      have SA : StepA s.abs ⟨4, t, key, hi, .slice la cs.length lcap, cs⟩ h (s.abs.writeR h cs).2 := ⟨writeR_cfg _ _ _, fun e => absurd e (by decide : ¬ (4 : Int) = 1), fun e => absurd e (by decide : ¬ (4 : Int) = 2), fun e => absurd e (by decide : ¬ (4 : Int) = 3), fun e => absurd e (by decide : ¬ (4 : Int) = 6)⟩
      have fin : ∀ (e : Ending) w', e = .returned (.bool true) ∧ BLeft w WA w' s m (s.abs.writeR h cs).2 (m.bk.afterW h (s.abs.writeR h cs).1 cs) → e = .returned (.bool true) ∧ SOut w W w' s m n ⟨4, t, key, hi, .slice la cs.length lcap, cs⟩ := fun e w' ⟨e1, e2⟩ => ⟨e1, SOut.of hqA e2 (L.write h cs hcs) hh.1 hh.2 SA⟩
      exact (writes_h MA I K h hh.1 hlen hcl _ cs ho.ch ho.lb hcs hbud).mono fin
    subst hWA
    clear Mm L K I MA hqA ho hA hbud c0
    go_enter Tryz.func18, Tryz.ntmps18
    go_wp2_with (first
      | (go_at_call 43; refine HH.out.mono ?_; rintro e w2 ⟨h, rfl, hh, rfl⟩)
      | (go_at_call 46; refine (HR.out _ hh.out).mono ?_; rintro e w3 ⟨rfl, hO⟩))
    go_ret
    exact ⟨rfl, hO⟩
  by_cases k5 : kind = 5
  · subst k5
    have HR : Hid (∀ (h : Int), (0 ≤ h ∧ h ≤ m.deals.length) ∧ (0 ≤ t → t ≤ m.deals.length → h = t) → Calls Tryz.prog 47 #[.pointer (some ⟨m.bb, 0, none⟩), .int .i64 h] WA fun e w' => e = .returned (.bool true) ∧ SOut w W w' s m n ⟨5, t, key, hi, .slice la cs.length lcap, cs⟩) := fun h hh => by
      refine (bcommit_h MA L (by omega) h hh.1 hlen hcl hbud).mono fun e w' ⟨e1, e2⟩ => ⟨e1, ?_⟩
      obtain ⟨s', m', q1, q2, q3, q4⟩ := e2.ex
      exact ⟨s', m', h, q1, (Nx.quiet s m hqA).trans q2, q3, hh.1, hh.2, ⟨q4, fun e => absurd e (by decide : ¬ (5 : Int) = 1), fun e => absurd e (by decide : ¬ (5 : Int) = 2), fun e => absurd e (by decide : ¬ (5 : Int) = 3), fun e => absurd e (by decide : ¬ (5 : Int) = 6)⟩⟩
    subst hWA
    clear Mm L K I MA hqA ho hA hbud c0
    go_enter Tryz.func18, Tryz.ntmps18
    go_wp2_with (first
      | (go_at_call 43; refine HH.out.mono ?_; rintro e w2 ⟨h, rfl, hh, rfl⟩)
      | (go_at_call 47; refine (HR.out _ hh.out).mono ?_; rintro e w3 ⟨rfl, hO⟩))
    go_ret
    exact ⟨rfl, hO⟩
  by_cases k6 : kind = 6
  · subst k6
    have HAb : Hid (∀ (h : Int), (0 ≤ h ∧ h ≤ m.deals.length) ∧ (0 ≤ t → t ≤ m.deals.length → h = t) → Calls Tryz.prog 42 #[.pointer (some ⟨s.sb, 0, none⟩), .int .i64 h] WA fun e w' => ∃ s', e = .returned (.int .i64 (s.abs.abortR h).1) ∧ Mem w w' s' m ∧ Nx W w' s s' m m ∧ s'.abs = (s.abs.abortR h).2) := fun h hh =>
      (abort_api MA.st MA.mu h (wf_h hh.1 hlen)).mono fun e w' ⟨s', e1, e2, e3⟩ => by
        obtain ⟨M1, N1⟩ := MA.turn e2
        exact ⟨s', e1, M1, (Nx.quiet s m hqA).trans N1, e3⟩
    have HAc : Hid (∀ (h : Int), (0 ≤ h ∧ h ≤ m.deals.length) ∧ (0 ≤ t → t ≤ m.deals.length → h = t) → ∀ w' s', Mem w w' s' m → Calls Tryz.prog 24 #[.pointer (some ⟨m.bb, 0, none⟩), .int .i64 h] w' fun e w'' => e = .returned (.bool (s.abs.act? h).isSome) ∧ w'' = w') := fun h hh w' s' M1 => by
      rw [← hA h]; exact active_h M1 h hh.1 hlen
    have HCs : Hid (∀ (h : Int), (0 ≤ h ∧ h ≤ m.deals.length) ∧ (0 ≤ t → t ≤ m.deals.length → h = t) → (s.abs.act? h = none ∧ (s.abs.abortR h).1 = 2 ∧ ∀ w' s', Mem w w' s' m → Nx W w' s s' m m → s'.abs = (s.abs.abortR h).2 → SOut w W w' s m n ⟨6, t, key, hi, .slice la cs.length lcap, cs⟩) ∨
        (∃ (i : Nat) (x : MDeal) (tx : Tx), h = (i : Int) + 1 ∧ s.abs.act? h = some tx ∧ (s.abs.abortR h).1 = 0 ∧ i < m.deals.length ∧ ∀ w' s', Mem w w' s' m → Nx W w' s s' m m → s'.abs = (s.abs.abortR h).2 → ∃ g cap, w'.cell? ⟨m.bb, 1, none⟩ = some (.slice (some ⟨g, 0, none⟩) m.deals.length cap) ∧ w'.cell? ⟨g, i * 4, none⟩ = some (.bool true) ∧ w'.frozen? ⟨g, i * 4, none⟩ = false ∧ SOut w W (w'.setCell ⟨g, i * 4, none⟩ (.bool false)) s m n ⟨6, t, key, hi, .slice la cs.length lcap, cs⟩)) := fun h hh => by
      have SA : StepA s.abs ⟨6, t, key, hi, .slice la cs.length lcap, cs⟩ h (s.abs.abortR h).2 := ⟨abortR_cfg _ _, fun e => absurd e (by decide : ¬ (6 : Int) = 1), fun e => absurd e (by decide : ¬ (6 : Int) = 2), fun e => absurd e (by decide : ¬ (6 : Int) = 3), fun _ => rfl⟩
      have LA := L.abort h
      cases ha : s.abs.act? h with
      | none =>
        rw [ha] at LA
        refine .inl ⟨rfl, by unfold Abs.abortR; rw [ha], fun w' s' M1 N1 e => ⟨s', m, h, M1, N1, by rw [e]; exact LA, hh.1, hh.2, by rw [e]; exact SA⟩⟩
      | some tx =>
        rw [ha] at LA
        obtain ⟨i, x, rfl, hx, D, hact, -⟩ := deal_at K I ha
        refine .inr ⟨i, x, tx, rfl, rfl, by unfold Abs.abortR; rw [ha], (List.getElem?_eq_some_iff.1 hx).1, fun w' s' M1 N1 e => ?_⟩
        obtain ⟨g, cap, hg, c1, d0, -, -, -, hfz, -⟩ := M1.dealCells hx
        obtain ⟨M2, N2⟩ := M1.off hx hg hact
        rw [hact] at d0
        exact ⟨g, cap, c1, d0, hfz _, s', _, _, M2, N1.trans N2, by rw [e, MBk.off_bk hx]; exact LA, hh.1, hh.2, by rw [e]; exact SA⟩
    subst hWA
    clear Mm L K I MA hqA ho hA hbud 
    go_enter Tryz.func18, Tryz.ntmps18
    go_wp2_with (first
      | (go_at_call 43; refine HH.out.mono ?_; rintro e w2 ⟨h, rfl, hh, rfl⟩)
      | fail)
    have HAb' := hidC' (HAb.out _ hh.out)
    have HAc' := hidC' (HAc.out _ hh.out)
    rcases HCs.out _ hh.out with ⟨ha, he, hfin⟩ | ⟨i, x, tx, rfl, ha, he, hil, hfin⟩
    · rw [he] at HAb'
      rw [ha] at HAc'
      have HF := hidC' hfin
      clear HCs HAb HAc hfin ha he
      go_wp2_with (first
        | (go_at_call 42; refine HAb'.out.mono ?_; rintro e w3 ⟨s3, rfl, hM3, hN3, hab⟩)
        | (go_at_call 24; refine (HAc'.out _ _ hM3).mono ?_; rintro e w4 ⟨rfl, rfl⟩))
      go_ret
      exact ⟨rfl, HF.out _ _ hM3 hN3 hab⟩
    · rw [he] at HAb'
      rw [ha] at HAc'
      have HF := hidC' hfin
      clear HCs HAb HAc hfin ha he
      go_wp2_with (first
        | (go_at_call 42; refine HAb'.out.mono ?_; rintro e w3 ⟨s3, rfl, hM3, hN3, hab⟩; obtain ⟨g, cap, q1, q0, z0, hO⟩ := HF.out _ _ hM3 hN3 hab; have HO := hidC' hO; clear hO)
        | (go_at_call 24; refine (HAc'.out _ _ hM3).mono ?_; rintro e w4 ⟨rfl, rfl⟩))
      go_ret
      exact ⟨rfl, HO.out⟩
  by_cases k7 : kind = 7
  · subst k7
    have HC : Hid (∀ (h : Int), (0 ≤ h ∧ h ≤ m.deals.length) ∧ (0 ≤ t → t ≤ m.deals.length → h = t) → Calls Tryz.prog 20 #[.pointer (some ⟨s.sb, 0, none⟩)] WA fun e w' => e = .returned (.tuple #[]) ∧ SOut w W w' s m n ⟨7, t, key, hi, .slice la cs.length lcap, cs⟩) := fun h hh =>
      (cleanup_api MA.st MA.mu I).mono fun e w' ⟨e1, s', e2, mk, e3⟩ => by
        obtain ⟨M1, N1⟩ := MA.turn e2
        exact ⟨e1, s', m, h, M1, (Nx.quiet s m hqA).trans N1, L.clean e3, hh.1, hh.2, ⟨⟨e3.c1, e3.c2, e3.c3, e3.c4⟩, fun e => absurd e (by decide : ¬ (7 : Int) = 1), fun e => absurd e (by decide : ¬ (7 : Int) = 2), fun e => absurd e (by decide : ¬ (7 : Int) = 3), fun e => absurd e (by decide : ¬ (7 : Int) = 6)⟩⟩
    subst hWA
    clear Mm L K I MA hqA ho hA hbud 
    go_enter Tryz.func18, Tryz.ntmps18
    go_wp2_with (first
      | (go_at_call 43; refine HH.out.mono ?_; rintro e w2 ⟨h, rfl, hh, rfl⟩)
      | (go_at_call 20; refine (HC.out _ hh.out).mono ?_; rintro e w3 ⟨rfl, hO⟩))
    go_ret
    exact ⟨rfl, hO⟩
  by_cases k1 : kind = 1
  · subst k1
    exact stepBegin_h Mm L hn t key hi la lcap cs hlen HH.out hWA
  · have HO : Hid (∀ (h : Int), (0 ≤ h ∧ h ≤ m.deals.length) ∧ (0 ≤ t → t ≤ m.deals.length → h = t) → SOut w W WA s m n ⟨kind, t, key, hi, .slice la cs.length lcap, cs⟩) := fun h hh => ⟨s, m, h, MA, Nx.quiet s m hqA, L.of_same (I.mono (by omega)) K L.cms, hh.1, hh.2, ⟨⟨rfl, rfl, rfl, rfl⟩, fun e => absurd e k1, fun e => absurd e k2, fun e => absurd e k3, fun e => absurd e k6⟩⟩
    subst hWA
    clear Mm L K I MA hqA ho hA hbud 
    go_enter Tryz.func18, Tryz.ntmps18
    go_wp2_with (first
      | (go_at_call 43; refine HH.out.mono ?_; rintro e w2 ⟨h, rfl, hh, rfl⟩)
      | fail)
    go_ret
    exact ⟨rfl, HO.out _ hh.out⟩

end
end Go.Proofs.YthfimgeopciiiaaGreat
