/-
  The book's Get and Scan.
-/
import Derived.Test.YthfimgeopciiiaaGreatBookK
import Derived.Test.YthfimgeopciiiaaGreatLawA
namespace Go.Proofs.YthfimgeopciiiaaGreat
open Go.MapKept Go.ChangeMaps Go.Maps Go.RowKit Go.MuLone
set_option linter.unusedVariables false

/-- how Get ends -/
theorem getR_ends (a : Abs) (h : Int) (k : ByteArray) : (a.act? h = none ∧ (a.getR h k).1 = (⟨#[]⟩, false, 2)) ∨ ∃ t, a.act? h = some t ∧ ((keyB k = false ∧ (a.getR h k).1 = (⟨#[]⟩, false, 3)) ∨ (keyB k = true ∧ ((a.getR h k).1 = (⟨#[]⟩, false, 6) ∨ (a.getR h k).1 = (⟨#[]⟩, false, 8) ∨ (a.getR h k).1.2.2 = 0))) := by
  unfold Abs.getR
  cases ha : a.act? h with
  | none => exact .inl ⟨rfl, rfl⟩
  | some t =>
    refine .inr ⟨t, rfl, ?_⟩
    simp only
    cases hk : keyB k with
    | false => exact .inl ⟨rfl, rfl⟩
    | true =>
      refine .inr ⟨rfl, ?_⟩
      simp only [Bool.true_eq_false, if_false]
      cases look t.wr k with
      | some c => exact .inr (.inr rfl)
      | none =>
        simp only
        rcases readR_err a t (keyE k) with e | e | e
        · rw [if_pos e]; exact .inr (.inr rfl)
        · rw [if_neg (by rw [e]; decide), e]; exact .inl rfl
        · rw [if_neg (by rw [e]; decide), e]; exact .inr (.inl rfl)

theorem scanR_ends (a : Abs) (h : Int) (lo hi : ByteArray) : (a.act? h = none ∧ (a.scanR h lo hi).1 = (2, none)) ∨ ∃ t, a.act? h = some t ∧ ((rangeE lo hi ≠ 0 ∧ (a.scanR h lo hi).1 = (rangeE lo hi, none)) ∨ (rangeE lo hi = 0 ∧ ((a.scanR h lo hi).1 = (6, none) ∨ (a.scanR h lo hi).1 = (8, none) ∨ (a.scanR h lo hi).1 = (0, some t)))) := by
  unfold Abs.scanR
  cases ha : a.act? h with
  | none => exact .inl ⟨rfl, rfl⟩
  | some t =>
    refine .inr ⟨t, rfl, ?_⟩
    simp only
    by_cases hk : rangeE lo hi ≠ 0
    · rw [if_pos hk]; exact .inl ⟨hk, rfl⟩
    · have hk' : rangeE lo hi = 0 := by simpa using hk
      refine .inr ⟨hk', ?_⟩
      rw [if_neg hk]
      rcases readR_err a t (rangeEnt lo hi) with e | e | e
      · rw [if_pos e]; exact .inr (.inr rfl)
      · rw [if_neg (by rw [e]; decide), e]; exact .inl rfl
      · rw [if_neg (by rw [e]; decide), e]; exact .inr (.inl rfl)

/-- what a call of the book leaves -/
structure BLeft (w W W' : World) (s : Sto) (m : MBk) (a' : Abs) (B' : Bk) : Prop where
  ex : ∃ s' m', Mem w W' s' m' ∧ Nx W W' s s' m m' ∧ s'.abs = a' ∧ m'.bk = B'

theorem nx_same {W W' : World} {s s' : Sto} {m : MBk} (h : Nx W W' s s' m m) {W'' : World} (k : Quiet W' W'') : Nx W W'' s s' m m := h.trans (Nx.quiet s' m k)

theorem key_len {k : ByteArray} : keyB k = false ↔ ((k.size : Int) < 1 ∨ 4 < (k.size : Int)) := by
  unfold keyB
  rw [Bool.and_eq_false_iff, decide_eq_false_iff_not, decide_eq_false_iff_not]
  omega

theorem wf_h {h : Int} {L : Nat} (hh : 0 ≤ h ∧ h ≤ L) (hlen : L ≤ 1099511627776) : (Lit.int .i64 h).wf = true := wf_i64 (by omega) (by omega)

section
variable {w W : World} {s : Sto} {m : MBk} {n M : Int}

set_option maxRecDepth 100000 in
set_option maxHeartbeats 4000000 in
theorem reads_h (Mm : Mem w W s m) (I : s.abs.Inv n) (K : BkIs s.abs m.bk M) (h : Int) (hh : 0 ≤ h ∧ h ≤ m.deals.length) (hlen : m.deals.length ≤ 1099511627776) (k : ByteArray) :
    Calls Tryz.prog 44 #[.pointer (some ⟨m.bb, 0, none⟩), .int .i64 h, .string k] W fun e w' => e = .returned (.bool true) ∧ BLeft w W w' s m (s.abs.getR h k).2 (m.bk.after h (s.abs.getR h k).1.2.2) := by
  have hA := K.actB I h
  have c0 : W.cell? ⟨m.bb, 0, none⟩ = some (.pointer (some ⟨s.sb, 0, none⟩)) := by obtain ⟨tag, B, -⟩ := Mm.bk; rw [← Mm.sb]; exact B.cell.1
  have hz : ((⟨#[]⟩ : ByteArray).toList == (⟨#[]⟩ : ByteArray).toList) = true := by simp
  have HG := get_api Mm.st Mm.mu I h (wf_h hh hlen) k
  have HM : Hid (∀ w' s', Turn s s' W w' → s'.abs = (s.abs.getR h k).2 → (s.abs.getR h k).1.2.2 ≠ 8 → BLeft w W w' s m (s.abs.getR h k).2 (m.bk.after h (s.abs.getR h k).1.2.2)) := fun w' s' t e e8 => by
    obtain ⟨M1, N1⟩ := Mm.turn t
    exact ⟨s', m, M1, N1, e, by rw [Bk.after, if_neg e8]⟩
  have HAc : Hid (∀ w' s', Turn s s' W w' → Calls Tryz.prog 24 #[.pointer (some ⟨m.bb, 0, none⟩), .int .i64 h] w' fun e w'' => e = .returned (.bool (actB m.bk h)) ∧ w'' = w') := fun w' s' t => active_h (Mm.turn t).1 h hh hlen
  rcases getR_ends s.abs h k with ⟨ha, hr⟩ | ⟨t, ha, ⟨hk, hr⟩ | ⟨hk, hr | hr | hr⟩⟩
  · rw [hr] at HG HM ⊢
    rw [hA, ha] at HAc
    have HG := hidC HG
    clear hA K I c0 hr ha
    have c0 : W.cell? ⟨m.bb, 0, none⟩ = some (.pointer (some ⟨s.sb, 0, none⟩)) := by obtain ⟨tag, B, -⟩ := Mm.bk; rw [← Mm.sb]; exact B.cell.1
    clear Mm
    go_enter Tryz.func44, Tryz.ntmps44
    go_wp2_with (first
      | (go_at_call 52; refine HG.out.mono ?_; rintro e w2 ⟨s2, rfl, hT, hab⟩)
      | (go_at_call 24; refine (HAc.out _ _ hT).mono ?_; rintro e w3 ⟨rfl, rfl⟩))
    go_ret
    exact ⟨rfl, HM.out _ _ hT hab (by decide)⟩
  · rw [hr] at HG HM ⊢
    rw [hA, ha] at HAc
    have HG := hidC HG
    have hkl := key_len.1 hk
    have c0 : W.cell? ⟨m.bb, 0, none⟩ = some (.pointer (some ⟨s.sb, 0, none⟩)) := by obtain ⟨tag, B, -⟩ := Mm.bk; rw [← Mm.sb]; exact B.cell.1
    clear hA K I hr ha Mm hk
    rcases hkl with hkl | hkl
    all_goals
      go_enter Tryz.func44, Tryz.ntmps44
      go_wp2_with (first
        | (go_at_call 52; refine HG.out.mono ?_; rintro e w2 ⟨s2, rfl, hT, hab⟩)
        | (go_at_call 24; refine (HAc.out _ _ hT).mono ?_; rintro e w3 ⟨rfl, rfl⟩))
      go_ret
      exact ⟨rfl, HM.out _ _ hT hab (by decide)⟩
  all_goals
    have hkl : ¬ (k.size : Int) < 1 ∧ ¬ 4 < (k.size : Int) := by
      have := mt key_len.2 (by rw [hk]; simp : ¬ keyB k = false)
      omega
    obtain ⟨-, -, -, h1, h2, d, hd, D⟩ := K.act_some I ha
    obtain ⟨i, hi⟩ : ∃ i : Nat, h = (i : Int) + 1 := ⟨(h - 1).toNat, by omega⟩
    subst hi
    have e1 : ((i : Int) + 1 - 1).toNat = i := by omega
    rw [e1] at hd
    obtain ⟨x, hx, hxd⟩ : ∃ x, m.deals[i]? = some x ∧ x.d = d := by
      simp only [MBk.bk, List.getElem?_map] at hd
      cases hm : m.deals[i]? with
      | none => rw [hm] at hd; cases hd
      | some x => rw [hm] at hd; exact ⟨x, rfl, Option.some.inj hd⟩
    have hact : x.d.active = true := by rw [hxd]; exact D.active
    have hGn : Hid (∀ (e : Int) W', (e == 7) = false → (e == 8) = false → Calls Tryz.prog 79 #[.pointer (some ⟨m.bb, 0, none⟩), .int .i64 ((i : Int) + 1), .int .i64 e] W' fun e w' => e = .returned (.bool false) ∧ w' = W') := fun e W' h7 h8 => gone_no _ e h7 h8 m.bb W'
    rw [hA, ha] at HAc
  · rw [hr] at HG HM ⊢
    have HG := hidC HG
    clear hA K I hr ha Mm hk D hd hx hxd hact
    go_enter Tryz.func44, Tryz.ntmps44
    go_wp2_with (first
      | (go_at_call 52; refine HG.out.mono ?_; rintro e w2 ⟨s2, rfl, hT, hab⟩)
      | (go_at_call 24; refine (HAc.out _ _ hT).mono ?_; rintro e w3 ⟨rfl, rfl⟩)
      | (go_at_call 79; refine (hGn.out _ _ rfl rfl).mono ?_; rintro e w4 ⟨rfl, rfl⟩))
    go_ret
    exact ⟨rfl, HM.out _ _ hT hab (by decide)⟩
  · rw [hr] at HG ⊢
    have HG := hidC HG
    have HGy : Hid (∀ w' s', Turn s s' W w' → Calls Tryz.prog 79 #[.pointer (some ⟨m.bb, 0, none⟩), .int .i64 ((i : Int) + 1), .int .i64 8] w' fun e w'' => e = .returned (.bool true) ∧ Mem w w'' s' (m.off i x) ∧ Nx W w'' s s' m (m.off i x)) := fun w' s' t => by
      obtain ⟨M1, N1⟩ := Mm.turn t
      exact (gone_yes M1 i x hx hact 8 (.inr rfl) hlen).mono fun e w'' ⟨h1, h2, h3⟩ => ⟨h1, h2, N1.trans h3⟩
    have HB : Hid ((m.off i x).bk = m.bk.after ((i : Int) + 1) 8) := MBk.off_bk hx
    clear hA K I hr ha Mm hk D hd hx hxd hact hGn HM
    go_enter Tryz.func44, Tryz.ntmps44
    go_wp2_with (first
      | (go_at_call 52; refine HG.out.mono ?_; rintro e w2 ⟨s2, rfl, hT, hab⟩)
      | (go_at_call 24; refine (HAc.out _ _ hT).mono ?_; rintro e w3 ⟨rfl, rfl⟩)
      | (go_at_call 79; refine (HGy.out _ _ hT).mono ?_; rintro e w4 ⟨rfl, hM4, hN4⟩))
    go_ret
    exact ⟨rfl, s2, _, hM4, hN4, hab, HB.out⟩
  · obtain ⟨v1, v2⟩ := book_get K I ha D hk hr
    rw [← hxd] at v1 v2
    rw [hr] at HG HM ⊢
    rw [v1, v2] at HG
    have HG := hidC HG
    have HTg : Hid (∀ w' s', Turn s s' W w' → Calls Tryz.prog 61 #[x.nv, .string k] w' fun e w'' => e = .returned (.tuple #[.string ((look x.d.now k).getD ⟨#[]⟩), .bool (look x.d.now k).isSome]) ∧ w'' = w') := fun w' s' t => by
      obtain ⟨tag, B, -⟩ := (Mm.turn t).1.bk
      exact tget_h w' _ _ _ (B.now i x hx) (by have := D.len I (act_mem' ha).1; rw [hxd]; omega) k
    have HCl : Hid (∀ w' s', Turn s s' W w' → ∃ g cap, w'.cell? ⟨m.bb, 1, none⟩ = some (.slice (some ⟨g, 0, none⟩) m.deals.length cap) ∧ w'.cell? ⟨g, i * 4 + 2, none⟩ = some x.nv) := fun w' s' t => by
      obtain ⟨tag, B, -⟩ := (Mm.turn t).1.bk
      obtain ⟨a, cap, hdv, hc⟩ := B.dealsAt
      rcases hc with h0 | ⟨g, rfl, _, _, _, _, hcell⟩
      · rw [h0] at hx; simp at hx
      · exact ⟨g, cap, by rw [← hdv]; exact B.cell.2.1, (hcell i x hx).2.2.1⟩
    have hil : i < m.deals.length := (List.getElem?_eq_some_iff.1 hx).1
    have hvv : ∀ v : ByteArray, (v.toList == v.toList) = true := fun v => by simp
    generalize (look x.d.now k).getD ⟨#[]⟩ = V at *
    generalize (look x.d.now k).isSome = F at *
    clear hA K I hr ha Mm hk D hd hx hxd hact v1 v2
    generalize m.deals.length = L at *
    go_enter Tryz.func44, Tryz.ntmps44
    go_wp2_with (first
      | (go_at_call 52; refine HG.out.mono ?_; rintro e w2 ⟨s2, rfl, hT, hab⟩; obtain ⟨g, cap, k1, k2⟩ := HCl.out _ _ hT)
      | (go_at_call 24; refine (HAc.out _ _ hT).mono ?_; rintro e w3 ⟨rfl, rfl⟩)
      | (go_at_call 79; refine (hGn.out _ _ rfl rfl).mono ?_; rintro e w4 ⟨rfl, rfl⟩)
      | (go_at_call 61; refine (HTg.out _ _ hT).mono ?_; rintro e w5 ⟨rfl, rfl⟩))
    go_ret
    exact ⟨by cases F <;> rfl, HM.out _ _ hT hab (by decide)⟩

end
end Go.Proofs.YthfimgeopciiiaaGreat

/-
  The book's Scan.
-/
namespace Go.Proofs.YthfimgeopciiiaaGreat
open Go.MapKept Go.ChangeMaps Go.Maps Go.RowKit Go.MuLone
set_option linter.unusedVariables false

theorem rangeE_cases (lo hi : ByteArray) : (rangeE lo hi = 3 ∧ (4 < (lo.size : Int) ∨ ¬ 4 < (lo.size : Int) ∧ 4 < (hi.size : Int))) ∨
    ((¬ 4 < (lo.size : Int) ∧ ¬ 4 < (hi.size : Int)) ∧ ((rangeE lo hi = 5 ∧ (¬ hi.toList = [] ∧ hi.toList.isEmpty = false) ∧ Op.bytesLess lo.toList hi.toList = false) ∨
      (rangeE lo hi = 0 ∧ ((hi.toList = [] ∧ hi.toList.isEmpty = true) ∨ ((¬ hi.toList = [] ∧ hi.toList.isEmpty = false) ∧ Op.bytesLess lo.toList hi.toList = true))))) := by
  unfold rangeE bl
  by_cases h1 : 4 < lo.size ∨ 4 < hi.size
  · rw [if_pos h1]
    refine .inl ⟨rfl, ?_⟩
    omega
  · rw [if_neg h1]
    refine .inr ⟨by omega, ?_⟩
    cases hh : hi.toList with
    | nil => simp
    | cons x r => cases hb : Op.bytesLess lo.toList (x :: r) <;> simp

section
variable {w W : World} {s : Sto} {m : MBk} {n M : Int}

theorem deal_at {a : Abs} {t : Tx} {h : Int} (K : BkIs a m.bk M) (I : a.Inv n) (ha : a.act? h = some t) : ∃ (i : Nat) (x : MDeal), h = (i : Int) + 1 ∧ m.deals[i]? = some x ∧ DealIs a t x.d ∧ x.d.active = true ∧ t ∈ a.txs ∧ t.cm = 0 ∧ t.h = h := by
  obtain ⟨q1, q2, q3, h1, h2, d, hd, D⟩ := K.act_some I ha
  refine ⟨(h - 1).toNat, ?_⟩
  simp only [MBk.bk, List.getElem?_map] at hd
  cases hm : m.deals[(h - 1).toNat]? with
  | none => rw [hm] at hd; cases hd
  | some x =>
    rw [hm] at hd
    obtain rfl := Option.some.inj hd
    exact ⟨x, by omega, rfl, D, D.active, q1, q2, q3⟩

theorem Mem.dealCells (Mm : Mem w W s m) {i : Nat} {x : MDeal} (hx : m.deals[i]? = some x) : ∃ g cap, m.dv.ownBlock = some g ∧ W.cell? ⟨m.bb, 1, none⟩ = some (.slice (some ⟨g, 0, none⟩) m.deals.length cap) ∧ W.cell? ⟨g, i * 4, none⟩ = some (.bool x.d.active) ∧ W.cell? ⟨g, i * 4 + 1, none⟩ = some (.int .i64 x.d.bg) ∧ W.cell? ⟨g, i * 4 + 2, none⟩ = some x.nv ∧ W.cell? ⟨g, i * 4 + 3, none⟩ = some x.kv ∧ (∀ j, W.frozen? ⟨g, j, none⟩ = false) ∧ g < W.heap.size := by
  obtain ⟨tag, B, -⟩ := Mm.bk
  obtain ⟨a, cap, hdv, hc⟩ := B.dealsAt
  rcases hc with h0 | ⟨g, rfl, ho, _, hgl, hfz, hcell⟩
  · rw [h0] at hx; simp at hx
  · obtain ⟨p0, p1, p2, p3⟩ := hcell i x hx
    exact ⟨g, cap, ho, by rw [← hdv]; exact B.cell.2.1, p0, p1, p2, p3, hfz, hgl⟩

set_option maxRecDepth 100000 in
set_option maxHeartbeats 4000000 in
theorem scans_h (Mm : Mem w W s m) (I : s.abs.Inv n) (K : BkIs s.abs m.bk M) (h : Int) (hh : 0 ≤ h ∧ h ≤ m.deals.length) (hlen : m.deals.length ≤ 1099511627776) (lo hi : ByteArray) :
    Calls Tryz.prog 45 #[.pointer (some ⟨m.bb, 0, none⟩), .int .i64 h, .string lo, .string hi] W fun e w' => e = .returned (.bool true) ∧ BLeft w W w' s m (s.abs.scanR h lo hi).2 (m.bk.after h (s.abs.scanR h lo hi).1.1) := by
  have hA := K.actB I h
  have c0 : W.cell? ⟨m.bb, 0, none⟩ = some (.pointer (some ⟨s.sb, 0, none⟩)) := by obtain ⟨tag, B, -⟩ := Mm.bk; rw [← Mm.sb]; exact B.cell.1
  have HG := scan_api Mm.st Mm.mu I h (wf_h hh hlen) lo hi
  have HM : Hid (∀ w' s', Turn s s' W w' → s'.abs = (s.abs.scanR h lo hi).2 → (s.abs.scanR h lo hi).1.1 ≠ 8 → ∀ w'', Quiet w' w'' → BLeft w W w'' s m (s.abs.scanR h lo hi).2 (m.bk.after h (s.abs.scanR h lo hi).1.1)) := fun w' s' t e e8 w'' k => by
    obtain ⟨M1, N1⟩ := Mm.turn t
    exact ⟨s', m, M1.still k, nx_same N1 k, e, by rw [Bk.after, if_neg e8]⟩
  have HAc : Hid (∀ w' s', Turn s s' W w' → Calls Tryz.prog 24 #[.pointer (some ⟨m.bb, 0, none⟩), .int .i64 h] w' fun e w'' => e = .returned (.bool (actB m.bk h)) ∧ w'' = w') := fun w' s' t => active_h (Mm.turn t).1 h hh hlen
  have HNo : ∀ (R : (Int × Option Tx) × Abs), R.1.2 = none → ∀ v l w', PrSl W.heap.size w' v l → ScanAns s.abs R (rangeEnt lo hi) l → ∃ a cap, v = .slice a 0 cap := fun R hR v l w' hv hS => by
    obtain ⟨a, cap, e, -⟩ := hv.at
    rw [hS.no hR] at e
    exact ⟨a, cap, e⟩
  rcases scanR_ends s.abs h lo hi with ⟨ha, hr⟩ | ⟨t, ha, ⟨hk, hr⟩ | ⟨hk, hr | hr | hr⟩⟩
  · have HN := hidC' (HNo (s.abs.scanR h lo hi) (by rw [hr]))
    rw [hr] at HM ⊢
    rw [show (s.abs.scanR h lo hi).1.1 = 2 by rw [hr]] at HG
    rw [hA, ha] at HAc
    have HG := hidC HG
    clear hA K I hr ha Mm HNo
    go_enter Tryz.func45, Tryz.ntmps45
    go_wp2_with (first
      | (go_at_call 41; refine HG.out.mono ?_; rintro e w2 ⟨v, s2, l, rfl, hT, hab, hv, hS⟩; obtain ⟨av, cv, rfl⟩ := HN.out v l w2 hv hS)
      | (go_at_call 24; refine (HAc.out _ _ hT).mono ?_; rintro e w3 ⟨rfl, rfl⟩))
    go_ret
    exact ⟨rfl, HM.out _ _ hT hab (by decide) _ (Keeps.refl _ _)⟩
  · have HN := hidC' (HNo (s.abs.scanR h lo hi) (by rw [hr]))
    rcases rangeE_cases lo hi with ⟨e3, hc3⟩ | ⟨⟨l1, l2⟩, ⟨e5, ⟨hc5, hc7⟩, hc6⟩ | ⟨e0, _⟩⟩
    · rw [e3] at hr
      rw [hr] at HM ⊢
      rw [show (s.abs.scanR h lo hi).1.1 = 3 by rw [hr]] at HG
      rw [hA, ha] at HAc
      have HG := hidC HG
      clear hA K I hr ha Mm HNo hk e3
      rcases hc3 with l1 | ⟨l1, l2⟩
      all_goals
        go_enter Tryz.func45, Tryz.ntmps45
        go_wp2_with (first
          | (go_at_call 41; refine HG.out.mono ?_; rintro e w2 ⟨v, s2, l, rfl, hT, hab, hv, hS⟩; obtain ⟨av, cv, rfl⟩ := HN.out v l w2 hv hS)
          | (go_at_call 24; refine (HAc.out _ _ hT).mono ?_; rintro e w3 ⟨rfl, rfl⟩))
        go_ret
        exact ⟨rfl, HM.out _ _ hT hab (by decide) _ (Keeps.refl _ _)⟩
    · rw [e5] at hr
      rw [hr] at HM ⊢
      rw [show (s.abs.scanR h lo hi).1.1 = 5 by rw [hr]] at HG
      rw [hA, ha] at HAc
      have HG := hidC HG
      clear hA K I hr ha Mm HNo hk e5
      go_enter Tryz.func45, Tryz.ntmps45
      go_wp2_with (first
        | (go_at_call 41; refine HG.out.mono ?_; rintro e w2 ⟨v, s2, l, rfl, hT, hab, hv, hS⟩; obtain ⟨av, cv, rfl⟩ := HN.out v l w2 hv hS)
        | (go_at_call 24; refine (HAc.out _ _ hT).mono ?_; rintro e w3 ⟨rfl, rfl⟩))
      go_ret
      exact ⟨rfl, HM.out _ _ hT hab (by decide) _ (Keeps.refl _ _)⟩
    · exact absurd e0 hk
  all_goals
    obtain ⟨⟨l1, l2⟩, hor⟩ : (¬ 4 < (lo.size : Int) ∧ ¬ 4 < (hi.size : Int)) ∧ ((hi.toList = [] ∧ hi.toList.isEmpty = true) ∨ ((¬ hi.toList = [] ∧ hi.toList.isEmpty = false) ∧ Op.bytesLess lo.toList hi.toList = true)) := by
      rcases rangeE_cases lo hi with ⟨e3, _⟩ | ⟨hl, ⟨e5, _⟩ | ⟨_, ho⟩⟩
      · rw [e3] at hk; cases hk
      · rw [e5] at hk; cases hk
      · exact ⟨hl, ho⟩
    obtain ⟨i, x, rfl, hx, D, hact, htm, _, _⟩ := deal_at K I ha
    have hGn : Hid (∀ (e : Int) W', (e == 7) = false → (e == 8) = false → Calls Tryz.prog 79 #[.pointer (some ⟨m.bb, 0, none⟩), .int .i64 ((i : Int) + 1), .int .i64 e] W' fun e w' => e = .returned (.bool false) ∧ w' = W') := fun e W' h7 h8 => gone_no _ e h7 h8 m.bb W'
    rw [hA, ha] at HAc
  · have HN := hidC' (HNo (s.abs.scanR ((i : Int) + 1) lo hi) (by rw [hr]))
    rw [hr] at HM ⊢
    rw [show (s.abs.scanR ((i : Int) + 1) lo hi).1.1 = 6 by rw [hr]] at HG
    have HG := hidC HG
    clear hA K I hr ha Mm HNo hk D hx hact htm
    rcases hor with ⟨o1, o3⟩ | ⟨⟨o1, o3⟩, o2⟩
    all_goals
      go_enter Tryz.func45, Tryz.ntmps45
      go_wp2_with (first
        | (go_at_call 41; refine HG.out.mono ?_; rintro e w2 ⟨v, s2, l, rfl, hT, hab, hv, hS⟩; obtain ⟨av, cv, rfl⟩ := HN.out v l w2 hv hS)
        | (go_at_call 24; refine (HAc.out _ _ hT).mono ?_; rintro e w3 ⟨rfl, rfl⟩)
        | (go_at_call 79; refine (hGn.out _ _ rfl rfl).mono ?_; rintro e w4 ⟨rfl, rfl⟩))
      go_ret
      exact ⟨rfl, HM.out _ _ hT hab (by decide) _ (Keeps.refl _ _)⟩
  · have HN := hidC' (HNo (s.abs.scanR ((i : Int) + 1) lo hi) (by rw [hr]))
    rw [hr] at ⊢
    rw [show (s.abs.scanR ((i : Int) + 1) lo hi).1.1 = 8 by rw [hr]] at HG
    have HG := hidC HG
    have HGy : Hid (∀ w' s', Turn s s' W w' → Calls Tryz.prog 79 #[.pointer (some ⟨m.bb, 0, none⟩), .int .i64 ((i : Int) + 1), .int .i64 8] w' fun e w'' => e = .returned (.bool true) ∧ Mem w w'' s' (m.off i x) ∧ Nx W w'' s s' m (m.off i x)) := fun w' s' t => by
      obtain ⟨M1, N1⟩ := Mm.turn t
      exact (gone_yes M1 i x hx hact 8 (.inr rfl) hlen).mono fun e w'' ⟨h1, h2, h3⟩ => ⟨h1, h2, N1.trans h3⟩
    have HB : Hid ((m.off i x).bk = m.bk.after ((i : Int) + 1) 8) := MBk.off_bk hx
    clear hA K I hr ha Mm HNo hk D hx hact hGn HM htm
    rcases hor with ⟨o1, o3⟩ | ⟨⟨o1, o3⟩, o2⟩
    all_goals
      go_enter Tryz.func45, Tryz.ntmps45
      go_wp2_with (first
        | (go_at_call 41; refine HG.out.mono ?_; rintro e w2 ⟨v, s2, l, rfl, hT, hab, hv, hS⟩; obtain ⟨av, cv, rfl⟩ := HN.out v l w2 hv hS)
        | (go_at_call 24; refine (HAc.out _ _ hT).mono ?_; rintro e w3 ⟨rfl, rfl⟩)
        | (go_at_call 79; refine (HGy.out _ _ hT).mono ?_; rintro e w4 ⟨rfl, hM4, hN4⟩))
      go_ret
      exact ⟨rfl, s2, _, hM4, hN4, hab, HB.out⟩
  · have hfin : ∀ v l w', PrSl W.heap.size w' v l → ScanAns s.abs (s.abs.scanR ((i : Int) + 1) lo hi) (rangeEnt lo hi) l → l = tpart x.d.now lo hi := fun v l w' hv hS => book_scan D (hS.yes t (by rw [hr]))
    rw [hr] at HM ⊢
    rw [show (s.abs.scanR ((i : Int) + 1) lo hi).1.1 = 0 by rw [hr]] at HG
    have hnl : x.d.now.length ≤ 144 := D.len I htm
    have hpl : (tpart x.d.now lo hi).length ≤ 144 := Nat.le_trans (List.length_filter_le _ _) hnl
    have HG2 : Hid (Calls Tryz.prog 41 #[.pointer (some ⟨s.sb, 0, none⟩), .int .i64 ((i : Int) + 1), .string lo, .string hi] W fun e w' => ∃ v s', e = .returned (.tuple #[v, .int .i64 0]) ∧ Turn s s' W w' ∧ s'.abs = (s.abs.scanR ((i : Int) + 1) lo hi).2 ∧ PrAt w' v (tpart x.d.now lo hi)) := HG.mono fun e w' ⟨v, s', l, h1, h2, h3, h4, h5⟩ => ⟨v, s', h1, h2, h3, by rw [← hfin v l w' h4 h5]; exact PrAt.of_sl h4⟩
    have HTp : Hid (∀ w' s', Turn s s' W w' → Calls Tryz.prog 62 #[x.nv, .string lo, .string hi] w' fun e w'' => ∃ v', e = .returned v' ∧ PrAt w'' v' (tpart x.d.now lo hi) ∧ Quiet w' w'') := fun w' s' t => by
      obtain ⟨tag, B, -⟩ := (Mm.turn t).1.bk
      exact (tpart_h w' _ _ _ (B.now i x hx) (by omega) lo hi).mono fun e w'' ⟨v', h1, h2, h3⟩ => ⟨v', h1, PrAt.of_sl h2, h3⟩
    have HSa : Hid (∀ W' v u, PrAt W' v (tpart x.d.now lo hi) → PrAt W' u (tpart x.d.now lo hi) → Calls Tryz.prog 17 #[v, u] W' fun e w'' => e = .returned (.bool true) ∧ Quiet W' w'') := fun W' v u hv hu => same_self W' v u _ hv hu (by omega)
    have HCl : Hid (∀ w' s', Turn s s' W w' → ∃ g cap, w'.cell? ⟨m.bb, 1, none⟩ = some (.slice (some ⟨g, 0, none⟩) m.deals.length cap) ∧ w'.cell? ⟨g, i * 4 + 2, none⟩ = some x.nv) := fun w' s' t => by
      obtain ⟨g, cap, -, k1, -, -, k2, -⟩ := (Mm.turn t).1.dealCells hx
      exact ⟨g, cap, k1, k2⟩
    have hil : i < m.deals.length := (List.getElem?_eq_some_iff.1 hx).1
    clear hA K I hr ha Mm HNo hk D hx hact htm HG hfin hnl hpl
    generalize tpart x.d.now lo hi = TP at *
    generalize m.deals.length = L at *
    rcases hor with ⟨o1, o3⟩ | ⟨⟨o1, o3⟩, o2⟩
    all_goals
      go_enter Tryz.func45, Tryz.ntmps45
      go_wp2_with (first
        | (go_at_call 41; refine HG2.out.mono ?_; rintro e w2 ⟨v, s2, rfl, hT, hab, hPv⟩; obtain ⟨g, cap, k1, k2⟩ := HCl.out _ _ hT; obtain ⟨av, cv, rfl, -⟩ := id hPv)
        | (go_at_call 24; refine (HAc.out _ _ hT).mono ?_; rintro e w3 ⟨rfl, rfl⟩)
        | (go_at_call 79; refine (hGn.out _ _ rfl rfl).mono ?_; rintro e w4 ⟨rfl, rfl⟩)
        | (go_at_call 62; refine (HTp.out _ _ hT).mono ?_; rintro e w5 ⟨v', rfl, hP5, hq5⟩)
        | (go_at_call 17; refine (HSa.out _ _ _ hP5 (hPv.quiet hq5)).mono ?_; rintro e w6 ⟨rfl, hq6⟩))
      go_ret
      exact ⟨rfl, HM.out _ _ hT hab (by decide) _ (Quiet.trans' hq5 hq6)⟩

end
end Go.Proofs.YthfimgeopciiiaaGreat
