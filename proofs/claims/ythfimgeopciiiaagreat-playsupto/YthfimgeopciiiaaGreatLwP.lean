/-
  The law's asks: Look, what its walk needs.
-/
import Derived.Test.YthfimgeopciiiaaGreatLwI
namespace Go.Proofs.YthfimgeopciiiaaGreat
open Go.MapKept Go.ChangeMaps Go.Maps Go.RowKit Go.MuLone
set_option linter.unusedVariables false

section
variable {w W : World} {s : Sto} {m : MRef} {M : MW} {sd N : Nat}

/-- nothing but the store's own blocks, and new ones, have turned -/
theorem Two.upd (T : Two w W s m M sd) {W3 : World} (hst : StAt W3 s) (k : Keeps (fun b => b ∈ s.foot ∨ W.heap.size ≤ b) W W3) : Two w W3 s m M sd := by
  have hn : ∀ b, b < W.heap.size → b ∉ s.foot → ¬ (b ∈ s.foot ∨ W.heap.size ≤ b) := fun b h1 h2 h => by
    rcases h with h | h
    · exact h2 h
    · omega
  have hs := T.quiet.size
  have hsd := lt_of_heap T.sd_at
  exact { T with
    quiet := Quiet.of_new T.quiet k (fun b hb => by rcases hb with h | h; exact T.low b h; omega)
    st := hst
    rf := T.rf.kept k (fun b hb => hn b (T.rf.lt hb).2 (fun hf => T.a1 b hf hb))
    wo := T.wo.kept k (fun b hb => hn b (T.wo.lt hb).2 (fun hf => T.a2 b hf hb))
    sd_at := (k.block sd hsd (hn sd hsd T.a4)).trans T.sd_at
    sv_at := fun g h => by
      obtain ⟨h1, h2, h3⟩ := T.sv_at g h
      exact ⟨Nat.lt_of_lt_of_le h1 k.size, (k.cell h1 (hn g h1 h3.1)).trans h2, h3⟩ }

theorem look_two (T : Two w W s m M sd) (L : Lg s m M N) (h : Int) (hw : (Lit.int .i64 h).wf = true) :
    ∃ tb ti to tr tx er, (∀ W1, Quiet W W1 → Calls Tryz.prog 23 #[.pointer (some ⟨s.sb, 0, none⟩), .int .i64 h] W1 fun e W2 => e = .returned (.tuple #[.agg #[.int .i64 tb, .bool ti, .bool to, .int .i64 tr, .int .i64 tx], .int .i64 er]) ∧ StAt W2 s ∧ Keeps (fun b => b ∈ s.foot) W1 W2) ∧
      ∀ W3, Two w W3 s m M sd → Calls Tryz.prog 128 #[.pointer (some ⟨m.sb, 0, none⟩), .int .i64 h] W3 fun e W4 => e = .returned (.tuple #[.agg #[.int .i64 tb, .bool ti, .bool to, .int .i64 tr, .int .i64 tx], .int .i64 er]) ∧ Quiet W3 W4 := by
  have hl := L.len
  have hn0 := L.n
  refine ⟨(s.abs.lookR h).1.1, (s.abs.lookR h).1.2.1, (s.abs.lookR h).1.2.2.1, (s.abs.lookR h).1.2.2.2.1, (s.abs.lookR h).1.2.2.2.2, (s.abs.lookR h).2, fun W1 q1 => ?_, fun W3 T3 => ?_⟩
  · have T1 := T.still q1
    exact (look_api T1.st T1.mu h hw).mono fun e W2 ⟨e1, t⟩ => ⟨e1, t.at_, t.keeps⟩
  · rcases L.act h with ⟨ha, hn⟩ | ⟨i, k, rfl, hk, h0, hm, hh, hs⟩
    · have ea : s.abs.lookR h = ((0, false, false, 0, 0), 2) := by unfold Abs.lookR; rw [hn]
      exact (rLook_no T3.rf (by omega) h ha).mono fun e W4 ⟨f1, f2⟩ => ⟨by rw [f1, ea], f2⟩
    · have ea : s.abs.lookR ((i : Int) + 1) = ((k.bg, decide (0 < k.i), decide (0 < k.o), (k.rd.length : Int), (k.wr.length : Int)), 0) := by unfold Abs.lookR; rw [hs]; rfl
      exact (rLook_yes T3.rf (by omega) hk h0).mono fun e W4 ⟨f1, f2⟩ => ⟨by rw [f1, ea], f2⟩

/-- the result's own block is filled -/
theorem look_set {W W2 : World} {s : Sto} {m : MRef} {sd : Nat} {tb tr tx h : Int} {ti to : Bool} (hk : StAt W2 s ∧ Keeps (fun b => b ∈ s.foot ∨ W.heap.size ≤ b) W W2) (hz : W2.heap[W.heap.size + 1]? = some (.cells #[.int .i64 0, .bool false, .bool false, .int .i64 0, .int .i64 0] 57)) (g1 : W2.cell? ⟨sd, 1, none⟩ = some (.pointer (some ⟨m.sb, 0, none⟩))) (g2 : W2.cell? ⟨W.heap.size, 1, none⟩ = some (.int .i64 h)) (hfl : ∀ b ∈ s.foot, b < W.heap.size) (hsd : sd < W.heap.size) :
    W.heap.size + 1 < W2.heap.size ∧ (StAt (((((W2.setCell ⟨W.heap.size + 1, 0, none⟩ (.int .i64 tb)).setCell ⟨W.heap.size + 1, 1, none⟩ (.bool ti)).setCell ⟨W.heap.size + 1, 2, none⟩ (.bool to)).setCell ⟨W.heap.size + 1, 3, none⟩ (.int .i64 tr)).setCell ⟨W.heap.size + 1, 4, none⟩ (.int .i64 tx)) s ∧ Keeps (fun b => b ∈ s.foot ∨ W.heap.size ≤ b) W (((((W2.setCell ⟨W.heap.size + 1, 0, none⟩ (.int .i64 tb)).setCell ⟨W.heap.size + 1, 1, none⟩ (.bool ti)).setCell ⟨W.heap.size + 1, 2, none⟩ (.bool to)).setCell ⟨W.heap.size + 1, 3, none⟩ (.int .i64 tr)).setCell ⟨W.heap.size + 1, 4, none⟩ (.int .i64 tx))) ∧ (((((W2.setCell ⟨W.heap.size + 1, 0, none⟩ (.int .i64 tb)).setCell ⟨W.heap.size + 1, 1, none⟩ (.bool ti)).setCell ⟨W.heap.size + 1, 2, none⟩ (.bool to)).setCell ⟨W.heap.size + 1, 3, none⟩ (.int .i64 tr)).setCell ⟨W.heap.size + 1, 4, none⟩ (.int .i64 tx)).heap[W.heap.size + 1]? = some (.cells #[.int .i64 tb, .bool ti, .bool to, .int .i64 tr, .int .i64 tx] 57) ∧ (((((W2.setCell ⟨W.heap.size + 1, 0, none⟩ (.int .i64 tb)).setCell ⟨W.heap.size + 1, 1, none⟩ (.bool ti)).setCell ⟨W.heap.size + 1, 2, none⟩ (.bool to)).setCell ⟨W.heap.size + 1, 3, none⟩ (.int .i64 tr)).setCell ⟨W.heap.size + 1, 4, none⟩ (.int .i64 tx)).cell? ⟨sd, 1, none⟩ = some (.pointer (some ⟨m.sb, 0, none⟩)) ∧ (((((W2.setCell ⟨W.heap.size + 1, 0, none⟩ (.int .i64 tb)).setCell ⟨W.heap.size + 1, 1, none⟩ (.bool ti)).setCell ⟨W.heap.size + 1, 2, none⟩ (.bool to)).setCell ⟨W.heap.size + 1, 3, none⟩ (.int .i64 tr)).setCell ⟨W.heap.size + 1, 4, none⟩ (.int .i64 tx)).cell? ⟨W.heap.size, 1, none⟩ = some (.int .i64 h) ∧ (((((W2.setCell ⟨W.heap.size + 1, 0, none⟩ (.int .i64 tb)).setCell ⟨W.heap.size + 1, 1, none⟩ (.bool ti)).setCell ⟨W.heap.size + 1, 2, none⟩ (.bool to)).setCell ⟨W.heap.size + 1, 3, none⟩ (.int .i64 tr)).setCell ⟨W.heap.size + 1, 4, none⟩ (.int .i64 tx)).heap.size = W2.heap.size := by
  have k5 : Keeps (fun b => b = W.heap.size + 1) W2 (((((W2.setCell ⟨W.heap.size + 1, 0, none⟩ (.int .i64 tb)).setCell ⟨W.heap.size + 1, 1, none⟩ (.bool ti)).setCell ⟨W.heap.size + 1, 2, none⟩ (.bool to)).setCell ⟨W.heap.size + 1, 3, none⟩ (.int .i64 tr)).setCell ⟨W.heap.size + 1, 4, none⟩ (.int .i64 tx)) := ((((Keeps.setCell (S := fun b => b = W.heap.size + 1) _ _ _ rfl).trans (Keeps.setCell (S := fun b => b = W.heap.size + 1) _ _ _ rfl) (fun _ h => .inl h)).trans (Keeps.setCell (S := fun b => b = W.heap.size + 1) _ _ _ rfl) (fun _ h => .inl h)).trans (Keeps.setCell (S := fun b => b = W.heap.size + 1) _ _ _ rfl) (fun _ h => .inl h)).trans (Keeps.setCell (S := fun b => b = W.heap.size + 1) _ _ _ rfl) (fun _ h => .inl h)
  have hs := hk.2.size
  have hzl := lt_of_heap hz
  refine ⟨hzl, ⟨hk.1.kept k5 (fun b hb e => by have := hfl b hb; omega), hk.2.trans k5 (fun b e => .inl (.inr (by omega)))⟩, ?_, ?_, ?_, by simp⟩
  · have := set5 hz (.int .i64 tb) (.bool ti) (.bool to) (.int .i64 tr) (.int .i64 tx)
    exact this
  · exact (k5.cell (by omega) (by show ¬ sd = _; omega)).trans g1
  · exact (k5.cell (by omega) (by show ¬ W.heap.size = _; omega)).trans g2

end
end Go.Proofs.YthfimgeopciiiaaGreat

/-
  The law's ended, given what asks does on Look and what step does on Scan.
-/
namespace Go.Proofs.YthfimgeopciiiaaGreat
open Go.MapKept Go.ChangeMaps Go.Maps Go.RowKit Go.MuLone
set_option linter.unusedVariables false

/-- asks, of Look -/
def LookOk (w : World) (sd : Nat) : Prop := ∀ (W : World) (s : Sto) (m : MRef) (M : MW) (N : Nat), Two w W s m M sd → Lg s m M N → N + 1 ≤ 2097152 → ∀ o : OpV, (Lit.int .i64 o.h).wf = true → o.kind = 8 →
  Calls Tryz.prog 74 #[.pointer (some ⟨sd, 0, none⟩), .agg o.cells] W fun e W' => e = .returned (.bool true) ∧ Asked w W' s m M sd N

/-- step, of a kind -/
def LawOk (w : World) (sd : Nat) (k : Int) : Prop := ∀ (W : World) (s : Sto) (m : MRef) (M : MW) (N : Nat), Two w W s m M sd → Lg s m M N → N + 1 ≤ 2097152 → ∀ o : OpV, (Lit.int .i64 o.h).wf = true → o.kind = k →
  Calls Tryz.prog 37 #[.pointer (some ⟨M.wb, 0, none⟩), .pointer (some ⟨sd, 0, none⟩), .agg o.cells] W fun e W' => e = .returned (.bool true) ∧ Stepped w W' s m M sd N

/-- in ended's loops: K steps have been, and as many transactions as at first -/
def Ed (w W : World) (s : Sto) (m : MRef) (M : MW) (sd K : Nat) : Prop := ∃ s' m' M', Two w W s' m' M' sd ∧ s'.sb = s.sb ∧ m'.sb = m.sb ∧ M'.wb = M.wb ∧ M'.sv = M.sv ∧ Lg s' m' M' K ∧ m'.txs.length = m.txs.length

/-- behind ended's loops -/
def Ed2 (w W : World) (s : Sto) (m : MRef) (M : MW) (sd K : Nat) : Prop := ∃ s' m' M', Two w W s' m' M' sd ∧ s'.sb = s.sb ∧ m'.sb = m.sb ∧ M'.wb = M.wb ∧ M'.sv = M.sv ∧ Lg s' m' M' K

section
variable {w W : World} {s : Sto} {m : MRef} {M : MW} {sd N K : Nat}

theorem Two.len_at (T : Two w W s m M sd) : ∃ a cap, W.cell? ⟨m.sb, 5, none⟩ = some (.slice a m.txs.length cap) := by
  obtain ⟨tag, R⟩ := T.rf
  obtain ⟨a, cap, e, -⟩ := R.txsAt
  exact ⟨a, cap, by rw [← e]; exact R.cell.2.2.2.2.2.1⟩

theorem Ed.view (E : Ed w W s m M sd K) : W.cell? ⟨sd, 0, none⟩ = some (.pointer (some ⟨s.sb, 0, none⟩)) ∧ W.cell? ⟨sd, 1, none⟩ = some (.pointer (some ⟨m.sb, 0, none⟩)) ∧ ∃ a cap, W.cell? ⟨m.sb, 5, none⟩ = some (.slice a m.txs.length cap) := by
  obtain ⟨s', m', M', T, e1, e2, e3, e4, L, e5⟩ := E
  obtain ⟨d0, d1, -⟩ := T.side
  obtain ⟨a, cap, h⟩ := T.len_at
  rw [e1] at d0
  rw [e2] at d1 h
  rw [e5] at h
  exact ⟨d0, d1, a, cap, h⟩

theorem Ed2.view (E : Ed2 w W s m M sd K) : ∃ n a cap, n ≤ K ∧ W.cell? ⟨sd, 0, none⟩ = some (.pointer (some ⟨s.sb, 0, none⟩)) ∧ W.cell? ⟨sd, 1, none⟩ = some (.pointer (some ⟨m.sb, 0, none⟩)) ∧ W.cell? ⟨m.sb, 5, none⟩ = some (.slice a n cap) := by
  obtain ⟨s', m', M', T, e1, e2, e3, e4, L⟩ := E
  obtain ⟨d0, d1, -⟩ := T.side
  obtain ⟨a, cap, h⟩ := T.len_at
  have hl := L.len
  rw [e1] at d0
  rw [e2] at d1 h
  exact ⟨_, a, cap, hl, d0, d1, h⟩

theorem Ed.two (E : Ed w W s m M sd K) : Ed2 w W s m M sd K := by
  obtain ⟨s', m', M', T, e1, e2, e3, e4, L, e5⟩ := E
  exact ⟨s', m', M', T, e1, e2, e3, e4, L⟩

theorem Ed.asks (E : Ed w W s m M sd K) (hK : K + 1 ≤ 2097152) (hL : LookOk w sd) (k h : Int) (hw : (Lit.int .i64 h).wf = true) (hk : k = 5 ∨ k = 6 ∨ k = 8 ∨ k = 9) :
    Calls Tryz.prog 74 #[.pointer (some ⟨sd, 0, none⟩), .agg #[.int .i64 k, .int .i64 h, .string ⟨#[]⟩, .string ⟨#[]⟩, .slice none 0 0, .slice none 0 0, .slice none 0 0, .bool false]] W fun e W' => e = .returned (.bool true) ∧ Ed w W' s m M sd (K + 1) := by
  obtain ⟨s', m', M', T, e1, e2, e3, e4, L, e5⟩ := E
  have key : Calls Tryz.prog 74 #[.pointer (some ⟨sd, 0, none⟩), .agg (⟨k, h, ⟨#[]⟩, ⟨#[]⟩, none, 0, 0, none, 0, 0, none, 0, 0, false⟩ : OpV).cells] W fun e W' => e = .returned (.bool true) ∧ Asked w W' s' m' M' sd K := by
    rcases hk with rfl | rfl | rfl | rfl
    · exact asks_commit T L hK _ hw rfl
    · exact asks_abort T L hK _ hw rfl
    · exact hL _ _ _ _ _ T L hK _ hw rfl
    · exact asks_told T L hK _ rfl
  refine key.mono fun e W' ⟨h1, s2, m2, M2, T2, f1, f2, f3, f4, L2, f5⟩ => ⟨h1, s2, m2, M2, T2, f1.trans e1, f2.trans e2, f3.trans e3, f4.trans e4, L2, f5.trans e5⟩

theorem Ed2.asks (E : Ed2 w W s m M sd K) (hK : K + 1 ≤ 2097152) :
    Calls Tryz.prog 74 #[.pointer (some ⟨sd, 0, none⟩), .agg #[.int .i64 9, .int .i64 0, .string ⟨#[]⟩, .string ⟨#[]⟩, .slice none 0 0, .slice none 0 0, .slice none 0 0, .bool false]] W fun e W' => e = .returned (.bool true) ∧ Ed2 w W' s m M sd (K + 1) := by
  obtain ⟨s', m', M', T, e1, e2, e3, e4, L⟩ := E
  have key := asks_told T L hK ⟨9, 0, ⟨#[]⟩, ⟨#[]⟩, none, 0, 0, none, 0, 0, none, 0, 0, false⟩ rfl
  exact key.mono fun e W' ⟨h1, s2, m2, M2, T2, f1, f2, f3, f4, L2, f5⟩ => ⟨h1, s2, m2, M2, T2, f1.trans e1, f2.trans e2, f3.trans e3, f4.trans e4, L2⟩

theorem Ed2.step (E : Ed2 w W s m M sd K) (hK : K + 1 ≤ 2097152) (k h : Int) (hS : LawOk w sd k) (hw : (Lit.int .i64 h).wf = true) :
    Calls Tryz.prog 37 #[.pointer (some ⟨M.wb, 0, none⟩), .pointer (some ⟨sd, 0, none⟩), .agg #[.int .i64 k, .int .i64 h, .string ⟨#[]⟩, .string ⟨#[]⟩, .slice none 0 0, .slice none 0 0, .slice none 0 0, .bool false]] W fun e W' => e = .returned (.bool true) ∧ Ed2 w W' s m M sd (K + 1) := by
  obtain ⟨s', m', M', T, e1, e2, e3, e4, L⟩ := E
  have key := hS _ _ _ _ _ T L hK ⟨k, h, ⟨#[]⟩, ⟨#[]⟩, none, 0, 0, none, 0, 0, none, 0, 0, false⟩ hw rfl
  rw [e3] at key
  exact key.mono fun e W' ⟨h1, s2, m2, M2, T2, f1, f2, f3, f4, L2⟩ => ⟨h1, s2, m2, M2, T2, f1.trans e1, f2.trans e2, f3.trans e3, f4.trans e4, L2⟩

theorem Ed2.clean (E : Ed2 w W s m M sd K) (hK : K + 1 ≤ 2097152) :
    Calls Tryz.prog 20 #[.pointer (some ⟨s.sb, 0, none⟩)] W fun e W2 => e = .returned (.tuple #[]) ∧ W2.cell? ⟨sd, 1, none⟩ = some (.pointer (some ⟨m.sb, 0, none⟩)) ∧ Hid (Calls Tryz.prog 73 #[.pointer (some ⟨m.sb, 0, none⟩)] W2 fun e W4 => e = .returned (.tuple #[]) ∧ Ed2 w W4 s m M sd (K + 1)) := by
  obtain ⟨s', m', M', T, e1, e2, e3, e4, L⟩ := E
  have hB := both_clean T L hK W (Keeps.refl _ _)
  rw [e1] at hB
  refine hB.mono fun e W2 ⟨h1, s2, T2, f1, _, hY⟩ => ⟨h1, by have := T2.side.2.1; rw [e2] at this; exact this, ?_⟩
  have hY := hY W2 (Keeps.refl _ _)
  rw [e2] at hY
  exact hY.mono fun e W4 ⟨h2, m2, T4, g2, _, L4⟩ => ⟨h2, s2, m2, M', T4, f1, g2, e3, e4, L4⟩

end
end Go.Proofs.YthfimgeopciiiaaGreat

/-
  The law's ended: the walk.
-/
namespace Go.Proofs.YthfimgeopciiiaaGreat
open Go.MapKept Go.ChangeMaps Go.Maps Go.RowKit Go.MuLone
set_option linter.unusedVariables false

section
variable {w W : World} {s : Sto} {m : MRef} {M : MW} {sd N : Nat}

set_option maxRecDepth 100000 in
set_option maxHeartbeats 8000000 in
theorem ended_h (T : Two w W s m M sd) (L : Lg s m M N) (hN : 4 * N + 7 ≤ 2097152) (hL : LookOk w sd) (h1 : LawOk w sd 1) (h3 : LawOk w sd 3) :
    Calls Tryz.prog 39 #[.pointer (some ⟨M.wb, 0, none⟩), .pointer (some ⟨sd, 0, none⟩)] W fun e W' => e = .returned (.bool true) ∧ ∃ K, Ed2 w W' s m M sd K := by
  have hl := L.len
  have E0 : Ed w W s m M sd N := ⟨s, m, M, T, rfl, rfl, rfl, rfl, L, rfl⟩
  obtain ⟨TL, hTL⟩ : ∃ n, n = m.txs.length := ⟨_, rfl⟩
  have HV : Hid (∀ wr K, Ed w wr s m M sd K → wr.cell? ⟨sd, 0, none⟩ = some (.pointer (some ⟨s.sb, 0, none⟩)) ∧ wr.cell? ⟨sd, 1, none⟩ = some (.pointer (some ⟨m.sb, 0, none⟩)) ∧ ∃ a cap, wr.cell? ⟨m.sb, 5, none⟩ = some (.slice a TL cap)) := fun wr K E => by rw [hTL]; exact E.view
  rw [← hTL] at hl
  have HT := hidC (E0.asks (by omega) hL 9 0 (by decide) (.inr (.inr (.inr rfl))))
  clear T L E0 hTL
  go_enter Tryz.func39, Tryz.ntmps39
  go_wp2_with (go_at_call 74; refine HT.out.mono ?_; rintro e W1 ⟨rfl, E1⟩)
  have HE1 := hidC' E1
  clear HT E1
  have hwr : IntKind.i64.wrap ((TL : Int) + 1) = (TL : Int) + 1 := by simp [IntKind.wrap, IntKind.bits, IntKind.signed]; omega
  go_loopw [5, 6] (fun u i wr => ∃ k : Nat, u = .bool true ∧ i = .int .i64 k ∧ k ≤ TL + 2 ∧ Hid (Ed w wr s m M sd (N + 1 + k))) (fun _ i _ => TL + 2 - (intOf i).toNat)
  case atStart => exact ⟨0, rfl, rfl, by omega, HE1⟩
  case round =>
    obtain ⟨k, rfl, rfl, hk, HE⟩ := hrel
    obtain ⟨d0, d1, a, cap, d5⟩ := HV.out _ _ HE.out
    by_cases hlt : k < TL + 2
    · have hlt' : (k : Int) ≤ (TL : Int) + 1 := by omega
      have HA := hidC (HE.out.asks (by omega) hL 8 k (wf_i64 (by omega) (by omega)) (.inr (.inr (.inl rfl))))
      clear HE HE1 HV d0
      go_wp2_with (go_at_call 74; refine HA.out.mono ?_; rintro e W2 ⟨rfl, E2⟩)
      exact ⟨⟨k + 1, rfl, by go_num, by omega, E2⟩, by simp [intOf]; omega⟩
    · have hge : ¬ (k : Int) ≤ (TL : Int) + 1 := by omega
      have hke : k = TL + 2 := by omega
      subst hke
      have HE2 := hidC' HE.out
      clear HE HE1 d0
      go_wp2
      clear d1 d5 hge
      go_loopw [5, 7] (fun u i wr => ∃ k : Nat, u = .bool true ∧ i = .int .i64 ((k : Int) + 1) ∧ k ≤ TL ∧ Hid (Ed w wr s m M sd (N + 3 + TL + 2 * k))) (fun _ i _ => TL + 1 - (intOf i).toNat)
      case atStart => exact ⟨0, rfl, rfl, by omega, by have h := HE2.out; exact hidC' (by rw [show N + 3 + TL + 2 * 0 = N + 1 + (TL + 2) by omega]; exact h)⟩
      case round =>
        obtain ⟨k, rfl, rfl, hk, HE⟩ := hrel
        obtain ⟨d0, d1, a, cap, d5⟩ := HV.out _ _ HE.out
        by_cases hlt : k < TL
        · have hlt' : (k : Int) + 1 ≤ (TL : Int) := by omega
          have HA : Hid (Calls Tryz.prog 74 #[.pointer (some ⟨sd, 0, none⟩), .agg #[.int .i64 5, .int .i64 ((k : Int) + 1), .string ⟨#[]⟩, .string ⟨#[]⟩, .slice none 0 0, .slice none 0 0, .slice none 0 0, .bool false]] wr fun e W' => e = .returned (.bool true) ∧ Hid (Calls Tryz.prog 74 #[.pointer (some ⟨sd, 0, none⟩), .agg #[.int .i64 6, .int .i64 ((k : Int) + 1), .string ⟨#[]⟩, .string ⟨#[]⟩, .slice none 0 0, .slice none 0 0, .slice none 0 0, .bool false]] W' fun e W' => e = .returned (.bool true) ∧ Ed w W' s m M sd (N + 3 + TL + 2 * (k + 1)))) := hidC ((HE.out.asks (by omega) hL 5 ((k : Int) + 1) (wf_i64 (by omega) (by omega)) (.inl rfl)).mono fun e W' ⟨e1, E1⟩ => ⟨e1, by
            have h := E1.asks (by omega) hL 6 ((k : Int) + 1) (wf_i64 (by omega) (by omega)) (.inr (.inl rfl))
            rw [show N + 3 + TL + 2 * k + 1 + 1 = N + 3 + TL + 2 * (k + 1) by omega] at h
            exact h⟩)
          clear HE HE2 HV d0
          go_wp2_with (first
            | (go_at_call 74; refine HA.out.mono ?_; rintro e W2 ⟨rfl, HB⟩; clear HA)
            | (go_at_call 74; refine HB.out.mono ?_; rintro e W3 ⟨rfl, E2⟩))
          exact ⟨⟨k + 1, rfl, by go_num, by omega, E2⟩, by simp [intOf]; omega⟩
        · have hge : ¬ (k : Int) + 1 ≤ (TL : Int) := by omega
          have hke : k = TL := by omega
          subst hke
          have HC := hidC (HE.out.two.clean (by omega))
          clear HE HE2 HV
          go_wp2_with (first
            | (go_at_call 20; refine HC.out.mono ?_; rintro e W2 ⟨rfl, g1, HY⟩; clear HC)
            | (go_at_call 73; refine HY.out.mono ?_; rintro e W3 ⟨rfl, E3⟩; have HA := hidC (E3.asks (by omega)); clear HY E3)
            | (go_at_call 74; refine HA.out.mono ?_; rintro e W4 ⟨rfl, E4⟩; have HB := hidC (E4.step (by omega) 1 0 h1 (by decide)); clear HA E4)
            | (go_at_call 37; refine HB.out.mono ?_; rintro e W5 ⟨rfl, E5⟩; obtain ⟨n5, a5, cap5, hn5, -, y1, y5⟩ := E5.view; have HD := hidC (E5.step (by omega) 3 n5 h3 (wf_i64 (by omega) (by omega))); clear HB E5)
            | (go_at_call 37; refine HD.out.mono ?_; rintro e W6 ⟨rfl, E6⟩))
          go_ret
          exact ⟨rfl, _, E6⟩

end
end Go.Proofs.YthfimgeopciiiaaGreat

/-
  The law's play: how it starts.
-/
namespace Go.Proofs.YthfimgeopciiiaaGreat
open Go.MapKept Go.ChangeMaps Go.Maps Go.RowKit Go.MuLone
set_option linter.unusedVariables false

def newW (wb : Nat) (sv : Value) : MW := ⟨wb, sv, .slice none 0 0, .slice none 0 0, .slice none 0 0, [], [], [], 0⟩

theorem newW_has {wb b : Nat} {sv : Value} : (newW wb sv).has b → b = wb := fun h => by
  rcases h with h | h | h | h | ⟨p, hp, _⟩ | ⟨p, hp, _⟩
  · exact h
  · simp [newW, Value.ownBlock] at h
  · simp [newW, Value.ownBlock] at h
  · simp [newW, Value.ownBlock] at h
  · simp [newW] at hp
  · simp [newW] at hp

theorem newW_in {W : World} {base wb : Nat} {sv : Value} (hb : base ≤ wb) (h : W.heap[wb]? = some (.cells (newW wb sv).cells 96)) : WIn W base (newW wb sv) :=
  ⟨fun _ => 0, {
    own := h
    hb := hb
    pr := World.ownsRow_nil _ _ _ _
    mq := World.ownsRow_nil _ _ _ _
    ch := World.ownsRow_nil _ _ _ _
    kp := fun p hp => by simp [newW] at hp
    kc := fun p hp => by simp [newW] at hp
    gw := rfl
    gp := fun b e => by simp [newW, Value.ownBlock] at e
    gq := fun b e => by simp [newW, Value.ownBlock] at e
    gc := fun b e => by simp [newW, Value.ownBlock] at e
    gk := fun p hp => by simp [newW] at hp
    gl := fun p hp => by simp [newW] at hp }⟩

theorem refNew_has {sb b : Nat} {c1 c2 c3 c4 : Int} : (refNew sb c1 c2 c3 c4).has b → b = sb := fun h => by
  rcases h with h | h | h | ⟨i, x, hx, _⟩
  · exact h
  · simp [refNew, Value.ownBlock] at h
  · simp [refNew, Value.ownBlock] at h
  · simp [refNew] at hx

theorem newSto_footL {a b c d : Int} {P : Nat} : ∀ x ∈ (newSto a b c d P (P + 2)).foot, P ≤ x ∧ x < P + 3 := fun x hx => by
  simp [newSto, Sto.foot, Value.ownBlock] at hx; omega

theorem newSto_invL {a b c d : Int} (h : configB a b c d = true) (N L : Nat) : (newSto a b c d N L).abs.Inv 0 := by
  have hp := h
  unfold configB withinB at hp
  simp only [Bool.and_eq_true, decide_eq_true_eq] at hp
  exact {
    cfg := h
    txs := by simp [newSto, Sto.abs]; omega
    reads := by simp [newSto, Sto.abs, Abs.nReads, sumN]; omega
    writes := by simp [newSto, Sto.abs]
    vers := by simp [newSto, Sto.abs, totV, sumN]; omega
    begun := by simp [newSto, Sto.abs]
    clock := by simp [newSto, Sto.abs]
    hs := by simp [newSto, Sto.abs]
    bgs := by simp [newSto, Sto.abs]
    nd := by simp [newSto, Sto.abs]
    wnd := by simp [newSto, Sto.abs]
    gone := by simp [newSto, Sto.abs]
    vgone := by simp [newSto, Sto.abs]
    vnd := by simp [newSto, Sto.abs]
    vne := by simp [newSto, Sto.abs] }

theorem new_is {a b c d : Int} (N L sb : Nat) : RefIs (newSto a b c d N L).abs (refNew sb a b c d).rs where
  c1 := rfl
  c2 := rfl
  c3 := rfl
  c4 := rfl
  clock := rfl
  len := rfl
  txs := rfl
  hs := fun j r h => by simp [refNew, MRef.rs] at h
  st := fun r h => by simp [refNew, MRef.rs] at h
  st0 := fun r h => by simp [refNew, MRef.rs] at h
  st1 := fun r h => by simp [refNew, MRef.rs] at h
  old := fun r h => by simp [refNew, MRef.rs] at h
  i0 := fun r h => by simp [refNew, MRef.rs] at h
  vs := fun k => rfl
  tot := rfl
  srt := List.Pairwise.nil
  stamps := fun p h => by simp [refNew, MRef.rs] at h

theorem new_lg {a b c d : Int} (h : configB a b c d = true) (N L sb wb : Nat) (sv : Value) : Lg (newSto a b c d N L) (refNew sb a b c d) (newW wb sv) 0 where
  is := new_is N L sb
  inv := newSto_invL h N L
  bd := ⟨fun j r h => by simp [refNew, MRef.rs] at h, fun r h => by simp [refNew, MRef.rs] at h, fun r h => by simp [refNew, MRef.rs] at h, fun r h => by simp [refNew, MRef.rs] at h, fun r h => by simp [refNew, MRef.rs] at h, fun r h => by simp [refNew, MRef.rs] at h⟩
  n := by omega
  mks := rfl
  prs := by simp [newW]
  chs := by simp [newW]
  last := by simp [newW]

/-- both stores, new, and the law's world -/
theorem new_two {w W : World} {a b c d : Int} {P sb wb sd : Nat} {sv : Value} (q : Quiet w W) (hS : StAt W (newSto a b c d P (P + 2))) (hR : RefIn W w.heap.size (refNew sb a b c d))
    (hW : W.heap[wb]? = some (.cells (newW wb sv).cells 96)) (hD : W.heap[sd]? = some (.cells #[.pointer (some ⟨P + 2, 0, none⟩), .pointer (some ⟨sb, 0, none⟩)] 104))
    (hV : ∀ g, sv.ownBlock = some g → g < W.heap.size ∧ W.cell? ⟨g, 0, none⟩ = some (.pointer (some ⟨sd, 0, none⟩)) ∧ sd < g) (h1 : w.heap.size ≤ wb) (h2 : wb < P) (h3 : P + 3 ≤ sb) (h4 : sb < sd) : Two w W (newSto a b c d P (P + 2)) (refNew sb a b c d) (newW wb sv) sd where
  quiet := q
  st := hS
  mu := rfl
  low := fun x hx => by have := newSto_footL x hx; omega
  rf := hR
  wo := newW_in h1 hW
  sd_at := hD
  sd_low := by omega
  a1 := fun x hx h => by have := newSto_footL x hx; have := refNew_has h; omega
  a2 := fun x hx h => by have := newSto_footL x hx; have := newW_has h; omega
  a3 := fun x h h' => by have := refNew_has h; have := newW_has h'; omega
  a4 := fun hx => by have := newSto_footL _ hx; omega
  a5 := fun h => by have := refNew_has h; omega
  a6 := fun h => by have := newW_has h; omega
  sv_at := fun g h => by
    obtain ⟨g1, g2, g3⟩ := hV g h
    exact ⟨g1, g2, fun hx => by have := newSto_footL _ hx; omega, fun h => by have := refNew_has h; omega, fun h => by have := newW_has h; omega⟩

end Go.Proofs.YthfimgeopciiiaaGreat

/-
  The law's play: a config that is none.
-/
namespace Go.Proofs.YthfimgeopciiiaaGreat
open Go.MapKept Go.ChangeMaps Go.Maps Go.RowKit Go.MuLone
set_option linter.unusedVariables false

set_option maxRecDepth 100000 in
set_option maxHeartbeats 8000000 in
theorem play_no (w : World) (a b c d : Int) (hc : configB a b c d = false) (g : Nat) (hg : w.heap[g]? = some (.cells #[.int .i64 a, .int .i64 b, .int .i64 c, .int .i64 d] 23)) (va : Option Addr) (vl vc : Nat) :
    Calls Tryz.prog 12 #[.slice (some ⟨g, 0, none⟩) 1 1, .slice va vl vc, .int .i64 9] w fun e w' => e = .returned (.bool true) ∧ Quiet w w' := by
  have heqX : ∀ (W : World), (binOp .eql 29 (.pointer none) (.pointer none)).run Tryz.prog W = .ok (.bool true) W := fun W => by kernel_rfl
  have heqY : ∀ (W : World), (binOp .eql 99 (.pointer none) (.pointer none)).run Tryz.prog W = .ok (.bool true) W := fun W => by kernel_rfl
  have HX : Hid (∀ W, Quiet w W → Calls Tryz.prog 35 #[.agg #[.int .i64 a, .int .i64 b, .int .i64 c, .int .i64 d]] W fun e w' => e = .returned (.tuple #[.pointer none, .int .i64 1]) ∧ Quiet w w' ∧ w'.cell? ⟨g, 0, none⟩ = some (.int .i64 a) ∧ w'.cell? ⟨g, 1, none⟩ = some (.int .i64 b) ∧ w'.cell? ⟨g, 2, none⟩ = some (.int .i64 c) ∧ w'.cell? ⟨g, 3, none⟩ = some (.int .i64 d)) := fun W q => (New_bad a b c d W hc).mono fun e w' ⟨e1, e2⟩ => by
    have q2 := Quiet.trans' q e2
    have hb := (q2.block g (lt_of_heap hg) id).trans hg
    exact ⟨e1, q2, by rw [cell_of_heap hb]; rfl, by rw [cell_of_heap hb]; rfl, by rw [cell_of_heap hb]; rfl, by rw [cell_of_heap hb]; rfl⟩
  have HY : Hid (∀ W, Quiet w W → Calls Tryz.prog 36 #[.agg #[.int .i64 a, .int .i64 b, .int .i64 c, .int .i64 d]] W fun e w' => e = .returned (.tuple #[.pointer none, .int .i64 1]) ∧ Quiet w w') := fun W q => (rNew_no W a b c d hc).mono fun e w' ⟨e1, e2⟩ => ⟨e1, Quiet.trans' q e2⟩
  have c0 : w.cell? ⟨g, 0, none⟩ = some (.int .i64 a) := by rw [cell_of_heap hg]; rfl
  have c1 : w.cell? ⟨g, 1, none⟩ = some (.int .i64 b) := by rw [cell_of_heap hg]; rfl
  have c2 : w.cell? ⟨g, 2, none⟩ = some (.int .i64 c) := by rw [cell_of_heap hg]; rfl
  have c3 : w.cell? ⟨g, 3, none⟩ = some (.int .i64 d) := by rw [cell_of_heap hg]; rfl
  have hgl := lt_of_heap hg
  clear hg hc
  go_enter Tryz.func12, Tryz.ntmps12
  go_wp2
  go_loopw [9] (fun i wr => i = .int .i64 0 ∧ Quiet w wr) (fun _ _ => 0)
  case atStart => exact ⟨rfl, Keeps.alloc _ _⟩
  case round =>
    obtain ⟨rfl, hq⟩ := hrel
    rw [← hq.cell hgl (by simp)] at c0 c1 c2 c3
    go_wp2_with (first
      | (go_at_call 35; refine (HX.out _ hq).mono ?_; rintro e w2 ⟨rfl, q2, x0, x1, x2, x3⟩; clear HX)
      | (go_at_call 36; refine (HY.out _ q2).mono ?_; rintro e w3 ⟨rfl, q3⟩))
    go_ret
    exact ⟨rfl, q3⟩

end Go.Proofs.YthfimgeopciiiaaGreat

/-
  The law's play: the row of sides.
-/
namespace Go.Proofs.YthfimgeopciiiaaGreat
open Go.MapKept Go.ChangeMaps Go.Maps Go.RowKit Go.MuLone
set_option linter.unusedVariables false

set_option maxRecDepth 100000 in
theorem sides_grow (w : World) (sd : Nat) : ∃ g c5 W5, (Builtin.append_ #[89, 89] 89 #[.slice none 0 0, .slice (some ⟨w.heap.size, 0, none⟩) 1 1]).run Tryz.prog (w.alloc (.cells #[.pointer (some ⟨sd, 0, none⟩)] 102)) = .ok (.slice (some ⟨g, 0, none⟩) 1 c5) W5 ∧ Quiet w W5 ∧ w.heap.size < g ∧ g < W5.heap.size ∧ W5.cell? ⟨g, 0, none⟩ = some (.pointer (some ⟨sd, 0, none⟩)) := by
  obtain ⟨i0, hi⟩ : ∃ i, Tryz.prog.info? 102 = some i := ⟨_, rfl⟩
  have hi0 : i0.zero = some (.pointer none) := by cases hi; rfl
  have hi1 : i0.size = 1 := by cases hi; rfl
  have hi2 : i0.bytes = 8 := by cases hi; rfl
  obtain ⟨a5, c5, W5, G⟩ := grow_rowQ (fun v : Nat => [Value.pointer (some ⟨v, 0, none⟩)]) (t := 89) (k := 1) (base := w.heap.size) (fun _ => rfl) (by omega) Tryz.underlying89 hi hi0 hi1 hi2 (by kernel_rfl) (w := w) (v := .slice none 0 0) (l := ([] : List Nat)) (World.ownsRow_nil _ _ _ _) sd (by simp [Value.oneCell']) (Nat.le_refl _) (by simp) (by omega)
  obtain ⟨a, cap, e1, h⟩ := row_at (fun v : Nat => [Value.pointer (some ⟨v, 0, none⟩)]) (fun _ => rfl) G.row
  rcases h with h | ⟨g, rfl, hg, h1, h2, -, h4⟩
  · simp at h
  have e2 : a5 = some ⟨g, 0, none⟩ := by injection e1
  subst e2
  refine ⟨g, c5, W5, G.app, G.gr.mono (fun b hb => by simp [Value.ownBlock] at hb), ?_, h2, ?_⟩
  · rcases G.loc g (by rfl) with h | h
    · simp [Value.ownBlock] at h
    · exact h
  · have := h4 0 sd (by rfl) 0 (Nat.zero_lt_one)
    simpa using this

end Go.Proofs.YthfimgeopciiiaaGreat
