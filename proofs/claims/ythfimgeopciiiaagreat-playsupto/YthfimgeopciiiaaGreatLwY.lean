/-
  The law's scans.
-/
import Derived.Test.YthfimgeopciiiaaGreatLwI
import Derived.Deep.RegionHeld3
import Derived.Test.YthfimgeopciiiaaGreatLwP
namespace Go.Proofs.YthfimgeopciiiaaGreat
open Go.MapKept Go.ChangeMaps Go.Maps Go.RowKit Go.MuLone
set_option linter.unusedVariables false

/-- what is known behind both Scans -/
def Scanned (w W4 : World) (s : Sto) (m : MRef) (M : MW) (sd N : Nat) (v u : Value) : Prop := ∀ W5, Quiet W4 W5 →
  (Calls Tryz.prog 119 #[v, u] W5 fun e W6 => e = .returned (.bool true) ∧ Quiet W5 W6) ∧
  (Calls Tryz.prog 38 #[.pointer (some ⟨M.wb, 0, none⟩)] W5 fun e W6 => e = .returned (.bool true) ∧ Quiet W5 W6) ∧
  Calls Tryz.prog 120 #[.pointer (some ⟨M.wb, 0, none⟩), v] W5 fun e W6 => e = .returned (.tuple #[]) ∧ Stepped w W6 s m M sd N

section
variable {w W : World} {s : Sto} {m : MRef} {M : MW} {sd N : Nat}

theorem scan_two (T : Two w W s m M sd) (L : Lg s m M N) (hN : N + 1 ≤ 2097152) (h : Int) (hw : (Lit.int .i64 h).wf = true) (lo hi : ByteArray) :
    ∃ er, ∀ W1, Quiet W W1 → Calls Tryz.prog 41 #[.pointer (some ⟨s.sb, 0, none⟩), .int .i64 h, .string lo, .string hi] W1 fun e W2 => ∃ a l c, e = .returned (.tuple #[.slice a l c, .int .i64 er]) ∧ W2.cell? ⟨sd, 0, none⟩ = some (.pointer (some ⟨s.sb, 0, none⟩)) ∧ W2.cell? ⟨sd, 1, none⟩ = some (.pointer (some ⟨m.sb, 0, none⟩)) ∧ Keeps (fun b => b ∈ s.foot) W1 W2 ∧
      ∀ W3, Quiet W2 W3 → Calls Tryz.prog 118 #[.pointer (some ⟨m.sb, 0, none⟩), .int .i64 h, .string lo, .string hi] W3 fun e W4 => ∃ a2 c2, e = .returned (.tuple #[.slice a2 l c2, .int .i64 er]) ∧ Keeps m.has W3 W4 ∧ Scanned w W4 s m M sd N (.slice a l c) (.slice a2 l c2) := by
  obtain ⟨er, hX⟩ := both_scan T L hN h hw lo hi
  refine ⟨er, fun W1 q1 => (hX W1 q1).mono fun e W2 ⟨v, l, e1, hl, hP, s', hvf, T2, esb, hk, hY⟩ => ?_⟩
  have hlt := hP.lt
  obtain ⟨a, c, rfl, -⟩ := hP.at
  obtain ⟨d0, d1, -⟩ := T2.side
  rw [esb] at d0
  refine ⟨a, l.length, c, e1, d0, d1, hk, fun W3 q3 => (hY W3 q3).mono fun e W4 ⟨u, f1, hU, m', T4, emb, hk4, hfr, L4⟩ => ?_⟩
  obtain ⟨a2, c2, rfl, -⟩ := id hU
  refine ⟨a2, c2, f1, hk4, fun W5 q5 => ?_⟩
  have T5 := T4.still q5
  have s1 := q1.size
  have s3 := q3.size
  have s4 := hk4.size
  have s5 := q5.size
  have s0 := T.quiet.size
  have hsd := lt_of_heap T.sd_at
  have hm : ∀ b, (Value.slice a l.length c).ownBlock = some b → ¬ m.has b := fun b e hm => by
    have := (T.rf.lt hm).2
    have := (hlt b e).1
    omega
  have hP4 : PrSl W1.heap.size W5 (.slice a l.length c) l := ownsRow_of_block hP (fun b e => by
    have := (hlt b e).2
    exact (q5.block b (by omega) id).trans ((hk4.block b (by omega) (hm b e)).trans (q3.block b this id)))
  have hn := L4.n
  have hch := L4.chs
  have hpr := L4.prs
  have hpr0 := L.prs
  have hla := L.last
  refine ⟨samePairs_h W5 _ _ l (PrAt.of_sl hP4) (hU.quiet q5) (by omega), kept_h T5.wo (by omega) (by omega) L4.mks, ?_⟩
  refine (keepPairs_h T5.wo (ownsRow_low hP4 (by omega)) (fun b e hM => ?_) L4.mks (by omega) (by omega) (by omega)).mono fun e W6 ⟨g1, M', k⟩ => ⟨g1, s', m', M', T5.turnM k (fun b e => ?_), esb, emb, k.wb, k.sv, ?_⟩
  · have := (T.wo.lt hM).2
    have := (hlt b e).1
    omega
  · have h1 := (hlt b e).1
    have h2 := (hlt b e).2
    refine ⟨by omega, by omega, hvf b e, fun hm' => ?_, by omega, fun hs => ?_⟩
    · rcases hfr b hm' with h | h
      · exact hm b e h
      · omega
    · have := (T.sv_at b hs).1
      omega
  · exact { L4 with mks := k.mks, prs := by rw [k.len]; omega, chs := by rw [k.chs]; exact L4.chs, last := by rw [k.last]; push_cast; omega }

set_option maxRecDepth 100000 in
set_option maxHeartbeats 8000000 in
theorem scans_h (T : Two w W s m M sd) (L : Lg s m M N) (hN : N + 1 ≤ 2097152) (o : OpV) (hw : (Lit.int .i64 o.h).wf = true) :
    Calls Tryz.prog 70 #[.pointer (some ⟨M.wb, 0, none⟩), .pointer (some ⟨sd, 0, none⟩), .agg o.cells] W fun e W' => e = .returned (.bool true) ∧ Stepped w W' s m M sd N := by
  obtain ⟨er, hX⟩ := scan_two T L hN o.h hw o.key o.hi
  obtain ⟨ki, h, key, hi, la, ll, lc, pa, pl, pc, ta, tl, tc, wh⟩ := o
  simp only at hX
  unfold OpV.cells
  simp only
  have hqb : Quiet W (W.alloc (.cells #[.int .i64 ki, .int .i64 h, .string key, .string hi, .slice la ll lc, .slice pa pl pc, .slice ta tl tc, .bool wh] 106)) := Keeps.alloc _ _
  have hbb : (W.alloc (.cells #[.int .i64 ki, .int .i64 h, .string key, .string hi, .slice la ll lc, .slice pa pl pc, .slice ta tl tc, .bool wh] 106)).heap[W.heap.size]? = some (.cells #[.int .i64 ki, .int .i64 h, .string key, .string hi, .slice la ll lc, .slice pa pl pc, .slice ta tl tc, .bool wh] 106) := heap_alloc_new _ _
  obtain ⟨WB, hWB⟩ : ∃ WB, WB = W.alloc (.cells #[.int .i64 ki, .int .i64 h, .string key, .string hi, .slice la ll lc, .slice pa pl pc, .slice ta tl tc, .bool wh] 106) := ⟨_, rfl⟩
  rw [← hWB] at hqb hbb
  have HWB := hidC' hWB
  clear hWB
  have hfl := T.foot_lt
  have hml : ∀ b, m.has b → b < W.heap.size := fun b hb => (T.rf.lt hb).2
  obtain ⟨d0', d1', hsd⟩ := T.side
  have d0 : WB.cell? ⟨sd, 0, none⟩ = some (.pointer (some ⟨s.sb, 0, none⟩)) := (hqb.cell hsd (by simp)).trans d0'
  have c1 : WB.cell? ⟨W.heap.size, 1, none⟩ = some (.int .i64 h) := by rw [cell_of_heap hbb]; rfl
  have c2 : WB.cell? ⟨W.heap.size, 2, none⟩ = some (.string key) := by rw [cell_of_heap hbb]; rfl
  have c3 : WB.cell? ⟨W.heap.size, 3, none⟩ = some (.string hi) := by rw [cell_of_heap hbb]; rfl
  have HX : Hid (∀ W1, Quiet WB W1 → Calls Tryz.prog 41 #[.pointer (some ⟨s.sb, 0, none⟩), .int .i64 h, .string key, .string hi] W1 fun e W2 => ∃ a l c, e = .returned (.tuple #[.slice a l c, .int .i64 er]) ∧ W2.cell? ⟨sd, 0, none⟩ = some (.pointer (some ⟨s.sb, 0, none⟩)) ∧ W2.cell? ⟨sd, 1, none⟩ = some (.pointer (some ⟨m.sb, 0, none⟩)) ∧ W2.cell? ⟨W.heap.size, 1, none⟩ = some (.int .i64 h) ∧ W2.cell? ⟨W.heap.size, 2, none⟩ = some (.string key) ∧ W2.cell? ⟨W.heap.size, 3, none⟩ = some (.string hi) ∧
      Hid (∀ W3, Quiet W2 W3 → Calls Tryz.prog 118 #[.pointer (some ⟨m.sb, 0, none⟩), .int .i64 h, .string key, .string hi] W3 fun e W4 => ∃ a2 c2, e = .returned (.tuple #[.slice a2 l c2, .int .i64 er]) ∧ W4.cell? ⟨sd, 1, none⟩ = some (.pointer (some ⟨m.sb, 0, none⟩)) ∧ W4.cell? ⟨W.heap.size, 1, none⟩ = some (.int .i64 h) ∧ W4.cell? ⟨W.heap.size, 2, none⟩ = some (.string key) ∧ W4.cell? ⟨W.heap.size, 3, none⟩ = some (.string hi) ∧ Hid (Scanned w W4 s m M sd N (.slice a l c) (.slice a2 l c2)))) := fun W1 q1 => by
    have hbl := (q1.block _ (lt_of_heap hbb) id).trans hbb
    refine (hX W1 (Quiet.trans' hqb q1)).mono fun e W2 ⟨a, l, c, e1, g0, g1, hk, hY⟩ => ?_
    have hb2 := (hk.block W.heap.size (lt_of_heap hbl) (fun hf => by have := hfl _ hf; omega)).trans hbl
    refine ⟨a, l, c, e1, g0, g1, by rw [cell_of_heap hb2]; rfl, by rw [cell_of_heap hb2]; rfl, by rw [cell_of_heap hb2]; rfl, fun W3 q3 => ?_⟩
    have hb3 := (q3.block _ (lt_of_heap hb2) id).trans hb2
    refine (hY W3 q3).mono fun e W4 ⟨a2, c2, f1, hk4, hS⟩ => ?_
    have hb4 := (hk4.block W.heap.size (lt_of_heap hb3) (fun hf => by have := hml _ hf; omega)).trans hb3
    have hsd3 : sd < W3.heap.size := by have := lt_of_heap hb3; omega
    have hsd2 : sd < W2.heap.size := by have := lt_of_heap hb2; omega
    refine ⟨a2, c2, f1, (hk4.cell hsd3 T.a5).trans ((q3.cell hsd2 (by simp)).trans g1), by rw [cell_of_heap hb4]; rfl, by rw [cell_of_heap hb4]; rfl, by rw [cell_of_heap hb4]; rfl, hS⟩
  clear T L hX hbb hqb hfl hml d0' d1' hw hN
  go_enter Tryz.func70, Tryz.ntmps70
  go_wp2
  rw [← HWB.out]
  clear HWB
  go_region_held3 (fun w' => w'.cell? ⟨sd, 0, none⟩ = some (.pointer (some ⟨s.sb, 0, none⟩)) ∧ w'.cell? ⟨W.heap.size, 1, none⟩ = some (.int .i64 h) ∧ w'.cell? ⟨W.heap.size, 2, none⟩ = some (.string key) ∧ w'.cell? ⟨W.heap.size, 3, none⟩ = some (.string hi)) (go_keep)
    (first | (go_at_call 41; refine (HX.out _ (by repeat (first | assumption | exact Keeps.refl _ _ | refine Quiet.trans' ?_ (Keeps.drew _)))).mono ?_; rintro e W2 ⟨a, l, c, rfl, g0, g1, g2, g3, g4, HY⟩))
  clear HX d0 c1 c2 c3
  go_wp2
  go_region_held3 (fun w' => w'.cell? ⟨sd, 1, none⟩ = some (.pointer (some ⟨m.sb, 0, none⟩)) ∧ w'.cell? ⟨W.heap.size, 1, none⟩ = some (.int .i64 h) ∧ w'.cell? ⟨W.heap.size, 2, none⟩ = some (.string key) ∧ w'.cell? ⟨W.heap.size, 3, none⟩ = some (.string hi)) (go_keep)
    (first | (go_at_call 118; refine (HY.out _ (by repeat (first | assumption | exact Keeps.refl _ _ | refine Quiet.trans' ?_ (Keeps.drew _)))).mono ?_; rintro e W4 ⟨a2, c2', rfl, f1, f2, f3, f4, HS⟩))
  clear HY g0 g1 g2 g3 g4
  have HA := hidC (HS.out _ (Keeps.refl _ _)).1
  go_wp2_with (first
    | (go_at_call 119; refine HA.out.mono ?_; rintro e W5 ⟨rfl, q5⟩; have HB := hidC (HS.out _ q5).2.1; clear HA)
    | (go_at_call 38; refine HB.out.mono ?_; rintro e W6 ⟨rfl, q6⟩; have HC := hidC (HS.out _ (Quiet.trans' q5 q6)).2.2; clear HB)
    | (go_at_call 120; refine HC.out.mono ?_; rintro e W7 ⟨rfl, hS⟩; clear HC))
  go_ret
  exact ⟨rfl, hS⟩

end
end Go.Proofs.YthfimgeopciiiaaGreat

/-
  The law's asks: Look.
-/
namespace Go.Proofs.YthfimgeopciiiaaGreat
open Go.MapKept Go.ChangeMaps Go.Maps Go.RowKit Go.MuLone
set_option linter.unusedVariables false

section
variable {w W : World} {s : Sto} {m : MRef} {M : MW} {sd N : Nat}

set_option maxRecDepth 100000 in
set_option maxHeartbeats 40000000 in
theorem asks_look (T : Two w W s m M sd) (L : Lg s m M N) (hN : N + 1 ≤ 2097152) (o : OpV) (hw : (Lit.int .i64 o.h).wf = true) (h8 : o.kind = 8) :
    Calls Tryz.prog 74 #[.pointer (some ⟨sd, 0, none⟩), .agg o.cells] W fun e W' => e = .returned (.bool true) ∧ Asked w W' s m M sd N := by
  obtain ⟨tb, ti, to, tr, tx, er, hX, hY⟩ := look_two T L o.h hw
  obtain ⟨ki, h, key, hi, la, ll, lc, pa, pl, pc, ta, tl, tc, wh⟩ := o
  simp only at h8 hX hY
  subst h8
  unfold OpV.cells
  simp only
  have hqb : Quiet W (W.alloc (.cells #[.int .i64 8, .int .i64 h, .string key, .string hi, .slice la ll lc, .slice pa pl pc, .slice ta tl tc, .bool wh] 106)) := Keeps.alloc _ _
  have hbb : (W.alloc (.cells #[.int .i64 8, .int .i64 h, .string key, .string hi, .slice la ll lc, .slice pa pl pc, .slice ta tl tc, .bool wh] 106)).heap[W.heap.size]? = some (.cells #[.int .i64 8, .int .i64 h, .string key, .string hi, .slice la ll lc, .slice pa pl pc, .slice ta tl tc, .bool wh] 106) := heap_alloc_new _ _
  have hfl := T.foot_lt
  obtain ⟨d0, d1, hsd⟩ := T.side
  have hsd' := Nat.ne_of_lt hsd
  have hsf := T.a4
  have hsd2' : W.heap.size + 1 ≠ sd := by omega
  have HX : Hid (∀ W1, Quiet (W.alloc (.cells #[.int .i64 8, .int .i64 h, .string key, .string hi, .slice la ll lc, .slice pa pl pc, .slice ta tl tc, .bool wh] 106)) W1 → Calls Tryz.prog 23 #[.pointer (some ⟨s.sb, 0, none⟩), .int .i64 h] W1 fun e W2 => e = .returned (.tuple #[.agg #[.int .i64 tb, .bool ti, .bool to, .int .i64 tr, .int .i64 tx], .int .i64 er]) ∧ W2.cell? ⟨sd, 0, none⟩ = some (.pointer (some ⟨s.sb, 0, none⟩)) ∧ W2.cell? ⟨sd, 1, none⟩ = some (.pointer (some ⟨m.sb, 0, none⟩)) ∧ W2.cell? ⟨W.heap.size, 1, none⟩ = some (.int .i64 h) ∧ sd < W2.heap.size ∧ W.heap.size < W2.heap.size ∧ Hid (StAt W2 s ∧ Keeps (fun b => b ∈ s.foot ∨ W.heap.size ≤ b) W W2) ∧ Hid (∀ b, W.heap.size ≤ b → b < W1.heap.size → W2.heap[b]? = W1.heap[b]?)) := fun W1 q1 => by
    have hq1 := Quiet.trans' hqb q1
    have hbl := (q1.block _ (lt_of_heap hbb) id).trans hbb
    refine (hX W1 hq1).mono fun e W2 ⟨e1, hst, hk⟩ => ?_
    have hb2 := (hk.block W.heap.size (lt_of_heap hbl) (fun hf => by have := hfl _ hf; omega)).trans hbl
    have hz1 := hq1.size
    have hsd1 : sd < W1.heap.size := by omega
    have hsd2 := (World.cell?_of_block (a := ⟨sd, 1, none⟩) (hk.block sd hsd1 hsf)).trans ((hq1.cell hsd (by simp)).trans d1)
    have hsd3 := (World.cell?_of_block (a := ⟨sd, 0, none⟩) (hk.block sd hsd1 hsf)).trans ((hq1.cell hsd (by simp)).trans d0)
    exact ⟨e1, hsd3, hsd2, by rw [cell_of_heap hb2]; rfl, by have := hk.size; omega, lt_of_heap hb2, ⟨hst, (hq1.mono (S' := fun b => b ∈ s.foot ∨ W.heap.size ≤ b) (fun _ h => h.elim)).trans hk (fun b h => .inl (.inl h))⟩, fun b h1 h2 => hk.block b h2 (fun hf => by have := hfl _ hf; omega)⟩
  have HY : Hid (∀ W3, StAt W3 s ∧ Keeps (fun b => b ∈ s.foot ∨ W.heap.size ≤ b) W W3 → Calls Tryz.prog 128 #[.pointer (some ⟨m.sb, 0, none⟩), .int .i64 h] W3 fun e W4 => e = .returned (.tuple #[.agg #[.int .i64 tb, .bool ti, .bool to, .int .i64 tr, .int .i64 tx], .int .i64 er]) ∧ Quiet W3 W4 ∧ Hid (∀ W5, Keeps (fun b => W.heap.size ≤ b) W4 W5 → Asked w W5 s m M sd N)) := fun W3 hk => by
    have T3 := T.upd hk.1 hk.2
    refine (hY W3 T3).mono fun e W4 ⟨f1, f2⟩ => ⟨f1, f2, fun W5 k5 => ⟨s, m, M, ?_, rfl, rfl, rfl, rfl, L.same hN, rfl⟩⟩
    refine T.upd ((hk.1.quiet f2).kept k5 (fun b hb h => by have := hfl b hb; omega)) ?_
    exact (hk.2.trans (f2.mono (S' := fun b => b ∈ s.foot ∨ W.heap.size ≤ b) (fun _ h => h.elim)) (fun b h => .inl h)).trans k5 (fun b h => .inl (.inr h))
  clear T L hX hY hbb
  go_enter Tryz.func74, Tryz.ntmps74
  go_wp2
  go_region_held3 (fun w' => w'.cell? ⟨sd, 0, none⟩ = some (.pointer (some ⟨s.sb, 0, none⟩)) ∧ w'.cell? ⟨W.heap.size, 1, none⟩ = some (.int .i64 h)) (go_keep)
    (first | (go_at_call 23; refine (HX.out _ (by repeat (first | assumption | exact Keeps.refl _ _ | refine Quiet.trans' ?_ (Keeps.drew _) | refine Quiet.trans' ?_ (Keeps.alloc _ _)))).mono ?_; rintro e W2 ⟨rfl, g0, g1, g2, g3, g4, g5, g6⟩; have g3' := Nat.ne_of_lt g3; have g4' := Nat.ne_of_lt g4; first | (have hz : W2.heap[W.heap.size + 1]? = some (.cells #[.int .i64 0, .bool false, .bool false, .int .i64 0, .int .i64 0] 57) := (g6.out (W.heap.size + 1) (by omega) (by simp)).trans (by have e : W.heap.size + 1 = (W.alloc (.cells #[.int .i64 8, .int .i64 h, .string key, .string hi, .slice la ll lc, .slice pa pl pc, .slice ta tl tc, .bool wh] 106)).heap.size := (by simp); rw [e]; exact heap_alloc_new _ _); have z0 : W2.cell? ⟨W.heap.size + 1, 0, none⟩ = some (.int .i64 0) := (by rw [cell_of_heap hz]; rfl); have z1 : W2.cell? ⟨W.heap.size + 1, 1, none⟩ = some (.bool false) := (by rw [cell_of_heap hz]; rfl); have z2 : W2.cell? ⟨W.heap.size + 1, 2, none⟩ = some (.bool false) := (by rw [cell_of_heap hz]; rfl); have z3 : W2.cell? ⟨W.heap.size + 1, 3, none⟩ = some (.int .i64 0) := (by rw [cell_of_heap hz]; rfl); have z4 : W2.cell? ⟨W.heap.size + 1, 4, none⟩ = some (.int .i64 0) := (by rw [cell_of_heap hz]; rfl); have w0 : W2.frozen? ⟨W.heap.size + 1, 0, none⟩ = false := frozen_of_heap hz; have w1 : W2.frozen? ⟨W.heap.size + 1, 1, none⟩ = false := frozen_of_heap hz; have w2 : W2.frozen? ⟨W.heap.size + 1, 2, none⟩ = false := frozen_of_heap hz; have w3 : W2.frozen? ⟨W.heap.size + 1, 3, none⟩ = false := frozen_of_heap hz; have w4 : W2.frozen? ⟨W.heap.size + 1, 4, none⟩ = false := frozen_of_heap hz; have HZ := hidC' hz; clear hz) | skip))
  all_goals
    clear HX d0 d1 g0
    first
    | (have hz0 := z0
       have hF : W.heap.size + 1 < W2.heap.size ∧ (StAt (((((W2.setCell ⟨W.heap.size + 1, 0, none⟩ (.int .i64 tb)).setCell ⟨W.heap.size + 1, 1, none⟩ (.bool ti)).setCell ⟨W.heap.size + 1, 2, none⟩ (.bool to)).setCell ⟨W.heap.size + 1, 3, none⟩ (.int .i64 tr)).setCell ⟨W.heap.size + 1, 4, none⟩ (.int .i64 tx)) s ∧ Keeps (fun b => b ∈ s.foot ∨ W.heap.size ≤ b) W (((((W2.setCell ⟨W.heap.size + 1, 0, none⟩ (.int .i64 tb)).setCell ⟨W.heap.size + 1, 1, none⟩ (.bool ti)).setCell ⟨W.heap.size + 1, 2, none⟩ (.bool to)).setCell ⟨W.heap.size + 1, 3, none⟩ (.int .i64 tr)).setCell ⟨W.heap.size + 1, 4, none⟩ (.int .i64 tx))) ∧ (((((W2.setCell ⟨W.heap.size + 1, 0, none⟩ (.int .i64 tb)).setCell ⟨W.heap.size + 1, 1, none⟩ (.bool ti)).setCell ⟨W.heap.size + 1, 2, none⟩ (.bool to)).setCell ⟨W.heap.size + 1, 3, none⟩ (.int .i64 tr)).setCell ⟨W.heap.size + 1, 4, none⟩ (.int .i64 tx)).heap[W.heap.size + 1]? = some (.cells #[.int .i64 tb, .bool ti, .bool to, .int .i64 tr, .int .i64 tx] 57) ∧ (((((W2.setCell ⟨W.heap.size + 1, 0, none⟩ (.int .i64 tb)).setCell ⟨W.heap.size + 1, 1, none⟩ (.bool ti)).setCell ⟨W.heap.size + 1, 2, none⟩ (.bool to)).setCell ⟨W.heap.size + 1, 3, none⟩ (.int .i64 tr)).setCell ⟨W.heap.size + 1, 4, none⟩ (.int .i64 tx)).cell? ⟨sd, 1, none⟩ = some (.pointer (some ⟨m.sb, 0, none⟩)) ∧ (((((W2.setCell ⟨W.heap.size + 1, 0, none⟩ (.int .i64 tb)).setCell ⟨W.heap.size + 1, 1, none⟩ (.bool ti)).setCell ⟨W.heap.size + 1, 2, none⟩ (.bool to)).setCell ⟨W.heap.size + 1, 3, none⟩ (.int .i64 tr)).setCell ⟨W.heap.size + 1, 4, none⟩ (.int .i64 tx)).cell? ⟨W.heap.size, 1, none⟩ = some (.int .i64 h) ∧ (((((W2.setCell ⟨W.heap.size + 1, 0, none⟩ (.int .i64 tb)).setCell ⟨W.heap.size + 1, 1, none⟩ (.bool ti)).setCell ⟨W.heap.size + 1, 2, none⟩ (.bool to)).setCell ⟨W.heap.size + 1, 3, none⟩ (.int .i64 tr)).setCell ⟨W.heap.size + 1, 4, none⟩ (.int .i64 tx)).heap.size = W2.heap.size := look_set g5.out HZ.out g1 g2 hfl hsd
       obtain ⟨hr1, hst3, hb3, q1, q2, hsz3⟩ := hF
       clear z0 z1 z2 z3 z4 w0 w1 w2 w3 w4 g1 g2 g5 g6 hz0 HZ
       rw [← hsz3] at hr1 g3 g4
       clear hsz3 g3' g4'
       generalize (((((W2.setCell ⟨W.heap.size + 1, 0, none⟩ (.int .i64 tb)).setCell ⟨W.heap.size + 1, 1, none⟩ (.bool ti)).setCell ⟨W.heap.size + 1, 2, none⟩ (.bool to)).setCell ⟨W.heap.size + 1, 3, none⟩ (.int .i64 tr)).setCell ⟨W.heap.size + 1, 4, none⟩ (.int .i64 tx)) = W3 at *
       generalize hrb : W.heap.size + 1 = rb at *
       have hrl : W.heap.size ≤ rb := by omega
       clear hrb)
    | (have hst3 : StAt (W2.alloc (.cells #[.int .i64 tb, .bool ti, .bool to, .int .i64 tr, .int .i64 tx] 57)) s ∧ Keeps (fun b => b ∈ s.foot ∨ W.heap.size ≤ b) W (W2.alloc (.cells #[.int .i64 tb, .bool ti, .bool to, .int .i64 tr, .int .i64 tx] 57)) := ⟨g5.out.1.quiet (Keeps.alloc _ _), g5.out.2.trans ((Keeps.alloc (S := fun _ => False) W2 _).mono (S' := fun b => b ∈ s.foot ∨ W.heap.size ≤ b) (fun _ h => h.elim)) (fun b h => .inl h)⟩
       have hb3 : (W2.alloc (.cells #[.int .i64 tb, .bool ti, .bool to, .int .i64 tr, .int .i64 tx] 57)).heap[W2.heap.size]? = some (.cells #[.int .i64 tb, .bool ti, .bool to, .int .i64 tr, .int .i64 tx] 57) := heap_alloc_new _ _
       have q1 : (W2.alloc (.cells #[.int .i64 tb, .bool ti, .bool to, .int .i64 tr, .int .i64 tx] 57)).cell? ⟨sd, 1, none⟩ = some (.pointer (some ⟨m.sb, 0, none⟩)) := by rw [World.cell?_alloc_lt _ _ _ g3]; exact g1
       have q2 : (W2.alloc (.cells #[.int .i64 tb, .bool ti, .bool to, .int .i64 tr, .int .i64 tx] 57)).cell? ⟨W.heap.size, 1, none⟩ = some (.int .i64 h) := by rw [World.cell?_alloc_lt _ _ _ g4]; exact g2
       have hr1 := lt_of_heap hb3
       have hrl : W.heap.size ≤ W2.heap.size := Nat.le_of_lt g4
       have g3x : sd < (W2.alloc (.cells #[.int .i64 tb, .bool ti, .bool to, .int .i64 tr, .int .i64 tx] 57)).heap.size := by simp; omega
       have g4x : W.heap.size < (W2.alloc (.cells #[.int .i64 tb, .bool ti, .bool to, .int .i64 tr, .int .i64 tx] 57)).heap.size := by simp; omega
       clear g1 g2 g5 g6 g3' g4' g3 g4
       have g3 := g3x
       have g4 := g4x
       clear g3x g4x
       generalize W2.alloc (.cells #[.int .i64 tb, .bool ti, .bool to, .int .i64 tr, .int .i64 tx] 57) = W3 at *
       generalize W2.heap.size = rb at *)
  all_goals
    have HYq : Hid (∀ W', Quiet W3 W' → Calls Tryz.prog 128 #[.pointer (some ⟨m.sb, 0, none⟩), .int .i64 h] W' fun e W4 => e = .returned (.tuple #[.agg #[.int .i64 tb, .bool ti, .bool to, .int .i64 tr, .int .i64 tx], .int .i64 er]) ∧ W4.cell? ⟨sd, 1, none⟩ = some (.pointer (some ⟨m.sb, 0, none⟩)) ∧ W4.cell? ⟨W.heap.size, 1, none⟩ = some (.int .i64 h) ∧ Quiet W' W4 ∧ Hid (∀ W5, Keeps (fun b => W.heap.size ≤ b) W4 W5 → Asked w W5 s m M sd N)) := hidC' (fun W' q => (HY.out W' ⟨hst3.1.quiet q, hst3.2.trans (q.mono (S' := fun b => b ∈ s.foot ∨ W.heap.size ≤ b) (fun _ h => h.elim)) (fun b h => .inl h)⟩).mono fun e W4 ⟨u1, u2, u3⟩ => ⟨u1, ((Quiet.trans' q u2).cell g3 (by simp)).trans q1, ((Quiet.trans' q u2).cell g4 (by simp)).trans q2, u2, u3⟩)
    have HB3 := hidC' hb3
    have hrn := Nat.ne_of_lt hr1
    have g3n := Nat.ne_of_lt g3
    have g4n := Nat.ne_of_lt g4
    have g3m := (Nat.ne_of_lt g3).symm
    have g4m := (Nat.ne_of_lt g4).symm
    clear HY hst3 hb3
    go_wp2
    go_region_held3 (fun w' => w'.cell? ⟨sd, 1, none⟩ = some (.pointer (some ⟨m.sb, 0, none⟩)) ∧ w'.cell? ⟨W.heap.size, 1, none⟩ = some (.int .i64 h)) (go_keep)
      (first | (go_at_call 128; refine (HYq.out _ (by repeat (first | assumption | exact Keeps.refl _ _ | refine Quiet.trans' ?_ (Keeps.drew _) | refine Quiet.trans' ?_ (Keeps.alloc _ _)))).mono ?_; rintro e W4 ⟨rfl, p1, p2, hq4, hS⟩; have hb4 : W4.heap[rb]? = some (.cells #[.int .i64 tb, .bool ti, .bool to, .int .i64 tr, .int .i64 tx] 57) := ((hq4.block rb (by simp; omega) id).trans (by first | exact HB3.out | exact (heap_alloc_old _ _ hr1).trans HB3.out)); have x0 : W4.cell? ⟨rb, 0, none⟩ = some (.int .i64 tb) := (by rw [cell_of_heap hb4]; rfl); have x1 : W4.cell? ⟨rb, 1, none⟩ = some (.bool ti) := (by rw [cell_of_heap hb4]; rfl); have x2 : W4.cell? ⟨rb, 2, none⟩ = some (.bool to) := (by rw [cell_of_heap hb4]; rfl); have x3 : W4.cell? ⟨rb, 3, none⟩ = some (.int .i64 tr) := (by rw [cell_of_heap hb4]; rfl); have x4 : W4.cell? ⟨rb, 4, none⟩ = some (.int .i64 tx) := (by rw [cell_of_heap hb4]; rfl); have hl4 := lt_of_heap hb4; have hl5 := Nat.ne_of_lt hl4; clear hb4; first | (have hz : W4.heap[W3.heap.size]? = some (.cells #[.int .i64 0, .bool false, .bool false, .int .i64 0, .int .i64 0] 57) := (hq4.block W3.heap.size (by simp) id).trans (heap_alloc_new W3 _); have z0 : W4.cell? ⟨W3.heap.size, 0, none⟩ = some (.int .i64 0) := (by rw [cell_of_heap hz]; rfl); have z1 : W4.cell? ⟨W3.heap.size, 1, none⟩ = some (.bool false) := (by rw [cell_of_heap hz]; rfl); have z2 : W4.cell? ⟨W3.heap.size, 2, none⟩ = some (.bool false) := (by rw [cell_of_heap hz]; rfl); have z3 : W4.cell? ⟨W3.heap.size, 3, none⟩ = some (.int .i64 0) := (by rw [cell_of_heap hz]; rfl); have z4 : W4.cell? ⟨W3.heap.size, 4, none⟩ = some (.int .i64 0) := (by rw [cell_of_heap hz]; rfl); have w0 : W4.frozen? ⟨W3.heap.size, 0, none⟩ = false := frozen_of_heap hz; have w1 : W4.frozen? ⟨W3.heap.size, 1, none⟩ = false := frozen_of_heap hz; have w2 : W4.frozen? ⟨W3.heap.size, 2, none⟩ = false := frozen_of_heap hz; have w3 : W4.frozen? ⟨W3.heap.size, 3, none⟩ = false := frozen_of_heap hz; have w4 : W4.frozen? ⟨W3.heap.size, 4, none⟩ = false := frozen_of_heap hz; clear hz) | skip))
    all_goals
      go_wp2
      go_ret
      refine ⟨rfl, hS.out _ ?_⟩
      first
      | exact Keeps.alloc _ _
      | exact Keeps.refl _ _
      | exact ((((Keeps.setCell (S := fun b => W.heap.size ≤ b) _ _ _ (Nat.le_of_lt g4)).trans (Keeps.setCell (S := fun b => W.heap.size ≤ b) _ _ _ (Nat.le_of_lt g4)) (fun _ h => .inl h)).trans (Keeps.setCell (S := fun b => W.heap.size ≤ b) _ _ _ (Nat.le_of_lt g4)) (fun _ h => .inl h)).trans (Keeps.setCell (S := fun b => W.heap.size ≤ b) _ _ _ (Nat.le_of_lt g4)) (fun _ h => .inl h)).trans (Keeps.setCell (S := fun b => W.heap.size ≤ b) _ _ _ (Nat.le_of_lt g4)) (fun _ h => .inl h)

theorem look_ok (w : World) (sd : Nat) : LookOk w sd := fun W s m M N T L hN o hw h8 => asks_look T L hN o hw h8

end
end Go.Proofs.YthfimgeopciiiaaGreat
