/-
  Told.
-/
import Derived.Test.YthfimgeopciiiaaGreatLook
import Derived.Deep.RegionWith
namespace Go.Proofs.YthfimgeopciiiaaGreat
open Go.MapKept Go.ChangeMaps Go.Maps Go.RowKit Go.MuLone

/-- what Told reads of a world -/
structure ToldAt (s : Sto) (N : Nat) (w : World) : Prop where
  c6 : w.cell? ⟨s.sb, 6, none⟩ = some (.int .i64 s.clock)
  c8 : w.cell? ⟨s.sb, 8, none⟩ = some (.map (some s.tm))
  len : (Builtin.len_ #[128] 3 #[.map (some s.tm)]).run Tryz.prog w = .ok (.int .i64 s.recs.length) w
  z0 : w.cell? ⟨N, 0, none⟩ = some (.int .i64 0)
  z1 : w.cell? ⟨N, 1, none⟩ = some (.int .i64 0)
  z2 : w.cell? ⟨N, 2, none⟩ = some (.int .i64 0)
  z3 : w.cell? ⟨N, 3, none⟩ = some (.int .i64 0)
  z4 : w.cell? ⟨N, 4, none⟩ = some (.int .i64 0)
  y0 : w.frozen? ⟨N, 0, none⟩ = false
  y1 : w.frozen? ⟨N, 1, none⟩ = false
  y2 : w.frozen? ⟨N, 2, none⟩ = false
  y3 : w.frozen? ⟨N, 3, none⟩ = false
  y4 : w.frozen? ⟨N, 4, none⟩ = false

theorem told_at {w : World} {s : Sto} (H : StAt w s) {N : Nat} (h : w.heap[N]? = some (.cells #[.int .i64 0, .int .i64 0, .int .i64 0, .int .i64 0, .int .i64 0] 50)) : ToldAt s N w where
  c6 := H.cell 6
  c8 := H.cell 8
  len := by simpa using H.tm.len (P := Tryz.prog) (ty := 3) Tryz.underlying128
  z0 := by rw [cell_of_heap h]; rfl
  z1 := by rw [cell_of_heap h]; rfl
  z2 := by rw [cell_of_heap h]; rfl
  z3 := by rw [cell_of_heap h]; rfl
  z4 := by rw [cell_of_heap h]; rfl
  y0 := frozen_of_heap h
  y1 := frozen_of_heap h
  y2 := frozen_of_heap h
  y3 := frozen_of_heap h
  y4 := frozen_of_heap h

set_option maxRecDepth 100000 in
set_option maxHeartbeats 4000000 in
theorem told_h {w : World} {s : Sto} (H : StAt w s) (hn : s.nReads ≤ 1000) (hv : s.nVers ≤ 1000) (hle : s.hl.length ≤ s.recs.length) (hlen : s.recs.length ≤ 1000) :
    Calls Tryz.prog 50 #[.pointer (some ⟨s.sb, 2, none⟩)] w fun e w' => e = .returned (.agg #[.int .i64 s.clock, .int .i64 s.hl.length, .int .i64 ((s.recs.length : Int) - s.hl.length), .int .i64 s.nReads, .int .i64 s.nVers]) ∧ Quiet w w' := by
  have hqA : Quiet w (w.alloc (.cells #[.int .i64 0, .int .i64 0, .int .i64 0, .int .i64 0, .int .i64 0] 50)) := Keeps.alloc _ _
  have HL := H.quiet hqA
  have hbx : (w.alloc (.cells #[.int .i64 0, .int .i64 0, .int .i64 0, .int .i64 0, .int .i64 0] 50)).heap[w.heap.size]? = some (.cells #[.int .i64 0, .int .i64 0, .int .i64 0, .int .i64 0, .int .i64 0] 50) := heap_alloc_new w _
  obtain ⟨hva, hcap, hvs⟩ := HL.heap.len_cell
  have c9' : (w.alloc (.cells #[.int .i64 0, .int .i64 0, .int .i64 0, .int .i64 0, .int .i64 0] 50)).cell? ⟨s.sb, 9, none⟩ = some (.slice hva s.hl.length hcap) := by rw [HL.cell 9, ← hvs]; rfl
  have hsb : s.sb ≠ w.heap.size := by have := H.lt s.sb (by simp [Sto.foot]); omega
  obtain ⟨W, hW⟩ : ∃ W, W = w.alloc (.cells #[.int .i64 0, .int .i64 0, .int .i64 0, .int .i64 0, .int .i64 0] 50) := ⟨_, rfl⟩
  rw [← hW] at HL hbx hqA
  have c9 : W.cell? ⟨s.sb, 9, none⟩ = some (.slice hva s.hl.length hcap) := by rw [HL.cell 9, ← hvs]; rfl
  have hbQ : ∀ W2, Quiet W W2 → ToldAt s w.heap.size W2 ∧ W2.heap[w.heap.size]? = some (.cells #[.int .i64 0, .int .i64 0, .int .i64 0, .int .i64 0, .int .i64 0] 50) := fun W2 hq => by
    have hb := (hq.block _ (lt_of_heap hbx) (by simp)).trans hbx
    exact ⟨told_at (HL.quiet hq) hb, hb⟩
  have HRd : Hid (∀ W2, Quiet W W2 → Calls Tryz.prog 85 #[.pointer (some ⟨s.sb, 2, none⟩)] W2 fun e w' => e = .returned (.int .i64 s.nReads) ∧ Quiet W w' ∧ ToldAt s w.heap.size w') := fun W2 hq =>
    (countReads_h (s := s) (HL.quiet hq) hn).mono fun e w' ⟨h1, h2⟩ => ⟨h1, Quiet.trans' hq h2, (hbQ _ (Quiet.trans' hq h2)).1⟩
  have HVs : Hid (∀ W2, Quiet W W2 → Calls Tryz.prog 86 #[.pointer (some ⟨s.sb, 2, none⟩)] W2 fun e w' => e = .returned (.int .i64 s.nVers) ∧ Quiet W w' ∧ ToldAt s w.heap.size w') := fun W2 hq =>
    (countVersions_h (s := s) (HL.quiet hq) hv).mono fun e w' ⟨h1, h2⟩ => ⟨h1, Quiet.trans' hq h2, (hbQ _ (Quiet.trans' hq h2)).1⟩
  have HQ0 : Hid (ToldAt s w.heap.size W.drew) := (hbQ W.drew (Keeps.drew W)).1
  have HBx : Hid (∀ W2, Quiet W W2 → W2.heap[w.heap.size]? = some (.cells #[.int .i64 0, .int .i64 0, .int .i64 0, .int .i64 0, .int .i64 0] 50)) := fun W2 hq => (hbQ W2 hq).2
  clear H HL hbQ hvs
  generalize s.nReads = nr at *
  generalize s.nVers = nv at *
  have hwrap : IntKind.i64.wrap ((s.recs.length : Int) - (s.hl.length : Int)) = (s.recs.length : Int) - (s.hl.length : Int) := by
    have : -9223372036854775808 ≤ (s.recs.length : Int) - (s.hl.length : Int) ∧ (s.recs.length : Int) - (s.hl.length : Int) < 9223372036854775808 := by omega
    simp [IntKind.wrap, IntKind.bits, IntKind.signed]; omega
  have HEnd : Hid (∀ W2, Quiet W W2 → ∃ Z, Z = (((((W2.setCell ⟨w.heap.size, 0, none⟩ (.int .i64 s.clock)).setCell ⟨w.heap.size, 1, none⟩ (.int .i64 s.hl.length)).setCell ⟨w.heap.size, 2, none⟩ (.int .i64 ((s.recs.length : Int) - s.hl.length))).setCell ⟨w.heap.size, 3, none⟩ (.int .i64 nr)).setCell ⟨w.heap.size, 4, none⟩ (.int .i64 nv)) ∧
      Quiet w Z ∧ Z.heap[w.heap.size]? = some (.cells #[.int .i64 s.clock, .int .i64 s.hl.length, .int .i64 ((s.recs.length : Int) - s.hl.length), .int .i64 nr, .int .i64 nv] 50)) := fun W2 hq =>
    ⟨_, rfl, quiet_set5 (b := w.heap.size) (Quiet.trans' hqA hq) (Nat.le_refl _) (.int .i64 s.clock) (.int .i64 s.hl.length) (.int .i64 ((s.recs.length : Int) - s.hl.length)) (.int .i64 nr) (.int .i64 nv), set5 (HBx.out W2 hq) (.int .i64 s.clock) (.int .i64 s.hl.length) (.int .i64 ((s.recs.length : Int) - s.hl.length)) (.int .i64 nr) (.int .i64 nv)⟩
  go_enter Tryz.func50, Tryz.ntmps50
  go_wp2_with fail
  simp only [← hW]
  obtain ⟨q6, q8, ql, q0, q1, q2, q3, q4, r0, r1, r2, r3, r4⟩ := HQ0.out
  clear HQ0 c9' hW
  go_region_with (first
    | (go_at_call 85; refine (HRd.out _ (by repeat (first | assumption | exact Keeps.refl _ _ | refine Quiet.trans' ?_ (Keeps.drew _)))).mono ?_; rintro e wR ⟨rfl, hqR, ⟨a6, a8, al, a0, a1, a2, a3, a4, i0, i1, i2, i3, i4⟩⟩)
    | (go_at_call 86; refine (HVs.out _ (by repeat (first | assumption | exact Keeps.refl _ _ | refine Quiet.trans' ?_ (Keeps.drew _)))).mono ?_; rintro e wV ⟨rfl, hqV, ⟨d6, d8, dl, d0, d1, d2, d3, d4, j0, j1, j2, j3, j4⟩⟩))
  all_goals clear HRd HVs
  all_goals first
      | (obtain ⟨Z, hZ, hqs, es⟩ := HEnd.out _ hqV
         rw [← hZ]
         have e0 := cell_of_heap (i := 0) es
         have e1 := cell_of_heap (i := 1) es
         have e2 := cell_of_heap (i := 2) es
         have e3 := cell_of_heap (i := 3) es
         have e4 := cell_of_heap (i := 4) es
         simp at e0 e1 e2 e3 e4
         go_wp2
         exact bodyPost_ret (v := .agg #[.int .i64 s.clock, .int .i64 s.hl.length, .int .i64 ((s.recs.length : Int) - s.hl.length), .int .i64 nr, .int .i64 nv]) (by simp [results, Tryz.results50, go_sem, e0, e1, e2, e3, e4]) rfl ⟨rfl, hqs⟩)
      | (obtain ⟨Z, hZ, hqs, es⟩ := HEnd.out _ hqR
         rw [← hZ]
         have e0 := cell_of_heap (i := 0) es
         have e1 := cell_of_heap (i := 1) es
         have e2 := cell_of_heap (i := 2) es
         have e3 := cell_of_heap (i := 3) es
         have e4 := cell_of_heap (i := 4) es
         simp at e0 e1 e2 e3 e4
         go_wp2
         exact bodyPost_ret (v := .agg #[.int .i64 s.clock, .int .i64 s.hl.length, .int .i64 ((s.recs.length : Int) - s.hl.length), .int .i64 nr, .int .i64 nv]) (by simp [results, Tryz.results50, go_sem, e0, e1, e2, e3, e4]) rfl ⟨rfl, hqs⟩)

end Go.Proofs.YthfimgeopciiiaaGreat
