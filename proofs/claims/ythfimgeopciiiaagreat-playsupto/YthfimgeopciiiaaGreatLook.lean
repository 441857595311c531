/-
  Look.
-/
import Derived.Test.YthfimgeopciiiaaGreatNew
import Derived.BigRegion
namespace Go.Proofs.YthfimgeopciiiaaGreat
open Go.MapKept Go.ChangeMaps Go.Maps Go.RowKit Go.MuLone

set_option maxRecDepth 100000 in
set_option maxHeartbeats 4000000 in
theorem look_yes {w : World} {s : Sto} (H : StAt w s) (h : Int) (hw : (Lit.int .i64 h).wf = true) {r : Rec} (hr : s.act? h = some r) :
    Calls Tryz.prog 53 #[.pointer (some ⟨s.sb, 2, none⟩), .int .i64 h] w fun e w' => e = .returned (.tuple #[.agg #[.int .i64 r.bg, .bool r.i, .bool r.o, .int .i64 r.rd.length, .int .i64 r.wr.length], .int .i64 0]) ∧ Quiet w w' := by
  have hqA : Quiet w (w.alloc (.cells #[.int .i64 0, .bool false, .bool false, .int .i64 0, .int .i64 0] 57)) := Keeps.alloc _ _
  have HL := H.quiet hqA
  have HA := hidC (active_yes HL h hw hr)
  obtain ⟨m1, m2, m3⟩ := act_mem hr
  have htb : r.tb < w.heap.size := H.lt _ (Sto.mem_rec m1 (by simp [Rec.foot]))
  have R := HL.recs r m1
  have R0 := H.recs r m1
  have t1 := R.cell 1
  have t3 := R.cell 3
  have t4 := R.cell 4
  have t5 := R.cell 5
  have t6 := R.cell 6
  have s1 := R0.cell 1
  have s3 := R0.cell 3
  have s4 := R0.cell 4
  have s5 := R0.cell 5
  have s6 := R0.cell 6
  simp [Rec.cells] at t1 t3 t4 t5 t6 s1 s3 s4 s5 s6
  have hl1 := (HL.quiet (Keeps.drew _)).recs r m1 |>.rd.len (P := Tryz.prog) (ty := 3) Tryz.underlying172
  have hl2 := (HL.quiet (Keeps.drew _)).recs r m1 |>.wr.len (P := Tryz.prog) (ty := 3) Tryz.underlying171
  have hne : r.tb ≠ w.heap.size := by omega
  clear H HL hr R R0
  go_enter Tryz.func53, Tryz.ntmps53
  go_wp2_with (go_at_call 91; refine (HA.out).mono ?_; rintro e w' ⟨rfl, rfl⟩)
  go_region
  go_wp2
  have hqz : Quiet w ((w.alloc (.cells #[.int .i64 r.bg, .bool r.i, .bool r.o, .int .i64 r.rd.length, .int .i64 r.wr.length] 57)).drew) := Quiet.trans' (Keeps.alloc _ _) (Keeps.drew _)
  have eb : (w.alloc (.cells #[.int .i64 r.bg, .bool r.i, .bool r.o, .int .i64 r.rd.length, .int .i64 r.wr.length] 57)).drew.heap[w.heap.size]? = some (.cells #[.int .i64 r.bg, .bool r.i, .bool r.o, .int .i64 r.rd.length, .int .i64 r.wr.length] 57) := heap_alloc_new w _
  generalize hY : (w.alloc (.cells #[.int .i64 r.bg, .bool r.i, .bool r.o, .int .i64 r.rd.length, .int .i64 r.wr.length] 57)).drew = Y at *
  have e0 := cell_of_heap (i := 0) eb
  have e1 := cell_of_heap (i := 1) eb
  have e2 := cell_of_heap (i := 2) eb
  have e3 := cell_of_heap (i := 3) eb
  have e4 := cell_of_heap (i := 4) eb
  simp at e0 e1 e2 e3 e4
  exact bodyPost_ret (v := .tuple #[.agg #[.int .i64 r.bg, .bool r.i, .bool r.o, .int .i64 r.rd.length, .int .i64 r.wr.length], .int .i64 0]) (by simp [results, Tryz.results53, go_sem, e0, e1, e2, e3, e4]) rfl ⟨rfl, hqz⟩

set_option maxRecDepth 100000 in
set_option maxHeartbeats 1000000 in
theorem look_no {w : World} {s : Sto} (H : StAt w s) (h : Int) (hw : (Lit.int .i64 h).wf = true) (hr : s.act? h = none) :
    Calls Tryz.prog 53 #[.pointer (some ⟨s.sb, 2, none⟩), .int .i64 h] w fun e w' => e = .returned (.tuple #[.agg #[.int .i64 0, .bool false, .bool false, .int .i64 0, .int .i64 0], .int .i64 2]) ∧ Quiet w w' := by
  have hqA : Quiet w (w.alloc (.cells #[.int .i64 0, .bool false, .bool false, .int .i64 0, .int .i64 0] 57)) := Keeps.alloc _ _
  have HL := H.quiet hqA
  have HA := hidC (active_no HL h hw hr)
  clear H HL hr
  go_enter Tryz.func53, Tryz.ntmps53
  go_wp2_with (go_at_call 91; refine (HA.out).mono ?_; rintro e w' ⟨⟨p, rfl⟩, rfl⟩)
  have eb : (w.alloc (.cells #[.int .i64 0, .bool false, .bool false, .int .i64 0, .int .i64 0] 57)).heap[w.heap.size]? = some (.cells #[.int .i64 0, .bool false, .bool false, .int .i64 0, .int .i64 0] 57) := heap_alloc_new w _
  clear HA
  generalize hY : w.alloc (.cells #[.int .i64 0, .bool false, .bool false, .int .i64 0, .int .i64 0] 57) = Y at *
  have e0 := cell_of_heap (i := 0) eb
  have e1 := cell_of_heap (i := 1) eb
  have e2 := cell_of_heap (i := 2) eb
  have e3 := cell_of_heap (i := 3) eb
  have e4 := cell_of_heap (i := 4) eb
  simp at e0 e1 e2 e3 e4
  exact bodyPost_ret (v := .tuple #[.agg #[.int .i64 0, .bool false, .bool false, .int .i64 0, .int .i64 0], .int .i64 2]) (by simp [results, Tryz.results53, go_sem, e0, e1, e2, e3, e4]) rfl ⟨rfl, hqA⟩

end Go.Proofs.YthfimgeopciiiaaGreat
