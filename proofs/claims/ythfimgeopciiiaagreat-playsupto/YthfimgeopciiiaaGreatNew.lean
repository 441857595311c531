/-
  New.
-/
import Derived.Test.YthfimgeopciiiaaGreatOuter
namespace Go.Proofs.YthfimgeopciiiaaGreat
open Go.MapKept Go.ChangeMaps Go.Maps Go.RowKit Go.MuLone

set_option maxRecDepth 100000 in
set_option maxHeartbeats 1000000 in
theorem New_bad (a b c d : Int) (w : World) (h : configB a b c d = false) :
    Calls Tryz.prog 35 #[.agg #[.int .i64 a, .int .i64 b, .int .i64 c, .int .i64 d]] w fun e w' => e = .returned (.tuple #[.pointer none, .int .i64 1]) ∧ Quiet w w' := by
  have HC : Hid (∀ W, Calls Tryz.prog 66 #[.agg #[.int .i64 a, .int .i64 b, .int .i64 c, .int .i64 d]] W fun e w' => e = .returned (.bool false) ∧ Quiet W w') := fun W => by rw [← h]; exact isConfig_any a b c d W
  go_enter Tryz.func35, Tryz.ntmps35
  go_wp2_with (go_at_call 66; refine (HC.out _).mono ?_; rintro e w2 ⟨rfl, hq2⟩)
  go_ret2
  exact ⟨rfl, Quiet.trans' (Keeps.alloc _ _) hq2⟩

set_option maxRecDepth 100000 in
set_option maxHeartbeats 1000000 in
theorem newState_h (a b c d : Int) (w : World) : Calls Tryz.prog 67 #[.agg #[.int .i64 a, .int .i64 b, .int .i64 c, .int .i64 d]] w fun e w' => ∃ N, w.heap.size ≤ N ∧ e = .returned (.agg #[.int .i64 a, .int .i64 b, .int .i64 c, .int .i64 d, .int .i64 0, .int .i64 0, .map (some N), .slice none 0 0, .map (some (N + 1))]) ∧ Quiet w w' ∧ w'.heap.size = N + 2 ∧ w'.heap[N]? = some (.map #[] 0) ∧ w'.heap[N + 1]? = some (.map #[] 0) := by
  have hmm : ∀ t w, (Instr.makeMap t none).run Tryz.prog w = .ok (.map (some w.heap.size)) (w.alloc (.map #[] 0)) := fun _ _ => rfl
  go_enter Tryz.func67, Tryz.ntmps67
  go_wp2
  have q1 : Quiet w (w.alloc (.cells #[.int .i64 a, .int .i64 b, .int .i64 c, .int .i64 d] 23)) := Keeps.alloc _ _
  have q2 := Quiet.trans' q1 (Keeps.alloc _ (.cells #[.int .i64 a, .int .i64 b, .int .i64 c, .int .i64 d, .int .i64 0, .int .i64 0, .map (some (w.heap.size + 1 + 1)), .slice none 0 0, .map (some (w.heap.size + 1 + 1 + 1))] 134))
  have hb := heap_alloc_new (w.alloc (.cells #[.int .i64 a, .int .i64 b, .int .i64 c, .int .i64 d] 23)) (.cells #[.int .i64 a, .int .i64 b, .int .i64 c, .int .i64 d, .int .i64 0, .int .i64 0, .map (some (w.heap.size + 1 + 1)), .slice none 0 0, .map (some (w.heap.size + 1 + 1 + 1))] 134)
  simp only [World.size_alloc] at hb
  have hs : ((w.alloc (.cells #[.int .i64 a, .int .i64 b, .int .i64 c, .int .i64 d] 23)).alloc (.cells #[.int .i64 a, .int .i64 b, .int .i64 c, .int .i64 d, .int .i64 0, .int .i64 0, .map (some (w.heap.size + 1 + 1)), .slice none 0 0, .map (some (w.heap.size + 1 + 1 + 1))] 134)).heap.size = w.heap.size + 2 := by simp
  generalize hV : (w.alloc (.cells #[.int .i64 a, .int .i64 b, .int .i64 c, .int .i64 d] 23)).alloc (.cells #[.int .i64 a, .int .i64 b, .int .i64 c, .int .i64 d, .int .i64 0, .int .i64 0, .map (some (w.heap.size + 1 + 1)), .slice none 0 0, .map (some (w.heap.size + 1 + 1 + 1))] 134) = V at *
  have hq : Quiet w ((V.alloc (.map #[] 0)).alloc (.map #[] 0)) := Quiet.trans' (Quiet.trans' q2 (Keeps.alloc _ _)) (Keeps.alloc _ _)
  have n0 : ((V.alloc (.map #[] 0)).alloc (.map #[] 0)).heap[w.heap.size + 2]? = some (.map #[] 0) := by
    rw [heap_alloc_old _ _ (by simp [hs]), ← hs, heap_alloc_new]
  have n1 : ((V.alloc (.map #[] 0)).alloc (.map #[] 0)).heap[w.heap.size + 3]? = some (.map #[] 0) := by
    have := heap_alloc_new (V.alloc (.map #[] 0)) (.map #[] 0)
    simpa [hs] using this
  have hb2 : ((V.alloc (.map #[] 0)).alloc (.map #[] 0)).heap[w.heap.size + 1]? = _ := ((heap_alloc_old _ _ (by simp [hs])).trans (heap_alloc_old _ _ (by omega))).trans hb
  have hsz : ((V.alloc (.map #[] 0)).alloc (.map #[] 0)).heap.size = w.heap.size + 4 := by simp [hs]
  generalize hU : (V.alloc (.map #[] 0)).alloc (.map #[] 0) = U at *
  have e0 := cell_of_heap (i := 0) hb2
  have e1 := cell_of_heap (i := 1) hb2
  have e2 := cell_of_heap (i := 2) hb2
  have e3 := cell_of_heap (i := 3) hb2
  have e4 := cell_of_heap (i := 4) hb2
  have e5 := cell_of_heap (i := 5) hb2
  have e6 := cell_of_heap (i := 6) hb2
  have e7 := cell_of_heap (i := 7) hb2
  have e8 := cell_of_heap (i := 8) hb2
  simp at e0 e1 e2 e3 e4 e5 e6 e7 e8
  exact bodyPost_ret (v := .agg #[.int .i64 a, .int .i64 b, .int .i64 c, .int .i64 d, .int .i64 0, .int .i64 0, .map (some (w.heap.size + 2)), .slice none 0 0, .map (some (w.heap.size + 2 + 1))]) (by simp [results, Tryz.results67, go_sem, e0, e1, e2, e3, e4, e5, e6, e7, e8]) rfl ⟨w.heap.size + 2, by omega, rfl, hq, by omega, n0, n1⟩

/-- a new store, its maps at N and N + 1, itself behind them -/
def newSto (a b c d : Int) (N M : Nat) : Sto := ⟨M, N, N + 1, 0, a, b, c, d, 0, 0, .slice none 0 0, [], [], []⟩

theorem newSto_at {w : World} {a b c d : Int} {N M : Nat} (hM : N + 1 < M) (h1 : w.heap[N]? = some (.map #[] 0)) (h2 : w.heap[N + 1]? = some (.map #[] 0)) (h3 : w.heap[M]? = some (.cells (newSto a b c d N M).cells 136)) : StAt w (newSto a b c d N M) where
  own := h3
  tm := MapIs.nil _ _ h1
  recs := fun r hr => by simp [newSto] at hr
  hsl := World.ownsRow_nil _ _ _ _
  hnd := by simp [newSto]
  hrec := fun i t h => by simp [newSto] at h
  hact := fun r hr => by simp [newSto] at hr
  hlen := by simp [newSto]
  ord := fun k _ kn => by simp [newSto] at kn
  vm := MapIs.nil _ _ h2
  vers := fun x hx => by simp [newSto] at hx
  nd := by simp [newSto, Sto.foot, Value.ownBlock]; omega

set_option maxRecDepth 100000 in
set_option maxHeartbeats 1000000 in
theorem New_ok (a b c d : Int) (w : World) (h : configB a b c d = true) :
    Calls Tryz.prog 35 #[.agg #[.int .i64 a, .int .i64 b, .int .i64 c, .int .i64 d]] w fun e w' => ∃ N, e = .returned (.tuple #[.pointer (some ⟨N + 2, 0, none⟩), .int .i64 0]) ∧ w.heap.size ≤ N ∧ StAt w' (newSto a b c d N (N + 2)) ∧ Quiet w w' := by
  have HC : Hid (∀ W, Calls Tryz.prog 66 #[.agg #[.int .i64 a, .int .i64 b, .int .i64 c, .int .i64 d]] W fun e w' => e = .returned (.bool true) ∧ Quiet W w') := fun W => by rw [← h]; exact isConfig_any a b c d W
  have HN : Hid (∀ W, Calls Tryz.prog 67 #[.agg #[.int .i64 a, .int .i64 b, .int .i64 c, .int .i64 d]] W fun e w' => ∃ N, W.heap.size ≤ N ∧ e = .returned (.agg #[.int .i64 a, .int .i64 b, .int .i64 c, .int .i64 d, .int .i64 0, .int .i64 0, .map (some N), .slice none 0 0, .map (some (N + 1))]) ∧ Quiet W w' ∧ w'.heap.size = N + 2 ∧ w'.heap[N]? = some (.map #[] 0) ∧ w'.heap[N + 1]? = some (.map #[] 0)) := fun W => newState_h a b c d W
  go_enter Tryz.func35, Tryz.ntmps35
  go_wp2_with (first | (go_at_call 66; refine (HC.out _).mono ?_; rintro e w2 ⟨rfl, hq2⟩; have hb := newBlock_kept hq2; have b0 := cell_of_heap (i := 0) hb; have b1 := cell_of_heap (i := 1) hb; have b2 := cell_of_heap (i := 2) hb; have b3 := cell_of_heap (i := 3) hb; simp at b0 b1 b2 b3) | (go_at_call 67; refine (HN.out _).mono ?_; rintro e w3 ⟨N, hN, rfl, hq3, hs3, n0, n1⟩))
  go_ret2
  have hsz := hq2.size
  simp only [World.size_alloc] at hsz
  refine ⟨N, by simp, by omega, newSto_at (by omega) ?_ ?_ ?_, Quiet.trans' (Quiet.trans' (Quiet.trans' (Keeps.alloc _ _) hq2) hq3) (Keeps.alloc _ _)⟩
  · rw [heap_alloc_old _ _ (by omega), n0]
  · rw [heap_alloc_old _ _ (by omega), n1]
  · have := heap_alloc_new w3 (.cells (newSto a b c d N (N + 2)).cells 136)
    rw [hs3] at this
    simpa [newSto, Sto.cells] using this

end Go.Proofs.YthfimgeopciiiaaGreat
