/-
  begin: a new record, in the map and in the heap.
-/
import Derived.Test.YthfimgeopciiiaaGreatOuter
import Derived.Deep.QuietTactic
import Derived.Deep.RegionWith
namespace Go.Proofs.YthfimgeopciiiaaGreat
open Go.MapKept Go.ChangeMaps Go.Maps Go.RowKit Go.MuLone

/-- a new record's cells -/
def newCells (h b : Int) (N : Nat) : Array Value := #[.int .i64 h, .int .i64 b, .int .i64 0, .map (some N), .map (some (N + 1)), .bool false, .bool false, .int .i64 0]

structure NewRec (h b : Int) (N : Nat) (w : World) : Prop where
  size : N + 3 ≤ w.heap.size
  wb : w.heap[N]? = some (.map #[] 0)
  rb : w.heap[N + 1]? = some (.map #[] 0)
  tb : w.heap[N + 2]? = some (.cells (newCells h b N) 174)

set_option maxRecDepth 100000 in
set_option maxHeartbeats 1000000 in
theorem newTxn_h (h b : Int) (w : World) : Calls Tryz.prog 94 #[.int .i64 h, .int .i64 b] w fun e w' => e = .returned (.pointer (some ⟨w.heap.size + 2, 0, none⟩)) ∧ NewRec h b w.heap.size w' ∧ Quiet w w' ∧ w'.heap.size = w.heap.size + 3 := by
  have hmm : ∀ t w, (Instr.makeMap t none).run Tryz.prog w = .ok (.map (some w.heap.size)) (w.alloc (.map #[] 0)) := fun _ _ => rfl
  go_enter Tryz.func94, Tryz.ntmps94
  go_wp2
  go_ret
  refine ⟨by simp, ⟨by simp, ?_, ?_, ?_⟩, Quiet.trans' (Quiet.trans' (Keeps.alloc _ _) (Keeps.alloc _ _)) (Keeps.alloc _ _), by simp⟩
  · rw [heap_alloc_old _ _ (by simp; omega), heap_alloc_old _ _ (by simp), heap_alloc_new]
  · rw [heap_alloc_old _ _ (by simp)]
    have := heap_alloc_new (w.alloc (.map #[] 0)) (.map #[] 0)
    simpa using this
  · have := heap_alloc_new ((w.alloc (.map #[] 0)).alloc (.map #[] 0)) (.cells (newCells h b w.heap.size) 174)
    simpa [newCells] using this

structure BegunAt (w : World) (sb tm : Nat) (h b : Int) (l : List (Int × Nat)) (w3 : World) : Prop where
  new : NewRec h b w.heap.size w3
  size : w3.heap.size = w.heap.size + 3
  keeps : Keeps (fun c => c = tm ∨ c = sb) w w3
  own : ∀ cs ty, w.heap[sb]? = some (.cells cs ty) → w3.heap[sb]? = some (.cells (cs.setIfInBounds 7 (.int .i64 h)) ty)
  tm : MapIs hk ptrTo w3 tm (put l h (w.heap.size + 2))

/-- what begin needs behind its check -/
structure BeginPre (w : World) (sb tm : Nat) (begun clock : Int) (l : List (Int × Nat)) : Prop where
  c7 : w.cell? ⟨sb, 7, none⟩ = some (.int .i64 begun)
  f7 : w.frozen? ⟨sb, 7, none⟩ = false
  d7 : (w.setCell ⟨sb, 7, none⟩ (.int .i64 (begun + 1))).cell? ⟨sb, 7, none⟩ = some (.int .i64 (begun + 1))
  d6 : (w.setCell ⟨sb, 7, none⟩ (.int .i64 (begun + 1))).cell? ⟨sb, 6, none⟩ = some (.int .i64 clock)
  new : Hid (∀ W, Quiet (w.setCell ⟨sb, 7, none⟩ (.int .i64 (begun + 1))) W → W.heap.size = w.heap.size → Calls Tryz.prog 94 #[.int .i64 (begun + 1), .int .i64 clock] W fun e w' => e = .returned (.pointer (some ⟨w.heap.size + 2, 0, none⟩)) ∧
      w'.cell? ⟨sb, 8, none⟩ = some (.map (some tm)) ∧ w'.cell? ⟨w.heap.size + 2, 0, none⟩ = some (.int .i64 (begun + 1)) ∧
      ∃ o, (Instr.mapUpdate 128 (.map (some tm)) (.int .i64 (begun + 1)) (.pointer (some ⟨w.heap.size + 2, 0, none⟩))).run Tryz.prog w'.drew = .ok () (setBlock w'.drew tm o) ∧ BegunAt w sb tm (begun + 1) clock l (setBlock w'.drew tm o))

theorem begin_pre (w : World) (sb tm : Nat) (begun clock : Int) (l : List (Int × Nat)) (cs : Array Value) (ty : TypeId) (hown : w.heap[sb]? = some (.cells cs ty)) (h7 : cs[7]? = some (.int .i64 begun)) (h6 : cs[6]? = some (.int .i64 clock)) (h8 : cs[8]? = some (.map (some tm)))
    (hm : MapIs hk ptrTo w tm l) (hb : -1 ≤ begun ∧ begun < 4611686018427387904) (hne : sb ≠ tm) : BeginPre w sb tm begun clock l := by
  have hsl := lt_of_heap hown
  have hml := hm.lt
  have hs7 : 7 < cs.size := (Array.getElem?_eq_some_iff.1 h7).1
  have hown1 : (w.setCell ⟨sb, 7, none⟩ (.int .i64 (begun + 1))).heap[sb]? = some (.cells (cs.setIfInBounds 7 (.int .i64 (begun + 1))) ty) := heap_setCell_same hown
  refine ⟨by rw [cell_of_heap hown, h7], frozen_of_heap hown, by rw [cell_of_heap hown1]; simp [hs7], by rw [cell_of_heap hown1]; simp [h6], ?_⟩
  refine fun W hW hsz => ?_
  refine (newTxn_h (begun + 1) clock W).mono fun e w' ⟨h1, h2, h3, h4⟩ => ?_
  rw [hsz] at h1 h2 h4
  have hq := Quiet.trans' hW h3
  have hb1 : w'.heap[sb]? = some (.cells (cs.setIfInBounds 7 (.int .i64 (begun + 1))) ty) := (hq.block sb (by simpa using hsl) (by simp)).trans hown1
  have hm1 : MapIs hk ptrTo (w'.drew) tm l := (hm.of_block (heap_setCell_other _ _ _ (Ne.symm hne))).of_block (hq.block tm (by simpa using hml) (by simp))
  obtain ⟨o, hrun, hmap⟩ := hm1.update hk_good Tryz.underlying128 (x := begun + 1) (wf_i64 (by omega) (by omega)) (w.heap.size + 2)
  have hko : ∀ b, b < w.heap.size + 3 → b ≠ tm → (setBlock w'.drew tm o).heap[b]? = w'.heap[b]? := fun b hbl hb => (Keeps.setBlock (S := fun c => c = tm) w'.drew tm o rfl).block b (by simp; omega) hb
  refine ⟨h1, by rw [cell_of_heap hb1]; simp [h8], by rw [cell_of_heap h2.tb]; rfl, o, by simpa [hk, ptrTo] using hrun, ?_⟩
  refine ⟨⟨by simp [setBlock]; omega, (hko _ (by omega) (by omega)).trans h2.wb, (hko _ (by omega) (by omega)).trans h2.rb, (hko _ (by omega) (by omega)).trans h2.tb⟩, by simp [setBlock]; omega, ?_, fun cs' ty' hcs => ?_, hmap⟩
  · have k1 : Keeps (fun c => c = tm ∨ c = sb) w w' := (Keeps.setCell (S := fun c => c = tm ∨ c = sb) w ⟨sb, 7, none⟩ _ (.inr rfl)).trans hq (fun _ h => h.elim)
    have k2 : Keeps (fun c => c = tm ∨ c = sb) w w'.drew := k1.trans (Keeps.drew (S := fun _ => False) w') (fun _ h => h.elim)
    exact k2.trans (Keeps.setBlock (S := fun c => c = tm ∨ c = sb) _ tm o (.inl rfl)) (fun _ h => .inl h)
  · rw [hown] at hcs; cases hcs
    exact (hko _ (by omega) hne).trans hb1

set_option maxRecDepth 100000 in
set_option maxHeartbeats 1000000 in
theorem begin_walk (w : World) (sb tm : Nat) (c1 begun clock : Int) (l : List (Int × Nat)) (cs : Array Value) (ty : TypeId) (hown : w.heap[sb]? = some (.cells cs ty)) (h2 : cs[2]? = some (.int .i64 c1)) (h7 : cs[7]? = some (.int .i64 begun)) (h6 : cs[6]? = some (.int .i64 clock)) (h8 : cs[8]? = some (.map (some tm)))
    (hm : MapIs hk ptrTo w tm l) (hf : (l.length : Int) < c1) (hb : -1 ≤ begun ∧ begun < 4611686018427387904) (hne : sb ≠ tm) (P1 : World → Prop)
    (hadd : ∀ n w3, BegunAt (w.drewN n) sb tm (begun + 1) clock l w3 → Calls Tryz.prog 95 #[.pointer (some ⟨sb, 9, none⟩), .pointer (some ⟨w.heap.size + 2, 0, none⟩)] w3 fun e w' => e = .returned (.tuple #[]) ∧ P1 w' ∧ w'.cell? ⟨w.heap.size + 2, 0, none⟩ = some (.int .i64 (begun + 1))) :
    Calls Tryz.prog 55 #[.pointer (some ⟨sb, 2, none⟩)] w fun e w' => e = .returned (.tuple #[.int .i64 (begun + 1), .int .i64 0]) ∧ P1 w' := by
  have HX : Hid (∀ n, BeginPre (w.drewN n) sb tm begun clock l) := fun n => begin_pre (w.drewN n) sb tm begun clock l cs ty hown h7 h6 h8 (hm.of_block rfl) hb hne
  have hle : ∀ n, (Builtin.len_ #[128] 3 #[.map (some tm)]).run Tryz.prog (w.drewN n) = .ok (.int .i64 l.length) (w.drewN n) := fun n => by
    have := (hm.of_block (w' := w.drewN n) rfl).len (P := Tryz.prog) (ty := 3) Tryz.underlying128
    simpa using this
  have hl0 := hle 0
  have hl1 := hle 1
  have c8 : w.cell? ⟨sb, 8, none⟩ = some (.map (some tm)) := by rw [cell_of_heap hown, h8]
  have c2 : w.cell? ⟨sb, 2, none⟩ = some (.int .i64 c1) := by rw [cell_of_heap hown, h2]
  have hf' : ¬ (c1 : Int) ≤ (l.length : Int) := by omega
  have HA : Hid (∀ n w3, BegunAt (w.drewN n) sb tm (begun + 1) clock l w3 → Calls Tryz.prog 95 #[.pointer (some ⟨sb, 9, none⟩), .pointer (some ⟨w.heap.size + 2, 0, none⟩)] w3 fun e w' => e = .returned (.tuple #[]) ∧ P1 w' ∧ w'.cell? ⟨w.heap.size + 2, 0, none⟩ = some (.int .i64 (begun + 1))) := hadd
  clear hadd hm hown h6 h7 h8 h2
  go_enter Tryz.func55, Tryz.ntmps55
  go_wp2_with fail
  go_quiet (fail)
  obtain ⟨c7, f7, d7, d6, HN⟩ := HX.out nq
  have hsz : (w.drewN nq).heap.size = w.heap.size := rfl
  have HA2 : Hid (∀ w3, BegunAt (w.drewN nq) sb tm (begun + 1) clock l w3 → Calls Tryz.prog 95 #[.pointer (some ⟨sb, 9, none⟩), .pointer (some ⟨w.heap.size + 2, 0, none⟩)] w3 fun e w' => e = .returned (.tuple #[]) ∧ P1 w' ∧ w'.cell? ⟨w.heap.size + 2, 0, none⟩ = some (.int .i64 (begun + 1))) := HA.out nq
  rw [hsz] at HN
  clear HX HA hl0 hl1 hle c8 c2
  generalize hWd : w.drewN nq = W at *
  go_wp2_with fail
  go_region_with (go_at_call 94; refine (HN.out _ (by repeat (first | assumption | exact Keeps.refl _ _ | refine Quiet.trans' ?_ (Keeps.drew _))) (by simp [hsz])).mono ?_; rintro e w2 ⟨rfl, e8, e0, o, hrun, hB⟩)
  all_goals
    go_wp2
    go_region
  all_goals
    go_wp2_with (go_at_call 95; refine (HA2.out _ hB).mono ?_; rintro e w4 ⟨rfl, hP, g0⟩)
    go_ret2
    exact ⟨rfl, hP⟩

end Go.Proofs.YthfimgeopciiiaaGreat
