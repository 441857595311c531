/-
  slices.Clone of versions.
-/
import Derived.Test.YthfimgeopciiiaaGreatForget
import Derived.Maps.AppendAt
namespace Go.Proofs.YthfimgeopciiiaaGreat
open Go.MapKept Go.ChangeMaps Go.Maps Go.RowKit Go.MuLone

theorem info_verC : (Tryz.prog.info? 233).map (fun i => (i.zero, i.size, i.bytes)) = some (some (.agg #[.int .i64 0, .string ⟨#[]⟩, .bool false]), 3, 32) := by kernel_rfl

theorem verCells_one : ∀ (vs : List Ver), ∀ u ∈ vs.flatMap verCells, u.oneCell' = true := fun vs u hu => by
  obtain ⟨x, _, hx⟩ := List.mem_flatMap.1 hu
  simp only [verCells, List.mem_cons, List.not_mem_nil, or_false] at hx
  rcases hx with rfl | rfl | rfl <;> rfl

theorem verCells_length (vs : List Ver) : (vs.flatMap verCells).length = vs.length * 3 := by
  induction vs with
  | nil => rfl
  | cons x r ih => simp [List.flatMap_cons, ih, verCells]; omega

set_option maxRecDepth 100000 in
set_option maxHeartbeats 1000000 in
theorem cloneV_h (w : World) (g off cap : Nat) (vs : List Ver) (hb : vs.length ≤ 1000) (hg : g < w.heap.size) (hc : ∀ j u, (vs.flatMap verCells)[j]? = some u → w.cell? ⟨g, off + j, none⟩ = some u) :
    Calls Tryz.prog 146 #[.slice (some ⟨g, off, none⟩) vs.length cap] w fun e w' => ∃ v', e = .returned v' ∧ w'.ownsRow w.heap.size 233 3 v' vs.length (vs.flatMap verCells) ∧ Quiet w w' := by
  obtain ⟨i0, hi0, hz0, hz1, hz2⟩ := info_parts info_verC
  have hown0 : (w.alloc (.cells #[] 233)).ownsRow w.heap.size 233 3 (.slice (some ⟨w.heap.size, 0, none⟩) 0 0) 0 [] := ⟨rfl, .inr ⟨w.heap.size, 0, #[], rfl, Nat.le_refl _, heap_alloc_new w _, Nat.le_refl _, Nat.zero_le _, rfl, rfl⟩⟩
  have hnews : Hid (∀ j u, (vs.flatMap verCells)[j]? = some u → (w.alloc (.cells #[] 233)).cell? ((⟨g, off, none⟩ : Addr).add j) = some u) := fun j u hj => by
    have : (⟨g, off, none⟩ : Addr).add j = ⟨g, off + j, none⟩ := by cases j <;> simp [Addr.add]
    rw [this, World.cell?_alloc_lt _ _ _ hg]
    exact hc j u hj
  have hneq : ∀ W, (binOp .eql 224 (.slice (some ⟨g, off, none⟩) vs.length cap) (.slice none 0 0)).run Tryz.prog W = .ok (.bool false) W := fun W => by kernel_rfl
  clear hc
  go_enter Tryz.func146, Tryz.ntmps146
  go_wp2_with (first
    | (at_builtin; refine wpList_append_own_at _ rfl _ _ 224 rfl w.heap.size 233 i0 (.agg #[.int .i64 0, .string ⟨#[]⟩, .bool false]) 3 32 Tryz.underlying224 hi0 hz0 hz1 hz2 rfl (by decide) _ _ _ rfl hown0 ⟨g, off, none⟩ vs.length cap (vs.flatMap verCells) rfl (verCells_length vs) hnews.out (verCells_one vs) ?_ ?_ ?_ ?_)
    | go_in)
  · unfold maxLen; omega
  · omega
  · simp
  intro v' w4 hown4 hgrow hnil hloc
  have hq : Quiet w w4 := Quiet.of_new (Keeps.alloc _ _) (keeps_of_grown hgrow) (fun b hb => by simp [Value.ownBlock] at hb; omega)
  have hown5 : w4.ownsRow w.heap.size 233 3 v' vs.length (vs.flatMap verCells) := by simpa using hown4
  clear hown4 hnil hloc hgrow hown0 hnews
  go_wp2
  go_ret
  exact ⟨v', rfl, hown5, hq⟩

end Go.Proofs.YthfimgeopciiiaaGreat
