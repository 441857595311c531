/-
  A transaction ends: it leaves the heap and the records.
-/
import Derived.Test.YthfimgeopciiiaaGreatPassW
namespace Go.Proofs.YthfimgeopciiiaaGreat
open Go.MapKept Go.ChangeMaps Go.Maps Go.RowKit

set_option maxRecDepth 100000 in
set_option maxHeartbeats 1000000 in
theorem abort_walk (w : World) (sb tm t : Nat) (h : Int) (l : List (Int × Nat)) (hw : (Lit.int .i64 h).wf = true)
    (P1 : World → Prop) (hrem : Calls Tryz.prog 151 #[.pointer (some ⟨sb, 9, none⟩), .pointer (some ⟨t, 0, none⟩)] w fun e w' => e = .returned (.tuple #[]) ∧ P1 w')
    (hP : ∀ w', P1 w' → w'.cell? ⟨sb, 8, none⟩ = some (.map (some tm)) ∧ w'.cell? ⟨t, 0, none⟩ = some (.int .i64 h) ∧ MapIs hk ptrTo w' tm l) :
    Calls Tryz.prog 92 #[.pointer (some ⟨sb, 2, none⟩), ptrTo t] w fun e w' => e = .returned (.tuple #[]) ∧ ∃ w1, P1 w1 ∧ MapIs hk ptrTo w' tm (del l h) ∧ Keeps (fun b => b = tm) w1 w' ∧ w'.heap.size = w1.heap.size := by
  have HR := hidC hrem
  have HP : Hid (∀ w', P1 w' → w'.cell? ⟨sb, 8, none⟩ = some (.map (some tm)) ∧ w'.cell? ⟨t, 0, none⟩ = some (.int .i64 h) ∧ MapIs hk ptrTo w' tm l) := hP
  clear hrem hP
  try unfold ptrTo
  go_enter Tryz.func92, Tryz.ntmps92
  go_wp2_with (go_at_call 151; refine (HR.out).mono ?_; rintro e w1 ⟨rfl, hp1⟩)
  obtain ⟨c8, c0, hm⟩ := HP.out _ hp1
  obtain ⟨o, hrun, hmap⟩ := MapIs.delete (w := w1.drew) (ty := 0) hk_good Tryz.underlying128 hm hw 3
  simp only [hk] at hrun
  go_region
  all_goals go_end0
  all_goals exact ⟨rfl, w1, hp1, hmap, (Keeps.drew w1).trans (Keeps.setBlock (S := fun b => b = tm) _ _ _ rfl) (fun _ h => .inl h), by simp [setBlock]⟩

def placed (P : Nat → Int) (T : List Nat) (x : Rec) : Rec := { x with pl := if x.tb ∈ T then P x.tb else x.pl }

theorem foot_nodup {l : List Rec} (h : (l.flatMap Rec.foot).Nodup) {x : Rec} (hx : x ∈ l) : x.tb ≠ x.wb ∧ x.tb ≠ x.rb ∧ x.wb ≠ x.rb := by
  obtain ⟨s1, s2, hs⟩ := List.append_of_mem hx
  rw [hs, List.flatMap_append, List.flatMap_cons] at h
  have h1 := (List.nodup_append.1 (List.nodup_append.1 h).2.1).1
  simp only [Rec.foot, List.nodup_cons, List.mem_cons, not_or, List.not_mem_nil, not_false_eq_true] at h1
  exact ⟨h1.1.1, h1.1.2.1, h1.2.1.1⟩

/-- What the heap's turn leaves of the records: their places alone have turned. -/
theorem turn_recs {w w1 : World} {recs : List Rec} {qb qo : Nat} {v v' : Value} {T : List Nat} (hR : ∀ x ∈ recs, RecAt w x) (hnd : (recs.flatMap Rec.foot).Nodup) (hT : HeapTurn qb qo v v' T w w1)
    (hTs : ∀ t ∈ T, ∃ x ∈ recs, x.tb = t) (hq : ∀ x ∈ recs, ∀ b ∈ x.foot, b ≠ qb ∧ v.ownBlock ≠ some b) : ∃ P : Nat → Int, ∀ x ∈ recs, RecAt w1 (placed P T x) := by
  have hex : ∀ t : Nat, ∃ p : Int, t ∈ T → ∀ x ∈ recs, x.tb = t → w1.heap[t]? = some (.cells (x.cells.setIfInBounds 7 (.int .i64 p)) 174) := by
    intro t
    by_cases ht : t ∈ T
    · obtain ⟨x, hx, rfl⟩ := hTs t ht
      obtain ⟨p, hp⟩ := hT.recs x.tb ht x.cells x.pl (hR x hx).own rfl
      refine ⟨p, fun _ y hy hye => ?_⟩
      have := nodup_flatMap_apart hnd hy hx (b := x.tb) (by simp [Rec.foot, hye]) (by simp [Rec.foot])
      subst this; exact hp
    · exact ⟨0, fun h => absurd h ht⟩
  obtain ⟨P, hP⟩ := Classical.axiomOfChoice hex
  refine ⟨P, fun x hx => ?_⟩
  obtain ⟨n1, n2, n3⟩ := foot_nodup hnd hx
  have hno : ∀ b ∈ x.foot, b ≠ x.tb → w1.heap[b]? = w.heap[b]? := fun b hb hne => by
    refine hT.keeps.block b ((hR x hx).lt b hb) (fun hS => ?_)
    rcases hS with h | h | h
    · exact (hq x hx b hb).2 h
    · obtain ⟨y, hy, hye⟩ := hTs b h
      have := nodup_flatMap_apart hnd hx hy (b := b) hb (by simp [Rec.foot, hye])
      subst this; exact hne hye.symm
    · exact (hq x hx b hb).1 h
  refine ⟨?_, (hR x hx).wr.of_block (hno _ (by simp [Rec.foot]) (Ne.symm n1)), (hR x hx).rd.of_block (hno _ (by simp [Rec.foot]) (Ne.symm n2))⟩
  by_cases ht : x.tb ∈ T
  · have := hP x.tb ht x hx rfl
    show w1.heap[x.tb]? = _
    rw [this]
    simp [placed, ht, Rec.cells]
  · show w1.heap[x.tb]? = _
    have hS : ¬ (v.ownBlock = some x.tb ∨ x.tb ∈ T ∨ x.tb = qb) := by
      rintro (h | h | h)
      · exact (hq x hx x.tb (by simp [Rec.foot])).2 h
      · exact ht h
      · exact (hq x hx x.tb (by simp [Rec.foot])).1 h
    rw [hT.keeps.block x.tb ((hR x hx).lt _ (by simp [Rec.foot])) hS, (hR x hx).own]
    simp [placed, ht, Rec.cells]

end Go.Proofs.YthfimgeopciiiaaGreat
