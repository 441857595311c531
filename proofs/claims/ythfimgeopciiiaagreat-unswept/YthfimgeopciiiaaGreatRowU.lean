/-
  seriatekeep.Unswept returns true, whatever script it is given: cleaning up is never seen in an answer; and the script reads behind the call as it read before.
  Conditions: the row's own alone (what is read is within the reach of the machine's memory; the surroundings are calm; time may pass).
-/
import Derived.Test.YthfimgeopciiiaaGreatRows
import Derived.Test.YthfimgeopciiiaaGreatLawW
import Derived.Test.YthfimgeopciiiaaGreatRowB
namespace Go.Proofs.YthfimgeopciiiaaGreat.unswept
open Go.ChangeShapes Go.WideShapes Go.ChangeAt Go.RowKit Go.Conc
set_option linter.unusedVariables false

set_option maxRecDepth 100000 in
theorem lifted (os : Os) (started : os.Started) (H : Type) (enc : TypeId × Value → H) (F : Stop.Interp) :
    ReturnsInLeavingWide Rows.unsweptRow.assume Tryz.checked os 6 .any (Rows.unsweptSpec.pre6 enc Tryz.prog Tryz.f6 Rows.unsweptRow.domain false) ((OpenSpec.ofChange Rows.unsweptSpec).postWith enc Tryz.prog Tryz.f6 F (outsideKept [.timePasses]) false true false) := by
  refine leaving_of_calls (C := Tryz.checked) ownRow started (by kernel_rfl) Tryz.func6
    (ChangeSpec.witness6c (enc := enc) (C := Tryz.checked) ⟨#[], #[.slice none 0 0], []⟩ 8 (by kernel_rfl) (by kernel_rfl) (by kernel_rfl) (by kernel_rfl)) ?_
  intro W base args ds gs before hval0 hW0 hsz0
  have hval : ∀ (j : Nat) t v, Tryz.f6.params[j]? = some t → args[j]? = some v → Value.okWide Tryz.prog W .any base t v := hval0
  have hW : DataW.Whole enc Tryz.prog Tryz.f6.params.toList Rows.unsweptSpec.vars false W args.toList ds gs before := hW0
  have hsz : (DataW.weightsEach Tryz.prog (Tryz.f6.params.toList ++ Rows.unsweptSpec.plain.varTypes Tryz.prog) (ds ++ gs)).all (· ≤ reachBytes) = true := hsz0
  clear hval0 hW0 hsz0
  have hW' := hW
  obtain ⟨p, q, hA, hV, rfl, _, _⟩ := hW
  rw [Tryz.params6] at hA hval hsz
  obtain ⟨v, d, rfl, rfl, h0⟩ := trodAll_one hA
  obtain ⟨rfl, rfl⟩ := trodVars_none hV
  have hsl := slice_arg Tryz.underlying28 (hval 0 28 v rfl rfl)
  obtain ⟨l, hl⟩ := script_of h0 hsl (fun k hk => by
    have := List.all_eq_true.1 hsz k (DataW.weights_mem_each (j := 0) (t := 28) (d := d) rfl rfl k hk)
    simpa using this)
  simp only [List.append_nil] at hW'
  refine (unswept_h W v l hl).mono fun e W' ⟨he, hq⟩ => ?_
  subst he
  exact ⟨_, rfl, postWith_quiet hW' rfl (by kernel_rfl) rfl hq (by rw [Tryz.params6]; decide)⟩

theorem over : Rows.UnsweptSaid :=
  OpenClaim.holds_of_wide_leaving_time 6 Tryz.f6 rfl rfl rfl rfl rfl rfl rfl ⟨rfl, rfl, rfl, rfl, rfl⟩ rfl rfl rfl rfl rfl (by kernel_rfl) Tryz.func6 (by kernel_rfl)
    (of_decide_eq_true (by kernel_rfl)) (by unfold Func.isWrapper; first | (rw [if_pos (by decide +kernel)]; kernel_rfl) | (rw [if_neg (by decide +kernel)]; exact ⟨rfl, rfl⟩))
    (fun os started H enc _ F => lifted os started H enc F)

end Go.Proofs.YthfimgeopciiiaaGreat.unswept
namespace Go.Proofs.YthfimgeopciiiaaGreat

theorem unswept_holds : Rows.UnsweptSaid := unswept.over

end Go.Proofs.YthfimgeopciiiaaGreat
