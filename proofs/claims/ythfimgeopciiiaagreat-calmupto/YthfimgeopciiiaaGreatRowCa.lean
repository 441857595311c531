/-
  seriatekeep.Calm returns true, whatever script, readers, key and value it is given: who only reads is never aborted, and one that runs alone commits; and all of them read behind the call as they read before.
  Conditions: the row's own alone (what is read holds at most 1048576 values and letters, and lies within the reach of the machine's memory; the surroundings are calm; time may pass).
-/
import Derived.Test.YthfimgeopciiiaaGreatRowC
import Derived.Test.YthfimgeopciiiaaGreatCalmX
import Derived.Carry
namespace Go.Proofs.YthfimgeopciiiaaGreat.calm
open Go.ChangeShapes Go.WideShapes Go.ChangeAt Go.RowKit Go.Conc
set_option linter.unusedVariables false

set_option maxRecDepth 100000 in
theorem lifted (os : Os) (started : os.Started) (H : Type) (enc : TypeId × Value → H) (F : Stop.Interp) :
    ReturnsInLeavingWide Rows.calmUptoRow.assume Tryz.checked os 7 .any ((Rows.OpenSpec.upto Rows.calmSpec).pre6 enc Tryz.prog Tryz.f7 Rows.calmUptoRow.domain false) ((Rows.OpenSpec.upto Rows.calmSpec).postWith enc Tryz.prog Tryz.f7 F (outsideKept [.timePasses]) false true false) := by
  refine leaving_of_calls_cond (C := Tryz.checked) (s := Rows.OpenSpec.upto Rows.calmSpec) (k := Rows.uptoSmall) rfl ownRow started (by kernel_rfl) Tryz.func7
    (witnessC (enc := enc) (C := Tryz.checked) (s := Rows.OpenSpec.upto Rows.calmSpec) (k := Rows.uptoSmall) rfl ⟨#[], #[.slice none 0 0, .slice none 0 0, .string ⟨#[]⟩, .string ⟨#[]⟩], []⟩ 8 (by kernel_rfl) (by kernel_rfl) (by kernel_rfl) (x := ([.nil, .nil, .lit (.string []), .lit (.string [])], [], [])) (by kernel_rfl) (by kernel_rfl) (by kernel_rfl) (by kernel_rfl)) ?_
  intro W base args ds gs before hval0 hW0 hk0 hsz0
  have hval : ∀ (j : Nat) t v, Tryz.f7.params[j]? = some t → args[j]? = some v → Value.okWide Tryz.prog W .any base t v := hval0
  have hW : DataW.Whole enc Tryz.prog Tryz.f7.params.toList Rows.calmSpec.vars false W args.toList ds gs before := hW0
  have hsz : (DataW.weightsEach Tryz.prog (Tryz.f7.params.toList ++ Rows.calmSpec.plain.varTypes Tryz.prog) (ds ++ gs)).all (· ≤ reachBytes) = true := hsz0
  have hbk := bulk_bound hk0
  clear hval0 hW0 hsz0 hk0
  have hW' := hW
  obtain ⟨p, q, hA, hV, rfl, _, _⟩ := hW
  rw [Tryz.params7] at hA hval hsz
  obtain ⟨v0, v1, v2, v3, d0, d1, d2, d3, p0, p1, p2, p3, rfl, rfl, -, h0, h1, h2, h3⟩ := trodAll_four hA
  obtain ⟨rfl, rfl⟩ := trodVars_none hV
  have hs0 := slice_arg Tryz.underlying28 (hval 0 28 v0 rfl rfl)
  have hs1 := slice_arg Tryz.underlying28 (hval 1 28 v1 rfl rfl)
  obtain ⟨key, rfl⟩ := okWide_string Tryz.underlying9 (hval 2 9 v2 rfl rfl)
  obtain ⟨value, rfl⟩ := okWide_string Tryz.underlying9 (hval 3 9 v3 rfl rfl)
  obtain ⟨l, hl, hl1, hl2⟩ := script_of2 h0 hs0 (fun k hk => by
    have := List.all_eq_true.1 hsz k (DataW.weights_mem_each (j := 0) (t := 28) (d := d0) rfl rfl k hk)
    simpa using this)
  obtain ⟨rl, hr, hr1, hr2⟩ := script_of2 h1 hs1 (fun k hk => by
    have := List.all_eq_true.1 hsz k (DataW.weights_mem_each (j := 1) (t := 28) (d := d1) rfl rfl k hk)
    simpa using this)
  have b2 := bulk_one d2
  have b3 := bulk_one d3
  simp only [List.append_nil, Rows.uptoBulkAll] at hW' hbk
  refine (calm_h W v0 l hl v1 rl hr key value (by omega) (fun o ho => by have := hl2 o ho; omega) (fun o ho => by have := hr2 o ho; omega)).mono fun e W' ⟨he, hq⟩ => ?_
  subst he
  exact ⟨_, rfl, postWith_quiet (s := Rows.calmSpec) (F := F) hW' rfl (by kernel_rfl) rfl hq (by rw [Tryz.params7]; decide)⟩

theorem over : Rows.CalmUptoSaid :=
  holds_cond_leaving_time 7 Tryz.f7 rfl rfl rfl rfl rfl rfl rfl ⟨rfl, rfl, rfl, rfl, rfl⟩ rfl rfl rfl rfl rfl (by kernel_rfl) Tryz.func7 (by kernel_rfl)
    (of_decide_eq_true (by kernel_rfl)) (by unfold Func.isWrapper; first | (rw [if_pos (by decide +kernel)]; kernel_rfl) | (rw [if_neg (by decide +kernel)]; exact ⟨rfl, rfl⟩))
    (fun os started H enc _ F => lifted os started H enc F)

end Go.Proofs.YthfimgeopciiiaaGreat.calm
namespace Go.Proofs.YthfimgeopciiiaaGreat

theorem calm_holds : Rows.CalmUptoSaid := calm.over

end Go.Proofs.YthfimgeopciiiaaGreat
