/-
  seriatelaw.Plays returns true, whatever configuration and script it is given: every call of the store answers as the document's own store does; and both read behind the call as they read before.
  Conditions: the row's own alone (what is read holds at most 1048576 values and letters, and lies within the reach of the machine's memory; the surroundings are calm; time may pass).
-/
import Derived.Test.YthfimgeopciiiaaGreatLwT
import Derived.Test.YthfimgeopciiiaaGreatLwY
import Derived.Test.YthfimgeopciiiaaGreatLwZ
namespace Go.Proofs.YthfimgeopciiiaaGreat.plays
open Go.ChangeShapes Go.WideShapes Go.ChangeAt Go.RowKit Go.Conc
set_option linter.unusedVariables false

set_option maxRecDepth 100000 in
theorem lifted (os : Os) (started : os.Started) (H : Type) (enc : TypeId × Value → H) (F : Stop.Interp) :
    ReturnsInLeavingWide Rows.playsUptoRow.assume Tryz.checked os 3 .any ((Rows.OpenSpec.upto Rows.playsSpec).pre6 enc Tryz.prog Tryz.f3 Rows.playsUptoRow.domain false) ((Rows.OpenSpec.upto Rows.playsSpec).postWith enc Tryz.prog Tryz.f3 F (outsideKept [.timePasses]) false true false) := by
  refine leaving_of_calls_cond (C := Tryz.checked) (s := Rows.OpenSpec.upto Rows.playsSpec) (k := Rows.uptoSmall) rfl ownRow started (by kernel_rfl) Tryz.func3
    (witnessC (enc := enc) (C := Tryz.checked) (s := Rows.OpenSpec.upto Rows.playsSpec) (k := Rows.uptoSmall) rfl ⟨#[], #[.agg #[.int .i64 0, .int .i64 0, .int .i64 0, .int .i64 0], .slice none 0 0], []⟩ 8 (by kernel_rfl) (by kernel_rfl) (by kernel_rfl) (x := ([.agg [.lit (.int .i64 0), .lit (.int .i64 0), .lit (.int .i64 0), .lit (.int .i64 0)], .nil], [], [])) (by kernel_rfl) (by kernel_rfl) (by kernel_rfl) (by kernel_rfl)) ?_
  intro W base args ds gs before hval0 hW0 hk0 hsz0
  have hval : ∀ (j : Nat) t v, Tryz.f3.params[j]? = some t → args[j]? = some v → Value.okWide Tryz.prog W .any base t v := hval0
  have hW : DataW.Whole enc Tryz.prog Tryz.f3.params.toList Rows.playsSpec.vars false W args.toList ds gs before := hW0
  have hsz : (DataW.weightsEach Tryz.prog (Tryz.f3.params.toList ++ Rows.playsSpec.plain.varTypes Tryz.prog) (ds ++ gs)).all (· ≤ reachBytes) = true := hsz0
  have hbk := bulk_bound hk0
  clear hval0 hW0 hsz0 hk0
  have hW' := hW
  obtain ⟨p, q, hA, hV, rfl, _, _⟩ := hW
  rw [Tryz.params3] at hA hval hsz
  obtain ⟨v0, v1, d0, d1, p0, p1, rfl, rfl, -, h0, h1⟩ := trodAll_two hA
  obtain ⟨rfl, rfl⟩ := trodVars_none hV
  obtain ⟨a, b, c, e, rfl⟩ := config_arg (hval 0 23 v0 rfl rfl) h0
  have hsl := slice_arg Tryz.underlying24 (hval 1 24 v1 rfl rfl)
  obtain ⟨l, hl, hl1, hl2⟩ := script_of3 h1 hsl (fun k hk => by
    have := List.all_eq_true.1 hsz k (DataW.weights_mem_each (j := 1) (t := 24) (d := d1) rfl rfl k hk)
    simpa using this)
  simp only [List.append_nil, Rows.uptoBulkAll] at hW' hbk
  refine (plays_h W a b c e v1 l hl (by omega) (fun o ho => by have := hl2 o ho; omega) look_ok (fun w sd => ScansOk.law (fun W s m M N T L hN o hw => scans_h T L hN o hw)) (fun w sd => WritesOk.law (fun W s m M N T L hN d hd hc => writes_h T L hN d.o d.cs hd.wf hd.ch hc))).mono fun e W' ⟨he, hq⟩ => ?_
  subst he
  exact ⟨_, rfl, postWith_quiet (s := Rows.playsSpec) (F := F) hW' rfl (by kernel_rfl) rfl hq (by rw [Tryz.params3]; decide)⟩

theorem over : Rows.PlaysUptoSaid :=
  holds_cond_leaving_time 3 Tryz.f3 rfl rfl rfl rfl rfl rfl rfl ⟨rfl, rfl, rfl, rfl, rfl⟩ rfl rfl rfl rfl rfl (by kernel_rfl) Tryz.func3 (by kernel_rfl)
    (of_decide_eq_true (by kernel_rfl)) (by unfold Func.isWrapper; first | (rw [if_pos (by decide +kernel)]; kernel_rfl) | (rw [if_neg (by decide +kernel)]; exact ⟨rfl, rfl⟩))
    (fun os started H enc _ F => lifted os started H enc F)

end Go.Proofs.YthfimgeopciiiaaGreat.plays
namespace Go.Proofs.YthfimgeopciiiaaGreat

theorem plays_holds : Rows.PlaysUptoSaid := plays.over

end Go.Proofs.YthfimgeopciiiaaGreat
