/-
  From a call's contract to a row of the second form: a law that keeps its own counsel, where what it reads is of a bounded bulk.
-/
import Derived.Test.YthfimgeopciiiaaGreatRows
import Derived.Test.YthfimgeopciiiaaGreatRowB
import Derived.JoinedCond
import Derived.Lib.SmallJoins
namespace Go.Proofs.YthfimgeopciiiaaGreat
open Go.MapKept Go.ChangeMaps Go.Maps Go.RowKit Go.MuLone Go.ChangeShapes Go.WideShapes Go.Conc
set_option linter.unusedVariables false

theorem bulk_one {H : Type} (d : DataW H) : 1 ≤ Rows.uptoBulk d := by
  cases d with
  | lit l => cases l <;> simp [Rows.uptoBulk]
  | _ => simp [Rows.uptoBulk]

theorem bulk_len {H : Type} : ∀ (l : List (DataW H)), l.length ≤ Rows.uptoBulkAll l
  | [] => by simp [Rows.uptoBulkAll]
  | d :: r => by
    have h1 := bulk_one d
    have h2 := bulk_len r
    simp only [Rows.uptoBulkAll, List.length_cons]
    omega

theorem bulk_mem {H : Type} {d : DataW H} : ∀ {l : List (DataW H)}, d ∈ l → Rows.uptoBulk d ≤ Rows.uptoBulkAll l
  | x :: r, h => by
    simp only [Rows.uptoBulkAll]
    rcases List.mem_cons.1 h with rfl | h
    · omega
    · have := bulk_mem h; omega

theorem bulk_bound {H : Type} {l : List (DataW H)} (h : Rows.uptoSmall H l = true) : Rows.uptoBulkAll l ≤ 1048576 := of_decide_eq_true h

section
variable {H : Type} {enc : TypeId × Value → H}

/-- the witness of a row with a bound, in calm surroundings -/
theorem witnessC {C : Checked} {os : Os} {f : FuncId} {fn : Func} {s : OpenSpec} {k : (H : Type) → List (DataW H) → Bool} (hk : s.cond = some k) {conds : List PathCond} {apart : Bool} (i : Input) (fuel : Nat)
    (hv : (World.plainHolding C.prog os i).variablesB C.prog = true)
    (hr : ((World.plainHolding C.prog os i).heap.toList.drop C.prog.globals.size).take ((begin C.prog (fun _ _ => 0) default).world.heap.size - C.prog.globals.size) =
      (begin C.prog (fun _ _ => 0) default).world.heap.toList.drop C.prog.globals.size)
    (hok : Input.okWideB C.prog (World.plainHolding C.prog os i) f ⟨#[], i.args, []⟩ = true)
    {x : List (DataW H) × List (DataW H) × List MemPlace} (hx : DataW.whole enc C.prog (World.plainHolding C.prog os i).memory fn.params.toList s.vars apart i.args.toList fuel = some x)
    (hconds : conds.all (PathCond.test C.prog ⟨fn.params.toList, x.1, s.bare.plain.varTypes C.prog, x.2.1⟩) = true) (hkk : k H (x.1 ++ x.2.1) = true)
    (hsz : s.bare.sizedB enc C.prog fn apart (World.plainHolding C.prog os i).memory i.args fuel = true) :
    ∃ (w : World) (tape : Tape) (i : Input), w.os = os ∧ (w.forCall tape i).Shaped C.prog ∧ i.vars = [] ∧ Input.okWide C.prog (w.forCall tape i) .any w.heap.size f i ∧
      s.pre6 enc C.prog fn conds apart (w.forCall tape i).memory i.args ∧ ({ calm := true } : Assume).holds C.prog (lone (Frame.enter C.prog f i.args .normal) [] (w.forCall tape i)) :=
  ⟨World.holding C.prog os i, fun _ _ => 0, ⟨#[], i.args, []⟩, rfl, World.shaped_of_B hv hr, (Input.okWide_of_okWideB (base := 0) hok).1, (Input.okWide_of_okWideB hok).2,
    ⟨(OpenSpec.pre_some hk conds apart _ _).2 ⟨x.1, x.2.1, x.2.2, DataW.Whole_of_whole hx, hconds, hkk⟩, sizedMet_of_sizedB hsz⟩, by
    simp only [Assume.holds]
    exact ⟨by simp, fun _ _ _ _ => rfl, by simp, by simp, by simp⟩⟩

/-- from the contract to the row's own form -/
theorem leaving_of_calls_cond {a : Assume} {C : Checked} {os : Os} {f : FuncId} {fn : Func} {s : OpenSpec} {k : (H : Type) → List (DataW H) → Bool} (hk : s.cond = some k) {F : Stop.Interp} {conds : List PathCond} {apart fresh handsOn : Bool}
    (own : ownKnob C.prog.godebug = none) (started : os.Started) (noInit : C.prog.inits.idxOf? f = none) (hfn : C.prog.funcs[f]? = some fn)
    (witness : ∃ (w : World) (tape : Tape) (i : Input), w.os = os ∧ (w.forCall tape i).Shaped C.prog ∧ i.vars = [] ∧ Input.okWide C.prog (w.forCall tape i) .any w.heap.size f i ∧
      s.pre6 enc C.prog fn conds apart (w.forCall tape i).memory i.args ∧ a.holds C.prog (lone (Frame.enter C.prog f i.args .normal) [] (w.forCall tape i)))
    (runs : ∀ (W : World) (base : Nat) (args : Array Value) (ds gs : List (DataW H)) (before : List MemPlace),
      (∀ (j : Nat) t v, fn.params[j]? = some t → args[j]? = some v → Value.okWide C.prog W .any base t v) →
      DataW.Whole enc C.prog fn.params.toList s.vars apart W args.toList ds gs before → k H (ds ++ gs) = true →
      (DataW.weightsEach C.prog (fn.params.toList ++ s.bare.plain.varTypes C.prog) (ds ++ gs)).all (· ≤ reachBytes) = true →
      Calls C.prog f args W fun e W' => ∃ v, e = .returned v ∧ s.postWith enc C.prog fn F (outsideKept [.timePasses]) apart fresh handsOn W args v W') :
    ReturnsInLeavingWide a C os f .any (s.pre6 enc C.prog fn conds apart) (s.postWith enc C.prog fn F (outsideKept [.timePasses]) apart fresh handsOn) := fun enter => by
  refine ReturnsInOpen.mono (fun m w t h => ⟨h.2.1, onlyLeaving_of_quiet h.1, h.2.2⟩) (fun _ h => h) (returnsInHanded_of_calls own started noInit witness ?_ enter)
  intro w tape i _ _ _ hok hpre _
  obtain ⟨_, _, _, fn', hfn', _, _, _, _, hval⟩ := hok
  have e : fn' = fn := Option.some.inj (hfn'.symm.trans hfn)
  subst e
  obtain ⟨ds, gs, before, hw, hc, hkk⟩ := (OpenSpec.pre_some hk conds apart _ _).1 hpre.1
  have hw' := DataW.Whole.of_heap (w' := w.forCall tape i) (by rfl) hw
  refine (runs (w.forCall tape i) w.heap.size i.args ds gs before hval hw' hkk (hpre.2.weights hw)).mono ?_
  rintro e W' ⟨v, rfl, hp⟩
  exact postWith_blind hp
end

/-- a row that says 'leaving', that time may pass, and a bound of its own -/
theorem holds_cond_leaving_time {p : Pinned} {s : OpenSpec} {c : OpenClaim} (f : FuncId) (fn : Func)
    (hn : c.program = p.name) (hs : c.sum = p.sum) (hsp : c.spec = s.name)
    (hstart : c.start = .entering) (hout : c.outside = [.timePasses]) (hin : c.inits = []) (hun : c.under = none) (hi4 : c.initsInPlace = [] ∧ c.initsUnfollowed = false ∧ c.initsRecurse = false ∧ c.initsNamed = [] ∧ c.initsPassed = []) (hnb : c.noBlocks = false) (hlv : c.leaving = true) (hfo : c.followed = none) (hnar : c.narrowed = s.cond.isSome) (hstill : c.still = false)
    (hfn : p.checked.prog.funcNamed c.func = some f) (hf : p.checked.prog.funcs[f]? = some fn)
    (closed : joinedFacts p.checked.prog f fn s.bare c = true)
    (hinst : fn.isInstance p.checked.prog c.origin c.targs) (hwrap : fn.isWrapper p.checked.prog c.wrapper c.mainSum)
    (h : ∀ os : Os, os.Started → ∀ (H : Type) (enc : TypeId × Value → H), (∀ a b, enc a = enc b → a = b) →
      ∀ F : Stop.Interp, ReturnsInLeavingWide c.assume p.checked os f .any (c.pre enc p.checked.prog fn s) (s.postWith enc p.checked.prog fn F (outsideKept [.timePasses]) c.apart c.fresh c.handsOn)) : c.holds p s := by
  simp only [joinedFacts, Bool.and_eq_true, beq_iff_eq, Array.all_eq_true_iff_forall_mem, List.all_eq_true, decide_eq_true_eq] at closed
  obtain ⟨⟨⟨⟨⟨⟨⟨⟨⟨⟨⟨⟨⟨⟨⟨⟨⟨⟨⟨⟨⟨⟨⟨⟨⟨⟨⟨⟨⟨⟨⟨k1, k2⟩, k3⟩, k4⟩, k5⟩, k6⟩, k7⟩, k8⟩, k9⟩, k10⟩, k11⟩, k12⟩, k13⟩, k14⟩, k15⟩, k16⟩, k17⟩, k17b⟩, k18⟩, k19⟩, k20⟩, k21⟩, k22⟩, k23⟩, k23b⟩, k24⟩, k24b⟩, k24c⟩, k25⟩, k26⟩, k27⟩, k28⟩ := closed
  have hq : ∀ os : Os, Stop.quiet p.checked.prog os := fun os k hk => by rw [k9] at hk; cases hk
  refine ⟨k1, hn, hs, hsp, k2, k3, by unfold OpenClaim.startFits; rw [hstart]; exact k24, by unfold OpenClaim.startTold; rw [hstart]; exact ⟨hin, hun, hi4⟩, f, fn, hfn, hf, ⟨k4, k19⟩, (fun hb => by rw [hnb] at hb; cases hb), by unfold OpenClaim.namedList; rw [hfo]; exact k5, hinst, hwrap,
    k6.trans k7.symm, ⟨k8.trans k9.symm, by unfold Program.envWorded; rw [k9]; rfl, k23b⟩, k10, k11, k12, k13, k14, ⟨k15, k27, k28⟩, ⟨k16, k20⟩, ⟨k17, k21, k25, k26⟩, ⟨k22, k24b, k24c, k17b⟩, (by rw [hout, hnar]; cases hsh : c.shortTexts with | none => simp [OutsideCond.fixesBytes] | some _ => rw [hsh] at k23; cases k23), fun n hn' => varReadable_some (k18 n hn'),
    ⟨_, by unfold OpenClaim.world; rw [hout, hstart]; exact ⟨WideRow.started_initial, fun o ho => by simp at ho; subst ho; trivial⟩, hq _⟩, [], by unfold OpenClaim.lists; rw [hfo], fun os st _ H enc inj => ?_⟩
  have st' : os.Started := by unfold OpenClaim.world at st; rw [hout, hstart] at st; exact st.1
  rw [OpenClaim.post_not_still hstill]
  unfold OpenClaim.form
  rw [hstart, k6]
  intro F
  have e1 : c.okInput = Input.okWide := by unfold OpenClaim.okInput; rw [hnb]
  have e2 : c.atReturn p.checked.prog = leavingAtReturn p.checked.prog := by unfold OpenClaim.atReturn; rw [hlv]
  have e3 : c.always p.checked.prog [] = nothingAlways := by unfold OpenClaim.always; rw [hfo]
  have e4 : s.post enc p.checked.prog fn F c.outside c.apart c.fresh c.handsOn c.again = s.postWith enc p.checked.prog fn F (outsideKept [.timePasses]) c.apart c.fresh c.handsOn := by rw [hout]; rfl
  rw [e1, e2, e3]
  show ReturnsInOpen _ _ _ _ _ _ _ _ (s.post enc p.checked.prog fn F c.outside c.apart c.fresh c.handsOn c.again) _ _
  rw [e4]
  exact h os st' H enc inj F k24

section
variable {H : Type} {enc : TypeId × Value → H} {W : World} {n : Nat}

set_option maxRecDepth 100000 in
theorem slice_bulk {t e : TypeId} (hu : Tryz.prog.underlying t = some (.slice e)) {a : Option Addr} {len cap : Nat} {x : DataW H × List MemPlace} (h : DataW.trod enc Tryz.prog W 0 (fun _ => true) true n t [.slice a len cap] = some x) : len ≤ Rows.uptoBulk x.1 := by
  rcases Deep.open_slice hu h with ⟨h0, rfl⟩ | ⟨a', len', cap', m, n', D, Pl, hcs, _, hlc, _, hm, rfl, hel⟩
  · simp at h0
    rw [h0.2.1]; omega
  · simp at hcs
    obtain ⟨rfl, rfl, rfl⟩ := hcs
    simp only [Rows.uptoBulk]
    have := bulk_len ((List.range len).map D)
    simp at this
    omega

set_option maxRecDepth 100000 in
theorem script_of2 {v : Value} {d : DataW H} {ps : List MemPlace} (h : DataW.Trod enc Tryz.prog W 0 (fun _ => true) true 28 v d ps) (hv : ∃ a len cap, v = .slice a len cap) (hf : ∀ k ∈ d.weights Tryz.prog 28, k ≤ reachBytes) :
    ∃ l, ScriptAt W v l ∧ l.length ≤ Rows.uptoBulk d ∧ ∀ s ∈ l, s.cs.length ≤ Rows.uptoBulk d := by
  obtain ⟨a0, len0, cap0, rfl⟩ := hv
  obtain ⟨n, h⟩ := h
  have h' : DataW.trod enc Tryz.prog W 0 (fun _ => true) true n 28 [.slice a0 len0 cap0] = some (d, ps) := h
  rcases Deep.open_slice Tryz.underlying28 h' with ⟨h0, hx⟩ | ⟨a, len, cap, m, n', D, Pl, hcs, _, hlc, _, hm, hx, hel⟩
  · simp at h0
    obtain ⟨rfl, rfl, rfl⟩ := h0
    exact ⟨[], ⟨⟨none, 0, rfl, .inl rfl⟩, fun s hs => by simp at hs, by simp⟩, by simp, fun s hs => by simp at hs⟩
  · simp at hcs
    obtain ⟨rfl, rfl, rfl⟩ := hcs
    have hbl0 : len0 ≤ Rows.uptoBulk d := slice_bulk Tryz.underlying28 h'
    simp only [Prod.mk.injEq] at hx
    obtain ⟨rfl, -⟩ := hx
    have hm' : m = cap0 := by simpa using hm
    clear hm
    have hr := reach_val
    have hlen : len0 * 72 ≤ reachBytes := by
      have := hf ((len0 + (m - len0)) * 72) (by simp [DataW.weights, Tryz.underlying28, bytes48])
      have : len0 * 72 ≤ (len0 + (m - len0)) * 72 := Nat.mul_le_mul_right _ (by omega)
      omega
    have each : ∀ i, i < len0 → ∃ q : StepD, (W.cell? (a.add (i * 5)) = some (.int .i64 q.kind) ∧ W.cell? (a.add (i * 5 + 1)) = some (.int .i64 q.t) ∧ W.cell? (a.add (i * 5 + 2)) = some (.string q.key) ∧ W.cell? (a.add (i * 5 + 3)) = some (.string q.hi) ∧ W.cell? (a.add (i * 5 + 4)) = some q.lv) ∧ StepOk W q ∧ q.cs.length ≤ Rows.uptoBulk (DataW.slice ((List.range len0).map D) ((List.range (m - len0)).map fun i => D (len0 + i))) := by
      intro i hi
      obtain ⟨cs', h1, h2⟩ := hel i (by omega)
      rw [cells48] at h1
      obtain ⟨_, hl, hcell⟩ := World.cells?_some h1
      obtain ⟨xs, k, _, hxy, _, hxl, hfi⟩ := DataW.trod_struct Tryz.underlying48 h2
      match xs, hxl, cs', hl with
      | [y0, y1, y2, y3, y4], _, [v0, v1, v2, v3, v4], _ =>
        have g0 := hfi 0 _ rfl
        have g1 := hfi 1 _ rfl
        have g2 := hfi 2 _ rfl
        have g3 := hfi 3 _ rfl
        have g4 := hfi 4 _ rfl
        simp [cells9, cells3, cells46] at g0 g1 g2 g3 g4
        obtain ⟨s0, e0, _⟩ := trod_int3 g0
        obtain ⟨s1, e1, w1⟩ := trod_int3 g1
        obtain ⟨s2, e2, _⟩ := trod_str g2
        obtain ⟨s3, e3, _⟩ := trod_str g3
        simp at e0 e1 e2 e3
        subst e0 e1 e2 e3
        simp only [Prod.mk.injEq] at hxy
        obtain ⟨cs, hch, hbl⟩ := changes_of g4 (fun k hk => hf k (by
          simp only [DataW.weights, Tryz.underlying28, List.mem_cons, List.mem_append]
          refine .inr (.inl (weightsAll_mem (d := D i) (List.mem_map.2 ⟨i, by simpa using hi, rfl⟩) k ?_))
          rw [hxy.1]
          simp only [DataW.weights, Tryz.underlying48, List.map_cons, List.map_nil, DataW.weightsEach, List.mem_append]
          simp [hk]))
        have c0 := hcell 0 (by omega)
        have c1 := hcell 1 (by omega)
        have c2 := hcell 2 (by omega)
        have c3 := hcell 3 (by omega)
        have c4 := hcell 4 (by omega)
        rw [Deep.add_add] at c0 c1 c2 c3 c4
        refine ⟨⟨s0, s1, s2, s3, v4, cs⟩, ⟨by simpa using c0, by simpa using c1, by simpa using c2, by simpa using c3, by simpa using c4⟩, ⟨by simpa [Lit.wf, IntKind.min, IntKind.max, IntKind.signed, IntKind.bits] using w1, hch, hbl⟩, ?_⟩
        obtain ⟨la, lc, hlv, -⟩ := hch.sh
        rw [hlv] at g4
        have b1 := slice_bulk Tryz.underlying46 g4
        have b2 : Rows.uptoBulk y4.1 ≤ Rows.uptoBulk (D i) := by
          rw [hxy.1]
          simp only [Rows.uptoBulk]
          have := bulk_mem (d := y4.1) (l := List.map (fun y : DataW H × List MemPlace => y.1) [y0, y1, y2, y3, y4]) (by simp)
          omega
        have b3 : Rows.uptoBulk (D i) ≤ Rows.uptoBulkAll ((List.range len0).map D) := bulk_mem (List.mem_map.2 ⟨i, by simpa using hi, rfl⟩)
        simp only [Rows.uptoBulk]
        show cs.length ≤ _
        omega
    obtain ⟨l, hl, hq⟩ := list_of _ len0 each
    by_cases h0 : len0 = 0
    · subst h0
      obtain rfl := List.eq_nil_of_length_eq_zero hl
      exact ⟨[], ⟨⟨some a, cap0, rfl, .inl rfl⟩, fun s hs => by simp at hs, by simp⟩, by simp, fun s hs => by simp at hs⟩
    · obtain ⟨q0, ⟨c0, _⟩, _⟩ := each 0 (by omega)
      obtain ⟨hsp, hblt⟩ := cell_spot c0
      obtain ⟨g, o, sp⟩ := a
      simp [Addr.add] at hsp hblt
      subst hsp
      refine ⟨l, ⟨⟨some ⟨g, o, none⟩, cap0, by rw [hl], .inr ⟨g, o, rfl, hblt, fun i x hx => ?_⟩⟩, fun s hs => ?_, by omega⟩, by omega, fun s hs => ?_⟩
      · obtain ⟨⟨p0, p1, p2, p3, p4⟩, _⟩ := hq i x hx
        rw [add_none] at p0 p1 p2 p3 p4
        simp only [Nat.add_assoc] at p0 p1 p2 p3 p4 ⊢
        exact ⟨p0, p1, p2, p3, p4⟩
      · obtain ⟨i, hi, e⟩ := List.mem_iff_getElem.1 hs
        exact (hq i s (by rw [List.getElem?_eq_getElem hi, e])).2.1
      · obtain ⟨i, hi, e⟩ := List.mem_iff_getElem.1 hs
        exact (hq i s (by rw [List.getElem?_eq_getElem hi, e])).2.2

end

section
open Go.ChangeShapes Go.WideShapes
variable {H : Type} {enc : TypeId × Value → H} {W : World}

set_option maxRecDepth 100000 in
theorem config_arg {r : Reach} {b0 : Nat} {v : Value} {d : DataW H} {p : List MemPlace} (hv : Value.okWide Tryz.prog W r b0 23 v) (h : DataW.Trod enc Tryz.prog W 0 (fun _ => true) true 23 v d p) :
    ∃ a b c e : Int, v = .agg #[.int .i64 a, .int .i64 b, .int .i64 c, .int .i64 e] := by
  obtain ⟨v0, v1, v2, v3, y0, y1, y2, y3, n, rfl, -, -, h0, h1, h2, h3⟩ := Joins.open_agg4 Tryz.underlying23 (by kernel_rfl) (by kernel_rfl) hv h
  obtain ⟨a, e0, _⟩ := trod_int3 h0
  obtain ⟨b, e1, _⟩ := trod_int3 h1
  obtain ⟨c, e2, _⟩ := trod_int3 h2
  obtain ⟨d, e3, _⟩ := trod_int3 h3
  simp at e0 e1 e2 e3
  subst e0 e1 e2 e3
  exact ⟨a, b, c, d, rfl⟩
end

end Go.Proofs.YthfimgeopciiiaaGreat
