/-
  From a call's contract to a row of the second form: a law that keeps its own counsel, where what it reads is of a bounded bulk.
-/
import Derived.Test.YthfimgeopciiiaaGreatRows
import Derived.Test.YthfimgeopciiiaaGreatRowB
import Derived.JoinedCond
import Derived.Lib.SmallJoins
import Derived.Test.YthfimgeopciiiaaGreatLwI
import Derived.Test.YthfimgeopciiiaaGreatLwP
namespace Go.Proofs.YthfimgeopciiiaaGreat
open Go.MapKept Go.ChangeMaps Go.Maps Go.RowKit Go.MuLone Go.ChangeShapes Go.WideShapes Go.Conc
set_option linter.unusedVariables false

theorem bulk_one {H : Type} (d : DataW H) : 1 ≤ Rows.uptoBulk d := by
  cases d with
  | lit l => cases l <;> simp [Rows.uptoBulk]
  | _ => simp [Rows.uptoBulk]

theorem bulk_len {H : Type} : ∀ (l : List (DataW H)), l.length ≤ Rows.uptoBulkAll l
  | [] => by simp [Rows.uptoBulkAll]
  | d :: r => by
    have h1 := bulk_one d
    have h2 := bulk_len r
    simp only [Rows.uptoBulkAll, List.length_cons]
    omega

theorem bulk_mem {H : Type} {d : DataW H} : ∀ {l : List (DataW H)}, d ∈ l → Rows.uptoBulk d ≤ Rows.uptoBulkAll l
  | x :: r, h => by
    simp only [Rows.uptoBulkAll]
    rcases List.mem_cons.1 h with rfl | h
    · omega
    · have := bulk_mem h; omega

theorem bulk_bound {H : Type} {l : List (DataW H)} (h : Rows.uptoSmall H l = true) : Rows.uptoBulkAll l ≤ 1048576 := of_decide_eq_true h

section
variable {H : Type} {enc : TypeId × Value → H}

/-- the witness of a row with a bound, in calm surroundings -/
theorem witnessC {C : Checked} {os : Os} {f : FuncId} {fn : Func} {s : OpenSpec} {k : (H : Type) → List (DataW H) → Bool} (hk : s.cond = some k) {conds : List PathCond} {apart : Bool} (i : Input) (fuel : Nat)
    (hv : (World.plainHolding C.prog os i).variablesB C.prog = true)
    (hr : ((World.plainHolding C.prog os i).heap.toList.drop C.prog.globals.size).take ((begin C.prog (fun _ _ => 0) default).world.heap.size - C.prog.globals.size) =
      (begin C.prog (fun _ _ => 0) default).world.heap.toList.drop C.prog.globals.size)
    (hok : Input.okWideB C.prog (World.plainHolding C.prog os i) f ⟨#[], i.args, []⟩ = true)
    {x : List (DataW H) × List (DataW H) × List MemPlace} (hx : DataW.whole enc C.prog (World.plainHolding C.prog os i).memory fn.params.toList s.vars apart i.args.toList fuel = some x)
    (hconds : conds.all (PathCond.test C.prog ⟨fn.params.toList, x.1, s.bare.plain.varTypes C.prog, x.2.1⟩) = true) (hkk : k H (x.1 ++ x.2.1) = true)
    (hsz : s.bare.sizedB enc C.prog fn apart (World.plainHolding C.prog os i).memory i.args fuel = true) :
    ∃ (w : World) (tape : Tape) (i : Input), w.os = os ∧ (w.forCall tape i).Shaped C.prog ∧ i.vars = [] ∧ Input.okWide C.prog (w.forCall tape i) .any w.heap.size f i ∧
      s.pre6 enc C.prog fn conds apart (w.forCall tape i).memory i.args ∧ ({ calm := true } : Assume).holds C.prog (lone (Frame.enter C.prog f i.args .normal) [] (w.forCall tape i)) :=
  ⟨World.holding C.prog os i, fun _ _ => 0, ⟨#[], i.args, []⟩, rfl, World.shaped_of_B hv hr, (Input.okWide_of_okWideB (base := 0) hok).1, (Input.okWide_of_okWideB hok).2,
    ⟨(OpenSpec.pre_some hk conds apart _ _).2 ⟨x.1, x.2.1, x.2.2, DataW.Whole_of_whole hx, hconds, hkk⟩, sizedMet_of_sizedB hsz⟩, by
    simp only [Assume.holds]
    exact ⟨by simp, fun _ _ _ _ => rfl, by simp, by simp, by simp⟩⟩

/-- from the contract to the row's own form -/
theorem leaving_of_calls_cond {a : Assume} {C : Checked} {os : Os} {f : FuncId} {fn : Func} {s : OpenSpec} {k : (H : Type) → List (DataW H) → Bool} (hk : s.cond = some k) {F : Stop.Interp} {conds : List PathCond} {apart fresh handsOn : Bool}
    (own : ownKnob C.prog.godebug = none) (started : os.Started) (noInit : C.prog.inits.idxOf? f = none) (hfn : C.prog.funcs[f]? = some fn)
    (witness : ∃ (w : World) (tape : Tape) (i : Input), w.os = os ∧ (w.forCall tape i).Shaped C.prog ∧ i.vars = [] ∧ Input.okWide C.prog (w.forCall tape i) .any w.heap.size f i ∧
      s.pre6 enc C.prog fn conds apart (w.forCall tape i).memory i.args ∧ a.holds C.prog (lone (Frame.enter C.prog f i.args .normal) [] (w.forCall tape i)))
    (runs : ∀ (W : World) (base : Nat) (args : Array Value) (ds gs : List (DataW H)) (before : List MemPlace),
      (∀ (j : Nat) t v, fn.params[j]? = some t → args[j]? = some v → Value.okWide C.prog W .any base t v) →
      DataW.Whole enc C.prog fn.params.toList s.vars apart W args.toList ds gs before → k H (ds ++ gs) = true →
      (DataW.weightsEach C.prog (fn.params.toList ++ s.bare.plain.varTypes C.prog) (ds ++ gs)).all (· ≤ reachBytes) = true →
      Calls C.prog f args W fun e W' => ∃ v, e = .returned v ∧ s.postWith enc C.prog fn F (outsideKept [.timePasses]) apart fresh handsOn W args v W') :
    ReturnsInLeavingWide a C os f .any (s.pre6 enc C.prog fn conds apart) (s.postWith enc C.prog fn F (outsideKept [.timePasses]) apart fresh handsOn) := fun enter => by
  refine ReturnsInOpen.mono (fun m w t h => ⟨h.2.1, onlyLeaving_of_quiet h.1, h.2.2⟩) (fun _ h => h) (returnsInHanded_of_calls own started noInit witness ?_ enter)
  intro w tape i _ _ _ hok hpre _
  obtain ⟨_, _, _, fn', hfn', _, _, _, _, hval⟩ := hok
  have e : fn' = fn := Option.some.inj (hfn'.symm.trans hfn)
  subst e
  obtain ⟨ds, gs, before, hw, hc, hkk⟩ := (OpenSpec.pre_some hk conds apart _ _).1 hpre.1
  have hw' := DataW.Whole.of_heap (w' := w.forCall tape i) (by rfl) hw
  refine (runs (w.forCall tape i) w.heap.size i.args ds gs before hval hw' hkk (hpre.2.weights hw)).mono ?_
  rintro e W' ⟨v, rfl, hp⟩
  exact postWith_blind hp
end

/-- a row that says 'leaving', that time may pass, and a bound of its own -/
theorem holds_cond_leaving_time {p : Pinned} {s : OpenSpec} {c : OpenClaim} (f : FuncId) (fn : Func)
    (hn : c.program = p.name) (hs : c.sum = p.sum) (hsp : c.spec = s.name)
    (hstart : c.start = .entering) (hout : c.outside = [.timePasses]) (hin : c.inits = []) (hun : c.under = none) (hi4 : c.initsInPlace = [] ∧ c.initsUnfollowed = false ∧ c.initsRecurse = false ∧ c.initsNamed = [] ∧ c.initsPassed = []) (hnb : c.noBlocks = false) (hlv : c.leaving = true) (hfo : c.followed = none) (hnar : c.narrowed = s.cond.isSome) (hstill : c.still = false)
    (hfn : p.checked.prog.funcNamed c.func = some f) (hf : p.checked.prog.funcs[f]? = some fn)
    (closed : joinedFacts p.checked.prog f fn s.bare c = true)
    (hinst : fn.isInstance p.checked.prog c.origin c.targs) (hwrap : fn.isWrapper p.checked.prog c.wrapper c.mainSum)
    (h : ∀ os : Os, os.Started → ∀ (H : Type) (enc : TypeId × Value → H), (∀ a b, enc a = enc b → a = b) →
      ∀ F : Stop.Interp, ReturnsInLeavingWide c.assume p.checked os f .any (c.pre enc p.checked.prog fn s) (s.postWith enc p.checked.prog fn F (outsideKept [.timePasses]) c.apart c.fresh c.handsOn)) : c.holds p s := by
  simp only [joinedFacts, Bool.and_eq_true, beq_iff_eq, Array.all_eq_true_iff_forall_mem, List.all_eq_true, decide_eq_true_eq] at closed
  obtain ⟨⟨⟨⟨⟨⟨⟨⟨⟨⟨⟨⟨⟨⟨⟨⟨⟨⟨⟨⟨⟨⟨⟨⟨⟨⟨⟨⟨⟨⟨⟨k1, k2⟩, k3⟩, k4⟩, k5⟩, k6⟩, k7⟩, k8⟩, k9⟩, k10⟩, k11⟩, k12⟩, k13⟩, k14⟩, k15⟩, k16⟩, k17⟩, k17b⟩, k18⟩, k19⟩, k20⟩, k21⟩, k22⟩, k23⟩, k23b⟩, k24⟩, k24b⟩, k24c⟩, k25⟩, k26⟩, k27⟩, k28⟩ := closed
  have hq : ∀ os : Os, Stop.quiet p.checked.prog os := fun os k hk => by rw [k9] at hk; cases hk
  refine ⟨k1, hn, hs, hsp, k2, k3, by unfold OpenClaim.startFits; rw [hstart]; exact k24, by unfold OpenClaim.startTold; rw [hstart]; exact ⟨hin, hun, hi4⟩, f, fn, hfn, hf, ⟨k4, k19⟩, (fun hb => by rw [hnb] at hb; cases hb), by unfold OpenClaim.namedList; rw [hfo]; exact k5, hinst, hwrap,
    k6.trans k7.symm, ⟨k8.trans k9.symm, by unfold Program.envWorded; rw [k9]; rfl, k23b⟩, k10, k11, k12, k13, k14, ⟨k15, k27, k28⟩, ⟨k16, k20⟩, ⟨k17, k21, k25, k26⟩, ⟨k22, k24b, k24c, k17b⟩, (by rw [hout, hnar]; cases hsh : c.shortTexts with | none => simp [OutsideCond.fixesBytes] | some _ => rw [hsh] at k23; cases k23), fun n hn' => varReadable_some (k18 n hn'),
    ⟨_, by unfold OpenClaim.world; rw [hout, hstart]; exact ⟨WideRow.started_initial, fun o ho => by simp at ho; subst ho; trivial⟩, hq _⟩, [], by unfold OpenClaim.lists; rw [hfo], fun os st _ H enc inj => ?_⟩
  have st' : os.Started := by unfold OpenClaim.world at st; rw [hout, hstart] at st; exact st.1
  rw [OpenClaim.post_not_still hstill]
  unfold OpenClaim.form
  rw [hstart, k6]
  intro F
  have e1 : c.okInput = Input.okWide := by unfold OpenClaim.okInput; rw [hnb]
  have e2 : c.atReturn p.checked.prog = leavingAtReturn p.checked.prog := by unfold OpenClaim.atReturn; rw [hlv]
  have e3 : c.always p.checked.prog [] = nothingAlways := by unfold OpenClaim.always; rw [hfo]
  have e4 : s.post enc p.checked.prog fn F c.outside c.apart c.fresh c.handsOn c.again = s.postWith enc p.checked.prog fn F (outsideKept [.timePasses]) c.apart c.fresh c.handsOn := by rw [hout]; rfl
  rw [e1, e2, e3]
  show ReturnsInOpen _ _ _ _ _ _ _ _ (s.post enc p.checked.prog fn F c.outside c.apart c.fresh c.handsOn c.again) _ _
  rw [e4]
  exact h os st' H enc inj F k24

section
variable {H : Type} {enc : TypeId × Value → H} {W : World} {n : Nat}

set_option maxRecDepth 100000 in
theorem slice_bulk {t e : TypeId} (hu : Tryz.prog.underlying t = some (.slice e)) {a : Option Addr} {len cap : Nat} {x : DataW H × List MemPlace} (h : DataW.trod enc Tryz.prog W 0 (fun _ => true) true n t [.slice a len cap] = some x) : len ≤ Rows.uptoBulk x.1 := by
  rcases Deep.open_slice hu h with ⟨h0, rfl⟩ | ⟨a', len', cap', m, n', D, Pl, hcs, _, hlc, _, hm, rfl, hel⟩
  · simp at h0
    rw [h0.2.1]; omega
  · simp at hcs
    obtain ⟨rfl, rfl, rfl⟩ := hcs
    simp only [Rows.uptoBulk]
    have := bulk_len ((List.range len).map D)
    simp at this
    omega

set_option maxRecDepth 100000 in
theorem script_of2 {v : Value} {d : DataW H} {ps : List MemPlace} (h : DataW.Trod enc Tryz.prog W 0 (fun _ => true) true 28 v d ps) (hv : ∃ a len cap, v = .slice a len cap) (hf : ∀ k ∈ d.weights Tryz.prog 28, k ≤ reachBytes) :
    ∃ l, ScriptAt W v l ∧ l.length ≤ Rows.uptoBulk d ∧ ∀ s ∈ l, s.cs.length ≤ Rows.uptoBulk d := by
  obtain ⟨a0, len0, cap0, rfl⟩ := hv
  obtain ⟨n, h⟩ := h
  have h' : DataW.trod enc Tryz.prog W 0 (fun _ => true) true n 28 [.slice a0 len0 cap0] = some (d, ps) := h
  rcases Deep.open_slice Tryz.underlying28 h' with ⟨h0, hx⟩ | ⟨a, len, cap, m, n', D, Pl, hcs, _, hlc, _, hm, hx, hel⟩
  · simp at h0
    obtain ⟨rfl, rfl, rfl⟩ := h0
    exact ⟨[], ⟨⟨none, 0, rfl, .inl rfl⟩, fun s hs => by simp at hs, by simp⟩, by simp, fun s hs => by simp at hs⟩
  · simp at hcs
    obtain ⟨rfl, rfl, rfl⟩ := hcs
    have hbl0 : len0 ≤ Rows.uptoBulk d := slice_bulk Tryz.underlying28 h'
    simp only [Prod.mk.injEq] at hx
    obtain ⟨rfl, -⟩ := hx
    have hm' : m = cap0 := by simpa using hm
    clear hm
    have hr := reach_val
    have hlen : len0 * 72 ≤ reachBytes := by
      have := hf ((len0 + (m - len0)) * 72) (by simp [DataW.weights, Tryz.underlying28, bytes48])
      have : len0 * 72 ≤ (len0 + (m - len0)) * 72 := Nat.mul_le_mul_right _ (by omega)
      omega
    have each : ∀ i, i < len0 → ∃ q : StepD, (W.cell? (a.add (i * 5)) = some (.int .i64 q.kind) ∧ W.cell? (a.add (i * 5 + 1)) = some (.int .i64 q.t) ∧ W.cell? (a.add (i * 5 + 2)) = some (.string q.key) ∧ W.cell? (a.add (i * 5 + 3)) = some (.string q.hi) ∧ W.cell? (a.add (i * 5 + 4)) = some q.lv) ∧ StepOk W q ∧ q.cs.length ≤ Rows.uptoBulk (DataW.slice ((List.range len0).map D) ((List.range (m - len0)).map fun i => D (len0 + i))) := by
      intro i hi
      obtain ⟨cs', h1, h2⟩ := hel i (by omega)
      rw [cells48] at h1
      obtain ⟨_, hl, hcell⟩ := World.cells?_some h1
      obtain ⟨xs, k, _, hxy, _, hxl, hfi⟩ := DataW.trod_struct Tryz.underlying48 h2
      match xs, hxl, cs', hl with
      | [y0, y1, y2, y3, y4], _, [v0, v1, v2, v3, v4], _ =>
        have g0 := hfi 0 _ rfl
        have g1 := hfi 1 _ rfl
        have g2 := hfi 2 _ rfl
        have g3 := hfi 3 _ rfl
        have g4 := hfi 4 _ rfl
        simp [cells9, cells3, cells46] at g0 g1 g2 g3 g4
        obtain ⟨s0, e0, _⟩ := trod_int3 g0
        obtain ⟨s1, e1, w1⟩ := trod_int3 g1
        obtain ⟨s2, e2, _⟩ := trod_str g2
        obtain ⟨s3, e3, _⟩ := trod_str g3
        simp at e0 e1 e2 e3
        subst e0 e1 e2 e3
        simp only [Prod.mk.injEq] at hxy
        obtain ⟨cs, hch, hbl⟩ := changes_of g4 (fun k hk => hf k (by
          simp only [DataW.weights, Tryz.underlying28, List.mem_cons, List.mem_append]
          refine .inr (.inl (weightsAll_mem (d := D i) (List.mem_map.2 ⟨i, by simpa using hi, rfl⟩) k ?_))
          rw [hxy.1]
          simp only [DataW.weights, Tryz.underlying48, List.map_cons, List.map_nil, DataW.weightsEach, List.mem_append]
          simp [hk]))
        have c0 := hcell 0 (by omega)
        have c1 := hcell 1 (by omega)
        have c2 := hcell 2 (by omega)
        have c3 := hcell 3 (by omega)
        have c4 := hcell 4 (by omega)
        rw [Deep.add_add] at c0 c1 c2 c3 c4
        refine ⟨⟨s0, s1, s2, s3, v4, cs⟩, ⟨by simpa using c0, by simpa using c1, by simpa using c2, by simpa using c3, by simpa using c4⟩, ⟨by simpa [Lit.wf, IntKind.min, IntKind.max, IntKind.signed, IntKind.bits] using w1, hch, hbl⟩, ?_⟩
        obtain ⟨la, lc, hlv, -⟩ := hch.sh
        rw [hlv] at g4
        have b1 := slice_bulk Tryz.underlying46 g4
        have b2 : Rows.uptoBulk y4.1 ≤ Rows.uptoBulk (D i) := by
          rw [hxy.1]
          simp only [Rows.uptoBulk]
          have := bulk_mem (d := y4.1) (l := List.map (fun y : DataW H × List MemPlace => y.1) [y0, y1, y2, y3, y4]) (by simp)
          omega
        have b3 : Rows.uptoBulk (D i) ≤ Rows.uptoBulkAll ((List.range len0).map D) := bulk_mem (List.mem_map.2 ⟨i, by simpa using hi, rfl⟩)
        simp only [Rows.uptoBulk]
        show cs.length ≤ _
        omega
    obtain ⟨l, hl, hq⟩ := list_of _ len0 each
    by_cases h0 : len0 = 0
    · subst h0
      obtain rfl := List.eq_nil_of_length_eq_zero hl
      exact ⟨[], ⟨⟨some a, cap0, rfl, .inl rfl⟩, fun s hs => by simp at hs, by simp⟩, by simp, fun s hs => by simp at hs⟩
    · obtain ⟨q0, ⟨c0, _⟩, _⟩ := each 0 (by omega)
      obtain ⟨hsp, hblt⟩ := cell_spot c0
      obtain ⟨g, o, sp⟩ := a
      simp [Addr.add] at hsp hblt
      subst hsp
      refine ⟨l, ⟨⟨some ⟨g, o, none⟩, cap0, by rw [hl], .inr ⟨g, o, rfl, hblt, fun i x hx => ?_⟩⟩, fun s hs => ?_, by omega⟩, by omega, fun s hs => ?_⟩
      · obtain ⟨⟨p0, p1, p2, p3, p4⟩, _⟩ := hq i x hx
        rw [add_none] at p0 p1 p2 p3 p4
        simp only [Nat.add_assoc] at p0 p1 p2 p3 p4 ⊢
        exact ⟨p0, p1, p2, p3, p4⟩
      · obtain ⟨i, hi, e⟩ := List.mem_iff_getElem.1 hs
        exact (hq i s (by rw [List.getElem?_eq_getElem hi, e])).2.1
      · obtain ⟨i, hi, e⟩ := List.mem_iff_getElem.1 hs
        exact (hq i s (by rw [List.getElem?_eq_getElem hi, e])).2.2

end

section
open Go.ChangeShapes Go.WideShapes
variable {H : Type} {enc : TypeId × Value → H} {W : World}

set_option maxRecDepth 100000 in
theorem config_arg {r : Reach} {b0 : Nat} {v : Value} {d : DataW H} {p : List MemPlace} (hv : Value.okWide Tryz.prog W r b0 23 v) (h : DataW.Trod enc Tryz.prog W 0 (fun _ => true) true 23 v d p) :
    ∃ a b c e : Int, v = .agg #[.int .i64 a, .int .i64 b, .int .i64 c, .int .i64 e] := by
  obtain ⟨v0, v1, v2, v3, y0, y1, y2, y3, n, rfl, -, -, h0, h1, h2, h3⟩ := Joins.open_agg4 Tryz.underlying23 (by kernel_rfl) (by kernel_rfl) hv h
  obtain ⟨a, e0, _⟩ := trod_int3 h0
  obtain ⟨b, e1, _⟩ := trod_int3 h1
  obtain ⟨c, e2, _⟩ := trod_int3 h2
  obtain ⟨d, e3, _⟩ := trod_int3 h3
  simp at e0 e1 e2 e3
  subst e0 e1 e2 e3
  exact ⟨a, b, c, d, rfl⟩
end

end Go.Proofs.YthfimgeopciiiaaGreat

/-
  A script of the law's steps, as it comes in: read off the argument.
-/
namespace Go.Proofs.YthfimgeopciiiaaGreat
open Go.MapKept Go.ChangeMaps Go.Maps Go.RowKit Go.MuLone Go.ChangeShapes Go.WideShapes Go.Conc
set_option linter.unusedVariables false

theorem cells106 : Tryz.prog.cellsOf 106 = 8 := by kernel_rfl
theorem cells69 : Tryz.prog.cellsOf 69 = 1 := by kernel_rfl
theorem cells75 : Tryz.prog.cellsOf 75 = 1 := by kernel_rfl
theorem bytes106 : Tryz.prog.bytesOf 106 = 128 := by kernel_rfl

theorem bulk_nine {H : Type} : ∀ (l : List (DataW H)), (∀ x ∈ l, 9 ≤ Rows.uptoBulk x) → 9 * l.length ≤ Rows.uptoBulkAll l
  | [], _ => by simp
  | d :: r, h => by
    have h1 := h d (by simp)
    have h2 := bulk_nine r (fun x hx => h x (by simp [hx]))
    simp only [Rows.uptoBulkAll, List.length_cons]
    omega

structure OpD where
  o : OpV
  cs : List Chg

structure OpOk (w : World) (d : OpD) : Prop where
  wf : (Lit.int .i64 d.o.h).wf = true
  ch : ChAt w (.slice d.o.la d.o.ll d.o.lc) d.cs

/-- v is a script -/
structure OpsAt (w : World) (v : Value) (l : List OpD) : Prop where
  sh : ∃ a cap, v = .slice a l.length cap ∧ (l = [] ∨ ∃ g o, a = some ⟨g, o, none⟩ ∧ g < w.heap.size ∧ ∀ i d, l[i]? = some d → ∀ j, j < 8 → w.cell? ⟨g, o + i * 8 + j, none⟩ = d.o.cells[j]?)
  ok : ∀ s ∈ l, OpOk w s

section
variable {H : Type} {enc : TypeId × Value → H} {W : World} {n : Nat}

set_option maxRecDepth 100000 in
theorem trod_slice_shape {t e : TypeId} (hu : Tryz.prog.underlying t = some (.slice e)) {v : Value} {x : DataW H × List MemPlace} (h : DataW.trod enc Tryz.prog W 0 (fun _ => true) true n t [v] = some x) : ∃ a len cap, v = .slice a len cap := by
  rcases Deep.open_slice hu h with ⟨h0, _⟩ | ⟨a', len', cap', m, n', D, Pl, hcs, _⟩
  · simp at h0; exact ⟨_, _, _, h0⟩
  · simp at hcs; exact ⟨_, _, _, hcs⟩

set_option maxRecDepth 100000 in
theorem script_of3 {v : Value} {d : DataW H} {ps : List MemPlace} (h : DataW.Trod enc Tryz.prog W 0 (fun _ => true) true 24 v d ps) (hv : ∃ a len cap, v = .slice a len cap) (hf : ∀ k ∈ d.weights Tryz.prog 24, k ≤ reachBytes) :
    ∃ l, OpsAt W v l ∧ 9 * l.length ≤ Rows.uptoBulk d ∧ ∀ s ∈ l, s.cs.length ≤ Rows.uptoBulk d := by
  obtain ⟨a0, len0, cap0, rfl⟩ := hv
  obtain ⟨n, h⟩ := h
  have h' : DataW.trod enc Tryz.prog W 0 (fun _ => true) true n 24 [.slice a0 len0 cap0] = some (d, ps) := h
  rcases Deep.open_slice Tryz.underlying24 h' with ⟨h0, hx⟩ | ⟨a, len, cap, m, n', D, Pl, hcs, _, hlc, _, hm, hx, hel⟩
  · simp at h0
    obtain ⟨rfl, rfl, rfl⟩ := h0
    exact ⟨[], ⟨⟨none, 0, rfl, .inl rfl⟩, fun s hs => by simp at hs⟩, by simp, fun s hs => by simp at hs⟩
  · simp at hcs
    obtain ⟨rfl, rfl, rfl⟩ := hcs
    simp only [Prod.mk.injEq] at hx
    obtain ⟨rfl, -⟩ := hx
    have hm' : m = cap0 := by simpa using hm
    clear hm
    have hr := reach_val
    have each : ∀ i, i < len0 → ∃ q : OpD, (∀ j, j < 8 → W.cell? (a.add (i * 8 + j)) = q.o.cells[j]?) ∧ OpOk W q ∧ q.cs.length ≤ Rows.uptoBulk (DataW.slice ((List.range len0).map D) ((List.range (m - len0)).map fun i => D (len0 + i))) ∧ 9 ≤ Rows.uptoBulk (D i) := by
      intro i hi
      obtain ⟨cs', h1, h2⟩ := hel i (by omega)
      rw [cells106] at h1
      obtain ⟨_, hl, hcell⟩ := World.cells?_some h1
      obtain ⟨xs, k, _, hxy, _, hxl, hfi⟩ := DataW.trod_struct Tryz.underlying106 h2
      match xs, hxl, cs', hl with
      | [y0, y1, y2, y3, y4, y5, y6, y7], _, [v0, v1, v2, v3, v4, v5, v6, v7], _ =>
        have g0 := hfi 0 _ rfl
        have g1 := hfi 1 _ rfl
        have g2 := hfi 2 _ rfl
        have g3 := hfi 3 _ rfl
        have g4 := hfi 4 _ rfl
        have g5 := hfi 5 _ rfl
        have g6 := hfi 6 _ rfl
        have g7 := hfi 7 _ rfl
        simp [cells9, cells3, cells46, cells69, cells75, cells4] at g0 g1 g2 g3 g4 g5 g6 g7
        obtain ⟨s0, e0, _⟩ := trod_int3 g0
        obtain ⟨s1, e1, w1⟩ := trod_int3 g1
        obtain ⟨s2, e2, _⟩ := trod_str g2
        obtain ⟨s3, e3, _⟩ := trod_str g3
        obtain ⟨s7, e7⟩ := trod_bool g7
        obtain ⟨pa, pl, pc, e5⟩ := trod_slice_shape Tryz.underlying69 g5
        obtain ⟨ta, tl, tc, e6⟩ := trod_slice_shape Tryz.underlying75 g6
        simp at e0 e1 e2 e3 e7
        subst e0 e1 e2 e3 e5 e6 e7
        simp only [Prod.mk.injEq] at hxy
        obtain ⟨cs, hch, hbl⟩ := changes_of g4 (fun k hk => hf k (by
          simp only [DataW.weights, Tryz.underlying24, List.mem_cons, List.mem_append]
          refine .inr (.inl (weightsAll_mem (d := D i) (List.mem_map.2 ⟨i, by simpa using hi, rfl⟩) k ?_))
          rw [hxy.1]
          simp only [DataW.weights, Tryz.underlying106, List.map_cons, List.map_nil, DataW.weightsEach, List.mem_append]
          simp [hk]))
        obtain ⟨la, lc, hlv, -⟩ := hch.sh
        subst hlv
        refine ⟨⟨⟨s0, s1, s2, s3, la, cs.length, lc, pa, pl, pc, ta, tl, tc, s7⟩, cs⟩, fun j hj => ?_, ⟨w1, hch⟩, ?_, ?_⟩
        · have c := hcell j (by omega)
          rw [Deep.add_add] at c
          rw [c]
          match j, hj with
          | 0, _ => rfl
          | 1, _ => rfl
          | 2, _ => rfl
          | 3, _ => rfl
          | 4, _ => rfl
          | 5, _ => rfl
          | 6, _ => rfl
          | 7, _ => rfl
        · have b1 := slice_bulk Tryz.underlying46 g4
          have b2 : Rows.uptoBulk y4.1 ≤ Rows.uptoBulk (D i) := by
            rw [hxy.1]
            simp only [Rows.uptoBulk]
            have := bulk_mem (d := y4.1) (l := List.map (fun y : DataW H × List MemPlace => y.1) [y0, y1, y2, y3, y4, y5, y6, y7]) (by simp)
            omega
          have b3 : Rows.uptoBulk (D i) ≤ Rows.uptoBulkAll ((List.range len0).map D) := bulk_mem (List.mem_map.2 ⟨i, by simpa using hi, rfl⟩)
          simp only [Rows.uptoBulk]
          show cs.length ≤ _
          omega
        · rw [hxy.1]
          simp only [Rows.uptoBulk]
          have := bulk_len (List.map (fun y : DataW H × List MemPlace => y.1) [y0, y1, y2, y3, y4, y5, y6, y7])
          simp only [List.length_map, List.length_cons, List.length_nil] at this
          omega
    have hbl0 : 9 * len0 ≤ Rows.uptoBulk (DataW.slice ((List.range len0).map D) ((List.range (m - len0)).map fun i => D (len0 + i))) := by
      have := bulk_nine ((List.range len0).map D) (fun x hx => by
        obtain ⟨i, hi, rfl⟩ := List.mem_map.1 hx
        obtain ⟨q, _, _, _, h9⟩ := each i (List.mem_range.1 hi)
        exact h9)
      simp only [List.length_map, List.length_range] at this
      simp only [Rows.uptoBulk]
      omega
    obtain ⟨l, hl, hq⟩ := list_of _ len0 each
    by_cases h0 : len0 = 0
    · subst h0
      obtain rfl := List.eq_nil_of_length_eq_zero hl
      exact ⟨[], ⟨⟨some a, cap0, rfl, .inl rfl⟩, fun s hs => by simp at hs⟩, by simp, fun s hs => by simp at hs⟩
    · obtain ⟨q0, c0, _⟩ := each 0 (by omega)
      have c00 : W.cell? (a.add 0) = some (.int .i64 q0.o.kind) := by have := c0 0 (by omega); simpa [OpV.cells] using this
      obtain ⟨hsp, hblt⟩ := cell_spot c00
      obtain ⟨g, o, sp⟩ := a
      simp [Addr.add] at hsp hblt
      subst hsp
      refine ⟨l, ⟨⟨some ⟨g, o, none⟩, cap0, by rw [hl], .inr ⟨g, o, rfl, hblt, fun i x hx j hj => ?_⟩⟩, fun s hs => ?_⟩, by omega, fun s hs => ?_⟩
      · obtain ⟨p, _⟩ := hq i x hx
        have := p j hj
        rw [add_none] at this
        rw [Nat.add_assoc]
        exact this
      · obtain ⟨i, hi, e⟩ := List.mem_iff_getElem.1 hs
        exact (hq i s (by rw [List.getElem?_eq_getElem hi, e])).2.1
      · obtain ⟨i, hi, e⟩ := List.mem_iff_getElem.1 hs
        exact (hq i s (by rw [List.getElem?_eq_getElem hi, e])).2.2.1

end
end Go.Proofs.YthfimgeopciiiaaGreat

/-
  The law's step, whole: given what asks does on Look, what step does on Scan and on Write.
-/
namespace Go.Proofs.YthfimgeopciiiaaGreat
open Go.MapKept Go.ChangeMaps Go.Maps Go.RowKit Go.MuLone
set_option linter.unusedVariables false

/-- step, of Write -/
def WriteOk (w : World) (sd : Nat) : Prop := ∀ (W : World) (s : Sto) (m : MRef) (M : MW) (N : Nat), Two w W s m M sd → Lg s m M N → N + 1 ≤ 2097152 → ∀ d : OpD, OpOk w d → d.cs.length ≤ 1048576 → d.o.kind = 4 →
  Calls Tryz.prog 37 #[.pointer (some ⟨M.wb, 0, none⟩), .pointer (some ⟨sd, 0, none⟩), .agg d.o.cells] W fun e W' => e = .returned (.bool true) ∧ Stepped w W' s m M sd N

section
variable {w W : World} {s : Sto} {m : MRef} {M : MW} {sd N : Nat}

theorem lawOk_one (w : World) (sd : Nat) : LawOk w sd 1 := fun W s m M N T L hN o hw hk => step_begin T L hN o hk

theorem asks_all (hL : LookOk w sd) (T : Two w W s m M sd) (L : Lg s m M N) (hN : N + 1 ≤ 2097152) (o : OpV) (hw : (Lit.int .i64 o.h).wf = true) :
    Calls Tryz.prog 74 #[.pointer (some ⟨sd, 0, none⟩), .agg o.cells] W fun e W' => e = .returned (.bool true) ∧ Asked w W' s m M sd N := by
  by_cases h5 : o.kind = 5
  · exact asks_commit T L hN o hw h5
  by_cases h6 : o.kind = 6
  · exact asks_abort T L hN o hw h6
  by_cases h8 : o.kind = 8
  · exact hL _ _ _ _ _ T L hN o hw h8
  by_cases h9 : o.kind = 9
  · exact asks_told T L hN o h9
  exact asks_other T L hN o h5 h6 h8 h9

theorem step_all (hL : LookOk w sd) (hS : LawOk w sd 3) (hW : WriteOk w sd) (T : Two w W s m M sd) (L : Lg s m M N) (hN : N + 1 ≤ 2097152) (d : OpD) (hd : OpOk w d) (hc : d.cs.length ≤ 1048576) (h10 : d.o.kind ≠ 10) :
    Calls Tryz.prog 37 #[.pointer (some ⟨M.wb, 0, none⟩), .pointer (some ⟨sd, 0, none⟩), .agg d.o.cells] W fun e W' => e = .returned (.bool true) ∧ Stepped w W' s m M sd N := by
  by_cases h1 : d.o.kind = 1
  · exact step_begin T L hN d.o h1
  by_cases h2 : d.o.kind = 2
  · exact step_get T L hN d.o hd.wf h2
  by_cases h3 : d.o.kind = 3
  · exact hS _ _ _ _ _ T L hN d.o hd.wf h3
  by_cases h4 : d.o.kind = 4
  · exact hW _ _ _ _ _ T L hN d hd hc h4
  by_cases h7 : d.o.kind = 7
  · exact step_clean T L hN d.o h7
  exact step_asks d.o h1 h2 h3 h4 h10 h7 (fun W' => Stepped w W' s m M sd N) ((asks_all hL (T.still (Keeps.alloc _ _)) L hN d.o hd.wf).mono fun e W' ⟨e1, e2⟩ => ⟨e1, e2.stepped⟩)

end
end Go.Proofs.YthfimgeopciiiaaGreat

/-
  The law's play, given what each step does.
-/
namespace Go.Proofs.YthfimgeopciiiaaGreat
open Go.MapKept Go.ChangeMaps Go.Maps Go.RowKit Go.MuLone
set_option linter.unusedVariables false

/-- every step that play takes -/
def PlayAll (w : World) (sd : Nat) : Prop := ∀ (W : World) (s : Sto) (m : MRef) (M : MW) (N : Nat), Two w W s m M sd → Lg s m M N → N + 1 ≤ 2097152 → ∀ d : OpD, OpOk w d → d.cs.length ≤ 1048576 → d.o.kind ≤ 9 →
  Calls Tryz.prog 37 #[.pointer (some ⟨M.wb, 0, none⟩), .pointer (some ⟨sd, 0, none⟩), .agg d.o.cells] W fun e W' => e = .returned (.bool true) ∧ Stepped w W' s m M sd N

/-- between play's steps -/
def PlI (w W : World) (wb g c5 sd N : Nat) : Prop := ∃ s m M, Two w W s m M sd ∧ Lg s m M N ∧ M.wb = wb ∧ M.sv = .slice (some ⟨g, 0, none⟩) 1 c5

section
variable {w W : World} {wb g c5 sd N : Nat}

theorem PlI.view (P : PlI w W wb g c5 sd N) : Quiet w W ∧ wb < W.heap.size ∧ g < W.heap.size ∧ W.cell? ⟨wb, 0, none⟩ = some (.slice (some ⟨g, 0, none⟩) 1 c5) ∧ W.cell? ⟨g, 0, none⟩ = some (.pointer (some ⟨sd, 0, none⟩)) := by
  obtain ⟨s, m, M, T, L, rfl, e⟩ := P
  obtain ⟨h1, h2, -⟩ := T.sv_at g (by rw [e]; rfl)
  obtain ⟨tag, X⟩ := T.wo
  exact ⟨T.quiet, lt_of_heap X.own, h1, by rw [cell_of_heap X.own, ← e]; rfl, h2⟩

theorem PlI.still (P : PlI w W wb g c5 sd N) {W' : World} (q : Quiet W W') : PlI w W' wb g c5 sd N := by
  obtain ⟨s, m, M, T, L, h⟩ := P
  exact ⟨s, m, M, T.still q, L, h⟩

theorem PlI.same (P : PlI w W wb g c5 sd N) (hN : N + 1 ≤ 2097152) : PlI w W wb g c5 sd (N + 1) := by
  obtain ⟨s, m, M, T, L, h⟩ := P
  exact ⟨s, m, M, T, L.same hN, h⟩

theorem PlI.step (P : PlI w W wb g c5 sd N) (hA : PlayAll w sd) (hN : N + 1 ≤ 2097152) (d : OpD) (hd : OpOk w d) (hc : d.cs.length ≤ 1048576) (hk : d.o.kind ≤ 9) :
    Calls Tryz.prog 37 #[.pointer (some ⟨wb, 0, none⟩), .pointer (some ⟨sd, 0, none⟩), .agg d.o.cells] W fun e W' => e = .returned (.bool true) ∧ PlI w W' wb g c5 sd (N + 1) := by
  obtain ⟨s, m, M, T, L, rfl, e⟩ := P
  exact (hA _ _ _ _ _ T L hN d hd hc hk).mono fun e' W' ⟨h1, s', m', M', T', f1, f2, f3, f4, L'⟩ => ⟨h1, s', m', M', T', L', f3, f4.trans e⟩

theorem PlI.handed (P : PlI w W wb g c5 sd N) :
    Calls Tryz.prog 76 #[.pointer (some ⟨wb, 0, none⟩)] W fun e W' => e = .returned (.bool true) ∧ PlI w W' wb g c5 sd N := by
  obtain ⟨s, m, M, T, L, rfl, e⟩ := P
  have h1 := L.chs
  have h2 := L.n
  exact (handed_h T.wo (by omega)).mono fun e' W' ⟨h1, q⟩ => ⟨h1, s, m, M, T.still q, L, rfl, e⟩

theorem PlI.kept (P : PlI w W wb g c5 sd N) :
    Calls Tryz.prog 38 #[.pointer (some ⟨wb, 0, none⟩)] W fun e W' => e = .returned (.bool true) ∧ PlI w W' wb g c5 sd N := by
  obtain ⟨s, m, M, T, L, rfl, e⟩ := P
  have h1 := L.chs
  have h2 := L.n
  have h3 := L.prs
  have h4 := L.mks
  exact (kept_h T.wo (by omega) (by omega) h4).mono fun e' W' ⟨h1, q⟩ => ⟨h1, s, m, M, T.still q, L, rfl, e⟩

theorem PlI.ended (P : PlI w W wb g c5 sd N) (hN : 4 * N + 7 ≤ 2097152) (hL : LookOk w sd) (h1 : LawOk w sd 1) (h3 : LawOk w sd 3) :
    Calls Tryz.prog 39 #[.pointer (some ⟨wb, 0, none⟩), .pointer (some ⟨sd, 0, none⟩)] W fun e W' => e = .returned (.bool true) ∧ ∃ K, PlI w W' wb g c5 sd K := by
  obtain ⟨s, m, M, T, L, rfl, e⟩ := P
  exact (ended_h T L hN hL h1 h3).mono fun e' W' ⟨h1, K, s', m', M', T', f1, f2, f3, f4, L'⟩ => ⟨h1, K, s', m', M', T', L', f3, f4.trans e⟩

end

/-- how it starts -/
theorem PlI.start {w w1 w2 w3 W5 : World} {a b c d : Int} {P sb g c5 : Nat} (hc : configB a b c d = true) (q1 : Quiet (w.alloc (.cells (newW w.heap.size (.slice none 0 0)).cells 96)) w1) (hP : w1.heap.size ≤ P) (hS : StAt w2 (newSto a b c d P (P + 2))) (q2 : Quiet w1 w2) (hR : RefIn w3 w2.heap.size (refNew sb a b c d)) (q3 : Quiet w2 w3)
    (q5 : Quiet (w3.alloc (.cells #[.pointer (some ⟨P + 2, 0, none⟩), .pointer (some ⟨sb, 0, none⟩)] 104)) W5) (g1 : w3.heap.size + 1 < g) (g2 : g < W5.heap.size) (g3 : W5.cell? ⟨g, 0, none⟩ = some (.pointer (some ⟨w3.heap.size, 0, none⟩))) :
    PlI w (W5.setCell ⟨w.heap.size, 0, none⟩ (.slice (some ⟨g, 0, none⟩) 1 c5)) w.heap.size g c5 w3.heap.size 0 := by
  have s1 := q1.size
  have s2 := q2.size
  have s3 := q3.size
  have s5 := q5.size
  simp only [World.size_alloc] at s1 s5
  have hfl := hS.lt
  have hP3 : P + 2 < w2.heap.size := lt_of_heap hS.own
  obtain ⟨tg, R⟩ := id hR
  have hsb1 := R.hb
  have hsb2 := lt_of_heap R.own
  change w2.heap.size ≤ sb at hsb1
  change sb < w3.heap.size at hsb2
  have qa : Quiet w3 W5 := Quiet.trans' (Keeps.alloc _ _) q5
  have hw0 : W5.heap[w.heap.size]? = some (.cells (newW w.heap.size (.slice none 0 0)).cells 96) := (qa.block _ (by omega) id).trans ((q3.block _ (by omega) id).trans ((q2.block _ (by omega) id).trans ((q1.block _ (by simp) id).trans (heap_alloc_new _ _))))
  have kS : Keeps (fun b => b = w.heap.size) W5 (W5.setCell ⟨w.heap.size, 0, none⟩ (.slice (some ⟨g, 0, none⟩) 1 c5)) := Keeps.setCell (S := fun b => b = w.heap.size) _ _ _ rfl
  have qw : Quiet w W5 := Quiet.trans' (Quiet.trans' (Quiet.trans' (Quiet.trans' (Keeps.alloc _ _) q1) q2) q3) qa
  refine ⟨newSto a b c d P (P + 2), refNew sb a b c d, newW w.heap.size (.slice (some ⟨g, 0, none⟩) 1 c5), ?_, new_lg hc _ _ _ _ _, rfl, rfl⟩
  refine new_two (Quiet.of_new qw kS (fun b hb => by omega)) (((hS.quiet q3).quiet qa).kept kS (fun b hb e => by have := newSto_footL b hb; omega)) ?_ (heap_setCell_same hw0) ?_ (fun g' hg' => ?_) (Nat.le_refl _) (by omega) (by omega) hsb2
  · refine refNew_in (by omega) ((kS.block sb (by omega) (by omega)).trans ((qa.block sb hsb2 id).trans R.own))
  · exact (kS.block _ (by omega) (by omega)).trans ((q5.block _ (by simp) id).trans (heap_alloc_new _ _))
  · have e : g' = g := by simp [Value.ownBlock] at hg'; exact hg'.symm
    subst e
    exact ⟨by simpa using g2, (kS.cell g2 (by show ¬ g' = _; omega)).trans g3, by omega⟩

end Go.Proofs.YthfimgeopciiiaaGreat

/-
  The law's play: the walk.
-/
namespace Go.Proofs.YthfimgeopciiiaaGreat
open Go.MapKept Go.ChangeMaps Go.Maps Go.RowKit Go.MuLone
set_option linter.unusedVariables false
attribute [local go_sem ↓ high] append_heldR append_eqR

set_option maxRecDepth 100000 in
set_option maxHeartbeats 8000000 in
theorem play_yes (w : World) (a b c d : Int) (hc : configB a b c d = true) (g0 : Nat) (hg : w.heap[g0]? = some (.cells #[.int .i64 a, .int .i64 b, .int .i64 c, .int .i64 d] 23)) (v : Value) (l : List OpD) (hl : OpsAt w v l) (hlen : 4 * l.length + 7 ≤ 2097152) (hcs : ∀ o ∈ l, o.cs.length ≤ 1048576)
    (hL : ∀ sd, LookOk w sd) (h1 : ∀ sd, LawOk w sd 1) (h3 : ∀ sd, LawOk w sd 3) (hA : ∀ sd, PlayAll w sd) :
    Calls Tryz.prog 12 #[.slice (some ⟨g0, 0, none⟩) 1 1, v, .int .i64 9] w fun e w' => e = .returned (.bool true) ∧ Quiet w w' := by
  have hneX : ∀ (g : Nat) (W : World), (binOp .eql 29 (.pointer (some ⟨g, 0, none⟩)) (.pointer none)).run Tryz.prog W = .ok (.bool false) W := fun g W => by kernel_rfl
  have hneY : ∀ (g : Nat) (W : World), (binOp .eql 99 (.pointer (some ⟨g, 0, none⟩)) (.pointer none)).run Tryz.prog W = .ok (.bool false) W := fun g W => by kernel_rfl
  have HX : Hid (∀ W, Calls Tryz.prog 35 #[.agg #[.int .i64 a, .int .i64 b, .int .i64 c, .int .i64 d]] W fun e w' => ∃ N, e = .returned (.tuple #[.pointer (some ⟨N + 2, 0, none⟩), .int .i64 0]) ∧ W.heap.size ≤ N ∧ StAt w' (newSto a b c d N (N + 2)) ∧ Quiet W w') := fun W => New_ok a b c d W hc
  have HY : Hid (∀ W, Calls Tryz.prog 36 #[.agg #[.int .i64 a, .int .i64 b, .int .i64 c, .int .i64 d]] W fun e w' => ∃ sb, e = .returned (.tuple #[.pointer (some ⟨sb, 0, none⟩), .int .i64 0]) ∧ RefIn w' W.heap.size (refNew sb a b c d) ∧ Quiet W w') := fun W => rNew_yes W a b c d hc
  have HG : Hid (∀ W, Quiet w W → W.cell? ⟨g0, 0, none⟩ = some (.int .i64 a) ∧ W.cell? ⟨g0, 1, none⟩ = some (.int .i64 b) ∧ W.cell? ⟨g0, 2, none⟩ = some (.int .i64 c) ∧ W.cell? ⟨g0, 3, none⟩ = some (.int .i64 d)) := fun W q => by
    have hb := (q.block g0 (lt_of_heap hg) id).trans hg
    exact ⟨by rw [cell_of_heap hb]; rfl, by rw [cell_of_heap hb]; rfl, by rw [cell_of_heap hb]; rfl, by rw [cell_of_heap hb]; rfl⟩
  obtain ⟨⟨va, vc, rfl, hcell⟩, hok⟩ := hl
  have HOk : Hid (∀ s ∈ l, OpOk w s) := hok
  have HCs : Hid (∀ o ∈ l, o.cs.length ≤ 1048576) := hcs
  have HC := hidC' hc
  have hgl := lt_of_heap hg
  clear hg hc hok hcs
  go_enter Tryz.func12, Tryz.ntmps12
  go_wp2
  go_loopw [9] (fun i wr => (i = .int .i64 0 ∧ wr = w.alloc (.cells (newW w.heap.size (.slice none 0 0)).cells 96)) ∨ (i = .int .i64 1 ∧ ∃ g c5 sd, Hid (PlI w wr w.heap.size g c5 sd 0))) (fun i _ => 1 - (intOf i).toNat)
  case atStart => exact .inl ⟨rfl, rfl⟩
  case round =>
    rcases hrel with ⟨rfl, hwr⟩ | ⟨rfl, g, c5, sd, HP⟩
    · obtain ⟨WB, hWB⟩ : ∃ WB, WB = w.alloc (.cells (newW w.heap.size (.slice none 0 0)).cells 96) := ⟨_, rfl⟩
      rw [← hWB] at hwr
      subst hwr
      have hq0 : Quiet w wr := by rw [hWB]; exact Keeps.alloc _ _
      have hb0 : wr.heap[w.heap.size]? = some (.cells (newW w.heap.size (.slice none 0 0)).cells 96) := by rw [hWB]; exact heap_alloc_new _ _
      obtain ⟨c0, c1, c2, c3⟩ := HG.out _ hq0
      have hq1 : Quiet (w.alloc (.cells (newW w.heap.size (.slice none 0 0)).cells 96)) wr := by rw [hWB]; exact Keeps.refl _ _
      have HK := hidC' hq0
      have HK1 := hidC' hq1
      have HB0 := hidC' hb0
      clear hcell hWB hq0 hq1 hb0
      go_wp2_with (first
        | (go_at_call 35; refine (HX.out _).mono ?_; rintro e w2 ⟨P, rfl, hP, hS, q2⟩; obtain ⟨x0, x1, x2, x3⟩ := HG.out _ (Quiet.trans' HK.out q2); have HS := hidC' hS; have HQ2 := hidC' q2; clear hS q2 HX)
        | (go_at_call 36; refine (HY.out _).mono ?_; rintro e w3 ⟨sb, rfl, hR, q3⟩; have hw3 := (q3.block w.heap.size (lt_of_heap ((HQ2.out.block w.heap.size (lt_of_heap HB0.out) id).trans HB0.out)) id).trans ((HQ2.out.block w.heap.size (lt_of_heap HB0.out) id).trans HB0.out); have y0 : w3.cell? ⟨w.heap.size, 0, none⟩ = some (.slice none 0 0) := (by rw [cell_of_heap hw3]; rfl); obtain ⟨g, c5, W5, happ, q5, g1, g2, g3⟩ := sides_grow (w3.alloc (.cells #[.pointer (some ⟨P + 2, 0, none⟩), .pointer (some ⟨sb, 0, none⟩)] 104)) w3.heap.size; have hsz : (w3.alloc (.cells #[.pointer (some ⟨P + 2, 0, none⟩), .pointer (some ⟨sb, 0, none⟩)] 104)).heap.size = w3.heap.size + 1 := (by simp); rw [hsz] at happ g1; have hw5 := (q5.block w.heap.size (by rw [hsz]; have := lt_of_heap hw3; omega) id).trans ((heap_alloc_old _ _ (lt_of_heap hw3)).trans hw3); have z0 : W5.cell? ⟨w.heap.size, 0, none⟩ = some (.slice none 0 0) := (by rw [cell_of_heap hw5]; rfl); have zf : W5.frozen? ⟨w.heap.size, 0, none⟩ = false := frozen_of_heap hw5; have hl3 := lt_of_heap hw3; have hl3' := Nat.ne_of_lt hl3; have HPl := hidC' (PlI.start (c5 := c5) HC.out HK1.out hP HS.out HQ2.out hR q3 q5 g1 g2 g3); change (heldAppendR _ _ _).run _ _ = _ at happ; clear hR q3 q5 g1 g2 g3 hw5 hw3 hsz HY))
      exact ⟨.inr ⟨by go_num, g, c5, w3.heap.size, HPl⟩, by simp [intOf]⟩
    · have hEn : Hid (∀ k : Nat, k ≤ l.length → ∀ W, PlI w W w.heap.size g c5 sd k → Calls Tryz.prog 39 #[.pointer (some ⟨w.heap.size, 0, none⟩), .pointer (some ⟨sd, 0, none⟩)] W fun e W' => e = .returned (.bool true) ∧ ∃ K, PlI w W' w.heap.size g c5 sd K) := fun k hk W P => P.ended (by omega) (hL sd) (h1 sd) (h3 sd)
      have hSt : Hid (∀ k : Nat, k + 1 ≤ l.length → ∀ W d, d ∈ l → d.o.kind ≤ 9 → PlI w W w.heap.size g c5 sd k → Calls Tryz.prog 37 #[.pointer (some ⟨w.heap.size, 0, none⟩), .pointer (some ⟨sd, 0, none⟩), .agg d.o.cells] W fun e W' => e = .returned (.bool true) ∧ PlI w W' w.heap.size g c5 sd (k + 1)) := fun k hk W d hd hk9 P => P.step (hA sd) (by omega) d (HOk.out d hd) (HCs.out d hd) hk9
      clear HX HY HG HOk HCs HC hneX hneY hL h1 h3 hA
      go_wp2
      go_loopw [14] (fun i wr => ∃ k : Nat, i = .int .i64 k ∧ k ≤ l.length ∧ Hid (PlI w wr w.heap.size g c5 sd k)) (fun i _ => l.length - (intOf i).toNat)
      case atStart => exact ⟨0, rfl, Nat.zero_le _, HP⟩
      case round =>
        obtain ⟨k, rfl, hk, HQ⟩ := hrel
        obtain ⟨hq, v1, v2, v3, v4⟩ := HQ.out.view
        by_cases hlt : k < l.length
        · have hlt' : (k : Int) < (l.length : Int) := by omega
          rcases hcell with h0 | ⟨gs, o, rfl, hgs, hcell⟩
          · rw [h0] at hlt; simp at hlt
          obtain ⟨dd, hd⟩ : ∃ d, l[k]? = some d := ⟨_, List.getElem?_eq_getElem hlt⟩
          have p : ∀ j, j < 8 → wr.cell? ⟨gs, o + k * 8 + j, none⟩ = dd.o.cells[j]? := fun j hj => (hq.cell hgs (by simp)).trans (hcell k dd hd j hj)
          have HSd := hSt.out k (by omega) (wr.alloc (.cells dd.o.cells 106)) dd (List.mem_of_getElem? hd)
          have HQs : Hid (PlI w (wr.alloc (.cells dd.o.cells 106)) w.heap.size g c5 sd (k + 1)) := hidC' ((HQ.out.still (Keeps.alloc _ _)).same (by omega))
          have HQa : PlI w (wr.alloc (.cells dd.o.cells 106)) w.heap.size g c5 sd k := HQ.out.still (Keeps.alloc _ _)
          obtain ⟨oo, cc⟩ := dd
          obtain ⟨ki, h, key, hi, la, ll, lc, pa, pl, pc, ta, tl, tc, wh⟩ := oo
          simp only [OpV.cells] at HSd HQs HQa
          have p0 : wr.cell? ⟨gs, o + k * 8, none⟩ = some (.int .i64 ki) := p 0 (by omega)
          have p1 : wr.cell? ⟨gs, o + k * 8 + 1, none⟩ = some (.int .i64 h) := p 1 (by omega)
          have p2 : wr.cell? ⟨gs, o + k * 8 + 2, none⟩ = some (.string key) := p 2 (by omega)
          have p3 : wr.cell? ⟨gs, o + k * 8 + 3, none⟩ = some (.string hi) := p 3 (by omega)
          have p4 : wr.cell? ⟨gs, o + k * 8 + 4, none⟩ = some (.slice la ll lc) := p 4 (by omega)
          have p5 : wr.cell? ⟨gs, o + k * 8 + 5, none⟩ = some (.slice pa pl pc) := p 5 (by omega)
          have p6 : wr.cell? ⟨gs, o + k * 8 + 6, none⟩ = some (.slice ta tl tc) := p 6 (by omega)
          have p7 : wr.cell? ⟨gs, o + k * 8 + 7, none⟩ = some (.bool wh) := p 7 (by omega)
          have v1' := Nat.ne_of_lt v1
          have v2' := Nat.ne_of_lt v2
          have hgs' := Nat.ne_of_lt (Nat.lt_of_lt_of_le hgs hq.size)
          by_cases hk9 : 9 < ki
          · clear HSd HQa hSt hEn p hcell HP HQ
            go_wp2
            exact ⟨⟨k + 1, by go_num, by omega, HQs⟩, by simp [intOf]; omega⟩
          · have HS := hidC (HSd (by omega) HQa)
            clear HSd HQa HQs hSt hEn p hcell HP HQ
            cases wh
            all_goals
              go_wp2_with (first
                | (go_at_call 37; refine HS.out.mono ?_; rintro e w2 ⟨rfl, P2⟩; have HH := hidC P2.kept; clear P2)
                | (go_at_call 38; refine HH.out.mono ?_; rintro e w3 ⟨rfl, P3⟩))
              exact ⟨⟨k + 1, by go_num, by omega, P3⟩, by simp [intOf]; omega⟩
        · have hge : ¬ (k : Int) < (l.length : Int) := by omega
          have HQ2 := hidC' HQ.out
          clear hcell HP HQ hSt v1 v2 v3 v4 hq
          go_wp2
          go_loopw [19] (fun i wr => (i = .int .i64 0 ∧ Hid (PlI w wr w.heap.size g c5 sd k)) ∨ (i = .int .i64 1 ∧ ∃ K, Hid (PlI w wr w.heap.size g c5 sd K))) (fun i _ => 1 - (intOf i).toNat)
          case atStart => exact .inl ⟨rfl, HQ2⟩
          case round =>
            rcases hrel with ⟨rfl, HR⟩ | ⟨rfl, K, HR⟩
            · obtain ⟨hq, v1, v2, v3, v4⟩ := HR.out.view
              have HE := hidC (hEn.out k hk _ HR.out)
              clear hEn HQ2 HR hq
              go_wp2_with (go_at_call 39; refine HE.out.mono ?_; rintro e w2 ⟨rfl, K, P2⟩)
              exact ⟨.inr ⟨by go_num, K, P2⟩, by simp [intOf]⟩
            · have HH := hidC HR.out.kept
              clear hEn HQ2 HR
              go_wp2_with (go_at_call 38; refine HH.out.mono ?_; rintro e w2 ⟨rfl, P2⟩)
              have hfin := P2.view.1
              first
              | (go_ret; exact ⟨rfl, hfin⟩)
              | (go_ret2; exact ⟨rfl, hfin⟩)
              | (trace_state; exact ⟨rfl, _, rfl, hfin⟩)

end Go.Proofs.YthfimgeopciiiaaGreat

/-
  The law's Plays, given what is still open of Look, Scan and Write.
-/
namespace Go.Proofs.YthfimgeopciiiaaGreat
open Go.MapKept Go.ChangeMaps Go.Maps Go.RowKit Go.MuLone
set_option linter.unusedVariables false

theorem OpsAt.quiet {w W : World} {v : Value} {l : List OpD} (h : OpsAt w v l) (q : Quiet w W) : OpsAt W v l := by
  obtain ⟨⟨a, cap, e, h1⟩, h2⟩ := h
  refine ⟨⟨a, cap, e, ?_⟩, fun s hs => ⟨(h2 s hs).wf, (h2 s hs).ch.quiet q⟩⟩
  rcases h1 with h1 | ⟨g, o, e1, hg, h1⟩
  · exact .inl h1
  · exact .inr ⟨g, o, e1, Nat.lt_of_lt_of_le hg q.size, fun i d hd j hj => (q.cell hg (by simp)).trans (h1 i d hd j hj)⟩

theorem playAll {w : World} {sd : Nat} (hL : LookOk w sd) (h3 : LawOk w sd 3) (hW : WriteOk w sd) : PlayAll w sd := fun W s m M N T L hN d hd hc hk => step_all hL h3 hW T L hN d hd hc (by omega)

set_option maxRecDepth 100000 in
set_option maxHeartbeats 4000000 in
theorem plays_h (w : World) (a b c d : Int) (v : Value) (l : List OpD) (hl : OpsAt w v l) (hlen : 4 * l.length + 7 ≤ 2097152) (hcs : ∀ o ∈ l, o.cs.length ≤ 1048576) (hL : ∀ w sd, LookOk w sd) (h3 : ∀ w sd, LawOk w sd 3) (hW : ∀ w sd, WriteOk w sd) :
    Calls Tryz.prog 3 #[.agg #[.int .i64 a, .int .i64 b, .int .i64 c, .int .i64 d], v] w fun e w' => e = .returned (.bool true) ∧ Quiet w w' := by
  have hq : Quiet w ((w.alloc (.cells #[.int .i64 a, .int .i64 b, .int .i64 c, .int .i64 d] 23)).alloc (.cells #[.int .i64 a, .int .i64 b, .int .i64 c, .int .i64 d] 23)) := Quiet.trans' (Keeps.alloc _ _) (Keeps.alloc _ _)
  have hb : ((w.alloc (.cells #[.int .i64 a, .int .i64 b, .int .i64 c, .int .i64 d] 23)).alloc (.cells #[.int .i64 a, .int .i64 b, .int .i64 c, .int .i64 d] 23)).heap[w.heap.size + 1]? = some (.cells #[.int .i64 a, .int .i64 b, .int .i64 c, .int .i64 d] 23) := by
    have e : w.heap.size + 1 = (w.alloc (.cells #[.int .i64 a, .int .i64 b, .int .i64 c, .int .i64 d] 23)).heap.size := by simp
    rw [e]; exact heap_alloc_new _ _
  have HP : Hid (Calls Tryz.prog 12 #[.slice (some ⟨w.heap.size + 1, 0, none⟩) 1 1, v, .int .i64 9] ((w.alloc (.cells #[.int .i64 a, .int .i64 b, .int .i64 c, .int .i64 d] 23)).alloc (.cells #[.int .i64 a, .int .i64 b, .int .i64 c, .int .i64 d] 23)) fun e w' => e = .returned (.bool true) ∧ Quiet w w') := hidC' (by
    cases hc : configB a b c d with
    | false =>
      obtain ⟨⟨va, vc, rfl, -⟩, -⟩ := hl
      exact (play_no _ a b c d hc _ hb va _ vc).mono fun e w' ⟨e1, e2⟩ => ⟨e1, Quiet.trans' hq e2⟩
    | true => exact (play_yes _ a b c d hc _ hb v l (hl.quiet hq) hlen hcs (fun sd => hL _ sd) (fun sd => lawOk_one _ sd) (fun sd => h3 _ sd) (fun sd => playAll (hL _ sd) (h3 _ sd) (hW _ sd))).mono fun e w' ⟨e1, e2⟩ => ⟨e1, Quiet.trans' hq e2⟩)
  clear hl hcs hL h3 hW hq hb
  go_enter Tryz.func3, Tryz.ntmps3
  go_wp2_with (go_at_call 12; refine HP.out.mono ?_; rintro e w2 ⟨rfl, q2⟩)
  go_ret
  exact ⟨rfl, q2⟩

end Go.Proofs.YthfimgeopciiiaaGreat

/-
  The law's step, of Scan and Write: what is left is scans and writes.
-/
namespace Go.Proofs.YthfimgeopciiiaaGreat
open Go.MapKept Go.ChangeMaps Go.Maps Go.RowKit Go.MuLone
set_option linter.unusedVariables false

/-- scans -/
def ScansOk (w : World) (sd : Nat) : Prop := ∀ (W : World) (s : Sto) (m : MRef) (M : MW) (N : Nat), Two w W s m M sd → Lg s m M N → N + 1 ≤ 2097152 → ∀ o : OpV, (Lit.int .i64 o.h).wf = true →
  Calls Tryz.prog 70 #[.pointer (some ⟨M.wb, 0, none⟩), .pointer (some ⟨sd, 0, none⟩), .agg o.cells] W fun e W' => e = .returned (.bool true) ∧ Stepped w W' s m M sd N

/-- writes -/
def WritesOk (w : World) (sd : Nat) : Prop := ∀ (W : World) (s : Sto) (m : MRef) (M : MW) (N : Nat), Two w W s m M sd → Lg s m M N → N + 1 ≤ 2097152 → ∀ d : OpD, OpOk w d → d.cs.length ≤ 1048576 →
  Calls Tryz.prog 71 #[.pointer (some ⟨M.wb, 0, none⟩), .pointer (some ⟨sd, 0, none⟩), .agg d.o.cells] W fun e W' => e = .returned (.bool true) ∧ Stepped w W' s m M sd N

section
variable {w W : World} {M : MW} {sd : Nat}

set_option maxRecDepth 100000 in
set_option maxHeartbeats 4000000 in
theorem step_scans (o : OpV) (h3 : o.kind = 3) (Q : World → Prop)
    (hA : Calls Tryz.prog 70 #[.pointer (some ⟨M.wb, 0, none⟩), .pointer (some ⟨sd, 0, none⟩), .agg o.cells] (W.alloc (.cells o.cells 106)) fun e W' => e = .returned (.bool true) ∧ Q W') :
    Calls Tryz.prog 37 #[.pointer (some ⟨M.wb, 0, none⟩), .pointer (some ⟨sd, 0, none⟩), .agg o.cells] W fun e W' => e = .returned (.bool true) ∧ Q W' := by
  have HA := hidC hA
  obtain ⟨ki, h, key, hi, la, ll, lc, pa, pl, pc, ta, tl, tc, wh⟩ := o
  simp only at h3
  subst h3
  unfold OpV.cells at HA ⊢
  clear hA
  go_enter Tryz.func37, Tryz.ntmps37
  go_wp2_with (go_at_call 70; refine HA.out.mono ?_; rintro e W2 ⟨rfl, hQ⟩)
  go_ret
  exact ⟨rfl, hQ⟩

set_option maxRecDepth 100000 in
set_option maxHeartbeats 4000000 in
theorem step_writes (o : OpV) (h4 : o.kind = 4) (Q : World → Prop)
    (hA : Calls Tryz.prog 71 #[.pointer (some ⟨M.wb, 0, none⟩), .pointer (some ⟨sd, 0, none⟩), .agg o.cells] (W.alloc (.cells o.cells 106)) fun e W' => e = .returned (.bool true) ∧ Q W') :
    Calls Tryz.prog 37 #[.pointer (some ⟨M.wb, 0, none⟩), .pointer (some ⟨sd, 0, none⟩), .agg o.cells] W fun e W' => e = .returned (.bool true) ∧ Q W' := by
  have HA := hidC hA
  obtain ⟨ki, h, key, hi, la, ll, lc, pa, pl, pc, ta, tl, tc, wh⟩ := o
  simp only at h4
  subst h4
  unfold OpV.cells at HA ⊢
  clear hA
  go_enter Tryz.func37, Tryz.ntmps37
  go_wp2_with (go_at_call 71; refine HA.out.mono ?_; rintro e W2 ⟨rfl, hQ⟩)
  go_ret
  exact ⟨rfl, hQ⟩

theorem ScansOk.law (h : ScansOk w sd) : LawOk w sd 3 := fun W s m M N T L hN o hw hk => step_scans o hk _ (h _ _ _ _ _ (T.still (Keeps.alloc _ _)) L hN o hw)

theorem WritesOk.law (h : WritesOk w sd) : WriteOk w sd := fun W s m M N T L hN d hd hc hk => step_writes d.o hk _ (h _ _ _ _ _ (T.still (Keeps.alloc _ _)) L hN d hd hc)

end
end Go.Proofs.YthfimgeopciiiaaGreat
