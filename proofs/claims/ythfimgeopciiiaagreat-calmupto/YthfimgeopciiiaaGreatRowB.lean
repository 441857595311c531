/-
  A script read off an argument; what a quiet call leaves.
-/
import Derived.Test.YthfimgeopciiiaaGreatScript
import Derived.Deep.Strs
import Derived.ReadAgain
import Derived.Conc.HoldsTime
namespace Go.Proofs.YthfimgeopciiiaaGreat
open Go.MapKept Go.ChangeMaps Go.Maps Go.RowKit Go.MuLone Go.ChangeShapes Go.WideShapes
set_option linter.unusedVariables false

theorem cells66 : Tryz.prog.cellsOf 66 = 3 := by kernel_rfl
theorem cells48 : Tryz.prog.cellsOf 48 = 5 := by kernel_rfl
theorem cells46 : Tryz.prog.cellsOf 46 = 1 := by kernel_rfl
theorem cells9 : Tryz.prog.cellsOf 9 = 1 := by kernel_rfl
theorem cells4 : Tryz.prog.cellsOf 4 = 1 := by kernel_rfl
theorem cells3 : Tryz.prog.cellsOf 3 = 1 := by kernel_rfl
theorem bytes66 : Tryz.prog.bytesOf 66 = 40 := by kernel_rfl
theorem bytes48 : Tryz.prog.bytesOf 48 = 72 := by kernel_rfl

theorem weightsAll_mem {H : Type} {P : Program} {e : TypeId} : ∀ {l : List (DataW H)} {d : DataW H}, d ∈ l → ∀ n ∈ d.weights P e, n ∈ DataW.weightsAll P e l
  | x :: l, d, h, n, hn => by
    simp only [DataW.weightsAll, List.mem_append]
    rcases List.mem_cons.1 h with rfl | h
    · exact .inl hn
    · exact .inr (weightsAll_mem h n hn)

theorem cell_spot {W : World} {a : Addr} {v : Value} (h : W.cell? a = some v) : a.spot = none ∧ a.block < W.heap.size := by
  unfold World.cell? at h
  split at h
  · rename_i c t f hb
    split at h
    · cases h
    · rename_i hs
      exact ⟨by simpa using hs, by
        by_cases hlt : a.block < W.heap.size
        · exact hlt
        · rw [Array.getElem?_eq_none (by omega)] at hb; cases hb⟩
  · cases h

theorem add_none (g o i : Nat) : (⟨g, o, none⟩ : Addr).add i = ⟨g, o + i, none⟩ := by
  unfold Addr.add
  split
  · rename_i h; subst h; rfl
  · rfl

theorem reach_val : reachBytes ≤ 140737488355328 := by decide

section
variable {H : Type} {enc : TypeId × Value → H} {W : World} {n : Nat}

set_option maxRecDepth 100000 in
theorem changes_of {v : Value} {x : DataW H × List MemPlace} (h : DataW.trod enc Tryz.prog W 0 (fun _ => true) true n 46 [v] = some x) (hf : ∀ k ∈ x.1.weights Tryz.prog 46, k ≤ reachBytes) :
    ∃ cs, ChAt W v cs ∧ ∀ b, heldBlock v = some b → b < W.heap.size := by
  rcases Deep.open_slice Tryz.underlying46 h with ⟨h0, rfl⟩ | ⟨a, len, cap, m, n', D, Pl, hcs, _, hlc, _, hm, rfl, hel⟩
  · simp at h0; subst h0
    exact ⟨[], ⟨⟨none, 0, rfl, .inl rfl⟩, by simp⟩, fun b hb => by simp [heldBlock] at hb⟩
  · simp at hcs; subst hcs
    have hm' : m = cap := by simpa using hm
    clear hm
    have hlen : len * 40 ≤ reachBytes := by
      have := hf ((len + (m - len)) * 40) (by simp [DataW.weights, Tryz.underlying46, bytes66])
      have : len * 40 ≤ (len + (m - len)) * 40 := Nat.mul_le_mul_right _ (by omega)
      omega
    have hr := reach_val
    have each : ∀ i, i < len → ∃ q : Chg, W.cell? (a.add (i * 3)) = some (.string q.1) ∧ W.cell? (a.add (i * 3 + 1)) = some (.string q.2.1) ∧ W.cell? (a.add (i * 3 + 2)) = some (.bool q.2.2) := by
      intro i hi
      obtain ⟨cs', h1, h2⟩ := hel i (by omega)
      rw [cells66] at h1
      obtain ⟨_, hl, hcell⟩ := World.cells?_some h1
      obtain ⟨y0, y1, y2, k, _, _, g0, g1, g2⟩ := Deep.trod_struct3 Tryz.underlying66 h2
      match cs', hl with
      | [v0, v1, v2], _ =>
        simp [cells9, cells4] at g0 g1 g2
        obtain ⟨s0, e0, _⟩ := trod_str g0
        obtain ⟨s1, e1, _⟩ := trod_str g1
        obtain ⟨s2, e2⟩ := trod_bool g2
        simp at e0 e1 e2
        subst e0 e1 e2
        have c0 := hcell 0 (by omega)
        have c1 := hcell 1 (by omega)
        have c2 := hcell 2 (by omega)
        rw [Deep.add_add] at c0 c1 c2
        exact ⟨(s0, s1, s2), by simpa using c0, by simpa using c1, by simpa using c2⟩
    obtain ⟨cs, hl, hq⟩ := list_of _ len each
    by_cases h0 : len = 0
    · subst h0
      obtain rfl := List.eq_nil_of_length_eq_zero hl
      exact ⟨[], ⟨⟨some a, cap, rfl, .inl rfl⟩, by simp⟩, fun b hb => by simp [heldBlock] at hb⟩
    · obtain ⟨q0, c0, _⟩ := each 0 (by omega)
      obtain ⟨hsp, hblt⟩ := cell_spot c0
      obtain ⟨g, o, sp⟩ := a
      simp [Addr.add] at hsp hblt
      subst hsp
      refine ⟨cs, ⟨⟨some ⟨g, o, none⟩, cap, by rw [hl], .inr ⟨g, o, rfl, hblt, fun i x hx => ?_⟩⟩, by omega⟩, fun b hb => ?_⟩
      · obtain ⟨p0, p1, p2⟩ := hq i x hx
        rw [add_none] at p0 p1 p2
        exact ⟨p0, by rw [Nat.add_assoc]; exact p1, by rw [Nat.add_assoc]; exact p2⟩
      · obtain ⟨k, rfl⟩ : ∃ k, len = k + 1 := ⟨len - 1, by omega⟩
        simp [heldBlock] at hb
        omega

set_option maxRecDepth 100000 in
theorem script_of {v : Value} {d : DataW H} {ps : List MemPlace} (h : DataW.Trod enc Tryz.prog W 0 (fun _ => true) true 28 v d ps) (hv : ∃ a len cap, v = .slice a len cap) (hf : ∀ k ∈ d.weights Tryz.prog 28, k ≤ reachBytes) :
    ∃ l, ScriptAt W v l := by
  obtain ⟨a0, len0, cap0, rfl⟩ := hv
  obtain ⟨n, h⟩ := h
  have h' : DataW.trod enc Tryz.prog W 0 (fun _ => true) true n 28 [.slice a0 len0 cap0] = some (d, ps) := h
  rcases Deep.open_slice Tryz.underlying28 h' with ⟨h0, hx⟩ | ⟨a, len, cap, m, n', D, Pl, hcs, _, hlc, _, hm, hx, hel⟩
  · simp at h0
    obtain ⟨rfl, rfl, rfl⟩ := h0
    exact ⟨[], ⟨⟨none, 0, rfl, .inl rfl⟩, fun s hs => by simp at hs, by simp⟩⟩
  · simp at hcs
    obtain ⟨rfl, rfl, rfl⟩ := hcs
    simp only [Prod.mk.injEq] at hx
    obtain ⟨rfl, -⟩ := hx
    have hm' : m = cap0 := by simpa using hm
    clear hm
    have hr := reach_val
    have hlen : len0 * 72 ≤ reachBytes := by
      have := hf ((len0 + (m - len0)) * 72) (by simp [DataW.weights, Tryz.underlying28, bytes48])
      have : len0 * 72 ≤ (len0 + (m - len0)) * 72 := Nat.mul_le_mul_right _ (by omega)
      omega
    have each : ∀ i, i < len0 → ∃ q : StepD, (W.cell? (a.add (i * 5)) = some (.int .i64 q.kind) ∧ W.cell? (a.add (i * 5 + 1)) = some (.int .i64 q.t) ∧ W.cell? (a.add (i * 5 + 2)) = some (.string q.key) ∧ W.cell? (a.add (i * 5 + 3)) = some (.string q.hi) ∧ W.cell? (a.add (i * 5 + 4)) = some q.lv) ∧ StepOk W q := by
      intro i hi
      obtain ⟨cs', h1, h2⟩ := hel i (by omega)
      rw [cells48] at h1
      obtain ⟨_, hl, hcell⟩ := World.cells?_some h1
      obtain ⟨xs, k, _, hxy, _, hxl, hfi⟩ := DataW.trod_struct Tryz.underlying48 h2
      match xs, hxl, cs', hl with
      | [y0, y1, y2, y3, y4], _, [v0, v1, v2, v3, v4], _ =>
        have g0 := hfi 0 _ rfl
        have g1 := hfi 1 _ rfl
        have g2 := hfi 2 _ rfl
        have g3 := hfi 3 _ rfl
        have g4 := hfi 4 _ rfl
        simp [cells9, cells3, cells46] at g0 g1 g2 g3 g4
        obtain ⟨s0, e0, _⟩ := trod_int3 g0
        obtain ⟨s1, e1, w1⟩ := trod_int3 g1
        obtain ⟨s2, e2, _⟩ := trod_str g2
        obtain ⟨s3, e3, _⟩ := trod_str g3
        simp at e0 e1 e2 e3
        subst e0 e1 e2 e3
        simp only [Prod.mk.injEq] at hxy
        obtain ⟨cs, hch, hbl⟩ := changes_of g4 (fun k hk => hf k (by
          simp only [DataW.weights, Tryz.underlying28, List.mem_cons, List.mem_append]
          refine .inr (.inl (weightsAll_mem (d := D i) (List.mem_map.2 ⟨i, by simpa using hi, rfl⟩) k ?_))
          rw [hxy.1]
          simp only [DataW.weights, Tryz.underlying48, List.map_cons, List.map_nil, DataW.weightsEach, List.mem_append]
          simp [hk]))
        have c0 := hcell 0 (by omega)
        have c1 := hcell 1 (by omega)
        have c2 := hcell 2 (by omega)
        have c3 := hcell 3 (by omega)
        have c4 := hcell 4 (by omega)
        rw [Deep.add_add] at c0 c1 c2 c3 c4
        refine ⟨⟨s0, s1, s2, s3, v4, cs⟩, ⟨by simpa using c0, by simpa using c1, by simpa using c2, by simpa using c3, by simpa using c4⟩, ?_, hch, hbl⟩
        simpa [Lit.wf, IntKind.min, IntKind.max, IntKind.signed, IntKind.bits] using w1
    obtain ⟨l, hl, hq⟩ := list_of _ len0 each
    by_cases h0 : len0 = 0
    · subst h0
      obtain rfl := List.eq_nil_of_length_eq_zero hl
      exact ⟨[], ⟨⟨some a, cap0, rfl, .inl rfl⟩, fun s hs => by simp at hs, by simp⟩⟩
    · obtain ⟨q0, ⟨c0, _⟩, _⟩ := each 0 (by omega)
      obtain ⟨hsp, hblt⟩ := cell_spot c0
      obtain ⟨g, o, sp⟩ := a
      simp [Addr.add] at hsp hblt
      subst hsp
      refine ⟨l, ⟨⟨some ⟨g, o, none⟩, cap0, by rw [hl], .inr ⟨g, o, rfl, hblt, fun i x hx => ?_⟩⟩, fun s hs => ?_, by omega⟩⟩
      · obtain ⟨⟨p0, p1, p2, p3, p4⟩, _⟩ := hq i x hx
        rw [add_none] at p0 p1 p2 p3 p4
        simp only [Nat.add_assoc] at p0 p1 p2 p3 p4 ⊢
        exact ⟨p0, p1, p2, p3, p4⟩
      · obtain ⟨i, hi, e⟩ := List.mem_iff_getElem.1 hs
        exact (hq i s (by rw [List.getElem?_eq_getElem hi, e])).2

/-- what a quiet call leaves reads as it did -/
theorem sameAt_quiet {W W' : World} (q : Quiet W W') {p : MemPlace} (hp : p.block < W.heap.size) : W.sameAt W' p := by
  cases p with
  | cell b o =>
    show W'.cell? ⟨b, o, none⟩ = W.cell? ⟨b, o, none⟩
    exact World.cell?_of_block (q.block b hp (by simp))
  | map b => exact q.block b hp (by simp)

theorem trod_quiet {W W' : World} (q : Quiet W W') {t : TypeId} {v : Value} {d : DataW H} {ps : List MemPlace} (h : DataW.Trod enc Tryz.prog W 0 (fun _ => true) true t v d ps) (hps : ∀ p ∈ ps, p.block < W.heap.size) :
    DataW.Trod enc Tryz.prog W' 0 (fun _ => true) true t v d ps := by
  obtain ⟨n, h⟩ := h
  exact ⟨n, DataW.trod_carry n t _ _ h (fun p hp => sameAt_quiet q (hps p hp))⟩

theorem keptMem_quiet {W W' : World} (q : Quiet W W') (may : MemPlace → Prop) : W.keptMem W' may := by
  refine ⟨q.output, fun i hi => ?_⟩
  rw [q.block i hi (by simp)]
  cases hb : W.heap[i]? with
  | none => rfl
  | some o => cases o <;> simp
end

end Go.Proofs.YthfimgeopciiiaaGreat

/-
  From a call's contract to a row: a law that keeps its own counsel.
-/
namespace Go.Proofs.YthfimgeopciiiaaGreat
open Go.MapKept Go.ChangeMaps Go.Maps Go.RowKit Go.MuLone Go.ChangeShapes Go.WideShapes
set_option linter.unusedVariables false

theorem rowKids : Kids Tryz.prog (fun t => t < Tryz.prog.types.size) := kids_rows (by kernel_rfl) (by kernel_rfl)
theorem rowFull : ∀ (t : Nat) (e : TypeId), t < Tryz.prog.types.size → Tryz.prog.underlying t = some (TypeDesc.slice e) → 0 < Tryz.prog.cellsOf e := slices_full_of Tryz.prog (by kernel_rfl)

section
variable {H : Type} {enc : TypeId × Value → H}

theorem trodAll_quiet {W W' : World} (q : Quiet W W') : ∀ {ts : List TypeId} {vs : List Value} {ds : List (DataW H)} {ps : List MemPlace},
    DataW.TrodAll enc Tryz.prog W 0 (fun _ => true) true ts vs ds ps → (∀ p ∈ ps, p.block < W.heap.size) → DataW.TrodAll enc Tryz.prog W' 0 (fun _ => true) true ts vs ds ps
  | [], vs, ds, ps, h, _ => by
    obtain ⟨rfl, rfl, rfl⟩ := trodAll_nil h
    exact rfl
  | t :: ts, vs, ds, ps, h, hp => by
    obtain ⟨v, vs', d, ds', p, r, rfl, rfl, rfl, h1, h2⟩ := trodAll_cons h
    exact ⟨p, r, trod_quiet q h1 (fun x hx => hp x (by simp [hx])), trodAll_quiet q h2 (fun x hx => hp x (by simp [hx])), rfl⟩

/-- a call that was quiet and said true -/
theorem postWith_quiet {fn : Func} {s : ChangeSpec} {F : Stop.Interp} {W W' : World} {args : Array Value} {ds : List (DataW H)} {before : List MemPlace}
    (hW : DataW.Whole enc Tryz.prog fn.params.toList s.vars false W args.toList ds [] before) (hv : s.vars = []) (hr : fn.resultTypes = #[4])
    (hs : s.fn H (ds ++ []) = { results := [.lit (.bool true)], args := ds }) (q : Quiet W W') (hT : ∀ t ∈ fn.params.toList, t < Tryz.prog.types.size) :
    (OpenSpec.ofChange s).postWith enc Tryz.prog fn F (outsideKept [.timePasses]) false true false W args (.bool true) W' := by
  have hlt : ∀ p ∈ before, p.block < W.heap.size := fun p hp => hW.lt p hp
  have hW' := hW
  obtain ⟨p, r, hA, hV, rfl, hfz, _⟩ := hW
  rw [hv] at hV
  obtain rfl : r = [] := hV
  simp only [List.append_nil] at hlt hW'
  refine ⟨ds, [], p, [], p, [], hW', ?_, ?_, ?_, leftAs_later (by rw [q.os]; exact Go.ConcM.OsLater.refl _), keptMem_quiet q _⟩
  · show DataW.TrodAll enc Tryz.prog W' _ _ _ fn.resultTypes.toList _ (s.fn H (ds ++ [])).results []
    rw [hs, hr]
    exact trodAll_mk1 (shut_bool Tryz.underlying4 _)
  · show DataW.TrodAll enc Tryz.prog W' _ _ _ fn.params.toList _ (s.fn H (ds ++ [])).args p
    rw [hs]
    exact DataW.TrodAll.respare rowKids rowFull hT (trodAll_quiet q hA hlt) (fun x hx => by simpa using hlt x hx)
  · show DataW.TrodVars enc Tryz.prog W' _ s.vars (s.fn H (ds ++ [])).vars []
    rw [hs, hv]
    exact rfl

/-- from the contract to the row's own form -/
theorem leaving_of_calls {a : Assume} {C : Checked} {os : Os} {f : FuncId} {fn : Func} {s : ChangeSpec} {F : Stop.Interp} {conds : List PathCond} {apart fresh handsOn : Bool}
    (own : ownKnob C.prog.godebug = none) (started : os.Started) (noInit : C.prog.inits.idxOf? f = none) (hfn : C.prog.funcs[f]? = some fn)
    (witness : ∃ (w : World) (tape : Tape) (i : Input), w.os = os ∧ (w.forCall tape i).Shaped C.prog ∧ i.vars = [] ∧ Input.okWide C.prog (w.forCall tape i) .any w.heap.size f i ∧
      s.pre6 enc C.prog fn conds apart (w.forCall tape i).memory i.args ∧ a.holds C.prog (lone (Frame.enter C.prog f i.args .normal) [] (w.forCall tape i)))
    (runs : ∀ (W : World) (base : Nat) (args : Array Value) (ds gs : List (DataW H)) (before : List MemPlace),
      (∀ (j : Nat) t v, fn.params[j]? = some t → args[j]? = some v → Value.okWide C.prog W .any base t v) →
      DataW.Whole enc C.prog fn.params.toList s.vars apart W args.toList ds gs before →
      (DataW.weightsEach C.prog (fn.params.toList ++ s.plain.varTypes C.prog) (ds ++ gs)).all (· ≤ reachBytes) = true →
      Calls C.prog f args W fun e W' => ∃ v, e = .returned v ∧ (OpenSpec.ofChange s).postWith enc C.prog fn F (outsideKept [.timePasses]) apart fresh handsOn W args v W') :
    ReturnsInLeavingWide a C os f .any (s.pre6 enc C.prog fn conds apart) ((OpenSpec.ofChange s).postWith enc C.prog fn F (outsideKept [.timePasses]) apart fresh handsOn) := fun enter => by
  refine ReturnsInOpen.mono (fun m w t h => ⟨h.2.1, onlyLeaving_of_quiet h.1, h.2.2⟩) (fun _ h => h) (returnsInHanded_of_calls own started noInit witness ?_ enter)
  intro w tape i _ _ _ hok hpre _
  obtain ⟨_, _, _, fn', hfn', _, _, _, _, hval⟩ := hok
  have e : fn' = fn := Option.some.inj (hfn'.symm.trans hfn)
  subst e
  obtain ⟨⟨ds, gs, before, hw, hc⟩, hz⟩ := hpre
  have hw' := DataW.Whole.of_heap (w' := w.forCall tape i) (by rfl) hw
  refine (runs (w.forCall tape i) w.heap.size i.args ds gs before hval hw' (hz.weights hw)).mono ?_
  rintro e W' ⟨v, rfl, hp⟩
  exact postWith_blind hp
end

theorem slice_arg {P : Program} {W : World} {base : Nat} {t e : TypeId} {v : Value} (hu : P.underlying t = some (.slice e)) (h : Value.okWide P W .any base t v) : ∃ a len cap, v = .slice a len cap := by
  unfold Value.okWide at h
  rw [hu] at h
  simp only at h
  unfold Cell.okWide at h
  rw [hu] at h
  simp only at h
  unfold Cell.ok at h
  rw [hu] at h
  cases v <;> simp_all

theorem ownRow : ownKnob Tryz.prog.godebug = none := by kernel_rfl

end Go.Proofs.YthfimgeopciiiaaGreat
