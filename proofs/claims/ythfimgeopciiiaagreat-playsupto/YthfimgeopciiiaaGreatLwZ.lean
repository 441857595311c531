/-
  The law's writes: the list that it makes, hands in and keeps.
-/
import Derived.Test.YthfimgeopciiiaaGreatLwI
import Derived.Laws.CopyRow
import Derived.Laws.MakeOwn
import Derived.Deep.RegionHeld3
namespace Go.Proofs.YthfimgeopciiiaaGreat
open Go.MapKept Go.ChangeMaps Go.Maps Go.RowKit Go.MuLone
set_option linter.unusedVariables false

/-- copy, of elements of three cells -/
theorem run_copy3 {P : Program} (w : World) (dT sT ty elem : TypeId) (g dLen dCap : Nat) (a : Addr) (sLen sCap : Nat) (cur : Array Value) (t : TypeId) (cs : List Value)
    (hu : P.underlying dT = some (.slice elem)) (hs : (P.info? elem).map (·.size) = some 3)
    (hg : w.heap[g]? = some (.cells cur t (0, 0))) (hn : cs.length = Nat.min sLen dLen * 3)
    (hsrc : ∀ j v, cs[j]? = some v → w.cell? (a.add j) = some v) (hfit : cs.length ≤ cur.size) (h1 : ∀ v ∈ cs, v.oneCell' = true) :
    (Builtin.copy_ #[dT, sT] ty #[.slice (some ⟨g, 0, none⟩) dLen dCap, .slice (some a) sLen sCap]).run P w =
      .ok (goInt (Nat.min sLen dLen)) (w.setRow g (cs ++ cur.toList.drop cs.length).toArray) := by
  have hl := run_loadCells_list (P := P) w a cs hsrc
  have hst := run_storeCells_at P g 0 t cs 0 cur w hg (by simpa using hfit) h1
  simp only [Nat.zero_add, List.take_zero, List.nil_append] at hst
  cases hq : P.info? elem with
  | none => simp [hq] at hs
  | some i =>
    have hi : i.size = 3 := by simpa [hq] using hs
    simp [Builtin.copy_, run_underlying hu, Builtin.lenOf, Builtin.firstCells, sizeOf, typeInfo, hq, hi, ← hn, hl, hst]

theorem run_copy3_nil {P : Program} (w : World) (dT sT ty elem : TypeId) (a : Addr) (dLen dCap sCap : Nat) (hu : P.underlying dT = some (.slice elem)) (hs : (P.info? elem).map (·.size) = some 3) :
    (Builtin.copy_ #[dT, sT] ty #[.slice (some a) dLen dCap, .slice none 0 sCap]).run P w = .ok (goInt 0) w := by
  cases hq : P.info? elem with
  | none => simp [hq] at hs
  | some i => simp [Builtin.copy_, run_underlying hu, Builtin.lenOf, Builtin.firstCells, sizeOf, typeInfo, hq, storeCells]

def zeroC : Chg := (⟨#[]⟩, ⟨#[]⟩, false)
def turnC : Chg := (turnB, ⟨#[]⟩, true)

theorem made_tail (n : Nat) : (madeCells #[.string ⟨#[]⟩, .string ⟨#[]⟩, .bool false] ((n + 1) * 3)).toList.drop (n * 3) = chgCells zeroC := by
  have e : ∀ k, k < (n + 1) * 3 → (madeCells #[.string ⟨#[]⟩, .string ⟨#[]⟩, .bool false] ((n + 1) * 3)).toList[k]? = some ((#[.string ⟨#[]⟩, .string ⟨#[]⟩, .bool false] : Array Value)[k % 3]!) := fun k hk => by
    unfold madeCells
    rw [Array.toList_map, List.getElem?_map, Array.toList_range, List.getElem?_range hk]
    rfl
  apply List.ext_getElem?
  intro j
  rw [List.getElem?_drop]
  match j with
  | 0 => rw [e _ (by omega), show (n * 3 + 0) % 3 = 0 by omega]; rfl
  | 1 => rw [e _ (by omega), show (n * 3 + 1) % 3 = 1 by omega]; rfl
  | 2 => rw [e _ (by omega), show (n * 3 + 2) % 3 = 2 by omega]; rfl
  | k + 3 =>
    rw [List.getElem?_eq_none (by rw [Array.length_toList, size_madeCells]; omega)]
    rfl

/-- the cells of a list of changes -/
theorem ChAt.flat {w : World} {g o : Nat} {cs : List Chg} (hcell : ∀ (i : Nat) (x : Chg), cs[i]? = some x → w.cell? ⟨g, o + i * 3, none⟩ = some (.string x.1) ∧ w.cell? ⟨g, o + i * 3 + 1, none⟩ = some (.string x.2.1) ∧ w.cell? ⟨g, o + i * 3 + 2, none⟩ = some (.bool x.2.2)) (j : Nat) (v : Value) (hj : (cs.flatMap chgCells)[j]? = some v) :
    w.cell? ((⟨g, o, none⟩ : Addr).add j) = some v := by
  have hl : j < cs.length * 3 := by have := (List.getElem?_eq_some_iff.1 hj).1; rw [chgCells_length] at this; exact this
  have hi : j / 3 < cs.length := by omega
  obtain ⟨x, hx⟩ : ∃ x, cs[j / 3]? = some x := ⟨_, List.getElem?_eq_getElem hi⟩
  obtain ⟨h0, h1, h2⟩ := hcell _ x hx
  have hf := flat_at chgCells 3 chgCells_len cs (j / 3) (j % 3) x hx (by omega)
  rw [show j / 3 * 3 + j % 3 = j by omega, hj] at hf
  have ha : (⟨g, o, none⟩ : Addr).add j = ⟨g, o + j, none⟩ := by unfold Addr.add; split <;> simp_all
  rw [ha, hf]
  have h3 : j % 3 = 0 ∨ j % 3 = 1 ∨ j % 3 = 2 := by omega
  rcases h3 with h | h | h
  · rw [h, show o + j = o + j / 3 * 3 by omega]; exact h0
  · rw [h, show o + j = o + j / 3 * 3 + 1 by omega]; exact h1
  · rw [h, show o + j = o + j / 3 * 3 + 2 by omega]; exact h2

theorem ChRow.of_block {w : World} {base g : Nat} {l : List Chg} {cur : Array Value} (hb : base ≤ g) (hg : w.heap[g]? = some (.cells cur 66 (0, 0))) (hm : l.length ≤ 1048577) (hc : cur.toList = l.flatMap chgCells) : ChRow w base (.slice (some ⟨g, 0, none⟩) l.length l.length) l := by
  have hs : cur.size = l.length * 3 := by rw [← Array.length_toList, hc, chgCells_length]
  refine ⟨chgCells_length l, .inr ⟨g, l.length, cur, rfl, hb, hg, Nat.le_refl _, by unfold maxLen; omega, hs, ?_⟩⟩
  rw [List.take_of_length_le (by rw [Array.length_toList, hs]; exact Nat.le_refl _), hc]

set_option maxRecDepth 100000 in
/-- make and copy -/
theorem dup_run {W : World} {la : Option Addr} {lc : Nat} {cs : List Chg} (h : ChAt W (.slice la cs.length lc) cs) (hl : cs.length ≤ 1048576) :
    ∃ w1 w2, (Instr.makeSlice 46 (.int .i64 ((cs.length : Int) + 1)) (.int .i64 ((cs.length : Int) + 1))).run Tryz.prog W = .ok (.slice (some ⟨W.heap.size, 0, none⟩) (cs.length + 1) (cs.length + 1)) w1 ∧ Quiet W w1 ∧
      (∀ ty, (Builtin.copy_ #[46, 46] ty #[.slice (some ⟨W.heap.size, 0, none⟩) (cs.length + 1) (cs.length + 1), .slice la cs.length lc]).run Tryz.prog w1 = .ok (goInt cs.length) w2) ∧ Quiet W w2 ∧ ChRow w2 W.heap.size (.slice (some ⟨W.heap.size, 0, none⟩) (cs.length + 1) (cs.length + 1)) (cs ++ [zeroC]) := by
  obtain ⟨i0, hi0, hz0, hz1, hz2⟩ := info_parts info_chg
  have hmk := run_make (P := Tryz.prog) W 46 66 i0 _ Tryz.underlying46 hi0 hz0 .i64 .i64 ((cs.length : Int) + 1) ((cs.length : Int) + 1) (by omega) (Int.le_refl _) (by rw [hz2]; omega) (by omega)
  rw [hz1, show ((cs.length : Int) + 1).toNat = cs.length + 1 by omega] at hmk
  have hinfo : (Tryz.prog.info? 66).map (·.size) = some 3 := by rw [hi0]; exact congrArg some hz1
  have hzc : (Value.agg #[.string ⟨#[]⟩, .string ⟨#[]⟩, .bool false]).cells = #[.string ⟨#[]⟩, .string ⟨#[]⟩, .bool false] := rfl
  rw [hzc] at hmk
  have hq1 : Quiet W (W.alloc (.cells (madeCells #[.string ⟨#[]⟩, .string ⟨#[]⟩, .bool false] ((cs.length + 1) * 3)) 66)) := Keeps.alloc _ _
  have hg1 : (W.alloc (.cells (madeCells #[.string ⟨#[]⟩, .string ⟨#[]⟩, .bool false] ((cs.length + 1) * 3)) 66)).heap[W.heap.size]? = some (.cells (madeCells #[.string ⟨#[]⟩, .string ⟨#[]⟩, .bool false] ((cs.length + 1) * 3)) 66 (0, 0)) := heap_alloc_new _ _
  generalize W.alloc (.cells (madeCells #[.string ⟨#[]⟩, .string ⟨#[]⟩, .bool false] ((cs.length + 1) * 3)) 66) = w1 at *
  have hlen : (cs ++ [zeroC]).length = cs.length + 1 := by simp
  have key : ∀ w2 (cur : Array Value), w2.heap[W.heap.size]? = some (.cells cur 66 (0, 0)) → cur.toList = (cs ++ [zeroC]).flatMap chgCells → ChRow w2 W.heap.size (.slice (some ⟨W.heap.size, 0, none⟩) (cs.length + 1) (cs.length + 1)) (cs ++ [zeroC]) := fun w2 cur hg hc => by
    have := ChRow.of_block (l := cs ++ [zeroC]) (Nat.le_refl _) hg (by rw [hlen]; omega) hc
    rw [hlen] at this
    exact this
  have hflat : (cs ++ [zeroC]).flatMap chgCells = cs.flatMap chgCells ++ chgCells zeroC := by rw [List.flatMap_append]; simp
  have htail := made_tail cs.length
  obtain ⟨⟨a, cap, ev, hc⟩, -⟩ := id h
  obtain ⟨rfl, rfl⟩ : la = a ∧ lc = cap := by
    have := Value.slice.inj ev
    exact ⟨this.1, this.2.2⟩
  cases la with
  | none =>
    have h0 : cs = [] := by
      rcases hc with h0 | ⟨g, o, ea, -⟩
      · exact h0
      · cases ea
    subst h0
    refine ⟨w1, w1, hmk, hq1, fun ty => run_copy3_nil w1 _ _ ty _ _ _ _ _ Tryz.underlying46 hinfo, hq1, key w1 _ hg1 ?_⟩
    simpa using htail
  | some a =>
    have hsrc : ∀ j v, (cs.flatMap chgCells)[j]? = some v → w1.cell? (a.add j) = some v := fun j v hj => by
      rcases hc with h0 | ⟨g, o, ea, hg, hcell⟩
      · rw [h0] at hj; simp at hj
      · obtain rfl := Option.some.inj ea
        exact ChAt.flat (fun i x hx => by
          obtain ⟨x0, x1, x2⟩ := hcell i x hx
          exact ⟨(hq1.cell hg (by simp)).trans x0, (hq1.cell hg (by simp)).trans x1, (hq1.cell hg (by simp)).trans x2⟩) j v hj
    have hmin : Nat.min cs.length (cs.length + 1) = cs.length := Nat.min_eq_left (by omega)
    have hcp : ∀ ty, _ := fun ty => run_copy3 (P := Tryz.prog) w1 46 46 ty 66 W.heap.size (cs.length + 1) (cs.length + 1) a cs.length lc _ _ (cs.flatMap chgCells) Tryz.underlying46 hinfo hg1 (by rw [hmin, chgCells_length]) hsrc (by rw [size_madeCells, chgCells_length]; omega) (chgCells_one cs)
    rw [hmin] at hcp
    have hk : Quiet W (w1.setRow W.heap.size (cs.flatMap chgCells ++ (madeCells #[.string ⟨#[]⟩, .string ⟨#[]⟩, .bool false] ((cs.length + 1) * 3)).toList.drop (cs.flatMap chgCells).length).toArray) :=
      ⟨hq1.os, hq1.tape, hq1.output, by rw [setRow_size]; exact hq1.size, fun b hb hn => (setRow_other w1 W.heap.size b _ (by omega)).trans (hq1.block b hb hn)⟩
    refine ⟨w1, _, hmk, hq1, hcp, hk, key _ _ (setRow_heap w1 W.heap.size _ _ _ _ hg1) ?_⟩
    rw [chgCells_length, htail, hflat]

end Go.Proofs.YthfimgeopciiiaaGreat

/-
  The law's writes: what is kept behind them.
-/
namespace Go.Proofs.YthfimgeopciiiaaGreat
open Go.MapKept Go.ChangeMaps Go.Maps Go.RowKit Go.MuLone
set_option linter.unusedVariables false

theorem ChAt.of_row {w : World} {base : Nat} {v : Value} {l : List Chg} (h : ChRow w base v l) (hl : l.length ≤ 4611686018427387904) : ChAt w v l := by
  obtain ⟨a, cap, e, hc⟩ := row_at chgCells chgCells_len h
  refine ⟨⟨a, cap, e, ?_⟩, hl⟩
  rcases hc with h0 | ⟨g, ea, -, -, hg, -, hcell⟩
  · exact .inl h0
  · exact .inr ⟨g, 0, ea, hg, fun i x hx => ⟨by rw [Nat.zero_add]; exact hcell i x hx 0 (by omega), by rw [Nat.zero_add]; exact hcell i x hx 1 (by omega), by rw [Nat.zero_add]; exact hcell i x hx 2 (by omega)⟩⟩

/-- all but the last -/
theorem ChAt.of_row_cut {w : World} {base g : Nat} {cs : List Chg} (h : ChRow w base (.slice (some ⟨g, 0, none⟩) (cs.length + 1) (cs.length + 1)) (cs ++ [zeroC])) (hl : cs.length ≤ 1048576) : ChAt w (.slice (some ⟨g, 0, none⟩) cs.length (cs.length + 1)) cs := by
  obtain ⟨a, cap, e, hc⟩ := row_at chgCells chgCells_len h
  refine ⟨⟨_, _, rfl, ?_⟩, by omega⟩
  rcases hc with h0 | ⟨g', ea, -, -, hg, -, hcell⟩
  · simp at h0
  · obtain rfl : g = g' := by
      have := (Value.slice.inj e).1
      rw [ea] at this
      simpa using this
    refine .inr ⟨g, 0, rfl, hg, fun i x hx => ?_⟩
    have hx' : (cs ++ [zeroC])[i]? = some x := by rw [List.getElem?_append_left (List.getElem?_eq_some_iff.1 hx).1]; exact hx
    exact ⟨by rw [Nat.zero_add]; exact hcell i x hx' 0 (by omega), by rw [Nat.zero_add]; exact hcell i x hx' 1 (by omega), by rw [Nat.zero_add]; exact hcell i x hx' 2 (by omega)⟩

section
variable {w W W' : World} {s s' : Sto} {m m' : MRef} {M M' : MW} {sd N : Nat}

theorem Two.turnW (T : Two w W s m M sd) {S : Nat → Prop} (hi : WIn W' w.heap.size M') (hk : Keeps (fun b => M.has b ∨ S b) W W') (hf : ∀ b, M'.has b → M.has b ∨ S b ∨ W.heap.size ≤ b) (hsv : M'.sv = M.sv)
    (hv : ∀ b, S b → w.heap.size ≤ b ∧ b ∉ s.foot ∧ ¬ m.has b ∧ b ≠ sd ∧ M.sv.ownBlock ≠ some b) : Two w W' s m M' sd := by
  have hsd := lt_of_heap T.sd_at
  refine ⟨Quiet.of_new T.quiet hk (fun b hb => ?_), T.st.kept hk (fun b hb h => ?_), T.mu, T.low, T.rf.kept hk (fun b hb h => ?_), hi, (hk.block sd hsd (fun h => ?_)).trans T.sd_at, T.sd_low, T.a1, fun b hb hM => ?_, fun b hm hM => ?_, T.a4, T.a5, fun hM => ?_, fun g h => ?_⟩
  · rcases hb with h | h
    · exact (T.wo.lt h).1
    · exact (hv b h).1
  · rcases h with h | h
    · exact T.a2 b hb h
    · exact (hv b h).2.1 hb
  · rcases h with h | h
    · exact T.a3 b hb h
    · exact (hv b h).2.2.1 hb
  · rcases h with h | h
    · exact T.a6 h
    · exact (hv sd h).2.2.2.1 rfl
  · rcases hf b hM with h | h | h
    · exact T.a2 b hb h
    · exact (hv b h).2.1 hb
    · have := T.st.lt b hb; omega
  · rcases hf b hM with h | h | h
    · exact T.a3 b hm h
    · exact (hv b h).2.2.1 hm
    · have := (T.rf.lt hm).2; omega
  · rcases hf sd hM with h | h | h
    · exact T.a6 h
    · exact (hv sd h).2.2.2.1 rfl
    · omega
  · rw [hsv] at h
    obtain ⟨h1, h2, h3, h4, h5⟩ := T.sv_at g h
    refine ⟨Nat.lt_of_lt_of_le h1 hk.size, (hk.cell h1 (fun hx => ?_)).trans h2, h3, h4, fun hM => ?_⟩
    · rcases hx with hx | hx
      · exact h5 hx
      · exact (hv g hx).2.2.2.2 h
    · rcases hf g hM with hx | hx | hx
      · exact h5 hx
      · exact (hv g hx).2.2.2.2 h
      · omega

/-- behind both Writes: the list stands as it was handed in -/
structure Written (w W4 : World) (s : Sto) (m : MRef) (M : MW) (sd N g : Nat) (cs : List Chg) : Prop where
  two : ∃ s' m', Two w W4 s' m' M sd ∧ s'.sb = s.sb ∧ m'.sb = m.sb ∧ Lg s' m' M (N + 1) ∧ g ∉ s'.foot ∧ ¬ m'.has g
  chs : M.chs.length ≤ N
  row : ChRow W4 w.heap.size (.slice (some ⟨g, 0, none⟩) (cs.length + 1) (cs.length + 1)) (cs ++ [zeroC])
  low : w.heap.size ≤ g
  nM : ¬ M.has g
  nsd : g ≠ sd
  nsv : M.sv.ownBlock ≠ some g

theorem write_two (T : Two w W s m M sd) (L : Lg s m M N) (hN : N + 1 ≤ 2097152) (h : Int) (hw : (Lit.int .i64 h).wf = true) {g lc : Nat} {la : Option Addr} {cs : List Chg} (hu : ChAt w (.slice la cs.length lc) cs) (hcl : cs.length ≤ 1048576)
    (hR : ChRow W w.heap.size (.slice (some ⟨g, 0, none⟩) (cs.length + 1) (cs.length + 1)) (cs ++ [zeroC])) (n1 : g ∉ s.foot) (n2 : ¬ m.has g) (n3 : ¬ M.has g) (n4 : g ≠ sd) (n5 : M.sv.ownBlock ≠ some g) :
    ∃ er, ∀ W1, Quiet W W1 → Calls Tryz.prog 27 #[.pointer (some ⟨s.sb, 0, none⟩), .int .i64 h, .slice (some ⟨g, 0, none⟩) cs.length (cs.length + 1)] W1 fun e W2 => e = .returned (.int .i64 er) ∧ W2.cell? ⟨sd, 0, none⟩ = some (.pointer (some ⟨s.sb, 0, none⟩)) ∧ W2.cell? ⟨sd, 1, none⟩ = some (.pointer (some ⟨m.sb, 0, none⟩)) ∧ Keeps (fun b => b ∈ s.foot) W1 W2 ∧
      ∀ W3, Quiet W2 W3 → Calls Tryz.prog 121 #[.pointer (some ⟨m.sb, 0, none⟩), .int .i64 h, .slice la cs.length lc] W3 fun e W4 => e = .returned (.int .i64 er) ∧ Keeps m.has W3 W4 ∧ Written w W4 s m M sd N g cs := by
  have hlt := hR.lt
  have hg := hlt g rfl
  obtain ⟨er, hX⟩ := both_write T L hN h hw (.slice (some ⟨g, 0, none⟩) cs.length (cs.length + 1)) (.slice la cs.length lc) cs (ChAt.of_row_cut hR hcl) hu (fun b hb => by
    have : g = b := by
      cases hcs : cs.length with
      | zero => rw [hcs] at hb; simp [heldBlock] at hb
      | succ n => rw [hcs] at hb; simpa [heldBlock] using hb
    rw [← this]; exact n1) hcl
  refine ⟨er, fun W1 q1 => (hX W1 q1).mono fun e W2 ⟨e1, s', T2, esb, hk, hfs, hY⟩ => ?_⟩
  obtain ⟨d0, d1, -⟩ := T2.side
  rw [esb] at d0
  refine ⟨e1, d0, d1, hk, fun W3 q3 => (hY W3 q3).mono fun e W4 ⟨f1, m', T4, emb, hk4, hfm, L4⟩ => ⟨f1, hk4, ⟨s', m', T4, esb, emb, L4, fun hf => ?_, fun hm => ?_⟩, L.chs, ?_, hg.1, n3, n4, n5⟩⟩
  · rcases hfs g hf with h | h
    · exact n1 h
    · have := q1.size; omega
  · rcases hfm g hm with h | h
    · exact n2 h
    · have := q1.size; have := hk.size; have := q3.size; omega
  · have s1 := q1.size
    have s2 := hk.size
    have s3 := q3.size
    refine ownsRow_of_block hR (fun b e => ?_)
    obtain rfl : g = b := Option.some.inj e
    exact (hk4.block g (by omega) n2).trans ((q3.block g (by omega) id).trans ((hk.block g (by omega) n1).trans (q1.block g (by omega) id)))

theorem info_chs : (Tryz.prog.info? 46).map (fun i => (i.zero, i.size, i.bytes)) = some (some (.slice none 0 0), 1, 24) := by kernel_rfl

/-- the list, turned over, joins those kept -/
structure KeepC (w wr : World) (s : Sto) (m : MRef) (M : MW) (sd N g k : Nat) (ca : Option Addr) (cc : Nat) (a5 : Option Addr) (c5 : Nat) (W5 : World) : Prop where
  hw : M.wb < wr.heap.size
  x1 : wr.cell? ⟨M.wb, 7, none⟩ = some (.slice ca M.chs.length cc)
  e1 : (heldAppendR #[93, 93] 93 #[.slice ca M.chs.length cc, .slice (some ⟨wr.heap.size, 0, none⟩) 1 1]).run Tryz.prog (wr.alloc (.cells #[.slice (some ⟨g, 0, none⟩) k k] 46)) = .ok (.slice a5 (M.chs.length + 1) c5) W5
  y1 : W5.cell? ⟨M.wb, 7, none⟩ = some (.slice ca M.chs.length cc)
  f1 : W5.frozen? ⟨M.wb, 7, none⟩ = false
  fin : Stepped w (W5.setCell ⟨M.wb, 7, none⟩ (.slice a5 (M.chs.length + 1) c5)) s m M sd N

set_option maxRecDepth 100000 in
theorem Written.keep {W4 wr : World} {g k : Nat} {cs : List Chg} (R : Written w W4 s m M sd N g cs) (hN : N + 1 ≤ 2097152) (hk : Keeps (fun b => b = g) W4 wr) (hk1 : k = cs.length + 1) (hcl : cs.length ≤ 1048576) (hrow : ChRow wr w.heap.size (.slice (some ⟨g, 0, none⟩) k k) (List.replicate k turnC)) :
    ∃ ca cc a5 c5 W5, KeepC w wr s m M sd N g k ca cc a5 c5 W5 := by
  obtain ⟨s', m', T4, esb, emb, L4, n1, n2⟩ := R.two
  have hv : ∀ b, b = g → w.heap.size ≤ b ∧ b ∉ s'.foot ∧ ¬ m'.has b ∧ b ≠ sd ∧ M.sv.ownBlock ≠ some b := fun b e => by subst e; exact ⟨R.low, n1, n2, R.nsd, R.nsv⟩
  have hwo : WIn wr w.heap.size M := T4.wo.kept hk (fun b hb e => R.nM (e ▸ hb))
  have T : Two w wr s' m' M sd := T4.turnW hwo (hk.mono (S' := fun b => M.has b ∨ b = g) (fun b h => .inl (.inr h))) (fun b hb => .inl hb) rfl hv
  have hlt := hrow.lt
  obtain ⟨tag0, hW0⟩ := hwo
  have hW : WAt wr w.heap.size (fun b => if b = g then 4 else tag0 b) M := hW0.retag (fun b hb => by rw [if_neg (fun e : b = g => R.nM (e ▸ hb))])
  obtain ⟨ip, hip, hip0, hip1, hip2⟩ := info_parts info_chs
  have hch : wr.ownsRow w.heap.size 46 1 M.cv M.chs.length (M.chs.flatMap fun c => [c.1]) := by rw [flat_one]; exact hW.ch
  have hb0 : w.heap.size ≤ wr.heap.size := T.quiet.size
  have hcN := R.chs
  obtain ⟨a5, c5, W5, G⟩ := grow_rowQ (fun c : Value × Nat => [c.1]) (t := 93) (k := 1) (fun _ => rfl) (by omega) Tryz.underlying93 hip hip0 hip1 hip2 (by kernel_rfl) hch (Value.slice (some ⟨g, 0, none⟩) k k, k) (by simp [Value.oneCell']) hb0 (by omega) (by omega)
  obtain ⟨ca, cc, ecv, -⟩ := row1_at hW.ch
  have hx : ChAt wr (.slice (some ⟨g, 0, none⟩) k k) (List.replicate k (turnB, ⟨#[]⟩, true)) := ChAt.of_row hrow (by rw [List.length_replicate]; omega)
  have hone : ∀ b, (Value.slice (some ⟨g, 0, none⟩) k k).ownBlock = some b → b = g := fun b e => (Option.some.inj e).symm
  obtain ⟨hW1, k1, n3⟩ := hW.pushC (x := (Value.slice (some ⟨g, 0, none⟩) k k, k)) G.gr (by have := G.row; rw [flat_one] at this; exact this) (fun b hb => by rcases G.loc b hb with h | h; exact .inl h; exact .inr (Nat.le_of_lt h)) ⟨hx, by show k ≤ _; omega, fun b e => hlt b e⟩ (fun b e => if_pos (hone b e))
  have hwlt : M.wb < wr.heap.size := lt_of_heap hW.own
  have hwg : M.wb ≠ g := fun e => R.nM (.inl e.symm)
  have hblk5 : W5.heap[M.wb]? = wr.heap[M.wb]? := G.gr.block _ hwlt (fun e => by have h1 := hW.gc _ e; have h2 := hW.gw; omega)
  have own5 := hblk5.trans hW.own
  have ex : wr.cell? ⟨M.wb, 7, none⟩ = some (.slice ca M.chs.length cc) := by rw [← ecv, cell_of_heap hW.own]; rfl
  have app := G.app
  rw [ecv] at app
  refine ⟨ca, cc, a5, c5, W5, hwlt, ex, app, by rw [← ecv, cell_of_heap own5]; rfl, frozen_of_heap own5, ?_⟩
  refine ⟨s', m', _, T.turnW (S := fun b => b = g) ⟨_, hW1⟩ (k1.mono (S' := fun b => M.has b ∨ b = g) (fun b h => .inl (.inl h))) (fun b hb => ?_) rfl hv, esb, emb, rfl, rfl, ?_⟩
  · rcases n3 b hb with h | h | h
    · exact .inl h
    · exact .inr (.inl (hone b h))
    · exact .inr (.inr h)
  · exact ⟨L4.is, L4.inv, L4.bd, L4.n, L4.mks, L4.prs, by show (M.chs ++ [_]).length ≤ _; rw [List.length_append]; simp; omega, L4.last⟩

end
end Go.Proofs.YthfimgeopciiiaaGreat

/-
  The law's writes, walked.
-/
namespace Go.Proofs.YthfimgeopciiiaaGreat
open Go.MapKept Go.ChangeMaps Go.Maps Go.RowKit Go.MuLone
set_option linter.unusedVariables false

def heldCopy (ats : Array TypeId) (ty : TypeId) (args : Array Value) : Sem Value := Builtin.copy_ ats ty args
theorem copy_held (ats : Array TypeId) (ty : TypeId) (cs : Array Bool) (args : Array Value) : builtin .copy ats ty cs args = (do pure (.value (← heldCopy ats ty args))) := rfl
theorem copy_eqH (ats : Array TypeId) (ty : TypeId) (args : Array Value) : Builtin.copy_ ats ty args = heldCopy ats ty args := rfl
attribute [local go_sem ↓ high] append_heldR append_eqR copy_held copy_eqH

theorem turn_set {l : List Chg} {n : Nat} (hn : n < l.length) : (List.replicate n turnC ++ l.drop n).set n turnC = List.replicate (n + 1) turnC ++ l.drop (n + 1) := by
  have e1 : l.drop n = l[n] :: l.drop (n + 1) := List.drop_eq_getElem_cons hn
  rw [e1, List.set_append_right _ _ (by rw [List.length_replicate]; omega), List.length_replicate, Nat.sub_self, List.set_cons_zero, List.replicate_succ', List.append_assoc]
  rfl

theorem turn_at {l : List Chg} {n : Nat} {x : Chg} (hx : l[n]? = some x) : (List.replicate n turnC ++ l.drop n)[n]? = some x := by
  rw [List.getElem?_append_right (by rw [List.length_replicate]; omega), List.length_replicate, Nat.sub_self, List.getElem?_drop, Nat.add_zero]
  exact hx

/-- what a round of the loop needs -/
structure TurnAt (W4 wr : World) (base g k n : Nat) (cs : List Chg) (x : Chg) : Prop where
  lt : g < wr.heap.size
  c0 : ∀ WX, Quiet wr WX → g < WX.heap.size ∧ WX.cell? ⟨g, k * 3, none⟩ = some (.string x.1) ∧ WX.cell? ⟨g, k * 3 + 1, none⟩ = some (.string x.2.1) ∧ WX.cell? ⟨g, k * 3 + 2, none⟩ = some (.bool x.2.2) ∧ WX.frozen? ⟨g, k * 3, none⟩ = false ∧ WX.frozen? ⟨g, k * 3 + 1, none⟩ = false ∧ WX.frozen? ⟨g, k * 3 + 2, none⟩ = false
  next : ∀ WX, Quiet wr WX → Keeps (fun b => b = g) W4 (((WX.setCell ⟨g, k * 3, none⟩ (.string ⟨#[116, 117, 114, 110]⟩)).setCell ⟨g, k * 3 + 1, none⟩ (.string ⟨#[]⟩)).setCell ⟨g, k * 3 + 2, none⟩ (.bool true)) ∧ ChRow (((WX.setCell ⟨g, k * 3, none⟩ (.string ⟨#[116, 117, 114, 110]⟩)).setCell ⟨g, k * 3 + 1, none⟩ (.string ⟨#[]⟩)).setCell ⟨g, k * 3 + 2, none⟩ (.bool true)) base (.slice (some ⟨g, 0, none⟩) (n + 1) (n + 1)) (List.replicate (k + 1) turnC ++ (cs ++ [zeroC]).drop (k + 1))

theorem turnAt {W4 wr : World} {base g k : Nat} {cs : List Chg} (hk : Keeps (fun b => b = g) W4 wr) (hr : ChRow wr base (.slice (some ⟨g, 0, none⟩) (cs.length + 1) (cs.length + 1)) (List.replicate k turnC ++ (cs ++ [zeroC]).drop k)) (hg4 : g < W4.heap.size) {x : Chg} (hx : (cs ++ [zeroC])[k]? = some x) : TurnAt W4 wr base g k cs.length cs x := by
  have hkl : k < (cs ++ [zeroC]).length := (List.getElem?_eq_some_iff.1 hx).1
  have hlt := (hr.lt g rfl).2
  have hat := turn_at hx
  have quiet : ∀ WX, Quiet wr WX → ChRow WX base (.slice (some ⟨g, 0, none⟩) (cs.length + 1) (cs.length + 1)) (List.replicate k turnC ++ (cs ++ [zeroC]).drop k) := fun WX q => ownsRow_of_block hr (fun b e => by
    obtain rfl : g = b := Option.some.inj e
    exact q.block g hlt id)
  refine ⟨hlt, fun WX q => ?_, fun WX q => ⟨?_, ?_⟩⟩
  · obtain ⟨a, cap, e, hc⟩ := row_at chgCells chgCells_len (quiet WX q)
    rcases hc with h0 | ⟨g', ea, -, -, hg, hf, hcell⟩
    · rw [h0] at hat; simp at hat
    · obtain rfl : g = g' := by
        have := (Value.slice.inj e).1
        rw [ea] at this
        simpa using this
      exact ⟨hg, hcell k x hat 0 (by omega), hcell k x hat 1 (by omega), hcell k x hat 2 (by omega), hf _, hf _, hf _⟩
  · exact (((hk.trans (q.mono (S' := fun b => b = g) (fun _ h => h.elim)) (fun _ h => .inl h)).trans (Keeps.setCell (S := fun b => b = g) _ _ _ rfl) (fun _ h => .inl h)).trans (Keeps.setCell (S := fun b => b = g) _ _ _ rfl) (fun _ h => .inl h)).trans (Keeps.setCell (S := fun b => b = g) _ _ _ rfl) (fun _ h => .inl h)
  · have := ChRow.set (quiet WX q) hat rfl turnC
    rw [turn_set hkl] at this
    exact this

set_option maxRecDepth 100000 in
set_option maxHeartbeats 8000000 in
theorem writes_h {w W : World} {s : Sto} {m : MRef} {M : MW} {sd N : Nat} (T : Two w W s m M sd) (L : Lg s m M N) (hN : N + 1 ≤ 2097152) (o : OpV) (cs : List Chg) (hw : (Lit.int .i64 o.h).wf = true) (hch : ChAt w (.slice o.la o.ll o.lc) cs) (hcl : cs.length ≤ 1048576) :
    Calls Tryz.prog 71 #[.pointer (some ⟨M.wb, 0, none⟩), .pointer (some ⟨sd, 0, none⟩), .agg o.cells] W fun e W' => e = .returned (.bool true) ∧ Stepped w W' s m M sd N := by
  obtain ⟨ki, h, key, hi, la, ll, lc, pa, pl, pc, ta, tl, tc, wh⟩ := o
  simp only at hw hch
  obtain rfl : ll = cs.length := by
    obtain ⟨⟨a, cap, e, -⟩, -⟩ := id hch
    exact (Value.slice.inj e).2.1
  unfold OpV.cells
  simp only
  have hqb : Quiet W (W.alloc (.cells #[.int .i64 ki, .int .i64 h, .string key, .string hi, .slice la cs.length lc, .slice pa pl pc, .slice ta tl tc, .bool wh] 106)) := Keeps.alloc _ _
  have hbb : (W.alloc (.cells #[.int .i64 ki, .int .i64 h, .string key, .string hi, .slice la cs.length lc, .slice pa pl pc, .slice ta tl tc, .bool wh] 106)).heap[W.heap.size]? = some (.cells #[.int .i64 ki, .int .i64 h, .string key, .string hi, .slice la cs.length lc, .slice pa pl pc, .slice ta tl tc, .bool wh] 106) := heap_alloc_new _ _
  have hgs : (W.alloc (.cells #[.int .i64 ki, .int .i64 h, .string key, .string hi, .slice la cs.length lc, .slice pa pl pc, .slice ta tl tc, .bool wh] 106)).heap.size = W.heap.size + 1 := by simp
  obtain ⟨w1, w2, hmk, q1, hcp, q2, hrow⟩ := dup_run (hch.quiet (Quiet.trans' T.quiet hqb)) hcl
  rw [hgs] at hmk hcp hrow
  have hq2 := Quiet.trans' hqb q2
  have T2 := T.still hq2
  have hfl := T.foot_lt
  have hml : ∀ b, m.has b → b < W.heap.size := fun b hb => (T.rf.lt hb).2
  have s0 := T.quiet.size
  obtain ⟨er, hX⟩ := write_two T2 L hN h hw hch hcl (ownsRow_low hrow (by omega)) (fun hf => by have := hfl _ hf; omega) (fun hf => by have := hml _ hf; omega) (fun hf => by have := (T.wo.lt hf).2; omega) (by have := lt_of_heap T.sd_at; omega) (fun e => by have := (T.sv_at _ e).1; omega)
  have hb1 := (q1.block _ (lt_of_heap hbb) id).trans hbb
  have hb2 := (q2.block _ (lt_of_heap hbb) id).trans hbb
  have b1 : w1.cell? ⟨W.heap.size, 4, none⟩ = some (.slice la cs.length lc) := by rw [cell_of_heap hb1]; rfl
  have c1 : w2.cell? ⟨W.heap.size, 1, none⟩ = some (.int .i64 h) := by rw [cell_of_heap hb2]; rfl
  obtain ⟨d0, -, -⟩ := T2.side
  obtain ⟨-, -, hsd⟩ := T.side
  have hwz : w.heap.size ≤ W.heap.size := T.quiet.size
  have HX : Hid (∀ W1, Quiet w2 W1 → Calls Tryz.prog 27 #[.pointer (some ⟨s.sb, 0, none⟩), .int .i64 h, .slice (some ⟨W.heap.size + 1, 0, none⟩) cs.length (cs.length + 1)] W1 fun e W2 => e = .returned (.int .i64 er) ∧ W2.cell? ⟨sd, 0, none⟩ = some (.pointer (some ⟨s.sb, 0, none⟩)) ∧ W2.cell? ⟨sd, 1, none⟩ = some (.pointer (some ⟨m.sb, 0, none⟩)) ∧ W2.cell? ⟨W.heap.size, 1, none⟩ = some (.int .i64 h) ∧ W2.cell? ⟨W.heap.size, 4, none⟩ = some (.slice la cs.length lc) ∧
      Hid (∀ W3, Quiet W2 W3 → Calls Tryz.prog 121 #[.pointer (some ⟨m.sb, 0, none⟩), .int .i64 h, .slice la cs.length lc] W3 fun e W4 => e = .returned (.int .i64 er) ∧ W4.cell? ⟨sd, 1, none⟩ = some (.pointer (some ⟨m.sb, 0, none⟩)) ∧ W4.cell? ⟨W.heap.size, 1, none⟩ = some (.int .i64 h) ∧ W4.cell? ⟨W.heap.size, 4, none⟩ = some (.slice la cs.length lc) ∧ Hid (Written w W4 s m M sd N (W.heap.size + 1) cs) ∧
        Hid (∀ wr, Keeps (fun b => b = W.heap.size + 1) W4 wr → W.heap.size < wr.heap.size ∧ wr.cell? ⟨W.heap.size, 4, none⟩ = some (.slice la cs.length lc) ∧ ∀ (i : Nat) (x : Chg), cs[i]? = some x → ∃ gc o, la = some ⟨gc, o, none⟩ ∧ gc < wr.heap.size ∧ wr.cell? ⟨gc, o + i * 3, none⟩ = some (.string x.1) ∧ wr.cell? ⟨gc, o + i * 3 + 1, none⟩ = some (.string x.2.1) ∧ wr.cell? ⟨gc, o + i * 3 + 2, none⟩ = some (.bool x.2.2)))) := fun W1 q => by
    have hbl := (q.block _ (lt_of_heap hb2) id).trans hb2
    refine (hX W1 q).mono fun e W2 ⟨e1, g0, g1, hk, hY⟩ => ?_
    have hb3 := (hk.block W.heap.size (lt_of_heap hbl) (fun hf => by have := hfl _ hf; omega)).trans hbl
    refine ⟨e1, g0, g1, by rw [cell_of_heap hb3]; rfl, by rw [cell_of_heap hb3]; rfl, fun W3 q3 => ?_⟩
    have hb4 := (q3.block _ (lt_of_heap hb3) id).trans hb3
    refine (hY W3 q3).mono fun e W4 ⟨f1, hk4, hS⟩ => ?_
    have hb5 := (hk4.block W.heap.size (lt_of_heap hb4) (fun hf => by have := hml _ hf; omega)).trans hb4
    have hsd3 : sd < W3.heap.size := by have := lt_of_heap hb4; omega
    have hsd2 : sd < W2.heap.size := by have := lt_of_heap hb3; omega
    refine ⟨f1, (hk4.cell hsd3 T.a5).trans ((q3.cell hsd2 (by simp)).trans g1), by rw [cell_of_heap hb5]; rfl, by rw [cell_of_heap hb5]; rfl, hS, fun wr kr => ?_⟩
    have hbr := (kr.block W.heap.size (lt_of_heap hb5) (by omega)).trans hb5
    refine ⟨lt_of_heap hbr, by rw [cell_of_heap hbr]; rfl, fun i x hx => ?_⟩
    obtain ⟨s', m', T4, -⟩ := hS.two
    obtain ⟨⟨a, cap, e, hc⟩, -⟩ := hch
    obtain rfl : la = a := (Value.slice.inj e).1
    rcases hc with h0 | ⟨gc, o, ea, hg, hcell⟩
    · rw [h0] at hx; simp at hx
    · obtain ⟨x0, x1, x2⟩ := hcell i x hx
      have hg4 := Nat.lt_of_lt_of_le hg T4.quiet.size
      have hc4 : ∀ j, wr.cell? ⟨gc, j, none⟩ = w.cell? ⟨gc, j, none⟩ := fun j => (kr.cell hg4 (show ¬ gc = _ by omega)).trans (T4.quiet.cell hg (by simp))
      exact ⟨gc, o, ea, Nat.lt_of_lt_of_le hg4 kr.size, (hc4 _).trans x0, (hc4 _).trans x1, (hc4 _).trans x2⟩
  have hcpH : ∀ ty, (heldCopy #[46, 46] ty #[.slice (some ⟨W.heap.size + 1, 0, none⟩) (cs.length + 1) (cs.length + 1), .slice la cs.length lc]).run Tryz.prog w1 = .ok (goInt cs.length) w2 := hcp
  clear T L T2 hX hbb hqb hfl hml hw hch hb1 hb2 hcp hrow q1 q2 hq2 s0 hgs
  go_enter Tryz.func71, Tryz.ntmps71
  go_wp2
  clear hmk hcpH b1
  have hsl0 : (0 : Int) ≤ (cs.length : Int) := by omega
  have hsl1 : (cs.length : Int) ≤ (cs.length : Int) + 1 := by omega
  go_region_held3 (fun w' => w'.cell? ⟨sd, 0, none⟩ = some (.pointer (some ⟨s.sb, 0, none⟩)) ∧ w'.cell? ⟨W.heap.size, 1, none⟩ = some (.int .i64 h)) (go_keep)
    (first | (go_at_call 27; refine (HX.out _ (by repeat (first | assumption | exact Keeps.refl _ _ | refine Quiet.trans' ?_ (Keeps.drew _)))).mono ?_; rintro e W2 ⟨rfl, g0, g1, g2, g3, HY⟩))
  clear HX d0 c1
  go_wp2
  go_region_held3 (fun w' => w'.cell? ⟨sd, 1, none⟩ = some (.pointer (some ⟨m.sb, 0, none⟩)) ∧ w'.cell? ⟨W.heap.size, 1, none⟩ = some (.int .i64 h) ∧ w'.cell? ⟨W.heap.size, 4, none⟩ = some (.slice la cs.length lc)) (go_keep)
    (first | (go_at_call 121; refine (HY.out _ (by repeat (first | assumption | exact Keeps.refl _ _ | refine Quiet.trans' ?_ (Keeps.drew _)))).mono ?_; rintro e W4 ⟨rfl, f1, f2, f3, HW, HV⟩))
  clear HY g0 g1 g2 g3 f1 f2 f3
  go_wp2
  generalize hG : W.heap.size + 1 = G at *
  have hwG : W.heap.size ≠ G := by omega
  have hR4 := HW.out.row
  have hg4 := (hR4.lt G rfl).2
  have HR0 := hidC' hR4
  clear hR4
  go_loopw [11] (fun i wr => ∃ k : Nat, i = .int .i64 k ∧ k ≤ cs.length + 1 ∧ Keeps (fun b => b = G) W4 wr ∧ Hid (ChRow wr w.heap.size (.slice (some ⟨G, 0, none⟩) (cs.length + 1) (cs.length + 1)) (List.replicate k turnC ++ (cs ++ [zeroC]).drop k))) (fun i _ => cs.length + 1 - (intOf i).toNat)
  case atStart => exact ⟨0, rfl, Nat.zero_le _, Keeps.refl _ _, HR0⟩
  case round =>
    obtain ⟨k, rfl, hk, hkp, HR⟩ := hrel
    obtain ⟨hbx, v4, hel⟩ := HV.out wr hkp
    have hbx' := Nat.ne_of_lt hbx
    by_cases hle : k ≤ cs.length
    · have hle' : (k : Int) ≤ (cs.length : Int) := by omega
      obtain ⟨x, hx⟩ : ∃ x, (cs ++ [zeroC])[k]? = some x := ⟨_, List.getElem?_eq_getElem (by simp; omega)⟩
      have HT := hidC' (turnAt hkp HR.out hg4 hx)
      by_cases hlt : k < cs.length
      · have hlt' : (k : Int) < (cs.length : Int) := by omega
        have hx' : cs[k]? = some x := by rw [List.getElem?_append_left hlt] at hx; exact hx
        obtain ⟨gc, oo, rfl, hgc, y0, y1, y2⟩ := hel k x hx'
        have hgc' := Nat.ne_of_lt hgc
        have hk1 : (k : Int) < (cs.length : Int) + 1 := by omega
        have hqx : Quiet wr (wr.alloc (.cells #[.string x.1, .string x.2.1, .bool x.2.2] 66)) := Keeps.alloc _ _
        have hbx2 : (wr.alloc (.cells #[.string x.1, .string x.2.1, .bool x.2.2] 66)).heap[wr.heap.size]? = some (.cells #[.string x.1, .string x.2.1, .bool x.2.2] 66) := heap_alloc_new _ _
        have HQ := hidC' (And.intro hqx hbx2)
        clear hel HV HW HR HR0 hx hx' hkp hqx hbx2
        go_wp2
        obtain ⟨hqx, hbx2⟩ := HQ.out
        clear HQ y0 y1 y2 v4
        generalize wr.alloc (.cells #[.string x.1, .string x.2.1, .bool x.2.2] 66) = WX at *
        have z0 : WX.cell? ⟨wr.heap.size, 0, none⟩ = some (.string x.1) := by rw [cell_of_heap hbx2]; rfl
        have z1 : WX.cell? ⟨wr.heap.size, 1, none⟩ = some (.string x.2.1) := by rw [cell_of_heap hbx2]; rfl
        have z2 : WX.cell? ⟨wr.heap.size, 2, none⟩ = some (.bool x.2.2) := by rw [cell_of_heap hbx2]; rfl
        obtain ⟨t, t0, t1, t2, -, -, -⟩ := HT.out.c0 _ hqx
        clear hbx2
        go_quiet (fail)
        have hqy := Quiet.trans' hqx (quiet_drewN WX nq)
        obtain ⟨-, p0, p1, p2, p3, p4, p5⟩ := HT.out.c0 _ hqy
        have HN := hidC' (HT.out.next _ hqy)
        clear hqy hqx z0 z1 z2 t t0 t1 t2 HT
        generalize WX.drewN nq = WY at *
        go_wp2
        exact ⟨⟨k + 1, by go_num, by omega, HN.out.1, HN.out.2⟩, by simp [intOf]; omega⟩
      · have hge : ¬ (k : Int) < (cs.length : Int) := by omega
        have hke : k = cs.length := by omega
        have hx0 : x = (⟨#[]⟩, ⟨#[]⟩, false) := by
          rw [hke, List.getElem?_append_right (Nat.le_refl _), Nat.sub_self] at hx
          exact (Option.some.inj hx).symm
        subst hx0
        have hk1 : (k : Int) < (cs.length : Int) + 1 := by omega
        have hqx : Quiet wr (wr.alloc (.cells #[.string ⟨#[]⟩, .string ⟨#[]⟩, .bool false] 66)) := Keeps.alloc _ _
        have hbx2 : (wr.alloc (.cells #[.string ⟨#[]⟩, .string ⟨#[]⟩, .bool false] 66)).heap[wr.heap.size]? = some (.cells #[.string ⟨#[]⟩, .string ⟨#[]⟩, .bool false] 66) := heap_alloc_new _ _
        have HQ := hidC' (And.intro hqx hbx2)
        clear hel HV HW HR HR0 hx hkp hqx hbx2 hke
        go_wp2
        obtain ⟨hqx, hbx2⟩ := HQ.out
        clear HQ v4
        generalize wr.alloc (.cells #[.string ⟨#[]⟩, .string ⟨#[]⟩, .bool false] 66) = WX at *
        have z0 : WX.cell? ⟨wr.heap.size, 0, none⟩ = some (.string ⟨#[]⟩) := by rw [cell_of_heap hbx2]; rfl
        have z1 : WX.cell? ⟨wr.heap.size, 1, none⟩ = some (.string ⟨#[]⟩) := by rw [cell_of_heap hbx2]; rfl
        have z2 : WX.cell? ⟨wr.heap.size, 2, none⟩ = some (.bool false) := by rw [cell_of_heap hbx2]; rfl
        obtain ⟨t, t0, t1, t2, -, -, -⟩ := HT.out.c0 _ hqx
        dsimp only at t0 t1 t2
        clear hbx2
        go_quiet (fail)
        have hqy := Quiet.trans' hqx (quiet_drewN WX nq)
        obtain ⟨-, p0, p1, p2, p3, p4, p5⟩ := HT.out.c0 _ hqy
        dsimp only at p0 p1 p2
        have HN := hidC' (HT.out.next _ hqy)
        clear hqy hqx z0 z1 z2 t t0 t1 t2 HT
        generalize WX.drewN nq = WY at *
        go_wp2
        exact ⟨⟨k + 1, by go_num, by omega, HN.out.1, HN.out.2⟩, by simp [intOf]; omega⟩
    · have hgt : ¬ (k : Int) ≤ (cs.length : Int) := by omega
      have hke : k = cs.length + 1 := by omega
      have hrow : ChRow wr w.heap.size (.slice (some ⟨G, 0, none⟩) k k) (List.replicate k turnC) := by
        have := HR.out
        rw [List.drop_of_length_le (by simp; omega), List.append_nil, ← hke] at this
        exact this
      obtain ⟨ca, cc, a5, c5, W5, K⟩ := HW.out.keep hN hkp hke hcl hrow
      have hw1 := K.hw
      have hw1' := Nat.ne_of_lt hw1
      have x1 := K.x1
      have e1 := K.e1
      have y1 := K.y1
      have z1 := K.f1
      have HF := hidC' K.fin
      rw [hke] at e1
      clear K hrow HR HR0 HW HV hel
      go_wp2
      go_ret
      exact ⟨rfl, HF.out⟩

end Go.Proofs.YthfimgeopciiiaaGreat
