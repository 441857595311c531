/-
  The document's own store: merged.
-/
import Derived.Test.YthfimgeopciiiaaGreatPlayD
import Derived.Laws.AppendOwnNone
import Derived.Test.YthfimgeopciiiaaGreatPlayG
namespace Go.Proofs.YthfimgeopciiiaaGreat
open Go.MapKept Go.ChangeMaps Go.Maps Go.RowKit Go.MuLone
set_option linter.unusedVariables false

theorem info_chg : (Tryz.prog.info? 66).map (fun i => (i.zero, i.size, i.bytes)) = some (some (.agg #[.string ⟨#[]⟩, .string ⟨#[]⟩, .bool false]), 3, 40) := by kernel_rfl

abbrev ChRow (w : World) (base : Nat) (v : Value) (l : List (ByteArray × Cont)) : Prop := w.ownsRow base 66 3 v l.length (l.flatMap chgCells)

theorem ChRow.snoc {w : World} {base : Nat} {v : Value} {l : List (ByteArray × Cont)} {p : ByteArray × Cont} (h : w.ownsRow base 66 3 v (l.length + 1) (l.flatMap chgCells ++ [.string p.1, .string p.2.1, .bool p.2.2])) : ChRow w base v (l ++ [p]) := by
  unfold ChRow
  rw [List.length_append, List.flatMap_append]
  exact h

theorem chgCells_one (l : List (ByteArray × Cont)) : ∀ u ∈ l.flatMap chgCells, u.oneCell' = true := fun u hu => by
  obtain ⟨x, _, hx⟩ := List.mem_flatMap.1 hu
  simp only [chgCells, List.mem_cons, List.not_mem_nil, or_false] at hx
  rcases hx with rfl | rfl | rfl <;> rfl

theorem chgCells_length (l : List (ByteArray × Cont)) : (l.flatMap chgCells).length = l.length * 3 := by
  induction l with
  | nil => rfl
  | cons x r ih => simp [List.flatMap_cons, ih, chgCells]; omega

/-- one of a row turns -/
theorem ChRow.set {w : World} {base : Nat} {v : Value} {l : List (ByteArray × Cont)} (h : ChRow w base v l) {j g : Nat} {p : ByteArray × Cont} (hp : l[j]? = some p) (hg : v.ownBlock = some g) (q : ByteArray × Cont) :
    ChRow (((w.setCell ⟨g, j * 3, none⟩ (.string q.1)).setCell ⟨g, j * 3 + 1, none⟩ (.string q.2.1)).setCell ⟨g, j * 3 + 2, none⟩ (.bool q.2.2)) base v (l.set j q) := by
  have hj : j < l.length := (List.getElem?_eq_some_iff.1 hp).1
  have h1 := ownsRow_set h hg (j * 3 + 0) (.string q.1)
  rw [← flat_set chgCells 3 chgCells_len l j 0 p (q.1, p.2) _ hp (by omega) rfl] at h1
  have h2 := ownsRow_set h1 hg (j * 3 + 1) (.string q.2.1)
  rw [← flat_set chgCells 3 chgCells_len (l.set j (q.1, p.2)) j 1 (q.1, p.2) (q.1, q.2.1, p.2.2) _ (by rw [List.getElem?_set, if_pos rfl, if_pos hj]) (by omega) rfl, List.set_set] at h2
  have h3 := ownsRow_set h2 hg (j * 3 + 2) (.bool q.2.2)
  rw [← flat_set chgCells 3 chgCells_len (l.set j (q.1, q.2.1, p.2.2)) j 2 (q.1, q.2.1, p.2.2) q _ (by rw [List.getElem?_set, if_pos rfl, if_pos hj]) (by omega) rfl, List.set_set] at h3
  unfold ChRow
  rw [List.length_set]
  exact h3

theorem put_set {α β : Type} [DecidableEq α] : ∀ {l : List (α × β)} {j : Nat} {p : α × β} (x : α) (v : β), (l.map (·.1)).Nodup → l[j]? = some p → p.1 = x → put l x v = l.set j (x, v)
  | [], j, p, x, v, _, h, _ => by simp at h
  | q :: r, 0, p, x, v, hn, h, e => by
    simp at h; subst h
    unfold put
    rw [if_pos e, List.set_cons_zero]
  | q :: r, j + 1, p, x, v, hn, h, e => by
    have hn' := List.nodup_cons.1 hn
    have h' : r[j]? = some p := by simpa using h
    unfold put
    rw [if_neg, List.set_cons_succ, put_set x v hn'.2 h' e]
    intro eq
    exact hn'.1 (by show q.1 ∈ _; rw [eq, ← e]; exact List.mem_map.2 ⟨p, List.mem_of_getElem? h', rfl⟩)

/-- the place of a key, as the loop finds it -/
def AtI (J : List (ByteArray × Cont)) (key : ByteArray) (q : Nat) (A : Int) : Prop := (A = -1 ∧ ∀ (z : Nat) p, z < q → J[z]? = some p → p.1 ≠ key) ∨ ∃ (z : Nat) (p : ByteArray × Cont), A = z ∧ z < q ∧ J[z]? = some p ∧ p.1 = key

theorem AtI.next {J : List (ByteArray × Cont)} {key : ByteArray} {q : Nat} {A : Int} (h : AtI J key q A) {p : ByteArray × Cont} (hp : J[q]? = some p) : (p.1 = key → AtI J key (q + 1) q) ∧ (p.1 ≠ key → AtI J key (q + 1) A) := by
  refine ⟨fun e => .inr ⟨q, p, rfl, by omega, hp, e⟩, fun e => ?_⟩
  rcases h with ⟨h1, h2⟩ | ⟨z, p', h1, h2, h3, h4⟩
  · refine .inl ⟨h1, fun z p' hz hp' => ?_⟩
    by_cases ez : z = q
    · subst ez; rw [hp] at hp'; obtain rfl := Option.some.inj hp'; exact e
    · exact h2 z p' (by omega) hp'
  · exact .inr ⟨z, p', h1, by omega, h3, h4⟩

theorem AtI.fin {J : List (ByteArray × Cont)} {key : ByteArray} {A : Int} (h : AtI J key J.length A) (v : Cont) (hn : (J.map (·.1)).Nodup) : (A = -1 ∧ put J key v = J ++ [(key, v)]) ∨ ∃ (z : Nat) (p : ByteArray × Cont), A = z ∧ z < J.length ∧ J[z]? = some p ∧ put J key v = J.set z (key, v) := by
  rcases h with ⟨h1, h2⟩ | ⟨z, p, h1, h2, h3, h4⟩
  · refine .inl ⟨h1, put_ahead ?_⟩
    cases hl : look J key with
    | none => rfl
    | some c =>
      obtain ⟨z, hz⟩ := List.getElem?_of_mem (lookup_mem hl)
      exact absurd rfl (h2 z _ (List.getElem?_eq_some_iff.1 hz).1 hz)
  · exact .inr ⟨z, p, h1, h2, h3, put_set key v hn h3 h4⟩

theorem joinW_len_le : ∀ (cs : List Chg) (l : List (ByteArray × Cont)), (joinW l cs).length ≤ l.length + cs.length
  | [], l => by simp [joinW]
  | c :: r, l => by
    have h1 := joinW_len_le r (put l c.1 (contOf c))
    have h2 := put_len_le l c.1 (contOf c)
    show (joinW (put l c.1 (contOf c)) r).length ≤ _
    simp only [List.length_cons]
    omega

theorem cell_threeNew (w : World) (x y z : Value) (t : TypeId) : ∀ j u, [x, y, z][j]? = some u → (w.alloc (.cells #[x, y, z] t)).cell? ((⟨w.heap.size, 0, none⟩ : Addr).add j) = some u := fun j u hj => by
  rw [show (⟨w.heap.size, 0, none⟩ : Addr).add j = ⟨w.heap.size, j, none⟩ by cases j <;> simp [Addr.add], cell_of_heap (heap_alloc_new _ _)]
  simpa using hj

set_option maxRecDepth 100000 in
set_option maxHeartbeats 6000000 in
theorem merged_h (W : World) {base : Nat} (wv : Value) (l0 : List (ByteArray × Cont)) (hrow : ChRow W base wv l0) (hnd : (l0.map (·.1)).Nodup) (v : Value) (cs : List Chg) (hch : ChAt W v cs) (hwl : l0.length ≤ 16) (hcl : cs.length ≤ 1048576) :
    Calls Tryz.prog 185 #[wv, v] W fun e w' => ∃ v', e = .returned v' ∧ ChRow w' W.heap.size v' (joinW l0 cs) ∧ Quiet W w' := by
  obtain ⟨i0, hi0, hz0, hz1, hz2⟩ := info_parts info_chg
  have HCh := hidC' hch
  have HNd : Hid (∀ n, ((joinW l0 (cs.take n)).map (·.1)).Nodup) := fun n => joinW_nd _ _ hnd
  have HLn : Hid (∀ n, (joinW l0 (cs.take n)).length ≤ 1048592) := fun n => by
    have h1 := joinW_len_le (cs.take n) l0
    rw [List.length_take] at h1
    omega
  obtain ⟨⟨la, lcap, rfl, -⟩, -⟩ := hch
  have hown0 : W.ownsRow W.heap.size 66 3 (.slice none 0 0) 0 [] := World.ownsRow_nil _ _ _ _
  rcases hrow.2 with ⟨rfl, h0⟩ | ⟨g, cap, cur, rfl, hb, hg, h1, h2, h3, h4⟩
  · have hwr : l0 = [] := List.eq_nil_of_length_eq_zero h0
    subst hwr
    have HR0 : Hid (ChRow W W.heap.size (.slice none 0 0) []) := hown0
    clear hrow hnd
    go_enter Tryz.func185, Tryz.ntmps185
    go_wp2
    go_loopw [5, 6] (fun lv i w1 => ∃ n : Nat, i = .int .i64 n ∧ n ≤ cs.length ∧ Quiet W w1 ∧ Hid (ChRow w1 W.heap.size lv (joinW [] (cs.take n)))) (fun _ i _ => cs.length - (intOf i).toNat)
    case atStart => exact ⟨0, rfl, Nat.zero_le _, Keeps.refl _ _, HR0⟩
    case round =>
      clear HR0
      obtain ⟨n, rfl, hn, hq, HR⟩ := hrel
      obtain ⟨ja, jc, rfl, hjrow⟩ := row_at chgCells chgCells_len HR.out
      by_cases hlt : n < cs.length
      · have hlt' : (n : Int) < (cs.length : Int) := by omega
        obtain ⟨c, hc⟩ : ∃ c, cs[n]? = some c := ⟨_, List.getElem?_eq_getElem hlt⟩
        obtain ⟨⟨la', lcap', hlv, hlc⟩, -⟩ := HCh.out.quiet hq
        obtain ⟨rfl, -, rfl⟩ : la = la' ∧ True ∧ lcap = lcap' := by simpa using hlv
        rcases hlc with h0' | ⟨gl, o, rfl, hgl, hcell⟩
        · rw [h0'] at hlt; simp at hlt
        obtain ⟨e0, e1, e2⟩ := hcell n c hc
        have HJn := hidC' (joinW_succ (wr := []) hc)
        have HJd := hidC' (HNd.out n)
        have hJl := HLn.out n
        generalize joinW [] (cs.take n) = J at *
        have hlo := HR.out.lt
        obtain ⟨ck, cv, cg⟩ := c
        simp only at e0 e1 e2
        clear hcell hlv HNd HLn HCh hc hjrow
        have hgn : gl ≠ wr.heap.size := Nat.ne_of_lt hgl
        cases cg with
        | false =>
          go_wp2
          have hqa : Quiet wr (wr.alloc (.cells #[.string ck, .string cv, .bool false] 66)) := Keeps.alloc _ _
          have hba : (wr.alloc (.cells #[.string ck, .string cv, .bool false] 66)).heap[wr.heap.size]? = some (.cells #[.string ck, .string (contOf (ck, cv, false)).1, .bool (contOf (ck, cv, false)).2] 66) := heap_alloc_new _ _
          generalize wr.alloc (.cells #[.string ck, .string cv, .bool false] 66) = WD at *
          generalize hco : contOf (ck, cv, false) = co at *
          have D0 : WD.cell? ⟨wr.heap.size, 0, none⟩ = some (.string ck) := by rw [cell_of_heap hba]; rfl
          have D1 : WD.cell? ⟨wr.heap.size, 1, none⟩ = some (.string co.1) := by rw [cell_of_heap hba]; rfl
          have D2 : WD.cell? ⟨wr.heap.size, 2, none⟩ = some (.bool co.2) := by rw [cell_of_heap hba]; rfl
          have hsD := lt_of_heap hba
          have hqD := Quiet.trans' hq hqa
          have HRD : Hid (ChRow WD W.heap.size (.slice ja J.length jc) J) := hidC' (ownsRow_of_block HR.out (fun b hb => hqa.block b (hlo b hb).2 id))
          clear hqa hba HR e0 e1 e2 hgn hlo hco
          generalize hcb : wr.heap.size = cb at *
          clear hcb
          go_loopw [8, 9] (fun at_ k w2 => ∃ (q : Nat) (A : Int), at_ = .int .i64 A ∧ k = .int .i64 q ∧ q ≤ J.length ∧ Quiet WD w2 ∧ Hid (AtI J ck q A)) (fun _ k _ => J.length - (intOf k).toNat)
          case atStart => exact ⟨0, -1, rfl, rfl, Nat.zero_le _, Keeps.refl _ _, .inl ⟨rfl, fun z p hz => absurd hz (by omega)⟩⟩
          case round =>
            obtain ⟨q, A, rfl, rfl, hqn, hq2, HA⟩ := hrel
            have d0 := (hq2.cell hsD (by simp)).trans D0
            have d1 := (hq2.cell hsD (by simp)).trans D1
            have d2 := (hq2.cell hsD (by simp)).trans D2
            have hsq : cb < wr.heap.size := Nat.lt_of_lt_of_le hsD hq2.size
            have hqw := Quiet.trans' hqD hq2
            have hRq : ChRow wr W.heap.size (.slice ja J.length jc) J := ownsRow_of_block HRD.out (fun b hb => hq2.block b (HRD.out.lt b hb).2 id)
            by_cases hql : q < J.length
            · have hql' : (q : Int) < (J.length : Int) := by omega
              obtain ⟨p, hp⟩ : ∃ p, J[q]? = some p := ⟨_, List.getElem?_eq_getElem hql⟩
              obtain ⟨a', cap', e', hrow'⟩ := row_at chgCells chgCells_len hRq
              obtain ⟨rfl, -, rfl⟩ : ja = a' ∧ True ∧ jc = cap' := by simpa using e'
              rcases hrow' with h0' | ⟨gj, rfl, -, -, hgj, hfj, hcj⟩
              · rw [h0'] at hql; simp at hql
              have r0 : wr.cell? ⟨gj, q * 3, none⟩ = some (.string p.1) := hcj q p hp 0 (by omega)
              have HY := hidC' (HA.out.next hp)
              clear hcj hfj hp HA hRq e' D0 D1 D2 HRD HJn HJd
              by_cases hk : p.1 = ck
              · have HN := hidC' (HY.out.1 hk)
                have hkb := str_eq hk
                clear hk HY
                go_wp2
                go_quiet (fail)
                go_wp2
                exact ⟨⟨q + 1, q, rfl, by go_num, by omega, Quiet.trans' hq2 (quiet_drewN _ _), HN⟩, by simp [intOf]; omega⟩
              · have HN := hidC' (HY.out.2 hk)
                have hkb := str_ne hk
                clear hk HY
                go_wp2
                go_quiet (fail)
                go_wp2
                exact ⟨⟨q + 1, A, rfl, by go_num, by omega, Quiet.trans' hq2 (quiet_drewN _ _), HN⟩, by simp [intOf]; omega⟩
            · have hqge : ¬ (q : Int) < (J.length : Int) := by omega
              have hqe : q = J.length := by omega
              subst hqe
              rcases HA.out.fin co HJd.out with ⟨rfl, hput⟩ | ⟨z, p, rfl, hz, hp, hput⟩
              · have HE : Hid (joinW [] (cs.take (n + 1)) = J ++ [(ck, co)]) := hidC' (HJn.out.trans hput)
                clear hput HJn HJd HA D0 D1 D2 HRD
                go_wp2_with (at_builtin; refine wpList_append_own_at _ rfl _ _ 46 rfl W.heap.size 66 i0 (.agg #[.string ⟨#[]⟩, .string ⟨#[]⟩, .bool false]) 3 40 Tryz.underlying46 hi0 hz0 hz1 hz2 rfl (by decide) _ _ _ (by simp [go_sem]) (hRq.alloc _) ⟨wr.heap.size, 0, none⟩ 1 1 [.string ck, .string co.1, .bool co.2] (by simp [go_sem]) rfl (cell_threeNew wr _ _ _ 66) (by simp [Value.oneCell']) (by unfold maxLen; omega) (by omega) (by have := hqw.size; simp; omega) ?_)
                intro v5 w5 hown5 hgrow hnil hloc
                have k5 := keeps_of_grown hgrow
                have hlo5 := hRq.lt
                have hq5 : Quiet W w5 := Quiet.of_new (Quiet.trans' hqw (Keeps.alloc _ _)) k5 (fun b hb => (hlo5 b hb).1)
                have HR5 : Hid (ChRow w5 W.heap.size v5 (joinW [] (cs.take (n + 1)))) := hidC' (by rw [HE.out]; exact ChRow.snoc hown5)
                clear hown5 hgrow hnil hloc k5 hlo5 hRq HE
                go_wp2
                go_roundw
                case rel => exact ⟨n + 1, by go_num, by omega, hq5, HR5⟩
                case measure => simp [intOf]; omega
              · have HE : Hid (joinW [] (cs.take (n + 1)) = J.set z (ck, co)) := hidC' (HJn.out.trans hput)
                obtain ⟨a', cap', e', hrow'⟩ := row_at chgCells chgCells_len hRq
                obtain ⟨rfl, -, rfl⟩ : ja = a' ∧ True ∧ jc = cap' := by simpa using e'
                rcases hrow' with h0' | ⟨gj, rfl, hoj, hbj, hgj, hfj, hcj⟩
                · rw [h0'] at hz; simp at hz
                have hzl : (z : Int) < (J.length : Int) := by omega
                have r0 : wr.cell? ⟨gj, z * 3, none⟩ = some (.string p.1) := hcj z p hp 0 (by omega)
                have r1 : wr.cell? ⟨gj, z * 3 + 1, none⟩ = some (.string p.2.1) := hcj z p hp 1 (by omega)
                have r2 : wr.cell? ⟨gj, z * 3 + 2, none⟩ = some (.bool p.2.2) := hcj z p hp 2 (by omega)
                have f0 := hfj (z * 3)
                have f1 := hfj (z * 3 + 1)
                have f2 := hfj (z * 3 + 2)
                have hR6 := ChRow.set hRq hp hoj (ck, co)
                have HR6 : Hid (ChRow (((wr.setCell ⟨gj, z * 3, none⟩ (.string ck)).setCell ⟨gj, z * 3 + 1, none⟩ (.string co.1)).setCell ⟨gj, z * 3 + 2, none⟩ (.bool co.2)) W.heap.size (.slice (some ⟨gj, 0, none⟩) J.length jc) (joinW [] (cs.take (n + 1)))) := hidC' (by rw [HE.out]; exact hR6)
                have HQ6 : Hid (Quiet W (((wr.setCell ⟨gj, z * 3, none⟩ (.string ck)).setCell ⟨gj, z * 3 + 1, none⟩ (.string co.1)).setCell ⟨gj, z * 3 + 2, none⟩ (.bool co.2))) := hidC' (Quiet.of_new hqw (((Keeps.setCell (S := fun b => b = gj) _ _ _ rfl).trans (Keeps.setCell (S := fun b => b = gj) _ _ _ rfl) (fun _ h => .inl h)).trans (Keeps.setCell (S := fun b => b = gj) _ _ _ rfl) (fun _ h => .inl h)) (fun b hb => by rw [hb]; exact hbj))
                clear hput HJn HJd HA D0 D1 D2 HRD hcj hfj hp hR6 HE hRq e'
                go_wp2
                exact ⟨⟨n + 1, by go_num, by omega, HQ6.out, HR6⟩, by simp [intOf]; omega⟩
        | true =>
          go_wp2
          have hqa : Quiet wr (wr.alloc (.cells #[.string ck, .string ⟨#[]⟩, .bool true] 66)) := Keeps.alloc _ _
          have hba : (wr.alloc (.cells #[.string ck, .string ⟨#[]⟩, .bool true] 66)).heap[wr.heap.size]? = some (.cells #[.string ck, .string (contOf (ck, cv, true)).1, .bool (contOf (ck, cv, true)).2] 66) := heap_alloc_new _ _
          generalize wr.alloc (.cells #[.string ck, .string ⟨#[]⟩, .bool true] 66) = WD at *
          generalize hco : contOf (ck, cv, true) = co at *
          have D0 : WD.cell? ⟨wr.heap.size, 0, none⟩ = some (.string ck) := by rw [cell_of_heap hba]; rfl
          have D1 : WD.cell? ⟨wr.heap.size, 1, none⟩ = some (.string co.1) := by rw [cell_of_heap hba]; rfl
          have D2 : WD.cell? ⟨wr.heap.size, 2, none⟩ = some (.bool co.2) := by rw [cell_of_heap hba]; rfl
          have hsD := lt_of_heap hba
          have hqD := Quiet.trans' hq hqa
          have HRD : Hid (ChRow WD W.heap.size (.slice ja J.length jc) J) := hidC' (ownsRow_of_block HR.out (fun b hb => hqa.block b (hlo b hb).2 id))
          clear hqa hba HR e0 e1 e2 hgn hlo hco
          generalize hcb : wr.heap.size = cb at *
          clear hcb
          go_loopw [8, 9] (fun at_ k w2 => ∃ (q : Nat) (A : Int), at_ = .int .i64 A ∧ k = .int .i64 q ∧ q ≤ J.length ∧ Quiet WD w2 ∧ Hid (AtI J ck q A)) (fun _ k _ => J.length - (intOf k).toNat)
          case atStart => exact ⟨0, -1, rfl, rfl, Nat.zero_le _, Keeps.refl _ _, .inl ⟨rfl, fun z p hz => absurd hz (by omega)⟩⟩
          case round =>
            obtain ⟨q, A, rfl, rfl, hqn, hq2, HA⟩ := hrel
            have d0 := (hq2.cell hsD (by simp)).trans D0
            have d1 := (hq2.cell hsD (by simp)).trans D1
            have d2 := (hq2.cell hsD (by simp)).trans D2
            have hsq : cb < wr.heap.size := Nat.lt_of_lt_of_le hsD hq2.size
            have hqw := Quiet.trans' hqD hq2
            have hRq : ChRow wr W.heap.size (.slice ja J.length jc) J := ownsRow_of_block HRD.out (fun b hb => hq2.block b (HRD.out.lt b hb).2 id)
            by_cases hql : q < J.length
            · have hql' : (q : Int) < (J.length : Int) := by omega
              obtain ⟨p, hp⟩ : ∃ p, J[q]? = some p := ⟨_, List.getElem?_eq_getElem hql⟩
              obtain ⟨a', cap', e', hrow'⟩ := row_at chgCells chgCells_len hRq
              obtain ⟨rfl, -, rfl⟩ : ja = a' ∧ True ∧ jc = cap' := by simpa using e'
              rcases hrow' with h0' | ⟨gj, rfl, -, -, hgj, hfj, hcj⟩
              · rw [h0'] at hql; simp at hql
              have r0 : wr.cell? ⟨gj, q * 3, none⟩ = some (.string p.1) := hcj q p hp 0 (by omega)
              have HY := hidC' (HA.out.next hp)
              clear hcj hfj hp HA hRq e' D0 D1 D2 HRD HJn HJd
              by_cases hk : p.1 = ck
              · have HN := hidC' (HY.out.1 hk)
                have hkb := str_eq hk
                clear hk HY
                go_wp2
                go_quiet (fail)
                go_wp2
                exact ⟨⟨q + 1, q, rfl, by go_num, by omega, Quiet.trans' hq2 (quiet_drewN _ _), HN⟩, by simp [intOf]; omega⟩
              · have HN := hidC' (HY.out.2 hk)
                have hkb := str_ne hk
                clear hk HY
                go_wp2
                go_quiet (fail)
                go_wp2
                exact ⟨⟨q + 1, A, rfl, by go_num, by omega, Quiet.trans' hq2 (quiet_drewN _ _), HN⟩, by simp [intOf]; omega⟩
            · have hqge : ¬ (q : Int) < (J.length : Int) := by omega
              have hqe : q = J.length := by omega
              subst hqe
              rcases HA.out.fin co HJd.out with ⟨rfl, hput⟩ | ⟨z, p, rfl, hz, hp, hput⟩
              · have HE : Hid (joinW [] (cs.take (n + 1)) = J ++ [(ck, co)]) := hidC' (HJn.out.trans hput)
                clear hput HJn HJd HA D0 D1 D2 HRD
                go_wp2_with (at_builtin; refine wpList_append_own_at _ rfl _ _ 46 rfl W.heap.size 66 i0 (.agg #[.string ⟨#[]⟩, .string ⟨#[]⟩, .bool false]) 3 40 Tryz.underlying46 hi0 hz0 hz1 hz2 rfl (by decide) _ _ _ (by simp [go_sem]) (hRq.alloc _) ⟨wr.heap.size, 0, none⟩ 1 1 [.string ck, .string co.1, .bool co.2] (by simp [go_sem]) rfl (cell_threeNew wr _ _ _ 66) (by simp [Value.oneCell']) (by unfold maxLen; omega) (by omega) (by have := hqw.size; simp; omega) ?_)
                intro v5 w5 hown5 hgrow hnil hloc
                have k5 := keeps_of_grown hgrow
                have hlo5 := hRq.lt
                have hq5 : Quiet W w5 := Quiet.of_new (Quiet.trans' hqw (Keeps.alloc _ _)) k5 (fun b hb => (hlo5 b hb).1)
                have HR5 : Hid (ChRow w5 W.heap.size v5 (joinW [] (cs.take (n + 1)))) := hidC' (by rw [HE.out]; exact ChRow.snoc hown5)
                clear hown5 hgrow hnil hloc k5 hlo5 hRq HE
                go_wp2
                go_roundw
                case rel => exact ⟨n + 1, by go_num, by omega, hq5, HR5⟩
                case measure => simp [intOf]; omega
              · have HE : Hid (joinW [] (cs.take (n + 1)) = J.set z (ck, co)) := hidC' (HJn.out.trans hput)
                obtain ⟨a', cap', e', hrow'⟩ := row_at chgCells chgCells_len hRq
                obtain ⟨rfl, -, rfl⟩ : ja = a' ∧ True ∧ jc = cap' := by simpa using e'
                rcases hrow' with h0' | ⟨gj, rfl, hoj, hbj, hgj, hfj, hcj⟩
                · rw [h0'] at hz; simp at hz
                have hzl : (z : Int) < (J.length : Int) := by omega
                have r0 : wr.cell? ⟨gj, z * 3, none⟩ = some (.string p.1) := hcj z p hp 0 (by omega)
                have r1 : wr.cell? ⟨gj, z * 3 + 1, none⟩ = some (.string p.2.1) := hcj z p hp 1 (by omega)
                have r2 : wr.cell? ⟨gj, z * 3 + 2, none⟩ = some (.bool p.2.2) := hcj z p hp 2 (by omega)
                have f0 := hfj (z * 3)
                have f1 := hfj (z * 3 + 1)
                have f2 := hfj (z * 3 + 2)
                have hR6 := ChRow.set hRq hp hoj (ck, co)
                have HR6 : Hid (ChRow (((wr.setCell ⟨gj, z * 3, none⟩ (.string ck)).setCell ⟨gj, z * 3 + 1, none⟩ (.string co.1)).setCell ⟨gj, z * 3 + 2, none⟩ (.bool co.2)) W.heap.size (.slice (some ⟨gj, 0, none⟩) J.length jc) (joinW [] (cs.take (n + 1)))) := hidC' (by rw [HE.out]; exact hR6)
                have HQ6 : Hid (Quiet W (((wr.setCell ⟨gj, z * 3, none⟩ (.string ck)).setCell ⟨gj, z * 3 + 1, none⟩ (.string co.1)).setCell ⟨gj, z * 3 + 2, none⟩ (.bool co.2))) := hidC' (Quiet.of_new hqw (((Keeps.setCell (S := fun b => b = gj) _ _ _ rfl).trans (Keeps.setCell (S := fun b => b = gj) _ _ _ rfl) (fun _ h => .inl h)).trans (Keeps.setCell (S := fun b => b = gj) _ _ _ rfl) (fun _ h => .inl h)) (fun b hb => by rw [hb]; exact hbj))
                clear hput HJn HJd HA D0 D1 D2 HRD hcj hfj hp hR6 HE hRq e'
                go_wp2
                exact ⟨⟨n + 1, by go_num, by omega, HQ6.out, HR6⟩, by simp [intOf]; omega⟩
      · have hge : ¬ (n : Int) < (cs.length : Int) := by omega
        have HR1 : Hid (ChRow wr W.heap.size (.slice ja (joinW [] (cs.take n)).length jc) (joinW [] cs)) := hidC' (by have := HR.out; rw [List.take_of_length_le (by omega)] at this ⊢; exact this)
        clear HNd HLn HCh hjrow HR
        generalize (joinW [] (cs.take n)).length = NL at *
        go_wp2
        go_ret
        exact ⟨_, rfl, HR1.out, hq⟩
  · have HN : Hid (∀ j u, (l0.flatMap chgCells)[j]? = some u → W.cell? ((⟨g, 0, none⟩ : Addr).add j) = some u) := fun j u hj => by
      rw [show (⟨g, 0, none⟩ : Addr).add j = ⟨g, j, none⟩ by cases j <;> simp [Addr.add], cell_of_heap hg]
      rw [← h4, List.getElem?_take] at hj
      split at hj
      · simpa using hj
      · cases hj
    have hL0 := hidC' (chgCells_length l0)
    have hO0 := hidC' (chgCells_one l0)
    clear hrow hnd h4 hg hb h1 h2 h3
    go_enter Tryz.func185, Tryz.ntmps185
    go_wp2_with (at_builtin; refine wpList_append_own_at _ rfl _ _ 46 rfl W.heap.size 66 i0 (.agg #[.string ⟨#[]⟩, .string ⟨#[]⟩, .bool false]) 3 40 Tryz.underlying46 hi0 hz0 hz1 hz2 rfl (by decide) _ _ _ (by simp [go_sem]) hown0 ⟨g, 0, none⟩ l0.length cap (l0.flatMap chgCells) (by simp [go_sem]) hL0.out HN.out hO0.out (by unfold maxLen; omega) (by omega) (Nat.le_refl _) ?_)
    intro v0 w4 hown4 hgrow hnil hloc
    have hq0 : Quiet W w4 := Quiet.of_new (Keeps.refl _ _) (keeps_of_grown hgrow) (fun b hb => by simp [Value.ownBlock] at hb)
    have HR0 : Hid (ChRow w4 W.heap.size v0 l0) := hidC' (by unfold ChRow; simpa using hown4)
    clear hown4 hgrow hnil hloc HN hL0 hO0
    go_wp2
    go_loopw [5, 6] (fun lv i w1 => ∃ n : Nat, i = .int .i64 n ∧ n ≤ cs.length ∧ Quiet W w1 ∧ Hid (ChRow w1 W.heap.size lv (joinW l0 (cs.take n)))) (fun _ i _ => cs.length - (intOf i).toNat)
    case atStart => exact ⟨0, rfl, Nat.zero_le _, hq0, HR0⟩
    case round =>
      clear HR0 hq0
      obtain ⟨n, rfl, hn, hq, HR⟩ := hrel
      obtain ⟨ja, jc, rfl, hjrow⟩ := row_at chgCells chgCells_len HR.out
      by_cases hlt : n < cs.length
      · have hlt' : (n : Int) < (cs.length : Int) := by omega
        obtain ⟨c, hc⟩ : ∃ c, cs[n]? = some c := ⟨_, List.getElem?_eq_getElem hlt⟩
        obtain ⟨⟨la', lcap', hlv, hlc⟩, -⟩ := HCh.out.quiet hq
        obtain ⟨rfl, -, rfl⟩ : la = la' ∧ True ∧ lcap = lcap' := by simpa using hlv
        rcases hlc with h0' | ⟨gl, o, rfl, hgl, hcell⟩
        · rw [h0'] at hlt; simp at hlt
        obtain ⟨e0, e1, e2⟩ := hcell n c hc
        have HJn := hidC' (joinW_succ (wr := l0) hc)
        have HJd := hidC' (HNd.out n)
        have hJl := HLn.out n
        generalize joinW l0 (cs.take n) = J at *
        have hlo := HR.out.lt
        obtain ⟨ck, cv, cg⟩ := c
        simp only at e0 e1 e2
        clear hcell hlv HNd HLn HCh hc hjrow
        have hgn : gl ≠ wr.heap.size := Nat.ne_of_lt hgl
        cases cg with
        | false =>
          go_wp2
          have hqa : Quiet wr (wr.alloc (.cells #[.string ck, .string cv, .bool false] 66)) := Keeps.alloc _ _
          have hba : (wr.alloc (.cells #[.string ck, .string cv, .bool false] 66)).heap[wr.heap.size]? = some (.cells #[.string ck, .string (contOf (ck, cv, false)).1, .bool (contOf (ck, cv, false)).2] 66) := heap_alloc_new _ _
          generalize wr.alloc (.cells #[.string ck, .string cv, .bool false] 66) = WD at *
          generalize hco : contOf (ck, cv, false) = co at *
          have D0 : WD.cell? ⟨wr.heap.size, 0, none⟩ = some (.string ck) := by rw [cell_of_heap hba]; rfl
          have D1 : WD.cell? ⟨wr.heap.size, 1, none⟩ = some (.string co.1) := by rw [cell_of_heap hba]; rfl
          have D2 : WD.cell? ⟨wr.heap.size, 2, none⟩ = some (.bool co.2) := by rw [cell_of_heap hba]; rfl
          have hsD := lt_of_heap hba
          have hqD := Quiet.trans' hq hqa
          have HRD : Hid (ChRow WD W.heap.size (.slice ja J.length jc) J) := hidC' (ownsRow_of_block HR.out (fun b hb => hqa.block b (hlo b hb).2 id))
          clear hqa hba HR e0 e1 e2 hgn hlo hco
          generalize hcb : wr.heap.size = cb at *
          clear hcb
          go_loopw [8, 9] (fun at_ k w2 => ∃ (q : Nat) (A : Int), at_ = .int .i64 A ∧ k = .int .i64 q ∧ q ≤ J.length ∧ Quiet WD w2 ∧ Hid (AtI J ck q A)) (fun _ k _ => J.length - (intOf k).toNat)
          case atStart => exact ⟨0, -1, rfl, rfl, Nat.zero_le _, Keeps.refl _ _, .inl ⟨rfl, fun z p hz => absurd hz (by omega)⟩⟩
          case round =>
            obtain ⟨q, A, rfl, rfl, hqn, hq2, HA⟩ := hrel
            have d0 := (hq2.cell hsD (by simp)).trans D0
            have d1 := (hq2.cell hsD (by simp)).trans D1
            have d2 := (hq2.cell hsD (by simp)).trans D2
            have hsq : cb < wr.heap.size := Nat.lt_of_lt_of_le hsD hq2.size
            have hqw := Quiet.trans' hqD hq2
            have hRq : ChRow wr W.heap.size (.slice ja J.length jc) J := ownsRow_of_block HRD.out (fun b hb => hq2.block b (HRD.out.lt b hb).2 id)
            by_cases hql : q < J.length
            · have hql' : (q : Int) < (J.length : Int) := by omega
              obtain ⟨p, hp⟩ : ∃ p, J[q]? = some p := ⟨_, List.getElem?_eq_getElem hql⟩
              obtain ⟨a', cap', e', hrow'⟩ := row_at chgCells chgCells_len hRq
              obtain ⟨rfl, -, rfl⟩ : ja = a' ∧ True ∧ jc = cap' := by simpa using e'
              rcases hrow' with h0' | ⟨gj, rfl, -, -, hgj, hfj, hcj⟩
              · rw [h0'] at hql; simp at hql
              have r0 : wr.cell? ⟨gj, q * 3, none⟩ = some (.string p.1) := hcj q p hp 0 (by omega)
              have HY := hidC' (HA.out.next hp)
              clear hcj hfj hp HA hRq e' D0 D1 D2 HRD HJn HJd
              by_cases hk : p.1 = ck
              · have HN := hidC' (HY.out.1 hk)
                have hkb := str_eq hk
                clear hk HY
                go_wp2
                go_quiet (fail)
                go_wp2
                exact ⟨⟨q + 1, q, rfl, by go_num, by omega, Quiet.trans' hq2 (quiet_drewN _ _), HN⟩, by simp [intOf]; omega⟩
              · have HN := hidC' (HY.out.2 hk)
                have hkb := str_ne hk
                clear hk HY
                go_wp2
                go_quiet (fail)
                go_wp2
                exact ⟨⟨q + 1, A, rfl, by go_num, by omega, Quiet.trans' hq2 (quiet_drewN _ _), HN⟩, by simp [intOf]; omega⟩
            · have hqge : ¬ (q : Int) < (J.length : Int) := by omega
              have hqe : q = J.length := by omega
              subst hqe
              rcases HA.out.fin co HJd.out with ⟨rfl, hput⟩ | ⟨z, p, rfl, hz, hp, hput⟩
              · have HE : Hid (joinW l0 (cs.take (n + 1)) = J ++ [(ck, co)]) := hidC' (HJn.out.trans hput)
                clear hput HJn HJd HA D0 D1 D2 HRD
                go_wp2_with (at_builtin; refine wpList_append_own_at _ rfl _ _ 46 rfl W.heap.size 66 i0 (.agg #[.string ⟨#[]⟩, .string ⟨#[]⟩, .bool false]) 3 40 Tryz.underlying46 hi0 hz0 hz1 hz2 rfl (by decide) _ _ _ (by simp [go_sem]) (hRq.alloc _) ⟨wr.heap.size, 0, none⟩ 1 1 [.string ck, .string co.1, .bool co.2] (by simp [go_sem]) rfl (cell_threeNew wr _ _ _ 66) (by simp [Value.oneCell']) (by unfold maxLen; omega) (by omega) (by have := hqw.size; simp; omega) ?_)
                intro v5 w5 hown5 hgrow hnil hloc
                have k5 := keeps_of_grown hgrow
                have hlo5 := hRq.lt
                have hq5 : Quiet W w5 := Quiet.of_new (Quiet.trans' hqw (Keeps.alloc _ _)) k5 (fun b hb => (hlo5 b hb).1)
                have HR5 : Hid (ChRow w5 W.heap.size v5 (joinW l0 (cs.take (n + 1)))) := hidC' (by rw [HE.out]; exact ChRow.snoc hown5)
                clear hown5 hgrow hnil hloc k5 hlo5 hRq HE
                go_wp2
                go_roundw
                case rel => exact ⟨n + 1, by go_num, by omega, hq5, HR5⟩
                case measure => simp [intOf]; omega
              · have HE : Hid (joinW l0 (cs.take (n + 1)) = J.set z (ck, co)) := hidC' (HJn.out.trans hput)
                obtain ⟨a', cap', e', hrow'⟩ := row_at chgCells chgCells_len hRq
                obtain ⟨rfl, -, rfl⟩ : ja = a' ∧ True ∧ jc = cap' := by simpa using e'
                rcases hrow' with h0' | ⟨gj, rfl, hoj, hbj, hgj, hfj, hcj⟩
                · rw [h0'] at hz; simp at hz
                have hzl : (z : Int) < (J.length : Int) := by omega
                have r0 : wr.cell? ⟨gj, z * 3, none⟩ = some (.string p.1) := hcj z p hp 0 (by omega)
                have r1 : wr.cell? ⟨gj, z * 3 + 1, none⟩ = some (.string p.2.1) := hcj z p hp 1 (by omega)
                have r2 : wr.cell? ⟨gj, z * 3 + 2, none⟩ = some (.bool p.2.2) := hcj z p hp 2 (by omega)
                have f0 := hfj (z * 3)
                have f1 := hfj (z * 3 + 1)
                have f2 := hfj (z * 3 + 2)
                have hR6 := ChRow.set hRq hp hoj (ck, co)
                have HR6 : Hid (ChRow (((wr.setCell ⟨gj, z * 3, none⟩ (.string ck)).setCell ⟨gj, z * 3 + 1, none⟩ (.string co.1)).setCell ⟨gj, z * 3 + 2, none⟩ (.bool co.2)) W.heap.size (.slice (some ⟨gj, 0, none⟩) J.length jc) (joinW l0 (cs.take (n + 1)))) := hidC' (by rw [HE.out]; exact hR6)
                have HQ6 : Hid (Quiet W (((wr.setCell ⟨gj, z * 3, none⟩ (.string ck)).setCell ⟨gj, z * 3 + 1, none⟩ (.string co.1)).setCell ⟨gj, z * 3 + 2, none⟩ (.bool co.2))) := hidC' (Quiet.of_new hqw (((Keeps.setCell (S := fun b => b = gj) _ _ _ rfl).trans (Keeps.setCell (S := fun b => b = gj) _ _ _ rfl) (fun _ h => .inl h)).trans (Keeps.setCell (S := fun b => b = gj) _ _ _ rfl) (fun _ h => .inl h)) (fun b hb => by rw [hb]; exact hbj))
                clear hput HJn HJd HA D0 D1 D2 HRD hcj hfj hp hR6 HE hRq e'
                go_wp2
                exact ⟨⟨n + 1, by go_num, by omega, HQ6.out, HR6⟩, by simp [intOf]; omega⟩
        | true =>
          go_wp2
          have hqa : Quiet wr (wr.alloc (.cells #[.string ck, .string ⟨#[]⟩, .bool true] 66)) := Keeps.alloc _ _
          have hba : (wr.alloc (.cells #[.string ck, .string ⟨#[]⟩, .bool true] 66)).heap[wr.heap.size]? = some (.cells #[.string ck, .string (contOf (ck, cv, true)).1, .bool (contOf (ck, cv, true)).2] 66) := heap_alloc_new _ _
          generalize wr.alloc (.cells #[.string ck, .string ⟨#[]⟩, .bool true] 66) = WD at *
          generalize hco : contOf (ck, cv, true) = co at *
          have D0 : WD.cell? ⟨wr.heap.size, 0, none⟩ = some (.string ck) := by rw [cell_of_heap hba]; rfl
          have D1 : WD.cell? ⟨wr.heap.size, 1, none⟩ = some (.string co.1) := by rw [cell_of_heap hba]; rfl
          have D2 : WD.cell? ⟨wr.heap.size, 2, none⟩ = some (.bool co.2) := by rw [cell_of_heap hba]; rfl
          have hsD := lt_of_heap hba
          have hqD := Quiet.trans' hq hqa
          have HRD : Hid (ChRow WD W.heap.size (.slice ja J.length jc) J) := hidC' (ownsRow_of_block HR.out (fun b hb => hqa.block b (hlo b hb).2 id))
          clear hqa hba HR e0 e1 e2 hgn hlo hco
          generalize hcb : wr.heap.size = cb at *
          clear hcb
          go_loopw [8, 9] (fun at_ k w2 => ∃ (q : Nat) (A : Int), at_ = .int .i64 A ∧ k = .int .i64 q ∧ q ≤ J.length ∧ Quiet WD w2 ∧ Hid (AtI J ck q A)) (fun _ k _ => J.length - (intOf k).toNat)
          case atStart => exact ⟨0, -1, rfl, rfl, Nat.zero_le _, Keeps.refl _ _, .inl ⟨rfl, fun z p hz => absurd hz (by omega)⟩⟩
          case round =>
            obtain ⟨q, A, rfl, rfl, hqn, hq2, HA⟩ := hrel
            have d0 := (hq2.cell hsD (by simp)).trans D0
            have d1 := (hq2.cell hsD (by simp)).trans D1
            have d2 := (hq2.cell hsD (by simp)).trans D2
            have hsq : cb < wr.heap.size := Nat.lt_of_lt_of_le hsD hq2.size
            have hqw := Quiet.trans' hqD hq2
            have hRq : ChRow wr W.heap.size (.slice ja J.length jc) J := ownsRow_of_block HRD.out (fun b hb => hq2.block b (HRD.out.lt b hb).2 id)
            by_cases hql : q < J.length
            · have hql' : (q : Int) < (J.length : Int) := by omega
              obtain ⟨p, hp⟩ : ∃ p, J[q]? = some p := ⟨_, List.getElem?_eq_getElem hql⟩
              obtain ⟨a', cap', e', hrow'⟩ := row_at chgCells chgCells_len hRq
              obtain ⟨rfl, -, rfl⟩ : ja = a' ∧ True ∧ jc = cap' := by simpa using e'
              rcases hrow' with h0' | ⟨gj, rfl, -, -, hgj, hfj, hcj⟩
              · rw [h0'] at hql; simp at hql
              have r0 : wr.cell? ⟨gj, q * 3, none⟩ = some (.string p.1) := hcj q p hp 0 (by omega)
              have HY := hidC' (HA.out.next hp)
              clear hcj hfj hp HA hRq e' D0 D1 D2 HRD HJn HJd
              by_cases hk : p.1 = ck
              · have HN := hidC' (HY.out.1 hk)
                have hkb := str_eq hk
                clear hk HY
                go_wp2
                go_quiet (fail)
                go_wp2
                exact ⟨⟨q + 1, q, rfl, by go_num, by omega, Quiet.trans' hq2 (quiet_drewN _ _), HN⟩, by simp [intOf]; omega⟩
              · have HN := hidC' (HY.out.2 hk)
                have hkb := str_ne hk
                clear hk HY
                go_wp2
                go_quiet (fail)
                go_wp2
                exact ⟨⟨q + 1, A, rfl, by go_num, by omega, Quiet.trans' hq2 (quiet_drewN _ _), HN⟩, by simp [intOf]; omega⟩
            · have hqge : ¬ (q : Int) < (J.length : Int) := by omega
              have hqe : q = J.length := by omega
              subst hqe
              rcases HA.out.fin co HJd.out with ⟨rfl, hput⟩ | ⟨z, p, rfl, hz, hp, hput⟩
              · have HE : Hid (joinW l0 (cs.take (n + 1)) = J ++ [(ck, co)]) := hidC' (HJn.out.trans hput)
                clear hput HJn HJd HA D0 D1 D2 HRD
                go_wp2_with (at_builtin; refine wpList_append_own_at _ rfl _ _ 46 rfl W.heap.size 66 i0 (.agg #[.string ⟨#[]⟩, .string ⟨#[]⟩, .bool false]) 3 40 Tryz.underlying46 hi0 hz0 hz1 hz2 rfl (by decide) _ _ _ (by simp [go_sem]) (hRq.alloc _) ⟨wr.heap.size, 0, none⟩ 1 1 [.string ck, .string co.1, .bool co.2] (by simp [go_sem]) rfl (cell_threeNew wr _ _ _ 66) (by simp [Value.oneCell']) (by unfold maxLen; omega) (by omega) (by have := hqw.size; simp; omega) ?_)
                intro v5 w5 hown5 hgrow hnil hloc
                have k5 := keeps_of_grown hgrow
                have hlo5 := hRq.lt
                have hq5 : Quiet W w5 := Quiet.of_new (Quiet.trans' hqw (Keeps.alloc _ _)) k5 (fun b hb => (hlo5 b hb).1)
                have HR5 : Hid (ChRow w5 W.heap.size v5 (joinW l0 (cs.take (n + 1)))) := hidC' (by rw [HE.out]; exact ChRow.snoc hown5)
                clear hown5 hgrow hnil hloc k5 hlo5 hRq HE
                go_wp2
                go_roundw
                case rel => exact ⟨n + 1, by go_num, by omega, hq5, HR5⟩
                case measure => simp [intOf]; omega
              · have HE : Hid (joinW l0 (cs.take (n + 1)) = J.set z (ck, co)) := hidC' (HJn.out.trans hput)
                obtain ⟨a', cap', e', hrow'⟩ := row_at chgCells chgCells_len hRq
                obtain ⟨rfl, -, rfl⟩ : ja = a' ∧ True ∧ jc = cap' := by simpa using e'
                rcases hrow' with h0' | ⟨gj, rfl, hoj, hbj, hgj, hfj, hcj⟩
                · rw [h0'] at hz; simp at hz
                have hzl : (z : Int) < (J.length : Int) := by omega
                have r0 : wr.cell? ⟨gj, z * 3, none⟩ = some (.string p.1) := hcj z p hp 0 (by omega)
                have r1 : wr.cell? ⟨gj, z * 3 + 1, none⟩ = some (.string p.2.1) := hcj z p hp 1 (by omega)
                have r2 : wr.cell? ⟨gj, z * 3 + 2, none⟩ = some (.bool p.2.2) := hcj z p hp 2 (by omega)
                have f0 := hfj (z * 3)
                have f1 := hfj (z * 3 + 1)
                have f2 := hfj (z * 3 + 2)
                have hR6 := ChRow.set hRq hp hoj (ck, co)
                have HR6 : Hid (ChRow (((wr.setCell ⟨gj, z * 3, none⟩ (.string ck)).setCell ⟨gj, z * 3 + 1, none⟩ (.string co.1)).setCell ⟨gj, z * 3 + 2, none⟩ (.bool co.2)) W.heap.size (.slice (some ⟨gj, 0, none⟩) J.length jc) (joinW l0 (cs.take (n + 1)))) := hidC' (by rw [HE.out]; exact hR6)
                have HQ6 : Hid (Quiet W (((wr.setCell ⟨gj, z * 3, none⟩ (.string ck)).setCell ⟨gj, z * 3 + 1, none⟩ (.string co.1)).setCell ⟨gj, z * 3 + 2, none⟩ (.bool co.2))) := hidC' (Quiet.of_new hqw (((Keeps.setCell (S := fun b => b = gj) _ _ _ rfl).trans (Keeps.setCell (S := fun b => b = gj) _ _ _ rfl) (fun _ h => .inl h)).trans (Keeps.setCell (S := fun b => b = gj) _ _ _ rfl) (fun _ h => .inl h)) (fun b hb => by rw [hb]; exact hbj))
                clear hput HJn HJd HA D0 D1 D2 HRD hcj hfj hp hR6 HE hRq e'
                go_wp2
                exact ⟨⟨n + 1, by go_num, by omega, HQ6.out, HR6⟩, by simp [intOf]; omega⟩
      · have hge : ¬ (n : Int) < (cs.length : Int) := by omega
        have HR1 : Hid (ChRow wr W.heap.size (.slice ja (joinW l0 (cs.take n)).length jc) (joinW l0 cs)) := hidC' (by have := HR.out; rw [List.take_of_length_le (by omega)] at this ⊢; exact this)
        clear HNd HLn HCh hjrow HR
        generalize (joinW l0 (cs.take n)).length = NL at *
        go_wp2
        go_ret
        exact ⟨_, rfl, HR1.out, hq⟩

end Go.Proofs.YthfimgeopciiiaaGreat

/-
  The document's own store: what Write turns.
-/
namespace Go.Proofs.YthfimgeopciiiaaGreat
open Go.MapKept Go.ChangeMaps Go.Maps Go.RowKit Go.MuLone
set_option linter.unusedVariables false

section
variable {w w' : World} {base : Nat} {m : MRef} {i : Nat} {k : RTx}

/-- two marks, whole, with a draw between them -/
structure BumpsQ (w : World) (base : Nat) (m : MRef) (a b : Nat) (ov iv : Int) (g cap : Nat) : Prop where
  ha : a < m.txs.length
  hb : b < m.txs.length
  c5 : w.cell? ⟨m.sb, 5, none⟩ = some (.slice (some ⟨g, 0, none⟩) m.txs.length cap)
  p4 : w.cell? ⟨g, a * 7 + 4, none⟩ = some (.int .i64 ov)
  f4 : w.frozen? ⟨g, a * 7 + 4, none⟩ = false
  next : ∀ wz, Quiet (w.setCell ⟨g, a * 7 + 4, none⟩ (.int .i64 (ov + 1))) wz → wz.cell? ⟨m.sb, 5, none⟩ = some (.slice (some ⟨g, 0, none⟩) m.txs.length cap) ∧ wz.cell? ⟨g, b * 7 + 3, none⟩ = some (.int .i64 iv) ∧ wz.frozen? ⟨g, b * 7 + 3, none⟩ = false ∧
    RLeft w (wz.setCell ⟨g, b * 7 + 3, none⟩ (.int .i64 (iv + 1))) base m { m.rs with txs := (m.rs.txs.map (bumpO ((a : Int) + 1))).map (bumpI ((b : Int) + 1)) }

theorem RefIn.bumpsQ (H : RefIn w base m) (hh : m.rs.hsOk) {a b : Nat} {x y : RTx} (hx : m.rs.txs[a]? = some x) (hy : m.rs.txs[b]? = some y) : ∃ g cap, BumpsQ w base m a b x.o y.i g cap := by
  obtain ⟨g, cap, wa, wc, ra, rc, T⟩ := H.tx hx
  have L1 := H.set hh (j := 4) (u := .int .i64 (x.o + 1)) T.at_ T.ho (by omega) { x with o := x.o + 1 } rfl rfl rfl (bumpO ((a : Int) + 1)) (by show bumpO _ x = _; unfold bumpO; rw [if_pos (hh a x hx)]) (fun z hz => by unfold bumpO; rw [if_neg hz])
  obtain ⟨m1, h1, h2, h3⟩ := L1
  have hh1 : m1.rs.hsOk := by rw [h3]; exact hh.map _ (bumpO_h _)
  have hy1 : m1.rs.txs[b]? = some (bumpO ((a : Int) + 1) y) := by rw [h3]; show (m.rs.txs.map _)[b]? = _; rw [List.getElem?_map, hy]; rfl
  obtain ⟨g1, cap1, wa1, wc1, ra1, rc1, T1⟩ := h1.tx hy1
  have hne : m.sb ≠ g := by
    obtain ⟨tag, H0⟩ := H
    intro e
    have e1 := H0.gt g T.ho
    have e2 := H0.gb
    rw [e] at e2; omega
  have d5 : (w.setCell ⟨g, a * 7 + 4, none⟩ (.int .i64 (x.o + 1))).cell? ⟨m.sb, 5, none⟩ = some (.slice (some ⟨g, 0, none⟩) m.txs.length cap) := by
    rw [← T.c5]
    exact World.cell?_of_block (a := ⟨m.sb, 5, none⟩) (heap_setCell_other _ _ _ (fun e => hne e))
  have hl1 : m1.txs.length = m.txs.length := by rw [← rs_len, h3, ← rs_len (m := m)]; show (m.rs.txs.map _).length = _; rw [List.length_map]
  have eg : g1 = g ∧ cap1 = cap := by
    have e := T1.c5
    rw [h2.sb, d5] at e
    have e' : g1 = g ∧ m1.txs.length = m.txs.length ∧ cap1 = cap := by simpa using e.symm
    exact ⟨e'.1, e'.2.2⟩
  obtain ⟨rfl, rfl⟩ := eg
  have hi1 : (bumpO ((a : Int) + 1) y).i = y.i := by unfold bumpO; split <;> rfl
  refine ⟨g1, cap1, ⟨T.hi, by rw [← hl1]; exact T1.hi, T.c5, T.p4, T.fz _, fun wz q => ?_⟩⟩
  have T2 := T1.quiet q
  have L2 := (h1.quiet q).set hh1 (j := 3) (u := .int .i64 (y.i + 1)) T2.at_ T2.ho (by omega) { bumpO ((a : Int) + 1) y with i := y.i + 1 } rfl rfl rfl (bumpI ((b : Int) + 1)) (by show bumpI _ (bumpO _ y) = _; unfold bumpI; rw [if_pos (by rw [bumpO_h]; exact hh b y hy), hi1]) (fun z hz => by unfold bumpI; rw [if_neg hz])
  obtain ⟨m2, k1, k2, k3⟩ := L2
  exact ⟨by rw [← h2.sb, ← hl1]; exact T2.c5, by rw [← hi1]; exact T2.p3, T2.fz _, ⟨m2, k1, (h2.trans (RTurn.quiet _ q)).trans k2, by rw [k3, h3]⟩⟩

/-- the marks of a write, behind some -/
structure MarkJ (W wr : World) (base : Nat) (m : MRef) (R1 : RSt) (i : Nat) (PI : List Nat) (n : Nat) (m' : MRef) : Prop where
  is : RefIn wr base m'
  turn : RTurn W wr m m'
  rs : m'.rs = { R1 with txs := R1.txs.map (markW ((i : Int) + 1) (hsOf (PI.take n))) }

theorem MarkJ.quiet {W wr wx : World} {R1 : RSt} {PI : List Nat} {n : Nat} {m' : MRef} (M : MarkJ W wr base m R1 i PI n m') (k : Quiet wr wx) : MarkJ W wx base m R1 i PI n m' := ⟨M.is.quiet k, M.turn.trans (RTurn.quiet _ k), M.rs⟩

theorem hsOf_snoc {PI : List Nat} {n p : Nat} (hp : PI[n]? = some p) : hsOf (PI.take (n + 1)) = hsOf (PI.take n) ++ [(p : Int) + 1] := by unfold hsOf; rw [take_succ_of hp, List.map_append]; rfl

theorem hsOf_fresh {PI : List Nat} {n p : Nat} (hp : PI[n]? = some p) (hnd : PI.Nodup) : (p : Int) + 1 ∉ hsOf (PI.take n) := fun h => by
  unfold hsOf at h
  obtain ⟨q, hq, e⟩ := List.mem_map.1 h
  have : q = p := by omega
  subst this
  have hn : n < PI.length := (List.getElem?_eq_some_iff.1 hp).1
  obtain ⟨j, hj⟩ := List.getElem?_of_mem hq
  have hjn : j < n := by have := (List.getElem?_eq_some_iff.1 hj).1; simp at this; omega
  rw [List.getElem?_take, if_pos hjn] at hj
  obtain ⟨h1, h1'⟩ := List.getElem?_eq_some_iff.1 hj
  obtain ⟨h2, h2'⟩ := List.getElem?_eq_some_iff.1 hp
  have := (List.pairwise_iff_getElem.1 hnd) j n h1 h2 hjn
  exact this (h1'.trans h2'.symm)

theorem MarkJ.step {W wr : World} {R1 : RSt} {PI : List Nat} {n p : Nat} {m' : MRef} (M : MarkJ W wr base m R1 i PI n m') (hp : PI[n]? = some p) (hnd : PI.Nodup) (hne : p ≠ i) {wx : World} (L : RLeft wr wx base m' { m'.rs with txs := (m'.rs.txs.map (bumpO ((p : Int) + 1))).map (bumpI ((i : Int) + 1)) }) :
    ∃ m'', MarkJ W wx base m R1 i PI (n + 1) m'' := by
  obtain ⟨m2, h1, h2, h3⟩ := L
  refine ⟨m2, h1, M.turn.trans h2, ?_⟩
  rw [h3, M.rs]
  simp only [List.map_map]
  congr 1
  refine List.map_congr_left fun z _ => ?_
  simp only [Function.comp]
  rw [hsOf_snoc hp]
  exact markW_snoc (hsOf_fresh hp hnd) (by omega) z

theorem MarkJ.facts {W wr : World} {R1 : RSt} {PI : List Nat} {n p : Nat} {m' : MRef} {k1 y1 : RTx} {B : Int} (M : MarkJ W wr base m R1 i PI n m') (hh : R1.hsOk) (hk : R1.txs[i]? = some k1) (hy : R1.txs[p]? = some y1) (hB : B ≤ 1152921504606846976) (hl : PI.length ≤ 1099511627776) (hki : 0 ≤ k1.i ∧ k1.i ≤ B) (hyo : 0 ≤ y1.o ∧ y1.o ≤ B) :
    ∃ ov iv g cap, (0 ≤ ov ∧ ov ≤ 2305843009213693952) ∧ (0 ≤ iv ∧ iv ≤ 2305843009213693952) ∧ BumpsQ wr base m' p i ov iv g cap ∧ m'.txs.length = R1.txs.length := by
  have hh' : m'.rs.hsOk := by rw [M.rs]; exact hh.map _ (fun _ => rfl)
  have hk' : m'.rs.txs[i]? = some (markW ((i : Int) + 1) (hsOf (PI.take n)) k1) := by rw [M.rs]; show (R1.txs.map _)[i]? = _; rw [List.getElem?_map, hk]; rfl
  have hy' : m'.rs.txs[p]? = some (markW ((i : Int) + 1) (hsOf (PI.take n)) y1) := by rw [M.rs]; show (R1.txs.map _)[p]? = _; rw [List.getElem?_map, hy]; rfl
  obtain ⟨g, cap, Bu⟩ := M.is.bumpsQ hh' hy' hk'
  refine ⟨_, _, g, cap, ?_, ?_, Bu, ?_⟩
  · show 0 ≤ (if y1.h ∈ hsOf (PI.take n) then y1.o + 1 else y1.o) ∧ (if y1.h ∈ hsOf (PI.take n) then y1.o + 1 else y1.o) ≤ _
    split <;> omega
  · show 0 ≤ (if k1.h = (i : Int) + 1 then k1.i + ((hsOf (PI.take n)).length : Int) else k1.i) ∧ (if k1.h = (i : Int) + 1 then k1.i + ((hsOf (PI.take n)).length : Int) else k1.i) ≤ _
    have : (hsOf (PI.take n)).length ≤ PI.length := by unfold hsOf; rw [List.length_map, List.length_take]; omega
    split <;> omega
  · rw [← rs_len, M.rs]; show (R1.txs.map _).length = _; rw [List.length_map]

/-- a row that is nobody's becomes what it has written -/
theorem RefIn.giveWrites (H : RefIn w base m) (hh : m.rs.hsOk) {i g : Nat} {x : MRTx} (hx : m.txs[i]? = some x) (hg : m.tv.ownBlock = some g) {v : Value} {L : List (ByteArray × Cont)} (hv : ChRow w base v L) (hfree : ∀ b, v.ownBlock = some b → ¬ m.has b) :
    ∃ m', RefIn (w.setCell ⟨g, i * 7 + 5, none⟩ v) base m' ∧ Keeps m.has w (w.setCell ⟨g, i * 7 + 5, none⟩ v) ∧ (∀ b, m'.has b → m.has b ∨ v.ownBlock = some b) ∧ m'.sb = m.sb ∧ m'.rs = { m.rs with txs := m.rs.txs.map (setWrs ((i : Int) + 1) L) } := by
  obtain ⟨tag, h⟩ := H
  have h1 : RefAt w base (fun b => if v.ownBlock = some b then 3 else tag b) m := h.retag (fun b hb => if_neg (fun e => hfree b e hb))
  have vb : ∀ b, v.ownBlock = some b → (fun b => if v.ownBlock = some b then 3 else tag b) b = 3 := fun b e => if_pos e
  refine ⟨{ m with txs := m.txs.set i ⟨{ x.r with wr := L }, v, x.rv⟩ }, ⟨_, h1.setTx (j := 5) (x' := ⟨{ x.r with wr := L }, v, x.rv⟩) hx hg (by omega) rfl hv (h1.rd i x hx) vb (h1.gr i x hx)⟩, ?_, fun b hb => ?_, rfl, ?_⟩
  · exact Keeps.setCell _ _ _ (.inr (.inl hg))
  · rcases hb with h | h | h | ⟨k', y, hy, h⟩
    · exact .inl (.inl h)
    · exact .inl (.inr (.inl h))
    · exact .inl (.inr (.inr (.inl h)))
    · have hy' : (m.txs.set i _)[k']? = some y := hy
      rw [List.getElem?_set] at hy'
      split at hy'
      · split at hy'
        · obtain rfl := Option.some.inj hy'
          rcases h with h | h
          · exact .inr h
          · exact .inl (.inr (.inr (.inr ⟨i, _, hx, .inr h⟩)))
        · cases hy'
      · exact .inl (.inr (.inr (.inr ⟨k', y, hy', h⟩)))
  · unfold MRef.rs
    simp only
    congr 1
    refine map_set_if (fun x : MRTx => x.r) (setWrs ((i : Int) + 1) L) (fun _ => True) m.txs i _ _ hx ?_ (fun j z hz hne => ?_)
    · unfold setWrs; rw [if_pos (hsOk_iff hh i _ hx)]
    · unfold setWrs; rw [if_neg (by rw [hsOk_iff hh j z hz]; omega)]

end

theorem changes_step {cs : List Chg} {n : Nat} {c : Chg} (hc : cs[n]? = some c) (h : changesE cs = changesE (cs.drop n)) : ((c.1.size : Int) < 1 ∨ 4 < (c.1.size : Int) → changesE cs = 3) ∧ (¬ (c.1.size : Int) < 1 → ¬ 4 < (c.1.size : Int) → (8 < (c.2.1.size : Int) → changesE cs = 4) ∧ (¬ 8 < (c.2.1.size : Int) → changesE cs = changesE (cs.drop (n + 1)))) := by
  rw [changesE_drop hc] at h
  refine ⟨fun hk => ?_, fun h1 h2 => ?_⟩
  · have hkb : keyB c.1 = false := by
      unfold keyB
      rcases hk with hk | hk
      · rw [decide_eq_false (show ¬ 1 ≤ c.1.size by omega)]; rfl
      · rw [decide_eq_false (show ¬ c.1.size ≤ 4 by omega), Bool.and_false]
    rw [h, hkb]; rfl
  · have hkb : keyB c.1 = true := by
      unfold keyB
      rw [decide_eq_true (show 1 ≤ c.1.size by omega), decide_eq_true (show c.1.size ≤ 4 by omega)]; rfl
    rw [hkb] at h
    refine ⟨fun h3 => ?_, fun h3 => ?_⟩
    · rw [h]; simp only [Bool.not_true, Bool.false_eq_true, if_false]; rw [if_pos (by omega)]
    · rw [h]; simp only [Bool.not_true, Bool.false_eq_true, if_false]; rw [if_neg (by omega)]

end Go.Proofs.YthfimgeopciiiaaGreat

/-
  The document's own store: Write, walked.
-/
namespace Go.Proofs.YthfimgeopciiiaaGreat
open Go.MapKept Go.ChangeMaps Go.Maps Go.RowKit Go.MuLone
set_option linter.unusedVariables false

section
variable {w w' : World} {base : Nat} {m : MRef} {i : Nat} {k : RTx}

set_option maxRecDepth 100000 in
set_option maxHeartbeats 1000000 in
theorem rWrite_no (H : RefIn w base m) (hlen : m.txs.length ≤ 1099511627776) (h : Int) (v : Value) (hv : ∃ a n c, v = .slice a n c) (ha : m.actB h = false) :
    Calls Tryz.prog 121 #[.pointer (some ⟨m.sb, 0, none⟩), .int .i64 h, v] w fun e w' => e = .returned (.int .i64 2) ∧ w' = w := by
  obtain ⟨a, n, c, rfl⟩ := hv
  have HA := H.active hlen h
  rw [ha] at HA
  have HA := hidC HA
  clear H ha
  go_enter Tryz.func121, Tryz.ntmps121
  go_wp2_with (go_at_call 114; refine HA.out.mono ?_; rintro e w1 ⟨rfl, rfl⟩)
  go_ret
  exact ⟨rfl, rfl⟩

set_option maxRecDepth 100000 in
set_option maxHeartbeats 40000000 in
theorem rWrite_yes (H : RefIn w base m) {B : Int} (Bd : RBd m.rs B) (hB : B ≤ 1152921504606846976) (hlen : m.txs.length ≤ 1099511627776) (hv : m.vers.length ≤ 1099511627776) (hi : m.rs.txs[i]? = some k) (h0 : k.st = 0) (hnd : (k.wr.map (·.1)).Nodup) (v : Value) (cs : List Chg) (hch : ChAt w v cs) (hcl : cs.length ≤ 1048576) :
    Calls Tryz.prog 121 #[.pointer (some ⟨m.sb, 0, none⟩), .int .i64 ((i : Int) + 1), v] w fun e w' => e = .returned (.int .i64 (m.rs.writeR k cs).1) ∧ RLeft w w' base m (m.rs.writeR k cs).2 := by
  obtain ⟨g, cap, wa, wc, ra, rc, T⟩ := H.tx hi
  have hkh := Bd.hs i k hi
  have hil0 := T.hi
  have hwl := Bd.wl k (List.mem_of_getElem? hi)
  have HA := H.active hlen ((i : Int) + 1)
  rw [actB_yes hi h0] at HA
  have HA := hidC HA
  have HK : Hid (∀ wr, Quiet w wr → TxAt wr m i k g cap wa wc ra rc ∧ wr.cell? ⟨m.sb, 2, none⟩ = some (.int .i64 m.c3)) := fun wr q => ⟨T.quiet q, by obtain ⟨tag, H1⟩ := H.quiet q; exact H1.cell.2.2.1⟩
  have HL : Hid (∀ wr, Quiet w wr → RLeft w wr base m m.rs) := fun wr q => H.left q
  have HCh : Hid (∀ wr, Quiet w wr → ChAt wr v cs) := fun wr q => hch.quiet q
  have HMg : Hid (∀ wr, Quiet w wr → Calls Tryz.prog 185 #[.slice wa k.wr.length wc, v] wr fun e w' => ∃ a' c', e = .returned (.slice a' (joinW k.wr cs).length c') ∧ Hid (ChRow w' wr.heap.size (.slice a' (joinW k.wr cs).length c') (joinW k.wr cs)) ∧ Quiet wr w') := fun wr q => by
    obtain ⟨tag, H1⟩ := H.quiet q
    refine (merged_h wr _ k.wr (H1.wr i _ T.at_) hnd v cs (hch.quiet q) hwl hcl).mono fun e w' ⟨v', h1, h2, h3⟩ => ?_
    obtain ⟨a', c', e', -⟩ := row_at chgCells chgCells_len h2
    subst e'
    exact ⟨a', c', h1, h2, h3⟩
  have HCl : Hid (∀ wr, Quiet w wr → ∀ key, Calls Tryz.prog 186 #[.pointer (some ⟨m.sb, 0, none⟩), .int .i64 i, .string key] wr fun e w' => e = .returned (.bool (m.rs.clash k key)) ∧ Quiet wr w') := fun wr q key => rclash_h (H.quiet q) Bd hlen hv hi key
  have HT : Hid (∀ wr, Quiet w wr → ∀ (j : Nat) (r : RTx), m.rs.txs[j]? = some r → ∃ wa wc ra rc, TxAt wr m j r g cap wa wc ra rc ∧
      Calls Tryz.prog 181 #[.pointer (some ⟨m.sb, 0, none⟩), .int .i64 j, .int .i64 i] wr (fun e w' => e = .returned (.bool (k.over r)) ∧ Quiet wr w') ∧
      Calls Tryz.prog 187 #[.agg #[.int .i64 r.bg, .int .i64 r.cm, .int .i64 r.st, .int .i64 r.i, .int .i64 r.o, .slice wa r.wr.length wc, .slice ra r.rd.length rc], v] wr (fun e w' => e = .returned (.bool (readT cs r.tx)) ∧ Quiet wr w')) := fun wr q j r hr => by
    obtain ⟨wa, wc, ra, rc, T'⟩ := (H.quiet q).tx' T hr
    refine ⟨wa, wc, ra, rc, T', ?_, ?_⟩
    · obtain ⟨x, hx, rfl⟩ := rs_at hr
      obtain ⟨y, hy, rfl⟩ := rs_at hi
      obtain ⟨tag, H1⟩ := H.quiet q
      exact roverlap_h H1 hx hy hlen (hsOk_iff Bd.hs)
    · have hrl := Bd.rl r (List.mem_of_getElem? hr)
      exact rread_h wr _ _ _ _ _ _ ⟨_, _, _, rfl⟩ ra rc r.rd (by omega) (fun n p hp => (H.quiet q).rrow T' hp) v cs (hch.quiet q) (by omega)
  have HAb : Hid (∀ wr, Quiet w wr → Calls Tryz.prog 182 #[.pointer (some ⟨m.sb, 0, none⟩), .int .i64 ((i : Int) + 1)] wr fun e w' => e = .returned (.tuple #[]) ∧ RLeft w w' base m (m.rs.abort ((i : Int) + 1))) := fun wr q => ((H.quiet q).abort Bd.hs hlen hi).mono fun e w' ⟨h1, h2⟩ => ⟨h1, RLeft.before q h2⟩
  have HIn : Hid (∀ wr, Quiet w wr → RefIn wr base m ∧ ∀ b, m.has b → b < w.heap.size) := fun wr q => ⟨H.quiet q, fun b hb => (H.lt hb).2⟩
  have hbase : base ≤ w.heap.size := by obtain ⟨tag, H1⟩ := H; exact Nat.le_of_lt (Nat.lt_of_le_of_lt H1.hb (lt_of_heap H1.own))
  have HIo : Hid (∀ (j : Nat) (r : RTx), m.rs.txs[j]? = some r → (0 ≤ r.i ∧ r.i ≤ B) ∧ (0 ≤ r.o ∧ r.o ≤ B)) := fun j r hr => Bd.io r (List.mem_of_getElem? hr)
  have HHs := hidC' Bd.hs
  have HKi := hidC' hi
  have hln : m.rs.txs.length = m.txs.length := rs_len
  have HWA := hidC' (writeA_marks Bd.hs (List.mem_of_getElem? hi) cs)
  generalize hRR : m.rs.writeR k cs = RR
  have HRR : Hid (RR = if changesE cs ≠ 0 then (changesE cs, m.rs) else if m.c3 < ((joinW k.wr cs).length : Int) then (6, m.rs) else
    if (cs.any fun c => m.rs.clash k c.1) = true then (7, m.rs.abort k.h) else if m.rs.txs.any (fun x => k.past (readT cs) x && x.inn) = true then (8, m.rs.abort k.h) else (0, m.rs.writeA k cs)) := hidC' hRR.symm
  have hch0 := hch
  obtain ⟨⟨la, lcap, rfl, -⟩, -⟩ := hch0
  have hJl : (joinW k.wr cs).length ≤ 1048592 := by have := joinW_len_le cs k.wr; omega
  clear hRR H T Bd hi h0 hch hnd
  go_enter Tryz.func121, Tryz.ntmps121
  go_wp2_with (go_at_call 114; refine HA.out.mono ?_; rintro e w1 ⟨rfl, rfl⟩)
  clear HA
  go_loopw [8] (fun i wr => ∃ n : Nat, i = .int .i64 n ∧ n ≤ cs.length ∧ wr = w1 ∧ Hid (changesE cs = changesE (cs.drop n))) (fun i _ => cs.length - (intOf i).toNat)
  case atStart => exact ⟨0, rfl, Nat.zero_le _, rfl, by rw [List.drop_zero]; exact rfl⟩
  case round =>
    obtain ⟨n, rfl, hn, hw1, HE⟩ := hrel
    have hw1 := hw1.symm
    subst hw1
    by_cases hlt : n < cs.length
    · have hlt' : (n : Int) < (cs.length : Int) := by omega
      obtain ⟨⟨la', lcap', hlv, hlc⟩, -⟩ := HCh.out _ (Keeps.refl _ _)
      obtain ⟨rfl, -, rfl⟩ : la = la' ∧ True ∧ lcap = lcap' := by simpa using hlv
      rcases hlc with h0 | ⟨gl, o, rfl, hgl, hcell⟩
      · rw [h0] at hlt; simp at hlt
      obtain ⟨c, hc⟩ : ∃ c, cs[n]? = some c := ⟨_, List.getElem?_eq_getElem hlt⟩
      obtain ⟨l0, l1, l2⟩ := hcell n c hc
      have HS := hidC' (changes_step hc HE.out)
      have HL0 := hidC' (HL.out _ (Keeps.refl _ _))
      clear hcell hc HE HCh HMg HCl HT HAb HIn HIo HHs HKi HWA HK HL hlv
      by_cases hk1 : (c.1.size : Int) < 1
      · have HN : Hid (RR = (3, m.rs)) := hidC' (by rw [HRR.out, HS.out.1 (.inl hk1)]; rfl)
        clear HS HRR
        go_wp2
        go_ret
        rw [HN.out]; exact ⟨rfl, HL0.out⟩
      by_cases hk2 : 4 < (c.1.size : Int)
      · have HN : Hid (RR = (3, m.rs)) := hidC' (by rw [HRR.out, HS.out.1 (.inr hk2)]; rfl)
        clear HS HRR
        go_wp2
        go_ret
        rw [HN.out]; exact ⟨rfl, HL0.out⟩
      by_cases hk3 : 8 < (c.2.1.size : Int)
      · have HN : Hid (RR = (4, m.rs)) := hidC' (by rw [HRR.out, (HS.out.2 hk1 hk2).1 hk3]; rfl)
        clear HS HRR
        go_wp2
        go_ret
        rw [HN.out]; exact ⟨rfl, HL0.out⟩
      · have HN : Hid (changesE cs = changesE (cs.drop (n + 1))) := hidC' ((HS.out.2 hk1 hk2).2 hk3)
        clear HS HRR
        go_wp2
        exact ⟨⟨n + 1, by go_num, by omega, trivial, HN⟩, by simp [intOf]; omega⟩
    · have hge : ¬ (n : Int) < (cs.length : Int) := by omega
      have HE0 : Hid (changesE cs = 0) := hidC' (by have := HE.out; rw [List.drop_eq_nil_of_le (by omega)] at this; exact this)
      obtain ⟨T1, -⟩ := HK.out _ (Keeps.refl _ _)
      have c5 := T1.c5
      have p5 := T1.p5
      clear T1 HE
      generalize hJ : joinW k.wr cs = J at *
      have HJ := hidC' hJ
      clear hJ
      by_cases hfull : m.c3 < (J.length : Int)
      · have HN : Hid (RR = (6, m.rs)) := hidC' (by rw [HRR.out, HE0.out, if_neg (by simp), if_pos hfull])
        have HC3 : Hid (∀ w2, Quiet w1 w2 → w2.cell? ⟨m.sb, 2, none⟩ = some (.int .i64 m.c3)) := fun w2 q => (HK.out _ q).2
        clear HRR HK HCl HT HAb HIn HIo HHs HKi HWA HCh
        go_wp2_with (go_at_call 185; refine (HMg.out _ (Keeps.refl _ _)).mono ?_; rintro e w2 ⟨a', c', rfl, HRow, hq2⟩; have d2 := HC3.out _ hq2)
        go_ret
        rw [HN.out]; exact ⟨rfl, HL.out _ hq2⟩
      · have HR2 : Hid (RR = if (cs.any fun c => m.rs.clash k c.1) = true then (7, m.rs.abort k.h) else if m.rs.txs.any (fun x => k.past (readT cs) x && x.inn) = true then (8, m.rs.abort k.h) else (0, m.rs.writeA k cs)) := hidC' (by rw [HRR.out, HE0.out, if_neg (by simp), if_neg hfull])
        have HC3 : Hid (∀ w2, Quiet w1 w2 → w2.cell? ⟨m.sb, 2, none⟩ = some (.int .i64 m.c3)) := fun w2 q => (HK.out _ q).2
        clear HRR HE0 HL
        go_wp2_with (go_at_call 185; refine (HMg.out _ (Keeps.refl _ _)).mono ?_; rintro e w2 ⟨a', c', rfl, HRow, hq2⟩; have d2 := HC3.out _ hq2)
        clear HMg d2 HC3
        go_loopw [11] (fun jj wr => ∃ n : Nat, jj = .int .i64 n ∧ n ≤ cs.length ∧ Quiet w2 wr ∧ Hid ((cs.take n).any (fun c => m.rs.clash k c.1) = false)) (fun jj _ => cs.length - (intOf jj).toNat)
        case atStart => exact ⟨0, rfl, Nat.zero_le _, Keeps.refl _ _, rfl⟩
        case round =>
          obtain ⟨n3, rfl, hn3, hq3, HC⟩ := hrel
          have hqv3 := Quiet.trans' hq2 hq3
          by_cases hlt3 : n3 < cs.length
          · have hlt3' : (n3 : Int) < (cs.length : Int) := by omega
            obtain ⟨⟨la', lcap', hlv, hlc⟩, -⟩ := HCh.out _ hqv3
            obtain ⟨rfl, -, rfl⟩ : la = la' ∧ True ∧ lcap = lcap' := by simpa using hlv
            rcases hlc with h0 | ⟨gl, o, rfl, hgl, hcell⟩
            · rw [h0] at hlt3; simp at hlt3
            obtain ⟨c, hc⟩ : ∃ c, cs[n3]? = some c := ⟨_, List.getElem?_eq_getElem hlt3⟩
            obtain ⟨l0, -, -⟩ := hcell n3 c hc
            have HCc := hidC (HCl.out _ hqv3 c.1)
            have HS : Hid ((cs.take (n3 + 1)).any (fun c => m.rs.clash k c.1) = m.rs.clash k c.1) := hidC' (by rw [any_take_succ hc, HC.out, Bool.false_or])
            have HZ : Hid (m.rs.clash k c.1 = true → RR = (7, m.rs.abort ((i : Int) + 1))) := hidC' (fun h => by
              rw [HR2.out, if_pos (List.any_eq_true.2 ⟨c, List.mem_of_getElem? hc, h⟩), hkh])
            clear hcell hlv hc HC HR2 HCh HCl HT HIn HIo HHs HKi HWA HK HRow
            generalize m.rs.clash k c.1 = cl at *
            cases cl with
            | true =>
              have HN := hidC' (HZ.out rfl)
              clear HZ HS
              go_wp2_with (first
                | (go_at_call 186; refine HCc.out.mono ?_; rintro e w3 ⟨rfl, hq4⟩)
                | (go_at_call 182; refine (HAb.out _ (Quiet.trans' hqv3 hq4)).mono ?_; rintro e w4 ⟨rfl, hL4⟩))
              go_ret
              rw [HN.out]; exact ⟨rfl, hL4⟩
            | false =>
              clear HZ HAb
              go_wp2_with (go_at_call 186; refine HCc.out.mono ?_; rintro e w3 ⟨rfl, hq4⟩)
              exact ⟨⟨n3 + 1, by go_num, by omega, Quiet.trans' hq3 hq4, HS⟩, by simp [intOf]; omega⟩
          · have hge3 : ¬ (n3 : Int) < (cs.length : Int) := by omega
            have HR3 : Hid (RR = if m.rs.txs.any (fun x => k.past (readT cs) x && x.inn) = true then (8, m.rs.abort k.h) else (0, m.rs.writeA k cs)) := hidC' (by
              have h1 := HC.out
              rw [List.take_of_length_le (by omega)] at h1
              rw [HR2.out, h1]; rfl)
            obtain ⟨T3, -⟩ := HK.out _ hqv3
            have c5' := T3.c5
            have hrow3 : Hid (ChRow wr w1.heap.size (.slice a' J.length c') J) := hidC' (ownsRow_of_block HRow.out (fun b hb => hq3.block b (HRow.out.lt b hb).2 id))
            clear HR2 HC HRow HCl T3
            generalize hPp : k.past (readT cs) = P at *
            have HPx : Hid (∀ y : RTx, P y = (k.over y && readT cs y.tx)) := fun y => by rw [← hPp]; rfl
            clear hPp
            obtain ⟨W3, hW3⟩ : ∃ W3, W3 = wr := ⟨wr, rfl⟩
            subst hW3
            go_wp2
            go_loopw [13, 14] (fun pv j wr' => ∃ n : Nat, j = .int .i64 n ∧ n ≤ m.txs.length ∧ Quiet W3 wr' ∧ Hid (IxAt wr' W3.heap.size pv (pidx m.rs.txs P n))) (fun _ j _ => m.txs.length - (intOf j).toNat)
            case atStart => exact ⟨0, rfl, Nat.zero_le _, Keeps.refl _ _, World.ownsRow_nil _ _ _ _⟩
            case round =>
              obtain ⟨n4, rfl, hn4, hq4, HIx⟩ := hrel
              have hqv4 := Quiet.trans' hqv3 hq4
              obtain ⟨pa, pc, rfl, -⟩ := HIx.out.at
              have hpl := pidx_len (l := m.rs.txs) (P := P) n4
              by_cases hlt4 : n4 < m.txs.length
              · have hlt4' : (n4 : Int) < (m.txs.length : Int) := by omega
                obtain ⟨x2, hx2⟩ : ∃ x2, m.rs.txs[n4]? = some x2 := ⟨_, List.getElem?_eq_getElem (by rw [hln]; exact hlt4)⟩
                obtain ⟨wa2, wc2, ra2, rc2, T2, hov2, -⟩ := HT.out _ hqv4 n4 x2 hx2
                have d5 := T2.c5
                have HPn := hidC' (pidx_succ (P := P) hx2)
                have HPv := hidC' (HPx.out x2)
                have HOv := hidC hov2
                have HX2 := hidC' hx2
                generalize hPN : pidx m.rs.txs P n4 = PN at *
                generalize hov : k.over x2 = ov at *
                generalize hrv : readT cs x2.tx = rv at *
                have HRv : Hid (∀ w5, Quiet w1 w5 → ∃ wa wc ra rc, TxAt w5 m n4 x2 g cap wa wc ra rc ∧ Calls Tryz.prog 187 #[.agg #[.int .i64 x2.bg, .int .i64 x2.cm, .int .i64 x2.st, .int .i64 x2.i, .int .i64 x2.o, .slice wa x2.wr.length wc, .slice ra x2.rd.length rc], .slice la cs.length lcap] w5 (fun e w' => e = .returned (.bool rv) ∧ Quiet w5 w')) := fun w5 q => by
                  obtain ⟨wa, wc, ra, rc, T5, -, h5⟩ := HT.out _ q n4 x2 HX2.out
                  rw [hrv] at h5
                  exact ⟨wa, wc, ra, rc, T5, h5⟩
                clear hPN hov hrv T2 hov2 hx2 HT HK HAb HIn HR3 HIo HHs HKi HWA HPx HCh HX2 c5' hrow3
                cases ov with
                | false =>
                  have HE : Hid (pidx m.rs.txs P (n4 + 1) = PN) := hidC' (by rw [HPn.out, HPv.out]; simp)
                  clear HPn HPv HRv
                  go_wp2_with (go_at_call 181; refine HOv.out.mono ?_; rintro e w8 ⟨rfl, hq8⟩)
                  all_goals exact ⟨⟨n4 + 1, by go_num, by omega, Quiet.trans' hq4 hq8, hidC' (by rw [HE.out]; exact HIx.out.quiet hq8)⟩, by simp [intOf]; omega⟩
                | true =>
                  go_wp2_with (first
                    | (go_at_call 181; refine HOv.out.mono ?_; rintro e w8 ⟨rfl, hq8⟩; obtain ⟨wa5, wc5, ra5, rc5, T5, h5⟩ := HRv.out _ (Quiet.trans' hqv4 hq8); have e5 := T5.c5; have t0 := T5.p0; have t1 := T5.p1; have t2 := T5.p2; have t3 := T5.p3; have t4 := T5.p4; have t5 := T5.p5; have t6 := T5.p6; have H5 := hidC h5; clear T5 h5 HOv)
                    | fail)
                  go_at_call 187
                  refine H5.out.mono ?_
                  rintro e w9 ⟨rfl, hq9⟩
                  clear H5 HRv t0 t1 t2 t3 t4 t5 t6 e5
                  have hix9 := (HIx.out.quiet hq8).quiet hq9
                  have hown9 : w9.ownsRow W3.heap.size 3 1 (.slice pa PN.length pc) PN.length (PN.map fun n : Nat => Value.int .i64 (n : Int)) := hix9
                  have hq49 := Quiet.trans' hq4 (Quiet.trans' hq8 hq9)
                  have hs9 := hq49.size
                  cases rv with
                  | false =>
                    have HE : Hid (pidx m.rs.txs P (n4 + 1) = PN) := hidC' (by rw [HPn.out, HPv.out]; simp)
                    clear HPn HPv hown9
                    go_wp2
                    exact ⟨⟨n4 + 1, by go_num, by omega, hq49, hidC' (by rw [HE.out]; exact hix9)⟩, by simp [intOf]; omega⟩
                  | true =>
                    have HE : Hid (pidx m.rs.txs P (n4 + 1) = PN ++ [n4]) := hidC' (by rw [HPn.out, HPv.out]; rfl)
                    obtain ⟨i0, hi0, hz0, hz1, hz2⟩ := info_parts info_int
                    clear HPn HPv hix9 HIx
                    go_wp2_with (at_builtin; refine wpList_append_own_at _ rfl _ _ 75 rfl W3.heap.size 3 i0 (.int .i64 0) 1 8 Tryz.underlying75 hi0 hz0 hz1 hz2 rfl (by decide) _ _ _ (by simp [go_sem]) (hown9.alloc _) ⟨w9.heap.size, 0, none⟩ 1 1 [.int .i64 n4] (by simp [go_sem]) rfl (cell_oneNew w9 _ 3) (by simp [Value.oneCell']) (by unfold maxLen; omega) (by omega) (by simp; omega) ?_)
                    intro v' w5 hown5 hgrow hnil hloc
                    have k5 := keeps_of_grown hgrow
                    have hlo5 := hown9.lt
                    have hq5 : Quiet W3 w5 := Quiet.of_new (Quiet.trans' hq49 (Keeps.alloc _ _)) k5 (fun b hb => (hlo5 b hb).1)
                    have hown6 : Hid (IxAt w5 W3.heap.size v' (pidx m.rs.txs P (n4 + 1))) := hidC' (by rw [HE.out]; exact IxAt.snoc hown5)
                    clear hown5 hgrow hnil hloc k5 hlo5 hown9 HE
                    go_wp2
                    go_roundw
                    case rel => exact ⟨n4 + 1, by go_num, by omega, hq5, hown6⟩
                    case measure => simp [intOf]; omega
              · have hge4 : ¬ (n4 : Int) < (m.txs.length : Int) := by omega
                have hn4e : n4 = m.rs.txs.length := by omega
                have HMem : Hid (∀ (q p : Nat), (pidx m.rs.txs P n4)[q]? = some p → ∃ y, m.rs.txs[p]? = some y ∧ P y = true) := fun q p hp => by
                  obtain ⟨h1, y, h2, h3⟩ := pidx_mem.1 (List.mem_of_getElem? hp)
                  exact ⟨y, h2, h3⟩
                have HAny : Hid ((∀ (q p : Nat) (y : RTx), (pidx m.rs.txs P n4)[q]? = some p → m.rs.txs[p]? = some y → y.inn = false) → m.rs.txs.any (fun y => P y && y.inn) = false) := fun hall => by
                  rw [List.any_eq_false]
                  intro y hy
                  obtain ⟨p, hp⟩ := List.getElem?_of_mem hy
                  cases hP : P y with
                  | false => simp
                  | true =>
                    have hm : p ∈ pidx m.rs.txs P n4 := pidx_mem.2 ⟨by rw [hn4e]; exact (List.getElem?_eq_some_iff.1 hp).1, y, hp, hP⟩
                    obtain ⟨q, hq⟩ := List.getElem?_of_mem hm
                    simp [hall q p y hq hp]
                have HNd := hidC' (pidx_nd (l := m.rs.txs) (P := P) n4)
                rw [← hn4e] at HWA
                generalize hPI : pidx m.rs.txs P n4 = PI at *
                clear hPI
                obtain ⟨T0, -⟩ := HK.out _ hqv4
                have d5 := T0.c5
                clear T0
                obtain ⟨W4, hW4⟩ : ∃ W4, W4 = wr := ⟨wr, rfl⟩
                subst hW4
                go_wp2
                go_loopw [17] (fun jj wr' => ∃ j : Nat, jj = .int .i64 j ∧ j ≤ PI.length ∧ Quiet W4 wr' ∧ Hid (∀ (q p : Nat) (y : RTx), q < j → PI[q]? = some p → m.rs.txs[p]? = some y → y.inn = false)) (fun jj _ => PI.length - (intOf jj).toNat)
                case atStart => exact ⟨0, rfl, Nat.zero_le _, Keeps.refl _ _, fun q p y h => absurd h (by omega)⟩
                case round =>
                  obtain ⟨j, rfl, hj, hq5, HO4⟩ := hrel
                  have hqv5 := Quiet.trans' hqv4 hq5
                  have hix5 := HIx.out.quiet hq5
                  by_cases hjl : j < PI.length
                  · have hjl' : (j : Int) < (PI.length : Int) := by omega
                    obtain ⟨p4, hp4⟩ : ∃ p4, PI[j]? = some p4 := ⟨_, List.getElem?_eq_getElem hjl⟩
                    obtain ⟨y, hy, hPy⟩ := HMem.out j p4 hp4
                    obtain ⟨pa', pc', epa, hprow⟩ := hix5.at
                    obtain ⟨rfl, -, rfl⟩ : pa = pa' ∧ True ∧ pc = pc' := by simpa using epa
                    rcases hprow with h0' | ⟨gp, rfl, -, -, hgp, hpcell⟩
                    · rw [h0'] at hjl; simp at hjl
                    have l4 := hpcell j p4 hp4
                    obtain ⟨wa4, wc4, ra4, rc4, T4, -, -⟩ := HT.out _ hqv5 p4 y hy
                    have hp4l : (p4 : Int) < (m.txs.length : Int) := by have := T4.hi; omega
                    have c5'' := T4.c5
                    have q0 := T4.p0
                    have q1 := T4.p1
                    have q2 := T4.p2
                    have q3 := T4.p3
                    have q4 := T4.p4
                    have q5 := T4.p5
                    have q6 := T4.p6
                    have z1 := T4.hsb
                    have z2 := T4.hg
                    have z1' := Nat.ne_of_lt z1
                    have z2' := Nat.ne_of_lt z2
                    have z3' := Nat.ne_of_lt hgp
                    have HRy : Hid (y.inn = true → RR = (8, m.rs.abort ((i : Int) + 1))) := fun h => by
                      rw [HR3.out, if_pos, hkh]
                      exact List.any_eq_true.2 ⟨y, List.mem_of_getElem? hy, by rw [hPy, h]; rfl⟩
                    have HO5 : Hid (y.inn = false → ∀ (q p : Nat) (y : RTx), q < j + 1 → PI[q]? = some p → m.rs.txs[p]? = some y → y.inn = false) := fun h q p z hq hp hz => by
                      by_cases e : q = j
                      · subst e
                        rw [hp4] at hp
                        obtain rfl := Option.some.inj hp
                        rw [hy] at hz
                        obtain rfl := Option.some.inj hz
                        exact h
                      · exact HO4.out q p z (by omega) hp hz
                    have hou : y.inn = (!decide (y.st = 0) && decide (0 < y.i)) := rfl
                    have HOu := hidC' hou
                    clear hou hpcell T4 hy hPy hp4 HO4 HMem HAny HNd HT HK HIn HR3 HWA HIo HHs HKi HPx HIx hix5 epa c5' d5 hrow3 HCh
                    go_wp2
                    go_region
                    have hqz : Quiet wr ((wr.alloc (.cells #[.int .i64 y.bg, .int .i64 y.cm, .int .i64 y.st, .int .i64 y.i, .int .i64 y.o, .slice wa4 y.wr.length wc4, .slice ra4 y.rd.length rc4] 197)).drew) := Quiet.trans' (Keeps.alloc _ _) (Keeps.drew _)
                    have s2 : ((wr.alloc (.cells #[.int .i64 y.bg, .int .i64 y.cm, .int .i64 y.st, .int .i64 y.i, .int .i64 y.o, .slice wa4 y.wr.length wc4, .slice ra4 y.rd.length rc4] 197)).drew).cell? ⟨wr.heap.size, 2, none⟩ = some (.int .i64 y.st) := (cell_of_heap (w := (wr.alloc _).drew) (heap_alloc_new wr _)).trans rfl
                    have s4 : ((wr.alloc (.cells #[.int .i64 y.bg, .int .i64 y.cm, .int .i64 y.st, .int .i64 y.i, .int .i64 y.o, .slice wa4 y.wr.length wc4, .slice ra4 y.rd.length rc4] 197)).drew).cell? ⟨wr.heap.size, 3, none⟩ = some (.int .i64 y.i) := (cell_of_heap (w := (wr.alloc _).drew) (heap_alloc_new wr _)).trans rfl
                    generalize (wr.alloc (.cells #[.int .i64 y.bg, .int .i64 y.cm, .int .i64 y.st, .int .i64 y.i, .int .i64 y.o, .slice wa4 y.wr.length wc4, .slice ra4 y.rd.length rc4] 197)).drew = WZ at *
                    clear q0 q1 q2 q3 q4 q5 q6 c5'' l4
                    generalize y.st = ys at *
                    generalize y.i = yo at *
                    by_cases hs : ys = 0
                    · subst hs
                      have HN := hidC' (HO5.out (by rw [HOu.out]; rfl))
                      clear HO5 HRy HOu HAb
                      go_wp2
                      exact ⟨⟨j + 1, by go_num, by omega, Quiet.trans' hq5 hqz, HN⟩, by simp [intOf]; omega⟩
                    have hs' : (ys == 0) = false := by simpa using hs
                    by_cases ho : 0 < yo
                    · have HZ := hidC' (HRy.out (by rw [HOu.out]; simp [hs, ho]))
                      have HAz := hidC (HAb.out WZ (Quiet.trans' hqv5 hqz))
                      clear HO5 HRy HOu HAb
                      go_wp2_with (go_at_call 182; refine HAz.out.mono ?_; rintro e w9 ⟨rfl, hL9⟩)
                      go_ret
                      rw [HZ.out]
                      exact ⟨rfl, hL9⟩
                    · have HN := hidC' (HO5.out (by rw [HOu.out]; simp [ho]))
                      clear HO5 HRy HOu HAb
                      go_wp2
                      exact ⟨⟨j + 1, by go_num, by omega, Quiet.trans' hq5 hqz, HN⟩, by simp [intOf]; omega⟩
                  · have hjge : ¬ (j : Int) < (PI.length : Int) := by omega
                    have HRf : Hid (RR = (0, m.rs.writeA k cs)) := hidC' (by
                      rw [HR3.out, if_neg]
                      rw [HAny.out (fun q p y hp hy => HO4.out q p y (by have := (List.getElem?_eq_some_iff.1 hp).1; omega) hp hy)]
                      simp)
                    have hml := (HIn.out _ hqv5).2
                    obtain ⟨W5, hW5⟩ : ∃ W5, W5 = wr := ⟨wr, rfl⟩
                    subst hW5
                    have hI5 := (HIn.out _ hqv5).1
                    have hs3 := hqv3.size
                    have hs35 := (Quiet.trans' hq4 hq5).size
                    have hrow5 : ChRow W5 w1.heap.size (.slice a' J.length c') J := ownsRow_of_block hrow3.out (fun b hb => (Quiet.trans' hq4 hq5).block b (hrow3.out.lt b hb).2 id)
                    have hrl3 := hrow3.out.lt
                    have HSt : Hid (∀ (wx : World) (m' : MRef) (n5 p5 : Nat), MarkJ W5 wx base m m.rs i PI n5 m' → PI[n5]? = some p5 → p5 ≠ i ∧ m'.sb = m.sb ∧ ∃ ov iv g5 cap5, (0 ≤ ov ∧ ov ≤ 2305843009213693952) ∧ (0 ≤ iv ∧ iv ≤ 2305843009213693952) ∧ BumpsQ wx base m' p5 i ov iv g5 cap5 ∧ m'.txs.length = m.txs.length ∧ ∃ gp, pa = some ⟨gp, 0, none⟩ ∧ wx.cell? ⟨gp, n5, none⟩ = some (.int .i64 p5)) := fun wx m' n5 p5 M5 hp5 => by
                      obtain ⟨y5, hy5, hPy5⟩ := HMem.out n5 p5 hp5
                      have hne5 : p5 ≠ i := fun e => by
                        subst e
                        rw [HKi.out] at hy5
                        obtain rfl := Option.some.inj hy5
                        rw [HPx.out, over_self] at hPy5
                        cases hPy5
                      obtain ⟨ov, iv, g5, cap5, ho5, hi5, Bu, hl5⟩ := M5.facts HHs.out HKi.out hy5 hB (by omega) (HIo.out i k HKi.out).1 (HIo.out p5 y5 hy5).2
                      obtain ⟨pa', pc', epa, hprow⟩ := hix5.at
                      obtain ⟨rfl, -, rfl⟩ : pa = pa' ∧ True ∧ pc = pc' := by simpa using epa
                      rcases hprow with h0' | ⟨gp, rfl, hob, hgb, hgp, hpcell⟩
                      · rw [h0'] at hp5; simp at hp5
                      have hnm : ¬ m.has gp := fun h => by have := hml gp h; omega
                      have hcw : wx.heap[gp]? = W5.heap[gp]? := M5.turn.keeps.block gp hgp hnm
                      exact ⟨hne5, M5.turn.sb, ov, iv, g5, cap5, ho5, hi5, Bu, by rw [hl5]; exact hln, gp, rfl, (World.cell?_of_block (a := ⟨gp, n5, none⟩) hcw).trans (hpcell n5 p5 hp5)⟩
                    have HM0 : Hid (MarkJ W5 W5 base m m.rs i PI 0 m) := ⟨hI5, RTurn.refl _ _, by simp only [List.take_zero]; rw [show hsOf [] = [] from rfl]; rw [show (markW ((i : Int) + 1) []) = id from funext (markW_nil _)]; rw [List.map_id]⟩
                    have HFin : Hid (∀ wx m', MarkJ W5 wx base m m.rs i PI PI.length m' → ∃ g6 cap6 wv6, wx.cell? ⟨m.sb, 5, none⟩ = some (.slice (some ⟨g6, 0, none⟩) m.txs.length cap6) ∧ wx.cell? ⟨g6, i * 7 + 5, none⟩ = some wv6 ∧ wx.frozen? ⟨g6, i * 7 + 5, none⟩ = false ∧ RLeft w1 (wx.setCell ⟨g6, i * 7 + 5, none⟩ (.slice a' J.length c')) base m RR.2) := fun wx m' M5 => by
                      have hk' : m'.rs.txs[i]? = some (markW ((i : Int) + 1) (hsOf (PI.take PI.length)) k) := by rw [M5.rs]; show (m.rs.txs.map _)[i]? = _; rw [List.getElem?_map, HKi.out]; rfl
                      have hh' : m'.rs.hsOk := by rw [M5.rs]; exact HHs.out.map _ (fun _ => rfl)
                      obtain ⟨g6, cap6, wa6, wc6, ra6, rc6, T6⟩ := M5.is.tx hk'
                      have hl6 : m'.txs.length = m.txs.length := by rw [← rs_len, M5.rs]; show (m.rs.txs.map _).length = _; rw [List.length_map]; exact hln
                      have hfree : ∀ b, (Value.slice a' J.length c').ownBlock = some b → ¬ m'.has b := fun b hb h => by
                        have hb' := hrl3 b hb
                        rcases M5.turn.fresh b h with h | h
                        · have := hml b h; omega
                        · omega
                      have hrow6 : ChRow wx base (.slice a' J.length c') J := ownsRow_low (ownsRow_of_block hrow5 (fun b hb => M5.turn.keeps.block b (hrow5.lt b hb).2 (fun h => by have := hml b h; have := (hrow5.lt b hb).1; omega))) hbase
                      obtain ⟨m7, h1, h2, h3, h4, h5⟩ := M5.is.giveWrites hh' T6.at_ T6.ho hrow6 hfree
                      refine ⟨g6, cap6, _, by rw [← M5.turn.sb, ← hl6]; exact T6.c5, T6.p5, T6.fz _, m7, h1, ⟨?_, fun b hb => ?_, h4.trans M5.turn.sb⟩, ?_⟩
                      · refine ((RTurn.quiet m hqv5).trans M5.turn).keeps.trans h2 (fun b hb => ?_)
                        rcases M5.turn.fresh b hb with h | h
                        · exact .inl h
                        · exact .inr (by have := hqv5.size; omega)
                      · rcases h3 b hb with h | h
                        · rcases M5.turn.fresh b h with h | h
                          · exact .inl h
                          · exact .inr (by have := hqv5.size; omega)
                        · exact .inr (hrl3 b h).1
                      · rw [h5, M5.rs, HRf.out, List.take_length, ← hkh]
                        exact HWA.out
                    have HRz : Hid (RR.1 = 0) := hidC' (by rw [HRf.out])
                    clear HRf HMem HAny HO4 HIo HHs HKi HPx HIn HWA hml hI5 hrow5 hrl3 hix5 HIx HR3 HT HK HAb HCh hrow3
                    go_wp2
                    go_loopw [19] (fun jj wr' => ∃ (j : Nat) (m' : MRef), jj = .int .i64 j ∧ j ≤ PI.length ∧ Hid (MarkJ W5 wr' base m m.rs i PI j m')) (fun jj _ => PI.length - (intOf jj).toNat)
                    case atStart => exact ⟨0, m, rfl, Nat.zero_le _, HM0⟩
                    case round =>
                      obtain ⟨j5, m', rfl, hj5, HM⟩ := hrel
                      by_cases hj5l : j5 < PI.length
                      · have hj5l' : (j5 : Int) < (PI.length : Int) := by omega
                        obtain ⟨p5, hp5⟩ : ∃ p5, PI[j5]? = some p5 := ⟨_, List.getElem?_eq_getElem hj5l⟩
                        obtain ⟨hne5, hsb5, ov, iv, g5, cap5, ho5, hi5, Bu, hl5, gp, rfl, l5⟩ := HSt.out _ _ _ _ HM.out hp5
                        have HNx : Hid (∀ wz, Quiet (wr.setCell ⟨g5, p5 * 7 + 4, none⟩ (.int .i64 (ov + 1))) wz → wz.cell? ⟨m.sb, 5, none⟩ = some (.slice (some ⟨g5, 0, none⟩) m.txs.length cap5) ∧ wz.cell? ⟨g5, i * 7 + 3, none⟩ = some (.int .i64 iv) ∧ wz.frozen? ⟨g5, i * 7 + 3, none⟩ = false ∧ ∃ m'', Hid (MarkJ W5 (wz.setCell ⟨g5, i * 7 + 3, none⟩ (.int .i64 (iv + 1))) base m m.rs i PI (j5 + 1) m'')) := fun wz q => by
                          obtain ⟨x1, x2, x3, x4⟩ := Bu.next wz q
                          obtain ⟨m'', hM''⟩ := HM.out.step hp5 HNd.out hne5 x4
                          exact ⟨by rw [← hsb5, ← hl5]; exact x1, x2, x3, m'', hM''⟩
                        have d5' := Bu.c5
                        have p4' := Bu.p4
                        have f4 := Bu.f4
                        rw [hsb5, hl5] at d5'
                        have hb5 : (p5 : Int) < (m.txs.length : Int) := by have := Bu.ha; omega
                        have hib : (i : Int) < (m.txs.length : Int) := by omega
                        clear Bu HM hp5 HSt HM0 HFin HRz hne5 hsb5 hl5 HNd
                        go_wp2
                        go_region
                        obtain ⟨y1, y2, y3, m'', HM2⟩ := HNx.out _ (Keeps.drew _)
                        clear d5' p4' f4 l5 HNx
                        generalize (wr.setCell ⟨g5, p5 * 7 + 4, none⟩ (.int .i64 (ov + 1))).drew = W6 at *
                        go_wp2
                        exact ⟨⟨j5 + 1, m'', by go_num, by omega, HM2⟩, by simp [intOf]; omega⟩
                      · have hge5 : ¬ (j5 : Int) < (PI.length : Int) := by omega
                        have hj5e : j5 = PI.length := by omega
                        subst hj5e
                        obtain ⟨g6, cap6, wv6, x1, x2, x3, hL⟩ := HFin.out _ _ HM.out
                        have hib : (i : Int) < (m.txs.length : Int) := by omega
                        have HL5 := hidC' hL
                        clear hL HFin HSt HM0 HM
                        go_wp2
                        go_ret
                        exact ⟨by rw [HRz.out]; rfl, HL5.out⟩

end
end Go.Proofs.YthfimgeopciiiaaGreat
