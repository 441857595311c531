/-
  The laws' own helpers: whole, proper, opened.
-/
import Derived.Test.YthfimgeopciiiaaGreatSim
namespace Go.Proofs.YthfimgeopciiiaaGreat
open Go.MapKept Go.ChangeMaps Go.Maps Go.RowKit Go.MuLone

set_option maxRecDepth 100000 in
set_option maxHeartbeats 1000000 in
theorem whole_h (w : World) : Calls Tryz.prog 21 #[] w fun e w' => e = .returned (.agg #[.int .i64 32, .int .i64 64, .int .i64 16, .int .i64 128]) ∧ Quiet w w' := by
  go_enter Tryz.func21, Tryz.ntmps21
  go_wp2
  have hq : Quiet w (w.alloc (.cells #[.int .i64 32, .int .i64 64, .int .i64 16, .int .i64 128] 23)) := Keeps.alloc _ _
  have eb : (w.alloc (.cells #[.int .i64 32, .int .i64 64, .int .i64 16, .int .i64 128] 23)).heap[w.heap.size]? = some (.cells #[.int .i64 32, .int .i64 64, .int .i64 16, .int .i64 128] 23) := heap_alloc_new w _
  generalize w.alloc (.cells #[.int .i64 32, .int .i64 64, .int .i64 16, .int .i64 128] 23) = Y at *
  have e0 := cell_of_heap (i := 0) eb
  have e1 := cell_of_heap (i := 1) eb
  have e2 := cell_of_heap (i := 2) eb
  have e3 := cell_of_heap (i := 3) eb
  simp at e0 e1 e2 e3
  exact bodyPost_ret (v := .agg #[.int .i64 32, .int .i64 64, .int .i64 16, .int .i64 128]) (by simp [results, Tryz.results21, go_sem, e0, e1, e2, e3]) rfl ⟨rfl, hq⟩

set_option maxRecDepth 100000 in
set_option maxHeartbeats 4000000 in
theorem proper_any (a b c d : Int) (w : World) :
    Calls Tryz.prog 40 #[.agg #[.int .i64 a, .int .i64 b, .int .i64 c, .int .i64 d]] w fun e w' => e = .returned (.bool (configB a b c d)) ∧ Quiet w w' := by
  have eq : configB a b c d = decide ((1 ≤ a ∧ a ≤ 32) ∧ (1 ≤ b ∧ b ≤ 64) ∧ (1 ≤ c ∧ c ≤ 16) ∧ (1 ≤ d ∧ d ≤ 128)) := by
    rw [Bool.eq_iff_iff]; simp [configB, withinB]; omega
  have H : Hid (configB a b c d = decide ((1 ≤ a ∧ a ≤ 32) ∧ (1 ≤ b ∧ b ≤ 64) ∧ (1 ≤ c ∧ c ≤ 16) ∧ (1 ≤ d ∧ d ≤ 128))) := eq
  clear eq
  go_enter Tryz.func40, Tryz.ntmps40
  go_wp2
  all_goals go_ret
  all_goals refine ⟨ret_bool ?_, Keeps.alloc _ _⟩
  all_goals rw [H.out]
  all_goals first | (rw [decide_eq_decide]; omega) | (symm; rw [decide_eq_false_iff_not]; omega)

set_option maxRecDepth 100000 in
set_option maxHeartbeats 1000000 in
theorem opened_ok (a b c d : Int) (w : World) (h : configB a b c d = true) :
    Calls Tryz.prog 13 #[.agg #[.int .i64 a, .int .i64 b, .int .i64 c, .int .i64 d]] w fun e w' => ∃ N, e = .returned (.tuple #[.pointer (some ⟨N + 2, 0, none⟩), .bool true]) ∧ w.heap.size ≤ N ∧ StAt w' (newSto a b c d N (N + 2)) ∧ Quiet w w' := by
  have HN : Hid (∀ o, Calls Tryz.prog 35 #[.agg #[.int .i64 a, .int .i64 b, .int .i64 c, .int .i64 d]] (w.alloc o) fun e w' => ∃ N, e = .returned (.tuple #[.pointer (some ⟨N + 2, 0, none⟩), .int .i64 0]) ∧ w.heap.size ≤ N ∧ StAt w' (newSto a b c d N (N + 2)) ∧ Quiet w w' ∧ w'.heap[w.heap.size]? = some o) := fun o => by
    refine (New_ok a b c d (w.alloc o) h).mono fun e w' ⟨N, h1, h2, h3, h4⟩ => ⟨N, h1, by simp at h2; omega, h3, Quiet.trans' (Keeps.alloc _ _) h4, newBlock_kept h4⟩
  have HP : Hid (∀ W, Calls Tryz.prog 40 #[.agg #[.int .i64 a, .int .i64 b, .int .i64 c, .int .i64 d]] W fun e w' => e = .returned (.bool true) ∧ Quiet W w') := fun W => by rw [← h]; exact proper_any a b c d W
  have hneq : ∀ (g : Nat) (W : World), (binOp .neq 29 (.pointer (some ⟨g, 0, none⟩)) (.pointer none)).run Tryz.prog W = .ok (.bool true) W := fun g W => by kernel_rfl
  go_enter Tryz.func13, Tryz.ntmps13
  go_wp2_with (first
    | (go_at_call 35; refine (HN.out _).mono ?_; rintro e w2 ⟨N, rfl, hN, hS, hq2, hb⟩; have b0 := cell_of_heap (i := 0) hb; have b1 := cell_of_heap (i := 1) hb; have b2 := cell_of_heap (i := 2) hb; have b3 := cell_of_heap (i := 3) hb; simp at b0 b1 b2 b3)
    | (go_at_call 40; refine (HP.out _).mono ?_; rintro e w3 ⟨rfl, hq3⟩))
  go_ret2
  exact ⟨N, rfl, hN, hS.quiet hq3, Quiet.trans' hq2 hq3⟩

set_option maxRecDepth 100000 in
set_option maxHeartbeats 1000000 in
theorem opened_bad (a b c d : Int) (w : World) (h : configB a b c d = false) :
    Calls Tryz.prog 13 #[.agg #[.int .i64 a, .int .i64 b, .int .i64 c, .int .i64 d]] w fun e w' => e = .returned (.tuple #[.pointer none, .bool true]) ∧ Quiet w w' := by
  have HN : Hid (∀ o, Calls Tryz.prog 35 #[.agg #[.int .i64 a, .int .i64 b, .int .i64 c, .int .i64 d]] (w.alloc o) fun e w' => e = .returned (.tuple #[.pointer none, .int .i64 1]) ∧ Quiet w w' ∧ w'.heap[w.heap.size]? = some o) := fun o => by
    refine (New_bad a b c d (w.alloc o) h).mono fun e w' ⟨h1, h4⟩ => ⟨h1, Quiet.trans' (Keeps.alloc _ _) h4, newBlock_kept h4⟩
  have HP : Hid (∀ W, Calls Tryz.prog 40 #[.agg #[.int .i64 a, .int .i64 b, .int .i64 c, .int .i64 d]] W fun e w' => e = .returned (.bool false) ∧ Quiet W w') := fun W => by rw [← h]; exact proper_any a b c d W
  have hneq : ∀ (W : World), (binOp .eql 29 (.pointer none) (.pointer none)).run Tryz.prog W = .ok (.bool true) W := fun W => by kernel_rfl
  go_enter Tryz.func13, Tryz.ntmps13
  go_wp2_with (first
    | (go_at_call 35; refine (HN.out _).mono ?_; rintro e w2 ⟨rfl, hq2, hb⟩; have b0 := cell_of_heap (i := 0) hb; have b1 := cell_of_heap (i := 1) hb; have b2 := cell_of_heap (i := 2) hb; have b3 := cell_of_heap (i := 3) hb; simp at b0 b1 b2 b3)
    | (go_at_call 40; refine (HP.out _).mono ?_; rintro e w3 ⟨rfl, hq3⟩))
  go_ret2
  exact ⟨rfl, Quiet.trans' hq2 hq3⟩

/-- two tables, as they lie in memory -/
def PrAt (w : World) (v : Value) (l : List (ByteArray × ByteArray)) : Prop :=
  ∃ a cap, v = .slice a l.length cap ∧ (l = [] ∨ ∃ g o, a = some ⟨g, o, none⟩ ∧ g < w.heap.size ∧ ∀ i p, l[i]? = some p → w.cell? ⟨g, o + i * 2, none⟩ = some (.string p.1) ∧ w.cell? ⟨g, o + i * 2 + 1, none⟩ = some (.string p.2))

theorem getElem_pairCells : ∀ (l : List (ByteArray × ByteArray)) (i : Nat) (p : ByteArray × ByteArray), l[i]? = some p → (l.flatMap pairCells)[i * 2]? = some (.string p.1) ∧ (l.flatMap pairCells)[i * 2 + 1]? = some (.string p.2)
  | [], i, x, h => by simp at h
  | y :: l, 0, x, h => by simp at h; subst h; simp [pairCells]
  | y :: l, i + 1, x, h => by
    have h' : l[i]? = some x := by simpa using h
    have := getElem_pairCells l i x h'
    rw [show (i + 1) * 2 + 1 = (i * 2 + 1) + 2 by omega, show (i + 1) * 2 = i * 2 + 2 by omega]
    simp only [List.flatMap_cons, pairCells, List.cons_append, List.nil_append, List.getElem?_cons_succ]
    exact this

theorem PrAt.of_sl {w : World} {N : Nat} {v : Value} {l : List (ByteArray × ByteArray)} (h : PrSl N w v l) : PrAt w v l := by
  rcases h.2 with ⟨e, h0⟩ | ⟨g, cap, cur, e, _, hg, h1, h2, h3, h4⟩
  · exact ⟨none, 0, by rw [e, h0], .inl (List.eq_nil_of_length_eq_zero h0)⟩
  · refine ⟨_, cap, e, .inr ⟨g, 0, rfl, lt_of_heap hg, fun i p hp => ?_⟩⟩
    have hi : i < l.length := (List.getElem?_eq_some_iff.1 hp).1
    obtain ⟨p1, p2⟩ := getElem_pairCells l i p hp
    rw [← h4] at p1 p2
    rw [List.getElem?_take, if_pos (by omega)] at p1 p2
    simp only [cell_of_heap hg, Nat.zero_add]
    exact ⟨by simpa using p1, by simpa using p2⟩

theorem PrAt.quiet {w w' : World} {v : Value} {l : List (ByteArray × ByteArray)} (h : PrAt w v l) (k : Quiet w w') : PrAt w' v l := by
  obtain ⟨a, cap, e, hc⟩ := h
  refine ⟨a, cap, e, ?_⟩
  rcases hc with h0 | ⟨g, o, ea, hg, hcell⟩
  · exact .inl h0
  · exact .inr ⟨g, o, ea, Nat.lt_of_lt_of_le hg k.size, fun i p hp => by simp only [k.cell hg (by simp)]; exact hcell i p hp⟩

set_option maxRecDepth 100000 in
set_option maxHeartbeats 4000000 in
/-- a table is the same as itself -/
theorem same_self (w : World) (v u : Value) (l : List (ByteArray × ByteArray)) (hv : PrAt w v l) (hu : PrAt w u l) (hl : l.length ≤ 9223372036854775807) :
    Calls Tryz.prog 17 #[v, u] w fun e w' => e = .returned (.bool true) ∧ Quiet w w' := by
  obtain ⟨a, cap, rfl, hc⟩ := hv
  obtain ⟨a2, cap2, rfl, hc2⟩ := hu
  go_enter Tryz.func17, Tryz.ntmps17
  go_wp2
  go_loopw [5] (fun i wr => ∃ n : Nat, i = .int .i64 n ∧ n ≤ l.length ∧ Quiet w wr) (fun i _ => l.length - (intOf i).toNat)
  case atStart => exact ⟨0, rfl, Nat.zero_le _, Keeps.refl _ _⟩
  case round =>
    obtain ⟨n, rfl, hn, hq⟩ := hrel
    by_cases hlt : n < l.length
    · have hlt' : (n : Int) < (l.length : Int) := by omega
      rcases hc with h0 | ⟨g, o, rfl, hg, hcell⟩
      · rw [h0] at hlt; simp at hlt
      rcases hc2 with h0 | ⟨g2, o2, rfl, hg2, hcell2⟩
      · rw [h0] at hlt; simp at hlt
      obtain ⟨p, hp⟩ : ∃ p, l[n]? = some p := ⟨_, List.getElem?_eq_getElem hlt⟩
      obtain ⟨p1, p2⟩ := hcell n p hp
      obtain ⟨q1, q2⟩ := hcell2 n p hp
      rw [← hq.cell hg (by simp)] at p1 p2
      rw [← hq.cell hg2 (by simp)] at q1 q2
      clear hcell hcell2 hp
      go_wp2
      go_quiet (fail)
      go_wp2
      exact ⟨⟨n + 1, by go_num, by omega, Quiet.trans' hq (quiet_drewN _ nq)⟩, by simp [intOf]; omega⟩
    · have hge : ¬ (n : Int) < (l.length : Int) := by omega
      clear hc hc2
      go_wp2
      go_ret
      exact ⟨rfl, hq⟩

end Go.Proofs.YthfimgeopciiiaaGreat
