/-
  The law's own tables: get, drop, put, part, and has: what they are, and that they walk so.
-/
import Derived.Test.YthfimgeopciiiaaGreatPairs
import Derived.Sort.Walk0
namespace Go.Proofs.YthfimgeopciiiaaGreat
open Go.MapKept Go.ChangeMaps Go.Maps Go.RowKit
set_option linter.unusedVariables false

abbrev Tab := List (ByteArray × ByteArray)

def SortedT (t : Tab) : Prop := t.Pairwise fun p q => leB p.1 q.1 ∧ p.1 ≠ q.1

theorem SortedT.nd {t : Tab} (h : SortedT t) : (t.map (·.1)).Nodup := by
  unfold List.Nodup
  rw [List.pairwise_map]
  exact h.imp fun h => h.2

/-- at most, as a string -/
def leb (a b : ByteArray) : Bool := Op.bytesLess a.toList b.toList || a.toList == b.toList

theorem leb_iff {a b : ByteArray} : leb a b = true ↔ leB a b := by
  unfold leb leB
  rw [Go.Proofs.bytesLess_eq, ByteArray.toList_eq, ByteArray.toList_eq]
  simp only [Bool.or_eq_true, decide_eq_true_eq, beq_iff_eq]
  exact List.le_iff_lt_or_eq.symm

/-- the table with a key's value, as the book's loop makes it -/
def tputF (k v : ByteArray) : Bool → Tab → Tab
  | d, [] => if d then [] else [(k, v)]
  | d, p :: r => (if !d && leb k p.1 then [(k, v)] else []) ++ ((if p.1 ≠ k then [p] else []) ++ tputF k v (d || leb k p.1) r)

def tput (t : Tab) (k v : ByteArray) : Tab := tputF k v false t
def tdrop (t : Tab) (k : ByteArray) : Tab := t.filter fun p => decide (p.1 ≠ k)

theorem look_append {α β : Type} [DecidableEq α] (l m : List (α × β)) (x : α) : look (l ++ m) x = (look l x).or (look m x) := by
  induction l with
  | nil => simp [look]
  | cons p r ih =>
    simp only [List.cons_append, look]
    split
    · simp
    · exact ih

theorem tputF_look (k v : ByteArray) : ∀ (t : Tab) (d : Bool) (x : ByteArray), look (tputF k v d t) x = if x = k then (if d then none else some v) else look t x
  | [], d, x => by
    cases d <;> simp [tputF, look, eq_comm]
  | p :: r, d, x => by
    have ih := fun d' => tputF_look k v r d' x
    simp only [tputF, look_append, ih]
    generalize leb k p.1 = L
    by_cases hx : x = k
    · subst hx
      by_cases hp : p.1 = x <;> cases d <;> cases L <;> simp [look, hp]
    · have hx' : ¬ k = x := fun e => hx e.symm
      by_cases hp : p.1 = k
      · cases d <;> cases L <;> simp [look, hp, hx, hx']
      · by_cases hpx : p.1 = x <;> cases d <;> cases L <;> simp [look, hp, hpx, hx, hx']

theorem tput_look (t : Tab) (k v x : ByteArray) : look (tput t k v) x = if x = k then some v else look t x := by
  unfold tput
  rw [tputF_look]
  simp

theorem tdrop_look (t : Tab) (k x : ByteArray) : look (tdrop t k) x = if x = k then none else look t x := by
  unfold tdrop
  induction t with
  | nil => simp [look]
  | cons p r ih =>
    by_cases hp : p.1 = k
    · rw [List.filter_cons_of_neg (by simp [hp]), ih]
      by_cases hx : x = k
      · simp [hx]
      · have : ¬ k = x := fun e => hx e.symm
        simp [look, hp, hx, this]
    · rw [List.filter_cons_of_pos (by simp [hp])]
      simp only [look]
      by_cases hpx : p.1 = x
      · have : ¬ x = k := fun e => hp (hpx.trans e)
        simp [hpx, this]
      · simp only [hpx, if_false]
        exact ih

theorem leB_total {a b : ByteArray} (h : ¬ leB a b) : leB b a := by
  unfold leB at h ⊢
  exact (List.le_total _ _).resolve_left h

theorem leB_trans {a b c : ByteArray} (h : leB a b) (g : leB b c) : leB a c := List.le_trans h g

theorem tputF_true (k v : ByteArray) : ∀ (t : Tab), tputF k v true t = tdrop t k
  | [] => rfl
  | p :: r => by
    simp only [tputF, Bool.not_true, Bool.false_and, Bool.true_or, tputF_true k v r]
    unfold tdrop
    by_cases hp : p.1 = k <;> simp [hp]

theorem tputF_mem (k v : ByteArray) {x : ByteArray × ByteArray} : ∀ (t : Tab) (d : Bool), x ∈ tputF k v d t → x = (k, v) ∨ x ∈ t
  | [], d, h => by cases d <;> simp [tputF] at h; exact .inl h
  | p :: r, d, h => by
    simp only [tputF, List.mem_append] at h
    rcases h with h | h | h
    · split at h <;> simp at h; exact .inl h
    · split at h <;> simp at h; exact .inr (by simp [h])
    · rcases tputF_mem k v r _ h with h | h
      · exact .inl h
      · exact .inr (List.mem_cons_of_mem _ h)

theorem tput_sorted {t : Tab} (h : SortedT t) (k v : ByteArray) : SortedT (tput t k v) := by
  unfold tput
  induction t with
  | nil => simp [tputF, SortedT]
  | cons p r ih =>
    have hr := List.pairwise_cons.1 h
    by_cases hl : leb k p.1 = true
    · have e : tputF k v false (p :: r) = (k, v) :: tdrop (p :: r) k := by
        simp only [tputF, hl, Bool.not_false, Bool.and_true, Bool.or_true, if_true, tputF_true]
        unfold tdrop
        by_cases hp : p.1 = k <;> simp [hp]
      rw [e]
      refine List.pairwise_cons.2 ⟨fun q hq => ?_, h.filter _⟩
      obtain ⟨hq1, hq2⟩ := List.mem_filter.1 hq
      have hne : q.1 ≠ k := by simpa using hq2
      refine ⟨?_, fun e => hne e.symm⟩
      rcases List.mem_cons.1 hq1 with rfl | hq1
      · exact leb_iff.1 hl
      · exact leB_trans (leb_iff.1 hl) (hr.1 q hq1).1
    · have hlt : ¬ leB k p.1 := fun g => hl (leb_iff.2 g)
      have hpk : p.1 ≠ k := fun e => hlt (by rw [e]; exact List.le_refl _)
      have e : tputF k v false (p :: r) = p :: tputF k v false r := by
        have hl' : leb k p.1 = false := by simpa using hl
        simp [tputF, hl', hpk]
      rw [e]
      refine List.pairwise_cons.2 ⟨fun q hq => ?_, ih hr.2⟩
      rcases tputF_mem k v r false hq with rfl | hq
      · exact ⟨leB_total hlt, hpk⟩
      · exact hr.1 q hq

theorem tput_len (t : Tab) (k v : ByteArray) : (tput t k v).length ≤ t.length + 1 := by
  unfold tput
  have : ∀ (t : Tab) (d : Bool), (tputF k v d t).length ≤ t.length + (if d then 0 else 1) := by
    intro t
    induction t with
    | nil => intro d; cases d <;> simp [tputF]
    | cons p r ih =>
      intro d
      have h := ih (d || leb k p.1)
      simp only [tputF, List.length_append, List.length_cons]
      generalize leb k p.1 = L at *
      by_cases hp : p.1 = k <;> cases d <;> cases L <;> simp [hp] at h ⊢ <;> omega
  exact this t false

theorem tdrop_sorted {t : Tab} (h : SortedT t) (k : ByteArray) : SortedT (tdrop t k) := h.filter _


def hasB (l : List ByteArray) (k : ByteArray) : Bool := l.any fun x => decide (x = k)
def tpart (t : Tab) (lo hi : ByteArray) : Tab := t.filter fun p => coversB (true, lo, hi) p.1

/-! ### the walks -/

theorem look_drop {l : Tab} {n : Nat} {p : ByteArray × ByteArray} (h : l[n]? = some p) (k : ByteArray) : look (l.drop n) k = if p.1 = k then some p.2 else look (l.drop (n + 1)) k := by
  obtain ⟨hn, e⟩ := List.getElem?_eq_some_iff.1 h
  rw [List.drop_eq_getElem_cons hn, e]; rfl

theorem pairCells_at : ∀ (l : Tab) (i : Nat) (p : ByteArray × ByteArray), l[i]? = some p → (l.flatMap pairCells)[i * 2]? = some (.string p.1) ∧ (l.flatMap pairCells)[i * 2 + 1]? = some (.string p.2)
  | [], i, x, h => by simp at h
  | y :: l, 0, x, h => by simp at h; subst h; simp [pairCells]
  | y :: l, i + 1, x, h => by
    have h' : l[i]? = some x := by simpa using h
    have := pairCells_at l i x h'
    rw [show (i + 1) * 2 + 1 = (i * 2 + 1) + 2 by omega, show (i + 1) * 2 = i * 2 + 2 by omega]
    simp only [List.flatMap_cons, pairCells, List.cons_append, List.nil_append, List.getElem?_cons_succ]
    exact this

theorem PrSl.at {base : Nat} {w : World} {v : Value} {l : Tab} (h : PrSl base w v l) : ∃ a cap, v = .slice a l.length cap ∧ (l = [] ∨ ∃ g, a = some ⟨g, 0, none⟩ ∧ g < w.heap.size ∧ ∀ (i : Nat) (p : ByteArray × ByteArray), l[i]? = some p → w.cell? ⟨g, i * 2, none⟩ = some (.string p.1) ∧ w.cell? ⟨g, i * 2 + 1, none⟩ = some (.string p.2)) := by
  rcases h.2 with ⟨e, h0⟩ | ⟨g, cap, cur, e, hb, hg, h1, h2, h3, h4⟩
  · exact ⟨none, 0, by rw [e, h0], .inl (List.eq_nil_of_length_eq_zero h0)⟩
  · refine ⟨_, cap, e, .inr ⟨g, rfl, lt_of_heap hg, fun i p hp => ?_⟩⟩
    have hi : i < l.length := (List.getElem?_eq_some_iff.1 hp).1
    obtain ⟨p1, p2⟩ := pairCells_at l i p hp
    rw [← h4] at p1 p2
    rw [List.getElem?_take, if_pos (by omega)] at p1 p2
    simp only [cell_of_heap hg]
    exact ⟨by simpa using p1, by simpa using p2⟩

theorem str_eq {a b : ByteArray} (h : a = b) : (a.toList == b.toList) = true := by rw [h]; simp
theorem str_ne {a b : ByteArray} (h : ¬ a = b) : (a.toList == b.toList) = false := by
  simp only [beq_eq_false_iff_ne, ne_eq]
  intro e
  rw [ByteArray.toList_eq, ByteArray.toList_eq] at e
  exact h (ByteArray.ext (Array.ext' e))

theorem one2 (a b : ByteArray) : ∀ u ∈ [Value.string a, Value.string b], u.oneCell' = true := by
  intro u hu; simp only [List.mem_cons, List.not_mem_nil, or_false] at hu; rcases hu with rfl | rfl <;> rfl

set_option maxRecDepth 100000 in
set_option maxHeartbeats 1000000 in
theorem tget_h (w : World) (base : Nat) (v : Value) (l : Tab) (hv : PrSl base w v l) (hl : l.length ≤ 1073741824) (k : ByteArray) :
    Calls Tryz.prog 61 #[v, .string k] w fun e w' => e = .returned (.tuple #[.string ((look l k).getD ⟨#[]⟩), .bool (look l k).isSome]) ∧ w' = w := by
  obtain ⟨a, cap, rfl, hc⟩ := hv.at
  clear hv
  go_enter Tryz.func61, Tryz.ntmps61
  go_wp2
  go_loopw [6] (fun i wr => ∃ n : Nat, i = .int .i64 n ∧ n ≤ l.length ∧ wr = w ∧ Hid (look l k = look (l.drop n) k)) (fun i _ => l.length - (intOf i).toNat)
  case atStart => exact ⟨0, rfl, Nat.zero_le _, rfl, by rw [List.drop_zero]; exact rfl⟩
  case round =>
    obtain ⟨n, rfl, hn, rfl, HL⟩ := hrel
    by_cases hlt : n < l.length
    · have hlt' : (n : Int) < (l.length : Int) := by omega
      rcases hc with h0 | ⟨g, rfl, hg, hcell⟩
      · rw [h0] at hlt; simp at hlt
      obtain ⟨p, hp⟩ : ∃ p, l[n]? = some p := ⟨_, List.getElem?_eq_getElem hlt⟩
      obtain ⟨p1, p2⟩ := hcell n p hp
      have HD : Hid (look l k = if p.1 = k then some p.2 else look (l.drop (n + 1)) k) := HL.out.trans (look_drop hp k)
      clear hcell hp HL
      by_cases hk : p.1 = k
      · have HE : Hid (look l k = some p.2) := by have := HD.out; rw [if_pos hk] at this; exact this
        have hkb := str_eq hk
        clear HD hk
        go_wp2
        go_ret2
        exact ⟨by rw [HE.out]; rfl, rfl⟩
      · have HE : Hid (look l k = look (l.drop (n + 1)) k) := by have := HD.out; rw [if_neg hk] at this; exact this
        have hkb := str_ne hk
        clear HD hk
        go_wp2
        exact ⟨⟨n + 1, by go_num, by omega, trivial, HE⟩, by simp [intOf]; omega⟩
    · have hge : ¬ (n : Int) < (l.length : Int) := by omega
      have HE : Hid (look l k = none) := by
        have := HL.out
        rw [List.drop_eq_nil_of_le (by omega)] at this
        exact this
      clear hc HL
      go_wp2
      go_ret2
      exact ⟨by rw [HE.out]; rfl, rfl⟩

theorem tdrop_take {l : Tab} {n : Nat} {p : ByteArray × ByteArray} (h : l[n]? = some p) (k : ByteArray) : tdrop (l.take (n + 1)) k = tdrop (l.take n) k ++ (if p.1 = k then [] else [p]) := by
  unfold tdrop
  rw [take_succ_of h, List.filter_append]
  by_cases hk : p.1 = k <;> simp [hk]

set_option maxRecDepth 100000 in
set_option maxHeartbeats 1000000 in
theorem tdrop_h (w : World) (base : Nat) (v : Value) (l : Tab) (hv : PrSl base w v l) (hl : l.length ≤ 1073741824) (k : ByteArray) :
    Calls Tryz.prog 81 #[v, .string k] w fun e w' => ∃ v', e = .returned v' ∧ PrSl w.heap.size w' v' (tdrop l k) ∧ Quiet w w' := by
  obtain ⟨i0, hi0, hz0, hz1, hz2⟩ := info_parts info_pair
  obtain ⟨a, cap, rfl, hc⟩ := hv.at
  clear hv
  go_enter Tryz.func81, Tryz.ntmps81
  go_wp2
  go_loopw [5, 6] (fun o i wr => ∃ n : Nat, i = .int .i64 n ∧ n ≤ l.length ∧ Quiet w wr ∧ PrSl w.heap.size wr o (tdrop (l.take n) k)) (fun _ i _ => l.length - (intOf i).toNat)
  case atStart => exact ⟨0, rfl, Nat.zero_le _, Keeps.refl _ _, World.ownsRow_nil _ _ _ _⟩
  case round =>
    obtain ⟨n, rfl, hn, hq, hown⟩ := hrel
    by_cases hlt : n < l.length
    · have hlt' : (n : Int) < (l.length : Int) := by omega
      rcases hc with h0 | ⟨g, rfl, hg, hcell⟩
      · rw [h0] at hlt; simp at hlt
      obtain ⟨p, hp⟩ : ∃ p, l[n]? = some p := ⟨_, List.getElem?_eq_getElem hlt⟩
      obtain ⟨p1, p2⟩ := hcell n p hp
      rw [← hq.cell hg (by simp)] at p1 p2
      have HT : Hid (tdrop (l.take (n + 1)) k = tdrop (l.take n) k ++ (if p.1 = k then [] else [p])) := tdrop_take hp k
      have hfl : (tdrop (l.take n) k).length ≤ 1073741824 := Nat.le_trans (List.length_filter_le _ _) (by simp; omega)
      have hsz := hq.size
      clear hcell hp
      by_cases hk : p.1 = k
      · have HE : Hid (tdrop (l.take (n + 1)) k = tdrop (l.take n) k) := by have := HT.out; rw [if_pos hk, List.append_nil] at this; exact this
        have hkb := str_eq hk
        clear HT hk
        go_wp2
        exact ⟨⟨n + 1, by go_num, by omega, hq, by rw [HE.out]; exact hown⟩, by simp [intOf]; omega⟩
      · have HE : Hid (tdrop (l.take (n + 1)) k = tdrop (l.take n) k ++ [(p.1, p.2)]) := by have := HT.out; rw [if_neg hk] at this; exact this
        have hkb := str_ne hk
        clear HT hk
        go_wp2_with (first
          | (at_builtin; refine wpList_append_own_at _ rfl _ _ 35 rfl w.heap.size 113 i0 (.agg #[.string ⟨#[]⟩, .string ⟨#[]⟩]) 2 32 Tryz.underlying35 hi0 hz0 hz1 hz2 rfl (by decide) _ _ _ (by simp [go_sem]) (hown.alloc _) ⟨wr.heap.size, 0, none⟩ 1 1 [.string p.1, .string p.2] (by simp [go_sem]) rfl (cell_twoNew wr (.string p.1) (.string p.2) 113) (one2 _ _) (by unfold maxLen; omega) (by omega) (by simp; omega) ?_)
          | fail)
        intro v' w5 hown5 hgrow hnil hloc
        have k5 := keeps_of_grown hgrow
        have hlo4 := hown.lt
        have hq5 : Quiet w w5 := Quiet.of_new (Quiet.trans' hq (Keeps.alloc _ _)) k5 (fun b hb => (hlo4 b hb).1)
        have hown6 := PrSl.snoc hown5
        clear hown5 hgrow hnil hloc k5 hown
        go_wp2
        go_roundw
        case rel => exact ⟨n + 1, by go_num, by omega, hq5, by rw [HE.out]; exact hown6⟩
        case measure => simp [intOf]; omega
    · have hge : ¬ (n : Int) < (l.length : Int) := by omega
      have hT : l.take n = l := List.take_of_length_le (by omega)
      rw [hT] at hown
      clear hc
      go_wp2
      go_ret
      exact ⟨_, rfl, hown, hq⟩

set_option maxRecDepth 100000 in
set_option maxHeartbeats 1000000 in
theorem has_h (w : World) (base : Nat) (v : Value) (l : List ByteArray) (hv : SSl base w v l) (k : ByteArray) :
    Calls Tryz.prog 82 #[v, .string k] w fun e w' => e = .returned (.bool (hasB l k)) ∧ w' = w := by
  have hlen : l.length ≤ maxLen := by
    rcases hv.2 with ⟨_, h0⟩ | ⟨_, cap, _, _, _, _, h1, h2, _⟩
    · rw [h0]; exact Nat.zero_le _
    · omega
  unfold maxLen at hlen
  obtain ⟨a, cap, rfl, hc⟩ := hv.cells
  clear hv
  go_enter Tryz.func82, Tryz.ntmps82
  go_wp2
  go_loopw [5] (fun i wr => ∃ n : Nat, i = .int .i64 n ∧ n ≤ l.length ∧ wr = w ∧ Hid (hasB l k = hasB (l.drop n) k)) (fun i _ => l.length - (intOf i).toNat)
  case atStart => exact ⟨0, rfl, Nat.zero_le _, rfl, by rw [List.drop_zero]; exact rfl⟩
  case round =>
    obtain ⟨n, rfl, hn, rfl, HL⟩ := hrel
    by_cases hlt : n < l.length
    · have hlt' : (n : Int) < (l.length : Int) := by omega
      rcases hc with h0 | ⟨g, rfl, hb, hg, hcell⟩
      · rw [h0] at hlt; simp at hlt
      obtain ⟨p, hp⟩ : ∃ p, l[n]? = some p := ⟨_, List.getElem?_eq_getElem hlt⟩
      have p1 := hcell n p hp
      have HD : Hid (hasB l k = (decide (p = k) || hasB (l.drop (n + 1)) k)) := by
        refine HL.out.trans ?_
        obtain ⟨h1, e⟩ := List.getElem?_eq_some_iff.1 hp
        rw [List.drop_eq_getElem_cons h1, e]; rfl
      clear hcell hp HL hb
      by_cases hk : p = k
      · have HE : Hid (hasB l k = true) := by have := HD.out; rw [decide_eq_true hk] at this; exact this
        have hkb := str_eq hk
        clear HD hk
        go_wp2
        go_ret
        exact ⟨by rw [HE.out]; rfl, rfl⟩
      · have HE : Hid (hasB l k = hasB (l.drop (n + 1)) k) := by have := HD.out; rw [decide_eq_false hk, Bool.false_or] at this; exact this
        have hkb := str_ne hk
        clear HD hk
        go_wp2
        exact ⟨⟨n + 1, by go_num, by omega, trivial, HE⟩, by simp [intOf]; omega⟩
    · have hge : ¬ (n : Int) < (l.length : Int) := by omega
      have HE : Hid (hasB l k = false) := by
        have := HL.out
        rw [List.drop_eq_nil_of_le (by omega)] at this
        exact this
      clear hc HL
      go_wp2
      go_ret
      exact ⟨by rw [HE.out]; rfl, rfl⟩

theorem tputF_drop {l : Tab} {n : Nat} {p : ByteArray × ByteArray} (h : l[n]? = some p) (k v : ByteArray) (d : Bool) : tputF k v d (l.drop n) = (if !d && leb k p.1 then [(k, v)] else []) ++ ((if p.1 ≠ k then [p] else []) ++ tputF k v (d || leb k p.1) (l.drop (n + 1))) := by
  obtain ⟨hn, e⟩ := List.getElem?_eq_some_iff.1 h
  rw [List.drop_eq_getElem_cons hn, e]; rfl

theorem leb_self (k : ByteArray) : leb k k = true := by unfold leb; simp
theorem leb_ne {k p : ByteArray} (h : ¬ p = k) : leb k p = Op.bytesLess k.toList p.toList := by
  unfold leb
  rw [str_ne (fun e => h e.symm), Bool.or_false]

set_option maxRecDepth 100000 in
set_option maxHeartbeats 2000000 in
theorem tput_h (w : World) (base : Nat) (v : Value) (l : Tab) (hv : PrSl base w v l) (hl : l.length ≤ 1073741824) (k x : ByteArray) :
    Calls Tryz.prog 28 #[v, .string k, .string x] w fun e w' => ∃ v', e = .returned v' ∧ PrSl w.heap.size w' v' (tput l k x) ∧ Quiet w w' := by
  obtain ⟨i0, hi0, hz0, hz1, hz2⟩ := info_parts info_pair
  obtain ⟨a, cap, rfl, hc⟩ := hv.at
  clear hv
  go_enter Tryz.func28, Tryz.ntmps28
  go_wp2
  go_loopw [7, 8, 9] (fun o d i wr => ∃ (n : Nat) (db : Bool) (out : Tab), i = .int .i64 n ∧ d = .bool db ∧ n ≤ l.length ∧ Quiet w wr ∧ PrSl w.heap.size wr o out ∧ out.length ≤ n + 1 ∧ Hid (tput l k x = out ++ tputF k x db (l.drop n)) ∧ Hid (db = false → out.length ≤ n)) (fun _ _ i _ => l.length - (intOf i).toNat)
  case atStart => exact ⟨0, false, [], rfl, rfl, Nat.zero_le _, Keeps.refl _ _, World.ownsRow_nil _ _ _ _, by simp, (by rw [List.drop_zero]; rfl : Hid _), fun _ => Nat.le_refl _⟩
  case round =>
    obtain ⟨n, db, out, rfl, rfl, hn, hq, hown, hol, HL, HO⟩ := hrel
    have hsz := hq.size
    by_cases hlt : n < l.length
    · have hlt' : (n : Int) < (l.length : Int) := by omega
      rcases hc with h0 | ⟨g, rfl, hg, hcell⟩
      · rw [h0] at hlt; simp at hlt
      obtain ⟨p, hp⟩ : ∃ p, l[n]? = some p := ⟨_, List.getElem?_eq_getElem hlt⟩
      obtain ⟨p1, p2⟩ := hcell n p hp
      have HD : Hid (tput l k x = out ++ ((if !db && leb k p.1 then [(k, x)] else []) ++ ((if p.1 ≠ k then [p] else []) ++ tputF k x (db || leb k p.1) (l.drop (n + 1))))) := HL.out.trans (by rw [tputF_drop hp])
      clear hcell hp HL
      rw [← hq.cell hg (by simp)] at p1 p2
      by_cases hk : p.1 = k
      · have hkb := str_eq hk
        have hkc := str_eq hk.symm
        have hlk : leb k p.1 = true := by rw [hk]; exact leb_self k
        cases db with
        | true =>
          have HE : Hid (tput l k x = out ++ tputF k x true (l.drop (n + 1))) := by have := HD.out; simp only [hk, ne_eq, not_true, if_false, Bool.not_true, Bool.false_and, Bool.false_eq_true, List.nil_append, Bool.true_or] at this; exact this
          clear HD HO hk hlk
          go_wp2
          exact ⟨⟨n + 1, true, out, by go_num, rfl, by omega, hq, hown, by omega, HE, fun e => by cases e⟩, by simp [intOf]; omega⟩
        | false =>
          have hol' : out.length ≤ n := HO.out rfl
          have HE : Hid (tput l k x = (out ++ [(k, x)]) ++ tputF k x true (l.drop (n + 1))) := (by rw [HD.out, hlk]; simp [hk] : tput l k x = (out ++ [(k, x)]) ++ tputF k x true (l.drop (n + 1)))
          have hwr : w.heap.size ≤ wr.heap.size := hsz
          have hg' : g < wr.heap.size := Nat.lt_of_lt_of_le hg hsz
          clear HD HO hk hlk
          go_wp2_with (first
            | (at_builtin; refine wpList_append_own_at _ rfl _ _ 35 rfl w.heap.size 113 i0 (.agg #[.string ⟨#[]⟩, .string ⟨#[]⟩]) 2 32 Tryz.underlying35 hi0 hz0 hz1 hz2 rfl (by decide) _ _ _ (by simp [go_sem]) (hown.alloc _) ⟨wr.heap.size, 0, none⟩ 1 1 [.string k, .string x] (by simp [go_sem]) rfl (cell_twoNew wr (.string k) (.string x) 113) (one2 _ _) (by unfold maxLen; omega) (by omega) (by simp; omega) ?_)
            | fail)
          intro v5 w5 hown5 hgrow hnil hloc
          have k5 := keeps_of_grown hgrow
          have hlo5 := hown.lt
          have hq5 : Quiet w w5 := Quiet.of_new (Quiet.trans' hq (Keeps.alloc _ _)) k5 (fun b hb => (hlo5 b hb).1)
          have hown5b := PrSl.snoc hown5
          have hsz5 := hq5.size
          clear hown5 hgrow hnil hloc k5 hlo5 hown
          have p1' : w5.cell? ⟨g, n * 2, none⟩ = some (.string p.1) := (hq5.cell hg (by simp)).trans ((hq.cell hg (by simp)).symm.trans p1)
          go_wp2
          go_roundw
          case rel => exact ⟨n + 1, true, out ++ [(k, x)], by go_num, rfl, by omega, hq5, hown5b, by simp; omega, HE, fun e => by cases e⟩
          case measure => simp [intOf]; omega
      · have hkb := str_ne hk
        have hkc := str_ne (fun e => hk (Eq.symm e))
        have hln := leb_ne hk
        rw [hln] at HD
        generalize hL : Op.bytesLess k.toList p.1.toList = L at HD
        cases hd1 : (!db && L) with
        | true =>
          obtain ⟨hd2, rfl⟩ : db = false ∧ L = true := by simpa using hd1
          subst hd2
          have hol' : out.length ≤ n := HO.out rfl
          have HE : Hid (tput l k x = ((out ++ [(k, x)]) ++ [(p.1, p.2)]) ++ tputF k x true (l.drop (n + 1))) := (by rw [HD.out]; simp [hk] : tput l k x = ((out ++ [(k, x)]) ++ [(p.1, p.2)]) ++ tputF k x true (l.drop (n + 1)))
          clear HD HO hk hln hd1
          go_wp2_with (first
            | (at_builtin; refine wpList_append_own_at _ rfl _ _ 35 rfl w.heap.size 113 i0 (.agg #[.string ⟨#[]⟩, .string ⟨#[]⟩]) 2 32 Tryz.underlying35 hi0 hz0 hz1 hz2 rfl (by decide) _ _ _ (by simp [go_sem]) (hown.alloc _) ⟨wr.heap.size, 0, none⟩ 1 1 [.string k, .string x] (by simp [go_sem]) rfl (cell_twoNew wr (.string k) (.string x) 113) (one2 _ _) (by unfold maxLen; omega) (by omega) (by simp; omega) ?_)
            | fail)
          intro v5 w5 hown5 hgrow hnil hloc
          have k5 := keeps_of_grown hgrow
          have hlo5 := hown.lt
          have hq5 : Quiet w w5 := Quiet.of_new (Quiet.trans' hq (Keeps.alloc _ _)) k5 (fun b hb => (hlo5 b hb).1)
          have hown5b := PrSl.snoc hown5
          have hsz5 := hq5.size
          clear hown5 hgrow hnil hloc k5 hlo5 hown
          have p1' : w5.cell? ⟨g, n * 2, none⟩ = some (.string p.1) := (hq5.cell hg (by simp)).trans ((hq.cell hg (by simp)).symm.trans p1)
          have p2' : w5.cell? ⟨g, n * 2 + 1, none⟩ = some (.string p.2) := (hq5.cell hg (by simp)).trans ((hq.cell hg (by simp)).symm.trans p2)
          have hol5 : (out ++ [(k, x)]).length ≤ n + 1 := by simp; omega
          clear p1 p2
          generalize out ++ [(k, x)] = out2 at *
          go_wp2_with (first
            | (at_builtin; refine wpList_append_own_at _ rfl _ _ 35 rfl w.heap.size 113 i0 (.agg #[.string ⟨#[]⟩, .string ⟨#[]⟩]) 2 32 Tryz.underlying35 hi0 hz0 hz1 hz2 rfl (by decide) _ _ _ (by simp [go_sem]) (hown5b.alloc _) ⟨w5.heap.size, 0, none⟩ 1 1 [.string p.1, .string p.2] (by simp [go_sem]) rfl (cell_twoNew w5 (.string p.1) (.string p.2) 113) (one2 _ _) (by unfold maxLen; omega) (by omega) (by simp; omega) ?_)
            | fail)
          intro v6 w6 hown6 hgrow hnil hloc
          have k6 := keeps_of_grown hgrow
          have hlo6 := hown5b.lt
          have hq6 : Quiet w w6 := Quiet.of_new (Quiet.trans' hq5 (Keeps.alloc _ _)) k6 (fun b hb => (hlo6 b hb).1)
          have hown6b := PrSl.snoc hown6
          have hsz6 := hq6.size
          clear hown6 hgrow hnil hloc k6 hlo6 hown5b
          go_wp2
          go_roundw
          case rel => exact ⟨n + 1, true, out2 ++ [(p.1, p.2)], by go_num, rfl, by omega, hq6, hown6b, by simp; omega, HE, fun e => by cases e⟩
          case measure => simp [intOf]; omega
        | false =>
          have HE : Hid (tput l k x = (out ++ [(p.1, p.2)]) ++ tputF k x db (l.drop (n + 1))) := by
            have e : (db || L) = db := by cases db <;> simp_all
            have this : tput l k x = (out ++ [(p.1, p.2)]) ++ tputF k x db (l.drop (n + 1)) := by rw [HD.out, hd1, e]; simp [hk]
            exact this
          have HO' : Hid (db = false → (out ++ [(p.1, p.2)]).length ≤ n + 1) := fun e => by have := HO.out e; simp; omega
          cases db with
          | true =>
            clear HD HO hk hln hd1
            go_wp2_with (first
              | (at_builtin; refine wpList_append_own_at _ rfl _ _ 35 rfl w.heap.size 113 i0 (.agg #[.string ⟨#[]⟩, .string ⟨#[]⟩]) 2 32 Tryz.underlying35 hi0 hz0 hz1 hz2 rfl (by decide) _ _ _ (by simp [go_sem]) (hown.alloc _) ⟨wr.heap.size, 0, none⟩ 1 1 [.string p.1, .string p.2] (by simp [go_sem]) rfl (cell_twoNew wr (.string p.1) (.string p.2) 113) (one2 _ _) (by unfold maxLen; omega) (by omega) (by simp; omega) ?_)
              | fail)
            intro v5 w5 hown5 hgrow hnil hloc
            have k5 := keeps_of_grown hgrow
            have hlo5 := hown.lt
            have hq5 : Quiet w w5 := Quiet.of_new (Quiet.trans' hq (Keeps.alloc _ _)) k5 (fun b hb => (hlo5 b hb).1)
            have hown5b := PrSl.snoc hown5
            have hsz5 := hq5.size
            clear hown5 hgrow hnil hloc k5 hlo5 hown
            go_wp2
            go_roundw
            case rel => exact ⟨n + 1, true, out ++ [(p.1, p.2)], by go_num, rfl, by omega, hq5, hown5b, by simp; omega, HE, HO'⟩
            case measure => simp [intOf]; omega
          | false =>
            have hLf : L = false := by simpa using hd1
            subst hLf
            clear HD HO hk hln hd1
            go_wp2_with (first
              | (at_builtin; refine wpList_append_own_at _ rfl _ _ 35 rfl w.heap.size 113 i0 (.agg #[.string ⟨#[]⟩, .string ⟨#[]⟩]) 2 32 Tryz.underlying35 hi0 hz0 hz1 hz2 rfl (by decide) _ _ _ (by simp [go_sem]) (hown.alloc _) ⟨wr.heap.size, 0, none⟩ 1 1 [.string p.1, .string p.2] (by simp [go_sem]) rfl (cell_twoNew wr (.string p.1) (.string p.2) 113) (one2 _ _) (by unfold maxLen; omega) (by omega) (by simp; omega) ?_)
              | fail)
            intro v5 w5 hown5 hgrow hnil hloc
            have k5 := keeps_of_grown hgrow
            have hlo5 := hown.lt
            have hq5 : Quiet w w5 := Quiet.of_new (Quiet.trans' hq (Keeps.alloc _ _)) k5 (fun b hb => (hlo5 b hb).1)
            have hown5b := PrSl.snoc hown5
            have hsz5 := hq5.size
            clear hown5 hgrow hnil hloc k5 hlo5 hown
            go_wp2
            go_roundw
            case rel => exact ⟨n + 1, false, out ++ [(p.1, p.2)], by go_num, rfl, by omega, hq5, hown5b, by simp; omega, HE, fun _ => HO'.out trivial⟩
            case measure => simp [intOf]; omega
    · have hge : ¬ (n : Int) < (l.length : Int) := by omega
      rw [Hid, List.drop_eq_nil_of_le (by omega)] at HL
      clear hc
      cases db with
      | true =>
        have HE : Hid (tput l k x = out) := (by rw [HL]; simp [tputF] : tput l k x = out)
        clear HL HO
        go_wp2
        go_ret
        exact ⟨_, rfl, by rw [HE.out]; exact hown, hq⟩
      | false =>
        have HE : Hid (tput l k x = out ++ [(k, x)]) := (by rw [HL]; simp [tputF] : tput l k x = out ++ [(k, x)])
        clear HL HO
        go_wp2_with (first
          | (at_builtin; refine wpList_append_own_at _ rfl _ _ 35 rfl w.heap.size 113 i0 (.agg #[.string ⟨#[]⟩, .string ⟨#[]⟩]) 2 32 Tryz.underlying35 hi0 hz0 hz1 hz2 rfl (by decide) _ _ _ (by simp [go_sem]) (hown.alloc _) ⟨wr.heap.size, 0, none⟩ 1 1 [.string k, .string x] (by simp [go_sem]) rfl (cell_twoNew wr (.string k) (.string x) 113) (one2 _ _) (by unfold maxLen; omega) (by omega) (by simp; omega) ?_)
          | fail)
        intro v5 w5 hown5 hgrow hnil hloc
        have k5 := keeps_of_grown hgrow
        have hlo5 := hown.lt
        have hq5 : Quiet w w5 := Quiet.of_new (Quiet.trans' hq (Keeps.alloc _ _)) k5 (fun b hb => (hlo5 b hb).1)
        have hown5b := PrSl.snoc hown5
        have hsz5 := hq5.size
        clear hown5 hgrow hnil hloc k5 hlo5 hown
        go_wp2
        go_ret
        exact ⟨_, rfl, by rw [HE.out]; exact hown5b, hq5⟩

theorem tpart_take {l : Tab} {n : Nat} {p : ByteArray × ByteArray} (h : l[n]? = some p) (lo hi : ByteArray) : tpart (l.take (n + 1)) lo hi = tpart (l.take n) lo hi ++ (if coversB (true, lo, hi) p.1 then [p] else []) := by
  unfold tpart
  rw [take_succ_of h, List.filter_append]
  by_cases hk : coversB (true, lo, hi) p.1 = true <;> simp [hk]

set_option maxRecDepth 100000 in
set_option maxHeartbeats 2000000 in
theorem tpart_h (w : World) (base : Nat) (v : Value) (l : Tab) (hv : PrSl base w v l) (hl : l.length ≤ 1073741824) (lo hi : ByteArray) :
    Calls Tryz.prog 62 #[v, .string lo, .string hi] w fun e w' => ∃ v', e = .returned v' ∧ PrSl w.heap.size w' v' (tpart l lo hi) ∧ Quiet w w' := by
  obtain ⟨i0, hi0, hz0, hz1, hz2⟩ := info_parts info_pair
  obtain ⟨a, cap, rfl, hc⟩ := hv.at
  clear hv
  go_enter Tryz.func62, Tryz.ntmps62
  go_wp2
  go_loopw [7, 8] (fun o i wr => ∃ n : Nat, i = .int .i64 n ∧ n ≤ l.length ∧ Quiet w wr ∧ PrSl w.heap.size wr o (tpart (l.take n) lo hi)) (fun _ i _ => l.length - (intOf i).toNat)
  case atStart => exact ⟨0, rfl, Nat.zero_le _, Keeps.refl _ _, World.ownsRow_nil _ _ _ _⟩
  case round =>
    obtain ⟨n, rfl, hn, hq, hown⟩ := hrel
    have hsz := hq.size
    by_cases hlt : n < l.length
    · have hlt' : (n : Int) < (l.length : Int) := by omega
      rcases hc with h0 | ⟨g, rfl, hg, hcell⟩
      · rw [h0] at hlt; simp at hlt
      obtain ⟨p, hp⟩ : ∃ p, l[n]? = some p := ⟨_, List.getElem?_eq_getElem hlt⟩
      obtain ⟨p1, p2⟩ := hcell n p hp
      rw [← hq.cell hg (by simp)] at p1 p2
      have HT := tpart_take hp lo hi
      have hfl : (tpart (l.take n) lo hi).length ≤ 1073741824 := Nat.le_trans (List.length_filter_le _ _) (by simp; omega)
      have ecv : coversB (true, lo, hi) p.1 = (!Op.bytesLess p.1.toList lo.toList && (hi.toList == [] || Op.bytesLess p.1.toList hi.toList)) := by
        simp only [coversB, bl, if_true]
        congr 2
        cases hi.toList <;> rfl
      rw [ecv] at HT
      clear hcell hp ecv
      generalize hA : Op.bytesLess p.1.toList lo.toList = A at HT
      generalize hB : (hi.toList == []) = B at HT
      generalize hC : Op.bytesLess p.1.toList hi.toList = C at HT
      have hB' : (hi.toList == (⟨#[]⟩ : ByteArray).toList) = B := by
        have e : (⟨#[]⟩ : ByteArray).toList = [] := by rw [ByteArray.toList_eq]
        rw [e]; exact hB
      cases hcv : (!A && (B || C)) with
      | false =>
        rw [hcv, if_neg (by simp), List.append_nil] at HT
        have HE : Hid (tpart (l.take (n + 1)) lo hi = tpart (l.take n) lo hi) := HT
        clear HT
        cases A <;> cases B <;> cases C <;> first
          | (exfalso; revert hcv; decide)
          | (clear hcv
             go_wp2
             exact ⟨⟨n + 1, by go_num, by omega, hq, by rw [HE.out]; exact hown⟩, by simp [intOf]; omega⟩)
      | true =>
        rw [hcv, if_pos rfl] at HT
        have HE : Hid (tpart (l.take (n + 1)) lo hi = tpart (l.take n) lo hi ++ [(p.1, p.2)]) := HT
        clear HT
        obtain ⟨rfl, hBC⟩ : A = false ∧ (B || C) = true := by simpa using hcv
        have hcases : B = true ∨ (B = false ∧ C = true) := by cases B <;> simp_all
        clear hcv hBC
        rcases hcases with rfl | ⟨rfl, rfl⟩
        · skip
          go_wp2_with (first
            | (at_builtin; refine wpList_append_own_at _ rfl _ _ 35 rfl w.heap.size 113 i0 (.agg #[.string ⟨#[]⟩, .string ⟨#[]⟩]) 2 32 Tryz.underlying35 hi0 hz0 hz1 hz2 rfl (by decide) _ _ _ (by simp [go_sem]) (hown.alloc _) ⟨wr.heap.size, 0, none⟩ 1 1 [.string p.1, .string p.2] (by simp [go_sem]) rfl (cell_twoNew wr (.string p.1) (.string p.2) 113) (one2 _ _) (by unfold maxLen; omega) (by omega) (by simp; omega) ?_)
            | fail)
          intro v5 w5 hown5 hgrow hnil hloc
          have k5 := keeps_of_grown hgrow
          have hlo5 := hown.lt
          have hq5 : Quiet w w5 := Quiet.of_new (Quiet.trans' hq (Keeps.alloc _ _)) k5 (fun b hb => (hlo5 b hb).1)
          have hown5b := PrSl.snoc hown5
          have hsz5 := hq5.size
          clear hown5 hgrow hnil hloc k5 hlo5 hown
          go_wp2
          go_roundw
          case rel => exact ⟨n + 1, by go_num, by omega, hq5, by rw [HE.out]; exact hown5b⟩
          case measure => simp [intOf]; omega
        · skip
          go_wp2_with (first
            | (at_builtin; refine wpList_append_own_at _ rfl _ _ 35 rfl w.heap.size 113 i0 (.agg #[.string ⟨#[]⟩, .string ⟨#[]⟩]) 2 32 Tryz.underlying35 hi0 hz0 hz1 hz2 rfl (by decide) _ _ _ (by simp [go_sem]) (hown.alloc _) ⟨wr.heap.size, 0, none⟩ 1 1 [.string p.1, .string p.2] (by simp [go_sem]) rfl (cell_twoNew wr (.string p.1) (.string p.2) 113) (one2 _ _) (by unfold maxLen; omega) (by omega) (by simp; omega) ?_)
            | fail)
          intro v5 w5 hown5 hgrow hnil hloc
          have k5 := keeps_of_grown hgrow
          have hlo5 := hown.lt
          have hq5 : Quiet w w5 := Quiet.of_new (Quiet.trans' hq (Keeps.alloc _ _)) k5 (fun b hb => (hlo5 b hb).1)
          have hown5b := PrSl.snoc hown5
          have hsz5 := hq5.size
          clear hown5 hgrow hnil hloc k5 hlo5 hown
          go_wp2
          go_roundw
          case rel => exact ⟨n + 1, by go_num, by omega, hq5, by rw [HE.out]; exact hown5b⟩
          case measure => simp [intOf]; omega
    · have hge : ¬ (n : Int) < (l.length : Int) := by omega
      have hT : l.take n = l := List.take_of_length_le (by omega)
      rw [hT] at hown
      clear hc
      go_wp2
      go_ret
      exact ⟨_, rfl, hown, hq⟩

end Go.Proofs.YthfimgeopciiiaaGreat
