/-
  The law's own tables: get, drop, put, part, and has: what they are, and that they walk so.
-/
import Derived.Test.YthfimgeopciiiaaGreatPairs
import Derived.Sort.Walk0
import Derived.Test.YthfimgeopciiiaaGreatPlayT
import Derived.Test.YthfimgeopciiiaaGreatSim
namespace Go.Proofs.YthfimgeopciiiaaGreat
open Go.MapKept Go.ChangeMaps Go.Maps Go.RowKit
set_option linter.unusedVariables false

abbrev Tab := List (ByteArray × ByteArray)

def SortedT (t : Tab) : Prop := t.Pairwise fun p q => leB p.1 q.1 ∧ p.1 ≠ q.1

theorem SortedT.nd {t : Tab} (h : SortedT t) : (t.map (·.1)).Nodup := by
  unfold List.Nodup
  rw [List.pairwise_map]
  exact h.imp fun h => h.2

/-- at most, as a string -/
def leb (a b : ByteArray) : Bool := Op.bytesLess a.toList b.toList || a.toList == b.toList

theorem leb_iff {a b : ByteArray} : leb a b = true ↔ leB a b := by
  unfold leb leB
  rw [Go.Proofs.bytesLess_eq, ByteArray.toList_eq, ByteArray.toList_eq]
  simp only [Bool.or_eq_true, decide_eq_true_eq, beq_iff_eq]
  exact List.le_iff_lt_or_eq.symm

/-- the table with a key's value, as the book's loop makes it -/
def tputF (k v : ByteArray) : Bool → Tab → Tab
  | d, [] => if d then [] else [(k, v)]
  | d, p :: r => (if !d && leb k p.1 then [(k, v)] else []) ++ ((if p.1 ≠ k then [p] else []) ++ tputF k v (d || leb k p.1) r)

def tput (t : Tab) (k v : ByteArray) : Tab := tputF k v false t
def tdrop (t : Tab) (k : ByteArray) : Tab := t.filter fun p => decide (p.1 ≠ k)

theorem look_append {α β : Type} [DecidableEq α] (l m : List (α × β)) (x : α) : look (l ++ m) x = (look l x).or (look m x) := by
  induction l with
  | nil => simp [look]
  | cons p r ih =>
    simp only [List.cons_append, look]
    split
    · simp
    · exact ih

theorem tputF_look (k v : ByteArray) : ∀ (t : Tab) (d : Bool) (x : ByteArray), look (tputF k v d t) x = if x = k then (if d then none else some v) else look t x
  | [], d, x => by
    cases d <;> simp [tputF, look, eq_comm]
  | p :: r, d, x => by
    have ih := fun d' => tputF_look k v r d' x
    simp only [tputF, look_append, ih]
    generalize leb k p.1 = L
    by_cases hx : x = k
    · subst hx
      by_cases hp : p.1 = x <;> cases d <;> cases L <;> simp [look, hp]
    · have hx' : ¬ k = x := fun e => hx e.symm
      by_cases hp : p.1 = k
      · cases d <;> cases L <;> simp [look, hp, hx, hx']
      · by_cases hpx : p.1 = x <;> cases d <;> cases L <;> simp [look, hp, hpx, hx, hx']

theorem tput_look (t : Tab) (k v x : ByteArray) : look (tput t k v) x = if x = k then some v else look t x := by
  unfold tput
  rw [tputF_look]
  simp

theorem tdrop_look (t : Tab) (k x : ByteArray) : look (tdrop t k) x = if x = k then none else look t x := by
  unfold tdrop
  induction t with
  | nil => simp [look]
  | cons p r ih =>
    by_cases hp : p.1 = k
    · rw [List.filter_cons_of_neg (by simp [hp]), ih]
      by_cases hx : x = k
      · simp [hx]
      · have : ¬ k = x := fun e => hx e.symm
        simp [look, hp, hx, this]
    · rw [List.filter_cons_of_pos (by simp [hp])]
      simp only [look]
      by_cases hpx : p.1 = x
      · have : ¬ x = k := fun e => hp (hpx.trans e)
        simp [hpx, this]
      · simp only [hpx, if_false]
        exact ih

theorem leB_total {a b : ByteArray} (h : ¬ leB a b) : leB b a := by
  unfold leB at h ⊢
  exact (List.le_total _ _).resolve_left h

theorem leB_trans {a b c : ByteArray} (h : leB a b) (g : leB b c) : leB a c := List.le_trans h g

theorem tputF_true (k v : ByteArray) : ∀ (t : Tab), tputF k v true t = tdrop t k
  | [] => rfl
  | p :: r => by
    simp only [tputF, Bool.not_true, Bool.false_and, Bool.true_or, tputF_true k v r]
    unfold tdrop
    by_cases hp : p.1 = k <;> simp [hp]

theorem tputF_mem (k v : ByteArray) {x : ByteArray × ByteArray} : ∀ (t : Tab) (d : Bool), x ∈ tputF k v d t → x = (k, v) ∨ x ∈ t
  | [], d, h => by cases d <;> simp [tputF] at h; exact .inl h
  | p :: r, d, h => by
    simp only [tputF, List.mem_append] at h
    rcases h with h | h | h
    · split at h <;> simp at h; exact .inl h
    · split at h <;> simp at h; exact .inr (by simp [h])
    · rcases tputF_mem k v r _ h with h | h
      · exact .inl h
      · exact .inr (List.mem_cons_of_mem _ h)

theorem tput_sorted {t : Tab} (h : SortedT t) (k v : ByteArray) : SortedT (tput t k v) := by
  unfold tput
  induction t with
  | nil => simp [tputF, SortedT]
  | cons p r ih =>
    have hr := List.pairwise_cons.1 h
    by_cases hl : leb k p.1 = true
    · have e : tputF k v false (p :: r) = (k, v) :: tdrop (p :: r) k := by
        simp only [tputF, hl, Bool.not_false, Bool.and_true, Bool.or_true, if_true, tputF_true]
        unfold tdrop
        by_cases hp : p.1 = k <;> simp [hp]
      rw [e]
      refine List.pairwise_cons.2 ⟨fun q hq => ?_, h.filter _⟩
      obtain ⟨hq1, hq2⟩ := List.mem_filter.1 hq
      have hne : q.1 ≠ k := by simpa using hq2
      refine ⟨?_, fun e => hne e.symm⟩
      rcases List.mem_cons.1 hq1 with rfl | hq1
      · exact leb_iff.1 hl
      · exact leB_trans (leb_iff.1 hl) (hr.1 q hq1).1
    · have hlt : ¬ leB k p.1 := fun g => hl (leb_iff.2 g)
      have hpk : p.1 ≠ k := fun e => hlt (by rw [e]; exact List.le_refl _)
      have e : tputF k v false (p :: r) = p :: tputF k v false r := by
        have hl' : leb k p.1 = false := by simpa using hl
        simp [tputF, hl', hpk]
      rw [e]
      refine List.pairwise_cons.2 ⟨fun q hq => ?_, ih hr.2⟩
      rcases tputF_mem k v r false hq with rfl | hq
      · exact ⟨leB_total hlt, hpk⟩
      · exact hr.1 q hq

theorem tput_len (t : Tab) (k v : ByteArray) : (tput t k v).length ≤ t.length + 1 := by
  unfold tput
  have : ∀ (t : Tab) (d : Bool), (tputF k v d t).length ≤ t.length + (if d then 0 else 1) := by
    intro t
    induction t with
    | nil => intro d; cases d <;> simp [tputF]
    | cons p r ih =>
      intro d
      have h := ih (d || leb k p.1)
      simp only [tputF, List.length_append, List.length_cons]
      generalize leb k p.1 = L at *
      by_cases hp : p.1 = k <;> cases d <;> cases L <;> simp [hp] at h ⊢ <;> omega
  exact this t false

theorem tdrop_sorted {t : Tab} (h : SortedT t) (k : ByteArray) : SortedT (tdrop t k) := h.filter _


def hasB (l : List ByteArray) (k : ByteArray) : Bool := l.any fun x => decide (x = k)
def tpart (t : Tab) (lo hi : ByteArray) : Tab := t.filter fun p => coversB (true, lo, hi) p.1

/-! ### the walks -/

theorem look_drop {l : Tab} {n : Nat} {p : ByteArray × ByteArray} (h : l[n]? = some p) (k : ByteArray) : look (l.drop n) k = if p.1 = k then some p.2 else look (l.drop (n + 1)) k := by
  obtain ⟨hn, e⟩ := List.getElem?_eq_some_iff.1 h
  rw [List.drop_eq_getElem_cons hn, e]; rfl

theorem pairCells_at : ∀ (l : Tab) (i : Nat) (p : ByteArray × ByteArray), l[i]? = some p → (l.flatMap pairCells)[i * 2]? = some (.string p.1) ∧ (l.flatMap pairCells)[i * 2 + 1]? = some (.string p.2)
  | [], i, x, h => by simp at h
  | y :: l, 0, x, h => by simp at h; subst h; simp [pairCells]
  | y :: l, i + 1, x, h => by
    have h' : l[i]? = some x := by simpa using h
    have := pairCells_at l i x h'
    rw [show (i + 1) * 2 + 1 = (i * 2 + 1) + 2 by omega, show (i + 1) * 2 = i * 2 + 2 by omega]
    simp only [List.flatMap_cons, pairCells, List.cons_append, List.nil_append, List.getElem?_cons_succ]
    exact this

theorem PrSl.at {base : Nat} {w : World} {v : Value} {l : Tab} (h : PrSl base w v l) : ∃ a cap, v = .slice a l.length cap ∧ (l = [] ∨ ∃ g, a = some ⟨g, 0, none⟩ ∧ g < w.heap.size ∧ ∀ (i : Nat) (p : ByteArray × ByteArray), l[i]? = some p → w.cell? ⟨g, i * 2, none⟩ = some (.string p.1) ∧ w.cell? ⟨g, i * 2 + 1, none⟩ = some (.string p.2)) := by
  rcases h.2 with ⟨e, h0⟩ | ⟨g, cap, cur, e, hb, hg, h1, h2, h3, h4⟩
  · exact ⟨none, 0, by rw [e, h0], .inl (List.eq_nil_of_length_eq_zero h0)⟩
  · refine ⟨_, cap, e, .inr ⟨g, rfl, lt_of_heap hg, fun i p hp => ?_⟩⟩
    have hi : i < l.length := (List.getElem?_eq_some_iff.1 hp).1
    obtain ⟨p1, p2⟩ := pairCells_at l i p hp
    rw [← h4] at p1 p2
    rw [List.getElem?_take, if_pos (by omega)] at p1 p2
    simp only [cell_of_heap hg]
    exact ⟨by simpa using p1, by simpa using p2⟩

theorem str_eq {a b : ByteArray} (h : a = b) : (a.toList == b.toList) = true := by rw [h]; simp
theorem str_ne {a b : ByteArray} (h : ¬ a = b) : (a.toList == b.toList) = false := by
  simp only [beq_eq_false_iff_ne, ne_eq]
  intro e
  rw [ByteArray.toList_eq, ByteArray.toList_eq] at e
  exact h (ByteArray.ext (Array.ext' e))

theorem one2 (a b : ByteArray) : ∀ u ∈ [Value.string a, Value.string b], u.oneCell' = true := by
  intro u hu; simp only [List.mem_cons, List.not_mem_nil, or_false] at hu; rcases hu with rfl | rfl <;> rfl

set_option maxRecDepth 100000 in
set_option maxHeartbeats 1000000 in
theorem tget_h (w : World) (base : Nat) (v : Value) (l : Tab) (hv : PrSl base w v l) (hl : l.length ≤ 1073741824) (k : ByteArray) :
    Calls Tryz.prog 61 #[v, .string k] w fun e w' => e = .returned (.tuple #[.string ((look l k).getD ⟨#[]⟩), .bool (look l k).isSome]) ∧ w' = w := by
  obtain ⟨a, cap, rfl, hc⟩ := hv.at
  clear hv
  go_enter Tryz.func61, Tryz.ntmps61
  go_wp2
  go_loopw [6] (fun i wr => ∃ n : Nat, i = .int .i64 n ∧ n ≤ l.length ∧ wr = w ∧ Hid (look l k = look (l.drop n) k)) (fun i _ => l.length - (intOf i).toNat)
  case atStart => exact ⟨0, rfl, Nat.zero_le _, rfl, by rw [List.drop_zero]; exact rfl⟩
  case round =>
    obtain ⟨n, rfl, hn, rfl, HL⟩ := hrel
    by_cases hlt : n < l.length
    · have hlt' : (n : Int) < (l.length : Int) := by omega
      rcases hc with h0 | ⟨g, rfl, hg, hcell⟩
      · rw [h0] at hlt; simp at hlt
      obtain ⟨p, hp⟩ : ∃ p, l[n]? = some p := ⟨_, List.getElem?_eq_getElem hlt⟩
      obtain ⟨p1, p2⟩ := hcell n p hp
      have HD : Hid (look l k = if p.1 = k then some p.2 else look (l.drop (n + 1)) k) := HL.out.trans (look_drop hp k)
      clear hcell hp HL
      by_cases hk : p.1 = k
      · have HE : Hid (look l k = some p.2) := by have := HD.out; rw [if_pos hk] at this; exact this
        have hkb := str_eq hk
        clear HD hk
        go_wp2
        go_ret2
        exact ⟨by rw [HE.out]; rfl, rfl⟩
      · have HE : Hid (look l k = look (l.drop (n + 1)) k) := by have := HD.out; rw [if_neg hk] at this; exact this
        have hkb := str_ne hk
        clear HD hk
        go_wp2
        exact ⟨⟨n + 1, by go_num, by omega, trivial, HE⟩, by simp [intOf]; omega⟩
    · have hge : ¬ (n : Int) < (l.length : Int) := by omega
      have HE : Hid (look l k = none) := by
        have := HL.out
        rw [List.drop_eq_nil_of_le (by omega)] at this
        exact this
      clear hc HL
      go_wp2
      go_ret2
      exact ⟨by rw [HE.out]; rfl, rfl⟩

theorem tdrop_take {l : Tab} {n : Nat} {p : ByteArray × ByteArray} (h : l[n]? = some p) (k : ByteArray) : tdrop (l.take (n + 1)) k = tdrop (l.take n) k ++ (if p.1 = k then [] else [p]) := by
  unfold tdrop
  rw [take_succ_of h, List.filter_append]
  by_cases hk : p.1 = k <;> simp [hk]

set_option maxRecDepth 100000 in
set_option maxHeartbeats 1000000 in
theorem tdrop_h (w : World) (base : Nat) (v : Value) (l : Tab) (hv : PrSl base w v l) (hl : l.length ≤ 1073741824) (k : ByteArray) :
    Calls Tryz.prog 81 #[v, .string k] w fun e w' => ∃ v', e = .returned v' ∧ PrSl w.heap.size w' v' (tdrop l k) ∧ Quiet w w' := by
  obtain ⟨i0, hi0, hz0, hz1, hz2⟩ := info_parts info_pair
  obtain ⟨a, cap, rfl, hc⟩ := hv.at
  clear hv
  go_enter Tryz.func81, Tryz.ntmps81
  go_wp2
  go_loopw [5, 6] (fun o i wr => ∃ n : Nat, i = .int .i64 n ∧ n ≤ l.length ∧ Quiet w wr ∧ PrSl w.heap.size wr o (tdrop (l.take n) k)) (fun _ i _ => l.length - (intOf i).toNat)
  case atStart => exact ⟨0, rfl, Nat.zero_le _, Keeps.refl _ _, World.ownsRow_nil _ _ _ _⟩
  case round =>
    obtain ⟨n, rfl, hn, hq, hown⟩ := hrel
    by_cases hlt : n < l.length
    · have hlt' : (n : Int) < (l.length : Int) := by omega
      rcases hc with h0 | ⟨g, rfl, hg, hcell⟩
      · rw [h0] at hlt; simp at hlt
      obtain ⟨p, hp⟩ : ∃ p, l[n]? = some p := ⟨_, List.getElem?_eq_getElem hlt⟩
      obtain ⟨p1, p2⟩ := hcell n p hp
      rw [← hq.cell hg (by simp)] at p1 p2
      have HT : Hid (tdrop (l.take (n + 1)) k = tdrop (l.take n) k ++ (if p.1 = k then [] else [p])) := tdrop_take hp k
      have hfl : (tdrop (l.take n) k).length ≤ 1073741824 := Nat.le_trans (List.length_filter_le _ _) (by simp; omega)
      have hsz := hq.size
      clear hcell hp
      by_cases hk : p.1 = k
      · have HE : Hid (tdrop (l.take (n + 1)) k = tdrop (l.take n) k) := by have := HT.out; rw [if_pos hk, List.append_nil] at this; exact this
        have hkb := str_eq hk
        clear HT hk
        go_wp2
        exact ⟨⟨n + 1, by go_num, by omega, hq, by rw [HE.out]; exact hown⟩, by simp [intOf]; omega⟩
      · have HE : Hid (tdrop (l.take (n + 1)) k = tdrop (l.take n) k ++ [(p.1, p.2)]) := by have := HT.out; rw [if_neg hk] at this; exact this
        have hkb := str_ne hk
        clear HT hk
        go_wp2_with (first
          | (at_builtin; refine wpList_append_own_at _ rfl _ _ 35 rfl w.heap.size 113 i0 (.agg #[.string ⟨#[]⟩, .string ⟨#[]⟩]) 2 32 Tryz.underlying35 hi0 hz0 hz1 hz2 rfl (by decide) _ _ _ (by simp [go_sem]) (hown.alloc _) ⟨wr.heap.size, 0, none⟩ 1 1 [.string p.1, .string p.2] (by simp [go_sem]) rfl (cell_twoNew wr (.string p.1) (.string p.2) 113) (one2 _ _) (by unfold maxLen; omega) (by omega) (by simp; omega) ?_)
          | fail)
        intro v' w5 hown5 hgrow hnil hloc
        have k5 := keeps_of_grown hgrow
        have hlo4 := hown.lt
        have hq5 : Quiet w w5 := Quiet.of_new (Quiet.trans' hq (Keeps.alloc _ _)) k5 (fun b hb => (hlo4 b hb).1)
        have hown6 := PrSl.snoc hown5
        clear hown5 hgrow hnil hloc k5 hown
        go_wp2
        go_roundw
        case rel => exact ⟨n + 1, by go_num, by omega, hq5, by rw [HE.out]; exact hown6⟩
        case measure => simp [intOf]; omega
    · have hge : ¬ (n : Int) < (l.length : Int) := by omega
      have hT : l.take n = l := List.take_of_length_le (by omega)
      rw [hT] at hown
      clear hc
      go_wp2
      go_ret
      exact ⟨_, rfl, hown, hq⟩

set_option maxRecDepth 100000 in
set_option maxHeartbeats 1000000 in
theorem has_h (w : World) (base : Nat) (v : Value) (l : List ByteArray) (hv : SSl base w v l) (k : ByteArray) :
    Calls Tryz.prog 82 #[v, .string k] w fun e w' => e = .returned (.bool (hasB l k)) ∧ w' = w := by
  have hlen : l.length ≤ maxLen := by
    rcases hv.2 with ⟨_, h0⟩ | ⟨_, cap, _, _, _, _, h1, h2, _⟩
    · rw [h0]; exact Nat.zero_le _
    · omega
  unfold maxLen at hlen
  obtain ⟨a, cap, rfl, hc⟩ := hv.cells
  clear hv
  go_enter Tryz.func82, Tryz.ntmps82
  go_wp2
  go_loopw [5] (fun i wr => ∃ n : Nat, i = .int .i64 n ∧ n ≤ l.length ∧ wr = w ∧ Hid (hasB l k = hasB (l.drop n) k)) (fun i _ => l.length - (intOf i).toNat)
  case atStart => exact ⟨0, rfl, Nat.zero_le _, rfl, by rw [List.drop_zero]; exact rfl⟩
  case round =>
    obtain ⟨n, rfl, hn, rfl, HL⟩ := hrel
    by_cases hlt : n < l.length
    · have hlt' : (n : Int) < (l.length : Int) := by omega
      rcases hc with h0 | ⟨g, rfl, hb, hg, hcell⟩
      · rw [h0] at hlt; simp at hlt
      obtain ⟨p, hp⟩ : ∃ p, l[n]? = some p := ⟨_, List.getElem?_eq_getElem hlt⟩
      have p1 := hcell n p hp
      have HD : Hid (hasB l k = (decide (p = k) || hasB (l.drop (n + 1)) k)) := by
        refine HL.out.trans ?_
        obtain ⟨h1, e⟩ := List.getElem?_eq_some_iff.1 hp
        rw [List.drop_eq_getElem_cons h1, e]; rfl
      clear hcell hp HL hb
      by_cases hk : p = k
      · have HE : Hid (hasB l k = true) := by have := HD.out; rw [decide_eq_true hk] at this; exact this
        have hkb := str_eq hk
        clear HD hk
        go_wp2
        go_ret
        exact ⟨by rw [HE.out]; rfl, rfl⟩
      · have HE : Hid (hasB l k = hasB (l.drop (n + 1)) k) := by have := HD.out; rw [decide_eq_false hk, Bool.false_or] at this; exact this
        have hkb := str_ne hk
        clear HD hk
        go_wp2
        exact ⟨⟨n + 1, by go_num, by omega, trivial, HE⟩, by simp [intOf]; omega⟩
    · have hge : ¬ (n : Int) < (l.length : Int) := by omega
      have HE : Hid (hasB l k = false) := by
        have := HL.out
        rw [List.drop_eq_nil_of_le (by omega)] at this
        exact this
      clear hc HL
      go_wp2
      go_ret
      exact ⟨by rw [HE.out]; rfl, rfl⟩

theorem tputF_drop {l : Tab} {n : Nat} {p : ByteArray × ByteArray} (h : l[n]? = some p) (k v : ByteArray) (d : Bool) : tputF k v d (l.drop n) = (if !d && leb k p.1 then [(k, v)] else []) ++ ((if p.1 ≠ k then [p] else []) ++ tputF k v (d || leb k p.1) (l.drop (n + 1))) := by
  obtain ⟨hn, e⟩ := List.getElem?_eq_some_iff.1 h
  rw [List.drop_eq_getElem_cons hn, e]; rfl

theorem leb_self (k : ByteArray) : leb k k = true := by unfold leb; simp
theorem leb_ne {k p : ByteArray} (h : ¬ p = k) : leb k p = Op.bytesLess k.toList p.toList := by
  unfold leb
  rw [str_ne (fun e => h e.symm), Bool.or_false]

set_option maxRecDepth 100000 in
set_option maxHeartbeats 2000000 in
theorem tput_h (w : World) (base : Nat) (v : Value) (l : Tab) (hv : PrSl base w v l) (hl : l.length ≤ 1073741824) (k x : ByteArray) :
    Calls Tryz.prog 28 #[v, .string k, .string x] w fun e w' => ∃ v', e = .returned v' ∧ PrSl w.heap.size w' v' (tput l k x) ∧ Quiet w w' := by
  obtain ⟨i0, hi0, hz0, hz1, hz2⟩ := info_parts info_pair
  obtain ⟨a, cap, rfl, hc⟩ := hv.at
  clear hv
  go_enter Tryz.func28, Tryz.ntmps28
  go_wp2
  go_loopw [7, 8, 9] (fun o d i wr => ∃ (n : Nat) (db : Bool) (out : Tab), i = .int .i64 n ∧ d = .bool db ∧ n ≤ l.length ∧ Quiet w wr ∧ PrSl w.heap.size wr o out ∧ out.length ≤ n + 1 ∧ Hid (tput l k x = out ++ tputF k x db (l.drop n)) ∧ Hid (db = false → out.length ≤ n)) (fun _ _ i _ => l.length - (intOf i).toNat)
  case atStart => exact ⟨0, false, [], rfl, rfl, Nat.zero_le _, Keeps.refl _ _, World.ownsRow_nil _ _ _ _, by simp, (by rw [List.drop_zero]; rfl : Hid _), fun _ => Nat.le_refl _⟩
  case round =>
    obtain ⟨n, db, out, rfl, rfl, hn, hq, hown, hol, HL, HO⟩ := hrel
    have hsz := hq.size
    by_cases hlt : n < l.length
    · have hlt' : (n : Int) < (l.length : Int) := by omega
      rcases hc with h0 | ⟨g, rfl, hg, hcell⟩
      · rw [h0] at hlt; simp at hlt
      obtain ⟨p, hp⟩ : ∃ p, l[n]? = some p := ⟨_, List.getElem?_eq_getElem hlt⟩
      obtain ⟨p1, p2⟩ := hcell n p hp
      have HD : Hid (tput l k x = out ++ ((if !db && leb k p.1 then [(k, x)] else []) ++ ((if p.1 ≠ k then [p] else []) ++ tputF k x (db || leb k p.1) (l.drop (n + 1))))) := HL.out.trans (by rw [tputF_drop hp])
      clear hcell hp HL
      rw [← hq.cell hg (by simp)] at p1 p2
      by_cases hk : p.1 = k
      · have hkb := str_eq hk
        have hkc := str_eq hk.symm
        have hlk : leb k p.1 = true := by rw [hk]; exact leb_self k
        cases db with
        | true =>
          have HE : Hid (tput l k x = out ++ tputF k x true (l.drop (n + 1))) := by have := HD.out; simp only [hk, ne_eq, not_true, if_false, Bool.not_true, Bool.false_and, Bool.false_eq_true, List.nil_append, Bool.true_or] at this; exact this
          clear HD HO hk hlk
          go_wp2
          exact ⟨⟨n + 1, true, out, by go_num, rfl, by omega, hq, hown, by omega, HE, fun e => by cases e⟩, by simp [intOf]; omega⟩
        | false =>
          have hol' : out.length ≤ n := HO.out rfl
          have HE : Hid (tput l k x = (out ++ [(k, x)]) ++ tputF k x true (l.drop (n + 1))) := (by rw [HD.out, hlk]; simp [hk] : tput l k x = (out ++ [(k, x)]) ++ tputF k x true (l.drop (n + 1)))
          have hwr : w.heap.size ≤ wr.heap.size := hsz
          have hg' : g < wr.heap.size := Nat.lt_of_lt_of_le hg hsz
          clear HD HO hk hlk
          go_wp2_with (first
            | (at_builtin; refine wpList_append_own_at _ rfl _ _ 35 rfl w.heap.size 113 i0 (.agg #[.string ⟨#[]⟩, .string ⟨#[]⟩]) 2 32 Tryz.underlying35 hi0 hz0 hz1 hz2 rfl (by decide) _ _ _ (by simp [go_sem]) (hown.alloc _) ⟨wr.heap.size, 0, none⟩ 1 1 [.string k, .string x] (by simp [go_sem]) rfl (cell_twoNew wr (.string k) (.string x) 113) (one2 _ _) (by unfold maxLen; omega) (by omega) (by simp; omega) ?_)
            | fail)
          intro v5 w5 hown5 hgrow hnil hloc
          have k5 := keeps_of_grown hgrow
          have hlo5 := hown.lt
          have hq5 : Quiet w w5 := Quiet.of_new (Quiet.trans' hq (Keeps.alloc _ _)) k5 (fun b hb => (hlo5 b hb).1)
          have hown5b := PrSl.snoc hown5
          have hsz5 := hq5.size
          clear hown5 hgrow hnil hloc k5 hlo5 hown
          have p1' : w5.cell? ⟨g, n * 2, none⟩ = some (.string p.1) := (hq5.cell hg (by simp)).trans ((hq.cell hg (by simp)).symm.trans p1)
          go_wp2
          go_roundw
          case rel => exact ⟨n + 1, true, out ++ [(k, x)], by go_num, rfl, by omega, hq5, hown5b, by simp; omega, HE, fun e => by cases e⟩
          case measure => simp [intOf]; omega
      · have hkb := str_ne hk
        have hkc := str_ne (fun e => hk (Eq.symm e))
        have hln := leb_ne hk
        rw [hln] at HD
        generalize hL : Op.bytesLess k.toList p.1.toList = L at HD
        cases hd1 : (!db && L) with
        | true =>
          obtain ⟨hd2, rfl⟩ : db = false ∧ L = true := by simpa using hd1
          subst hd2
          have hol' : out.length ≤ n := HO.out rfl
          have HE : Hid (tput l k x = ((out ++ [(k, x)]) ++ [(p.1, p.2)]) ++ tputF k x true (l.drop (n + 1))) := (by rw [HD.out]; simp [hk] : tput l k x = ((out ++ [(k, x)]) ++ [(p.1, p.2)]) ++ tputF k x true (l.drop (n + 1)))
          clear HD HO hk hln hd1
          go_wp2_with (first
            | (at_builtin; refine wpList_append_own_at _ rfl _ _ 35 rfl w.heap.size 113 i0 (.agg #[.string ⟨#[]⟩, .string ⟨#[]⟩]) 2 32 Tryz.underlying35 hi0 hz0 hz1 hz2 rfl (by decide) _ _ _ (by simp [go_sem]) (hown.alloc _) ⟨wr.heap.size, 0, none⟩ 1 1 [.string k, .string x] (by simp [go_sem]) rfl (cell_twoNew wr (.string k) (.string x) 113) (one2 _ _) (by unfold maxLen; omega) (by omega) (by simp; omega) ?_)
            | fail)
          intro v5 w5 hown5 hgrow hnil hloc
          have k5 := keeps_of_grown hgrow
          have hlo5 := hown.lt
          have hq5 : Quiet w w5 := Quiet.of_new (Quiet.trans' hq (Keeps.alloc _ _)) k5 (fun b hb => (hlo5 b hb).1)
          have hown5b := PrSl.snoc hown5
          have hsz5 := hq5.size
          clear hown5 hgrow hnil hloc k5 hlo5 hown
          have p1' : w5.cell? ⟨g, n * 2, none⟩ = some (.string p.1) := (hq5.cell hg (by simp)).trans ((hq.cell hg (by simp)).symm.trans p1)
          have p2' : w5.cell? ⟨g, n * 2 + 1, none⟩ = some (.string p.2) := (hq5.cell hg (by simp)).trans ((hq.cell hg (by simp)).symm.trans p2)
          have hol5 : (out ++ [(k, x)]).length ≤ n + 1 := by simp; omega
          clear p1 p2
          generalize out ++ [(k, x)] = out2 at *
          go_wp2_with (first
            | (at_builtin; refine wpList_append_own_at _ rfl _ _ 35 rfl w.heap.size 113 i0 (.agg #[.string ⟨#[]⟩, .string ⟨#[]⟩]) 2 32 Tryz.underlying35 hi0 hz0 hz1 hz2 rfl (by decide) _ _ _ (by simp [go_sem]) (hown5b.alloc _) ⟨w5.heap.size, 0, none⟩ 1 1 [.string p.1, .string p.2] (by simp [go_sem]) rfl (cell_twoNew w5 (.string p.1) (.string p.2) 113) (one2 _ _) (by unfold maxLen; omega) (by omega) (by simp; omega) ?_)
            | fail)
          intro v6 w6 hown6 hgrow hnil hloc
          have k6 := keeps_of_grown hgrow
          have hlo6 := hown5b.lt
          have hq6 : Quiet w w6 := Quiet.of_new (Quiet.trans' hq5 (Keeps.alloc _ _)) k6 (fun b hb => (hlo6 b hb).1)
          have hown6b := PrSl.snoc hown6
          have hsz6 := hq6.size
          clear hown6 hgrow hnil hloc k6 hlo6 hown5b
          go_wp2
          go_roundw
          case rel => exact ⟨n + 1, true, out2 ++ [(p.1, p.2)], by go_num, rfl, by omega, hq6, hown6b, by simp; omega, HE, fun e => by cases e⟩
          case measure => simp [intOf]; omega
        | false =>
          have HE : Hid (tput l k x = (out ++ [(p.1, p.2)]) ++ tputF k x db (l.drop (n + 1))) := by
            have e : (db || L) = db := by cases db <;> simp_all
            have this : tput l k x = (out ++ [(p.1, p.2)]) ++ tputF k x db (l.drop (n + 1)) := by rw [HD.out, hd1, e]; simp [hk]
            exact this
          have HO' : Hid (db = false → (out ++ [(p.1, p.2)]).length ≤ n + 1) := fun e => by have := HO.out e; simp; omega
          cases db with
          | true =>
            clear HD HO hk hln hd1
            go_wp2_with (first
              | (at_builtin; refine wpList_append_own_at _ rfl _ _ 35 rfl w.heap.size 113 i0 (.agg #[.string ⟨#[]⟩, .string ⟨#[]⟩]) 2 32 Tryz.underlying35 hi0 hz0 hz1 hz2 rfl (by decide) _ _ _ (by simp [go_sem]) (hown.alloc _) ⟨wr.heap.size, 0, none⟩ 1 1 [.string p.1, .string p.2] (by simp [go_sem]) rfl (cell_twoNew wr (.string p.1) (.string p.2) 113) (one2 _ _) (by unfold maxLen; omega) (by omega) (by simp; omega) ?_)
              | fail)
            intro v5 w5 hown5 hgrow hnil hloc
            have k5 := keeps_of_grown hgrow
            have hlo5 := hown.lt
            have hq5 : Quiet w w5 := Quiet.of_new (Quiet.trans' hq (Keeps.alloc _ _)) k5 (fun b hb => (hlo5 b hb).1)
            have hown5b := PrSl.snoc hown5
            have hsz5 := hq5.size
            clear hown5 hgrow hnil hloc k5 hlo5 hown
            go_wp2
            go_roundw
            case rel => exact ⟨n + 1, true, out ++ [(p.1, p.2)], by go_num, rfl, by omega, hq5, hown5b, by simp; omega, HE, HO'⟩
            case measure => simp [intOf]; omega
          | false =>
            have hLf : L = false := by simpa using hd1
            subst hLf
            clear HD HO hk hln hd1
            go_wp2_with (first
              | (at_builtin; refine wpList_append_own_at _ rfl _ _ 35 rfl w.heap.size 113 i0 (.agg #[.string ⟨#[]⟩, .string ⟨#[]⟩]) 2 32 Tryz.underlying35 hi0 hz0 hz1 hz2 rfl (by decide) _ _ _ (by simp [go_sem]) (hown.alloc _) ⟨wr.heap.size, 0, none⟩ 1 1 [.string p.1, .string p.2] (by simp [go_sem]) rfl (cell_twoNew wr (.string p.1) (.string p.2) 113) (one2 _ _) (by unfold maxLen; omega) (by omega) (by simp; omega) ?_)
              | fail)
            intro v5 w5 hown5 hgrow hnil hloc
            have k5 := keeps_of_grown hgrow
            have hlo5 := hown.lt
            have hq5 : Quiet w w5 := Quiet.of_new (Quiet.trans' hq (Keeps.alloc _ _)) k5 (fun b hb => (hlo5 b hb).1)
            have hown5b := PrSl.snoc hown5
            have hsz5 := hq5.size
            clear hown5 hgrow hnil hloc k5 hlo5 hown
            go_wp2
            go_roundw
            case rel => exact ⟨n + 1, false, out ++ [(p.1, p.2)], by go_num, rfl, by omega, hq5, hown5b, by simp; omega, HE, fun _ => HO'.out trivial⟩
            case measure => simp [intOf]; omega
    · have hge : ¬ (n : Int) < (l.length : Int) := by omega
      rw [Hid, List.drop_eq_nil_of_le (by omega)] at HL
      clear hc
      cases db with
      | true =>
        have HE : Hid (tput l k x = out) := (by rw [HL]; simp [tputF] : tput l k x = out)
        clear HL HO
        go_wp2
        go_ret
        exact ⟨_, rfl, by rw [HE.out]; exact hown, hq⟩
      | false =>
        have HE : Hid (tput l k x = out ++ [(k, x)]) := (by rw [HL]; simp [tputF] : tput l k x = out ++ [(k, x)])
        clear HL HO
        go_wp2_with (first
          | (at_builtin; refine wpList_append_own_at _ rfl _ _ 35 rfl w.heap.size 113 i0 (.agg #[.string ⟨#[]⟩, .string ⟨#[]⟩]) 2 32 Tryz.underlying35 hi0 hz0 hz1 hz2 rfl (by decide) _ _ _ (by simp [go_sem]) (hown.alloc _) ⟨wr.heap.size, 0, none⟩ 1 1 [.string k, .string x] (by simp [go_sem]) rfl (cell_twoNew wr (.string k) (.string x) 113) (one2 _ _) (by unfold maxLen; omega) (by omega) (by simp; omega) ?_)
          | fail)
        intro v5 w5 hown5 hgrow hnil hloc
        have k5 := keeps_of_grown hgrow
        have hlo5 := hown.lt
        have hq5 : Quiet w w5 := Quiet.of_new (Quiet.trans' hq (Keeps.alloc _ _)) k5 (fun b hb => (hlo5 b hb).1)
        have hown5b := PrSl.snoc hown5
        have hsz5 := hq5.size
        clear hown5 hgrow hnil hloc k5 hlo5 hown
        go_wp2
        go_ret
        exact ⟨_, rfl, by rw [HE.out]; exact hown5b, hq5⟩

theorem tpart_take {l : Tab} {n : Nat} {p : ByteArray × ByteArray} (h : l[n]? = some p) (lo hi : ByteArray) : tpart (l.take (n + 1)) lo hi = tpart (l.take n) lo hi ++ (if coversB (true, lo, hi) p.1 then [p] else []) := by
  unfold tpart
  rw [take_succ_of h, List.filter_append]
  by_cases hk : coversB (true, lo, hi) p.1 = true <;> simp [hk]

set_option maxRecDepth 100000 in
set_option maxHeartbeats 2000000 in
theorem tpart_h (w : World) (base : Nat) (v : Value) (l : Tab) (hv : PrSl base w v l) (hl : l.length ≤ 1073741824) (lo hi : ByteArray) :
    Calls Tryz.prog 62 #[v, .string lo, .string hi] w fun e w' => ∃ v', e = .returned v' ∧ PrSl w.heap.size w' v' (tpart l lo hi) ∧ Quiet w w' := by
  obtain ⟨i0, hi0, hz0, hz1, hz2⟩ := info_parts info_pair
  obtain ⟨a, cap, rfl, hc⟩ := hv.at
  clear hv
  go_enter Tryz.func62, Tryz.ntmps62
  go_wp2
  go_loopw [7, 8] (fun o i wr => ∃ n : Nat, i = .int .i64 n ∧ n ≤ l.length ∧ Quiet w wr ∧ PrSl w.heap.size wr o (tpart (l.take n) lo hi)) (fun _ i _ => l.length - (intOf i).toNat)
  case atStart => exact ⟨0, rfl, Nat.zero_le _, Keeps.refl _ _, World.ownsRow_nil _ _ _ _⟩
  case round =>
    obtain ⟨n, rfl, hn, hq, hown⟩ := hrel
    have hsz := hq.size
    by_cases hlt : n < l.length
    · have hlt' : (n : Int) < (l.length : Int) := by omega
      rcases hc with h0 | ⟨g, rfl, hg, hcell⟩
      · rw [h0] at hlt; simp at hlt
      obtain ⟨p, hp⟩ : ∃ p, l[n]? = some p := ⟨_, List.getElem?_eq_getElem hlt⟩
      obtain ⟨p1, p2⟩ := hcell n p hp
      rw [← hq.cell hg (by simp)] at p1 p2
      have HT := tpart_take hp lo hi
      have hfl : (tpart (l.take n) lo hi).length ≤ 1073741824 := Nat.le_trans (List.length_filter_le _ _) (by simp; omega)
      have ecv : coversB (true, lo, hi) p.1 = (!Op.bytesLess p.1.toList lo.toList && (hi.toList == [] || Op.bytesLess p.1.toList hi.toList)) := by
        simp only [coversB, bl, if_true]
        congr 2
        cases hi.toList <;> rfl
      rw [ecv] at HT
      clear hcell hp ecv
      generalize hA : Op.bytesLess p.1.toList lo.toList = A at HT
      generalize hB : (hi.toList == []) = B at HT
      generalize hC : Op.bytesLess p.1.toList hi.toList = C at HT
      have hB' : (hi.toList == (⟨#[]⟩ : ByteArray).toList) = B := by
        have e : (⟨#[]⟩ : ByteArray).toList = [] := by rw [ByteArray.toList_eq]
        rw [e]; exact hB
      cases hcv : (!A && (B || C)) with
      | false =>
        rw [hcv, if_neg (by simp), List.append_nil] at HT
        have HE : Hid (tpart (l.take (n + 1)) lo hi = tpart (l.take n) lo hi) := HT
        clear HT
        cases A <;> cases B <;> cases C <;> first
          | (exfalso; revert hcv; decide)
          | (clear hcv
             go_wp2
             exact ⟨⟨n + 1, by go_num, by omega, hq, by rw [HE.out]; exact hown⟩, by simp [intOf]; omega⟩)
      | true =>
        rw [hcv, if_pos rfl] at HT
        have HE : Hid (tpart (l.take (n + 1)) lo hi = tpart (l.take n) lo hi ++ [(p.1, p.2)]) := HT
        clear HT
        obtain ⟨rfl, hBC⟩ : A = false ∧ (B || C) = true := by simpa using hcv
        have hcases : B = true ∨ (B = false ∧ C = true) := by cases B <;> simp_all
        clear hcv hBC
        rcases hcases with rfl | ⟨rfl, rfl⟩
        · skip
          go_wp2_with (first
            | (at_builtin; refine wpList_append_own_at _ rfl _ _ 35 rfl w.heap.size 113 i0 (.agg #[.string ⟨#[]⟩, .string ⟨#[]⟩]) 2 32 Tryz.underlying35 hi0 hz0 hz1 hz2 rfl (by decide) _ _ _ (by simp [go_sem]) (hown.alloc _) ⟨wr.heap.size, 0, none⟩ 1 1 [.string p.1, .string p.2] (by simp [go_sem]) rfl (cell_twoNew wr (.string p.1) (.string p.2) 113) (one2 _ _) (by unfold maxLen; omega) (by omega) (by simp; omega) ?_)
            | fail)
          intro v5 w5 hown5 hgrow hnil hloc
          have k5 := keeps_of_grown hgrow
          have hlo5 := hown.lt
          have hq5 : Quiet w w5 := Quiet.of_new (Quiet.trans' hq (Keeps.alloc _ _)) k5 (fun b hb => (hlo5 b hb).1)
          have hown5b := PrSl.snoc hown5
          have hsz5 := hq5.size
          clear hown5 hgrow hnil hloc k5 hlo5 hown
          go_wp2
          go_roundw
          case rel => exact ⟨n + 1, by go_num, by omega, hq5, by rw [HE.out]; exact hown5b⟩
          case measure => simp [intOf]; omega
        · skip
          go_wp2_with (first
            | (at_builtin; refine wpList_append_own_at _ rfl _ _ 35 rfl w.heap.size 113 i0 (.agg #[.string ⟨#[]⟩, .string ⟨#[]⟩]) 2 32 Tryz.underlying35 hi0 hz0 hz1 hz2 rfl (by decide) _ _ _ (by simp [go_sem]) (hown.alloc _) ⟨wr.heap.size, 0, none⟩ 1 1 [.string p.1, .string p.2] (by simp [go_sem]) rfl (cell_twoNew wr (.string p.1) (.string p.2) 113) (one2 _ _) (by unfold maxLen; omega) (by omega) (by simp; omega) ?_)
            | fail)
          intro v5 w5 hown5 hgrow hnil hloc
          have k5 := keeps_of_grown hgrow
          have hlo5 := hown.lt
          have hq5 : Quiet w w5 := Quiet.of_new (Quiet.trans' hq (Keeps.alloc _ _)) k5 (fun b hb => (hlo5 b hb).1)
          have hown5b := PrSl.snoc hown5
          have hsz5 := hq5.size
          clear hown5 hgrow hnil hloc k5 hlo5 hown
          go_wp2
          go_roundw
          case rel => exact ⟨n + 1, by go_num, by omega, hq5, by rw [HE.out]; exact hown5b⟩
          case measure => simp [intOf]; omega
    · have hge : ¬ (n : Int) < (l.length : Int) := by omega
      have hT : l.take n = l := List.take_of_length_le (by omega)
      rw [hT] at hown
      clear hc
      go_wp2
      go_ret
      exact ⟨_, rfl, hown, hq⟩

end Go.Proofs.YthfimgeopciiiaaGreat

/-
  The document's own store: its small functions.
-/
namespace Go.Proofs.YthfimgeopciiiaaGreat
open Go.MapKept Go.ChangeMaps Go.Maps Go.RowKit Go.MuLone
set_option linter.unusedVariables false

set_option maxRecDepth 100000 in
set_option maxHeartbeats 400000 in
theorem rhas_h (x : Bool) (lo hi k : ByteArray) (w : World) :
    Calls Tryz.prog 180 #[.agg #[.string lo, .string hi, .bool (!x)], .string k] w fun e w' => e = .returned (.bool (coversB (x, lo, hi) k)) ∧ Quiet w w' := by
  cases x
  · go_enter Tryz.func180, Tryz.ntmps180
    go_wp2
    go_ret
    exact ⟨ret_bool (by simp [coversB]; exact Bool.eq_iff_iff.2 ⟨fun h => by simp at h ⊢; exact h.symm, fun h => by simp at h ⊢; exact h.symm⟩), Keeps.alloc _ _⟩
  · go_enter Tryz.func180, Tryz.ntmps180
    go_wp2
    all_goals go_ret
    all_goals refine ⟨ret_bool ?_, Keeps.alloc _ _⟩
    all_goals simp [coversB, bl, *]

/-- the nearer key -/
def nearB (e : Ent) (last best key : ByteArray) : ByteArray := if coversB e key && (!bl key last && !(key.toList == last.toList)) && (best.toList.isEmpty || bl key best) then key else best

theorem ret_str {a b : ByteArray} (h : a = b) : Ending.returned (.string a) = .returned (.string b) := by rw [h]

set_option maxRecDepth 100000 in
set_option maxHeartbeats 1000000 in
theorem nearer_h (x : Bool) (lo hi last best key : ByteArray) (w : World) :
    Calls Tryz.prog 183 #[.agg #[.string lo, .string hi, .bool (!x)], .string last, .string best, .string key] w fun e w' => e = .returned (.string (nearB (x, lo, hi) last best key)) ∧ Quiet w w' := by
  have HH : Hid (∀ W, Calls Tryz.prog 180 #[.agg #[.string lo, .string hi, .bool (!x)], .string key] W fun e w' => e = .returned (.bool (coversB (x, lo, hi) key)) ∧ Quiet W w') := fun W => rhas_h x lo hi key W
  generalize hr : nearB (x, lo, hi) last best key = r
  generalize hc : coversB (x, lo, hi) key = c at HH
  have HR : Hid (nearB (x, lo, hi) last best key = r ∧ coversB (x, lo, hi) key = c) := ⟨hr, hc⟩
  clear hr hc
  have hq0 : Quiet w (w.alloc (.cells #[.string lo, .string hi, .bool (!x)] 201)) := Keeps.alloc _ _
  cases c with
  | false =>
    go_enter Tryz.func183, Tryz.ntmps183
    go_wp2_with (go_at_call 180; refine (HH.out _).mono ?_; rintro e w1 ⟨rfl, hq1⟩)
    all_goals go_ret
    all_goals refine ⟨ret_str ?_, Quiet.trans' hq0 hq1⟩
    all_goals obtain ⟨e1, e2⟩ := HR.out
    all_goals rw [← e1]
    all_goals simp [nearB, e2]
  | true =>
    go_enter Tryz.func183, Tryz.ntmps183
    go_wp2_with (go_at_call 180; refine (HH.out _).mono ?_; rintro e w1 ⟨rfl, hq1⟩)
    all_goals go_ret
    all_goals refine ⟨ret_str ?_, Quiet.trans' hq0 hq1⟩
    all_goals obtain ⟨e1, e2⟩ := HR.out
    all_goals clear HR HH
    all_goals subst e1
    all_goals simp_all [nearB, bl]
    all_goals (rename_i hh; intro h1 h2; exact absurd (hh h1) h2)

/-! ### a row of changes, as it is written down -/

def chgOf (p : ByteArray × Cont) : Chg := (p.1, p.2.1, p.2.2)

/-- which of its writes is that of a key -/
def AtW (l : List (ByteArray × Cont)) (k : ByteArray) (i : Int) : Prop := (∃ (j : Nat) (c : Cont), i = j ∧ look l k = some c ∧ l[j]? = some (k, c)) ∨ (i = -1 ∧ look l k = none)

theorem lookD {l : List (ByteArray × Cont)} {n : Nat} {p : ByteArray × Cont} (h : l[n]? = some p) (k : ByteArray) : look (l.drop n) k = if p.1 = k then some p.2 else look (l.drop (n + 1)) k := by
  obtain ⟨hn, e⟩ := List.getElem?_eq_some_iff.1 h
  rw [List.drop_eq_getElem_cons hn, e]; rfl

set_option maxRecDepth 100000 in
set_option maxHeartbeats 1000000 in
theorem written_h (w : World) (b c st i o : Int) (wv rv : Value) (l : List (ByteArray × Cont)) (hv : ChAt w wv (l.map chgOf)) (hrv : ∃ a n c, rv = .slice a n c) (k : ByteArray) :
    Calls Tryz.prog 115 #[.agg #[.int .i64 b, .int .i64 c, .int .i64 st, .int .i64 i, .int .i64 o, wv, rv], .string k] w fun e w' => (∃ x, e = .returned (.int .i64 x) ∧ AtW l k x) ∧ Quiet w w' := by
  obtain ⟨⟨a, cap, rfl, hc⟩, hll⟩ := hv
  obtain ⟨ra, rn, rc, rfl⟩ := hrv
  simp only [List.length_map] at hll ⊢
  go_enter Tryz.func115, Tryz.ntmps115
  go_wp2
  have hq0 : Quiet w (w.alloc (.cells #[.int .i64 b, .int .i64 c, .int .i64 st, .int .i64 i, .int .i64 o, .slice a l.length cap, .slice ra rn rc] 197)) := Keeps.alloc _ _
  have hb : (w.alloc (.cells #[.int .i64 b, .int .i64 c, .int .i64 st, .int .i64 i, .int .i64 o, .slice a l.length cap, .slice ra rn rc] 197)).cell? ⟨w.heap.size, 5, none⟩ = some (.slice a l.length cap) := by rw [cell_of_heap (heap_alloc_new _ _)]; rfl
  have HC : Hid (∀ (n : Nat) p, l[n]? = some p → ∃ g q, a = some ⟨g, q, none⟩ ∧ (w.alloc (.cells #[.int .i64 b, .int .i64 c, .int .i64 st, .int .i64 i, .int .i64 o, .slice a l.length cap, .slice ra rn rc] 197)).cell? ⟨g, q + n * 3, none⟩ = some (.string p.1)) := fun n p hp => by
    rcases hc with h0 | ⟨g, o', rfl, hg, hcell⟩
    · have : l = [] := List.map_eq_nil_iff.1 h0
      subst this; simp at hp
    · refine ⟨g, o', rfl, ?_⟩
      rw [hq0.cell hg (by simp)]
      exact (hcell n (chgOf p) (by rw [List.getElem?_map, hp]; rfl)).1
  clear hc
  generalize w.alloc (.cells #[.int .i64 b, .int .i64 c, .int .i64 st, .int .i64 i, .int .i64 o, .slice a l.length cap, .slice ra rn rc] 197) = W at *
  go_loopw [5] (fun i wr => ∃ n : Nat, i = .int .i64 n ∧ n ≤ l.length ∧ wr = W ∧ Hid (look l k = look (l.drop n) k)) (fun i _ => l.length - (intOf i).toNat)
  case atStart => exact ⟨0, rfl, Nat.zero_le _, rfl, by rw [List.drop_zero]; exact rfl⟩
  case round =>
    obtain ⟨n, rfl, hn, rfl, HL⟩ := hrel
    by_cases hlt : n < l.length
    · have hlt' : (n : Int) < (l.length : Int) := by omega
      obtain ⟨p, hp⟩ : ∃ p, l[n]? = some p := ⟨_, List.getElem?_eq_getElem hlt⟩
      obtain ⟨g, o', rfl, p1⟩ := HC.out n p hp
      have HD : Hid (look l k = if p.1 = k then some p.2 else look (l.drop (n + 1)) k) := HL.out.trans (lookD hp k)
      have HP := hidC' hp
      clear HC hp HL
      by_cases hk : p.1 = k
      · have HE : Hid (AtW l k n) := by have := HD.out; rw [if_pos hk] at this; exact .inl ⟨n, p.2, rfl, this, by rw [HP.out, ← hk]⟩
        have hkb := str_eq hk
        clear HD hk HP
        go_wp2
        go_ret
        exact ⟨⟨_, rfl, HE.out⟩, hq0⟩
      · have HE : Hid (look l k = look (l.drop (n + 1)) k) := by have := HD.out; rw [if_neg hk] at this; exact this
        have hkb := str_ne hk
        clear HD hk HP
        go_wp2
        exact ⟨⟨n + 1, by go_num, by omega, trivial, HE⟩, by simp [intOf]; omega⟩
    · have hge : ¬ (n : Int) < (l.length : Int) := by omega
      have HE : Hid (AtW l k (-1)) := by
        have := HL.out
        rw [List.drop_eq_nil_of_le (by omega)] at this
        exact .inr ⟨rfl, this⟩
      clear HC HL
      go_wp2
      go_ret
      exact ⟨⟨_, rfl, HE.out⟩, hq0⟩

end Go.Proofs.YthfimgeopciiiaaGreat

/-
  The document's own Scan, of plain data: the next key is the least of those behind the last.
-/
namespace Go.Proofs.YthfimgeopciiiaaGreat
set_option linter.unusedVariables false

theorem bl_iff {a b : ByteArray} : bl a b = true ↔ ¬ leB b a := by
  unfold bl leB
  rw [Go.Proofs.bytesLess_eq, ByteArray.toList_eq, ByteArray.toList_eq]
  simp only [decide_eq_true_eq]
  exact ⟨fun h g => g h, fun h => Decidable.not_not.1 h⟩

theorem emptyB {b : ByteArray} : b.toList.isEmpty = true ↔ b = ⟨#[]⟩ := by
  constructor
  · intro h
    have : b.toList = [] := by simpa using h
    rw [ByteArray.toList_eq] at this
    exact bytes_eq (by simpa using this)
  · rintro rfl; rw [ByteArray.toList_eq]; rfl

open Classical in
theorem nearB_eq (e : Ent) (last best key : ByteArray) : nearB e last best key = if coversB e key = true ∧ ¬ leB key last ∧ (best = ⟨#[]⟩ ∨ ¬ leB best key) then key else best := by
  unfold nearB
  have h1 : (!bl key last && !(key.toList == last.toList)) = true ↔ ¬ leB key last := by
    rw [← leb_iff]
    unfold leb bl
    cases Op.bytesLess key.toList last.toList <;> cases (key.toList == last.toList) <;> simp
  have h2 : (best.toList.isEmpty || bl key best) = true ↔ best = ⟨#[]⟩ ∨ ¬ leB best key := by
    rw [Bool.or_eq_true, emptyB, bl_iff]
  by_cases hc : coversB e key = true ∧ ¬ leB key last ∧ (best = ⟨#[]⟩ ∨ ¬ leB best key)
  · rw [if_pos hc, if_pos]
    rw [Bool.and_eq_true, Bool.and_eq_true, h1, h2]
    exact ⟨⟨hc.1, hc.2.1⟩, hc.2.2⟩
  · rw [if_neg hc, if_neg]
    rw [Bool.and_eq_true, Bool.and_eq_true, h1, h2]
    rintro ⟨⟨a, b⟩, c⟩
    exact hc ⟨a, b, c⟩

theorem near_fold (e : Ent) (last : ByteArray) : ∀ (K : List ByteArray) (b : ByteArray), (∀ x ∈ K, x ≠ ⟨#[]⟩) →
    (K.foldl (nearB e last) b = b ∨ (K.foldl (nearB e last) b ∈ K ∧ coversB e (K.foldl (nearB e last) b) = true ∧ ¬ leB (K.foldl (nearB e last) b) last)) ∧
    (∀ x ∈ K, coversB e x = true → ¬ leB x last → K.foldl (nearB e last) b ≠ ⟨#[]⟩ ∧ leB (K.foldl (nearB e last) b) x) ∧
    (b ≠ ⟨#[]⟩ → K.foldl (nearB e last) b ≠ ⟨#[]⟩ ∧ leB (K.foldl (nearB e last) b) b)
  | [], b, _ => ⟨.inl rfl, fun x hx => by simp at hx, fun h => ⟨h, List.le_refl _⟩⟩
  | x :: K, b, hk => by
    obtain ⟨i1, i2, i3⟩ := near_fold e last K (nearB e last b x) (fun y hy => hk y (List.mem_cons_of_mem _ hy))
    rw [List.foldl_cons]
    generalize hr : K.foldl (nearB e last) (nearB e last b x) = r at *
    have hx0 := hk x (List.mem_cons_self ..)
    by_cases hc : coversB e x = true ∧ ¬ leB x last ∧ (b = ⟨#[]⟩ ∨ ¬ leB b x)
    · have eb : nearB e last b x = x := by rw [nearB_eq, if_pos hc]
      rw [eb] at i1 i3
      obtain ⟨n1, n2⟩ := i3 hx0
      refine ⟨.inr ?_, fun y hy hc' hl => ?_, fun hb => ⟨n1, ?_⟩⟩
      · rcases i1 with h | ⟨h1, h2, h3⟩
        · rw [h]; exact ⟨List.mem_cons_self .., hc.1, hc.2.1⟩
        · exact ⟨List.mem_cons_of_mem _ h1, h2, h3⟩
      · rcases List.mem_cons.1 hy with rfl | hy
        · exact ⟨n1, n2⟩
        · exact i2 y hy hc' hl
      · rcases hc.2.2 with h | h
        · exact absurd h hb
        · exact leB_trans n2 (leB_total h)
    · have eb : nearB e last b x = b := by rw [nearB_eq, if_neg hc]
      rw [eb] at i1 i3
      refine ⟨?_, fun y hy hc' hl => ?_, i3⟩
      · rcases i1 with h | ⟨h1, h2, h3⟩
        · exact .inl h
        · exact .inr ⟨List.mem_cons_of_mem _ h1, h2, h3⟩
      · rcases List.mem_cons.1 hy with rfl | hy
        · have hb : b ≠ ⟨#[]⟩ ∧ leB b y := by
            refine ⟨fun e' => hc ⟨hc', hl, .inl e'⟩, ?_⟩
            exact Classical.byContradiction fun h => hc ⟨hc', hl, .inr h⟩
          exact ⟨(i3 hb.1).1, leB_trans (i3 hb.1).2 hb.2⟩
        · exact i2 y hy hc' hl

/-- what it sees of a key: its own, or what was committed -/
def RSt.seen (R : RSt) (k : RTx) (key : ByteArray) : ByteArray × Bool :=
  match look k.wr key with
  | some c => (c.1, !c.2)
  | none => R.sees k.bg key

/-- the pairs that a scan tells -/
structure RScan (R : RSt) (k : RTx) (e : Ent) (l : Tab) : Prop where
  sorted : l.Pairwise fun p q => leB p.1 q.1 ∧ p.1 ≠ q.1
  mem : ∀ key v, (key, v) ∈ l ↔ coversB e key = true ∧ R.seen k key = (v, true)

theorem RefIs.rscan {a : Abs} {R : RSt} {k : RTx} (E : RefIs a R) {n : Int} (I : a.Inv n) {e : Ent} {l : Tab} (S : RScan R k e l) : ScanIs a k.tx e l := by
  refine ⟨S.sorted, fun key v => ?_⟩
  rw [S.mem]
  unfold RSt.seen Abs.content
  show _ ↔ _ ∧ (look k.wr key).getD _ = _
  cases look k.wr key with
  | some c =>
    simp only [Option.getD_some, Prod.mk.injEq]
    constructor
    · rintro ⟨h1, h2, h3⟩; exact ⟨h1, by rw [← h2]; exact Prod.ext rfl (by simpa using h3)⟩
    · rintro ⟨h1, rfl⟩; exact ⟨h1, rfl, rfl⟩
  | none =>
    simp only [Option.getD_none]
    rw [E.sees I]
    simp only [Prod.mk.injEq]
    constructor
    · rintro ⟨h1, h2, h3⟩
      have h3' : (snap (a.vs key) k.bg).2 = false := by simpa using h3
      exact ⟨h1, by rw [← h2]; exact Prod.ext rfl h3'⟩
    · rintro ⟨h1, h2⟩
      have h2' : snap (a.vs key) k.bg = (v, false) := h2
      rw [h2']; exact ⟨h1, rfl, rfl⟩

def cntB (K : List ByteArray) (last : ByteArray) : Nat := (K.filter fun x => !leb x last).length

/-- behind some keys -/
structure ScanI (R : RSt) (k : RTx) (e : Ent) (K : List ByteArray) (last : ByteArray) (l : Tab) : Prop where
  sorted : l.Pairwise fun p q => leB p.1 q.1 ∧ p.1 ≠ q.1
  mem : ∀ key v, (key, v) ∈ l ↔ coversB e key = true ∧ leB key last ∧ R.seen k key = (v, true)
  cnt : l.length + cntB K last ≤ K.length

def nextB (e : Ent) (K : List ByteArray) (last : ByteArray) : ByteArray := K.foldl (nearB e last) ⟨#[]⟩

theorem leB_nil {k : ByteArray} (h : leB k ⟨#[]⟩) : k = ⟨#[]⟩ := leB_antisymm h (by unfold leB; exact List.nil_le _)

section
variable {R : RSt} {k : RTx} {e : Ent} {K : List ByteArray} {last : ByteArray} {l : Tab}

theorem ScanI.init (hK : ∀ key, key ∉ K → (R.seen k key).2 = false) (h0 : ∀ x ∈ K, x ≠ ⟨#[]⟩) : ScanI R k e K ⟨#[]⟩ [] := by
  refine ⟨List.Pairwise.nil, fun key v => ?_, ?_⟩
  · constructor
    · intro h; simp at h
    · rintro ⟨_, h1, h2⟩
      have hk := leB_nil h1
      subst hk
      have := hK ⟨#[]⟩ (fun h => h0 _ h rfl)
      rw [h2] at this
      cases this
  · have := List.length_filter_le (fun x => !leb x (⟨#[]⟩ : ByteArray)) K
    unfold cntB
    simpa using this

theorem ScanI.step (S : ScanI R k e K last l) (hK : ∀ key, key ∉ K → (R.seen k key).2 = false) (h0 : ∀ x ∈ K, x ≠ ⟨#[]⟩) (hn : nextB e K last ≠ ⟨#[]⟩) {v : ByteArray} {f : Bool} (hs : R.seen k (nextB e K last) = (v, f)) :
    ScanI R k e K (nextB e K last) (if f then l ++ [(nextB e K last, v)] else l) ∧ cntB K (nextB e K last) < cntB K last := by
  obtain ⟨f1, f2, -⟩ := near_fold e last K ⟨#[]⟩ h0
  change nextB e K last = _ ∨ (nextB e K last ∈ K ∧ coversB e (nextB e K last) = true ∧ ¬ leB (nextB e K last) last) at f1
  change ∀ x ∈ K, coversB e x = true → ¬ leB x last → nextB e K last ≠ ⟨#[]⟩ ∧ leB (nextB e K last) x at f2
  generalize nextB e K last = nx at *
  rcases f1 with h | ⟨g1, g2, g3⟩
  · exact absurd h hn
  have hl : leB last nx := leB_total g3
  have hcnt : cntB K nx < cntB K last := by
    unfold cntB
    have hsub : (K.filter fun x => !leb x nx) = (K.filter fun x => !leb x last).filter fun x => !leb x nx := by
      rw [List.filter_filter]
      refine List.filter_congr fun x hx => ?_
      by_cases hx1 : leB x nx
      · simp [leb_iff.2 hx1]
      · have : ¬ leB x last := fun h => hx1 (leB_trans h hl)
        have e1 : leb x last = false := by simpa using fun h => this (leb_iff.1 h)
        simp [e1]
    rw [hsub]
    refine List.length_filter_lt_length_iff_exists.2 ⟨nx, List.mem_filter.2 ⟨g1, ?_⟩, ?_⟩
    · have e1 : leb nx last = false := by simpa using fun h => g3 (leb_iff.1 h)
      simp [e1]
    · have : leb nx nx = true := leb_iff.2 (List.le_refl _)
      simp [this]
  refine ⟨⟨?_, fun key u => ?_, ?_⟩, hcnt⟩
  · cases f with
    | false => exact S.sorted
    | true =>
      rw [if_pos rfl, List.pairwise_append]
      refine ⟨S.sorted, List.pairwise_singleton _ _, fun p hp q hq => ?_⟩
      simp at hq
      subst hq
      have h1 := ((S.mem p.1 p.2).1 hp).2.1
      refine ⟨leB_trans h1 hl, fun e' => g3 ?_⟩
      have e2 : p.1 = nx := e'
      rw [← e2]; exact h1
  · have hnew : coversB e key = true ∧ leB key nx ∧ R.seen k key = (u, true) ↔ (coversB e key = true ∧ leB key last ∧ R.seen k key = (u, true)) ∨ (key = nx ∧ R.seen k key = (u, true)) := by
      constructor
      · rintro ⟨h1, h2, h3⟩
        by_cases hkl : leB key last
        · exact .inl ⟨h1, hkl, h3⟩
        · refine .inr ⟨?_, h3⟩
          have hm : key ∈ K := Classical.byContradiction fun h => by have := hK key h; rw [h3] at this; cases this
          exact leB_antisymm h2 (f2 key hm h1 hkl).2
      · rintro (⟨h1, h2, h3⟩ | ⟨rfl, h3⟩)
        · exact ⟨h1, leB_trans h2 hl, h3⟩
        · exact ⟨g2, List.le_refl _, h3⟩
    rw [hnew, ← S.mem]
    cases f with
    | false =>
      constructor
      · exact fun h => .inl h
      · rintro (h | ⟨rfl, h3⟩)
        · exact h
        · rw [hs] at h3; cases h3
    | true =>
      rw [if_pos rfl, List.mem_append, List.mem_singleton]
      constructor
      · rintro (h | h)
        · exact .inl h
        · obtain ⟨rfl, rfl⟩ := Prod.mk.inj h
          exact .inr ⟨rfl, hs⟩
      · rintro (h | ⟨rfl, h3⟩)
        · exact .inl h
        · rw [hs] at h3
          obtain ⟨rfl, -⟩ := Prod.mk.inj h3
          exact .inr rfl
  · have := S.cnt
    cases f with
    | false => simp only [Bool.false_eq_true, if_false]; omega
    | true => simp only [if_true, List.length_append, List.length_cons, List.length_nil]; omega

theorem ScanI.fin (S : ScanI R k e K last l) (hK : ∀ key, key ∉ K → (R.seen k key).2 = false) (h0 : ∀ x ∈ K, x ≠ ⟨#[]⟩) (hn : nextB e K last = ⟨#[]⟩) : RScan R k e l := by
  obtain ⟨-, f2, -⟩ := near_fold e last K ⟨#[]⟩ h0
  change ∀ x ∈ K, coversB e x = true → ¬ leB x last → nextB e K last ≠ ⟨#[]⟩ ∧ leB (nextB e K last) x at f2
  refine ⟨S.sorted, fun key v => ?_⟩
  rw [S.mem]
  constructor
  · rintro ⟨h1, _, h3⟩; exact ⟨h1, h3⟩
  · rintro ⟨h1, h3⟩
    refine ⟨h1, ?_, h3⟩
    refine Classical.byContradiction fun hl => ?_
    have hm : key ∈ K := Classical.byContradiction fun h => by have := hK key h; rw [h3] at this; cases this
    exact (f2 key hm h1 hl).1 hn

end

theorem seesF_none (key : ByteArray) (b : Int) : ∀ (l : List (ByteArray × Ver)) (s : Int × ByteArray × Bool), (∀ p ∈ l, p.1 ≠ key) → l.foldl (seesF key b) s = s
  | [], s, _ => rfl
  | p :: l, s, h => by
    rw [List.foldl_cons, seesF_none key b l _ (fun q hq => h q (List.mem_cons_of_mem _ hq))]
    unfold seesF
    rw [if_neg (fun hc => h p (List.mem_cons_self ..) hc.1)]

/-- the keys that may be seen -/
def RSt.keysOf (R : RSt) (k : RTx) : List ByteArray := R.vers.map (·.1) ++ k.wr.map (·.1)

theorem RSt.seen_none (R : RSt) (k : RTx) {key : ByteArray} (h : key ∉ R.keysOf k) : (R.seen k key).2 = false := by
  unfold RSt.keysOf at h
  rw [List.mem_append] at h
  have h1 : look k.wr key = none := by
    cases hl : look k.wr key with
    | none => rfl
    | some c => exact absurd (.inr (List.mem_map.2 ⟨(key, c), lookup_mem hl, rfl⟩)) h
  unfold RSt.seen
  rw [h1]
  unfold RSt.sees
  rw [seesF_none key k.bg R.vers _ (fun p hp e => h (.inl (List.mem_map.2 ⟨p, hp, e⟩)))]
  simp

end Go.Proofs.YthfimgeopciiiaaGreat

/-
  The book, of plain data, beside a store's abstraction. No world, no program.
-/
namespace Go.Proofs.YthfimgeopciiiaaGreat
set_option linter.unusedVariables false

/-- what is seen of a content -/
def seen (c : Cont) : Option ByteArray := if c.2 then none else some c.1

/-! ### the book -/

structure Deal where
  active : Bool
  bg : Int
  now : Tab
  keys : List ByteArray

structure Bk where
  deals : List Deal
  t : Tab
  commits : List (List ByteArray)

def laterB (cs : List (List ByteArray)) (b : Int) (k : ByteArray) : Bool := (cs.drop b.toNat).any fun l => hasB l k

structure DealIs (a : Abs) (t : Tx) (d : Deal) : Prop where
  active : d.active = true
  bg : d.bg = t.bg
  sorted : SortedT d.now
  now : ∀ k, look d.now k = seen (a.content t k)
  keys : ∀ k, hasB d.keys k = (look t.wr k).isSome

structure BkIs (a : Abs) (B : Bk) (M : Int) : Prop where
  len : (B.deals.length : Int) = a.begun
  clk : (B.commits.length : Int) = a.clock
  act : ∀ t ∈ a.txs, t.cm = 0 → ∃ d, B.deals[(t.h - 1).toNat]? = some d ∧ DealIs a t d
  idle : ∀ (i : Nat) d, B.deals[i]? = some d → d.active = true → ∃ t ∈ a.txs, t.cm = 0 ∧ t.h = (i : Int) + 1
  sorted : SortedT B.t
  tab : ∀ k, look B.t k = seen (snap (a.vs k) a.clock)
  M0 : 0 ≤ M
  Mc : M ≤ a.clock
  Ma : ∀ t ∈ a.txs, t.cm = 0 → M ≤ t.bg
  newer : ∀ k b, M ≤ b → newerB (a.vs k) b = laterB B.commits b k
  disj : ∀ t ∈ a.txs, ∀ u ∈ a.txs, t.cm = 0 → u.cm = 0 → t.h ≠ u.h → ∀ k, (look t.wr k).isSome = true → look u.wr k = none
  fresh : ∀ t ∈ a.txs, t.cm = 0 → ∀ k, (look t.wr k).isSome = true → newerB (a.vs k) t.bg = false

theorem uniq_h : ∀ {l : List Tx}, (l.map (·.h)).Nodup → ∀ {x y : Tx}, x ∈ l → y ∈ l → x.h = y.h → x = y
  | p :: r, hn, x, y, hx, hy, e => by
    rw [List.map_cons, List.nodup_cons] at hn
    rcases List.mem_cons.1 hx with ex | hx'
    · rcases List.mem_cons.1 hy with ey | hy'
      · rw [ex, ey]
      · exact (hn.1 (by rw [← ex, e]; exact List.mem_map_of_mem (f := fun t : Tx => t.h) hy')).elim
    · rcases List.mem_cons.1 hy with ey | hy'
      · exact (hn.1 (by rw [← ey, ← e]; exact List.mem_map_of_mem (f := fun t : Tx => t.h) hx')).elim
      · exact uniq_h hn.2 hx' hy' e

end Go.Proofs.YthfimgeopciiiaaGreat

/-
  The book is kept by every call of the store. No world, no program.
-/
namespace Go.Proofs.YthfimgeopciiiaaGreat
set_option linter.unusedVariables false

theorem modify_at {α : Type} (l : List α) (i j : Nat) (f : α → α) : (l.modify i f)[j]? = if i = j then (l[j]?).map f else l[j]? := by
  rw [List.getElem?_modify]
  by_cases h : i = j
  · simp [h]
  · simp [h]

theorem newer_false {vs : List Ver} {b : Int} (h : newerB vs b = false) : ∀ x ∈ vs, x.1 ≤ b := fun x hx => by
  unfold newerB at h
  rw [List.any_eq_false] at h
  have := h x hx
  simp at this
  exact this

theorem snap_stamps : ∀ {vs : List Ver} {b c : Int}, (∀ x ∈ vs, x.1 ≤ b) → b ≤ c → snap vs c = snap vs b := by
  intro vs b c h hbc
  unfold snap
  generalize ((⟨#[]⟩, true) : Cont) = z
  induction vs generalizing z with
  | nil => rfl
  | cons x r ih =>
    simp only [List.foldl_cons]
    have hx := h x (by simp)
    have e : snapF c z x = snapF b z x := by unfold snapF; rw [if_pos (by omega), if_pos hx]
    rw [e]
    exact ih (fun y hy => h y (by simp [hy])) _

theorem snap_new (vs : List Ver) (n : Int) (c : Cont) (b : Int) : snap (vs ++ [(n, c)]) b = if n ≤ b then c else snap vs b := by
  rw [snap_append]
  simp [snapF]

theorem later_end {cs : List (List ByteArray)} {b : Int} (h : (cs.length : Int) ≤ b) (k : ByteArray) : laterB cs b k = false := by
  unfold laterB
  rw [List.drop_eq_nil_of_le (by omega)]
  rfl

theorem BkIs.stamps {a : Abs} {B : Bk} {M : Int} (h : BkIs a B M) (k : ByteArray) : ∀ x ∈ a.vs k, x.1 ≤ a.clock :=
  newer_false ((h.newer k a.clock h.Mc).trans (later_end (by rw [h.clk]; exact Int.le_refl _) k))

theorem BkIs.begin {a : Abs} {B : Bk} {M n : Int} (h : BkIs a B M) (I : a.Inv n) (hroom : ¬ a.c1 ≤ a.txs.length) :
    BkIs a.beginR.2 ⟨B.deals ++ [⟨true, B.commits.length, B.t, []⟩], B.t, B.commits⟩ M := by
  have e : a.beginR.2 = { a with begun := a.begun + 1, txs := a.txs ++ [a.newTx] } := by unfold Abs.beginR; rw [if_neg hroom]; rfl
  rw [e]
  have hb := I.begun
  have hmem : ∀ t, t ∈ a.txs ++ [a.newTx] → t ∈ a.txs ∨ t = a.newTx := fun t ht => by simpa using ht
  refine ⟨?_, h.clk, ?_, ?_, h.sorted, h.tab, h.M0, h.Mc, ?_, h.newer, ?_, ?_⟩
  · show ((B.deals ++ [_]).length : Int) = a.begun + 1
    rw [List.length_append, ← h.len]; simp
  · intro t ht hc
    rcases hmem t ht with ht | rfl
    · obtain ⟨d, hd, hD⟩ := h.act t ht hc
      refine ⟨d, ?_, ⟨hD.active, hD.bg, hD.sorted, hD.now, hD.keys⟩⟩
      rw [List.getElem?_append_left ((List.getElem?_eq_some_iff.1 hd).1)]
      exact hd
    · refine ⟨⟨true, B.commits.length, B.t, []⟩, ?_, ⟨rfl, ?_, h.sorted, ?_, fun k => rfl⟩⟩
      · show (B.deals ++ [_])[(a.begun + 1 - 1).toNat]? = _
        rw [← h.len, show ((B.deals.length : Int) + 1 - 1).toNat = B.deals.length by omega]
        simp
      · exact h.clk
      · exact fun k => h.tab k
  · intro i d hd ha
    by_cases hi : i < B.deals.length
    · rw [List.getElem?_append_left hi] at hd
      obtain ⟨t, ht, h1, h2⟩ := h.idle i d hd ha
      exact ⟨t, by simp [ht], h1, h2⟩
    · have hi' : i = B.deals.length := by
        have := (List.getElem?_eq_some_iff.1 hd).1
        simp at this; omega
      exact ⟨a.newTx, by simp, rfl, by show a.begun + 1 = _; rw [hi', h.len]⟩
  · intro t ht hc
    rcases hmem t ht with ht | rfl
    · exact h.Ma t ht hc
    · exact h.Mc
  · intro t ht u hu hct hcu hne k hk
    rcases hmem t ht with ht | rfl
    · rcases hmem u hu with hu | rfl
      · exact h.disj t ht u hu hct hcu hne k hk
      · rfl
    · simp [Abs.newTx, look] at hk
  · intro t ht hc k hk
    rcases hmem t ht with ht | rfl
    · exact h.fresh t ht hc k hk
    · simp [Abs.newTx, look] at hk

/-- the transactions turn, but not in what the book knows of them -/
theorem BkIs.mapT {a : Abs} {B : Bk} {M : Int} (h : BkIs a B M) (f : Tx → Tx) (hh : ∀ t, (f t).h = t.h) (hb : ∀ t, (f t).bg = t.bg) (hc : ∀ t, (f t).cm = t.cm) (hw : ∀ t ∈ a.txs, (f t).wr = t.wr) :
    BkIs { a with txs := a.txs.map f } B M := by
  have hm : ∀ t, t ∈ a.txs.map f → ∃ u ∈ a.txs, t = f u := fun t ht => by obtain ⟨u, hu, e⟩ := List.mem_map.1 ht; exact ⟨u, hu, e.symm⟩
  refine ⟨h.len, h.clk, ?_, ?_, h.sorted, h.tab, h.M0, h.Mc, ?_, h.newer, ?_, ?_⟩
  · intro t ht hc'
    obtain ⟨u, hu, rfl⟩ := hm t ht
    obtain ⟨d, hd, hD⟩ := h.act u hu (by rw [← hc]; exact hc')
    refine ⟨d, by rw [hh]; exact hd, ⟨hD.active, by rw [hb]; exact hD.bg, hD.sorted, fun k => ?_, fun k => by rw [hw u hu]; exact hD.keys k⟩⟩
    have := hD.now k
    unfold Abs.content at this ⊢
    rw [hw u hu, hb]
    exact this
  · intro i d hd ha
    obtain ⟨t, ht, h1, h2⟩ := h.idle i d hd ha
    exact ⟨f t, List.mem_map.2 ⟨t, ht, rfl⟩, by rw [hc]; exact h1, by rw [hh]; exact h2⟩
  · intro t ht hc'
    obtain ⟨u, hu, rfl⟩ := hm t ht
    rw [hb]; exact h.Ma u hu (by rw [← hc]; exact hc')
  · intro t ht u hu hct hcu hne k hk
    obtain ⟨x, hx, rfl⟩ := hm t ht
    obtain ⟨y, hy, rfl⟩ := hm u hu
    rw [hw x hx] at hk
    rw [hw y hy]
    exact h.disj x hx y hy (by rw [← hc]; exact hct) (by rw [← hc]; exact hcu) (by rw [← hh x, ← hh y]; exact hne) k hk
  · intro t ht hc' k hk
    obtain ⟨u, hu, rfl⟩ := hm t ht
    rw [hw u hu] at hk
    rw [hb]
    exact h.fresh u hu (by rw [← hc]; exact hc') k hk

def Bk.off (B : Bk) (h : Int) : Bk := { B with deals := B.deals.modify (h - 1).toNat fun d => { d with active := false } }

/-- one is gone -/
theorem BkIs.without {a : Abs} {B : Bk} {M n : Int} (h : BkIs a B M) (I : a.Inv n) (j : Int) (hj : 1 ≤ j) : BkIs (a.without j) (B.off j) M := by
  have hm : ∀ t, t ∈ (a.without j).txs → t ∈ a.txs ∧ t.h ≠ j := fun t ht => by
    have := List.mem_filter.1 ht
    exact ⟨this.1, by simpa using this.2⟩
  refine ⟨?_, h.clk, ?_, ?_, h.sorted, h.tab, h.M0, h.Mc, fun t ht => h.Ma t (hm t ht).1, h.newer, ?_, fun t ht => h.fresh t (hm t ht).1⟩
  · show ((B.deals.modify _ _).length : Int) = a.begun
    rw [List.length_modify]; exact h.len
  · intro t ht hc
    obtain ⟨ht, hne⟩ := hm t ht
    obtain ⟨d, hd, hD⟩ := h.act t ht hc
    have h1 := (I.hs t ht).1
    refine ⟨d, ?_, ⟨hD.active, hD.bg, hD.sorted, hD.now, hD.keys⟩⟩
    show (B.deals.modify (j - 1).toNat _)[(t.h - 1).toNat]? = some d
    rw [modify_at, hd, if_neg (by omega)]
  · intro i d hd ha
    have hd' : (B.deals.modify (j - 1).toNat fun d => { d with active := false })[i]? = some d := hd
    rw [modify_at] at hd'
    by_cases hi : (j - 1).toNat = i
    · rw [if_pos hi] at hd'
      cases hb : B.deals[i]? with
      | none => rw [hb] at hd'; cases hd'
      | some d0 =>
        rw [hb] at hd'
        have := Option.some.inj hd'
        subst this
        cases ha
    · rw [if_neg hi] at hd'
      have hd2 : B.deals[i]? = some d := by
        cases hb : B.deals[i]? with
        | none => rw [hb] at hd'; cases hd'
        | some d0 => rw [hb] at hd'; exact hd'
      obtain ⟨t, ht, h1, h2⟩ := h.idle i d hd2 ha
      exact ⟨t, List.mem_filter.2 ⟨ht, by simp; omega⟩, h1, h2⟩
  · intro t ht u hu
    exact h.disj t (hm t ht).1 u (hm u hu).1

/-- cleaned up -/
theorem BkIs.clean {a a' : Abs} {B : Bk} {M n m : Int} (h : BkIs a B M) (I : a.Inv n) (C : CleanIs a m a') : BkIs a' B m := by
  have hMm : M ≤ m := by
    rcases C.mark.is with e | ⟨t, ht, hc, e⟩
    · rw [e]; exact h.Mc
    · rw [e]; exact h.Ma t ht hc
  have hmc : m ≤ a.clock := by
    rcases C.mark.is with e | ⟨t, ht, hc, e⟩
    · omega
    · rw [e]; exact (I.bgs t ht).2
  have hv : ∀ k, VSim m (a'.vs k) (a.vs k) := fun k => by
    rw [C.vs_eq I.vnd k]
    refine dropL_sim fun x hx hg => ?_
    unfold Abs.vs at hx
    cases hl : look a.vers k with
    | none => rw [hl] at hx; simp at hx
    | some vs =>
      rw [hl] at hx
      exact I.vgone (k, vs) (lookup_mem hl) x hx hg
  have hm : ∀ t, t ∈ a'.txs → t ∈ a.txs := fun t ht => by rw [C.txs] at ht; exact (List.mem_filter.1 ht).1
  refine ⟨by rw [C.begun]; exact h.len, by rw [C.clock]; exact h.clk, ?_, ?_, h.sorted, ?_, by have := h.M0; omega, by rw [C.clock]; exact hmc, fun t ht hc => C.mark.le t (hm t ht) hc, ?_, fun t ht u hu => h.disj t (hm t ht) u (hm u hu), ?_⟩
  · intro t ht hc
    obtain ⟨d, hd, hD⟩ := h.act t (hm t ht) hc
    refine ⟨d, hd, ⟨hD.active, hD.bg, hD.sorted, fun k => ?_, hD.keys⟩⟩
    rw [hD.now k]
    unfold Abs.content
    rw [(hv k t.bg (C.mark.le t (hm t ht) hc)).1]
  · intro i d hd ha
    obtain ⟨t, ht, h1, h2⟩ := h.idle i d hd ha
    exact ⟨t, by rw [C.txs]; exact List.mem_filter.2 ⟨ht, by simp [Tx.old, h1]⟩, h1, h2⟩
  · intro k
    rw [h.tab k, C.clock, (hv k a.clock hmc).1]
  · intro k b hb
    rw [(hv k b hb).2]
    exact h.newer k b (by omega)
  · intro t ht hc k hk
    rw [(hv k t.bg (C.mark.le t (hm t ht) hc)).2]
    exact h.fresh t (hm t ht) hc k hk

/-- one change to a table -/
def applyC (t : Tab) (c : Chg) : Tab := if c.2.2 then tdrop t c.1 else tput t c.1 c.2.1

theorem applyC_look (t : Tab) (c : Chg) (k : ByteArray) : look (applyC t c) k = if k = c.1 then seen (contOf c) else look t k := by
  unfold applyC contOf seen
  cases hg : c.2.2
  · simp [tput_look]
  · simp [tdrop_look]

theorem applyC_sorted {t : Tab} (h : SortedT t) (c : Chg) : SortedT (applyC t c) := by
  unfold applyC
  split
  · exact tdrop_sorted h _
  · exact tput_sorted h _ _

theorem apply_all {z : ByteArray → Cont} : ∀ (cs : List Chg) (wr : List (ByteArray × Cont)) (t : Tab), SortedT t → (∀ k, look t k = seen ((look wr k).getD (z k))) →
    SortedT (cs.foldl applyC t) ∧ ∀ k, look (cs.foldl applyC t) k = seen ((look (joinW wr cs) k).getD (z k))
  | [], _, _, hs, h => ⟨hs, h⟩
  | c :: r, wr, t, hs, h => by
    refine apply_all r (put wr c.1 (contOf c)) (applyC t c) (applyC_sorted hs c) fun k => ?_
    rw [applyC_look, look_put]
    by_cases hk : k = c.1
    · subst hk; simp
    · have : ¬ c.1 = k := fun e => hk e.symm
      simp [hk, this, h k]

theorem joinW_some : ∀ (cs : List Chg) (wr : List (ByteArray × Cont)) (k : ByteArray), (look (joinW wr cs) k).isSome = ((look wr k).isSome || hasB (cs.map (·.1)) k)
  | [], wr, k => by simp [joinW, hasB]
  | c :: r, wr, k => by
    have := joinW_some r (put wr c.1 (contOf c)) k
    have e : joinW wr (c :: r) = joinW (put wr c.1 (contOf c)) r := rfl
    rw [e, this, look_put]
    by_cases hk : c.1 = k <;> simp [hasB, hk]

theorem hasB_append (l m : List ByteArray) (k : ByteArray) : hasB (l ++ m) k = (hasB l k || hasB m k) := by simp [hasB]

def Bk.wrote (B : Bk) (h : Int) (cs : List Chg) : Bk := { B with deals := B.deals.modify (h - 1).toNat fun d => { d with now := cs.foldl applyC d.now, keys := d.keys ++ cs.map (·.1) } }

/-- what it wrote is its own -/
theorem BkIs.wrote {a : Abs} {B : Bk} {M n : Int} (h : BkIs a B M) (I : a.Inv n) {t : Tx} (ht : t ∈ a.txs) (hc : t.cm = 0) (cs : List Chg) (hcl : a.clash t cs = false) : BkIs (a.writeA t cs) (B.wrote t.h cs) M := by
  unfold Abs.writeA
  generalize a.txs.any (passB t (readT cs)) = any
  have h1 := (I.hs t ht).1
  have hwr : ∀ x ∈ a.txs, (writeX any t cs x).wr = if x.h = t.h then joinW t.wr cs else x.wr := fun x _ => rfl
  have hm : ∀ x, x ∈ a.txs.map (writeX any t cs) → ∃ u ∈ a.txs, x = writeX any t cs u := fun x hx => by obtain ⟨u, hu, e⟩ := List.mem_map.1 hx; exact ⟨u, hu, e.symm⟩
  have huniq : ∀ x ∈ a.txs, x.h = t.h → x = t := fun x hx e => uniq_h I.nd hx ht e
  rw [Abs.clash, List.any_eq_false] at hcl
  have hcl' : ∀ k, hasB (cs.map (·.1)) k = true → a.held t k = false ∧ newerB (a.vs k) t.bg = false := fun k hk => by
    simp only [hasB, List.any_map, List.any_eq_true, Function.comp, decide_eq_true_eq] at hk
    obtain ⟨c, hc, rfl⟩ := hk
    have := hcl c hc
    simpa using this
  have hheld : ∀ k, a.held t k = false → ∀ x ∈ a.txs, x.h ≠ t.h → x.cm = 0 → look x.wr k = none := fun k hk x hx hne hx0 => by
    rw [Abs.held, List.any_eq_false] at hk
    have := hk x hx
    simp [hne, hx0] at this
    exact this
  refine ⟨?_, h.clk, ?_, ?_, h.sorted, h.tab, h.M0, h.Mc, ?_, h.newer, ?_, ?_⟩
  · show ((B.deals.modify _ _).length : Int) = a.begun
    rw [List.length_modify]; exact h.len
  · intro x hx hx0
    obtain ⟨u, hu, rfl⟩ := hm x hx
    obtain ⟨d, hd, hD⟩ := h.act u hu hx0
    have hu1 := (I.hs u hu).1
    by_cases e : u.h = t.h
    · obtain rfl := huniq u hu e
      obtain ⟨g1, g2⟩ := apply_all (z := fun k => snap (a.vs k) u.bg) cs u.wr d.now hD.sorted hD.now
      refine ⟨{ d with now := cs.foldl applyC d.now, keys := d.keys ++ cs.map (·.1) }, ?_, ⟨hD.active, hD.bg, g1, fun k => ?_, fun k => ?_⟩⟩
      · show (B.deals.modify (u.h - 1).toNat _)[(u.h - 1).toNat]? = _
        rw [modify_at, hd, if_pos rfl]
        rfl
      · rw [g2 k]
        unfold Abs.content
        rw [hwr u hu, if_pos rfl]
        rfl
      · rw [hwr u hu, if_pos rfl, joinW_some, hasB_append, hD.keys]
    · refine ⟨d, ?_, ⟨hD.active, hD.bg, hD.sorted, fun k => ?_, fun k => ?_⟩⟩
      · show (B.deals.modify (t.h - 1).toNat _)[(u.h - 1).toNat]? = _
        rw [modify_at, hd, if_neg (by omega)]
      · rw [hD.now k]
        unfold Abs.content
        rw [hwr u hu, if_neg e]
        rfl
      · rw [hwr u hu, if_neg e]
        exact hD.keys k
  · intro i d hd ha
    have hd' : (B.deals.modify (t.h - 1).toNat fun d => { d with now := cs.foldl applyC d.now, keys := d.keys ++ cs.map (·.1) })[i]? = some d := hd
    rw [modify_at] at hd'
    cases hb : B.deals[i]? with
    | none => rw [hb] at hd'; simp at hd'
    | some d0 =>
      rw [hb] at hd'
      have ha0 : d0.active = true := by
        split at hd'
        · have := Option.some.inj hd'
          rw [← this] at ha
          exact ha
        · have := Option.some.inj hd'
          rw [← this] at ha
          exact ha
      obtain ⟨x, hx, g1, g2⟩ := h.idle i d0 hb ha0
      exact ⟨_, List.mem_map.2 ⟨x, hx, rfl⟩, g1, g2⟩
  · intro x hx hx0
    obtain ⟨u, hu, rfl⟩ := hm x hx
    exact h.Ma u hu hx0
  · intro x hx y hy hx0 hy0 hne k hk
    obtain ⟨u, hu, rfl⟩ := hm x hx
    obtain ⟨v, hv, rfl⟩ := hm y hy
    have hne' : u.h ≠ v.h := hne
    have hu0 : u.cm = 0 := hx0
    have hv0 : v.cm = 0 := hy0
    rw [hwr u hu] at hk
    rw [hwr v hv]
    by_cases eu : u.h = t.h
    · obtain rfl := huniq u hu eu
      rw [if_pos rfl, joinW_some, Bool.or_eq_true] at hk
      rw [if_neg (fun e => hne' e.symm)]
      rcases hk with hk | hk
      · exact h.disj u hu v hv hu0 hv0 hne' k hk
      · exact hheld k (hcl' k hk).1 v hv (fun e => hne' e.symm) hv0
    · rw [if_neg eu] at hk
      by_cases ev : v.h = t.h
      · obtain rfl := huniq v hv ev
        rw [if_pos rfl]
        cases hj : look (joinW v.wr cs) k with
        | none => rfl
        | some c =>
          exfalso
          have := joinW_some cs v.wr k
          rw [hj] at this
          have h2 : ((look v.wr k).isSome || hasB (cs.map (·.1)) k) = true := this.symm
          rw [Bool.or_eq_true] at h2
          rcases h2 with h2 | h2
          · have := h.disj v hv u hu hv0 hu0 (fun e => hne' e.symm) k h2
            rw [this] at hk; cases hk
          · have := hheld k (hcl' k h2).1 u hu hne' hu0
            rw [this] at hk; cases hk
      · rw [if_neg ev]
        exact h.disj u hu v hv hu0 hv0 hne' k hk
  · intro x hx hx0 k hk
    obtain ⟨u, hu, rfl⟩ := hm x hx
    rw [hwr u hu] at hk
    show newerB (a.vs k) u.bg = false
    by_cases eu : u.h = t.h
    · obtain rfl := huniq u hu eu
      rw [if_pos rfl, joinW_some, Bool.or_eq_true] at hk
      rcases hk with hk | hk
      · exact h.fresh u hu hx0 k hk
      · exact (hcl' k hk).2
    · rw [if_neg eu] at hk
      exact h.fresh u hu hx0 k hk

/-- what is committed of a key -/
def settle (now : Tab) (T : Tab) (k : ByteArray) : Tab := match look now k with | some v => tput T k v | none => tdrop T k

theorem settle_look (now T : Tab) (k x : ByteArray) : look (settle now T k) x = if x = k then look now k else look T x := by
  unfold settle
  cases hl : look now k with
  | none => rw [tdrop_look]
  | some v => rw [tput_look]

theorem settle_sorted {T : Tab} (now : Tab) (h : SortedT T) (k : ByteArray) : SortedT (settle now T k) := by
  unfold settle
  split
  · exact tput_sorted h _ _
  · exact tdrop_sorted h _

theorem settle_all (now : Tab) : ∀ (ks : List ByteArray) (T : Tab), SortedT T → SortedT (ks.foldl (settle now) T) ∧ ∀ x, look (ks.foldl (settle now) T) x = if hasB ks x then look now x else look T x
  | [], T, hs => ⟨hs, fun x => by simp [hasB]⟩
  | k :: r, T, hs => by
    obtain ⟨g1, g2⟩ := settle_all now r (settle now T k) (settle_sorted now hs k)
    refine ⟨g1, fun x => ?_⟩
    have e : hasB (k :: r) x = (decide (k = x) || hasB r x) := rfl
    rw [List.foldl_cons, g2 x, settle_look, e]
    by_cases hk : x = k
    · subst hk; simp
    · have : ¬ k = x := fun e => hk e.symm
      simp [hk, this]

def Bk.done (B : Bk) (h : Int) (d : Deal) : Bk := ⟨(B.off h).deals, d.keys.foldl (settle d.now) B.t, B.commits ++ [d.keys]⟩

/-- it is committed -/
theorem BkIs.comm {a a' : Abs} {B : Bk} {M n : Int} (h : BkIs a B M) (I : a.Inv n) {t : Tx} (ht : t ∈ a.txs) (hc : t.cm = 0) {d : Deal} (hd : B.deals[(t.h - 1).toNat]? = some d) (hD : DealIs a t d) (C : CommIs a t a') :
    BkIs a' (B.done t.h d) M := by
  have h1 := (I.hs t ht).1
  have hcl := I.clock
  have hvs := C.vs_eq (I.wnd t ht)
  have hm : ∀ x, x ∈ a'.txs → x.cm = 0 → x ∈ a.txs ∧ x.h ≠ t.h := fun x hx hx0 => by
    rw [C.txs, commA_txs] at hx
    obtain ⟨u, hu, rfl⟩ := List.mem_map.1 hx
    by_cases e : u.h = t.h
    · unfold commX at hx0
      rw [if_pos e] at hx0
      simp at hx0
      omega
    · have e2 : commX (a.clock + 1) t.h u = u := by unfold commX; rw [if_neg e]
      rw [e2]
      exact ⟨hu, e⟩
  have hsn : ∀ k b, b ≤ a.clock → snap (a'.vs k) b = snap (a.vs k) b := fun k b hb => by
    rw [hvs k]
    cases look t.wr k with
    | none => simp
    | some c => simp only [Option.toList_some, List.map_cons, List.map_nil, snap_new]; rw [if_neg (by omega)]
  obtain ⟨g1, g2⟩ := settle_all d.now d.keys B.t h.sorted
  refine ⟨?_, ?_, ?_, ?_, g1, ?_, h.M0, by rw [C.clock]; have := h.Mc; omega, fun x hx hx0 => h.Ma x (hm x hx hx0).1 hx0, ?_, ?_, ?_⟩
  · show ((B.deals.modify _ _).length : Int) = a'.begun
    rw [List.length_modify, C.begun]; exact h.len
  · show ((B.commits ++ [d.keys]).length : Int) = a'.clock
    rw [List.length_append, C.clock, ← h.clk]; rfl
  · intro x hx hx0
    obtain ⟨hx, hne⟩ := hm x hx hx0
    obtain ⟨e, he, hE⟩ := h.act x hx hx0
    have hx1 := (I.hs x hx).1
    refine ⟨e, ?_, ⟨hE.active, hE.bg, hE.sorted, fun k => ?_, hE.keys⟩⟩
    · show (B.deals.modify (t.h - 1).toNat _)[(x.h - 1).toNat]? = some e
      rw [modify_at, he, if_neg (by omega)]
    · rw [hE.now k]
      unfold Abs.content
      rw [hsn k x.bg (I.bgs x hx).2]
  · intro i e he ha
    have he' : (B.deals.modify (t.h - 1).toNat fun d => { d with active := false })[i]? = some e := he
    rw [modify_at] at he'
    by_cases hi : (t.h - 1).toNat = i
    · rw [if_pos hi] at he'
      cases hb : B.deals[i]? with
      | none => rw [hb] at he'; cases he'
      | some d0 =>
        rw [hb] at he'
        have := Option.some.inj he'
        subst this
        cases ha
    · rw [if_neg hi] at he'
      have he2 : B.deals[i]? = some e := by
        cases hb : B.deals[i]? with
        | none => rw [hb] at he'; cases he'
        | some d0 => rw [hb] at he'; exact he'
      obtain ⟨x, hx, k1, k2⟩ := h.idle i e he2 ha
      refine ⟨x, ?_, k1, k2⟩
      rw [C.txs, commA_txs]
      refine List.mem_map.2 ⟨x, hx, ?_⟩
      unfold commX
      rw [if_neg (by omega)]
  · intro k
    show look (d.keys.foldl (settle d.now) B.t) k = _
    rw [g2 k, hD.keys k, C.clock, hvs k]
    cases hl : look t.wr k with
    | none =>
      simp only [Option.isSome_none, Option.toList_none, List.map_nil, List.append_nil]
      rw [h.tab k, snap_stamps (h.stamps k) (by omega : a.clock ≤ a.clock + 1)]
      rfl
    | some c =>
      simp only [Option.isSome_some, if_true, Option.toList_some, List.map_cons, List.map_nil, snap_new]
      rw [if_pos (Int.le_refl _), hD.now k]
      unfold Abs.content
      rw [hl]
      rfl
  · intro k b hb
    have hb0 := h.M0
    have hnew := h.newer k b hb
    show newerB (a'.vs k) b = laterB (B.commits ++ [d.keys]) b k
    rw [hvs k, newer_append, hnew]
    by_cases hbc : b ≤ a.clock
    · have e : laterB (B.commits ++ [d.keys]) b k = (laterB B.commits b k || hasB d.keys k) := by
        unfold laterB
        rw [List.drop_append_of_le_length (by have := h.clk; omega), List.any_append]
        simp
      rw [e, hD.keys k]
      congr 1
      cases look t.wr k with
      | none => rfl
      | some c => simp [newerB]; omega
    · rw [later_end (by have := h.clk; omega), later_end (cs := B.commits ++ [d.keys]) (by rw [List.length_append]; have := h.clk; simp; omega)]
      cases look t.wr k with
      | none => rfl
      | some c => simp [newerB]; omega
  · intro x hx y hy hx0 hy0
    exact h.disj x (hm x hx hx0).1 y (hm y hy hy0).1 hx0 hy0
  · intro x hx hx0 k hk
    obtain ⟨hx, hne⟩ := hm x hx hx0
    rw [hvs k, newer_append, h.fresh x hx hx0 k hk, h.disj x hx t ht hx0 hc hne k hk]
    rfl

end Go.Proofs.YthfimgeopciiiaaGreat

/-
  The law's book, as it lies in memory.
-/
namespace Go.Proofs.YthfimgeopciiiaaGreat
open Go.MapKept Go.ChangeMaps Go.Maps Go.RowKit
set_option linter.unusedVariables false

theorem ownsRow_set {w : World} {base : Nat} {e : TypeId} {size : Nat} {v : Value} {n : Nat} {xs : List Value} (h : w.ownsRow base e size v n xs) {g : Nat} (hg : v.ownBlock = some g) (j : Nat) (u : Value) :
    (w.setCell ⟨g, j, none⟩ u).ownsRow base e size v n (xs.set j u) := by
  refine ⟨by rw [List.length_set]; exact h.1, ?_⟩
  rcases h.2 with ⟨rfl, _⟩ | ⟨g', cap, cur, rfl, hb, hgg, h1, h2, h3, h4⟩
  · simp [Value.ownBlock] at hg
  · simp [Value.ownBlock] at hg
    subst hg
    refine .inr ⟨g', cap, cur.setIfInBounds j u, rfl, hb, heap_setCell_same hgg, h1, h2, by simp [h3], ?_⟩
    rw [Array.toList_setIfInBounds, List.take_set, h4]

theorem flat_set {α : Type} (c : α → List Value) (k : Nat) (hc : ∀ x, (c x).length = k) : ∀ (l : List α) (i j : Nat) (x x' : α) (u : Value), l[i]? = some x → j < k → c x' = (c x).set j u → (l.set i x').flatMap c = (l.flatMap c).set (i * k + j) u
  | [], i, j, x, x', u, h, _, _ => by simp at h
  | y :: l, 0, j, x, x', u, h, hj, e => by
    simp at h; subst h
    simp only [List.set_cons_zero, List.flatMap_cons, e, Nat.zero_mul, Nat.zero_add]
    rw [List.set_append_left _ _ (by rw [hc]; exact hj)]
  | y :: l, i + 1, j, x, x', u, h, hj, e => by
    have h' : l[i]? = some x := by simpa using h
    have e1 : (i + 1) * k + j = k + (i * k + j) := by rw [Nat.succ_mul]; omega
    simp only [List.set_cons_succ, List.flatMap_cons]
    rw [flat_set c k hc l i j x x' u h' hj e, List.set_append_right _ _ (by rw [hc, e1]; omega), hc, e1, Nat.add_sub_cancel_left]

theorem flat_at {α : Type} (c : α → List Value) (k : Nat) (hc : ∀ x, (c x).length = k) : ∀ (l : List α) (i j : Nat) (x : α), l[i]? = some x → j < k → (l.flatMap c)[i * k + j]? = (c x)[j]?
  | [], i, j, x, h, _ => by simp at h
  | y :: l, 0, j, x, h, hj => by
    simp at h; subst h
    simp only [List.flatMap_cons, Nat.zero_mul, Nat.zero_add]
    rw [List.getElem?_append_left (by rw [hc]; exact hj)]
  | y :: l, i + 1, j, x, h, hj => by
    have h' : l[i]? = some x := by simpa using h
    have e1 : (i + 1) * k + j = k + (i * k + j) := by rw [Nat.succ_mul]; omega
    simp only [List.flatMap_cons]
    rw [List.getElem?_append_right (by rw [hc, e1]; omega), hc, e1, Nat.add_sub_cancel_left]
    exact flat_at c k hc l i j x h' hj

/-- a deal, and where its table and its keys lie -/
structure MDeal where
  d : Deal
  nv : Value
  kv : Value

/-- the book, and where its parts lie -/
structure MBk where
  bb : Nat
  sb : Nat
  dv : Value
  tv : Value
  cv : Value
  deals : List MDeal
  t : Tab
  commits : List (List ByteArray × Value)

def MDeal.cells (x : MDeal) : List Value := [.bool x.d.active, .int .i64 x.d.bg, x.nv, x.kv]
def MBk.bk (m : MBk) : Bk := ⟨m.deals.map (·.d), m.t, m.commits.map (·.1)⟩

theorem MDeal.cells_len (x : MDeal) : x.cells.length = 4 := rfl

/-- its blocks -/
def MBk.has (m : MBk) (b : Nat) : Prop := b = m.bb ∨ m.dv.ownBlock = some b ∨ m.cv.ownBlock = some b ∨ m.tv.ownBlock = some b ∨ ∃ (i : Nat) (x : MDeal), m.deals[i]? = some x ∧ (x.nv.ownBlock = some b ∨ x.kv.ownBlock = some b)

/-- in memory; each block has its part: 0 the book, 1 the deals, 2 the commits, 3 tables, 4 others', 5 + i the keys of deal i -/
structure BookAt (w : World) (base : Nat) (tag : Nat → Nat) (m : MBk) : Prop where
  own : w.heap[m.bb]? = some (.cells #[.pointer (some ⟨m.sb, 0, none⟩), m.dv, m.tv, m.cv] 38)
  hb : base ≤ m.bb
  dl : w.ownsRow base 117 4 m.dv m.deals.length (m.deals.flatMap MDeal.cells)
  tb : PrSl base w m.tv m.t
  cm : w.ownsRow base 115 1 m.cv m.commits.length (m.commits.map (·.2))
  now : ∀ (i : Nat) (x : MDeal), m.deals[i]? = some x → PrSl base w x.nv x.d.now
  keys : ∀ (i : Nat) (x : MDeal), m.deals[i]? = some x → SSl base w x.kv x.d.keys
  ck : ∀ c ∈ m.commits, ∃ (i : Nat) (x : MDeal), m.deals[i]? = some x ∧ x.d.active = false ∧ x.kv = c.2 ∧ x.d.keys = c.1
  gb : tag m.bb = 0
  gd : ∀ b, m.dv.ownBlock = some b → tag b = 1
  gc : ∀ b, m.cv.ownBlock = some b → tag b = 2
  gt : ∀ b, m.tv.ownBlock = some b → tag b = 3
  gn : ∀ (i : Nat) (x : MDeal), m.deals[i]? = some x → ∀ b, x.nv.ownBlock = some b → tag b = 3
  gk : ∀ (i : Nat) (x : MDeal), m.deals[i]? = some x → ∀ b, x.kv.ownBlock = some b → tag b = 5 + i

section
variable {w w' : World} {base : Nat} {tag : Nat → Nat} {m : MBk}

theorem BookAt.lt (h : BookAt w base tag m) {b : Nat} (hb : m.has b) : base ≤ b ∧ b < w.heap.size := by
  rcases hb with rfl | hb | hb | hb | ⟨i, x, hx, hb | hb⟩
  · exact ⟨h.hb, lt_of_heap h.own⟩
  · exact h.dl.lt b hb
  · exact h.cm.lt b hb
  · exact h.tb.lt b hb
  · exact (h.now i x hx).lt b hb
  · exact (h.keys i x hx).lt b hb

theorem BookAt.tag4 (h : BookAt w base tag m) {b : Nat} (hb : m.has b) : tag b ≠ 4 := by
  rcases hb with rfl | hb | hb | hb | ⟨i, x, hx, hb | hb⟩
  · rw [h.gb]; omega
  · rw [h.gd b hb]; omega
  · rw [h.gc b hb]; omega
  · rw [h.gt b hb]; omega
  · rw [h.gn i x hx b hb]; omega
  · rw [h.gk i x hx b hb]; omega

theorem BookAt.frame (h : BookAt w base tag m) (hb : ∀ b, m.has b → w'.heap[b]? = w.heap[b]?) : BookAt w' base tag m :=
  { h with
    own := (hb _ (.inl rfl)).trans h.own
    dl := ownsRow_of_block h.dl (fun b e => hb b (.inr (.inl e)))
    tb := ownsRow_of_block h.tb (fun b e => hb b (.inr (.inr (.inr (.inl e)))))
    cm := ownsRow_of_block h.cm (fun b e => hb b (.inr (.inr (.inl e))))
    now := fun i x hx => ownsRow_of_block (h.now i x hx) (fun b e => hb b (.inr (.inr (.inr (.inr ⟨i, x, hx, .inl e⟩)))))
    keys := fun i x hx => ownsRow_of_block (h.keys i x hx) (fun b e => hb b (.inr (.inr (.inr (.inr ⟨i, x, hx, .inr e⟩))))) }

theorem BookAt.kept {S : Nat → Prop} (h : BookAt w base tag m) (k : Keeps S w w') (hs : ∀ b, m.has b → ¬ S b) : BookAt w' base tag m :=
  h.frame (fun b hb => k.block b (h.lt hb).2 (hs b hb))

theorem BookAt.quiet (h : BookAt w base tag m) (k : Quiet w w') : BookAt w' base tag m := h.kept k (fun _ _ => id)

theorem BookAt.retag {tag' : Nat → Nat} (h : BookAt w base tag m) (ht : ∀ b, m.has b → tag' b = tag b) : BookAt w base tag' m :=
  { h with
    gb := (ht _ (.inl rfl)).trans h.gb
    gd := fun b e => (ht b (.inr (.inl e))).trans (h.gd b e)
    gc := fun b e => (ht b (.inr (.inr (.inl e)))).trans (h.gc b e)
    gt := fun b e => (ht b (.inr (.inr (.inr (.inl e))))).trans (h.gt b e)
    gn := fun i x hx b e => (ht b (.inr (.inr (.inr (.inr ⟨i, x, hx, .inl e⟩))))).trans (h.gn i x hx b e)
    gk := fun i x hx b e => (ht b (.inr (.inr (.inr (.inr ⟨i, x, hx, .inr e⟩))))).trans (h.gk i x hx b e) }

/-- new blocks take a part -/
def tagNew (n k : Nat) (tag : Nat → Nat) (b : Nat) : Nat := if b < n then tag b else k

theorem tagNew_old {n k b : Nat} {tag : Nat → Nat} (h : b < n) : tagNew n k tag b = tag b := if_pos h
theorem tagNew_new {n k b : Nat} {tag : Nat → Nat} (h : n ≤ b) : tagNew n k tag b = k := if_neg (by omega)

theorem BookAt.tagNew (h : BookAt w base tag m) (k : Nat) : BookAt w base (tagNew w.heap.size k tag) m :=
  h.retag (fun b hb => tagNew_old (h.lt hb).2)

theorem BookAt.cell (h : BookAt w base tag m) : w.cell? ⟨m.bb, 0, none⟩ = some (.pointer (some ⟨m.sb, 0, none⟩)) ∧ w.cell? ⟨m.bb, 1, none⟩ = some m.dv ∧ w.cell? ⟨m.bb, 2, none⟩ = some m.tv ∧ w.cell? ⟨m.bb, 3, none⟩ = some m.cv :=
  ⟨by rw [cell_of_heap h.own]; rfl, by rw [cell_of_heap h.own]; rfl, by rw [cell_of_heap h.own]; rfl, by rw [cell_of_heap h.own]; rfl⟩

theorem BookAt.frz (h : BookAt w base tag m) (i : Nat) : w.frozen? ⟨m.bb, i, none⟩ = false := frozen_of_heap h.own

/-- the deals' row -/
theorem BookAt.dealsAt (h : BookAt w base tag m) : ∃ a cap, m.dv = .slice a m.deals.length cap ∧ (m.deals = [] ∨ ∃ g, a = some ⟨g, 0, none⟩ ∧ m.dv.ownBlock = some g ∧ base ≤ g ∧ g < w.heap.size ∧ (∀ i, w.frozen? ⟨g, i, none⟩ = false) ∧
    ∀ (i : Nat) (x : MDeal), m.deals[i]? = some x → w.cell? ⟨g, i * 4, none⟩ = some (.bool x.d.active) ∧ w.cell? ⟨g, i * 4 + 1, none⟩ = some (.int .i64 x.d.bg) ∧ w.cell? ⟨g, i * 4 + 2, none⟩ = some x.nv ∧ w.cell? ⟨g, i * 4 + 3, none⟩ = some x.kv) := by
  rcases h.dl.2 with ⟨e, h0⟩ | ⟨g, cap, cur, e, hb, hg, h1, h2, h3, h4⟩
  · exact ⟨none, 0, by rw [e, h0], .inl (List.eq_nil_of_length_eq_zero h0)⟩
  · refine ⟨_, cap, e, .inr ⟨g, rfl, by rw [e]; rfl, hb, lt_of_heap hg, fun i => frozen_of_heap hg, fun i x hx => ?_⟩⟩
    have hi : i < m.deals.length := (List.getElem?_eq_some_iff.1 hx).1
    have at_ : ∀ j, j < 4 → w.cell? ⟨g, i * 4 + j, none⟩ = x.cells[j]? := fun j hj => by
      rw [cell_of_heap hg, ← flat_at MDeal.cells 4 MDeal.cells_len m.deals i j x hx hj, ← h4, List.getElem?_take, if_pos (by omega)]
      simp
    exact ⟨at_ 0 (by omega), at_ 1 (by omega), at_ 2 (by omega), at_ 3 (by omega)⟩

/-- the commits' row -/
theorem BookAt.commitsAt (h : BookAt w base tag m) : ∃ a cap, m.cv = .slice a m.commits.length cap ∧ (m.commits = [] ∨ ∃ g, a = some ⟨g, 0, none⟩ ∧ g < w.heap.size ∧ ∀ (i : Nat) (c : List ByteArray × Value), m.commits[i]? = some c → w.cell? ⟨g, i, none⟩ = some c.2) := by
  rcases h.cm.2 with ⟨e, h0⟩ | ⟨g, cap, cur, e, hb, hg, h1, h2, h3, h4⟩
  · exact ⟨none, 0, by rw [e, h0], .inl (List.eq_nil_of_length_eq_zero h0)⟩
  · refine ⟨_, cap, e, .inr ⟨g, rfl, lt_of_heap hg, fun i c hc => ?_⟩⟩
    have hi : i < m.commits.length := (List.getElem?_eq_some_iff.1 hc).1
    have : (m.commits.map (·.2))[i]? = some c.2 := by rw [List.getElem?_map, hc]; rfl
    rw [← h4, List.getElem?_take, if_pos (by omega)] at this
    rw [cell_of_heap hg]
    simpa using this

theorem BookAt.commitKeys (h : BookAt w base tag m) {c : List ByteArray × Value} (hc : c ∈ m.commits) : SSl base w c.2 c.1 := by
  obtain ⟨i, x, hx, _, e1, e2⟩ := h.ck c hc
  have := h.keys i x hx
  rw [e1, e2] at this
  exact this

/-- one deal turns, in one cell -/
theorem BookAt.setDeal (h : BookAt w base tag m) {i j g : Nat} {x x' : MDeal} {u : Value} (hx : m.deals[i]? = some x) (hg : m.dv.ownBlock = some g) (hj : j < 4) (hc : x'.cells = x.cells.set j u) (hact : x.d.active = true)
    (now' : PrSl base w x'.nv x'.d.now) (keys' : SSl base w x'.kv x'.d.keys) (gn' : ∀ b, x'.nv.ownBlock = some b → tag b = 3) (gk' : ∀ b, x'.kv.ownBlock = some b → tag b = 5 + i) :
    BookAt (w.setCell ⟨g, i * 4 + j, none⟩ u) base tag { m with deals := m.deals.set i x' } := by
  have hi : i < m.deals.length := (List.getElem?_eq_some_iff.1 hx).1
  have tg := h.gd g hg
  have ob : ∀ b, tag b ≠ 1 → (w.setCell ⟨g, i * 4 + j, none⟩ u).heap[b]? = w.heap[b]? := fun b hb => heap_setCell_other _ _ _ (fun e => by rw [e] at hb; exact hb tg)
  have hm : ∀ k y, (m.deals.set i x')[k]? = some y → (k = i ∧ y = x') ∨ (k ≠ i ∧ m.deals[k]? = some y) := fun k y hy => by
    rw [List.getElem?_set] at hy
    by_cases e : i = k
    · rw [if_pos e, if_pos (by omega)] at hy
      exact .inl ⟨e.symm, (Option.some.inj hy).symm⟩
    · rw [if_neg e] at hy
      exact .inr ⟨fun e' => e e'.symm, hy⟩
  refine { h with own := ?_, dl := ?_, tb := ?_, cm := ?_, now := ?_, keys := ?_, ck := ?_, gn := ?_, gk := ?_ }
  · exact (ob _ (by rw [h.gb]; omega)).trans h.own
  · show (w.setCell _ u).ownsRow base _ 4 m.dv (m.deals.set i x').length ((m.deals.set i x').flatMap MDeal.cells)
    rw [List.length_set, flat_set MDeal.cells 4 MDeal.cells_len m.deals i j x x' u hx hj hc]
    exact ownsRow_set h.dl hg _ u
  · exact ownsRow_of_block h.tb (fun b e => ob b (by rw [h.gt b e]; omega))
  · exact ownsRow_of_block h.cm (fun b e => ob b (by rw [h.gc b e]; omega))
  · intro k y hy
    rcases hm k y hy with ⟨rfl, rfl⟩ | ⟨_, hy⟩
    · exact ownsRow_of_block now' (fun b e => ob b (by rw [gn' b e]; omega))
    · exact ownsRow_of_block (h.now k y hy) (fun b e => ob b (by rw [h.gn k y hy b e]; omega))
  · intro k y hy
    rcases hm k y hy with ⟨rfl, rfl⟩ | ⟨_, hy⟩
    · exact ownsRow_of_block keys' (fun b e => ob b (by rw [gk' b e]; omega))
    · exact ownsRow_of_block (h.keys k y hy) (fun b e => ob b (by rw [h.gk k y hy b e]; omega))
  · intro c hc
    obtain ⟨k, y, hy, ha, e1, e2⟩ := h.ck c hc
    refine ⟨k, y, ?_, ha, e1, e2⟩
    show (m.deals.set i x')[k]? = some y
    rw [List.getElem?_set, if_neg]
    · exact hy
    · intro e; rw [← e, hx] at hy; rw [← Option.some.inj hy, hact] at ha; cases ha
  · intro k y hy b e
    rcases hm k y hy with ⟨rfl, rfl⟩ | ⟨_, hy⟩
    · exact gn' b e
    · exact h.gn k y hy b e
  · intro k y hy b e
    rcases hm k y hy with ⟨rfl, rfl⟩ | ⟨_, hy⟩
    · exact gk' b e
    · exact h.gk k y hy b e

def MDeal.off (x : MDeal) : MDeal := { x with d := { x.d with active := false } }

/-- it is active no more -/
theorem BookAt.off (h : BookAt w base tag m) {i g : Nat} {x : MDeal} (hx : m.deals[i]? = some x) (hg : m.dv.ownBlock = some g) (hact : x.d.active = true) :
    BookAt (w.setCell ⟨g, i * 4, none⟩ (.bool false)) base tag { m with deals := m.deals.set i x.off } :=
  h.setDeal (j := 0) (x' := x.off) hx hg (by omega) rfl hact (h.now i x hx) (h.keys i x hx) (h.gn i x hx) (h.gk i x hx)

/-- its table turns -/
theorem BookAt.setNow (h : BookAt w base tag m) {i g : Nat} {x : MDeal} (hx : m.deals[i]? = some x) (hg : m.dv.ownBlock = some g) (hact : x.d.active = true) {v : Value} {t : Tab} (hv : PrSl base w v t) (hn : ∀ b, v.ownBlock = some b → tag b = 3) :
    BookAt (w.setCell ⟨g, i * 4 + 2, none⟩ v) base tag { m with deals := m.deals.set i ⟨{ x.d with now := t }, v, x.kv⟩ } :=
  h.setDeal (j := 2) (x' := ⟨{ x.d with now := t }, v, x.kv⟩) hx hg (by omega) rfl hact hv (h.keys i x hx) hn (h.gk i x hx)

/-- its keys grow -/
theorem BookAt.setKeys (h : BookAt w base tag m) {i g : Nat} {x : MDeal} (hx : m.deals[i]? = some x) (hg : m.dv.ownBlock = some g) (hact : x.d.active = true) {w5 : World} {v : Value} {ks : List ByteArray}
    (hgr : w.grownBy w5 x.kv.ownBlock) (hv : SSl base w5 v ks) (hloc : ∀ b, v.ownBlock = some b → x.kv.ownBlock = some b ∨ w.heap.size ≤ b) :
    BookAt (w5.setCell ⟨g, i * 4 + 3, none⟩ v) base (_root_.Go.Proofs.YthfimgeopciiiaaGreat.tagNew w.heap.size (5 + i) tag) { m with deals := m.deals.set i ⟨{ x.d with keys := ks }, x.nv, v⟩ } := by
  have hi : i < m.deals.length := (List.getElem?_eq_some_iff.1 hx).1
  have h1 := h.tagNew (5 + i)
  generalize ht : _root_.Go.Proofs.YthfimgeopciiiaaGreat.tagNew w.heap.size (5 + i) tag = tag1 at *
  have tg := h1.gd g hg
  have kb : ∀ b, x.kv.ownBlock = some b → tag1 b = 5 + i := h1.gk i x hx
  have vb : ∀ b, v.ownBlock = some b → tag1 b = 5 + i := fun b e => by
    rcases hloc b e with h2 | h2
    · exact kb b h2
    · rw [← ht]; exact tagNew_new h2
  have same : ∀ b, b < w.heap.size → tag1 b ≠ 5 + i → w5.heap[b]? = w.heap[b]? := fun b hb hn => hgr.block b hb (fun e => hn (kb b e.symm))
  have ob : ∀ b, tag1 b ≠ 1 → (w5.setCell ⟨g, i * 4 + 3, none⟩ v).heap[b]? = w5.heap[b]? := fun b hb => heap_setCell_other _ _ _ (fun e => by rw [e] at hb; exact hb tg)
  have both : ∀ b, b < w.heap.size → tag1 b ≠ 5 + i → tag1 b ≠ 1 → (w5.setCell ⟨g, i * 4 + 3, none⟩ v).heap[b]? = w.heap[b]? := fun b hb e1 e2 => (ob b e2).trans (same b hb e1)
  have hm : ∀ k y, (m.deals.set i ⟨{ x.d with keys := ks }, x.nv, v⟩)[k]? = some y → (k = i ∧ y = ⟨{ x.d with keys := ks }, x.nv, v⟩) ∨ (k ≠ i ∧ m.deals[k]? = some y) := fun k y hy => by
    rw [List.getElem?_set] at hy
    by_cases e : i = k
    · rw [if_pos e, if_pos (by omega)] at hy
      exact .inl ⟨e.symm, (Option.some.inj hy).symm⟩
    · rw [if_neg e] at hy
      exact .inr ⟨fun e' => e e'.symm, hy⟩
  refine { h1 with own := ?_, dl := ?_, tb := ?_, cm := ?_, now := ?_, keys := ?_, ck := ?_, gn := ?_, gk := ?_ }
  · exact (both _ (lt_of_heap h.own) (by rw [h1.gb]; omega) (by rw [h1.gb]; omega)).trans h.own
  · show (w5.setCell _ v).ownsRow base _ 4 m.dv (m.deals.set i _).length ((m.deals.set i _).flatMap MDeal.cells)
    rw [List.length_set, flat_set MDeal.cells 4 MDeal.cells_len m.deals i 3 x _ v hx (by omega) rfl]
    exact ownsRow_set (ownsRow_of_block h.dl (fun b e => same b (h.dl.lt b e).2 (by rw [h1.gd b e]; omega))) hg _ v
  · exact ownsRow_of_block h.tb (fun b e => both b (h.tb.lt b e).2 (by rw [h1.gt b e]; omega) (by rw [h1.gt b e]; omega))
  · exact ownsRow_of_block h.cm (fun b e => both b (h.cm.lt b e).2 (by rw [h1.gc b e]; omega) (by rw [h1.gc b e]; omega))
  · intro k y hy
    rcases hm k y hy with ⟨rfl, rfl⟩ | ⟨_, hy⟩
    · exact ownsRow_of_block (h.now _ x hx) (fun b e => both b ((h.now _ x hx).lt b e).2 (by rw [h1.gn _ x hx b e]; omega) (by rw [h1.gn _ x hx b e]; omega))
    · exact ownsRow_of_block (h.now k y hy) (fun b e => both b ((h.now k y hy).lt b e).2 (by rw [h1.gn k y hy b e]; omega) (by rw [h1.gn k y hy b e]; omega))
  · intro k y hy
    rcases hm k y hy with ⟨rfl, rfl⟩ | ⟨hk, hy⟩
    · exact ownsRow_of_block hv (fun b e => ob b (by rw [vb b e]; omega))
    · exact ownsRow_of_block (h.keys k y hy) (fun b e => both b ((h.keys k y hy).lt b e).2 (by rw [h1.gk k y hy b e]; omega) (by rw [h1.gk k y hy b e]; omega))
  · intro c hc
    obtain ⟨k, y, hy, ha, e1, e2⟩ := h.ck c hc
    refine ⟨k, y, ?_, ha, e1, e2⟩
    show (m.deals.set i _)[k]? = some y
    rw [List.getElem?_set, if_neg]
    · exact hy
    · intro e; rw [← e, hx] at hy; rw [← Option.some.inj hy, hact] at ha; cases ha
  · intro k y hy b e
    rcases hm k y hy with ⟨rfl, rfl⟩ | ⟨_, hy⟩
    · exact h1.gn _ x hx b e
    · exact h1.gn k y hy b e
  · intro k y hy b e
    rcases hm k y hy with ⟨rfl, rfl⟩ | ⟨_, hy⟩
    · exact vb b e
    · exact h1.gk k y hy b e

/-- one more has begun -/
theorem BookAt.push (h : BookAt w base tag m) {w5 : World} {v : Value} {bg : Int} (hgr : w.grownBy w5 m.dv.ownBlock)
    (hv : w5.ownsRow base 117 4 v (m.deals.length + 1) (m.deals.flatMap MDeal.cells ++ [.bool true, .int .i64 bg, m.tv, .slice none 0 0])) (hloc : ∀ b, v.ownBlock = some b → m.dv.ownBlock = some b ∨ w.heap.size ≤ b) :
    BookAt (w5.setCell ⟨m.bb, 1, none⟩ v) base (_root_.Go.Proofs.YthfimgeopciiiaaGreat.tagNew w.heap.size 1 tag) { m with dv := v, deals := m.deals ++ [⟨⟨true, bg, m.t, []⟩, m.tv, .slice none 0 0⟩] } := by
  have h1 := h.tagNew 1
  generalize ht : _root_.Go.Proofs.YthfimgeopciiiaaGreat.tagNew w.heap.size 1 tag = tag1 at *
  have vb : ∀ b, v.ownBlock = some b → tag1 b = 1 := fun b e => by
    rcases hloc b e with h2 | h2
    · exact h1.gd b h2
    · rw [← ht]; exact tagNew_new h2
  have same : ∀ b, b < w.heap.size → tag1 b ≠ 1 → w5.heap[b]? = w.heap[b]? := fun b hb hn => hgr.block b hb (fun e => hn (h1.gd b e.symm))
  have ob : ∀ b, tag1 b ≠ 0 → (w5.setCell ⟨m.bb, 1, none⟩ v).heap[b]? = w5.heap[b]? := fun b hb => heap_setCell_other _ _ _ (fun e => by rw [e] at hb; exact hb h1.gb)
  have both : ∀ b, b < w.heap.size → tag1 b ≠ 0 → tag1 b ≠ 1 → (w5.setCell ⟨m.bb, 1, none⟩ v).heap[b]? = w.heap[b]? := fun b hb e1 e2 => (ob b e1).trans (same b hb e2)
  have hm : ∀ (k : Nat) (y : MDeal), (m.deals ++ [⟨⟨true, bg, m.t, []⟩, m.tv, .slice none 0 0⟩])[k]? = some y → (y = ⟨⟨true, bg, m.t, []⟩, m.tv, .slice none 0 0⟩) ∨ m.deals[k]? = some y := fun k y hy => by
    rw [List.getElem?_append] at hy
    split at hy
    · exact .inr hy
    · rename_i hk
      have hz : k - m.deals.length = 0 := by have := (List.getElem?_eq_some_iff.1 hy).1; simp at this; omega
      rw [hz] at hy
      exact .inl (Option.some.inj hy).symm
  have own5 : w5.heap[m.bb]? = some (.cells #[.pointer (some ⟨m.sb, 0, none⟩), m.dv, m.tv, m.cv] 38) := (same _ (lt_of_heap h.own) (by rw [h1.gb]; omega)).trans h.own
  refine { h1 with own := ?_, dl := ?_, tb := ?_, cm := ?_, now := ?_, keys := ?_, ck := ?_, gd := vb, gn := ?_, gk := ?_ }
  · exact (heap_setCell_same own5).trans rfl
  · show (w5.setCell _ v).ownsRow base _ 4 v (m.deals ++ [_]).length ((m.deals ++ [_]).flatMap MDeal.cells)
    rw [List.length_append, List.flatMap_append]
    exact ownsRow_of_block hv (fun b e => ob b (by rw [vb b e]; omega))
  · exact ownsRow_of_block h.tb (fun b e => both b (h.tb.lt b e).2 (by rw [h1.gt b e]; omega) (by rw [h1.gt b e]; omega))
  · exact ownsRow_of_block h.cm (fun b e => both b (h.cm.lt b e).2 (by rw [h1.gc b e]; omega) (by rw [h1.gc b e]; omega))
  · intro k y hy
    rcases hm k y hy with rfl | hy
    · exact ownsRow_of_block h.tb (fun b e => both b (h.tb.lt b e).2 (by rw [h1.gt b e]; omega) (by rw [h1.gt b e]; omega))
    · exact ownsRow_of_block (h.now k y hy) (fun b e => both b ((h.now k y hy).lt b e).2 (by rw [h1.gn k y hy b e]; omega) (by rw [h1.gn k y hy b e]; omega))
  · intro k y hy
    rcases hm k y hy with rfl | hy
    · exact World.ownsRow_nil _ _ _ _
    · exact ownsRow_of_block (h.keys k y hy) (fun b e => both b ((h.keys k y hy).lt b e).2 (by rw [h1.gk k y hy b e]; omega) (by rw [h1.gk k y hy b e]; omega))
  · intro c hc
    obtain ⟨k, y, hy, ha, e1, e2⟩ := h.ck c hc
    exact ⟨k, y, by show (m.deals ++ [_])[k]? = some y; rw [List.getElem?_append_left ((List.getElem?_eq_some_iff.1 hy).1)]; exact hy, ha, e1, e2⟩
  · intro k y hy b e
    rcases hm k y hy with rfl | hy
    · exact h1.gt b e
    · exact h1.gn k y hy b e
  · intro k y hy b e
    rcases hm k y hy with rfl | hy
    · simp [Value.ownBlock] at e
    · exact h1.gk k y hy b e

/-- what is committed turns -/
theorem BookAt.setT (h : BookAt w base tag m) {v : Value} {t : Tab} (hv : PrSl base w v t) (hn : ∀ b, v.ownBlock = some b → tag b = 3) :
    BookAt (w.setCell ⟨m.bb, 2, none⟩ v) base tag { m with tv := v, t := t } := by
  have ob : ∀ b, tag b ≠ 0 → (w.setCell ⟨m.bb, 2, none⟩ v).heap[b]? = w.heap[b]? := fun b hb => heap_setCell_other _ _ _ (fun e => by rw [e] at hb; exact hb h.gb)
  exact { h with
    own := (heap_setCell_same h.own).trans rfl
    dl := ownsRow_of_block h.dl (fun b e => ob b (by rw [h.gd b e]; omega))
    tb := ownsRow_of_block hv (fun b e => ob b (by rw [hn b e]; omega))
    cm := ownsRow_of_block h.cm (fun b e => ob b (by rw [h.gc b e]; omega))
    now := fun i x hx => ownsRow_of_block (h.now i x hx) (fun b e => ob b (by rw [h.gn i x hx b e]; omega))
    keys := fun i x hx => ownsRow_of_block (h.keys i x hx) (fun b e => ob b (by rw [h.gk i x hx b e]; omega))
    gt := hn }

/-- one has committed -/
theorem BookAt.done (h : BookAt w base tag m) {i g : Nat} {x : MDeal} (hx : m.deals[i]? = some x) (hg : m.dv.ownBlock = some g) (hact : x.d.active = true) {w5 : World} {v : Value} (hgr : w.grownBy w5 m.cv.ownBlock)
    (hv : w5.ownsRow base 115 1 v (m.commits.length + 1) (m.commits.map (·.2) ++ [x.kv])) (hloc : ∀ b, v.ownBlock = some b → m.cv.ownBlock = some b ∨ w.heap.size ≤ b) :
    BookAt ((w5.setCell ⟨m.bb, 3, none⟩ v).setCell ⟨g, i * 4, none⟩ (.bool false)) base (_root_.Go.Proofs.YthfimgeopciiiaaGreat.tagNew w.heap.size 2 tag) { m with cv := v, deals := m.deals.set i x.off, commits := m.commits ++ [(x.d.keys, x.kv)] } := by
  have hi : i < m.deals.length := (List.getElem?_eq_some_iff.1 hx).1
  have h1 := h.tagNew 2
  generalize ht : _root_.Go.Proofs.YthfimgeopciiiaaGreat.tagNew w.heap.size 2 tag = tag1 at *
  have tg := h1.gd g hg
  have vb : ∀ b, v.ownBlock = some b → tag1 b = 2 := fun b e => by
    rcases hloc b e with h2 | h2
    · exact h1.gc b h2
    · rw [← ht]; exact tagNew_new h2
  have same : ∀ b, b < w.heap.size → tag1 b ≠ 2 → w5.heap[b]? = w.heap[b]? := fun b hb hn => hgr.block b hb (fun e => hn (h1.gc b e.symm))
  have o1 : ∀ b, tag1 b ≠ 0 → (w5.setCell ⟨m.bb, 3, none⟩ v).heap[b]? = w5.heap[b]? := fun b hb => heap_setCell_other _ _ _ (fun e => by rw [e] at hb; exact hb h1.gb)
  have o2 : ∀ b, tag1 b ≠ 1 → ((w5.setCell ⟨m.bb, 3, none⟩ v).setCell ⟨g, i * 4, none⟩ (.bool false)).heap[b]? = (w5.setCell ⟨m.bb, 3, none⟩ v).heap[b]? := fun b hb => heap_setCell_other _ _ _ (fun e => by rw [e] at hb; exact hb tg)
  have both : ∀ b, b < w.heap.size → tag1 b ≠ 0 → tag1 b ≠ 1 → tag1 b ≠ 2 → ((w5.setCell ⟨m.bb, 3, none⟩ v).setCell ⟨g, i * 4, none⟩ (.bool false)).heap[b]? = w.heap[b]? := fun b hb e0 e1 e2 => (o2 b e1).trans ((o1 b e0).trans (same b hb e2))
  have hm : ∀ k y, (m.deals.set i x.off)[k]? = some y → (k = i ∧ y = x.off) ∨ (k ≠ i ∧ m.deals[k]? = some y) := fun k y hy => by
    rw [List.getElem?_set] at hy
    by_cases e : i = k
    · rw [if_pos e, if_pos (by omega)] at hy
      exact .inl ⟨e.symm, (Option.some.inj hy).symm⟩
    · rw [if_neg e] at hy
      exact .inr ⟨fun e' => e e'.symm, hy⟩
  have own5 : w5.heap[m.bb]? = some (.cells #[.pointer (some ⟨m.sb, 0, none⟩), m.dv, m.tv, m.cv] 38) := (same _ (lt_of_heap h.own) (by rw [h1.gb]; omega)).trans h.own
  refine { h1 with own := ?_, dl := ?_, tb := ?_, cm := ?_, now := ?_, keys := ?_, ck := ?_, gc := vb, gn := ?_, gk := ?_ }
  · exact (o2 _ (by rw [h1.gb]; omega)).trans ((heap_setCell_same own5).trans rfl)
  · show World.ownsRow _ base _ 4 m.dv (m.deals.set i _).length ((m.deals.set i _).flatMap MDeal.cells)
    rw [List.length_set, flat_set MDeal.cells 4 MDeal.cells_len m.deals i 0 x x.off (.bool false) hx (by omega) rfl]
    exact ownsRow_set (ownsRow_of_block h.dl (fun b e => (o1 b (by rw [h1.gd b e]; omega)).trans (same b (h.dl.lt b e).2 (by rw [h1.gd b e]; omega)))) hg _ _
  · exact ownsRow_of_block h.tb (fun b e => both b (h.tb.lt b e).2 (by rw [h1.gt b e]; omega) (by rw [h1.gt b e]; omega) (by rw [h1.gt b e]; omega))
  · show World.ownsRow _ base _ 1 v (m.commits ++ [(x.d.keys, x.kv)]).length ((m.commits ++ [(x.d.keys, x.kv)]).map (·.2))
    rw [List.length_append, List.map_append]
    exact ownsRow_of_block hv (fun b e => (o2 b (by rw [vb b e]; omega)).trans (o1 b (by rw [vb b e]; omega)))
  · intro k y hy
    rcases hm k y hy with ⟨rfl, rfl⟩ | ⟨_, hy⟩
    · exact ownsRow_of_block (h.now _ x hx) (fun b e => both b ((h.now _ x hx).lt b e).2 (by rw [h1.gn _ x hx b e]; omega) (by rw [h1.gn _ x hx b e]; omega) (by rw [h1.gn _ x hx b e]; omega))
    · exact ownsRow_of_block (h.now k y hy) (fun b e => both b ((h.now k y hy).lt b e).2 (by rw [h1.gn k y hy b e]; omega) (by rw [h1.gn k y hy b e]; omega) (by rw [h1.gn k y hy b e]; omega))
  · intro k y hy
    rcases hm k y hy with ⟨rfl, rfl⟩ | ⟨_, hy⟩
    · exact ownsRow_of_block (h.keys _ x hx) (fun b e => both b ((h.keys _ x hx).lt b e).2 (by rw [h1.gk _ x hx b e]; omega) (by rw [h1.gk _ x hx b e]; omega) (by rw [h1.gk _ x hx b e]; omega))
    · exact ownsRow_of_block (h.keys k y hy) (fun b e => both b ((h.keys k y hy).lt b e).2 (by rw [h1.gk k y hy b e]; omega) (by rw [h1.gk k y hy b e]; omega) (by rw [h1.gk k y hy b e]; omega))
  · intro c hc
    rcases List.mem_append.1 hc with hc | hc
    · obtain ⟨k, y, hy, ha, e1, e2⟩ := h.ck c hc
      refine ⟨k, y, ?_, ha, e1, e2⟩
      show (m.deals.set i _)[k]? = some y
      rw [List.getElem?_set, if_neg]
      · exact hy
      · intro e; rw [← e, hx] at hy; rw [← Option.some.inj hy, hact] at ha; cases ha
    · obtain rfl : c = (x.d.keys, x.kv) := by simpa using hc
      refine ⟨i, x.off, ?_, rfl, rfl, rfl⟩
      show (m.deals.set i _)[i]? = some _
      rw [List.getElem?_set, if_pos rfl, if_pos hi]
  · intro k y hy b e
    rcases hm k y hy with ⟨rfl, rfl⟩ | ⟨_, hy⟩
    · exact h1.gn _ x hx b e
    · exact h1.gn k y hy b e
  · intro k y hy b e
    rcases hm k y hy with ⟨rfl, rfl⟩ | ⟨_, hy⟩
    · exact h1.gk _ x hx b e
    · exact h1.gk k y hy b e

end
end Go.Proofs.YthfimgeopciiiaaGreat

/-
  The document's own store, as it lies in memory.
-/
namespace Go.Proofs.YthfimgeopciiiaaGreat
open Go.MapKept Go.ChangeMaps Go.Maps Go.RowKit
set_option linter.unusedVariables false

/-- a transaction, and where its writes and its reads lie -/
structure MRTx where
  r : RTx
  wv : Value
  rv : Value

/-- the store, and where its parts lie -/
structure MRef where
  sb : Nat
  tv : Value
  vv : Value
  c1 : Int
  c2 : Int
  c3 : Int
  c4 : Int
  clock : Int
  txs : List MRTx
  vers : List (ByteArray × Ver)

def MRef.rs (m : MRef) : RSt := ⟨m.c1, m.c2, m.c3, m.c4, m.clock, m.txs.map (·.r), m.vers⟩

def MRTx.cells (x : MRTx) : List Value := [.int .i64 x.r.bg, .int .i64 x.r.cm, .int .i64 x.r.st, .int .i64 x.r.i, .int .i64 x.r.o, x.wv, x.rv]
def chgCells (p : ByteArray × Cont) : List Value := [.string p.1, .string p.2.1, .bool p.2.2]
def spanCells (p : Ent × Unit) : List Value := [.string p.1.2.1, .string p.1.2.2, .bool (!p.1.1)]
def rverCells (p : ByteArray × Ver) : List Value := [.int .i64 p.2.1, .string p.1, .string p.2.2.1, .bool p.2.2.2]

theorem MRTx.cells_len (x : MRTx) : x.cells.length = 7 := rfl
theorem chgCells_len (x : ByteArray × Cont) : (chgCells x).length = 3 := rfl
theorem spanCells_len (x : Ent × Unit) : (spanCells x).length = 3 := rfl
theorem rverCells_len (x : ByteArray × Ver) : (rverCells x).length = 4 := rfl

/-- its blocks -/
def MRef.has (m : MRef) (b : Nat) : Prop := b = m.sb ∨ m.tv.ownBlock = some b ∨ m.vv.ownBlock = some b ∨ ∃ (i : Nat) (x : MRTx), m.txs[i]? = some x ∧ (x.wv.ownBlock = some b ∨ x.rv.ownBlock = some b)

/-- in memory; each block has its part: 0 the store, 1 the transactions, 2 the versions, 3 writes, 4 others', 5 + i the reads of transaction i -/
structure RefAt (w : World) (base : Nat) (tag : Nat → Nat) (m : MRef) : Prop where
  own : w.heap[m.sb]? = some (.cells #[.int .i64 m.c1, .int .i64 m.c2, .int .i64 m.c3, .int .i64 m.c4, .int .i64 m.clock, m.tv, m.vv] 158)
  hb : base ≤ m.sb
  tx : w.ownsRow base 197 7 m.tv m.txs.length (m.txs.flatMap MRTx.cells)
  vr : w.ownsRow base 209 4 m.vv m.vers.length (m.vers.flatMap rverCells)
  wr : ∀ (i : Nat) (x : MRTx), m.txs[i]? = some x → w.ownsRow base 66 3 x.wv x.r.wr.length (x.r.wr.flatMap chgCells)
  rd : ∀ (i : Nat) (x : MRTx), m.txs[i]? = some x → w.ownsRow base 201 3 x.rv x.r.rd.length (x.r.rd.flatMap spanCells)
  gb : tag m.sb = 0
  gt : ∀ b, m.tv.ownBlock = some b → tag b = 1
  gv : ∀ b, m.vv.ownBlock = some b → tag b = 2
  gw : ∀ (i : Nat) (x : MRTx), m.txs[i]? = some x → ∀ b, x.wv.ownBlock = some b → tag b = 3
  gr : ∀ (i : Nat) (x : MRTx), m.txs[i]? = some x → ∀ b, x.rv.ownBlock = some b → tag b = 5 + i

section
variable {w w' : World} {base : Nat} {tag : Nat → Nat} {m : MRef}

theorem RefAt.lt (h : RefAt w base tag m) {b : Nat} (hb : m.has b) : base ≤ b ∧ b < w.heap.size := by
  rcases hb with rfl | hb | hb | ⟨i, x, hx, hb | hb⟩
  · exact ⟨h.hb, lt_of_heap h.own⟩
  · exact h.tx.lt b hb
  · exact h.vr.lt b hb
  · exact (h.wr i x hx).lt b hb
  · exact (h.rd i x hx).lt b hb

theorem RefAt.tag4 (h : RefAt w base tag m) {b : Nat} (hb : m.has b) : tag b ≠ 4 := by
  rcases hb with rfl | hb | hb | ⟨i, x, hx, hb | hb⟩
  · rw [h.gb]; omega
  · rw [h.gt b hb]; omega
  · rw [h.gv b hb]; omega
  · rw [h.gw i x hx b hb]; omega
  · rw [h.gr i x hx b hb]; omega

theorem RefAt.frame (h : RefAt w base tag m) (hb : ∀ b, m.has b → w'.heap[b]? = w.heap[b]?) : RefAt w' base tag m :=
  { h with
    own := (hb _ (.inl rfl)).trans h.own
    tx := ownsRow_of_block h.tx (fun b e => hb b (.inr (.inl e)))
    vr := ownsRow_of_block h.vr (fun b e => hb b (.inr (.inr (.inl e))))
    wr := fun i x hx => ownsRow_of_block (h.wr i x hx) (fun b e => hb b (.inr (.inr (.inr ⟨i, x, hx, .inl e⟩))))
    rd := fun i x hx => ownsRow_of_block (h.rd i x hx) (fun b e => hb b (.inr (.inr (.inr ⟨i, x, hx, .inr e⟩)))) }

theorem RefAt.kept {S : Nat → Prop} (h : RefAt w base tag m) (k : Keeps S w w') (hs : ∀ b, m.has b → ¬ S b) : RefAt w' base tag m :=
  h.frame (fun b hb => k.block b (h.lt hb).2 (hs b hb))

theorem RefAt.quiet (h : RefAt w base tag m) (k : Quiet w w') : RefAt w' base tag m := h.kept k (fun _ _ => id)

theorem RefAt.retag {tag' : Nat → Nat} (h : RefAt w base tag m) (ht : ∀ b, m.has b → tag' b = tag b) : RefAt w base tag' m :=
  { h with
    gb := (ht _ (.inl rfl)).trans h.gb
    gt := fun b e => (ht b (.inr (.inl e))).trans (h.gt b e)
    gv := fun b e => (ht b (.inr (.inr (.inl e)))).trans (h.gv b e)
    gw := fun i x hx b e => (ht b (.inr (.inr (.inr ⟨i, x, hx, .inl e⟩)))).trans (h.gw i x hx b e)
    gr := fun i x hx b e => (ht b (.inr (.inr (.inr ⟨i, x, hx, .inr e⟩)))).trans (h.gr i x hx b e) }

theorem RefAt.tagNew (h : RefAt w base tag m) (k : Nat) : RefAt w base (tagNew w.heap.size k tag) m :=
  h.retag (fun b hb => tagNew_old (h.lt hb).2)

theorem RefAt.cell (h : RefAt w base tag m) : w.cell? ⟨m.sb, 0, none⟩ = some (.int .i64 m.c1) ∧ w.cell? ⟨m.sb, 1, none⟩ = some (.int .i64 m.c2) ∧ w.cell? ⟨m.sb, 2, none⟩ = some (.int .i64 m.c3) ∧ w.cell? ⟨m.sb, 3, none⟩ = some (.int .i64 m.c4) ∧ w.cell? ⟨m.sb, 4, none⟩ = some (.int .i64 m.clock) ∧ w.cell? ⟨m.sb, 5, none⟩ = some m.tv ∧ w.cell? ⟨m.sb, 6, none⟩ = some m.vv :=
  ⟨by rw [cell_of_heap h.own]; rfl, by rw [cell_of_heap h.own]; rfl, by rw [cell_of_heap h.own]; rfl, by rw [cell_of_heap h.own]; rfl, by rw [cell_of_heap h.own]; rfl, by rw [cell_of_heap h.own]; rfl, by rw [cell_of_heap h.own]; rfl⟩

theorem RefAt.frz (h : RefAt w base tag m) (i : Nat) : w.frozen? ⟨m.sb, i, none⟩ = false := frozen_of_heap h.own

/-- a row of structs, read -/
theorem row_at {α : Type} {e : TypeId} {k : Nat} (c : α → List Value) (hc : ∀ x, (c x).length = k) {v : Value} {l : List α} (h : w.ownsRow base e k v l.length (l.flatMap c)) :
    ∃ a cap, v = .slice a l.length cap ∧ (l = [] ∨ ∃ g, a = some ⟨g, 0, none⟩ ∧ v.ownBlock = some g ∧ base ≤ g ∧ g < w.heap.size ∧ (∀ i, w.frozen? ⟨g, i, none⟩ = false) ∧ ∀ (i : Nat) (x : α), l[i]? = some x → ∀ j, j < k → w.cell? ⟨g, i * k + j, none⟩ = (c x)[j]?) := by
  rcases h.2 with ⟨e, h0⟩ | ⟨g, cap, cur, e, hb, hg, h1, h2, h3, h4⟩
  · exact ⟨none, 0, by rw [e, h0], .inl (List.eq_nil_of_length_eq_zero h0)⟩
  · refine ⟨_, cap, e, .inr ⟨g, rfl, by rw [e]; rfl, hb, lt_of_heap hg, fun i => frozen_of_heap hg, fun i x hx j hj => ?_⟩⟩
    have hi : i < l.length := (List.getElem?_eq_some_iff.1 hx).1
    have hlt : i * k + j < l.length * k := by
      have : (i + 1) * k ≤ l.length * k := Nat.mul_le_mul_right _ (by omega)
      rw [Nat.succ_mul] at this
      omega
    rw [cell_of_heap hg, ← flat_at c k hc l i j x hx hj, ← h4, List.getElem?_take, if_pos (by omega)]
    simp

theorem RefAt.txsAt (h : RefAt w base tag m) : ∃ a cap, m.tv = .slice a m.txs.length cap ∧ (m.txs = [] ∨ ∃ g, a = some ⟨g, 0, none⟩ ∧ m.tv.ownBlock = some g ∧ base ≤ g ∧ g < w.heap.size ∧ (∀ i, w.frozen? ⟨g, i, none⟩ = false) ∧ ∀ (i : Nat) (x : MRTx), m.txs[i]? = some x → ∀ j, j < 7 → w.cell? ⟨g, i * 7 + j, none⟩ = x.cells[j]?) := row_at MRTx.cells MRTx.cells_len h.tx
theorem RefAt.versAt (h : RefAt w base tag m) : ∃ a cap, m.vv = .slice a m.vers.length cap ∧ (m.vers = [] ∨ ∃ g, a = some ⟨g, 0, none⟩ ∧ m.vv.ownBlock = some g ∧ base ≤ g ∧ g < w.heap.size ∧ (∀ i, w.frozen? ⟨g, i, none⟩ = false) ∧ ∀ (i : Nat) (x : ByteArray × Ver), m.vers[i]? = some x → ∀ j, j < 4 → w.cell? ⟨g, i * 4 + j, none⟩ = (rverCells x)[j]?) := row_at rverCells rverCells_len h.vr

/-- one transaction turns, in one cell -/
theorem RefAt.setTx (h : RefAt w base tag m) {i j g : Nat} {x x' : MRTx} {u : Value} (hx : m.txs[i]? = some x) (hg : m.tv.ownBlock = some g) (hj : j < 7) (hc : x'.cells = x.cells.set j u)
    (wr' : w.ownsRow base 66 3 x'.wv x'.r.wr.length (x'.r.wr.flatMap chgCells)) (rd' : w.ownsRow base 201 3 x'.rv x'.r.rd.length (x'.r.rd.flatMap spanCells)) (gw' : ∀ b, x'.wv.ownBlock = some b → tag b = 3) (gr' : ∀ b, x'.rv.ownBlock = some b → tag b = 5 + i) :
    RefAt (w.setCell ⟨g, i * 7 + j, none⟩ u) base tag { m with txs := m.txs.set i x' } := by
  have hi : i < m.txs.length := (List.getElem?_eq_some_iff.1 hx).1
  have tg := h.gt g hg
  have ob : ∀ b, tag b ≠ 1 → (w.setCell ⟨g, i * 7 + j, none⟩ u).heap[b]? = w.heap[b]? := fun b hb => heap_setCell_other _ _ _ (fun e => by rw [e] at hb; exact hb tg)
  have hm : ∀ k y, (m.txs.set i x')[k]? = some y → (k = i ∧ y = x') ∨ (k ≠ i ∧ m.txs[k]? = some y) := fun k y hy => by
    rw [List.getElem?_set] at hy
    by_cases e : i = k
    · rw [if_pos e, if_pos (by omega)] at hy
      exact .inl ⟨e.symm, (Option.some.inj hy).symm⟩
    · rw [if_neg e] at hy
      exact .inr ⟨fun e' => e e'.symm, hy⟩
  refine { h with own := ?_, tx := ?_, vr := ?_, wr := ?_, rd := ?_, gw := ?_, gr := ?_ }
  · exact (ob _ (by rw [h.gb]; omega)).trans h.own
  · show (w.setCell _ u).ownsRow base _ 7 m.tv (m.txs.set i x').length ((m.txs.set i x').flatMap MRTx.cells)
    rw [List.length_set, flat_set MRTx.cells 7 MRTx.cells_len m.txs i j x x' u hx hj hc]
    exact ownsRow_set h.tx hg _ _
  · exact ownsRow_of_block h.vr (fun b e => ob b (by rw [h.gv b e]; omega))
  · intro k y hy
    rcases hm k y hy with ⟨rfl, rfl⟩ | ⟨_, hy'⟩
    · exact ownsRow_of_block wr' (fun b e => ob b (by rw [gw' b e]; omega))
    · exact ownsRow_of_block (h.wr k y hy') (fun b e => ob b (by rw [h.gw k y hy' b e]; omega))
  · intro k y hy
    rcases hm k y hy with ⟨rfl, rfl⟩ | ⟨_, hy'⟩
    · exact ownsRow_of_block rd' (fun b e => ob b (by rw [gr' b e]; omega))
    · exact ownsRow_of_block (h.rd k y hy') (fun b e => ob b (by rw [h.gr k y hy' b e]; omega))
  · intro k y hy
    rcases hm k y hy with ⟨rfl, rfl⟩ | ⟨_, hy'⟩
    · exact gw'
    · exact h.gw k y hy'
  · intro k y hy
    rcases hm k y hy with ⟨rfl, rfl⟩ | ⟨_, hy'⟩
    · exact gr'
    · exact h.gr k y hy'

end
end Go.Proofs.YthfimgeopciiiaaGreat

/-
  The document's own store: Active, abort, overlap.
-/
namespace Go.Proofs.YthfimgeopciiiaaGreat
open Go.MapKept Go.ChangeMaps Go.Maps Go.RowKit Go.MuLone
set_option linter.unusedVariables false

section
variable {w w' : World} {base : Nat} {tag : Nat → Nat} {m : MRef}

/-- a handle is that of an active one -/
def MRef.actB (m : MRef) (h : Int) : Bool := decide (1 ≤ h) && decide (h ≤ m.txs.length) && (match m.txs[(h - 1).toNat]? with | some x => x.r.st == 0 | none => false)

set_option maxRecDepth 100000 in
set_option maxHeartbeats 1000000 in
theorem ractive_h (H : RefAt w base tag m) (h : Int) (hlen : m.txs.length ≤ 1099511627776) :
    Calls Tryz.prog 114 #[.pointer (some ⟨m.sb, 0, none⟩), .int .i64 h] w fun e w' => e = .returned (.bool (m.actB h)) ∧ w' = w := by
  have c5 := H.cell.2.2.2.2.2.1
  obtain ⟨a, cap, ev, hrow⟩ := H.txsAt
  rw [ev] at c5
  by_cases h1 : 1 ≤ h
  · by_cases h2 : h ≤ m.txs.length
    · obtain ⟨i, rfl⟩ : ∃ i : Nat, h = (i : Int) + 1 := ⟨(h - 1).toNat, by omega⟩
      have hi : i < m.txs.length := by omega
      obtain ⟨x, hx⟩ : ∃ x, m.txs[i]? = some x := ⟨_, List.getElem?_eq_getElem hi⟩
      rcases hrow with h0 | ⟨g, rfl, -, -, -, -, hcell⟩
      · rw [h0] at hi; simp at hi
      have p2 := hcell i x hx 2 (by omega)
      simp [MRTx.cells] at p2
      have HB : Hid (m.actB ((i : Int) + 1) = (x.r.st == 0)) := by
        show (decide (1 ≤ (i : Int) + 1) && decide ((i : Int) + 1 ≤ m.txs.length) && _) = _
        rw [show (((i : Int) + 1 - 1).toNat) = i by omega, hx]
        simp [h1, h2]
      rw [HB.out]
      clear hcell HB hx H ev
      have h3 : (i : Int) < (m.txs.length : Int) := by omega
      go_enter Tryz.func114, Tryz.ntmps114
      go_wp2
      all_goals go_ret
      all_goals exact ⟨rfl, rfl⟩
    · have HB : m.actB h = false := by unfold MRef.actB; simp [h2]
      rw [HB]
      clear HB H ev hrow
      go_enter Tryz.func114, Tryz.ntmps114
      go_wp2
      all_goals go_ret
      all_goals exact ⟨rfl, rfl⟩
  · have HB : m.actB h = false := by unfold MRef.actB; simp [h1]
    rw [HB]
    clear HB H ev hrow
    go_enter Tryz.func114, Tryz.ntmps114
    go_wp2
    all_goals go_ret
    all_goals exact ⟨rfl, rfl⟩

/-- one turns, and nobody else's blocks -/
structure RTurn (w w' : World) (m m' : MRef) : Prop where
  keeps : Keeps m.has w w'
  fresh : ∀ b, m'.has b → m.has b ∨ w.heap.size ≤ b
  sb : m'.sb = m.sb

theorem map_set_if {α β : Type} (f : α → β) (g : β → β) (P : Nat → Prop) [DecidablePred P] : ∀ (l : List α) (i : Nat) (x : α) (y : α), l[i]? = some x → f y = g (f x) → (∀ j z, l[j]? = some z → j ≠ i → g (f z) = f z) → (l.set i y).map f = (l.map f).map g
  | [], i, x, y, h, _, _ => by simp at h
  | z :: l, 0, x, y, h, e, ho => by
    simp at h; subst h
    simp only [List.set_cons_zero, List.map_cons, e]
    congr 1
    rw [List.map_map]
    refine (List.map_congr_left (fun u hu => ?_)).symm
    obtain ⟨j, hj⟩ := List.getElem?_of_mem hu
    exact ho (j + 1) u (by simpa using hj) (by omega)
  | z :: l, i + 1, x, y, h, e, ho => by
    simp only [List.set_cons_succ, List.map_cons]
    rw [map_set_if f g P l i x y (by simpa using h) e (fun j u hj hne => ho (j + 1) u (by simpa using hj) (by omega))]
    rw [ho 0 z rfl (by omega)]

def MRef.hsOk (m : MRef) : Prop := ∀ (j : Nat) (x : MRTx), m.txs[j]? = some x → x.r.h = (j : Int) + 1

theorem has_setTx {i : Nat} {x x' : MRTx} (hx : m.txs[i]? = some x) (hw : x'.wv = x.wv) (hr : x'.rv = x.rv) {b : Nat} (h : ({ m with txs := m.txs.set i x' } : MRef).has b) : m.has b := by
  rcases h with h | h | h | ⟨j, y, hy, h⟩
  · exact .inl h
  · exact .inr (.inl h)
  · exact .inr (.inr (.inl h))
  · have hy' : (m.txs.set i x')[j]? = some y := hy
    rw [List.getElem?_set] at hy'
    split at hy'
    · rename_i e
      split at hy'
      · have := Option.some.inj hy'
        subst this
        rw [hw, hr] at h
        exact .inr (.inr (.inr ⟨i, x, hx, h⟩))
      · cases hy'
    · exact .inr (.inr (.inr ⟨j, y, hy', h⟩))

set_option maxRecDepth 100000 in
set_option maxHeartbeats 1000000 in
theorem rabort_h (H : RefAt w base tag m) {i : Nat} {x : MRTx} (hx : m.txs[i]? = some x) (hlen : m.txs.length ≤ 1099511627776) (hh : m.hsOk) :
    Calls Tryz.prog 182 #[.pointer (some ⟨m.sb, 0, none⟩), .int .i64 ((i : Int) + 1)] w fun e w' => e = .returned (.tuple #[]) ∧ ∃ m', RefAt w' base tag m' ∧ RTurn w w' m m' ∧ m'.rs = m.rs.abort ((i : Int) + 1) := by
  have c5 := H.cell.2.2.2.2.2.1
  have hi : i < m.txs.length := (List.getElem?_eq_some_iff.1 hx).1
  obtain ⟨a, cap, ev, hrow⟩ := H.txsAt
  rcases hrow with h0 | ⟨g, rfl, hg, -, hgl, hfr, hcell⟩
  · rw [h0] at hi; simp at hi
  have p2 := hcell i x hx 2 (by omega)
  simp [MRTx.cells] at p2
  have hf := hfr (i * 7 + 2)
  have HM : Hid (∃ m', RefAt (w.setCell ⟨g, i * 7 + 2, none⟩ (.int .i64 2)) base tag m' ∧ RTurn w (w.setCell ⟨g, i * 7 + 2, none⟩ (.int .i64 2)) m m' ∧ m'.rs = m.rs.abort ((i : Int) + 1)) := by
    refine ⟨{ m with txs := m.txs.set i { x with r := { x.r with st := 2 } } }, H.setTx (j := 2) (x' := { x with r := { x.r with st := 2 } }) hx hg (by omega) rfl (H.wr i x hx) (H.rd i x hx) (H.gw i x hx) (H.gr i x hx), ⟨?_, fun b hb => .inl (has_setTx (m := m) (x' := { x with r := { x.r with st := 2 } }) hx rfl rfl hb), rfl⟩, ?_⟩
    · exact Keeps.setCell _ _ _ (.inr (.inl hg))
    · unfold MRef.rs RSt.abort
      simp only
      congr 1
      refine map_set_if (fun x : MRTx => x.r) (abortX ((i : Int) + 1)) (fun _ => True) m.txs i x _ hx ?_ (fun j z hz hne => ?_)
      · unfold abortX; rw [if_pos (hh i x hx)]
      · unfold abortX
        rw [if_neg (by rw [hh j z hz]; omega)]
  rw [ev] at c5
  have h3 : (i : Int) < (m.txs.length : Int) := by omega
  clear hcell H ev hx hfr
  go_enter Tryz.func182, Tryz.ntmps182
  go_wp2
  go_end0
  exact ⟨rfl, HM.out⟩

set_option maxRecDepth 100000 in
set_option maxHeartbeats 2000000 in
theorem roverlap_h (H : RefAt w base tag m) {i j : Nat} {x k : MRTx} (hx : m.txs[i]? = some x) (hk : m.txs[j]? = some k) (hlen : m.txs.length ≤ 1099511627776) (hh : m.hsOk) :
    Calls Tryz.prog 181 #[.pointer (some ⟨m.sb, 0, none⟩), .int .i64 i, .int .i64 j] w fun e w' => e = .returned (.bool (k.r.over x.r)) ∧ Quiet w w' := by
  have c5 := H.cell.2.2.2.2.2.1
  have hi : i < m.txs.length := (List.getElem?_eq_some_iff.1 hx).1
  have hj : j < m.txs.length := (List.getElem?_eq_some_iff.1 hk).1
  have hsb := lt_of_heap H.own
  obtain ⟨a, cap, ev, hrow⟩ := H.txsAt
  obtain ⟨wa, wc, ew, -⟩ := row_at chgCells chgCells_len (H.wr i x hx)
  obtain ⟨ra, rc, er, -⟩ := row_at spanCells spanCells_len (H.rd i x hx)
  rcases hrow with h0 | ⟨g, rfl, hg, -, hgl, hfr, hcell⟩
  · rw [h0] at hi; simp at hi
  rw [ev] at c5
  have p0 := hcell i x hx 0 (by omega)
  have p1 := hcell i x hx 1 (by omega)
  have p2 := hcell i x hx 2 (by omega)
  have p3 := hcell i x hx 3 (by omega)
  have p4 := hcell i x hx 4 (by omega)
  have p5 := hcell i x hx 5 (by omega)
  have p6 := hcell i x hx 6 (by omega)
  have q0 := hcell j k hk 0 (by omega)
  simp [MRTx.cells] at p0 p1 p2 p3 p4 p5 p6 q0
  rw [ew] at p5
  rw [er] at p6
  have hne : x.r.h = k.r.h ↔ i = j := by rw [hh i x hx, hh j k hk]; omega
  by_cases e : i = j
  · subst e
    have HB : k.r.over x.r = false := by unfold RTx.over; simp [hne.2 rfl]
    rw [HB]
    clear hcell H hfr HB hne
    go_enter Tryz.func181, Tryz.ntmps181
    go_wp2
    go_ret
    exact ⟨rfl, Keeps.refl _ _⟩
  · have hb : ¬ x.r.h = k.r.h := fun h => e (hne.1 h)
    have HB : Hid (k.r.over x.r = (decide (x.r.st = 0) || ((decide (x.r.st = 1) || decide (x.r.st = 3)) && decide (k.r.bg < x.r.cm)))) := by show k.r.over x.r = _; unfold RTx.over; simp [hb]
    generalize hov : k.r.over x.r = ov at *
    have e1 : ¬ (i : Int) = (j : Int) := by omega
    have e2 : ((i : Int) == (j : Int)) = false := by simpa using e1
    have hi' : (i : Int) < (m.txs.length : Int) := by omega
    have hj' : (j : Int) < (m.txs.length : Int) := by omega
    clear hcell H hfr hne hb e hx hk hov
    go_enter Tryz.func181, Tryz.ntmps181
    go_wp2
    have hqn : Quiet w (w.alloc (.cells #[.int .i64 x.r.bg, .int .i64 x.r.cm, .int .i64 x.r.st, .int .i64 x.r.i, .int .i64 x.r.o, .slice wa x.r.wr.length wc, .slice ra x.r.rd.length rc] 197)) := Keeps.alloc _ _
    have y1 : (w.alloc (.cells #[.int .i64 x.r.bg, .int .i64 x.r.cm, .int .i64 x.r.st, .int .i64 x.r.i, .int .i64 x.r.o, .slice wa x.r.wr.length wc, .slice ra x.r.rd.length rc] 197)).cell? ⟨w.heap.size, 1, none⟩ = some (.int .i64 x.r.cm) := by rw [cell_of_heap (heap_alloc_new _ _)]; rfl
    have y2 : (w.alloc (.cells #[.int .i64 x.r.bg, .int .i64 x.r.cm, .int .i64 x.r.st, .int .i64 x.r.i, .int .i64 x.r.o, .slice wa x.r.wr.length wc, .slice ra x.r.rd.length rc] 197)).cell? ⟨w.heap.size, 2, none⟩ = some (.int .i64 x.r.st) := by rw [cell_of_heap (heap_alloc_new _ _)]; rfl
    rw [← hqn.cell hsb (by simp)] at c5
    rw [← hqn.cell hgl (by simp)] at q0
    clear p0 p1 p2 p3 p4 p5 p6
    generalize w.alloc (.cells #[.int .i64 x.r.bg, .int .i64 x.r.cm, .int .i64 x.r.st, .int .i64 x.r.i, .int .i64 x.r.o, .slice wa x.r.wr.length wc, .slice ra x.r.rd.length rc] 197) = WN at *
    generalize x.r.st = st at *
    generalize x.r.cm = cm at *
    generalize k.r.bg = kb at *
    by_cases s0 : st = 0
    · subst s0
      have hov : ov = true := by rw [HB.out]; simp
      subst hov
      clear HB
      go_quiet (fail)
      go_wp2
      go_ret
      exact ⟨rfl, Quiet.trans' hqn (quiet_drewN _ _)⟩
    have s0' : (st == 0) = false := by simpa using s0
    by_cases s1 : st = 1
    · subst s1
      have hov : ov = decide (kb < cm) := by rw [HB.out]; simp
      subst hov
      clear HB
      go_quiet (fail)
      go_wp2
      go_ret
      exact ⟨rfl, Quiet.trans' hqn (quiet_drewN _ _)⟩
    have s1' : (st == 1) = false := by simpa using s1
    by_cases s3 : st = 3
    · subst s3
      have hov : ov = decide (kb < cm) := by rw [HB.out]; simp
      subst hov
      clear HB
      go_quiet (fail)
      go_wp2
      go_ret
      exact ⟨rfl, Quiet.trans' hqn (quiet_drewN _ _)⟩
    have s3' : (st == 3) = false := by simpa using s3
    have hov : ov = false := by rw [HB.out]; simp [s0, s1, s3]
    subst hov
    clear HB
    go_quiet (fail)
    go_wp2
    go_ret
    exact ⟨rfl, Quiet.trans' hqn (quiet_drewN _ _)⟩

end
end Go.Proofs.YthfimgeopciiiaaGreat
