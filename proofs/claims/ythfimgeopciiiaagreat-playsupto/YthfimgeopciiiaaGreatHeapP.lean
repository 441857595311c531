/-
  The heap of the active transactions: its list, each one's place; an exchange of two.
-/
import Derived.Test.YthfimgeopciiiaaGreatSmall
import Derived.BigRegion
namespace Go.Proofs.YthfimgeopciiiaaGreat
open Go.MapKept Go.ChangeMaps Go.Maps Go.RowKit

/-- v is a slice of pointers to these blocks, in a row of its own. -/
abbrev PSl (w : World) (v : Value) (hl : List Nat) : Prop := w.ownsRow 0 168 1 v hl.length (hl.map ptrTo)

/-- The block of a transaction's record. -/
def TB (w : World) (t : Nat) (b p : Int) : Prop := ∃ cs, w.heap[t]? = some (.cells cs 174) ∧ cs.size = 8 ∧ cs[1]? = some (.int .i64 b) ∧ cs[7]? = some (.int .i64 p)

structure HeapIs (w : World) (v : Value) (hl : List Nat) (bg : Nat → Int) : Prop where
  sl : PSl w v hl
  nd : hl.Nodup
  ne : ∀ t ∈ hl, v.ownBlock ≠ some t
  tb : ∀ (i t : Nat), hl[i]? = some t → TB w t (bg t) i
  len : hl.length ≤ 1000

/-- Only the heap's row and the places of these records have turned. -/
structure Moved (v : Value) (T : List Nat) (w w' : World) : Prop where
  keeps : Keeps (fun b => v.ownBlock = some b ∨ b ∈ T) w w'
  size : w'.heap.size = w.heap.size
  recs : ∀ t ∈ T, ∀ cs (n : Int), w.heap[t]? = some (.cells cs 174) → cs[7]? = some (.int .i64 n) → ∃ p : Int, w'.heap[t]? = some (.cells (cs.setIfInBounds 7 (.int .i64 p)) 174)

theorem seven_set {cs : Array Value} {n p : Int} (h : cs[7]? = some (.int .i64 n)) : (cs.setIfInBounds 7 (.int .i64 p))[7]? = some (.int .i64 p) := by
  have : 7 < cs.size := (Array.getElem?_eq_some_iff.1 h).1
  simp [this]

theorem seven_self {cs : Array Value} {n : Int} (h : cs[7]? = some (.int .i64 n)) : cs.setIfInBounds 7 (.int .i64 n) = cs := by
  apply Array.ext_getElem?
  intro i
  rw [Array.getElem?_setIfInBounds]
  split
  · rename_i e; subst e
    split
    · exact h.symm
    · rename_i h2; rw [Array.getElem?_eq_none (by omega)] at h; cases h
  · rfl

theorem Moved.trans {v : Value} {T T' : List Nat} {a b c : World} (h : Moved v T a b) (k : Moved v T' b c) (hT : ∀ t, t ∈ T' ↔ t ∈ T) : Moved v T a c := by
  refine ⟨h.keeps.trans k.keeps (fun x hx => .inl (hx.imp id (fun m => (hT x).1 m))), k.size.trans h.size, fun t ht cs n hcs hn => ?_⟩
  obtain ⟨p, hp⟩ := h.recs t ht cs n hcs hn
  obtain ⟨q, hq⟩ := k.recs t ((hT t).2 ht) _ p hp (seven_set hn)
  exact ⟨q, by rw [hq]; simp⟩

def swapL (hl : List Nat) (i j : Nat) : List Nat := (hl.set i (hl.getD j 0)).set j (hl.getD i 0)

theorem swapL_length (hl : List Nat) (i j : Nat) : (swapL hl i j).length = hl.length := by simp [swapL]

theorem swapL_get (hl : List Nat) (i j k : Nat) (hi : i < hl.length) (hj : j < hl.length) : (swapL hl i j)[k]? = if k = j then hl[i]? else if k = i then hl[j]? else hl[k]? := by
  simp only [swapL, List.getElem?_set, List.length_set]
  by_cases h1 : j = k
  · subst h1; simp [hj, List.getD_eq_getElem?_getD, List.getElem?_eq_getElem hi]
  · have h1' : ¬ k = j := fun e => h1 e.symm
    simp only [h1, if_false, h1']
    by_cases h2 : i = k
    · subst h2; simp [hi, List.getD_eq_getElem?_getD, List.getElem?_eq_getElem hj]
    · have h2' : ¬ k = i := fun e => h2 e.symm
      simp [h2, h2']

theorem swapL_perm (hl : List Nat) (i j : Nat) (hi : i < hl.length) (hj : j < hl.length) : (swapL hl i j).Perm hl := by
  have e1 : hl.getD j 0 = hl[j] := by simp [List.getD_eq_getElem?_getD, List.getElem?_eq_getElem hj]
  have e2 : hl.getD i 0 = hl[i] := by simp [List.getD_eq_getElem?_getD, List.getElem?_eq_getElem hi]
  rw [swapL, e1, e2]
  exact List.set_set_perm hi hj

set_option maxRecDepth 100000 in
set_option maxHeartbeats 2000000 in
theorem swap_walk (qb qo hb n cap i j ti tj : Nat) (pi pj : Int) (w : World) (hi : i < n) (hj : j < n) (_hn : n < 100000)
    (c0 : w.cell? ⟨qb, qo, none⟩ = some (.slice (some ⟨hb, 0, none⟩) n cap))
    (ci : w.cell? ⟨hb, i, none⟩ = some (.pointer (some ⟨ti, 0, none⟩))) (cj : w.cell? ⟨hb, j, none⟩ = some (.pointer (some ⟨tj, 0, none⟩)))
    (di : w.cell? ⟨ti, 7, none⟩ = some (.int .i64 pi)) (dj : w.cell? ⟨tj, 7, none⟩ = some (.int .i64 pj))
    (n1 : qb ≠ hb) (n2 : ti ≠ hb) (n3 : tj ≠ hb) (n4 : qb ≠ ti) (n5 : qb ≠ tj)
    (fi : w.frozen? ⟨hb, i, none⟩ = false) (fj : w.frozen? ⟨hb, j, none⟩ = false) (gi : w.frozen? ⟨ti, 7, none⟩ = false) (gj : w.frozen? ⟨tj, 7, none⟩ = false) :
    Calls Tryz.prog 200 #[.pointer (some ⟨qb, qo, none⟩), .int .i64 i, .int .i64 j] w fun e w' => e = .returned (.tuple #[]) ∧
      w' = ((((w.setCell ⟨hb, i, none⟩ (.pointer (some ⟨tj, 0, none⟩))).setCell ⟨hb, j, none⟩ (.pointer (some ⟨ti, 0, none⟩))).setCell ⟨tj, 7, none⟩ (.int .i64 i)).setCell ⟨ti, 7, none⟩ (.int .i64 j)).drew := by
  have hi' : (i : Int) < (n : Int) := by omega
  have hj' : (j : Int) < (n : Int) := by omega
  have e1 : (w.setCell ⟨hb, i, none⟩ (.pointer (some ⟨tj, 0, none⟩))).cell? ⟨hb, j, none⟩ = some (.pointer (some ⟨tj, 0, none⟩)) := by
    by_cases h : i = j
    · subst h; rw [World.cell?_setCell_same _ _ _ ci]
    · rw [World.cell?_setCell_other _ _ _ _ (by simp), cj]
  have e2 : ((w.setCell ⟨hb, i, none⟩ (.pointer (some ⟨tj, 0, none⟩))).setCell ⟨hb, j, none⟩ (.pointer (some ⟨ti, 0, none⟩))).cell? ⟨hb, j, none⟩ = some (.pointer (some ⟨ti, 0, none⟩)) :=
    World.cell?_setCell_same _ _ _ e1
  have e3 : ((w.setCell ⟨hb, i, none⟩ (.pointer (some ⟨tj, 0, none⟩))).setCell ⟨hb, j, none⟩ (.pointer (some ⟨ti, 0, none⟩))).cell? ⟨hb, i, none⟩ = some (.pointer (some ⟨tj, 0, none⟩)) := by
    by_cases h : i = j
    · subst h
      rw [e2]; rw [ci] at cj; simpa using cj
    · rw [World.cell?_setCell_other _ _ _ _ (by simp), World.cell?_setCell_same _ _ _ ci]
  have e4 : ∃ v, (((w.setCell ⟨hb, i, none⟩ (.pointer (some ⟨tj, 0, none⟩))).setCell ⟨hb, j, none⟩ (.pointer (some ⟨ti, 0, none⟩))).setCell ⟨tj, 7, none⟩ (.int .i64 i)).cell? ⟨ti, 7, none⟩ = some v := by
    have o2 : ((w.setCell ⟨hb, i, none⟩ (.pointer (some ⟨tj, 0, none⟩))).setCell ⟨hb, j, none⟩ (.pointer (some ⟨ti, 0, none⟩))).cell? ⟨ti, 7, none⟩ = some (.int .i64 pi) := by
      rw [World.cell?_setCell_other _ _ _ _ (fun e => n2 (congrArg Addr.block e).symm), World.cell?_setCell_other _ _ _ _ (fun e => n2 (congrArg Addr.block e).symm)]; exact di
    by_cases h : ti = tj
    · subst h; exact ⟨_, World.cell?_setCell_same _ _ _ o2⟩
    · exact ⟨.int .i64 pi, by rw [World.cell?_setCell_other _ _ _ _ (fun e => h (congrArg Addr.block e).symm)]; exact o2⟩
  obtain ⟨v4, e4⟩ := e4
  go_enter Tryz.func200, Tryz.ntmps200
  go_wp2
  go_region
  go_wp2
  go_end0
  exact ⟨rfl, rfl⟩

theorem PSl.row {w : World} {v : Value} {hl : List Nat} (h : PSl w v hl) (hn : hl ≠ []) :
    ∃ g cap cur, v = .slice (some ⟨g, 0, none⟩) hl.length cap ∧ w.heap[g]? = some (.cells cur 168) ∧ hl.length ≤ cap ∧ cap ≤ maxLen ∧ cur.size = cap ∧ cur.toList.take hl.length = hl.map ptrTo := by
  rcases h.2 with ⟨_, h0⟩ | ⟨g, cap, cur, rfl, _, hg, h1, h2, h3, h4⟩
  · exact absurd (List.eq_nil_of_length_eq_zero h0) hn
  · exact ⟨g, cap, cur, rfl, hg, h1, h2, by simpa using h3, by simpa using h4⟩

theorem row_get {cur : Array Value} {hl : List Nat} (h : cur.toList.take hl.length = hl.map ptrTo) {i t : Nat} (hi : hl[i]? = some t) : cur[i]? = some (ptrTo t) := by
  have hlt : i < hl.length := (List.getElem?_eq_some_iff.1 hi).1
  have := congrArg (·[i]?) h
  simp only [List.getElem?_take, hlt, if_true, List.getElem?_map, hi, Option.map_some, Array.getElem?_toList] at this
  exact this

theorem take_set {cur : Array Value} {hl : List Nat} (h : cur.toList.take hl.length = hl.map ptrTo) (i t : Nat) :
    (cur.setIfInBounds i (ptrTo t)).toList.take (hl.set i t).length = (hl.set i t).map ptrTo := by
  rw [Array.toList_setIfInBounds, List.length_set, List.take_set, h, List.map_set]

theorem swap_h (qb qo : Nat) (v : Value) (hl : List Nat) (bg : Nat → Int) (w : World) (cq : w.cell? ⟨qb, qo, none⟩ = some v) (H : HeapIs w v hl bg) (hq : qb ∉ hl) (hqv : v.ownBlock ≠ some qb)
    (i j : Nat) (hi : i < hl.length) (hj : j < hl.length) :
    Calls Tryz.prog 200 #[.pointer (some ⟨qb, qo, none⟩), .int .i64 i, .int .i64 j] w fun e w' => e = .returned (.tuple #[]) ∧
      HeapIs w' v (swapL hl i j) bg ∧ Moved v hl w w' := by
  have hne : hl ≠ [] := fun e => by subst e; simp at hi
  obtain ⟨g, cap, cur, rfl, hg, hcap, hmax, hcs, htake⟩ := H.sl.row hne
  obtain ⟨ti, hti⟩ : ∃ t, hl[i]? = some t := ⟨_, List.getElem?_eq_getElem hi⟩
  obtain ⟨tj, htj⟩ : ∃ t, hl[j]? = some t := ⟨_, List.getElem?_eq_getElem hj⟩
  have mi := List.mem_of_getElem? hti
  have mj := List.mem_of_getElem? htj
  have ni : ti ≠ g := fun e => H.ne ti mi (by simp [Value.ownBlock, e])
  have nj : tj ≠ g := fun e => H.ne tj mj (by simp [Value.ownBlock, e])
  obtain ⟨ci, hci, si, bi, pi⟩ := H.tb i ti hti
  obtain ⟨cj, hcj, sj, bj, pj⟩ := H.tb j tj htj
  have hlen := H.len
  refine (swap_walk qb qo g hl.length cap i j ti tj i j w hi hj (by omega) cq (by rw [cell_of_heap hg]; exact row_get htake hti) (by rw [cell_of_heap hg]; exact row_get htake htj)
    (by rw [cell_of_heap hci]; exact pi) (by rw [cell_of_heap hcj]; exact pj) (fun e => hqv (by simp [Value.ownBlock, e])) ni nj (fun e => hq (e ▸ mi)) (fun e => hq (e ▸ mj))
    (frozen_of_heap hg) (frozen_of_heap hg) (frozen_of_heap hci) (frozen_of_heap hcj)).mono ?_
  rintro e w' ⟨rfl, rfl⟩
  have gW : (((((w.setCell ⟨g, i, none⟩ (.pointer (some ⟨tj, 0, none⟩))).setCell ⟨g, j, none⟩ (.pointer (some ⟨ti, 0, none⟩))).setCell ⟨tj, 7, none⟩ (.int .i64 i)).setCell ⟨ti, 7, none⟩ (.int .i64 j)).drew).heap[g]? = some (.cells ((cur.setIfInBounds i (ptrTo tj)).setIfInBounds j (ptrTo ti)) 168) := by
    show (_ : World).heap[g]? = _
    rw [show ∀ u : World, u.drew.heap = u.heap from fun _ => rfl, heap_setCell_other _ _ _ (Ne.symm ni), heap_setCell_other _ _ _ (Ne.symm nj)]
    exact heap_setCell_same (heap_setCell_same hg)
  have tiW : ∃ x, (((((w.setCell ⟨g, i, none⟩ (.pointer (some ⟨tj, 0, none⟩))).setCell ⟨g, j, none⟩ (.pointer (some ⟨ti, 0, none⟩))).setCell ⟨tj, 7, none⟩ (.int .i64 i)).setCell ⟨ti, 7, none⟩ (.int .i64 j)).drew).heap[ti]? = some (.cells (x.setIfInBounds 7 (.int .i64 j)) 174) ∧ (x = ci ∨ x = ci.setIfInBounds 7 (.int .i64 i)) := by
    rw [show ∀ u : World, u.drew.heap = u.heap from fun _ => rfl]
    have o : ((w.setCell ⟨g, i, none⟩ (.pointer (some ⟨tj, 0, none⟩))).setCell ⟨g, j, none⟩ (.pointer (some ⟨ti, 0, none⟩))).heap[ti]? = some (.cells ci 174) := by
      rw [heap_setCell_other _ _ _ ni, heap_setCell_other _ _ _ ni]; exact hci
    by_cases e : ti = tj
    · subst e; exact ⟨_, heap_setCell_same (heap_setCell_same o), .inr rfl⟩
    · exact ⟨_, heap_setCell_same (by rw [heap_setCell_other _ _ _ e]; exact o), .inl rfl⟩
  have tjW : ti ≠ tj → (((((w.setCell ⟨g, i, none⟩ (.pointer (some ⟨tj, 0, none⟩))).setCell ⟨g, j, none⟩ (.pointer (some ⟨ti, 0, none⟩))).setCell ⟨tj, 7, none⟩ (.int .i64 i)).setCell ⟨ti, 7, none⟩ (.int .i64 j)).drew).heap[tj]? = some (.cells (cj.setIfInBounds 7 (.int .i64 i)) 174) := by
    intro e
    rw [show ∀ u : World, u.drew.heap = u.heap from fun _ => rfl, heap_setCell_other _ _ _ (Ne.symm e)]
    refine heap_setCell_same ?_
    rw [heap_setCell_other _ _ _ nj, heap_setCell_other _ _ _ nj]; exact hcj
  have otW : ∀ t, t ≠ g → t ≠ ti → t ≠ tj → (((((w.setCell ⟨g, i, none⟩ (.pointer (some ⟨tj, 0, none⟩))).setCell ⟨g, j, none⟩ (.pointer (some ⟨ti, 0, none⟩))).setCell ⟨tj, 7, none⟩ (.int .i64 i)).setCell ⟨ti, 7, none⟩ (.int .i64 j)).drew).heap[t]? = w.heap[t]? := by
    intro t h1 h2 h3
    rw [show ∀ u : World, u.drew.heap = u.heap from fun _ => rfl, heap_setCell_other _ _ _ h2, heap_setCell_other _ _ _ h3, heap_setCell_other _ _ _ h1, heap_setCell_other _ _ _ h1]
  have szW : (((((w.setCell ⟨g, i, none⟩ (.pointer (some ⟨tj, 0, none⟩))).setCell ⟨g, j, none⟩ (.pointer (some ⟨ti, 0, none⟩))).setCell ⟨tj, 7, none⟩ (.int .i64 i)).setCell ⟨ti, 7, none⟩ (.int .i64 j)).drew).heap.size = w.heap.size := by simp
  have osW : (((((w.setCell ⟨g, i, none⟩ (.pointer (some ⟨tj, 0, none⟩))).setCell ⟨g, j, none⟩ (.pointer (some ⟨ti, 0, none⟩))).setCell ⟨tj, 7, none⟩ (.int .i64 i)).setCell ⟨ti, 7, none⟩ (.int .i64 j)).drew).os = w.os := rfl
  have tpW : (((((w.setCell ⟨g, i, none⟩ (.pointer (some ⟨tj, 0, none⟩))).setCell ⟨g, j, none⟩ (.pointer (some ⟨ti, 0, none⟩))).setCell ⟨tj, 7, none⟩ (.int .i64 i)).setCell ⟨ti, 7, none⟩ (.int .i64 j)).drew).tape = w.tape := rfl
  have ouW : (((((w.setCell ⟨g, i, none⟩ (.pointer (some ⟨tj, 0, none⟩))).setCell ⟨g, j, none⟩ (.pointer (some ⟨ti, 0, none⟩))).setCell ⟨tj, 7, none⟩ (.int .i64 i)).setCell ⟨ti, 7, none⟩ (.int .i64 j)).drew).output = w.output := rfl
  generalize ((((w.setCell ⟨g, i, none⟩ (.pointer (some ⟨tj, 0, none⟩))).setCell ⟨g, j, none⟩ (.pointer (some ⟨ti, 0, none⟩))).setCell ⟨tj, 7, none⟩ (.int .i64 i)).setCell ⟨ti, 7, none⟩ (.int .i64 j)).drew = W at *
  have hinj : ∀ {a b t : Nat}, hl[a]? = some t → hl[b]? = some t → a = b := fun {a b t} h1 h2 => by
    obtain ⟨ha, _⟩ := List.getElem?_eq_some_iff.1 h1
    exact (List.getElem?_inj ha H.nd).1 (h1.trans h2.symm)
  have gi : hl.getD i 0 = ti := by simp [List.getD_eq_getElem?_getD, hti]
  have gj : hl.getD j 0 = tj := by simp [List.getD_eq_getElem?_getD, htj]
  refine ⟨rfl, ⟨?_, (swapL_perm hl i j hi hj).nodup_iff.2 H.nd, fun t ht => H.ne t ((swapL_perm hl i j hi hj).mem_iff.1 ht), ?_, by rw [swapL_length]; exact H.len⟩, ⟨⟨osW, tpW, ouW, by omega, ?_⟩, szW, ?_⟩⟩
  · rw [PSl, swapL_length]
    refine ⟨by simp [swapL], .inr ⟨g, cap, _, rfl, Nat.zero_le _, gW, hcap, hmax, by simp [hcs], ?_⟩⟩
    have h2 := take_set (take_set htake i tj) j ti
    simp only [List.length_set] at h2
    simp only [swapL, gi, gj, Nat.mul_one]
    exact h2
  · intro k t hk
    rw [swapL_get hl i j k hi hj] at hk
    by_cases h1 : k = j
    · subst h1
      rw [if_pos rfl, hti] at hk
      cases hk
      obtain ⟨x, hx, hx'⟩ := tiW
      refine ⟨_, hx, ?_, ?_, ?_⟩
      · rcases hx' with rfl | rfl <;> simp [si]
      · rcases hx' with rfl | rfl <;> simp [bi]
      · rcases hx' with rfl | rfl <;> simp [si]
    · rw [if_neg h1] at hk
      by_cases h2 : k = i
      · subst h2
        rw [if_pos rfl, htj] at hk
        cases hk
        have hne : ti ≠ tj := fun e => h1 (hinj hti (e ▸ htj))
        exact ⟨_, tjW hne, by simp [sj], by simp [bj], by simp [sj]⟩
      · rw [if_neg h2] at hk
        obtain ⟨c, hc, r⟩ := H.tb k t hk
        refine ⟨c, ?_, r⟩
        rw [otW t (fun e => H.ne t (List.mem_of_getElem? hk) (by simp [Value.ownBlock, e])) (fun e => h2 (hinj hk (e ▸ hti))) (fun e => h1 (hinj hk (e ▸ htj)))]
        exact hc
  · intro b _ hb
    have hb' : ¬ (g = b) ∧ b ∉ hl := by simpa [Value.ownBlock, not_or] using hb
    exact otW b (fun e => hb'.1 e.symm) (fun e => hb'.2 (e ▸ mi)) (fun e => hb'.2 (e ▸ mj))
  · intro t ht cs n hcs' hn7
    by_cases h1 : t = ti
    · subst h1
      rw [hci] at hcs'
      cases hcs'
      obtain ⟨x, hx, hx'⟩ := tiW
      refine ⟨j, ?_⟩
      rcases hx' with rfl | rfl
      · exact hx
      · rw [hx]; simp
    · by_cases h2 : t = tj
      · subst h2
        rw [hcj] at hcs'
        cases hcs'
        exact ⟨_, tjW (Ne.symm h1)⟩
      · refine ⟨n, ?_⟩
        rw [otW t (fun e => H.ne t ht (by simp [Value.ownBlock, e])) h1 h2, hcs']
        rw [seven_self hn7]

end Go.Proofs.YthfimgeopciiiaaGreat

/-
  Plain: what an exchange with the one above, or with the lesser one below, does to a heap's order.
-/
namespace Go.Proofs.YthfimgeopciiiaaGreat

def sw (f : Nat → Int) (i j k : Nat) : Int := if k = j then f i else if k = i then f j else f k

def Ord (f : Nat → Int) (n : Nat) : Prop := ∀ k, 0 < k → k < n → f ((k - 1) / 2) ≤ f k

structure RiseI (f : Nat → Int) (n p i0 : Nat) : Prop where
  a : ∀ k, 0 < k → k < n → k ≠ p → (k - 1) / 2 ≠ p → f ((k - 1) / 2) ≤ f k
  b : 0 < p → ∀ k, 0 < k → k < n → (k - 1) / 2 = p → f ((p - 1) / 2) ≤ f k
  c : p ≠ i0 → ∀ k, 0 < k → k < n → (k - 1) / 2 = p → f p ≤ f k

structure SinkI (f : Nat → Int) (n p : Nat) : Prop where
  a : ∀ k, 0 < k → k < n → (k - 1) / 2 ≠ p → f ((k - 1) / 2) ≤ f k
  b : 0 < p → ∀ k, 0 < k → k < n → (k - 1) / 2 = p → f ((p - 1) / 2) ≤ f k

theorem RiseI.step {f : Nat → Int} {n p i0 : Nat} (h : RiseI f n p i0) (h0 : 0 < p) (hp : p < n) (hi : p ≤ i0) (hlt : f p < f ((p - 1) / 2)) :
    RiseI (sw f p ((p - 1) / 2)) n ((p - 1) / 2) i0 := by
  have hq : (p - 1) / 2 < p := by omega
  generalize hqd : (p - 1) / 2 = q at *
  refine ⟨fun k k0 kn k1 k2 => ?_, fun q0 k k0 kn kp => ?_, fun _ k k0 kn kp => ?_⟩
  · unfold sw
    rw [if_neg k2]
    by_cases e1 : (k - 1) / 2 = p
    · rw [if_pos e1, if_neg k1]
      have hkp : ¬ k = p := by omega
      rw [if_neg hkp]
      exact hqd ▸ h.b h0 k k0 kn e1
    · rw [if_neg e1, if_neg k1]
      by_cases e2 : k = p
      · subst e2; exact absurd hqd k2
      · rw [if_neg e2]
        exact h.a k k0 kn e2 e1
  · unfold sw
    have hqq : ¬ (q - 1) / 2 = q := by omega
    have hqp : ¬ (q - 1) / 2 = p := by omega
    have hq1 := h.a q q0 (by omega) (by omega) (by omega)
    rw [if_neg hqq, if_neg hqp]
    have hkq : ¬ k = q := by omega
    rw [if_neg hkq]
    by_cases e : k = p
    · rw [if_pos e]; exact hq1
    · rw [if_neg e]
      have := h.a k k0 kn e (by omega)
      rw [kp] at this
      omega
  · unfold sw
    rw [if_pos rfl]
    have hkq : ¬ k = q := by omega
    rw [if_neg hkq]
    by_cases e : k = p
    · rw [if_pos e]; omega
    · rw [if_neg e]
      have := h.a k k0 kn e (by omega)
      rw [kp] at this
      omega

theorem RiseI.fin {f : Nat → Int} {n p i0 : Nat} (h : RiseI f n p i0) (hend : p = 0 ∨ f ((p - 1) / 2) ≤ f p) : SinkI f n i0 := by
  by_cases e : p = i0
  · subst e
    refine ⟨fun k k0 kn kp => ?_, h.b⟩
    by_cases e1 : k = p
    · subst e1; rcases hend with h1 | h1; omega; exact h1
    · exact h.a k k0 kn e1 kp
  · have all : ∀ k, 0 < k → k < n → f ((k - 1) / 2) ≤ f k := fun k k0 kn => by
      by_cases e1 : k = p
      · subst e1; rcases hend with h1 | h1; omega; exact h1
      · by_cases e2 : (k - 1) / 2 = p
        · rw [e2]; exact h.c e k k0 kn e2
        · exact h.a k k0 kn e1 e2
    refine ⟨fun k k0 kn _ => all k k0 kn, fun i0p k k0 kn kp => ?_⟩
    have h1 := all k k0 kn
    have h2 := all i0 i0p (by omega)
    rw [kp] at h1
    omega

theorem SinkI.rise {f : Nat → Int} {n p : Nat} (a : ∀ k, 0 < k → k < n → k ≠ p → (k - 1) / 2 ≠ p → f ((k - 1) / 2) ≤ f k) (b : 0 < p → ∀ k, 0 < k → k < n → (k - 1) / 2 = p → f ((p - 1) / 2) ≤ f k) : RiseI f n p p :=
  ⟨a, b, fun h => absurd rfl h⟩

theorem SinkI.step {f : Nat → Int} {n p c : Nat} (h : SinkI f n p) (hc : (c - 1) / 2 = p) (c0 : 0 < c) (cn : c < n) (hlt : f c < f p) (hmin : ∀ k, 0 < k → k < n → (k - 1) / 2 = p → f c ≤ f k) :
    SinkI (sw f p c) n c := by
  have hpc : p < c := by omega
  refine ⟨fun k k0 kn kp => ?_, fun _ k k0 kn kp => ?_⟩
  · unfold sw
    rw [if_neg kp]
    by_cases e1 : (k - 1) / 2 = p
    · rw [if_pos e1]
      by_cases e2 : k = c
      · rw [if_pos e2]; omega
      · rw [if_neg e2]
        have : ¬ k = p := by omega
        rw [if_neg this]
        exact hmin k k0 kn e1
    · rw [if_neg e1]
      have e2 : ¬ k = c := fun e => e1 (e ▸ hc)
      rw [if_neg e2]
      by_cases e3 : k = p
      · rw [if_pos e3]; subst e3; exact h.b k0 c c0 cn hc
      · rw [if_neg e3]; exact h.a k k0 kn e1
  · unfold sw
    rw [hc]
    have h1 : ¬ p = c := by omega
    rw [if_neg h1, if_pos rfl]
    have h2 : ¬ k = c := by omega
    have h3 : ¬ k = p := by omega
    rw [if_neg h2, if_neg h3]
    have := h.a k k0 kn (by omega)
    rw [kp] at this
    exact this

theorem SinkI.fin {f : Nat → Int} {n p : Nat} (h : SinkI f n p) (hend : ∀ k, 0 < k → k < n → (k - 1) / 2 = p → f p ≤ f k) : Ord f n := fun k k0 kn => by
  by_cases e : (k - 1) / 2 = p
  · rw [e]; exact hend k k0 kn e
  · exact h.a k k0 kn e

theorem Ord.least {f : Nat → Int} {n : Nat} (h : Ord f n) : ∀ k, k < n → f 0 ≤ f k := by
  intro k
  induction k using Nat.strongRecOn with
  | _ k ih =>
    intro hk
    by_cases e : k = 0
    · subst e; exact Int.le_refl _
    · have h1 := h k (by omega) hk
      have h2 := ih ((k - 1) / 2) (by omega) (by omega)
      omega

def fOf (bg : Nat → Int) (hl : List Nat) (k : Nat) : Int := bg (hl.getD k 0)

theorem fOf_swap (bg : Nat → Int) (hl : List Nat) (i j : Nat) (hi : i < hl.length) (hj : j < hl.length) : fOf bg (swapL hl i j) = sw (fOf bg hl) i j := by
  funext k
  unfold fOf sw
  have := swapL_get hl i j k hi hj
  simp only [List.getD_eq_getElem?_getD, this]
  split
  · rfl
  · split <;> rfl

end Go.Proofs.YthfimgeopciiiaaGreat
