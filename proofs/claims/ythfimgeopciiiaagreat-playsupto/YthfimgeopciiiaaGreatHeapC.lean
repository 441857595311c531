/-
  The heap's functions: which is less, which below is the lesser, rising, sinking, the top.
-/
import Derived.Test.YthfimgeopciiiaaGreatHeapP
import Derived.Maps.AppendAt
namespace Go.Proofs.YthfimgeopciiiaaGreat
open Go.MapKept Go.ChangeMaps Go.Maps Go.RowKit

theorem HeapIs.drewN {w : World} {v : Value} {hl : List Nat} {bg : Nat → Int} (h : HeapIs w v hl bg) (n : Nat) : HeapIs (w.drewN n) v hl bg := ⟨h.sl, h.nd, h.ne, h.tb, h.len⟩
theorem Moved.drewN {v : Value} {T : List Nat} {a b : World} (h : Moved v T a b) (n : Nat) : Moved v T a (b.drewN n) :=
  ⟨⟨h.keeps.os, h.keeps.tape, h.keeps.output, h.keeps.size, h.keeps.block⟩, h.size, h.recs⟩
theorem Moved.refl (v : Value) (T : List Nat) (w : World) : Moved v T w w :=
  ⟨Keeps.refl _ _, rfl, fun _ _ _ n hcs hn => ⟨n, by rw [seven_self hn]; exact hcs⟩⟩

theorem Moved.cell {v : Value} {T : List Nat} {a b : World} (h : Moved v T a b) {qb qo : Nat} {x : Value} (hc : a.cell? ⟨qb, qo, none⟩ = some x) (hq : qb ∉ T) (hv : v.ownBlock ≠ some qb) : b.cell? ⟨qb, qo, none⟩ = some x :=
  (h.keeps.cell (World.block_lt_of_cell? _ _ hc) (fun e => by rcases e with e | e; exact hv e; exact hq e)).trans hc

/-- What the walks want of the heap's list. -/
theorem HeapIs.at {w : World} {v : Value} {hl : List Nat} {bg : Nat → Int} (H : HeapIs w v hl bg) (hn : hl ≠ []) :
    ∃ g cap, v = .slice (some ⟨g, 0, none⟩) hl.length cap ∧ hl.length ≤ cap ∧ ∀ i, i < hl.length → ∃ t, hl[i]? = some t ∧ w.cell? ⟨g, i, none⟩ = some (.pointer (some ⟨t, 0, none⟩)) ∧ w.cell? ⟨t, 1, none⟩ = some (.int .i64 (fOf bg hl i)) ∧ w.frozen? ⟨g, i, none⟩ = false := by
  obtain ⟨g, cap, cur, rfl, hg, hcap, hmax, hcs, htake⟩ := H.sl.row hn
  refine ⟨g, cap, rfl, hcap, fun i hi => ?_⟩
  have ht : hl[i]? = some hl[i] := List.getElem?_eq_getElem hi
  obtain ⟨cs, h1, h2, h3, h4⟩ := H.tb i _ ht
  have hf : fOf bg hl i = bg hl[i] := by simp [fOf, List.getD_eq_getElem?_getD, ht]
  exact ⟨_, ht, by rw [cell_of_heap hg]; exact row_get htake ht, by rw [cell_of_heap h1, h3, hf], frozen_of_heap hg⟩

set_option maxRecDepth 100000 in
set_option maxHeartbeats 1000000 in
theorem isLess_walk (qb qo hb n cap i j ti tj : Nat) (bi bj : Int) (w : World) (hi : i < n) (hj : j < n) (_hn : n < 100000)
    (c0 : w.cell? ⟨qb, qo, none⟩ = some (.slice (some ⟨hb, 0, none⟩) n cap))
    (ci : w.cell? ⟨hb, i, none⟩ = some (.pointer (some ⟨ti, 0, none⟩))) (cj : w.cell? ⟨hb, j, none⟩ = some (.pointer (some ⟨tj, 0, none⟩)))
    (di : w.cell? ⟨ti, 1, none⟩ = some (.int .i64 bi)) (dj : w.cell? ⟨tj, 1, none⟩ = some (.int .i64 bj)) :
    Calls Tryz.prog 202 #[.pointer (some ⟨qb, qo, none⟩), .int .i64 i, .int .i64 j] w fun e w' => e = .returned (.bool (decide (bi < bj))) ∧ ∃ m, w' = w.drewN m := by
  have hi' : (i : Int) < (n : Int) := by omega
  have hj' : (j : Int) < (n : Int) := by omega
  go_enter Tryz.func202, Tryz.ntmps202
  go_wp2
  go_quiet (fail)
  go_wp2
  go_ret
  exact ⟨rfl, _, rfl⟩

theorem isLess_h (qb qo : Nat) (v : Value) (hl : List Nat) (bg : Nat → Int) (w : World) (cq : w.cell? ⟨qb, qo, none⟩ = some v) (H : HeapIs w v hl bg) (i j : Nat) (hi : i < hl.length) (hj : j < hl.length) :
    Calls Tryz.prog 202 #[.pointer (some ⟨qb, qo, none⟩), .int .i64 i, .int .i64 j] w fun e w' => e = .returned (.bool (decide (fOf bg hl i < fOf bg hl j))) ∧ ∃ m, w' = w.drewN m := by
  obtain ⟨g, cap, rfl, hcap, hat⟩ := H.at (fun e => by subst e; simp at hi)
  obtain ⟨ti, _, ci, bi, _⟩ := hat i hi
  obtain ⟨tj, _, cj, bj, _⟩ := hat j hj
  exact isLess_walk qb qo g hl.length cap i j ti tj _ _ w hi hj (by have := H.len; omega) cq ci cj bi bj

theorem HeapIs.len_cell {v : Value} {hl : List Nat} {bg : Nat → Int} {w : World} (H : HeapIs w v hl bg) : ∃ a cap, v = .slice a hl.length cap := by
  rcases H.sl.2 with ⟨e, h0⟩ | ⟨g, cap, _, e, _⟩
  · exact ⟨none, 0, by rw [e, h0]⟩
  · exact ⟨_, _, e⟩

def lesser (f : Nat → Int) (n p : Nat) : Nat := if 2 * p + 2 < n ∧ f (2 * p + 2) < f (2 * p + 1) then 2 * p + 2 else 2 * p + 1

set_option maxRecDepth 100000 in
set_option maxHeartbeats 1000000 in
theorem lesserBelow_h (qb qo : Nat) (v : Value) (hl : List Nat) (bg : Nat → Int) (w : World) (cq : w.cell? ⟨qb, qo, none⟩ = some v) (H : HeapIs w v hl bg) (p : Nat) (hp : p ≤ 1000) :
    Calls Tryz.prog 220 #[.pointer (some ⟨qb, qo, none⟩), .int .i64 p] w fun e w' => e = .returned (.int .i64 (lesser (fOf bg hl) hl.length p)) ∧ ∃ m, w' = w.drewN m := by
  obtain ⟨a, cap, rfl⟩ := H.len_cell
  have hlen := H.len
  by_cases h2 : 2 * p + 2 < hl.length
  · have h2' : (2 * (p : Int) + 2) < (hl.length : Int) := by omega
    have hc := isLess_h qb qo _ hl bg w cq H (2 * p + 2) (2 * p + 1) h2 (by omega)
    have e1 : ((2 * p + 2 : Nat) : Int) = 2 * (p : Int) + 2 := by omega
    have e2 : ((2 * p + 1 : Nat) : Int) = 2 * (p : Int) + 1 := by omega
    rw [e1, e2] at hc
    clear e1 e2
    by_cases hlt : fOf bg hl (2 * p + 2) < fOf bg hl (2 * p + 1)
    · have hr : lesser (fOf bg hl) hl.length p = 2 * p + 2 := if_pos ⟨h2, hlt⟩
      have HR : Hid (lesser (fOf bg hl) hl.length p = 2 * p + 2) := hr
      rw [decide_eq_true hlt] at hc
      have HC := hidC hc
      clear hc hr hlt H
      go_enter Tryz.func220, Tryz.ntmps220
      go_wp2_with (go_at_call 202; refine (HC.out).mono ?_; rintro e w' ⟨rfl, m, rfl⟩)
      go_ret
      exact ⟨by rw [HR.out]; exact ret_int (by omega), _, rfl⟩
    · have hr : lesser (fOf bg hl) hl.length p = 2 * p + 1 := if_neg (fun h => hlt h.2)
      have HR : Hid (lesser (fOf bg hl) hl.length p = 2 * p + 1) := hr
      rw [decide_eq_false hlt] at hc
      have HC := hidC hc
      clear hc hr hlt H
      go_enter Tryz.func220, Tryz.ntmps220
      go_wp2_with (go_at_call 202; refine (HC.out).mono ?_; rintro e w' ⟨rfl, m, rfl⟩)
      go_ret
      exact ⟨by rw [HR.out]; exact ret_int (by omega), _, rfl⟩
  · have h2' : ¬ (2 * (p : Int) + 2) < (hl.length : Int) := by omega
    have hr : lesser (fOf bg hl) hl.length p = 2 * p + 1 := if_neg (fun h => h2 h.1)
    have HR : Hid (lesser (fOf bg hl) hl.length p = 2 * p + 1) := hr
    clear hr H
    go_enter Tryz.func220, Tryz.ntmps220
    go_wp2
    go_ret
    exact ⟨by rw [HR.out]; exact ret_int (by omega), 0, rfl⟩

set_option maxRecDepth 100000 in
set_option maxHeartbeats 1000000 in
theorem rise_h (qb qo : Nat) (v : Value) (hl : List Nat) (bg : Nat → Int) (w : World) (cq : w.cell? ⟨qb, qo, none⟩ = some v) (H : HeapIs w v hl bg) (hq : qb ∉ hl) (hqv : v.ownBlock ≠ some qb)
    (i0 : Nat) (hi : i0 < hl.length) (hI : RiseI (fOf bg hl) hl.length i0 i0) :
    Calls Tryz.prog 152 #[.pointer (some ⟨qb, qo, none⟩), .int .i64 i0] w fun e w' => e = .returned (.tuple #[]) ∧
      ∃ hl', HeapIs w' v hl' bg ∧ hl'.Perm hl ∧ Moved v hl w w' ∧ SinkI (fOf bg hl') hl.length i0 := by
  have hlen := H.len
  go_enter Tryz.func152, Tryz.ntmps152
  go_wp2
  go_loopw [1] (fun i wr => ∃ p : Nat, i = .int .i64 p ∧ p ≤ i0 ∧ ∃ hl', HeapIs wr v hl' bg ∧ hl'.Perm hl ∧ Moved v hl w wr ∧ RiseI (fOf bg hl') hl.length p i0) (fun i _ => (intOf i).toNat)
  case atStart => exact ⟨i0, rfl, Nat.le_refl _, hl, H, List.Perm.refl _, Moved.refl _ _ _, hI⟩
  case round =>
    obtain ⟨p, rfl, hp, hl', H', hperm, hmv, hR⟩ := hrel
    have hL := hperm.length_eq
    have cq' : wr.cell? ⟨qb, qo, none⟩ = some v := hmv.cell cq hq hqv
    have hq' : qb ∉ hl' := fun e => hq (hperm.mem_iff.1 e)
    by_cases h0 : p = 0
    · subst h0
      go_wp2
      go_end0
      exact ⟨rfl, hl', H', hperm, hmv, hR.fin (.inl rfl)⟩
    · have h0' : 0 < (p : Int) := by omega
      have hc := isLess_h qb qo v hl' bg wr cq' H' p ((p - 1) / 2) (by omega) (by omega)
      have e1 : (((p - 1) / 2 : Nat) : Int) = ((p : Int) - 1) / 2 := by omega
      by_cases hlt : fOf bg hl' p < fOf bg hl' ((p - 1) / 2)
      · have hsw := fun m => swap_h qb qo v hl' bg (wr.drewN m) cq' (H'.drewN m) hq' hqv p ((p - 1) / 2) (by omega) (by omega)
        rw [decide_eq_true hlt] at hc
        rw [e1] at hc
        simp only [e1] at hsw
        have HC := hidC hc
        have HS : Hid (∀ m, Calls Tryz.prog 200 #[.pointer (some ⟨qb, qo, none⟩), .int .i64 p, .int .i64 (((p : Int) - 1) / 2)] (wr.drewN m) fun e w' => e = .returned (.tuple #[]) ∧ HeapIs w' v (swapL hl' p ((p - 1) / 2)) bg ∧ Moved v hl' (wr.drewN m) w') := hsw
        have HT : Hid (fOf bg hl' p < fOf bg hl' ((p - 1) / 2)) := hlt
        have HE : Hid ((((p - 1) / 2 : Nat) : Int) = ((p : Int) - 1) / 2) := e1
        clear hc hsw hlt e1
        go_wp2_with (go_at_call 202; refine (HC.out).mono ?_; rintro e w' ⟨rfl, m, rfl⟩)
        refine (HS.out _).mono ?_
        rintro e w' ⟨rfl, H2, hmv2⟩
        go_wp2
        have hmv3 : Moved v hl w w' := (hmv.drewN _).trans hmv2 (fun t => hperm.mem_iff)
        have hp3 := (swapL_perm hl' p ((p - 1) / 2) (by omega) (by omega)).trans hperm
        have hR3 := hR.step (by omega) (by omega) hp HT.out
        rw [← fOf_swap bg hl' p ((p - 1) / 2) (by omega) (by omega)] at hR3
        go_roundw
        case rel => exact ⟨(p - 1) / 2, by rw [HE.out], by omega, _, H2, hp3, hmv3, hR3⟩
        case measure => simp [intOf]; omega
      · rw [decide_eq_false hlt] at hc
        rw [e1] at hc
        have HC := hidC hc
        clear hc e1
        go_wp2_with (go_at_call 202; refine (HC.out).mono ?_; rintro e w' ⟨rfl, m, rfl⟩)
        refine bodyPost_ret (results_none rfl _ _ _) rfl ?_
        exact ⟨rfl, hl', H'.drewN _, hperm, hmv.drewN _, hR.fin (.inr (by omega))⟩

theorem lesser_le (f : Nat → Int) (n p : Nat) : 2 * p + 1 ≤ lesser f n p ∧ lesser f n p ≤ 2 * p + 2 ∧ (lesser f n p - 1) / 2 = p := by
  unfold lesser; split <;> omega

theorem lesser_min (f : Nat → Int) (n p : Nat) : ∀ k, 0 < k → k < n → (k - 1) / 2 = p → f (lesser f n p) ≤ f k := by
  intro k k0 kn kp
  unfold lesser at *
  have hk : k = 2 * p + 1 ∨ k = 2 * p + 2 := by omega
  split
  · rename_i h1; rcases hk with rfl | rfl <;> omega
  · rename_i h1
    rcases hk with rfl | rfl
    · omega
    · have : ¬ f (2 * p + 2) < f (2 * p + 1) := fun h => h1 ⟨kn, h⟩
      omega

theorem lesser_none (f : Nat → Int) (n p : Nat) (h : ¬ lesser f n p < n) : ∀ k, 0 < k → k < n → (k - 1) / 2 = p → f p ≤ f k := by
  intro k k0 kn kp
  unfold lesser at h
  split at h <;> omega

set_option maxRecDepth 100000 in
set_option maxHeartbeats 1000000 in
theorem sink_h (qb qo : Nat) (v : Value) (hl : List Nat) (bg : Nat → Int) (w : World) (cq : w.cell? ⟨qb, qo, none⟩ = some v) (H : HeapIs w v hl bg) (hq : qb ∉ hl) (hqv : v.ownBlock ≠ some qb)
    (i0 : Nat) (hi : i0 < hl.length) (hI : SinkI (fOf bg hl) hl.length i0) :
    Calls Tryz.prog 201 #[.pointer (some ⟨qb, qo, none⟩), .int .i64 i0] w fun e w' => e = .returned (.tuple #[]) ∧
      ∃ hl', HeapIs w' v hl' bg ∧ hl'.Perm hl ∧ Moved v hl w w' ∧ Ord (fOf bg hl') hl.length := by
  have hlen := H.len
  go_enter Tryz.func201, Tryz.ntmps201
  go_wp2
  go_loopw [1] (fun i wr => ∃ p : Nat, i = .int .i64 p ∧ p < hl.length ∧ ∃ hl', HeapIs wr v hl' bg ∧ hl'.Perm hl ∧ Moved v hl w wr ∧ SinkI (fOf bg hl') hl.length p) (fun i _ => hl.length - (intOf i).toNat)
  case atStart => exact ⟨i0, rfl, hi, hl, H, List.Perm.refl _, Moved.refl _ _ _, hI⟩
  case round =>
    obtain ⟨p, rfl, hp, hl', H', hperm, hmv, hR⟩ := hrel
    have hL := hperm.length_eq
    have cq' : wr.cell? ⟨qb, qo, none⟩ = some v := hmv.cell cq hq hqv
    have hq' : qb ∉ hl' := fun e => hq (hperm.mem_iff.1 e)
    obtain ⟨av, cap, hv⟩ := H'.len_cell
    have hcv : wr.cell? ⟨qb, qo, none⟩ = some (.slice av hl'.length cap) := by rw [cq', hv]
    have HL := hidC (lesserBelow_h qb qo v hl' bg wr cq' H' p (by omega))
    obtain ⟨c1, c2, c3⟩ := lesser_le (fOf bg hl') hl'.length p
    by_cases hc : lesser (fOf bg hl') hl'.length p < hl'.length
    · have hmin := lesser_min (fOf bg hl') hl'.length p
      generalize lesser (fOf bg hl') hl'.length p = c at *
      have hc' : (c : Int) < (hl'.length : Int) := by omega
      have hle := fun m => isLess_h qb qo v hl' bg (wr.drewN m) cq' (H'.drewN m) c p hc (by omega)
      by_cases hlt : fOf bg hl' c < fOf bg hl' p
      · simp only [decide_eq_true hlt] at hle
        have HC : Hid (∀ m, Calls Tryz.prog 202 #[.pointer (some ⟨qb, qo, none⟩), .int .i64 c, .int .i64 p] (wr.drewN m) fun e w' => e = .returned (.bool true) ∧ ∃ m', w' = (wr.drewN m).drewN m') := hle
        have HS : Hid (∀ m, Calls Tryz.prog 200 #[.pointer (some ⟨qb, qo, none⟩), .int .i64 p, .int .i64 c] (wr.drewN m) fun e w' => e = .returned (.tuple #[]) ∧ HeapIs w' v (swapL hl' p c) bg ∧ Moved v hl' (wr.drewN m) w') :=
          fun m => swap_h qb qo v hl' bg (wr.drewN m) cq' (H'.drewN m) hq' hqv p c (by omega) hc
        have hR3 := hR.step c3 (by omega) (by omega) hlt (by rw [← hL]; exact hmin)
        rw [← fOf_swap bg hl' p c (by omega) hc] at hR3
        clear hle hlt hmin hv cq'
        go_wp2_with (first | (go_at_call 220; refine (HL.out).mono ?_; rintro e w' ⟨rfl, m, rfl⟩) | (go_at_call 202; refine (HC.out _).mono ?_; rintro e w' ⟨rfl, m', rfl⟩) | (go_at_call 200; refine (HS.out _).mono ?_; rintro e w' ⟨rfl, H2, hmv2⟩))
        have hmv3 : Moved v hl w w' := (hmv.drewN _).trans hmv2 (fun t => hperm.mem_iff)
        have hp3 := (swapL_perm hl' p c (by omega) hc).trans hperm
        exact ⟨⟨c, rfl, by omega, _, H2, hp3, hmv3, hR3⟩, by simp [intOf]; omega⟩
      · simp only [decide_eq_false hlt] at hle
        have HC : Hid (∀ m, Calls Tryz.prog 202 #[.pointer (some ⟨qb, qo, none⟩), .int .i64 c, .int .i64 p] (wr.drewN m) fun e w' => e = .returned (.bool false) ∧ ∃ m', w' = (wr.drewN m).drewN m') := hle
        have hO : Ord (fOf bg hl') hl.length := hR.fin (fun k k0 kn kp => by have := hmin k k0 (by omega) kp; omega)
        clear hle hlt hmin hv cq'
        go_wp2_with (first | (go_at_call 220; refine (HL.out).mono ?_; rintro e w' ⟨rfl, m, rfl⟩) | (go_at_call 202; refine (HC.out _).mono ?_; rintro e w' ⟨rfl, m', rfl⟩))
        refine bodyPost_ret (results_none rfl _ _ _) rfl ?_
        exact ⟨rfl, hl', H'.drewN _, hperm, hmv.drewN _, hO⟩
    · have hnone := lesser_none (fOf bg hl') hl'.length p hc
      generalize lesser (fOf bg hl') hl'.length p = c at *
      have hc' : (hl'.length : Int) ≤ (c : Int) := by omega
      have hO : Ord (fOf bg hl') hl.length := hR.fin (fun k k0 kn kp => hnone k k0 (by omega) kp)
      clear hnone hv cq'
      go_wp2_with (first | (go_at_call 220; refine (HL.out).mono ?_; rintro e w' ⟨rfl, m, rfl⟩))
      refine bodyPost_ret (results_none rfl _ _ _) rfl ?_
      exact ⟨rfl, hl', H'.drewN _, hperm, hmv.drewN _, hO⟩

set_option maxHeartbeats 400000 in
theorem top_none (b o : Nat) (w : World) (a : Option Addr) (cap : Nat) (h : w.cell? ⟨b, o, none⟩ = some (.slice a 0 cap)) :
    Calls Tryz.prog 141 #[.pointer (some ⟨b, o, none⟩)] w fun e w' => e = .returned (.tuple #[.pointer none, .bool false]) ∧ w' = w := by
  go_enter Tryz.func141, Tryz.ntmps141
  go_wp2
  go_ret2
  exact ⟨rfl, rfl⟩

set_option maxHeartbeats 400000 in
theorem top_some (b o hb n c : Nat) (v : Option Addr) (w : World) (h : w.cell? ⟨b, o, none⟩ = some (.slice (some ⟨hb, 0, none⟩) n c)) (h0 : 0 < n)
    (hv : w.cell? ⟨hb, 0, none⟩ = some (.pointer v)) :
    Calls Tryz.prog 141 #[.pointer (some ⟨b, o, none⟩)] w fun e w' => e = .returned (.tuple #[.pointer v, .bool true]) ∧ w' = w := by
  have h1 : ((n : Int) == 0) = false := by simp; omega
  go_enter Tryz.func141, Tryz.ntmps141
  go_wp2
  go_ret2
  exact ⟨rfl, rfl⟩

end Go.Proofs.YthfimgeopciiiaaGreat

/-
  The heap: one more joins; one is taken out.
-/
namespace Go.Proofs.YthfimgeopciiiaaGreat
open Go.MapKept Go.ChangeMaps Go.Maps Go.RowKit

theorem info_ptxn : (Tryz.prog.info? 168).map (fun i => (i.zero, i.size, i.bytes)) = some (some (.pointer none), 1, 8) := by kernel_rfl

/-- What the heap's functions leave of a store: its own field, the heap's row, the places. -/
structure HeapTurn (qb qo : Nat) (v v' : Value) (T : List Nat) (w w' : World) : Prop where
  keeps : Keeps (fun b => v.ownBlock = some b ∨ b ∈ T ∨ b = qb) w w'
  recs : ∀ t ∈ T, ∀ cs (n : Int), w.heap[t]? = some (.cells cs 174) → cs[7]? = some (.int .i64 n) → ∃ p : Int, w'.heap[t]? = some (.cells (cs.setIfInBounds 7 (.int .i64 p)) 174)
  own : ∀ cs ty, w.heap[qb]? = some (.cells cs ty) → w'.heap[qb]? = some (.cells (cs.setIfInBounds qo v') ty)
  lies : v'.ownBlock = v.ownBlock ∨ ∃ g, v'.ownBlock = some g ∧ w.heap.size ≤ g ∧ g < w'.heap.size

theorem keeps_of_grown {w w' : World} {row : Option Nat} (h : w.grownBy w' row) : Keeps (fun b => row = some b) w w' :=
  ⟨h.os, h.tape, h.output, h.size, fun b hb hn => h.block b hb (fun e => hn e.symm)⟩

theorem cell_oneNew (w : World) (x : Value) (t : TypeId) : ∀ j u, [x][j]? = some u → (w.alloc (.cells #[x] t)).cell? ((⟨w.heap.size, 0, none⟩ : Addr).add j) = some u := by
  intro j u h
  match j, h with
  | 0, h => simp at h; subst h; simp [Addr.add]
  | j + 1, h => simp at h

set_option maxRecDepth 100000 in
set_option maxHeartbeats 1000000 in
theorem add_h (qb qo t : Nat) (v : Value) (hl : List Nat) (bg : Nat → Int) (w : World) (qc : Array Value) (qt : TypeId) (p0 : Int) (hqb : w.heap[qb]? = some (.cells qc qt)) (cq : qc[qo]? = some v) (H : HeapIs w v hl bg) (hO : Ord (fOf bg hl) hl.length)
    (hq : qb ∉ hl) (hqv : v.ownBlock ≠ some qb) (ht : TB w t (bg t) p0) (htn : t ∉ hl) (htv : v.ownBlock ≠ some t) (htq : t ≠ qb) (hlt : hl.length < 1000) :
    Calls Tryz.prog 95 #[.pointer (some ⟨qb, qo, none⟩), .pointer (some ⟨t, 0, none⟩)] w fun e w' => e = .returned (.tuple #[]) ∧
      ∃ v' hl', HeapIs w' v' hl' bg ∧ hl'.Perm (hl ++ [t]) ∧ Ord (fOf bg hl') hl'.length ∧ HeapTurn qb qo v v' (hl ++ [t]) w w' := by
  obtain ⟨i0, hi0, hz0, hz1, hz2⟩ := info_parts info_ptxn
  obtain ⟨cs, hcs, s8, c1, c7⟩ := ht
  obtain ⟨av, cap, hv⟩ := H.len_cell
  have hqlt := lt_of_heap hqb
  have htlt := lt_of_heap hcs
  have q0 : w.cell? ⟨qb, qo, none⟩ = some (.slice av hl.length cap) := by rw [cell_of_heap hqb, cq, hv]
  have t7 : w.cell? ⟨t, 7, none⟩ = some (.int .i64 p0) := by rw [cell_of_heap hcs, c7]
  have f7 : w.frozen? ⟨t, 7, none⟩ = false := frozen_of_heap hcs
  have hsl : (w.setCell ⟨t, 7, none⟩ (.int .i64 hl.length)).ownsRow 0 168 1 (.slice av hl.length cap) hl.length (hl.map ptrTo) := by
    rw [← hv]
    refine H.sl.kept (row := some t) ⟨rfl, rfl, rfl, by simp, fun k _ hk => heap_setCell_other _ _ _ (fun e => hk (by rw [e]))⟩ ?_
    by_cases e : v.ownBlock = none
    · exact .inl e
    · exact .inr htv
  go_enter Tryz.func95, Tryz.ntmps95
  go_wp2_with (first
    | (at_builtin; refine wpList_append_own_at _ rfl _ _ 129 rfl 0 168 i0 (.pointer none) 1 8 Tryz.underlying129 hi0 hz0 hz1 hz2 rfl (by decide) _ _ _ rfl (hsl.alloc _) ⟨w.heap.size, 0, none⟩ 1 1 [ptrTo t] rfl rfl ?_ ?_ ?_ ?_ ?_ ?_)
    | fail)
  · intro j u hu
    have := cell_oneNew (w.setCell ⟨t, 7, none⟩ (.int .i64 hl.length)) (ptrTo t) 168 j u hu
    simpa [ptrTo] using this
  · intro u hu; simp only [List.mem_singleton] at hu; subst hu; rfl
  · unfold maxLen; omega
  · omega
  · omega
  intro v' w1 hown' hgrow hnil hloc
  have k1 := keeps_of_grown hgrow
  rw [← hv] at k1 hloc
  have hA : ∀ b, b < w.heap.size → b ≠ t → ((w.setCell ⟨t, 7, none⟩ (.int .i64 hl.length)).alloc (.cells #[.pointer (some ⟨t, 0, none⟩)] 168)).heap[b]? = w.heap[b]? := fun b hb hne => by
    rw [heap_alloc_old _ _ (by simpa using hb)]; exact heap_setCell_other _ _ _ hne
  have hAt : ((w.setCell ⟨t, 7, none⟩ (.int .i64 hl.length)).alloc (.cells #[.pointer (some ⟨t, 0, none⟩)] 168)).heap[t]? = some (.cells (cs.setIfInBounds 7 (.int .i64 hl.length)) 174) := by
    rw [heap_alloc_old _ _ (by simpa using htlt)]; exact heap_setCell_same hcs
  have sA : ((w.setCell ⟨t, 7, none⟩ (.int .i64 hl.length)).alloc (.cells #[.pointer (some ⟨t, 0, none⟩)] 168)).heap.size = w.heap.size + 1 := by simp
  have kA : Keeps (fun b => b = t) w ((w.setCell ⟨t, 7, none⟩ (.int .i64 hl.length)).alloc (.cells #[.pointer (some ⟨t, 0, none⟩)] 168)) := ⟨rfl, rfl, rfl, by omega, fun b hb hne => hA b hb hne⟩
  generalize ((w.setCell ⟨t, 7, none⟩ (.int .i64 hl.length)).alloc (.cells #[.pointer (some ⟨t, 0, none⟩)] 168)) = wA at *
  have hvn : v' ≠ .slice none 0 0 := hnil
  obtain ⟨g, cap', hv'⟩ : ∃ g cap', v' = .slice (some ⟨g, 0, none⟩) (hl.length + 1) cap' := by
    rcases hown'.2 with ⟨e, _⟩ | ⟨g, c, _, e, _⟩
    · exact absurd e hvn
    · exact ⟨g, c, e⟩
  have h1 : ∀ b, b < w.heap.size → b ≠ t → v.ownBlock ≠ some b → w1.heap[b]? = w.heap[b]? := fun b hb hne hnv => (k1.block b (by omega) hnv).trans (hA b hb hne)
  have h1t : w1.heap[t]? = some (.cells (cs.setIfInBounds 7 (.int .i64 hl.length)) 174) := (k1.block t (by omega) htv).trans hAt
  have h1q : w1.heap[qb]? = some (.cells qc qt) := (h1 qb hqlt (Ne.symm htq) hqv).trans hqb
  have r1 : w1.cell? ⟨qb, qo, none⟩ = some v := by rw [cell_of_heap h1q, cq]
  have r2 : w1.frozen? ⟨qb, qo, none⟩ = false := frozen_of_heap h1q
  have r3 : w1.cell? ⟨t, 7, none⟩ = some (.int .i64 hl.length) := by rw [cell_of_heap h1t]; simp [s8]
  have hlen1 : (hl ++ [t]).length = hl.length + 1 := by simp
  have hmap1 : (hl ++ [t]).map ptrTo = hl.map ptrTo ++ [ptrTo t] := by simp
  have sz1 := k1.size
  have gq : g ≠ qb := fun e => by
    rcases hloc with h | h
    · rw [hv'] at h; exact hqv (by rw [← h, ← e]; rfl)
    · rw [hv'] at h; simp [Value.ownBlock] at h; omega
  have gt : g ≠ t := fun e => by
    rcases hloc with h | h
    · rw [hv'] at h; exact htv (by rw [← h, ← e]; rfl)
    · rw [hv'] at h; simp [Value.ownBlock] at h; omega
  have gl : ∀ x ∈ hl, g ≠ x := fun x hx e => by
    rcases hloc with h | h
    · rw [hv'] at h; exact H.ne x hx (by rw [← h, ← e]; rfl)
    · rw [hv'] at h; simp [Value.ownBlock] at h
      obtain ⟨j, hj⟩ := List.getElem?_of_mem hx
      obtain ⟨_, hc, _⟩ := H.tb j x hj
      have := lt_of_heap hc; omega
  -- the world ahead of the rising
  have HB : HeapIs (w1.setCell ⟨qb, qo, none⟩ v') v' (hl ++ [t]) bg := by
    refine ⟨?_, ?_, ?_, ?_, by rw [hlen1]; omega⟩
    · rw [PSl, hlen1, hmap1]
      refine hown'.kept (row := some qb) ⟨rfl, rfl, rfl, by simp, fun k _ hk => heap_setCell_other _ _ _ (fun e => hk (by rw [e]))⟩ (.inr ?_)
      rw [hv']; simpa [Value.ownBlock] using gq
    · rw [List.nodup_append]; exact ⟨H.nd, by simp, fun a ha b hb => by simp at hb; subst hb; exact fun e => htn (e ▸ ha)⟩
    · intro x hx
      rw [hv']
      simp only [List.mem_append, List.mem_singleton] at hx
      rcases hx with hx | rfl
      · simpa [Value.ownBlock] using gl x hx
      · simpa [Value.ownBlock] using gt
    · intro i x hx
      rw [List.getElem?_append] at hx
      split at hx
      · rename_i hi
        have hm := List.mem_of_getElem? hx
        obtain ⟨c, hc, r⟩ := H.tb i x hx
        refine ⟨c, ?_, r⟩
        rw [heap_setCell_other _ _ _ (fun e => hq (by rw [← show x = qb from e]; exact hm)), h1 x (lt_of_heap hc) (fun e => htn (e ▸ hm)) (H.ne x hm)]
        exact hc
      · rename_i hi
        have hi' : i = hl.length := by
          by_cases e : i - hl.length = 0
          · omega
          · rw [List.getElem?_eq_none (by simp; omega)] at hx; cases hx
        subst hi'
        simp at hx
        subst hx
        exact ⟨_, by rw [heap_setCell_other _ _ _ (fun e => htq e)]; exact h1t, by simp [s8], by simp [c1], by simp [s8]⟩
  have hqB : qb ∉ hl ++ [t] := by simp; exact ⟨hq, Ne.symm htq⟩
  have hqvB : v'.ownBlock ≠ some qb := by rw [hv']; simpa [Value.ownBlock] using gq
  have cqB : (w1.setCell ⟨qb, qo, none⟩ v').cell? ⟨qb, qo, none⟩ = some v' := World.cell?_setCell_same _ _ _ r1
  have hRB : RiseI (fOf bg (hl ++ [t])) (hl ++ [t]).length hl.length hl.length := by
    have hf : ∀ k, k < hl.length → fOf bg (hl ++ [t]) k = fOf bg hl k := fun k hk => by
      simp [fOf, List.getD_eq_getElem?_getD, List.getElem?_append, hk]
    refine ⟨fun k k0 kn k1 k2 => ?_, fun _ k k0 kn kp => ?_, fun h => absurd rfl h⟩
    · rw [hlen1] at kn
      rw [hf k (by omega), hf _ (by omega)]
      exact hO k k0 (by omega)
    · rw [hlen1] at kn; omega
  have HRi := hidC (rise_h qb qo v' (hl ++ [t]) bg _ cqB HB hqB hqvB hl.length (by rw [hlen1]; omega) hRB)
  have HTail : Hid (∀ w2 hl', HeapIs w2 v' hl' bg → hl'.Perm (hl ++ [t]) → Moved v' (hl ++ [t]) (w1.setCell ⟨qb, qo, none⟩ v') w2 → SinkI (fOf bg hl') (hl ++ [t]).length hl.length →
      ∃ v' hl', HeapIs w2 v' hl' bg ∧ hl'.Perm (hl ++ [t]) ∧ Ord (fOf bg hl') hl'.length ∧ HeapTurn qb qo v v' (hl ++ [t]) w w2) := by
    intro w2 hl' H2 hp2 hm2 hs2
    refine ⟨v', hl', H2, hp2, ?_, ?_⟩
    · rw [hp2.length_eq]
      exact hs2.fin (fun k k0 kn kp => by rw [hlen1] at kn; omega)
    · have kB : Keeps (fun b => v.ownBlock = some b ∨ b ∈ hl ++ [t] ∨ b = qb) w (w1.setCell ⟨qb, qo, none⟩ v') :=
        ((kA.mono (S' := fun b => v.ownBlock = some b ∨ b ∈ hl ++ [t] ∨ b = qb) (fun x hx => .inl (.inr (.inl (by simp [hx]))))).trans k1 (fun x hx => .inl (.inl hx))).trans
          (Keeps.setCell (S := fun b => b = qb) w1 ⟨qb, qo, none⟩ v' rfl) (fun x hx => .inl (.inr (.inr hx)))
      have sz2 := hm2.size
      refine ⟨kB.trans hm2.keeps (fun x hx => ?_), ?_, ?_, ?_⟩
      · rcases hx with hx | hx
        · rcases hloc with h | h
          · exact .inl (.inl (by rw [← h]; exact hx))
          · rw [h] at hx; cases hx; exact .inr (by omega)
        · exact .inl (.inr (.inl hx))
      · intro x hx cs' n' hcs' hn'
        by_cases e : x = t
        · subst e
          rw [hcs] at hcs'; cases hcs'
          obtain ⟨p, hp⟩ := hm2.recs x hx _ _ (by rw [heap_setCell_other _ _ _ (fun e => htq e)]; exact h1t) (seven_set c7)
          exact ⟨p, by rw [hp]; simp⟩
        · have hxl : x ∈ hl := by simpa [e] using hx
          exact hm2.recs x hx cs' n' (by rw [heap_setCell_other _ _ _ (fun e' => hq (by rw [← show x = qb from e']; exact hxl)), h1 x (lt_of_heap hcs') e (H.ne x hxl)]; exact hcs') hn'
      · intro cs' ty hcs'
        rw [hqb] at hcs'; cases hcs'
        rw [hm2.keeps.block qb (by simp; omega) (fun e => by rcases e with e | e; exact hqvB e; exact hqB e)]
        exact heap_setCell_same h1q
      · rcases hloc with h | h
        · exact .inl h
        · refine .inr ⟨_, h, by omega, ?_⟩
          have hk := hown'.lt _ h
          rw [sz2]; simp; omega
  clear hRB HB hsl hown' hgrow k1 kA hA hAt h1 h1t h1q H hO q0
  rw [hv'] at *
  go_wp2_with (go_at_call 152; refine (HRi.out).mono ?_; rintro e w2 ⟨rfl, hl2, H2, hp2, hm2, hs2⟩)
  go_end0
  exact ⟨rfl, HTail.out _ _ H2 hp2 hm2 hs2⟩

theorem take_psl {w : World} {g cap : Nat} {cur : Array Value} {hl : List Nat} (n : Nat) (hn : n ≤ hl.length) (hg : w.heap[g]? = some (.cells cur 168)) (h1 : hl.length ≤ cap) (h2 : cap ≤ maxLen) (h3 : cur.size = cap) (h4 : cur.toList.take n = (hl.take n).map ptrTo) :
    PSl w (.slice (some ⟨g, 0, none⟩) n cap) (hl.take n) := by
  have e : (hl.take n).length = n := by simp; omega
  rw [PSl, e]
  exact ⟨by simp; omega, .inr ⟨g, cap, cur, rfl, Nat.zero_le _, hg, by omega, h2, by simpa using h3, by simpa using h4⟩⟩

set_option maxRecDepth 100000 in
set_option maxHeartbeats 1000000 in
theorem remove_h (qb qo t i : Nat) (v : Value) (hl : List Nat) (bg : Nat → Int) (w : World) (qc : Array Value) (qt : TypeId) (hqb : w.heap[qb]? = some (.cells qc qt)) (cq : qc[qo]? = some v) (H : HeapIs w v hl bg) (hO : Ord (fOf bg hl) hl.length)
    (hq : qb ∉ hl) (hqv : v.ownBlock ≠ some qb) (hti : hl[i]? = some t) :
    Calls Tryz.prog 151 #[.pointer (some ⟨qb, qo, none⟩), .pointer (some ⟨t, 0, none⟩)] w fun e w' => e = .returned (.tuple #[]) ∧
      ∃ v' hl', HeapIs w' v' hl' bg ∧ hl.Perm (t :: hl') ∧ Ord (fOf bg hl') hl'.length ∧ HeapTurn qb qo v v' hl w w' := by
  have hne : hl ≠ [] := fun e => by subst e; simp at hti
  obtain ⟨g, cap, cur, rfl, hg, hcap, hmax, hcs, htake⟩ := H.sl.row hne
  have hi : i < hl.length := (List.getElem?_eq_some_iff.1 hti).1
  have hlen := H.len
  obtain ⟨n, hn⟩ : ∃ n, hl.length = n + 1 := ⟨hl.length - 1, by omega⟩
  obtain ⟨tc, htc, s8, c1, c7⟩ := H.tb i t hti
  have tm := List.mem_of_getElem? hti
  have q0 : w.cell? ⟨qb, qo, none⟩ = some (.slice (some ⟨g, 0, none⟩) hl.length cap) := by rw [cell_of_heap hqb, cq]
  have t7 : w.cell? ⟨t, 7, none⟩ = some (.int .i64 i) := by rw [cell_of_heap htc, c7]
  have gq : g ≠ qb := fun e => hqv (by rw [← e]; rfl)
  have HSw : Hid (∀ m, Calls Tryz.prog 200 #[.pointer (some ⟨qb, qo, none⟩), .int .i64 i, .int .i64 n] (w.drewN m) fun e w' => e = .returned (.tuple #[]) ∧ HeapIs w' (.slice (some ⟨g, 0, none⟩) hl.length cap) (swapL hl i n) bg ∧ Moved (.slice (some ⟨g, 0, none⟩) hl.length cap) hl (w.drewN m) w') :=
    fun m => swap_h qb qo _ hl bg (w.drewN m) q0 (H.drewN m) hq hqv i n hi (by omega)
  rw [hn] at q0
  go_enter Tryz.func151, Tryz.ntmps151
  go_wp2
  go_quiet (fail)
  go_wp2_with fail
  refine (HSw.out _).mono ?_
  rintro e w1 ⟨rfl, H1, hm1⟩
  have hn' : n < hl.length := by omega
  have sL : (swapL hl i n).length = n + 1 := by rw [swapL_length, hn]
  have hqlt := lt_of_heap hqb
  obtain ⟨g', cap', cur1, e1, hg1, hcap1, _, hcs1, htake1⟩ := H1.sl.row (fun e => by rw [e] at sL; simp at sL)
  simp only [Value.slice.injEq, Option.some.injEq, Addr.mk.injEq] at e1
  obtain ⟨⟨rfl, _⟩, _, rfl⟩ := e1
  have hq1 : w1.heap[qb]? = some (.cells qc qt) := (hm1.keeps.block qb hqlt (fun e => by rcases e with e | e; exact hqv e; exact hq e)).trans hqb
  have c1q : w1.cell? ⟨qb, qo, none⟩ = some (.slice (some ⟨g, 0, none⟩) (n + 1) cap) := by rw [cell_of_heap hq1, cq, hn]
  have f1q : w1.frozen? ⟨qb, qo, none⟩ = false := frozen_of_heap hq1
  have f1g : w1.frozen? ⟨g, n, none⟩ = false := frozen_of_heap hg1
  obtain ⟨y, hy⟩ : ∃ y, w1.cell? ⟨g, n, none⟩ = some y := by
    rw [cell_of_heap hg1]
    exact ⟨cur1[n]'(by omega), Array.getElem?_eq_getElem (by omega)⟩
  have hcapn : n ≤ cap := by omega
  -- the world behind the cut
  have g2 : ((w1.setCell ⟨g, n, none⟩ (.pointer none)).setCell ⟨qb, qo, none⟩ (.slice (some ⟨g, 0, none⟩) n cap)).heap[g]? = some (.cells (cur1.setIfInBounds n (.pointer none)) 168) := by
    rw [heap_setCell_other _ _ _ gq]; exact heap_setCell_same hg1
  have o2 : ∀ b, b ≠ g → b ≠ qb → ((w1.setCell ⟨g, n, none⟩ (.pointer none)).setCell ⟨qb, qo, none⟩ (.slice (some ⟨g, 0, none⟩) n cap)).heap[b]? = w1.heap[b]? := fun b h1 h2 => by
    rw [heap_setCell_other _ _ _ h2, heap_setCell_other _ _ _ h1]
  have q2 : ((w1.setCell ⟨g, n, none⟩ (.pointer none)).setCell ⟨qb, qo, none⟩ (.slice (some ⟨g, 0, none⟩) n cap)).heap[qb]? = some (.cells (qc.setIfInBounds qo (.slice (some ⟨g, 0, none⟩) n cap)) qt) :=
    heap_setCell_same (by rw [heap_setCell_other _ _ _ (Ne.symm gq)]; exact hq1)
  have s2 : ((w1.setCell ⟨g, n, none⟩ (.pointer none)).setCell ⟨qb, qo, none⟩ (.slice (some ⟨g, 0, none⟩) n cap)).heap.size = w.heap.size := by simp; exact hm1.size
  have k2 : Keeps (fun b => b = g ∨ b ∈ hl ∨ b = qb) w ((w1.setCell ⟨g, n, none⟩ (.pointer none)).setCell ⟨qb, qo, none⟩ (.slice (some ⟨g, 0, none⟩) n cap)) := by
    refine ⟨hm1.keeps.os, hm1.keeps.tape, hm1.keeps.output, by omega, fun b hb hnb => ?_⟩
    simp only [not_or] at hnb
    rw [o2 b hnb.1 hnb.2.2]
    exact hm1.keeps.block b hb (fun e => by rcases e with e | e; exact hnb.1 (by simpa [Value.ownBlock] using e.symm); exact hnb.2.1 e)
  generalize hW : (w1.setCell ⟨g, n, none⟩ (.pointer none)).setCell ⟨qb, qo, none⟩ (.slice (some ⟨g, 0, none⟩) n cap) = W at *
  have hmem : ∀ x, x ∈ (swapL hl i n).take n → x ∈ hl := fun x hx => (swapL_perm hl i n hi hn').mem_iff.1 (List.mem_of_mem_take hx)
  have H2 : HeapIs W (.slice (some ⟨g, 0, none⟩) n cap) ((swapL hl i n).take n) bg := by
    refine ⟨take_psl n (by omega) g2 (by omega) (by assumption) (by simpa using hcs1) ?_, ?_, ?_, ?_, by simp; omega⟩
    · rw [Array.toList_setIfInBounds, List.take_set_of_le (Nat.le_refl _), List.map_take, ← htake1, List.take_take, sL]
      congr 1; omega
    · exact H1.nd.sublist (List.take_sublist _ _)
    · intro x hx; exact H.ne x (hmem x hx)
    · intro k x hx
      rw [List.getElem?_take] at hx
      split at hx
      · obtain ⟨c, hc, r⟩ := H1.tb k x hx
        have hxm := List.mem_of_getElem? hx
        have hxl := (swapL_perm hl i n hi hn').mem_iff.1 hxm
        refine ⟨c, ?_, r⟩
        rw [o2 x (fun e => H.ne x hxl (by rw [e]; rfl)) (fun e => hq (e ▸ hxl))]; exact hc
      · cases hx
  have hf2 : ∀ k, k < n → fOf bg ((swapL hl i n).take n) k = sw (fOf bg hl) i n k := fun k hk => by
    rw [← fOf_swap bg hl i n hi hn']
    simp [fOf, List.getD_eq_getElem?_getD, hk]
  have hsplit : hl.Perm (t :: (swapL hl i n).take n) := by
    refine (swapL_perm hl i n hi hn').symm.trans ?_
    have hlast : (swapL hl i n)[n]? = some t := by rw [swapL_get hl i n n hi hn', if_pos rfl, hti]
    have := List.take_append_drop n (swapL hl i n)
    have hd : (swapL hl i n).drop n = [t] := by
      apply List.ext_getElem?
      intro k
      rw [List.getElem?_drop]
      match k with
      | 0 => simpa using hlast
      | k + 1 => rw [List.getElem?_eq_none (by omega)]; simp
    rw [hd] at this
    exact (List.Perm.of_eq this.symm).trans (List.perm_append_singleton t _)
  have HTail : Hid (∀ w3 hl3, HeapIs w3 (.slice (some ⟨g, 0, none⟩) n cap) hl3 bg → hl3.Perm ((swapL hl i n).take n) → Moved (.slice (some ⟨g, 0, none⟩) n cap) ((swapL hl i n).take n) W w3 → Ord (fOf bg hl3) n →
      ∃ v' hl', HeapIs w3 v' hl' bg ∧ hl.Perm (t :: hl') ∧ Ord (fOf bg hl') hl'.length ∧ HeapTurn qb qo (.slice (some ⟨g, 0, none⟩) hl.length cap) v' hl w w3) := by
    intro w3 hl3 H3 hp3 hm3 hO3
    refine ⟨_, hl3, H3, hsplit.trans (hp3.symm.cons t), ?_, ?_, ?_, ?_, ?_⟩
    · rw [hp3.length_eq]; simp [sL]; exact hO3
    · refine (k2.mono (S' := fun b => (Value.slice (some ⟨g, 0, none⟩) hl.length cap).ownBlock = some b ∨ b ∈ hl ∨ b = qb) (fun x hx => .inl (hx.imp (fun e => by rw [e]; rfl) id))).trans hm3.keeps (fun x hx => .inl ?_)
      rcases hx with hx | hx
      · exact .inl hx
      · exact .inr (.inl (hmem x hx))
    · intro x hx cs n' hcs' hn7
      obtain ⟨p, hp⟩ := hm1.recs x hx cs n' hcs' hn7
      have hpW : W.heap[x]? = some (.cells (cs.setIfInBounds 7 (.int .i64 p)) 174) := by
        rw [o2 x (fun e => H.ne x hx (by rw [e]; rfl)) (fun e => hq (e ▸ hx))]; exact hp
      by_cases hxt : x ∈ (swapL hl i n).take n
      · obtain ⟨p', hp'⟩ := hm3.recs x hxt _ p hpW (seven_set hn7)
        exact ⟨p', by rw [hp']; simp⟩
      · refine ⟨p, ?_⟩
        rw [hm3.keeps.block x (lt_of_heap hpW) (fun e => by rcases e with e | e; exact H.ne x hx e; exact hxt e)]; exact hpW
    · intro cs ty hcs'
      rw [hqb] at hcs'; cases hcs'
      rw [hm3.keeps.block qb (by omega) (fun e => by rcases e with e | e; exact hqv e; exact hq (hmem _ e))]; exact q2
    · exact .inl rfl
  have hqT : qb ∉ (swapL hl i n).take n := fun e => hq (hmem _ e)
  have sT : ((swapL hl i n).take n).length = n := by simp [sL]
  have cW : W.cell? ⟨qb, qo, none⟩ = some (.slice (some ⟨g, 0, none⟩) n cap) := by
    rw [cell_of_heap q2]
    have : qo < qc.size := (Array.getElem?_eq_some_iff.1 cq).1
    simp [this]
  by_cases hin : i < n
  · have hRI : RiseI (fOf bg ((swapL hl i n).take n)) ((swapL hl i n).take n).length i i := by
      rw [sT]
      refine ⟨fun k k0 kn k1 k3 => ?_, fun i0 k k0 kn kp => ?_, fun h => absurd rfl h⟩
      · rw [hf2 k kn, hf2 _ (by omega)]
        unfold sw
        rw [if_neg (by omega), if_neg k3, if_neg (by omega), if_neg k1]
        exact hO k k0 (by omega)
      · rw [hf2 k kn, hf2 _ (by omega)]
        unfold sw
        rw [if_neg (by omega), if_neg (by omega), if_neg (by omega), if_neg (by omega)]
        have h1 := hO k k0 (by omega)
        have h2 := hO i i0 (by omega)
        rw [kp] at h1; omega
    have HRi := hidC (rise_h qb qo _ _ bg W cW H2 hqT hqv i (by omega) hRI)
    have HSi : Hid (∀ w3 hl3, HeapIs w3 (.slice (some ⟨g, 0, none⟩) n cap) hl3 bg → hl3.Perm ((swapL hl i n).take n) → Moved (.slice (some ⟨g, 0, none⟩) n cap) ((swapL hl i n).take n) W w3 → SinkI (fOf bg hl3) ((swapL hl i n).take n).length i →
        Calls Tryz.prog 201 #[.pointer (some ⟨qb, qo, none⟩), .int .i64 i] w3 fun e w' => e = .returned (.tuple #[]) ∧ ∃ v' hl', HeapIs w' v' hl' bg ∧ hl.Perm (t :: hl') ∧ Ord (fOf bg hl') hl'.length ∧ HeapTurn qb qo (.slice (some ⟨g, 0, none⟩) hl.length cap) v' hl w w') := by
      intro w3 hl3 H3 hp3 hm3 hs3
      have hL3 := hp3.length_eq
      refine (sink_h qb qo _ hl3 bg w3 (hm3.cell cW hqT hqv) H3 (fun e => hqT (hp3.mem_iff.1 e)) hqv i (by omega) (by rw [hL3]; exact hs3)).mono ?_
      rintro e w4 ⟨rfl, hl4, H4, hp4, hm4, hO4⟩
      exact ⟨rfl, HTail.out w4 hl4 H4 (hp4.trans hp3) (hm3.trans hm4 (fun x => hp3.mem_iff)) (by rw [hL3, sT] at hO4; exact hO4)⟩
    have hin' : (i : Int) < (n : Int) := by omega
    clear H2 H1 HSw hf2 hRI hO hm1 k2 g2 o2 q2 s2 hg1 hq1 HTail hsplit hmem H hg htake htake1 htc
    go_wp2_with fail
    refine (HRi.out).mono ?_
    rintro e w3 ⟨rfl, hl3, H3, hp3, hm3, hs3⟩
    go_wp2_with (go_at_call 201; refine (HSi.out _ _ H3 hp3 hm3 hs3).mono ?_; rintro e w4 ⟨rfl, hfin⟩)
    go_end0
    exact ⟨rfl, hfin⟩
  · have hin' : ¬ (i : Int) < (n : Int) := by omega
    have hfin := HTail.out W _ H2 (List.Perm.refl _) (Moved.refl _ _ _) (fun k k0 kn => by
      rw [hf2 k kn, hf2 _ (by omega)]
      unfold sw
      rw [if_neg (by omega), if_neg (by omega), if_neg (by omega), if_neg (by omega)]
      exact hO k k0 (by omega))
    clear H2 H1 HSw hf2 hO hm1 k2 g2 o2 q2 s2 hg1 hq1 HTail hsplit hmem H hg htake htake1 htc
    go_wp2
    go_end0
    exact ⟨rfl, hfin⟩

end Go.Proofs.YthfimgeopciiiaaGreat
