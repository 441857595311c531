/-
  The heap's functions: which is less, which below is the lesser, rising, sinking, the top.
-/
import Derived.Test.YthfimgeopciiiaaGreatHeapP
namespace Go.Proofs.YthfimgeopciiiaaGreat
open Go.MapKept Go.ChangeMaps Go.Maps Go.RowKit

theorem HeapIs.drewN {w : World} {v : Value} {hl : List Nat} {bg : Nat → Int} (h : HeapIs w v hl bg) (n : Nat) : HeapIs (w.drewN n) v hl bg := ⟨h.sl, h.nd, h.ne, h.tb, h.len⟩
theorem Moved.drewN {v : Value} {T : List Nat} {a b : World} (h : Moved v T a b) (n : Nat) : Moved v T a (b.drewN n) :=
  ⟨⟨h.keeps.os, h.keeps.tape, h.keeps.output, h.keeps.size, h.keeps.block⟩, h.size, h.recs⟩
theorem Moved.refl (v : Value) (T : List Nat) (w : World) : Moved v T w w :=
  ⟨Keeps.refl _ _, rfl, fun _ _ _ n hcs hn => ⟨n, by rw [seven_self hn]; exact hcs⟩⟩

theorem Moved.cell {v : Value} {T : List Nat} {a b : World} (h : Moved v T a b) {qb qo : Nat} {x : Value} (hc : a.cell? ⟨qb, qo, none⟩ = some x) (hq : qb ∉ T) (hv : v.ownBlock ≠ some qb) : b.cell? ⟨qb, qo, none⟩ = some x :=
  (h.keeps.cell (World.block_lt_of_cell? _ _ hc) (fun e => by rcases e with e | e; exact hv e; exact hq e)).trans hc

/-- What the walks want of the heap's list. -/
theorem HeapIs.at {w : World} {v : Value} {hl : List Nat} {bg : Nat → Int} (H : HeapIs w v hl bg) (hn : hl ≠ []) :
    ∃ g cap, v = .slice (some ⟨g, 0, none⟩) hl.length cap ∧ hl.length ≤ cap ∧ ∀ i, i < hl.length → ∃ t, hl[i]? = some t ∧ w.cell? ⟨g, i, none⟩ = some (.pointer (some ⟨t, 0, none⟩)) ∧ w.cell? ⟨t, 1, none⟩ = some (.int .i64 (fOf bg hl i)) ∧ w.frozen? ⟨g, i, none⟩ = false := by
  obtain ⟨g, cap, cur, rfl, hg, hcap, hmax, hcs, htake⟩ := H.sl.row hn
  refine ⟨g, cap, rfl, hcap, fun i hi => ?_⟩
  have ht : hl[i]? = some hl[i] := List.getElem?_eq_getElem hi
  obtain ⟨cs, h1, h2, h3, h4⟩ := H.tb i _ ht
  have hf : fOf bg hl i = bg hl[i] := by simp [fOf, List.getD_eq_getElem?_getD, ht]
  exact ⟨_, ht, by rw [cell_of_heap hg]; exact row_get htake ht, by rw [cell_of_heap h1, h3, hf], frozen_of_heap hg⟩

set_option maxRecDepth 100000 in
set_option maxHeartbeats 1000000 in
theorem isLess_walk (qb qo hb n cap i j ti tj : Nat) (bi bj : Int) (w : World) (hi : i < n) (hj : j < n) (_hn : n < 100000)
    (c0 : w.cell? ⟨qb, qo, none⟩ = some (.slice (some ⟨hb, 0, none⟩) n cap))
    (ci : w.cell? ⟨hb, i, none⟩ = some (.pointer (some ⟨ti, 0, none⟩))) (cj : w.cell? ⟨hb, j, none⟩ = some (.pointer (some ⟨tj, 0, none⟩)))
    (di : w.cell? ⟨ti, 1, none⟩ = some (.int .i64 bi)) (dj : w.cell? ⟨tj, 1, none⟩ = some (.int .i64 bj)) :
    Calls Tryz.prog 202 #[.pointer (some ⟨qb, qo, none⟩), .int .i64 i, .int .i64 j] w fun e w' => e = .returned (.bool (decide (bi < bj))) ∧ ∃ m, w' = w.drewN m := by
  have hi' : (i : Int) < (n : Int) := by omega
  have hj' : (j : Int) < (n : Int) := by omega
  go_enter Tryz.func202, Tryz.ntmps202
  go_wp2
  go_quiet (fail)
  go_wp2
  go_ret
  exact ⟨rfl, _, rfl⟩

theorem isLess_h (qb qo : Nat) (v : Value) (hl : List Nat) (bg : Nat → Int) (w : World) (cq : w.cell? ⟨qb, qo, none⟩ = some v) (H : HeapIs w v hl bg) (i j : Nat) (hi : i < hl.length) (hj : j < hl.length) :
    Calls Tryz.prog 202 #[.pointer (some ⟨qb, qo, none⟩), .int .i64 i, .int .i64 j] w fun e w' => e = .returned (.bool (decide (fOf bg hl i < fOf bg hl j))) ∧ ∃ m, w' = w.drewN m := by
  obtain ⟨g, cap, rfl, hcap, hat⟩ := H.at (fun e => by subst e; simp at hi)
  obtain ⟨ti, _, ci, bi, _⟩ := hat i hi
  obtain ⟨tj, _, cj, bj, _⟩ := hat j hj
  exact isLess_walk qb qo g hl.length cap i j ti tj _ _ w hi hj (by have := H.len; omega) cq ci cj bi bj

theorem HeapIs.len_cell {v : Value} {hl : List Nat} {bg : Nat → Int} {w : World} (H : HeapIs w v hl bg) : ∃ a cap, v = .slice a hl.length cap := by
  rcases H.sl.2 with ⟨e, h0⟩ | ⟨g, cap, _, e, _⟩
  · exact ⟨none, 0, by rw [e, h0]⟩
  · exact ⟨_, _, e⟩

def lesser (f : Nat → Int) (n p : Nat) : Nat := if 2 * p + 2 < n ∧ f (2 * p + 2) < f (2 * p + 1) then 2 * p + 2 else 2 * p + 1

set_option maxRecDepth 100000 in
set_option maxHeartbeats 1000000 in
theorem lesserBelow_h (qb qo : Nat) (v : Value) (hl : List Nat) (bg : Nat → Int) (w : World) (cq : w.cell? ⟨qb, qo, none⟩ = some v) (H : HeapIs w v hl bg) (p : Nat) (hp : p ≤ 1000) :
    Calls Tryz.prog 220 #[.pointer (some ⟨qb, qo, none⟩), .int .i64 p] w fun e w' => e = .returned (.int .i64 (lesser (fOf bg hl) hl.length p)) ∧ ∃ m, w' = w.drewN m := by
  obtain ⟨a, cap, rfl⟩ := H.len_cell
  have hlen := H.len
  by_cases h2 : 2 * p + 2 < hl.length
  · have h2' : (2 * (p : Int) + 2) < (hl.length : Int) := by omega
    have hc := isLess_h qb qo _ hl bg w cq H (2 * p + 2) (2 * p + 1) h2 (by omega)
    have e1 : ((2 * p + 2 : Nat) : Int) = 2 * (p : Int) + 2 := by omega
    have e2 : ((2 * p + 1 : Nat) : Int) = 2 * (p : Int) + 1 := by omega
    rw [e1, e2] at hc
    clear e1 e2
    by_cases hlt : fOf bg hl (2 * p + 2) < fOf bg hl (2 * p + 1)
    · have hr : lesser (fOf bg hl) hl.length p = 2 * p + 2 := if_pos ⟨h2, hlt⟩
      have HR : Hid (lesser (fOf bg hl) hl.length p = 2 * p + 2) := hr
      rw [decide_eq_true hlt] at hc
      have HC := hidC hc
      clear hc hr hlt H
      go_enter Tryz.func220, Tryz.ntmps220
      go_wp2_with (go_at_call 202; refine (HC.out).mono ?_; rintro e w' ⟨rfl, m, rfl⟩)
      go_ret
      exact ⟨by rw [HR.out]; exact ret_int (by omega), _, rfl⟩
    · have hr : lesser (fOf bg hl) hl.length p = 2 * p + 1 := if_neg (fun h => hlt h.2)
      have HR : Hid (lesser (fOf bg hl) hl.length p = 2 * p + 1) := hr
      rw [decide_eq_false hlt] at hc
      have HC := hidC hc
      clear hc hr hlt H
      go_enter Tryz.func220, Tryz.ntmps220
      go_wp2_with (go_at_call 202; refine (HC.out).mono ?_; rintro e w' ⟨rfl, m, rfl⟩)
      go_ret
      exact ⟨by rw [HR.out]; exact ret_int (by omega), _, rfl⟩
  · have h2' : ¬ (2 * (p : Int) + 2) < (hl.length : Int) := by omega
    have hr : lesser (fOf bg hl) hl.length p = 2 * p + 1 := if_neg (fun h => h2 h.1)
    have HR : Hid (lesser (fOf bg hl) hl.length p = 2 * p + 1) := hr
    clear hr H
    go_enter Tryz.func220, Tryz.ntmps220
    go_wp2
    go_ret
    exact ⟨by rw [HR.out]; exact ret_int (by omega), 0, rfl⟩

set_option maxRecDepth 100000 in
set_option maxHeartbeats 1000000 in
theorem rise_h (qb qo : Nat) (v : Value) (hl : List Nat) (bg : Nat → Int) (w : World) (cq : w.cell? ⟨qb, qo, none⟩ = some v) (H : HeapIs w v hl bg) (hq : qb ∉ hl) (hqv : v.ownBlock ≠ some qb)
    (i0 : Nat) (hi : i0 < hl.length) (hI : RiseI (fOf bg hl) hl.length i0 i0) :
    Calls Tryz.prog 152 #[.pointer (some ⟨qb, qo, none⟩), .int .i64 i0] w fun e w' => e = .returned (.tuple #[]) ∧
      ∃ hl', HeapIs w' v hl' bg ∧ hl'.Perm hl ∧ Moved v hl w w' ∧ SinkI (fOf bg hl') hl.length i0 := by
  have hlen := H.len
  go_enter Tryz.func152, Tryz.ntmps152
  go_wp2
  go_loopw [1] (fun i wr => ∃ p : Nat, i = .int .i64 p ∧ p ≤ i0 ∧ ∃ hl', HeapIs wr v hl' bg ∧ hl'.Perm hl ∧ Moved v hl w wr ∧ RiseI (fOf bg hl') hl.length p i0) (fun i _ => (intOf i).toNat)
  case atStart => exact ⟨i0, rfl, Nat.le_refl _, hl, H, List.Perm.refl _, Moved.refl _ _ _, hI⟩
  case round =>
    obtain ⟨p, rfl, hp, hl', H', hperm, hmv, hR⟩ := hrel
    have hL := hperm.length_eq
    have cq' : wr.cell? ⟨qb, qo, none⟩ = some v := hmv.cell cq hq hqv
    have hq' : qb ∉ hl' := fun e => hq (hperm.mem_iff.1 e)
    by_cases h0 : p = 0
    · subst h0
      go_wp2
      go_end0
      exact ⟨rfl, hl', H', hperm, hmv, hR.fin (.inl rfl)⟩
    · have h0' : 0 < (p : Int) := by omega
      have hc := isLess_h qb qo v hl' bg wr cq' H' p ((p - 1) / 2) (by omega) (by omega)
      have e1 : (((p - 1) / 2 : Nat) : Int) = ((p : Int) - 1) / 2 := by omega
      by_cases hlt : fOf bg hl' p < fOf bg hl' ((p - 1) / 2)
      · have hsw := fun m => swap_h qb qo v hl' bg (wr.drewN m) cq' (H'.drewN m) hq' hqv p ((p - 1) / 2) (by omega) (by omega)
        rw [decide_eq_true hlt] at hc
        rw [e1] at hc
        simp only [e1] at hsw
        have HC := hidC hc
        have HS : Hid (∀ m, Calls Tryz.prog 200 #[.pointer (some ⟨qb, qo, none⟩), .int .i64 p, .int .i64 (((p : Int) - 1) / 2)] (wr.drewN m) fun e w' => e = .returned (.tuple #[]) ∧ HeapIs w' v (swapL hl' p ((p - 1) / 2)) bg ∧ Moved v hl' (wr.drewN m) w') := hsw
        have HT : Hid (fOf bg hl' p < fOf bg hl' ((p - 1) / 2)) := hlt
        have HE : Hid ((((p - 1) / 2 : Nat) : Int) = ((p : Int) - 1) / 2) := e1
        clear hc hsw hlt e1
        go_wp2_with (go_at_call 202; refine (HC.out).mono ?_; rintro e w' ⟨rfl, m, rfl⟩)
        refine (HS.out _).mono ?_
        rintro e w' ⟨rfl, H2, hmv2⟩
        go_wp2
        have hmv3 : Moved v hl w w' := (hmv.drewN _).trans hmv2 (fun t => hperm.mem_iff)
        have hp3 := (swapL_perm hl' p ((p - 1) / 2) (by omega) (by omega)).trans hperm
        have hR3 := hR.step (by omega) (by omega) hp HT.out
        rw [← fOf_swap bg hl' p ((p - 1) / 2) (by omega) (by omega)] at hR3
        go_roundw
        case rel => exact ⟨(p - 1) / 2, by rw [HE.out], by omega, _, H2, hp3, hmv3, hR3⟩
        case measure => simp [intOf]; omega
      · rw [decide_eq_false hlt] at hc
        rw [e1] at hc
        have HC := hidC hc
        clear hc e1
        go_wp2_with (go_at_call 202; refine (HC.out).mono ?_; rintro e w' ⟨rfl, m, rfl⟩)
        refine bodyPost_ret (results_none rfl _ _ _) rfl ?_
        exact ⟨rfl, hl', H'.drewN _, hperm, hmv.drewN _, hR.fin (.inr (by omega))⟩

theorem lesser_le (f : Nat → Int) (n p : Nat) : 2 * p + 1 ≤ lesser f n p ∧ lesser f n p ≤ 2 * p + 2 ∧ (lesser f n p - 1) / 2 = p := by
  unfold lesser; split <;> omega

theorem lesser_min (f : Nat → Int) (n p : Nat) : ∀ k, 0 < k → k < n → (k - 1) / 2 = p → f (lesser f n p) ≤ f k := by
  intro k k0 kn kp
  unfold lesser at *
  have hk : k = 2 * p + 1 ∨ k = 2 * p + 2 := by omega
  split
  · rename_i h1; rcases hk with rfl | rfl <;> omega
  · rename_i h1
    rcases hk with rfl | rfl
    · omega
    · have : ¬ f (2 * p + 2) < f (2 * p + 1) := fun h => h1 ⟨kn, h⟩
      omega

theorem lesser_none (f : Nat → Int) (n p : Nat) (h : ¬ lesser f n p < n) : ∀ k, 0 < k → k < n → (k - 1) / 2 = p → f p ≤ f k := by
  intro k k0 kn kp
  unfold lesser at h
  split at h <;> omega

set_option maxRecDepth 100000 in
set_option maxHeartbeats 1000000 in
theorem sink_h (qb qo : Nat) (v : Value) (hl : List Nat) (bg : Nat → Int) (w : World) (cq : w.cell? ⟨qb, qo, none⟩ = some v) (H : HeapIs w v hl bg) (hq : qb ∉ hl) (hqv : v.ownBlock ≠ some qb)
    (i0 : Nat) (hi : i0 < hl.length) (hI : SinkI (fOf bg hl) hl.length i0) :
    Calls Tryz.prog 201 #[.pointer (some ⟨qb, qo, none⟩), .int .i64 i0] w fun e w' => e = .returned (.tuple #[]) ∧
      ∃ hl', HeapIs w' v hl' bg ∧ hl'.Perm hl ∧ Moved v hl w w' ∧ Ord (fOf bg hl') hl.length := by
  have hlen := H.len
  go_enter Tryz.func201, Tryz.ntmps201
  go_wp2
  go_loopw [1] (fun i wr => ∃ p : Nat, i = .int .i64 p ∧ p < hl.length ∧ ∃ hl', HeapIs wr v hl' bg ∧ hl'.Perm hl ∧ Moved v hl w wr ∧ SinkI (fOf bg hl') hl.length p) (fun i _ => hl.length - (intOf i).toNat)
  case atStart => exact ⟨i0, rfl, hi, hl, H, List.Perm.refl _, Moved.refl _ _ _, hI⟩
  case round =>
    obtain ⟨p, rfl, hp, hl', H', hperm, hmv, hR⟩ := hrel
    have hL := hperm.length_eq
    have cq' : wr.cell? ⟨qb, qo, none⟩ = some v := hmv.cell cq hq hqv
    have hq' : qb ∉ hl' := fun e => hq (hperm.mem_iff.1 e)
    obtain ⟨av, cap, hv⟩ := H'.len_cell
    have hcv : wr.cell? ⟨qb, qo, none⟩ = some (.slice av hl'.length cap) := by rw [cq', hv]
    have HL := hidC (lesserBelow_h qb qo v hl' bg wr cq' H' p (by omega))
    obtain ⟨c1, c2, c3⟩ := lesser_le (fOf bg hl') hl'.length p
    by_cases hc : lesser (fOf bg hl') hl'.length p < hl'.length
    · have hmin := lesser_min (fOf bg hl') hl'.length p
      generalize lesser (fOf bg hl') hl'.length p = c at *
      have hc' : (c : Int) < (hl'.length : Int) := by omega
      have hle := fun m => isLess_h qb qo v hl' bg (wr.drewN m) cq' (H'.drewN m) c p hc (by omega)
      by_cases hlt : fOf bg hl' c < fOf bg hl' p
      · simp only [decide_eq_true hlt] at hle
        have HC : Hid (∀ m, Calls Tryz.prog 202 #[.pointer (some ⟨qb, qo, none⟩), .int .i64 c, .int .i64 p] (wr.drewN m) fun e w' => e = .returned (.bool true) ∧ ∃ m', w' = (wr.drewN m).drewN m') := hle
        have HS : Hid (∀ m, Calls Tryz.prog 200 #[.pointer (some ⟨qb, qo, none⟩), .int .i64 p, .int .i64 c] (wr.drewN m) fun e w' => e = .returned (.tuple #[]) ∧ HeapIs w' v (swapL hl' p c) bg ∧ Moved v hl' (wr.drewN m) w') :=
          fun m => swap_h qb qo v hl' bg (wr.drewN m) cq' (H'.drewN m) hq' hqv p c (by omega) hc
        have hR3 := hR.step c3 (by omega) (by omega) hlt (by rw [← hL]; exact hmin)
        rw [← fOf_swap bg hl' p c (by omega) hc] at hR3
        clear hle hlt hmin hv cq'
        go_wp2_with (first | (go_at_call 220; refine (HL.out).mono ?_; rintro e w' ⟨rfl, m, rfl⟩) | (go_at_call 202; refine (HC.out _).mono ?_; rintro e w' ⟨rfl, m', rfl⟩) | (go_at_call 200; refine (HS.out _).mono ?_; rintro e w' ⟨rfl, H2, hmv2⟩))
        have hmv3 : Moved v hl w w' := (hmv.drewN _).trans hmv2 (fun t => hperm.mem_iff)
        have hp3 := (swapL_perm hl' p c (by omega) hc).trans hperm
        exact ⟨⟨c, rfl, by omega, _, H2, hp3, hmv3, hR3⟩, by simp [intOf]; omega⟩
      · simp only [decide_eq_false hlt] at hle
        have HC : Hid (∀ m, Calls Tryz.prog 202 #[.pointer (some ⟨qb, qo, none⟩), .int .i64 c, .int .i64 p] (wr.drewN m) fun e w' => e = .returned (.bool false) ∧ ∃ m', w' = (wr.drewN m).drewN m') := hle
        have hO : Ord (fOf bg hl') hl.length := hR.fin (fun k k0 kn kp => by have := hmin k k0 (by omega) kp; omega)
        clear hle hlt hmin hv cq'
        go_wp2_with (first | (go_at_call 220; refine (HL.out).mono ?_; rintro e w' ⟨rfl, m, rfl⟩) | (go_at_call 202; refine (HC.out _).mono ?_; rintro e w' ⟨rfl, m', rfl⟩))
        refine bodyPost_ret (results_none rfl _ _ _) rfl ?_
        exact ⟨rfl, hl', H'.drewN _, hperm, hmv.drewN _, hO⟩
    · have hnone := lesser_none (fOf bg hl') hl'.length p hc
      generalize lesser (fOf bg hl') hl'.length p = c at *
      have hc' : (hl'.length : Int) ≤ (c : Int) := by omega
      have hO : Ord (fOf bg hl') hl.length := hR.fin (fun k k0 kn kp => hnone k k0 (by omega) kp)
      clear hnone hv cq'
      go_wp2_with (first | (go_at_call 220; refine (HL.out).mono ?_; rintro e w' ⟨rfl, m, rfl⟩))
      refine bodyPost_ret (results_none rfl _ _ _) rfl ?_
      exact ⟨rfl, hl', H'.drewN _, hperm, hmv.drewN _, hO⟩

set_option maxHeartbeats 400000 in
theorem top_none (b o : Nat) (w : World) (a : Option Addr) (cap : Nat) (h : w.cell? ⟨b, o, none⟩ = some (.slice a 0 cap)) :
    Calls Tryz.prog 141 #[.pointer (some ⟨b, o, none⟩)] w fun e w' => e = .returned (.tuple #[.pointer none, .bool false]) ∧ w' = w := by
  go_enter Tryz.func141, Tryz.ntmps141
  go_wp2
  go_ret2
  exact ⟨rfl, rfl⟩

set_option maxHeartbeats 400000 in
theorem top_some (b o hb n c : Nat) (v : Option Addr) (w : World) (h : w.cell? ⟨b, o, none⟩ = some (.slice (some ⟨hb, 0, none⟩) n c)) (h0 : 0 < n)
    (hv : w.cell? ⟨hb, 0, none⟩ = some (.pointer v)) :
    Calls Tryz.prog 141 #[.pointer (some ⟨b, o, none⟩)] w fun e w' => e = .returned (.tuple #[.pointer v, .bool true]) ∧ w' = w := by
  have h1 : ((n : Int) == 0) = false := by simp; omega
  go_enter Tryz.func141, Tryz.ntmps141
  go_wp2
  go_ret2
  exact ⟨rfl, rfl⟩

end Go.Proofs.YthfimgeopciiiaaGreat
