/-
  A store's readers: which transaction is active; how many reads and versions there are.
-/
import Derived.Test.YthfimgeopciiiaaGreatStore
namespace Go.Proofs.YthfimgeopciiiaaGreat
open Go.MapKept Go.ChangeMaps Go.Maps Go.RowKit

theorem zero_ptxn (w : World) : (zeroValue 168).run Tryz.prog w = .ok (.pointer none) w := by kernel_rfl
theorem zero_vers (w : World) : (zeroValue 224).run Tryz.prog w = .ok (.slice none 0 0) w := by kernel_rfl
theorem zero_cont (w : World) : (zeroValue 231).run Tryz.prog w = .ok (.agg #[.string ⟨#[]⟩, .bool false]) w := by kernel_rfl
theorem zero_unit (w : World) : (zeroValue 121).run Tryz.prog w = .ok (.agg #[]) w := by kernel_rfl

theorem wf_i64 {n : Int} (h1 : -9223372036854775808 ≤ n) (h2 : n ≤ 9223372036854775807) : (Lit.int .i64 n).wf = true := WalkArith.wf_i64 ⟨h1, h2⟩

set_option maxRecDepth 100000 in
set_option maxHeartbeats 400000 in
theorem active_none {w : World} {s : Sto} (H : StAt w s) (h : Int) (hw : (Lit.int .i64 h).wf = true) (hr : s.rec? h = none) :
    Calls Tryz.prog 91 #[.pointer (some ⟨s.sb, 2, none⟩), .int .i64 h] w fun e w' => e = .returned (.tuple #[.pointer none, .bool false]) ∧ w' = w := by
  have c8 : w.cell? ⟨s.sb, 8, none⟩ = some (.map (some s.tm)) := H.cell 8
  have hl := H.tm.look hk_good Tryz.underlying128 zero_ptxn (x := h) hw true
  rw [lookup_recs] at hl
  rw [Sto.rec?] at hr
  simp only [hr, hk, Option.map_none, Option.getD_none, Option.isSome_none, if_true] at hl
  clear H hr
  try unfold ptrTo
  go_enter Tryz.func91, Tryz.ntmps91
  go_wp2
  go_ret2
  exact ⟨rfl, rfl⟩

set_option maxRecDepth 100000 in
set_option maxHeartbeats 400000 in
theorem active_some {w : World} {s : Sto} (H : StAt w s) (h : Int) (hw : (Lit.int .i64 h).wf = true) {r : Rec} (hr : s.rec? h = some r) :
    Calls Tryz.prog 91 #[.pointer (some ⟨s.sb, 2, none⟩), .int .i64 h] w fun e w' => e = .returned (.tuple #[ptrTo r.tb, .bool (r.cm == 0)]) ∧ w' = w := by
  have c8 : w.cell? ⟨s.sb, 8, none⟩ = some (.map (some s.tm)) := H.cell 8
  have hl := H.tm.look hk_good Tryz.underlying128 zero_ptxn (x := h) hw true
  rw [lookup_recs] at hl
  have hrm := Sto.rec_mem hr
  rw [Sto.rec?] at hr
  have HA := hidC (isActive_any r.tb r.cm w ((H.recs r hrm.1).cell 2))
  simp only [hr, hk, ptrTo, Option.map_some, Option.getD_some, Option.isSome_some, if_true] at hl
  clear H hr hrm
  try unfold ptrTo
  go_enter Tryz.func91, Tryz.ntmps91
  go_wp2_with (go_at_call 144; refine (HA.out).mono ?_; rintro e w' ⟨rfl, rfl⟩)
  go_ret2
  exact ⟨rfl, rfl⟩

def sumN {α : Type} (f : α → Nat) (l : List α) : Nat := (l.map f).sum

theorem sumN_perm {α : Type} (f : α → Nat) {l l' : List α} (h : l.Perm l') : sumN f l = sumN f l' := (h.map f).sum_nat
theorem sumN_cons {α : Type} (f : α → Nat) (x : α) (l : List α) : sumN f (x :: l) = f x + sumN f l := by simp [sumN]
theorem sumN_map {α β : Type} (f : α → Nat) (g : β → α) (l : List β) : sumN f (l.map g) = sumN (fun x => f (g x)) l := by simp [sumN, Function.comp_def]

set_option maxRecDepth 100000 in
set_option maxHeartbeats 400000 in
theorem countReads_walk (sb tm : Nat) (ts : List (Int × Nat)) (rb : Nat → Nat) (rl : Nat → List (Ent × Unit)) (w : World)
    (c8 : w.cell? ⟨sb, 8, none⟩ = some (.map (some tm))) (hm : MapIs hk ptrTo w tm ts)
    (ht : ∀ p ∈ ts, w.cell? ⟨p.2, 4, none⟩ = some (.map (some (rb p.2))) ∧ MapIs ek unitV w (rb p.2) (rl p.2))
    (hb : sumN (fun p => (rl p.2).length) ts ≤ 1000) :
    Calls Tryz.prog 85 #[.pointer (some ⟨sb, 2, none⟩)] w fun e w' => e = .returned (.int .i64 (sumN (fun p => (rl p.2).length) ts)) ∧ Quiet w w' := by
  try unfold ptrTo
  go_enter Tryz.func85, Tryz.ntmps85
  go_wp2_with (first
    | (at_range; refine wpList_range_is _ rfl _ 128 rfl 3 168 Tryz.underlying128 tm ts rfl hm ?_; intro w0 hrg0 hk0 hs0)
    | go_in)
  go_frame
  go_loopw [3] (fun n wr => ∃ left, RangeIs hk ptrTo wr tm w.heap.size ts left ∧ Quiet w wr ∧ ∃ k : Nat, n = .int .i64 k ∧ k + sumN (fun p => (rl p.2).length) left = sumN (fun p => (rl p.2).length) ts)
    (fun _ wr => wr.rangeLeft tm w.heap.size)
  case atStart => exact ⟨ts, hrg0, hk0, 0, rfl, by simp⟩
  case round =>
    obtain ⟨left, hrg, hkp, k, rfl, hsum⟩ := hrel
    go_wp2_with (first
      | (at_next; refine wpList_next_is _ rfl _ rfl tm w.heap.size ts left rfl hrg ?_ ?_)
      | go_in)
    · refine ⟨fun h0 => ?_⟩
      subst h0
      have hk0 : k = sumN (fun p => (rl p.2).length) ts := by simpa [sumN] using hsum
      go_wp2
      go_ret
      exact ⟨by rw [← hk0]; rfl, hkp⟩
    · refine ⟨fun ⟨x⟩ ⟨y⟩ left' w1 hp hmem hrg1 hk1 hs1 hen => ?_⟩
      have hkp1 : Quiet w w1 := Keeps.trans hkp hk1 (fun b hb => .inr (by omega))
      obtain ⟨hc, hmr⟩ := ht _ hmem
      have hy : y < w.heap.size := World.block_lt_of_cell? _ _ hc
      have hc1 : w1.cell? ⟨y, 4, none⟩ = some (.map (some (rb y))) := (hkp1.cell hy (by simp)).trans hc
      have hlen := (hmr.kept hkp1 (by simp)).len (P := Tryz.prog) (ty := 3) Tryz.underlying172
      have hp' := sumN_perm (fun p => (rl p.2).length) hp
      simp only [sumN, List.map_cons, List.sum_cons] at hp' hsum hb
      clear hc hmr ht hm c8
      simp only [hk, ptrTo] at hen
      go_wp2
      go_roundw
      case rel => exact ⟨left', hrg1, hkp1, k + (rl y).length, by go_num, by simp only [sumN]; omega⟩
      case measure => rw [hrg1.left_eq, hrg.left_eq, hp.length_eq]; simp

def Sto.byTb (s : Sto) (t : Nat) : Rec := (s.recs.find? (fun r => r.tb == t)).getD ⟨0, 0, 0, 0, 0, 0, [], [], false, false, 0⟩

theorem Sto.byTb_eq {s : Sto} (h : s.foot.Nodup) {r : Rec} (hr : r ∈ s.recs) : s.byTb r.tb = r := by
  have hn := (Sto.nd_parts h).2.2.2.2.2.2.1
  unfold Sto.byTb
  cases hf : s.recs.find? (fun x => x.tb == r.tb) with
  | none =>
    have := List.find?_eq_none.1 hf r hr
    simp at this
  | some x =>
    have h1 := List.mem_of_find?_eq_some hf
    have h2 := List.find?_some hf
    have : x = r := nodup_flatMap_apart hn h1 hr (b := r.tb) (by simp only [Rec.foot]; simp at h2; simp [h2]) (by simp [Rec.foot])
    subst this; rfl

/-- How many entries there are in all reads, how many versions. -/
def Sto.nReads (s : Sto) : Nat := sumN (fun r => r.rd.length) s.recs
def Sto.nVers (s : Sto) : Nat := sumN (fun x => x.vs.length) s.vrs

theorem countReads_h {w : World} {s : Sto} (H : StAt w s) (hb : s.nReads ≤ 1000) :
    Calls Tryz.prog 85 #[.pointer (some ⟨s.sb, 2, none⟩)] w fun e w' => e = .returned (.int .i64 s.nReads) ∧ Quiet w w' := by
  have e : sumN (fun p : Int × Nat => ((fun t => (s.byTb t).rd) p.2).length) (s.recs.map fun r => (r.h, r.tb)) = s.nReads := by
    rw [sumN_map]
    unfold Sto.nReads sumN
    rw [List.map_congr_left (fun r hr => by simp only; rw [Sto.byTb_eq H.nd hr])]
  have := countReads_walk s.sb s.tm (s.recs.map fun r => (r.h, r.tb)) (fun t => (s.byTb t).rb) (fun t => (s.byTb t).rd) w (H.cell 8) H.tm ?_ (by rw [e]; exact hb)
  · rw [e] at this; exact this
  · intro p hp
    obtain ⟨r, hr, rfl⟩ := List.mem_map.1 hp
    simp only [Sto.byTb_eq H.nd hr]
    exact ⟨(H.recs r hr).cell 4, (H.recs r hr).rd⟩

set_option maxRecDepth 100000 in
set_option maxHeartbeats 400000 in
theorem countVersions_walk (sb vm : Nat) (ts : List (ByteArray × (Option Addr × Nat × Nat))) (w : World)
    (c10 : w.cell? ⟨sb, 10, none⟩ = some (.map (some vm))) (hm : MapIs sk slV w vm ts) (hb : sumN (fun p => p.2.2.1) ts ≤ 1000) :
    Calls Tryz.prog 86 #[.pointer (some ⟨sb, 2, none⟩)] w fun e w' => e = .returned (.int .i64 (sumN (fun p => p.2.2.1) ts)) ∧ Quiet w w' := by
  try unfold ptrTo
  go_enter Tryz.func86, Tryz.ntmps86
  go_wp2_with (first
    | (at_range; refine wpList_range_is _ rfl _ 132 rfl 9 224 Tryz.underlying132 vm ts rfl hm ?_; intro w0 hrg0 hk0 hs0)
    | go_in)
  go_frame
  go_loopw [3] (fun n wr => ∃ left, RangeIs sk slV wr vm w.heap.size ts left ∧ Quiet w wr ∧ ∃ k : Nat, n = .int .i64 k ∧ k + sumN (fun p => p.2.2.1) left = sumN (fun p => p.2.2.1) ts)
    (fun _ wr => wr.rangeLeft vm w.heap.size)
  case atStart => exact ⟨ts, hrg0, hk0, 0, rfl, by simp⟩
  case round =>
    obtain ⟨left, hrg, hkp, k, rfl, hsum⟩ := hrel
    go_wp2_with (first
      | (at_next; refine wpList_next_is _ rfl _ rfl vm w.heap.size ts left rfl hrg ?_ ?_)
      | go_in)
    · refine ⟨fun h0 => ?_⟩
      subst h0
      have hk0 : k = sumN (fun p => p.2.2.1) ts := by simpa [sumN] using hsum
      go_wp2
      go_ret
      exact ⟨by rw [← hk0]; rfl, hkp⟩
    · refine ⟨fun ⟨x⟩ ⟨y⟩ left' w1 hp hmem hrg1 hk1 hs1 hen => ?_⟩
      obtain ⟨ya, yn, yc⟩ := y
      have hkp1 : Quiet w w1 := Keeps.trans hkp hk1 (fun b hb => .inr (by omega))
      have hp' := sumN_perm (fun p => p.2.2.1) hp
      simp only [sumN, List.map_cons, List.sum_cons] at hp' hsum hb
      clear hm c10
      simp only [sk, slV] at hen
      go_wp2
      go_roundw
      case rel => exact ⟨left', hrg1, hkp1, k + yn, by go_num, by simp only [sumN]; omega⟩
      case measure => rw [hrg1.left_eq, hrg.left_eq, hp.length_eq]; simp

theorem countVersions_h {w : World} {s : Sto} (H : StAt w s) (hb : s.nVers ≤ 1000) :
    Calls Tryz.prog 86 #[.pointer (some ⟨s.sb, 2, none⟩)] w fun e w' => e = .returned (.int .i64 s.nVers) ∧ Quiet w w' := by
  have e : sumN (fun p : ByteArray × (Option Addr × Nat × Nat) => p.2.2.1) (s.vrs.map fun x => (x.k, (x.a, x.vs.length, x.cap))) = s.nVers := by rw [sumN_map]; rfl
  have := countVersions_walk s.sb s.vm _ w (H.cell 10) H.vm (by rw [e]; exact hb)
  rw [e] at this; exact this

end Go.Proofs.YthfimgeopciiiaaGreat
