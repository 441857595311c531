/-
  A store's readers: which transaction is active; how many reads and versions there are.
-/
import Derived.Test.YthfimgeopciiiaaGreatStore
namespace Go.Proofs.YthfimgeopciiiaaGreat
open Go.MapKept Go.ChangeMaps Go.Maps Go.RowKit

theorem zero_ptxn (w : World) : (zeroValue 168).run Tryz.prog w = .ok (.pointer none) w := by kernel_rfl
theorem zero_vers (w : World) : (zeroValue 224).run Tryz.prog w = .ok (.slice none 0 0) w := by kernel_rfl
theorem zero_cont (w : World) : (zeroValue 231).run Tryz.prog w = .ok (.agg #[.string ⟨#[]⟩, .bool false]) w := by kernel_rfl
theorem zero_unit (w : World) : (zeroValue 121).run Tryz.prog w = .ok (.agg #[]) w := by kernel_rfl

theorem wf_i64 {n : Int} (h1 : -9223372036854775808 ≤ n) (h2 : n ≤ 9223372036854775807) : (Lit.int .i64 n).wf = true := WalkArith.wf_i64 ⟨h1, h2⟩

set_option maxRecDepth 100000 in
set_option maxHeartbeats 400000 in
theorem active_none {w : World} {s : Sto} (H : StAt w s) (h : Int) (hw : (Lit.int .i64 h).wf = true) (hr : s.rec? h = none) :
    Calls Tryz.prog 91 #[.pointer (some ⟨s.sb, 2, none⟩), .int .i64 h] w fun e w' => e = .returned (.tuple #[.pointer none, .bool false]) ∧ w' = w := by
  have c8 : w.cell? ⟨s.sb, 8, none⟩ = some (.map (some s.tm)) := H.cell 8
  have hl := H.tm.look hk_good Tryz.underlying128 zero_ptxn (x := h) hw true
  rw [lookup_recs] at hl
  rw [Sto.rec?] at hr
  simp only [hr, hk, Option.map_none, Option.getD_none, Option.isSome_none, if_true] at hl
  clear H hr
  try unfold ptrTo
  go_enter Tryz.func91, Tryz.ntmps91
  go_wp2
  go_ret2
  exact ⟨rfl, rfl⟩

set_option maxRecDepth 100000 in
set_option maxHeartbeats 400000 in
theorem active_some {w : World} {s : Sto} (H : StAt w s) (h : Int) (hw : (Lit.int .i64 h).wf = true) {r : Rec} (hr : s.rec? h = some r) :
    Calls Tryz.prog 91 #[.pointer (some ⟨s.sb, 2, none⟩), .int .i64 h] w fun e w' => e = .returned (.tuple #[ptrTo r.tb, .bool (r.cm == 0)]) ∧ w' = w := by
  have c8 : w.cell? ⟨s.sb, 8, none⟩ = some (.map (some s.tm)) := H.cell 8
  have hl := H.tm.look hk_good Tryz.underlying128 zero_ptxn (x := h) hw true
  rw [lookup_recs] at hl
  have hrm := Sto.rec_mem hr
  rw [Sto.rec?] at hr
  have HA := hidC (isActive_any r.tb r.cm w ((H.recs r hrm.1).cell 2))
  simp only [hr, hk, ptrTo, Option.map_some, Option.getD_some, Option.isSome_some, if_true] at hl
  clear H hr hrm
  try unfold ptrTo
  go_enter Tryz.func91, Tryz.ntmps91
  go_wp2_with (go_at_call 144; refine (HA.out).mono ?_; rintro e w' ⟨rfl, rfl⟩)
  go_ret2
  exact ⟨rfl, rfl⟩

def sumN {α : Type} (f : α → Nat) (l : List α) : Nat := (l.map f).sum

theorem sumN_perm {α : Type} (f : α → Nat) {l l' : List α} (h : l.Perm l') : sumN f l = sumN f l' := (h.map f).sum_nat
theorem sumN_cons {α : Type} (f : α → Nat) (x : α) (l : List α) : sumN f (x :: l) = f x + sumN f l := by simp [sumN]
theorem sumN_map {α β : Type} (f : α → Nat) (g : β → α) (l : List β) : sumN f (l.map g) = sumN (fun x => f (g x)) l := by simp [sumN, Function.comp_def]

set_option maxRecDepth 100000 in
set_option maxHeartbeats 400000 in
theorem countReads_walk (sb tm : Nat) (ts : List (Int × Nat)) (rb : Nat → Nat) (rl : Nat → List (Ent × Unit)) (w : World)
    (c8 : w.cell? ⟨sb, 8, none⟩ = some (.map (some tm))) (hm : MapIs hk ptrTo w tm ts)
    (ht : ∀ p ∈ ts, w.cell? ⟨p.2, 4, none⟩ = some (.map (some (rb p.2))) ∧ MapIs ek unitV w (rb p.2) (rl p.2))
    (hb : sumN (fun p => (rl p.2).length) ts ≤ 1000) :
    Calls Tryz.prog 85 #[.pointer (some ⟨sb, 2, none⟩)] w fun e w' => e = .returned (.int .i64 (sumN (fun p => (rl p.2).length) ts)) ∧ Quiet w w' := by
  try unfold ptrTo
  go_enter Tryz.func85, Tryz.ntmps85
  go_wp2_with (first
    | (at_range; refine wpList_range_is _ rfl _ 128 rfl 3 168 Tryz.underlying128 tm ts rfl hm ?_; intro w0 hrg0 hk0 hs0)
    | go_in)
  go_frame
  go_loopw [3] (fun n wr => ∃ left, RangeIs hk ptrTo wr tm w.heap.size ts left ∧ Quiet w wr ∧ ∃ k : Nat, n = .int .i64 k ∧ k + sumN (fun p => (rl p.2).length) left = sumN (fun p => (rl p.2).length) ts)
    (fun _ wr => wr.rangeLeft tm w.heap.size)
  case atStart => exact ⟨ts, hrg0, hk0, 0, rfl, by simp⟩
  case round =>
    obtain ⟨left, hrg, hkp, k, rfl, hsum⟩ := hrel
    go_wp2_with (first
      | (at_next; refine wpList_next_is _ rfl _ rfl tm w.heap.size ts left rfl hrg ?_ ?_)
      | go_in)
    · refine ⟨fun h0 => ?_⟩
      subst h0
      have hk0 : k = sumN (fun p => (rl p.2).length) ts := by simpa [sumN] using hsum
      go_wp2
      go_ret
      exact ⟨by rw [← hk0]; rfl, hkp⟩
    · refine ⟨fun ⟨x⟩ ⟨y⟩ left' w1 hp hmem hrg1 hk1 hs1 hen => ?_⟩
      have hkp1 : Quiet w w1 := Keeps.trans hkp hk1 (fun b hb => .inr (by omega))
      obtain ⟨hc, hmr⟩ := ht _ hmem
      have hy : y < w.heap.size := World.block_lt_of_cell? _ _ hc
      have hc1 : w1.cell? ⟨y, 4, none⟩ = some (.map (some (rb y))) := (hkp1.cell hy (by simp)).trans hc
      have hlen := (hmr.kept hkp1 (by simp)).len (P := Tryz.prog) (ty := 3) Tryz.underlying172
      have hp' := sumN_perm (fun p => (rl p.2).length) hp
      simp only [sumN, List.map_cons, List.sum_cons] at hp' hsum hb
      clear hc hmr ht hm c8
      simp only [hk, ptrTo] at hen
      go_wp2
      go_roundw
      case rel => exact ⟨left', hrg1, hkp1, k + (rl y).length, by go_num, by simp only [sumN]; omega⟩
      case measure => rw [hrg1.left_eq, hrg.left_eq, hp.length_eq]; simp

def Sto.byTb (s : Sto) (t : Nat) : Rec := (s.recs.find? (fun r => r.tb == t)).getD ⟨0, 0, 0, 0, 0, 0, [], [], false, false, 0⟩

theorem Sto.byTb_eq {s : Sto} (h : s.foot.Nodup) {r : Rec} (hr : r ∈ s.recs) : s.byTb r.tb = r := by
  have hn := (Sto.nd_parts h).2.2.2.2.2.2.1
  unfold Sto.byTb
  cases hf : s.recs.find? (fun x => x.tb == r.tb) with
  | none =>
    have := List.find?_eq_none.1 hf r hr
    simp at this
  | some x =>
    have h1 := List.mem_of_find?_eq_some hf
    have h2 := List.find?_some hf
    have : x = r := nodup_flatMap_apart hn h1 hr (b := r.tb) (by simp only [Rec.foot]; simp at h2; simp [h2]) (by simp [Rec.foot])
    subst this; rfl

/-- How many entries there are in all reads, how many versions. -/
def Sto.nReads (s : Sto) : Nat := sumN (fun r => r.rd.length) s.recs
def Sto.nVers (s : Sto) : Nat := sumN (fun x => x.vs.length) s.vrs

theorem countReads_h {w : World} {s : Sto} (H : StAt w s) (hb : s.nReads ≤ 1000) :
    Calls Tryz.prog 85 #[.pointer (some ⟨s.sb, 2, none⟩)] w fun e w' => e = .returned (.int .i64 s.nReads) ∧ Quiet w w' := by
  have e : sumN (fun p : Int × Nat => ((fun t => (s.byTb t).rd) p.2).length) (s.recs.map fun r => (r.h, r.tb)) = s.nReads := by
    rw [sumN_map]
    unfold Sto.nReads sumN
    rw [List.map_congr_left (fun r hr => by simp only; rw [Sto.byTb_eq H.nd hr])]
  have := countReads_walk s.sb s.tm (s.recs.map fun r => (r.h, r.tb)) (fun t => (s.byTb t).rb) (fun t => (s.byTb t).rd) w (H.cell 8) H.tm ?_ (by rw [e]; exact hb)
  · rw [e] at this; exact this
  · intro p hp
    obtain ⟨r, hr, rfl⟩ := List.mem_map.1 hp
    simp only [Sto.byTb_eq H.nd hr]
    exact ⟨(H.recs r hr).cell 4, (H.recs r hr).rd⟩

set_option maxRecDepth 100000 in
set_option maxHeartbeats 400000 in
theorem countVersions_walk (sb vm : Nat) (ts : List (ByteArray × (Option Addr × Nat × Nat))) (w : World)
    (c10 : w.cell? ⟨sb, 10, none⟩ = some (.map (some vm))) (hm : MapIs sk slV w vm ts) (hb : sumN (fun p => p.2.2.1) ts ≤ 1000) :
    Calls Tryz.prog 86 #[.pointer (some ⟨sb, 2, none⟩)] w fun e w' => e = .returned (.int .i64 (sumN (fun p => p.2.2.1) ts)) ∧ Quiet w w' := by
  try unfold ptrTo
  go_enter Tryz.func86, Tryz.ntmps86
  go_wp2_with (first
    | (at_range; refine wpList_range_is _ rfl _ 132 rfl 9 224 Tryz.underlying132 vm ts rfl hm ?_; intro w0 hrg0 hk0 hs0)
    | go_in)
  go_frame
  go_loopw [3] (fun n wr => ∃ left, RangeIs sk slV wr vm w.heap.size ts left ∧ Quiet w wr ∧ ∃ k : Nat, n = .int .i64 k ∧ k + sumN (fun p => p.2.2.1) left = sumN (fun p => p.2.2.1) ts)
    (fun _ wr => wr.rangeLeft vm w.heap.size)
  case atStart => exact ⟨ts, hrg0, hk0, 0, rfl, by simp⟩
  case round =>
    obtain ⟨left, hrg, hkp, k, rfl, hsum⟩ := hrel
    go_wp2_with (first
      | (at_next; refine wpList_next_is _ rfl _ rfl vm w.heap.size ts left rfl hrg ?_ ?_)
      | go_in)
    · refine ⟨fun h0 => ?_⟩
      subst h0
      have hk0 : k = sumN (fun p => p.2.2.1) ts := by simpa [sumN] using hsum
      go_wp2
      go_ret
      exact ⟨by rw [← hk0]; rfl, hkp⟩
    · refine ⟨fun ⟨x⟩ ⟨y⟩ left' w1 hp hmem hrg1 hk1 hs1 hen => ?_⟩
      obtain ⟨ya, yn, yc⟩ := y
      have hkp1 : Quiet w w1 := Keeps.trans hkp hk1 (fun b hb => .inr (by omega))
      have hp' := sumN_perm (fun p => p.2.2.1) hp
      simp only [sumN, List.map_cons, List.sum_cons] at hp' hsum hb
      clear hm c10
      simp only [sk, slV] at hen
      go_wp2
      go_roundw
      case rel => exact ⟨left', hrg1, hkp1, k + yn, by go_num, by simp only [sumN]; omega⟩
      case measure => rw [hrg1.left_eq, hrg.left_eq, hp.length_eq]; simp

theorem countVersions_h {w : World} {s : Sto} (H : StAt w s) (hb : s.nVers ≤ 1000) :
    Calls Tryz.prog 86 #[.pointer (some ⟨s.sb, 2, none⟩)] w fun e w' => e = .returned (.int .i64 s.nVers) ∧ Quiet w w' := by
  have e : sumN (fun p : ByteArray × (Option Addr × Nat × Nat) => p.2.2.1) (s.vrs.map fun x => (x.k, (x.a, x.vs.length, x.cap))) = s.nVers := by rw [sumN_map]; rfl
  have := countVersions_walk s.sb s.vm _ w (H.cell 10) H.vm (by rw [e]; exact hb)
  rw [e] at this; exact this

end Go.Proofs.YthfimgeopciiiaaGreat

/-
  A store's readers: what a transaction sees of a key; whether it was committed behind its Begin.
-/
namespace Go.Proofs.YthfimgeopciiiaaGreat
open Go.MapKept Go.ChangeMaps Go.Maps Go.RowKit

def Sto.vrec? (s : Sto) (k : ByteArray) : Option VRec := s.vrs.find? (fun x => decide (x.k = k))
def Sto.vs (s : Sto) (k : ByteArray) : List Ver := ((s.vrec? k).map (·.vs)).getD []

theorem lookup_vrs : ∀ (l : List VRec) (k : ByteArray), look (l.map fun x => (x.k, (x.a, x.vs.length, x.cap))) k = (l.find? (fun x => decide (x.k = k))).map (fun x => (x.a, x.vs.length, x.cap))
  | [], _ => rfl
  | r :: l, k => by
    by_cases e : r.k = k
    · simp [look, e]
    · simp only [List.map_cons, look, e, if_false, List.find?_cons, decide_false]
      exact lookup_vrs l k

theorem getElem_verCells : ∀ (l : List Ver) (i : Nat) (x : Ver), l[i]? = some x → (l.flatMap verCells)[i * 3]? = some (.int .i64 x.1) ∧ (l.flatMap verCells)[i * 3 + 1]? = some (.string x.2.1) ∧ (l.flatMap verCells)[i * 3 + 2]? = some (.bool x.2.2)
  | [], i, x, h => by simp at h
  | y :: l, 0, x, h => by simp at h; subst h; simp [verCells]
  | y :: l, i + 1, x, h => by
    have h' : l[i]? = some x := by simpa using h
    have := getElem_verCells l i x h'
    rw [show (i + 1) * 3 + 1 = (i * 3 + 1) + 3 by omega, show (i + 1) * 3 + 2 = (i * 3 + 2) + 3 by omega, show (i + 1) * 3 = i * 3 + 3 by omega]
    simp only [List.flatMap_cons, verCells, List.cons_append, List.nil_append, List.getElem?_cons_succ]
    exact this

/-- What the look-up of a key's versions gives. -/
theorem StAt.look_vers {w : World} {s : Sto} (H : StAt w s) (k : ByteArray) (hk : k.size ≤ maxLen) :
    ∃ a cap, (Instr.lookup 132 (.map (some s.vm)) (.string k) false).run Tryz.prog w = .ok (.slice a (s.vs k).length cap) w ∧
      ((s.vs k) = [] ∨ ∃ g, a = some ⟨g, 0, none⟩ ∧ g ∈ s.foot ∧ ∀ i x, (s.vs k)[i]? = some x → w.cell? ⟨g, i * 3, none⟩ = some (.int .i64 x.1) ∧ w.cell? ⟨g, i * 3 + 1, none⟩ = some (.string x.2.1) ∧ w.cell? ⟨g, i * 3 + 2, none⟩ = some (.bool x.2.2)) := by
  have hl := H.vm.look sk_good Tryz.underlying132 zero_vers (x := k) hk false
  rw [lookup_vrs] at hl
  unfold Sto.vs Sto.vrec?
  cases hf : s.vrs.find? (fun x => decide (x.k = k)) with
  | none =>
    simp only [hf, Option.map_none, Option.getD_none] at hl
    exact ⟨none, 0, by simpa [sk] using hl, .inl rfl⟩
  | some x =>
    simp only [hf, Option.map_some, Option.getD_some] at hl
    refine ⟨x.a, x.cap, by simpa [sk, slV] using hl, ?_⟩
    have hx := List.mem_of_find?_eq_some hf
    have hv := H.vers x hx
    simp only [Option.map_some, Option.getD_some]
    by_cases he : x.vs = []
    · exact .inl he
    · right
      rcases hv.2 with ⟨e, h0⟩ | ⟨g, cap, cur, e, _, hg, h1, h2, h3, h4⟩
      · exact absurd (List.eq_nil_of_length_eq_zero h0) he
      · simp only [VRec.v, Value.slice.injEq] at e
        refine ⟨g, e.1, Sto.mem_vrec hx (by simp [VRec.v, e.1, Value.ownBlock]), fun i y hy => ?_⟩
        have hi : i < x.vs.length := (List.getElem?_eq_some_iff.1 hy).1
        obtain ⟨p1, p2, p3⟩ := getElem_verCells x.vs i y hy
        rw [← h4] at p1 p2 p3
        rw [List.getElem?_take, if_pos (by omega)] at p1 p2 p3
        simp only [cell_of_heap hg]
        exact ⟨by simpa using p1, by simpa using p2, by simpa using p3⟩

def newerB (vs : List Ver) (bg : Int) : Bool := vs.any (fun x => decide (bg < x.1))

theorem take_succ_of {α : Type} {l : List α} {n : Nat} {x : α} (h : l[n]? = some x) : l.take (n + 1) = l.take n ++ [x] := by
  rw [List.take_add_one, h]; rfl

theorem newerB_succ {vs : List Ver} {n : Nat} {x : Ver} (h : vs[n]? = some x) (bg : Int) : newerB (vs.take (n + 1)) bg = (newerB (vs.take n) bg || decide (bg < x.1)) := by
  rw [take_succ_of h]; simp [newerB]

theorem newerB_true {vs : List Ver} {n : Nat} {x : Ver} (h : vs[n]? = some x) {bg : Int} (hb : bg < x.1) : newerB vs bg = true :=
  List.any_eq_true.2 ⟨x, List.mem_of_getElem? h, by simpa using hb⟩

set_option maxRecDepth 100000 in
set_option maxHeartbeats 1000000 in
theorem isNewer_h {w : World} {s : Sto} (H : StAt w s) {r : Rec} (hr : r ∈ s.recs) (k : ByteArray) (hk : k.size ≤ maxLen) (hb : (s.vs k).length ≤ 1000) :
    Calls Tryz.prog 154 #[.pointer (some ⟨s.sb, 2, none⟩), ptrTo r.tb, .string k] w fun e w' => e = .returned (.bool (newerB (s.vs k) r.bg)) ∧ Quiet w w' := by
  obtain ⟨a, cap, hl, hc⟩ := H.look_vers k hk
  have c10 : w.cell? ⟨s.sb, 10, none⟩ = some (.map (some s.vm)) := H.cell 10
  have t1 : w.cell? ⟨r.tb, 1, none⟩ = some (.int .i64 r.bg) := (H.recs r hr).cell 1
  have hlt := (H.recs r hr).lt r.tb (by simp [Rec.foot])
  have hft := H.lt
  clear H
  generalize s.vs k = vs at *
  try unfold ptrTo
  go_enter Tryz.func154, Tryz.ntmps154
  go_wp2
  go_loopw [16] (fun i wr => ∃ n : Nat, i = .int .i64 n ∧ n ≤ vs.length ∧ Quiet w wr ∧ newerB (vs.take n) r.bg = false) (fun i _ => vs.length - (intOf i).toNat)
  case atStart => exact ⟨0, rfl, Nat.zero_le _, Keeps.refl _ _, rfl⟩
  case round =>
    obtain ⟨n, rfl, hn, hkp, hnone⟩ := hrel
    by_cases hlt' : n < vs.length
    · have hlt'' : (n : Int) < (vs.length : Int) := by omega
      rcases hc with h0 | ⟨g, rfl, hg, hcell⟩
      · rw [h0] at hlt'; simp at hlt'
      obtain ⟨x, hx⟩ : ∃ x, vs[n]? = some x := ⟨_, List.getElem?_eq_getElem hlt'⟩
      obtain ⟨p1, p2, p3⟩ := hcell n x hx
      have hgl := hft g hg
      have q1 : wr.cell? ⟨g, n * 3, none⟩ = some (.int .i64 x.1) := (hkp.cell hgl (by simp)).trans p1
      have q2 : wr.cell? ⟨g, n * 3 + 1, none⟩ = some (.string x.2.1) := (hkp.cell hgl (by simp)).trans p2
      have q3 : wr.cell? ⟨g, n * 3 + 2, none⟩ = some (.bool x.2.2) := (hkp.cell hgl (by simp)).trans p3
      have q4 : wr.cell? ⟨r.tb, 1, none⟩ = some (.int .i64 r.bg) := (hkp.cell hlt (by simp)).trans t1
      have hlt1 : r.tb < wr.heap.size := Nat.lt_of_lt_of_le hlt hkp.size
      clear hcell p1 p2 p3 c10 t1 hl
      go_wp2
      go_quiet (fail)
      go_wp2
      · have hlt2 : r.bg < x.1 := by assumption
        go_ret
        exact ⟨ret_bool (newerB_true hx hlt2).symm, Quiet.trans' hkp (Quiet.trans' (Keeps.alloc _ _) (quiet_drewN _ _))⟩
      · have hge2 : ¬ r.bg < x.1 := by first | assumption | omega
        exact ⟨⟨n + 1, by go_num, by omega, Quiet.trans' hkp (Quiet.trans' (Keeps.alloc _ _) (quiet_drewN _ _)), by rw [newerB_succ hx, hnone]; simpa using hge2⟩, by simp [intOf]; omega⟩
    · have hge : ¬ (n : Int) < (vs.length : Int) := by omega
      clear hc hl
      go_wp2
      go_ret
      exact ⟨ret_bool (by rw [← hnone, List.take_of_length_le (by omega)]), hkp⟩

def snapF (bg : Int) (c : Cont) (x : Ver) : Cont := if x.1 ≤ bg then x.2 else c
/-- What a snapshot shows of a key with these versions. -/
def snap (vs : List Ver) (bg : Int) : Cont := vs.foldl (snapF bg) (⟨#[]⟩, true)

theorem snap_succ {vs : List Ver} {n : Nat} {x : Ver} (h : vs[n]? = some x) (bg : Int) : snap (vs.take (n + 1)) bg = snapF bg (snap (vs.take n) bg) x := by
  rw [take_succ_of h]; simp [snap]

theorem Quiet.of_new {w w' w'' : World} {S : Nat → Prop} (h : Quiet w w') (k : Keeps S w' w'') (hs : ∀ x, S x → w.heap.size ≤ x) : Quiet w w'' := Keeps.trans h k (fun x hx => .inr (hs x hx))

set_option maxRecDepth 100000 in
set_option maxHeartbeats 1000000 in
theorem snapshot_h {w : World} {s : Sto} (H : StAt w s) {r : Rec} (hr : r ∈ s.recs) (k : ByteArray) (hk : k.size ≤ maxLen) (hb : (s.vs k).length ≤ 1000) :
    Calls Tryz.prog 150 #[.pointer (some ⟨s.sb, 2, none⟩), ptrTo r.tb, .string k] w fun e w' => e = .returned (contV (snap (s.vs k) r.bg)) ∧ Quiet w w' := by
  have hl : ∀ W, Quiet w W → ∃ a cap, (Instr.lookup 132 (.map (some s.vm)) (.string k) false).run Tryz.prog W = .ok (.slice a (s.vs k).length cap) W ∧
      ((s.vs k) = [] ∨ ∃ g, a = some ⟨g, 0, none⟩ ∧ g ∈ s.foot ∧ ∀ i x, (s.vs k)[i]? = some x → W.cell? ⟨g, i * 3, none⟩ = some (.int .i64 x.1) ∧ W.cell? ⟨g, i * 3 + 1, none⟩ = some (.string x.2.1) ∧ W.cell? ⟨g, i * 3 + 2, none⟩ = some (.bool x.2.2)) :=
    fun W hW => (H.quiet hW).look_vers k hk
  obtain ⟨a, cap, hl, hc⟩ := hl ((w.alloc (.cells #[.string ⟨#[]⟩, .bool false] 231)).alloc (.cells #[.string ⟨#[]⟩, .bool true] 231)) (Quiet.trans' (Keeps.alloc _ _) (Keeps.alloc _ _))
  have c10 : w.cell? ⟨s.sb, 10, none⟩ = some (.map (some s.vm)) := H.cell 10
  have t1 : w.cell? ⟨r.tb, 1, none⟩ = some (.int .i64 r.bg) := (H.recs r hr).cell 1
  have hlt := (H.recs r hr).lt r.tb (by simp [Rec.foot])
  have hsl := H.lt s.sb (by simp [Sto.foot])
  have hft := H.lt
  clear H
  generalize s.vs k = vs at *
  try unfold ptrTo
  go_enter Tryz.func150, Tryz.ntmps150
  go_wp2
  go_loopw [18] (fun i wr => ∃ n : Nat, i = .int .i64 n ∧ n ≤ vs.length ∧ Quiet ((w.alloc (.cells #[.string ⟨#[]⟩, .bool false] 231))) wr ∧ wr.heap[w.heap.size + 1]? = some (.cells #[.string (snap (vs.take n) r.bg).1, .bool (snap (vs.take n) r.bg).2] 231)) (fun i _ => vs.length - (intOf i).toNat)
  case atStart => exact ⟨0, rfl, Nat.zero_le _, Keeps.alloc _ _, by have := heap_alloc_new (w.alloc (.cells #[.string ⟨#[]⟩, .bool false] 231)) (.cells #[.string ⟨#[]⟩, .bool true] 231); simpa [snap] using this⟩
  case round =>
    obtain ⟨n, rfl, hn, hkp, hblk⟩ := hrel
    have hk0 : Quiet w wr := Quiet.trans' (Keeps.alloc _ _) hkp
    have hsz : w.heap.size + 2 ≤ wr.heap.size := by have := lt_of_heap hblk; omega
    by_cases hlt' : n < vs.length
    · have hlt'' : (n : Int) < (vs.length : Int) := by omega
      rcases hc with h0 | ⟨g, rfl, hg, hcell⟩
      · rw [h0] at hlt'; simp at hlt'
      obtain ⟨x, hx⟩ : ∃ x, vs[n]? = some x := ⟨_, List.getElem?_eq_getElem hlt'⟩
      obtain ⟨p1, p2, p3⟩ := hcell n x hx
      have hgl := hft g hg
      have hgo : ∀ o, ((w.alloc (.cells #[.string ⟨#[]⟩, .bool false] 231)).alloc (.cells #[.string ⟨#[]⟩, .bool true] 231)).cell? ⟨g, o, none⟩ = wr.cell? ⟨g, o, none⟩ := fun o => by
        rw [hk0.cell hgl (by simp)]; exact (Quiet.trans' (Keeps.alloc w _) (Keeps.alloc _ _)).cell hgl (by simp)
      rw [hgo] at p1 p2 p3
      have q4 : wr.cell? ⟨r.tb, 1, none⟩ = some (.int .i64 r.bg) := (hk0.cell hlt (by simp)).trans t1
      have hlt1 : r.tb < wr.heap.size := Nat.lt_of_lt_of_le hlt hk0.size
      have b0 : wr.cell? ⟨w.heap.size + 1, 0, none⟩ = some (.string (snap (vs.take n) r.bg).1) := by rw [cell_of_heap hblk]; rfl
      have b1 : wr.cell? ⟨w.heap.size + 1, 1, none⟩ = some (.bool (snap (vs.take n) r.bg).2) := by rw [cell_of_heap hblk]; rfl
      have f0 : wr.frozen? ⟨w.heap.size + 1, 0, none⟩ = false := frozen_of_heap hblk
      have f1 : wr.frozen? ⟨w.heap.size + 1, 1, none⟩ = false := frozen_of_heap hblk
      have hlb : w.heap.size + 1 < wr.heap.size := by omega
      have HS : Hid (snap (vs.take (n + 1)) r.bg = snapF r.bg (snap (vs.take n) r.bg) x) := snap_succ hx r.bg
      have hblk1 : ∀ o m, ((wr.alloc o).drewN m).heap[w.heap.size + 1]? = some (.cells #[.string (snap (vs.take n) r.bg).1, .bool (snap (vs.take n) r.bg).2] 231) := fun o m => (heap_alloc_old wr o hlb).trans hblk
      clear hcell c10 t1 hl hgo
      go_wp2
      go_quiet (fail)
      go_wp2
      · have hle : x.1 ≤ r.bg := by first | assumption | omega
        refine ⟨⟨n + 1, by go_num, by omega, ?_, ?_⟩, by simp [intOf]; omega⟩
        · refine Quiet.of_new (Quiet.of_new (Quiet.trans' hkp (Quiet.trans' (Keeps.alloc _ _) (quiet_drewN _ _))) (Keeps.setCell (S := fun b => b = w.heap.size + 1) _ _ _ rfl) (by simp)) (Keeps.setCell (S := fun b => b = w.heap.size + 1) _ _ _ rfl) (by simp)
        · rw [HS.out, snapF, if_pos hle]
          rw [heap_setCell_same (heap_setCell_same (hblk1 _ _))]
          rfl
      · have hgt : ¬ x.1 ≤ r.bg := by omega
        refine ⟨⟨n + 1, by go_num, by omega, Quiet.trans' hkp (Quiet.trans' (Keeps.alloc _ _) (quiet_drewN _ _)), ?_⟩, by simp [intOf]; omega⟩
        rw [HS.out, snapF, if_neg hgt]
        exact hblk1 _ _
    · have hge : ¬ (n : Int) < (vs.length : Int) := by omega
      have hres : wr.heap[w.heap.size]? = some (.cells #[.string ⟨#[]⟩, .bool false] 231) := (hkp.block _ (by simp) (by simp)).trans (heap_alloc_new w _)
      have b0 : wr.cell? ⟨w.heap.size + 1, 0, none⟩ = some (.string (snap (vs.take n) r.bg).1) := by rw [cell_of_heap hblk]; rfl
      have b1 : wr.cell? ⟨w.heap.size + 1, 1, none⟩ = some (.bool (snap (vs.take n) r.bg).2) := by rw [cell_of_heap hblk]; rfl
      have d0 : wr.cell? ⟨w.heap.size, 0, none⟩ = some (.string ⟨#[]⟩) := by rw [cell_of_heap hres]; rfl
      have d1 : wr.cell? ⟨w.heap.size, 1, none⟩ = some (.bool false) := by rw [cell_of_heap hres]; rfl
      have f0 : wr.frozen? ⟨w.heap.size, 0, none⟩ = false := frozen_of_heap hres
      have f1 : wr.frozen? ⟨w.heap.size, 1, none⟩ = false := frozen_of_heap hres
      have hT : vs.take n = vs := List.take_of_length_le (by omega)
      rw [hT] at b0 b1
      clear hc hl c10 t1 hT hblk
      generalize hcd : snap vs r.bg = c at *
      have HCD : Hid (snap vs r.bg = c) := hcd
      clear hcd
      have e0 : ((wr.setCell ⟨w.heap.size, 0, none⟩ (.string c.1)).setCell ⟨w.heap.size, 1, none⟩ (.bool c.2)).heap[w.heap.size]? = some (.cells #[.string c.1, .bool c.2] 231) := heap_setCell_same (heap_setCell_same hres)
      have e1 : ((wr.setCell ⟨w.heap.size, 0, none⟩ (.string c.1)).setCell ⟨w.heap.size, 1, none⟩ (.bool c.2)).cell? ⟨w.heap.size, 0, none⟩ = some (.string c.1) := by rw [cell_of_heap e0]; rfl
      have e2 : ((wr.setCell ⟨w.heap.size, 0, none⟩ (.string c.1)).setCell ⟨w.heap.size, 1, none⟩ (.bool c.2)).cell? ⟨w.heap.size, 1, none⟩ = some (.bool c.2) := by rw [cell_of_heap e0]; rfl
      have hQ : Quiet w ((wr.setCell ⟨w.heap.size, 0, none⟩ (.string c.1)).setCell ⟨w.heap.size, 1, none⟩ (.bool c.2)) :=
        Quiet.of_new (Quiet.of_new hk0 (Keeps.setCell (S := fun b => b = w.heap.size) _ _ _ rfl) (by simp)) (Keeps.setCell (S := fun b => b = w.heap.size) _ _ _ rfl) (by simp)
      clear e0
      go_wp2
      exact bodyPost_ret (v := contV c) (by simp [results, Tryz.results150, go_sem, contV, e1, e2]) rfl ⟨by rw [HCD.out], hQ⟩

end Go.Proofs.YthfimgeopciiiaaGreat
