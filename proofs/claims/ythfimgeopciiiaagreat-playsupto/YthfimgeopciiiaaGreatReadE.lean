/-
  Has a record read a key of some changes; is one of them taken.
-/
import Derived.Test.YthfimgeopciiiaaGreatReadD
namespace Go.Proofs.YthfimgeopciiiaaGreat
open Go.MapKept Go.ChangeMaps Go.Maps Go.RowKit

def readF (cs : List Chg) (e : Ent) : Bool := cs.any fun c => coversB e c.1

theorem any_take_succ {α : Type} {f : α → Bool} {l : List α} {n : Nat} {x : α} (h : l[n]? = some x) : (l.take (n + 1)).any f = ((l.take n).any f || f x) := by
  rw [take_succ_of h]; simp

theorem any_true_at {α : Type} {f : α → Bool} {l : List α} {n : Nat} {x : α} (h : l[n]? = some x) (hf : f x = true) : l.any f = true :=
  List.any_eq_true.2 ⟨x, List.mem_of_getElem? h, hf⟩

set_option maxRecDepth 100000 in
set_option maxHeartbeats 2000000 in
theorem hasRead_h (w : World) (r : Rec) (R : RecAt w r) (v : Value) (cs : List Chg) (hch : ChAt w v cs) :
    Calls Tryz.prog 157 #[ptrTo r.tb, v] w fun e w' => e = .returned (.bool (r.rd.any fun p => readF cs p.1)) ∧ Quiet w w' := by
  have c4 : w.cell? ⟨r.tb, 4, none⟩ = some (.map (some r.rb)) := R.cell 4
  have hm := R.rd
  have HC : Hid (∀ (x : Bool) (lo hi k : ByteArray) (W : World), Calls Tryz.prog 204 #[.agg #[.bool x, .string lo, .string hi], .string k] W fun e w' => e = .returned (.bool (coversB (x, lo, hi) k)) ∧ Quiet W w') := fun x lo hi k W => covers_any x lo hi k W
  obtain ⟨⟨a, cap, rfl, hc⟩, hlen⟩ := hch
  generalize r.rd = rd0 at *
  clear R
  try unfold ptrTo
  go_enter Tryz.func157, Tryz.ntmps157
  go_wp2_with (first
    | (at_range; refine wpList_range_is _ rfl _ 172 rfl 213 121 Tryz.underlying172 r.rb rd0 rfl hm ?_; intro w0 hrg0 hk0 hs0)
    | go_in)
  go_frame
  go_loopw [5] (fun _ wr => ∃ left, RangeIs ek unitV wr r.rb w.heap.size rd0 left ∧ Quiet w wr ∧ (rd0.any fun p => readF cs p.1) = (left.any fun p => readF cs p.1))
    (fun _ wr => wr.rangeLeft r.rb w.heap.size)
  case atStart => exact ⟨_, hrg0, hk0, rfl⟩
  case round =>
    obtain ⟨left, hrg, hkp, hany⟩ := hrel
    have HA : Hid ((rd0.any fun p => readF cs p.1) = (left.any fun p => readF cs p.1)) := hany
    clear hany
    go_wp2_with (first
      | (at_next; refine wpList_next_is _ rfl _ rfl r.rb w.heap.size rd0 left rfl hrg ?_ ?_)
      | go_in)
    · refine ⟨fun h0 => ?_⟩
      subst h0
      go_wp2
      go_ret
      exact ⟨ret_bool (by rw [HA.out]; rfl), hkp⟩
    · refine ⟨fun ⟨en⟩ ⟨y⟩ left' w1 hp hmem hrg1 hk1 hs1 hen => ?_⟩
      obtain ⟨x, lo, hi⟩ := en
      have hkp1 : Quiet w w1 := Keeps.trans hkp hk1 (fun b hb => .inr (by omega))
      have HB : Hid ((rd0.any fun p => readF cs p.1) = (readF cs (x, lo, hi) || (left'.any fun p => readF cs p.1))) := by
        rw [Hid, HA.out, any_perm hp, List.any_cons]
      simp only [ek, unitV] at hen
      clear HA hm c4 hs1 hs0
      go_wp2
      go_loopw [19] (fun i wr => ∃ n : Nat, i = .int .i64 n ∧ n ≤ cs.length ∧ Quiet (w1.alloc (.cells #[.bool x, .string lo, .string hi] 213)) wr ∧ (cs.take n).any (fun c => coversB (x, lo, hi) c.1) = false) (fun i _ => cs.length - (intOf i).toNat)
      case atStart => exact ⟨0, rfl, Nat.zero_le _, Keeps.refl _ _, rfl⟩
      case round =>
        obtain ⟨n, rfl, hn, hkp2, hnone⟩ := hrel
        have HN : Hid ((cs.take n).any (fun c => coversB (x, lo, hi) c.1) = false) := hnone
        clear hnone
        have hq1 : Quiet w1 wr := Quiet.trans' (Keeps.alloc _ _) hkp2
        have hqw : Quiet w wr := Quiet.trans' hkp1 hq1
        by_cases hlt' : n < cs.length
        · have hlt'' : (n : Int) < (cs.length : Int) := by omega
          rcases hc with h0 | ⟨g, o, rfl, hg, hcell⟩
          · rw [h0] at hlt'; simp at hlt'
          obtain ⟨c, hcx⟩ : ∃ c, cs[n]? = some c := ⟨_, List.getElem?_eq_getElem hlt'⟩
          obtain ⟨p1, p2, p3⟩ := hcell n c hcx
          rw [← hqw.cell hg (by simp)] at p1 p2 p3
          have hbox : wr.heap[w1.heap.size]? = some (.cells #[.bool x, .string lo, .string hi] 213) := (hkp2.block _ (by simp) (by simp)).trans (heap_alloc_new w1 _)
          have hbl := lt_of_heap hbox
          have b0 : wr.cell? ⟨w1.heap.size, 0, none⟩ = some (.bool x) := by rw [cell_of_heap hbox]; rfl
          have b1 : wr.cell? ⟨w1.heap.size, 1, none⟩ = some (.string lo) := by rw [cell_of_heap hbox]; rfl
          have b2 : wr.cell? ⟨w1.heap.size, 2, none⟩ = some (.string hi) := by rw [cell_of_heap hbox]; rfl
          have HE := fun ob => HC.out x lo hi c.1 (wr.alloc ob)
          clear hbox hcell HC
          by_cases hcv : coversB (x, lo, hi) c.1 = true
          · simp only [hcv] at HE
            have HF : Hid (∀ ob, Calls Tryz.prog 204 #[.agg #[.bool x, .string lo, .string hi], .string c.1] (wr.alloc ob) fun e w' => e = .returned (.bool true) ∧ Quiet (wr.alloc ob) w') := HE
            have HD : Hid ((rd0.any fun p => readF cs p.1) = true) := by
              rw [Hid, HB.out, readF, any_true_at (f := fun c => coversB (x, lo, hi) c.1) hcx hcv]; rfl
            clear HE hcv HB
            go_wp2_with (go_at_call 204; refine (HF.out _).mono ?_; rintro e w2 ⟨rfl, hq2⟩)
            go_ret
            exact ⟨ret_bool HD.out.symm, Quiet.trans' hqw (Quiet.trans' (Keeps.alloc _ _) hq2)⟩
          · have hcv' : coversB (x, lo, hi) c.1 = false := by simpa using hcv
            simp only [hcv'] at HE
            have HF : Hid (∀ ob, Calls Tryz.prog 204 #[.agg #[.bool x, .string lo, .string hi], .string c.1] (wr.alloc ob) fun e w' => e = .returned (.bool false) ∧ Quiet (wr.alloc ob) w') := HE
            have HD : Hid ((cs.take (n + 1)).any (fun c => coversB (x, lo, hi) c.1) = false) := by
              rw [Hid, any_take_succ hcx, HN.out, hcv']; rfl
            clear HE hcv hcv'
            go_wp2_with (go_at_call 204; refine (HF.out _).mono ?_; rintro e w2 ⟨rfl, hq2⟩)
            exact ⟨⟨n + 1, by go_num, by omega, Quiet.trans' hkp2 (Quiet.trans' (Keeps.alloc _ _) hq2), HD.out⟩, by simp [intOf]; omega⟩
        · have hge : ¬ (n : Int) < (cs.length : Int) := by omega
          have HD : Hid ((rd0.any fun p => readF cs p.1) = (left'.any fun p => readF cs p.1)) := by
            have := HN.out
            rw [List.take_of_length_le (by omega)] at this
            rw [Hid, HB.out, readF, this]; rfl
          have hrg2 := hrg1.kept hq1 (by simp) (by simp)
          clear hc HC
          go_wp2
          refine ⟨⟨left', hrg2, hqw, HD.out⟩, ?_⟩
          rw [hrg2.left_eq, hrg.left_eq, hp.length_eq]; simp

def conflictF (s : Sto) (r : Rec) (k : ByteArray) : Bool := heldB s r.tb k || newerB (s.vs k) r.bg

set_option maxRecDepth 100000 in
set_option maxHeartbeats 2000000 in
theorem conflicts_h {w : World} {s : Sto} (H : StAt w s) {r : Rec} (hr : r ∈ s.recs) (v : Value) (cs : List Chg) (hch : ChAt w v cs) (hks : ∀ c ∈ cs, c.1.size ≤ maxLen) (hb : ∀ k, (s.vs k).length ≤ 1000) :
    Calls Tryz.prog 98 #[.pointer (some ⟨s.sb, 2, none⟩), ptrTo r.tb, v] w fun e w' => e = .returned (.bool (cs.any fun c => conflictF s r c.1)) ∧ Quiet w w' := by
  have HH : Hid (∀ (k : ByteArray) (W : World), k.size ≤ maxLen → Quiet w W → Calls Tryz.prog 153 #[.pointer (some ⟨s.sb, 2, none⟩), .pointer (some ⟨r.tb, 0, none⟩), .string k] W fun e w' => e = .returned (.bool (heldB s r.tb k)) ∧ Quiet W w') :=
    fun k W hk hW => isHeld_h (H.quiet hW) hr k hk
  have HN : Hid (∀ (k : ByteArray) (W : World), k.size ≤ maxLen → Quiet w W → Calls Tryz.prog 154 #[.pointer (some ⟨s.sb, 2, none⟩), .pointer (some ⟨r.tb, 0, none⟩), .string k] W fun e w' => e = .returned (.bool (newerB (s.vs k) r.bg)) ∧ Quiet W w') :=
    fun k W hk hW => isNewer_h (H.quiet hW) hr k hk (hb k)
  obtain ⟨⟨a, cap, rfl, hc⟩, hlen⟩ := hch
  have HK : Hid (∀ c ∈ cs, c.1.size ≤ maxLen) := hks
  clear hks hb H
  try unfold ptrTo
  go_enter Tryz.func98, Tryz.ntmps98
  go_wp2
  go_loopw [11] (fun i wr => ∃ n : Nat, i = .int .i64 n ∧ n ≤ cs.length ∧ Quiet w wr ∧ (cs.take n).any (fun c => conflictF s r c.1) = false) (fun i _ => cs.length - (intOf i).toNat)
  case atStart => exact ⟨0, rfl, Nat.zero_le _, Keeps.refl _ _, rfl⟩
  case round =>
    obtain ⟨n, rfl, hn, hkp, hnone⟩ := hrel
    have HNo : Hid ((cs.take n).any (fun c => conflictF s r c.1) = false) := hnone
    clear hnone
    by_cases hlt' : n < cs.length
    · have hlt'' : (n : Int) < (cs.length : Int) := by omega
      rcases hc with h0 | ⟨g, o, rfl, hg, hcell⟩
      · rw [h0] at hlt'; simp at hlt'
      obtain ⟨x, hx⟩ : ∃ x, cs[n]? = some x := ⟨_, List.getElem?_eq_getElem hlt'⟩
      obtain ⟨p1, p2, p3⟩ := hcell n x hx
      rw [← hkp.cell hg (by simp)] at p1 p2 p3
      have hxk := HK.out x (List.mem_of_getElem? hx)
      have HH1 := fun ob => HH.out x.1 (wr.alloc ob) hxk (Quiet.trans' hkp (Keeps.alloc _ _))
      have HT : Hid (conflictF s r x.1 = true → (cs.any fun c => conflictF s r c.1) = true) := fun h => any_true_at (f := fun c => conflictF s r c.1) hx h
      have HF : Hid (conflictF s r x.1 = false → (cs.take (n + 1)).any (fun c => conflictF s r c.1) = false) := fun h => by rw [any_take_succ hx, HNo.out, h]; rfl
      clear hcell
      by_cases hh : heldB s r.tb x.1 = true
      · simp only [hh] at HH1
        have HE : Hid (∀ ob, Calls Tryz.prog 153 #[.pointer (some ⟨s.sb, 2, none⟩), .pointer (some ⟨r.tb, 0, none⟩), .string x.1] (wr.alloc ob) fun e w' => e = .returned (.bool true) ∧ Quiet (wr.alloc ob) w') := HH1
        have HD : Hid ((cs.any fun c => conflictF s r c.1) = true) := HT.out (by simp [conflictF, hh])
        clear HH1 hh
        go_wp2_with (go_at_call 153; refine (HE.out _).mono ?_; rintro e w2 ⟨rfl, hq2⟩)
        go_ret
        exact ⟨ret_bool HD.out.symm, Quiet.trans' hkp (Quiet.trans' (Keeps.alloc _ _) hq2)⟩
      · have hh' : heldB s r.tb x.1 = false := by simpa using hh
        simp only [hh'] at HH1
        have HE : Hid (∀ ob, Calls Tryz.prog 153 #[.pointer (some ⟨s.sb, 2, none⟩), .pointer (some ⟨r.tb, 0, none⟩), .string x.1] (wr.alloc ob) fun e w' => e = .returned (.bool false) ∧ Quiet (wr.alloc ob) w') := HH1
        have HX : Hid (∀ (ob : Obj) (w2 : World), Quiet (wr.alloc ob) w2 → (∀ i, w2.cell? ⟨wr.heap.size, i, none⟩ = (wr.alloc ob).cell? ⟨wr.heap.size, i, none⟩) ∧ Quiet w w2) := fun ob w2 h2 =>
          ⟨fun i => h2.cell (by simp) (by simp), Quiet.trans' hkp (Quiet.trans' (Keeps.alloc _ _) h2)⟩
        clear HH1 hh
        by_cases hnw : newerB (s.vs x.1) r.bg = true
        · have HNn : Hid (∀ W, Quiet w W → Calls Tryz.prog 154 #[.pointer (some ⟨s.sb, 2, none⟩), .pointer (some ⟨r.tb, 0, none⟩), .string x.1] W fun e w' => e = .returned (.bool true) ∧ Quiet W w') := fun W hW => by have := HN.out x.1 W hxk hW; rw [hnw] at this; exact this
          have HD : Hid ((cs.any fun c => conflictF s r c.1) = true) := HT.out (by simp [conflictF, hnw])
          clear hnw hh'
          go_wp2_with (first | (go_at_call 153; refine (HE.out _).mono ?_; rintro e w2 ⟨rfl, hq2⟩; obtain ⟨hx2, hq3⟩ := HX.out _ _ hq2; have hx20 := hx2 0; simp at hx20) | (go_at_call 154; refine (HNn.out _ hq3).mono ?_; rintro e w4 ⟨rfl, hq4⟩))
          go_ret
          exact ⟨ret_bool HD.out.symm, Quiet.trans' hq3 hq4⟩
        · have hnw' : newerB (s.vs x.1) r.bg = false := by simpa using hnw
          have HNn : Hid (∀ W, Quiet w W → Calls Tryz.prog 154 #[.pointer (some ⟨s.sb, 2, none⟩), .pointer (some ⟨r.tb, 0, none⟩), .string x.1] W fun e w' => e = .returned (.bool false) ∧ Quiet W w') := fun W hW => by have := HN.out x.1 W hxk hW; rw [hnw'] at this; exact this
          have HD : Hid ((cs.take (n + 1)).any (fun c => conflictF s r c.1) = false) := HF.out (by simp [conflictF, hnw', hh'])
          clear hnw hnw' hh'
          go_wp2_with (first | (go_at_call 153; refine (HE.out _).mono ?_; rintro e w2 ⟨rfl, hq2⟩; obtain ⟨hx2, hq3⟩ := HX.out _ _ hq2; have hx20 := hx2 0; simp at hx20) | (go_at_call 154; refine (HNn.out _ hq3).mono ?_; rintro e w4 ⟨rfl, hq4⟩))
          exact ⟨⟨n + 1, by go_num, by omega, Quiet.trans' hq3 hq4, HD.out⟩, by simp [intOf]; omega⟩
    · have hge : ¬ (n : Int) < (cs.length : Int) := by omega
      clear hc
      go_wp2
      go_ret
      exact ⟨ret_bool (by have := HNo.out; rw [List.take_of_length_le (by omega)] at this; rw [this]), hkp⟩

end Go.Proofs.YthfimgeopciiiaaGreat
