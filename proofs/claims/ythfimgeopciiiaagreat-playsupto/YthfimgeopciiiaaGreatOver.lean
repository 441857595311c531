/-
  Who overlaps a transaction and is meant: a list of its own, in whatever order.
-/
import Derived.Test.YthfimgeopciiiaaGreatReadE
namespace Go.Proofs.YthfimgeopciiiaaGreat
open Go.MapKept Go.ChangeMaps Go.Maps Go.RowKit

/-- a slice of pointers in a row that is new since 'base' -/
abbrev NSl (base : Nat) (w : World) (v : Value) (l : List Nat) : Prop := w.ownsRow base 168 1 v l.length (l.map ptrTo)

def overF (t : Nat) (bg : Int) (g : Nat → Bool) (x : Rec) : Bool := !(x.tb == t) && (overlapsB bg x.cm && g x.tb)

theorem filter_perm_step {α : Type} {f : α → Bool} {left left' : List α} {p : α} (h : left.Perm (p :: left')) : (left.filter f).Perm (if f p then p :: left'.filter f else left'.filter f) := by
  have := h.filter f
  rw [List.filter_cons] at this
  exact this

set_option maxRecDepth 100000 in
set_option maxHeartbeats 2000000 in
theorem overlapping_walk (w : World) (sb tm t cb fid : Nat) (bg : Int) (g : Nat → Bool) (ts : List (Int × Nat)) (F : Nat → Rec)
    (c8 : w.cell? ⟨sb, 8, none⟩ = some (.map (some tm))) (hm : MapIs hk ptrTo w tm ts) (HR : RecsAt w ts F) (ct : Array Value) (hct : w.heap[t]? = some (.cells ct 174)) (hbg : ct[1]? = some (.int .i64 bg)) (hts : ts.length ≤ 1000)
    (hf : ∀ p ∈ ts, ∀ W, Quiet w W → Calls Tryz.prog fid #[.pointer (some ⟨p.2, 0, none⟩), .pointer (some ⟨cb, 0, none⟩)] W fun e w' => e = .returned (.bool (g p.2)) ∧ Quiet W w')
    (hfn : ∀ (W : World) (x : Value), (callFunc fid #[x, .pointer (some ⟨cb, 0, none⟩)]).run Tryz.prog W = .ok (.enter fid #[x, .pointer (some ⟨cb, 0, none⟩)]) W) :
    Calls Tryz.prog 155 #[.pointer (some ⟨sb, 2, none⟩), ptrTo t, .func (.func fid) #[] #[.pointer (some ⟨cb, 0, none⟩)]] w fun e w' => ∃ v l, e = .returned v ∧ NSl w.heap.size w' v l ∧ l.Perm ((ts.filter fun p => overF t bg g (F p.2)).map (·.2)) ∧ Quiet w w' := by
  obtain ⟨i0, hi0, hz0, hz1, hz2⟩ := info_parts info_ptxn
  have HFn : Hid (∀ p ∈ ts, ∀ W, Quiet w W → Calls Tryz.prog fid #[.pointer (some ⟨p.2, 0, none⟩), .pointer (some ⟨cb, 0, none⟩)] W fun e w' => e = .returned (.bool (g p.2)) ∧ Quiet W w') := hf
  have hml := hm.lt
  clear hf
  try unfold ptrTo
  go_enter Tryz.func155, Tryz.ntmps155
  go_wp2_with (first
    | (at_range; refine wpList_range_is _ rfl _ 128 rfl 3 168 Tryz.underlying128 tm _ rfl hm ?_; intro w0 hrg0 hk0 hs0)
    | go_in)
  go_frame
  go_loopw [7] (fun v wr => ∃ left l, RangeIs hk ptrTo wr tm w.heap.size ts left ∧ Quiet w wr ∧ NSl w.heap.size wr v l ∧ v.ownBlock ≠ some w.heap.size ∧ left.length + l.length ≤ ts.length ∧
      (l ++ (left.filter fun p => overF t bg g (F p.2)).map (·.2)).Perm ((ts.filter fun p => overF t bg g (F p.2)).map (·.2)))
    (fun _ wr => wr.rangeLeft tm w.heap.size)
  case atStart => exact ⟨ts, [], hrg0, hk0, World.ownsRow_nil _ _ _ _, by simp [Value.ownBlock], by simp, List.Perm.refl _⟩
  case round =>
    obtain ⟨left, l, hrg, hkp, hown, hvr, hll, hperm⟩ := hrel
    have HP : Hid ((l ++ (left.filter fun p => overF t bg g (F p.2)).map (·.2)).Perm ((ts.filter fun p => overF t bg g (F p.2)).map (·.2))) := hperm
    clear hperm
    go_wp2_with (first
      | (at_next; refine wpList_next_is _ rfl _ rfl tm w.heap.size ts left rfl hrg ?_ ?_)
      | go_in)
    · refine ⟨fun h0 => ?_⟩
      subst h0
      go_wp2
      go_ret
      exact ⟨_, l, rfl, hown, by simpa using HP.out, hkp⟩
    · refine ⟨fun ⟨x⟩ ⟨y⟩ left' w1 hp hmem hrg1 hk1 hs1 hen => ?_⟩
      have hkp1 : Quiet w w1 := Keeps.trans hkp hk1 (fun b hb => .inr (by omega))
      obtain ⟨R, hRe⟩ := (HR.quiet hkp1).at_ _ hmem
      simp only at R hRe
      have HB : Hid ((l ++ (if overF t bg g (F y) then y :: (left'.filter fun p => overF t bg g (F p.2)).map (·.2) else (left'.filter fun p => overF t bg g (F p.2)).map (·.2))).Perm ((ts.filter fun p => overF t bg g (F p.2)).map (·.2))) := by
        have h1 := (filter_perm_step (f := fun p => overF t bg g (F p.2)) hp).map (·.2)
        refine List.Perm.trans (List.Perm.append_left l ?_) HP.out
        refine List.Perm.trans ?_ h1.symm
        simp only
        split <;> simp
      have hlen := hp.length_eq
      have HFy : Hid (∀ W, Quiet w W → Calls Tryz.prog fid #[.pointer (some ⟨y, 0, none⟩), .pointer (some ⟨cb, 0, none⟩)] W fun e w' => e = .returned (.bool (g y)) ∧ Quiet W w') := HFn.out _ hmem
      have hct1 : w1.heap[t]? = some (.cells ct 174) := (hkp1.block t (lt_of_heap hct) (by simp)).trans hct
      have hown1 : NSl w.heap.size w1 _ l := ownsRow_of_block hown (fun b hb => hk1.block b (hown.lt b hb).2 (fun e => hvr (by rw [hb, e])))
      have hrt1 : w1.heap[y]? = some (.cells (F y).cells 174) := by have := R.own; rw [hRe] at this; exact this
      have HOv : Hid (Calls Tryz.prog 203 #[.pointer (some ⟨t, 0, none⟩), .pointer (some ⟨y, 0, none⟩)] w1 fun e w' => e = .returned (.bool (overlapsB bg (F y).cm)) ∧ Quiet w1 w') :=
        overlaps_any t y bg (F y).cm w1 (by rw [cell_of_heap hct1]; exact hbg) (by rw [cell_of_heap hrt1]; rfl)
      have hoF : overF t bg g (F y) = (!(y == t) && (overlapsB bg (F y).cm && g y)) := by simp [overF, hRe]
      rw [Hid, hoF] at HB
      simp only [hk, ptrTo] at hen
      clear HP HFn hm c8 R HR hRe hoF hs1 hs0
      by_cases ht : y = t
      · have hnq := neq_same w1 y
        have HC : Hid ((l ++ (left'.filter fun p => overF t bg g (F p.2)).map (·.2)).Perm ((ts.filter fun p => overF t bg g (F p.2)).map (·.2))) := by simpa [Hid, ht] using HB
        subst ht
        clear HB HOv
        go_wp2
        go_roundw
        case rel => exact ⟨left', l, hrg1, hkp1, hown1, hvr, by simp at hlen; omega, HC.out⟩
        case measure => rw [hrg1.left_eq, hrg.left_eq, hlen]; simp
      · have hnq := neq_other w1 ht hrt1 hct1
        have hyt : (y == t) = false := by simpa using ht
        rw [hyt, Bool.not_false, Bool.true_and] at HB
        clear ht hyt hct1 hrt1
        by_cases hov : overlapsB bg (F y).cm = true
        · have HOv2 := HOv.out
          rw [hov] at HOv2 HB
          rw [Bool.true_and] at HB
          have HO := hidC HOv2
          clear HOv HOv2 hov
          by_cases hgy : g y = true
          · rw [hgy, if_pos rfl] at HB
            have HFy2 : Hid (∀ W, Quiet w W → Calls Tryz.prog fid #[.pointer (some ⟨y, 0, none⟩), .pointer (some ⟨cb, 0, none⟩)] W fun e w' => e = .returned (.bool true) ∧ Quiet W w') := fun W hW => by have := HFy.out W hW; rw [hgy] at this; exact this
            clear HFy hgy
            go_wp2_with (first | (go_at_call 203; refine (HO.out).mono ?_; rintro e w2 ⟨rfl, hq2⟩) | fail)
            refine (HFy2.out _ (Quiet.trans' hkp1 hq2)).mono ?_
            rintro e w3 ⟨rfl, hq3⟩
            have hq13 := Quiet.trans' hq2 hq3
            have hown3 := ownsRow_of_block hown1 (fun b hb => hq13.block b (hown1.lt b hb).2 (by simp))
            have hrg3 := hrg1.kept hq13 (by simp) (by simp)
            have hsz3 := (Quiet.trans' hkp1 hq13).size
            have hrl3 := hrg3.lt
            have hll3 : l.length ≤ 1000 := by omega
            clear HFy2 HO hown1 hown
            go_wp2_with (first
              | (at_builtin; refine wpList_append_own_at _ rfl _ _ 129 rfl w.heap.size 168 i0 (.pointer none) 1 8 Tryz.underlying129 hi0 hz0 hz1 hz2 rfl (by decide) _ _ _ rfl (hown3.alloc _) ⟨w3.heap.size, 0, none⟩ 1 1 [ptrTo y] rfl rfl ?_ ?_ ?_ ?_ ?_ ?_)
              | fail)
            · exact cell_oneNew w3 (ptrTo y) 168
            · intro u hu; simp only [List.mem_singleton] at hu; subst hu; rfl
            · unfold maxLen; omega
            · omega
            · simp; omega
            intro v' w4 hown4 hgrow hnil hloc
            have k4 := keeps_of_grown hgrow
            have hlo := hown3.lt
            have hq4 : Quiet w w4 := Quiet.of_new (Quiet.trans' (Quiet.trans' hkp1 hq13) (Keeps.alloc _ _)) k4 (fun b hb => (hlo b hb).1)
            have hrg4 : RangeIs hk ptrTo w4 tm w.heap.size ts left' := (hrg3.kept (Keeps.alloc (S := fun _ => False) _ _) (by simp) (by simp)).kept k4 (fun hb => by have := (hlo _ hb).1; omega) (fun hb => hvr hb)
            have hown5 : NSl w.heap.size w4 v' (l ++ [y]) := by
              have e1 : (l ++ [y]).length = l.length + 1 := by simp
              have e2 : (l ++ [y]).map ptrTo = l.map ptrTo ++ [ptrTo y] := by simp
              rw [NSl, e1, e2]; exact hown4
            have hvr5 : v'.ownBlock ≠ some w.heap.size := fun e => by
              rcases hloc with h | h
              · exact hvr (h ▸ e)
              · rw [h] at e; simp at e; omega
            have HC : Hid ((l ++ [y] ++ (left'.filter fun p => overF t bg g (F p.2)).map (·.2)).Perm ((ts.filter fun p => overF t bg g (F p.2)).map (·.2))) := by
              rw [Hid, List.append_assoc]; exact HB
            clear HB hown4 hgrow hnil hloc k4 hown3
            go_wp2
            go_roundw
            case rel => exact ⟨left', l ++ [y], hrg4, hq4, hown5, hvr5, by simp at hlen ⊢; omega, HC.out⟩
            case measure => rw [hrg4.left_eq, hrg.left_eq, hlen]; simp
          · have hgy' : g y = false := by simpa using hgy
            rw [hgy', if_neg (by simp)] at HB
            have HFy2 : Hid (∀ W, Quiet w W → Calls Tryz.prog fid #[.pointer (some ⟨y, 0, none⟩), .pointer (some ⟨cb, 0, none⟩)] W fun e w' => e = .returned (.bool false) ∧ Quiet W w') := fun W hW => by have := HFy.out W hW; rw [hgy'] at this; exact this
            clear HFy hgy hgy'
            go_wp2_with (first | (go_at_call 203; refine (HO.out).mono ?_; rintro e w2 ⟨rfl, hq2⟩) | fail)
            refine (HFy2.out _ (Quiet.trans' hkp1 hq2)).mono ?_
            rintro e w3 ⟨rfl, hq3⟩
            have hq13 := Quiet.trans' hq2 hq3
            have hown3 := ownsRow_of_block hown1 (fun b hb => hq13.block b (hown1.lt b hb).2 (by simp))
            have hrg3 := hrg1.kept hq13 (by simp) (by simp)
            go_wp2
            go_roundw
            case rel => exact ⟨left', l, hrg3, Quiet.trans' hkp1 hq13, hown3, hvr, by simp at hlen; omega, HB⟩
            case measure => rw [hrg3.left_eq, hrg.left_eq, hlen]; simp
        · have hov' : overlapsB bg (F y).cm = false := by simpa using hov
          have HOv2 := HOv.out
          rw [hov'] at HOv2
          have HO := hidC HOv2
          have HC : Hid ((l ++ (left'.filter fun p => overF t bg g (F p.2)).map (·.2)).Perm ((ts.filter fun p => overF t bg g (F p.2)).map (·.2))) := by simpa [Hid, hov'] using HB
          clear HB HOv HOv2 hov hov'
          go_wp2_with (go_at_call 203; refine (HO.out).mono ?_; rintro e w2 ⟨rfl, hq2⟩)
          have hrg2 := hrg1.kept hq2 (by simp) (by simp)
          go_roundw
          case rel => exact ⟨left', l, hrg2, Quiet.trans' hkp1 hq2, ownsRow_of_block hown1 (fun b hb => hq2.block b (hown1.lt b hb).2 (by simp)), hvr, by simp at hlen; omega, HC.out⟩
          case measure => rw [hrg2.left_eq, hrg.left_eq, hlen]; simp
end Go.Proofs.YthfimgeopciiiaaGreat
