/-
  A store's readers: is a key held by another one; what was read or written.
-/
import Derived.Test.YthfimgeopciiiaaGreatReadB
import Derived.LaidEql
namespace Go.Proofs.YthfimgeopciiiaaGreat
open Go.MapKept Go.ChangeMaps Go.Maps Go.RowKit

theorem any_perm {α : Type} {f : α → Bool} {l l' : List α} (h : l.Perm l') : l.any f = l'.any f := by
  rw [Bool.eq_iff_iff, List.any_eq_true, List.any_eq_true]
  exact ⟨fun ⟨x, hx, hf⟩ => ⟨x, h.mem_iff.1 hx, hf⟩, fun ⟨x, hx, hf⟩ => ⟨x, h.mem_iff.2 hx, hf⟩⟩

/-- The records as the map's pairs have them. -/
structure RecsAt (w : World) (ts : List (Int × Nat)) (F : Nat → Rec) : Prop where
  at_ : ∀ p ∈ ts, RecAt w (F p.2) ∧ (F p.2).tb = p.2

theorem StAt.recsAt {w : World} {s : Sto} (H : StAt w s) : RecsAt w (s.recs.map fun r => (r.h, r.tb)) s.byTb := ⟨fun p hp => by
  obtain ⟨r, hr, rfl⟩ := List.mem_map.1 hp
  have e := Sto.byTb_eq H.nd hr
  exact ⟨by rw [e]; exact H.recs r hr, by rw [e]⟩⟩

theorem RecsAt.quiet {w w' : World} {ts : List (Int × Nat)} {F : Nat → Rec} (h : RecsAt w ts F) (k : Quiet w w') : RecsAt w' ts F :=
  ⟨fun p hp => ⟨(h.at_ p hp).1.of_blocks (fun b hb => k.block b ((h.at_ p hp).1.lt b hb) (by simp)), (h.at_ p hp).2⟩⟩

theorem any_recs {s : Sto} (h : s.foot.Nodup) (f : Rec → Bool) : (s.recs.map fun r => (r.h, r.tb)).any (fun p => f (s.byTb p.2)) = s.recs.any f := by
  rw [List.any_map]
  rw [Bool.eq_iff_iff, List.any_eq_true, List.any_eq_true]
  constructor
  · rintro ⟨x, hx, hf⟩; refine ⟨x, hx, ?_⟩; simp only [Function.comp, Sto.byTb_eq h hx] at hf; exact hf
  · rintro ⟨x, hx, hf⟩; refine ⟨x, hx, ?_⟩; simp only [Function.comp, Sto.byTb_eq h hx]; exact hf

theorem info_txn : (Tryz.prog.info? 174).map (fun i => i.size) = some 8 := by kernel_rfl

theorem neq_same (w : World) (a : Nat) : (binOp .neq 168 (.pointer (some ⟨a, 0, none⟩)) (.pointer (some ⟨a, 0, none⟩))).run Tryz.prog w = .ok (.bool false) w := by
  obtain ⟨j, hj, hs⟩ := Option.map_eq_some_iff.1 info_txn
  have h : ∀ d : Nat, (Op.equalIn (d + 1) 168 (.pointer (some ⟨a, 0, none⟩)) (.pointer (some ⟨a, 0, none⟩))).run Tryz.prog w = .ok true w := fun d => by
    simp [Op.equalIn, run_underlying Tryz.underlying168, Go.sizeOf, typeInfo, hj, run_sameAddr_same]
  simp only [binOp]
  simp [Op.equal, Op.maxDepth, h 9999]

theorem neq_other (w : World) {a b : Nat} {ca cb : Array Value} {ta tb : TypeId} (hne : a ≠ b) (ha : w.heap[a]? = some (.cells ca ta)) (hb : w.heap[b]? = some (.cells cb tb)) :
    (binOp .neq 168 (.pointer (some ⟨a, 0, none⟩)) (.pointer (some ⟨b, 0, none⟩))).run Tryz.prog w = .ok (.bool true) w := by
  obtain ⟨j, hj, hs⟩ := Option.map_eq_some_iff.1 info_txn
  have h : ∀ d : Nat, (Op.equalIn (d + 1) 168 (.pointer (some ⟨a, 0, none⟩)) (.pointer (some ⟨b, 0, none⟩))).run Tryz.prog w = .ok false w := fun d => by
    simp [Op.equalIn, run_underlying Tryz.underlying168, Go.sizeOf, typeInfo, hj, hs, run_sameAddr_other w (a := ⟨a, 0, none⟩) (b := ⟨b, 0, none⟩) (fun e => hne (congrArg Addr.block e)) ha hb]
  simp only [binOp]
  simp [Op.equal, Op.maxDepth, h 9999]

def heldF (t : Nat) (k : ByteArray) (x : Rec) : Bool := (look x.wr k).isSome && !(x.tb == t) && (x.cm == 0)

set_option maxRecDepth 100000 in
set_option maxHeartbeats 1000000 in
theorem isHeld_walk (w : World) (sb tm t : Nat) (ts : List (Int × Nat)) (F : Nat → Rec) (k : ByteArray) (hks : k.size ≤ maxLen)
    (c8 : w.cell? ⟨sb, 8, none⟩ = some (.map (some tm))) (hm : MapIs hk ptrTo w tm ts) (HR : RecsAt w ts F) (ct : Array Value) (hct : w.heap[t]? = some (.cells ct 174)) :
    Calls Tryz.prog 153 #[.pointer (some ⟨sb, 2, none⟩), ptrTo t, .string k] w fun e w' => e = .returned (.bool (ts.any fun p => heldF t k (F p.2))) ∧ Quiet w w' := by
  try unfold ptrTo
  go_enter Tryz.func153, Tryz.ntmps153
  go_wp2_with (first
    | (at_range; refine wpList_range_is _ rfl _ 128 rfl 3 168 Tryz.underlying128 tm _ rfl hm ?_; intro w0 hrg0 hk0 hs0)
    | go_in)
  go_frame
  go_loopw [8] (fun _ wr => ∃ left, RangeIs hk ptrTo wr tm w.heap.size ts left ∧ Quiet w wr ∧ (ts.any fun p => heldF t k (F p.2)) = (left.any fun p => heldF t k (F p.2)))
    (fun _ wr => wr.rangeLeft tm w.heap.size)
  case atStart => exact ⟨_, hrg0, hk0, rfl⟩
  case round =>
    obtain ⟨left, hrg, hkp, hany⟩ := hrel
    have HA : Hid ((ts.any fun p => heldF t k (F p.2)) = (left.any fun p => heldF t k (F p.2))) := hany
    clear hany
    go_wp2_with (first
      | (at_next; refine wpList_next_is _ rfl _ rfl tm w.heap.size ts left rfl hrg ?_ ?_)
      | go_in)
    · refine ⟨fun h0 => ?_⟩
      subst h0
      go_wp2
      go_ret
      exact ⟨ret_bool (by rw [HA.out]; rfl), hkp⟩
    · refine ⟨fun ⟨x⟩ ⟨y⟩ left' w1 hp hmem hrg1 hk1 hs1 hen => ?_⟩
      have hkp1 : Quiet w w1 := Keeps.trans hkp hk1 (fun b hb => .inr (by omega))
      obtain ⟨R, hRe⟩ := (HR.quiet hkp1).at_ _ hmem
      simp only at R hRe
      have HB : Hid ((ts.any fun p => heldF t k (F p.2)) = (heldF t k (F y) || (left'.any fun p => heldF t k (F p.2)))) := by
        rw [Hid, HA.out, any_perm hp, List.any_cons]
      clear HA HR
      generalize F y = rc at *
      subst hRe
      have r3 : w1.cell? ⟨rc.tb, 3, none⟩ = some (.map (some rc.wb)) := R.cell 3
      have hlk := R.wr.look sk_good Tryz.underlying171 zero_cont (x := k) hks true
      have hrl := R.lt rc.tb (by simp [Rec.foot])
      have hct1 : ∀ o, (w1.alloc o).heap[t]? = some (.cells ct 174) := fun o => (heap_alloc_old w1 o (Nat.lt_of_lt_of_le (lt_of_heap hct) hkp1.size)).trans ((hkp1.block t (lt_of_heap hct) (by simp)).trans hct)
      have hrt1 : ∀ o, (w1.alloc o).heap[rc.tb]? = some (.cells rc.cells 174) := fun o => (heap_alloc_old w1 o hrl).trans R.own
      have HAy : Hid (rc.cm = 0 → ∀ o, Calls Tryz.prog 144 #[.pointer (some ⟨rc.tb, 0, none⟩)] (w1.alloc o) fun e w' => e = .returned (.bool true) ∧ w' = w1.alloc o) :=
        fun hc o => isActive_yes rc.tb (w1.alloc o) (by rw [cell_of_heap (hrt1 o), ← hc]; rfl)
      have HAn : Hid (rc.cm ≠ 0 → ∀ o, Calls Tryz.prog 144 #[.pointer (some ⟨rc.tb, 0, none⟩)] (w1.alloc o) fun e w' => e = .returned (.bool false) ∧ w' = w1.alloc o) :=
        fun hc o => isActive_no rc.tb rc.cm (w1.alloc o) (by rw [cell_of_heap (hrt1 o)]; rfl) hc
      simp only [hk, ptrTo] at hen
      simp only [sk, if_true] at hlk
      clear hm c8 R
      cases hlook : look rc.wr k with
      | none =>
        simp only [hlook, Option.map_none, Option.getD_none, Option.isSome_none] at hlk
        have hf : heldF t k rc = false := by simp [heldF, hlook]
        rw [Hid, hf, Bool.false_or] at HB
        have HC : Hid ((ts.any fun p => heldF t k (F p.2)) = (left'.any fun p => heldF t k (F p.2))) := HB
        clear hlook hf HB
        go_wp2
        go_roundw
        case rel => exact ⟨left', hrg1.kept (Keeps.alloc (S := fun _ => False) _ _) (by simp) (by simp), Quiet.trans' hkp1 (Keeps.alloc _ _), HC.out⟩
        case measure => rw [(hrg1.kept (Keeps.alloc (S := fun _ => False) _ _) (by simp) (by simp)).left_eq, hrg.left_eq, hp.length_eq]; simp
      | some c =>
        simp only [hlook, Option.map_some, Option.getD_some, Option.isSome_some, contV] at hlk
        have hf : heldF t k rc = (!(rc.tb == t) && (rc.cm == 0)) := by simp [heldF, hlook]
        rw [Hid, hf] at HB
        have HC : Hid ((ts.any fun p => heldF t k (F p.2)) = ((!(rc.tb == t) && (rc.cm == 0)) || (left'.any fun p => heldF t k (F p.2)))) := HB
        clear hlook hf HB
        have hrg2 : ∀ o, RangeIs hk ptrTo (w1.alloc o) tm w.heap.size ts left' := fun o => hrg1.kept (Keeps.alloc (S := fun _ => False) _ _) (by simp) (by simp)
        by_cases ht : rc.tb = t
        · have hnq := fun o => neq_same (w1.alloc o) rc.tb
          have HD : Hid ((ts.any fun p => heldF t k (F p.2)) = (left'.any fun p => heldF t k (F p.2))) := by
            rw [Hid, HC.out]; simp [ht]
          subst ht
          clear HC hct1 hrt1 HAy HAn
          go_wp2
          go_roundw
          case rel => exact ⟨left', hrg2 _, Quiet.trans' hkp1 (Keeps.alloc _ _), HD.out⟩
          case measure => rw [(hrg2 _).left_eq, hrg.left_eq, hp.length_eq]; simp
        · have hnq := fun o => neq_other (w1.alloc o) ht (hrt1 o) (hct1 o)
          by_cases hcm : rc.cm = 0
          · have HD : Hid ((ts.any fun p => heldF t k (F p.2)) = true) := by
              rw [Hid, HC.out]; simp [ht, hcm]
            have HE := HAy.out hcm
            have HE : Hid (∀ o, Calls Tryz.prog 144 #[.pointer (some ⟨rc.tb, 0, none⟩)] (w1.alloc o) fun e w' => e = .returned (.bool true) ∧ w' = w1.alloc o) := HE
            clear HC hct1 hrt1 HAy HAn hcm ht
            go_wp2_with (go_at_call 144; refine (HE.out _).mono ?_; rintro e w' ⟨rfl, rfl⟩)
            go_ret
            exact ⟨ret_bool HD.out.symm, Quiet.trans' hkp1 (Keeps.alloc _ _)⟩
          · have HD : Hid ((ts.any fun p => heldF t k (F p.2)) = (left'.any fun p => heldF t k (F p.2))) := by
              rw [Hid, HC.out]; simp [hcm]
            have HE : Hid (∀ o, Calls Tryz.prog 144 #[.pointer (some ⟨rc.tb, 0, none⟩)] (w1.alloc o) fun e w' => e = .returned (.bool false) ∧ w' = w1.alloc o) := HAn.out hcm
            clear HC hct1 hrt1 HAy HAn hcm ht
            go_wp2_with (go_at_call 144; refine (HE.out _).mono ?_; rintro e w' ⟨rfl, rfl⟩)
            go_roundw
            case rel => exact ⟨left', hrg2 _, Quiet.trans' hkp1 (Keeps.alloc _ _), HD.out⟩
            case measure => rw [(hrg2 _).left_eq, hrg.left_eq, hp.length_eq]; simp

def heldB (s : Sto) (t : Nat) (k : ByteArray) : Bool := s.recs.any (heldF t k)

theorem isHeld_h {w : World} {s : Sto} (H : StAt w s) {r : Rec} (hr : r ∈ s.recs) (k : ByteArray) (hks : k.size ≤ maxLen) :
    Calls Tryz.prog 153 #[.pointer (some ⟨s.sb, 2, none⟩), ptrTo r.tb, .string k] w fun e w' => e = .returned (.bool (heldB s r.tb k)) ∧ Quiet w w' := by
  have := isHeld_walk w s.sb s.tm r.tb _ s.byTb k hks (H.cell 8) H.tm H.recsAt _ (H.recs r hr).own
  rw [any_recs H.nd (heldF r.tb k)] at this
  exact this

end Go.Proofs.YthfimgeopciiiaaGreat

/-
  What a record has read or written; lists of changes.
-/
namespace Go.Proofs.YthfimgeopciiiaaGreat
open Go.MapKept Go.ChangeMaps Go.Maps Go.RowKit

set_option maxRecDepth 100000 in
set_option maxHeartbeats 1000000 in
theorem hasWritten_h (w : World) (r : Rec) (R : RecAt w r) (x : Bool) (lo hi : ByteArray) :
    Calls Tryz.prog 217 #[ptrTo r.tb, .agg #[.bool x, .string lo, .string hi]] w fun e w' => e = .returned (.bool (r.wr.any fun p => coversB (x, lo, hi) p.1)) ∧ Quiet w w' := by
  have c3 : w.cell? ⟨r.tb, 3, none⟩ = some (.map (some r.wb)) := R.cell 3
  have hm : MapIs sk contV (w.alloc (.cells #[.bool x, .string lo, .string hi] 213)) r.wb r.wr := R.wr.kept (Keeps.alloc (S := fun _ => False) _ _) (by simp)
  have hrl := R.lt r.tb (by simp [Rec.foot])
  have HC : Hid (∀ (k : ByteArray) (W : World), Calls Tryz.prog 204 #[.agg #[.bool x, .string lo, .string hi], .string k] W fun e w' => e = .returned (.bool (coversB (x, lo, hi) k)) ∧ Quiet W w') := fun k W => covers_any x lo hi k W
  generalize r.wr = wr0 at *
  clear R
  try unfold ptrTo
  go_enter Tryz.func217, Tryz.ntmps217
  go_wp2_with (first
    | (at_range; refine wpList_range_is _ rfl _ 171 rfl 9 231 Tryz.underlying171 r.wb wr0 rfl hm ?_; intro w0 hrg0 hk0 hs0)
    | go_in)
  go_frame
  simp only [World.size_alloc] at hrg0 ⊢
  go_loopw [5] (fun _ wr => ∃ left, RangeIs sk contV wr r.wb (w.heap.size + 1) wr0 left ∧ Quiet (w.alloc (.cells #[.bool x, .string lo, .string hi] 213)) wr ∧ (wr0.any fun p => coversB (x, lo, hi) p.1) = (left.any fun p => coversB (x, lo, hi) p.1))
    (fun _ wr => wr.rangeLeft r.wb (w.heap.size + 1))
  case atStart => exact ⟨_, hrg0, hk0, rfl⟩
  case round =>
    obtain ⟨left, hrg, hkp, hany⟩ := hrel
    have HA : Hid ((wr0.any fun p => coversB (x, lo, hi) p.1) = (left.any fun p => coversB (x, lo, hi) p.1)) := hany
    clear hany
    go_wp2_with (first
      | (at_next; refine wpList_next_is _ rfl _ rfl r.wb (w.heap.size + 1) wr0 left rfl hrg ?_ ?_)
      | go_in)
    · refine ⟨fun h0 => ?_⟩
      subst h0
      go_wp2
      go_ret
      exact ⟨ret_bool (by rw [HA.out]; rfl), Quiet.trans' (Keeps.alloc _ _) hkp⟩
    · refine ⟨fun ⟨k⟩ ⟨y⟩ left' w1 hp hmem hrg1 hk1 hs1 hen => ?_⟩
      obtain ⟨yv, yg⟩ := y
      have hkp1 : Quiet (w.alloc (.cells #[.bool x, .string lo, .string hi] 213)) w1 := Keeps.trans hkp hk1 (fun b hb => .inr (by simp; omega))
      have HB : Hid ((wr0.any fun p => coversB (x, lo, hi) p.1) = (coversB (x, lo, hi) k || (left'.any fun p => coversB (x, lo, hi) p.1))) := by
        rw [Hid, HA.out, any_perm hp, List.any_cons]
      have hbox : w1.heap[w.heap.size]? = some (.cells #[.bool x, .string lo, .string hi] 213) := (hkp1.block _ (by simp) (by simp)).trans (heap_alloc_new w _)
      have b0 : w1.cell? ⟨w.heap.size, 0, none⟩ = some (.bool x) := by rw [cell_of_heap hbox]; rfl
      have b1 : w1.cell? ⟨w.heap.size, 1, none⟩ = some (.string lo) := by rw [cell_of_heap hbox]; rfl
      have b2 : w1.cell? ⟨w.heap.size, 2, none⟩ = some (.string hi) := by rw [cell_of_heap hbox]; rfl
      simp only [sk, contV] at hen
      clear hbox HA hm c3
      have HCk := HC.out k w1
      by_cases hcv : coversB (x, lo, hi) k = true
      · rw [hcv] at HCk
        have HD : Hid ((wr0.any fun p => coversB (x, lo, hi) p.1) = true) := by rw [Hid, HB.out, hcv]; rfl
        have HE := hidC HCk
        clear HCk hcv HB
        go_wp2_with (go_at_call 204; refine (HE.out).mono ?_; rintro e w2 ⟨rfl, hq2⟩)
        go_ret
        exact ⟨ret_bool HD.out.symm, Quiet.trans' (Keeps.alloc _ _) (Quiet.trans' hkp1 hq2)⟩
      · have hcv' : coversB (x, lo, hi) k = false := by simpa using hcv
        rw [hcv'] at HCk
        have HD : Hid ((wr0.any fun p => coversB (x, lo, hi) p.1) = (left'.any fun p => coversB (x, lo, hi) p.1)) := by rw [Hid, HB.out, hcv']; rfl
        have HE := hidC HCk
        clear HCk hcv hcv' HB
        go_wp2_with (go_at_call 204; refine (HE.out).mono ?_; rintro e w2 ⟨rfl, hq2⟩)
        have hrg2 := hrg1.kept hq2 (by simp) (by simp)
        go_roundw
        case rel => exact ⟨left', hrg2, Quiet.trans' hkp1 hq2, HD.out⟩
        case measure => rw [hrg2.left_eq, hrg.left_eq, hp.length_eq]; simp

abbrev Chg := ByteArray × ByteArray × Bool

/-- v is a list of these changes. -/
structure ChAt (w : World) (v : Value) (cs : List Chg) : Prop where
  sh : ∃ a cap, v = .slice a cs.length cap ∧ (cs = [] ∨ ∃ g o, a = some ⟨g, o, none⟩ ∧ g < w.heap.size ∧ ∀ i x, cs[i]? = some x → w.cell? ⟨g, o + i * 3, none⟩ = some (.string x.1) ∧ w.cell? ⟨g, o + i * 3 + 1, none⟩ = some (.string x.2.1) ∧ w.cell? ⟨g, o + i * 3 + 2, none⟩ = some (.bool x.2.2))
  len : cs.length ≤ 4611686018427387904

theorem ChAt.quiet {w w' : World} {v : Value} {cs : List Chg} (h : ChAt w v cs) (k : Quiet w w') : ChAt w' v cs := by
  obtain ⟨⟨a, cap, e, hc⟩, hl⟩ := h
  refine ⟨⟨a, cap, e, ?_⟩, hl⟩
  rcases hc with h0 | ⟨g, o, ea, hg, hcell⟩
  · exact .inl h0
  · exact .inr ⟨g, o, ea, Nat.lt_of_lt_of_le hg k.size, fun i x hx => by simp only [k.cell hg (by simp)]; exact hcell i x hx⟩

/-- the error of a list of changes: that of the first one that has one -/
def changesE : List Chg → Int
  | [] => 0
  | x :: r => if !keyB x.1 then 3 else if 8 < x.2.1.size then 4 else changesE r

theorem changesE_drop {cs : List Chg} {n : Nat} {x : Chg} (h : cs[n]? = some x) : changesE (cs.drop n) = if !keyB x.1 then 3 else if 8 < x.2.1.size then 4 else changesE (cs.drop (n + 1)) := by
  obtain ⟨hn, e⟩ := List.getElem?_eq_some_iff.1 h
  rw [List.drop_eq_getElem_cons hn, e]; rfl

set_option maxRecDepth 100000 in
set_option maxHeartbeats 1000000 in
theorem checkChanges_h (w : World) (v : Value) (cs : List Chg) (hch : ChAt w v cs) :
    Calls Tryz.prog 96 #[v] w fun e w' => e = .returned (.int .i64 (changesE cs)) ∧ Quiet w w' := by
  obtain ⟨⟨a, cap, rfl, hc⟩, hlen⟩ := hch
  go_enter Tryz.func96, Tryz.ntmps96
  go_wp2
  go_loopw [7] (fun i wr => ∃ n : Nat, i = .int .i64 n ∧ n ≤ cs.length ∧ Quiet w wr ∧ changesE cs = changesE (cs.drop n)) (fun i _ => cs.length - (intOf i).toNat)
  case atStart => exact ⟨0, rfl, Nat.zero_le _, Keeps.refl _ _, rfl⟩
  case round =>
    obtain ⟨n, rfl, hn, hkp, hE⟩ := hrel
    have HE : Hid (changesE cs = changesE (cs.drop n)) := hE
    clear hE
    by_cases hlt' : n < cs.length
    · have hlt'' : (n : Int) < (cs.length : Int) := by omega
      rcases hc with h0 | ⟨g, o, rfl, hg, hcell⟩
      · rw [h0] at hlt'; simp at hlt'
      obtain ⟨x, hx⟩ : ∃ x, cs[n]? = some x := ⟨_, List.getElem?_eq_getElem hlt'⟩
      obtain ⟨p1, p2, p3⟩ := hcell n x hx
      rw [← hkp.cell hg (by simp)] at p1 p2 p3
      have HK : Hid (∀ (k : ByteArray) (W : World), Calls Tryz.prog 147 #[.string k] W fun e w' => e = .returned (.bool (keyB k)) ∧ w' = W) := fun k W => isKey_any k W
      have HD : Hid (changesE cs = if !keyB x.1 then 3 else if 8 < x.2.1.size then 4 else changesE (cs.drop (n + 1))) := by rw [Hid, HE.out, changesE_drop hx]
      clear hcell HE
      go_wp2_with (go_at_call 147; refine (HK.out _ _).mono ?_; rintro e w' ⟨rfl, rfl⟩)
      · have h1 : (!keyB x.1) = true := by assumption
        go_ret
        exact ⟨ret_int (by rw [HD.out, if_pos h1]), Quiet.trans' hkp (Keeps.alloc _ _)⟩
      · have h1 : ¬ (!keyB x.1) = true := by simp_all
        have h2 : 8 < x.2.1.size := by omega
        go_ret
        exact ⟨ret_int (by rw [HD.out, if_neg h1, if_pos h2]), Quiet.trans' hkp (Keeps.alloc _ _)⟩
      · have h1 : ¬ (!keyB x.1) = true := by simp_all
        have h2 : ¬ 8 < x.2.1.size := by omega
        exact ⟨⟨n + 1, by go_num, by omega, Quiet.trans' hkp (Keeps.alloc _ _), by rw [HD.out, if_neg h1, if_neg h2]⟩, by simp [intOf]; omega⟩
    · have hge : ¬ (n : Int) < (cs.length : Int) := by omega
      clear hc
      go_wp2
      go_ret
      exact ⟨ret_int (by rw [HE.out, List.drop_eq_nil_of_le (by omega)]; rfl), hkp⟩

end Go.Proofs.YthfimgeopciiiaaGreat
