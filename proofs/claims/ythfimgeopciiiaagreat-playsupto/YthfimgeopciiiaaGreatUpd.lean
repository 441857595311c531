/-
  Reading past one another: is one of a list committed and marked; marks are laid.
-/
import Derived.Test.YthfimgeopciiiaaGreatOver
namespace Go.Proofs.YthfimgeopciiiaaGreat
open Go.MapKept Go.ChangeMaps Go.Maps Go.RowKit

/-- The cells of a slice of pointers. -/
theorem NSl.cells {base : Nat} {w : World} {v : Value} {l : List Nat} (h : NSl base w v l) : ∃ a cap, v = .slice a l.length cap ∧ (l = [] ∨ ∃ g, a = some ⟨g, 0, none⟩ ∧ base ≤ g ∧ g < w.heap.size ∧ ∀ (i t : Nat), l[i]? = some t → w.cell? ⟨g, i, none⟩ = some (.pointer (some ⟨t, 0, none⟩))) := by
  by_cases hl : l = []
  · subst hl
    rcases h.2 with ⟨e, _⟩ | ⟨g, cap, cur, e, _⟩
    · exact ⟨none, 0, e, .inl rfl⟩
    · exact ⟨_, _, e, .inl rfl⟩
  · rcases h.2 with ⟨_, h0⟩ | ⟨g, cap, cur, e, hb, hg, h1, h2, h3, h4⟩
    · exact absurd (List.eq_nil_of_length_eq_zero h0) hl
    · refine ⟨_, _, e, .inr ⟨g, rfl, hb, lt_of_heap hg, fun i t ht => ?_⟩⟩
      rw [cell_of_heap hg]
      exact row_get (by simpa using h4) ht

def idxOf (g : Nat → Bool) (l : List Nat) : Int := match l.findIdx? g with | some i => i | none => -1

set_option maxRecDepth 100000 in
set_option maxHeartbeats 1000000 in
theorem indexFunc_h (w : World) (base fid : Nat) (v : Value) (l : List Nat) (g : Nat → Bool) (hl : NSl base w v l) (hlen : l.length ≤ 1000)
    (hf : ∀ t ∈ l, Calls Tryz.prog fid #[.pointer (some ⟨t, 0, none⟩)] w fun e w' => e = .returned (.bool (g t)) ∧ w' = w)
    (hfn : ∀ (W : World) (x : Value), (callFunc fid #[x]).run Tryz.prog W = .ok (.enter fid #[x]) W) :
    Calls Tryz.prog 205 #[v, .func (.func fid) #[] #[]] w fun e w' => (∃ i : Int, e = .returned (.int .i64 i) ∧ (decide (0 ≤ i) = l.any g)) ∧ w' = w := by
  obtain ⟨a, cap, rfl, hc⟩ := hl.cells
  have HFn : Hid (∀ t ∈ l, Calls Tryz.prog fid #[.pointer (some ⟨t, 0, none⟩)] w fun e w' => e = .returned (.bool (g t)) ∧ w' = w) := hf
  clear hf hl
  go_enter Tryz.func205, Tryz.ntmps205
  go_wp2
  go_loop [8] (fun i => ∃ n : Nat, i = .int .i64 n ∧ n ≤ l.length ∧ (l.take n).any g = false) (fun i => l.length - (intOf i).toNat)
  case atStart => exact ⟨0, rfl, Nat.zero_le _, rfl⟩
  case round =>
    obtain ⟨n, rfl, hn, hnone⟩ := hrel
    have HNo : Hid ((l.take n).any g = false) := hnone
    clear hnone
    by_cases hlt' : n < l.length
    · have hlt'' : (n : Int) < (l.length : Int) := by omega
      rcases hc with h0 | ⟨b, rfl, hb1, hb2, hcell⟩
      · rw [h0] at hlt'; simp at hlt'
      obtain ⟨t, ht⟩ : ∃ t, l[n]? = some t := ⟨_, List.getElem?_eq_getElem hlt'⟩
      have hp := hcell n t ht
      have hft := HFn.out t (List.mem_of_getElem? ht)
      clear hcell
      by_cases hg : g t = true
      · rw [hg] at hft
        have HF := hidC hft
        have HD : Hid (l.any g = true) := any_true_at ht hg
        clear hft hg
        go_wp2_with fail
        refine (HF.out).mono ?_
        rintro e w2 ⟨rfl, rfl⟩
        go_wp2
        go_ret
        exact ⟨⟨n, rfl, by rw [HD.out]; simp⟩, rfl⟩
      · have hg' : g t = false := by simpa using hg
        rw [hg'] at hft
        have HF := hidC hft
        have HD : Hid ((l.take (n + 1)).any g = false) := by rw [Hid, any_take_succ ht, HNo.out, hg']; rfl
        clear hft hg hg'
        go_wp2_with fail
        refine (HF.out).mono ?_
        rintro e w2 ⟨rfl, rfl⟩
        go_wp2
        exact ⟨⟨n + 1, by go_num, by omega, HD.out⟩, by simp [intOf]; omega⟩
    · have hge : ¬ (n : Int) < (l.length : Int) := by omega
      clear hc
      go_wp2
      go_ret
      exact ⟨⟨-1, rfl, by have := HNo.out; rw [List.take_of_length_le (by omega)] at this; rw [this]; rfl⟩, rfl⟩

set_option maxRecDepth 100000 in
set_option maxHeartbeats 1000000 in
theorem containsFunc_h (w : World) (base fid : Nat) (v : Value) (l : List Nat) (g : Nat → Bool) (hl : NSl base w v l) (hlen : l.length ≤ 1000)
    (hf : ∀ t ∈ l, Calls Tryz.prog fid #[.pointer (some ⟨t, 0, none⟩)] w fun e w' => e = .returned (.bool (g t)) ∧ w' = w)
    (hfn : ∀ (W : World) (x : Value), (callFunc fid #[x]).run Tryz.prog W = .ok (.enter fid #[x]) W) :
    Calls Tryz.prog 158 #[v, .func (.func fid) #[] #[]] w fun e w' => e = .returned (.bool (l.any g)) ∧ w' = w := by
  have HI := hidC (indexFunc_h w base fid v l g hl hlen hf hfn)
  clear hf hfn hl
  go_enter Tryz.func158, Tryz.ntmps158
  go_wp2_with (go_at_call 205; refine (HI.out).mono ?_; rintro e w2 ⟨⟨i, rfl, hi⟩, rfl⟩)
  go_ret
  exact ⟨rfl, rfl⟩

theorem enter_writers1 (W : World) (x y : Value) : (callFunc 216 #[x, y]).run Tryz.prog W = .ok (.enter 216 #[x, y]) W := by kernel_rfl
theorem enter_readers1 (W : World) (x y : Value) : (callFunc 156 #[x, y]).run Tryz.prog W = .ok (.enter 156 #[x, y]) W := by kernel_rfl
theorem enter_comIn (W : World) (x : Value) : (callFunc 159 #[x]).run Tryz.prog W = .ok (.enter 159 #[x]) W := by kernel_rfl
theorem enter_comOut (W : World) (x : Value) : (callFunc 218 #[x]).run Tryz.prog W = .ok (.enter 218 #[x]) W := by kernel_rfl

set_option maxRecDepth 100000 in
set_option maxHeartbeats 1000000 in
theorem writers1_h (w : World) (r : Rec) (R : RecAt w r) (cb : Nat) (x : Bool) (lo hi : ByteArray) (hbox : w.heap[cb]? = some (.cells #[.bool x, .string lo, .string hi] 213)) :
    Calls Tryz.prog 216 #[.pointer (some ⟨r.tb, 0, none⟩), .pointer (some ⟨cb, 0, none⟩)] w fun e w' => e = .returned (.bool (r.wr.any fun p => coversB (x, lo, hi) p.1)) ∧ Quiet w w' := by
  have b0 : w.cell? ⟨cb, 0, none⟩ = some (.bool x) := by rw [cell_of_heap hbox]; rfl
  have b1 : w.cell? ⟨cb, 1, none⟩ = some (.string lo) := by rw [cell_of_heap hbox]; rfl
  have b2 : w.cell? ⟨cb, 2, none⟩ = some (.string hi) := by rw [cell_of_heap hbox]; rfl
  have HW := hidC (hasWritten_h w r R x lo hi)
  unfold ptrTo at HW
  clear R hbox
  go_enter Tryz.func216, Tryz.ntmps216
  go_wp2_with (go_at_call 217; refine (HW.out).mono ?_; rintro e w2 ⟨rfl, hq⟩)
  go_ret
  exact ⟨rfl, hq⟩

set_option maxRecDepth 100000 in
set_option maxHeartbeats 1000000 in
theorem readers1_h (w : World) (r : Rec) (R : RecAt w r) (cb : Nat) (v : Value) (cs : List Chg) (hch : ChAt w v cs) (hbox : w.heap[cb]? = some (.cells #[v] 46)) :
    Calls Tryz.prog 156 #[.pointer (some ⟨r.tb, 0, none⟩), .pointer (some ⟨cb, 0, none⟩)] w fun e w' => e = .returned (.bool (r.rd.any fun p => readF cs p.1)) ∧ Quiet w w' := by
  have b0 : w.cell? ⟨cb, 0, none⟩ = some v := by rw [cell_of_heap hbox]; rfl
  have HW := hidC (hasRead_h w r R v cs hch)
  unfold ptrTo at HW
  clear R hbox
  go_enter Tryz.func156, Tryz.ntmps156
  go_wp2_with (go_at_call 157; refine (HW.out).mono ?_; rintro e w2 ⟨rfl, hq⟩)
  go_ret
  exact ⟨rfl, hq⟩

end Go.Proofs.YthfimgeopciiiaaGreat

/-
  A store whose records have turned: marks, reads, writes.
-/
namespace Go.Proofs.YthfimgeopciiiaaGreat
open Go.MapKept Go.ChangeMaps Go.Maps Go.RowKit

def Sto.mapR (s : Sto) (f : Rec → Rec) : Sto := { s with recs := s.recs.map f }

/-- f turns nothing but what a record holds: its marks, its reads, its writes. -/
structure Mild (s : Sto) (f : Rec → Rec) : Prop where
  tb : ∀ r ∈ s.recs, (f r).tb = r.tb
  wb : ∀ r ∈ s.recs, (f r).wb = r.wb
  rb : ∀ r ∈ s.recs, (f r).rb = r.rb
  h : ∀ r ∈ s.recs, (f r).h = r.h
  bg : ∀ r ∈ s.recs, (f r).bg = r.bg
  cm : ∀ r ∈ s.recs, (f r).cm = r.cm
  pl : ∀ r ∈ s.recs, (f r).pl = r.pl

theorem flatMap_congr' {α β : Type} {f g : α → List β} : ∀ {l : List α}, (∀ x ∈ l, f x = g x) → l.flatMap f = l.flatMap g
  | [], _ => rfl
  | x :: l, h => by rw [List.flatMap_cons, List.flatMap_cons, h x (by simp), flatMap_congr' (fun y hy => h y (by simp [hy]))]

theorem Mild.foot {s : Sto} {f : Rec → Rec} (m : Mild s f) : (s.mapR f).foot = s.foot := by
  unfold Sto.foot Sto.mapR
  simp only
  have : (s.recs.map f).flatMap Rec.foot = s.recs.flatMap Rec.foot := by
    rw [List.flatMap_map]
    exact flatMap_congr' (fun r hr => by simp only [Rec.foot, m.tb r hr, m.wb r hr, m.rb r hr])
  rw [this]

theorem Mild.bg_eq {s : Sto} {f : Rec → Rec} (m : Mild s f) (hn : s.foot.Nodup) {t : Nat} (ht : ∃ r ∈ s.recs, r.tb = t) : (s.mapR f).bg t = s.bg t := by
  obtain ⟨r, hr, rfl⟩ := ht
  have h1 := Sto.bg_eq (s := s.mapR f) (by rw [m.foot]; exact hn) (r := f r) (List.mem_map.2 ⟨r, hr, rfl⟩)
  rw [m.tb r hr, m.bg r hr] at h1
  rw [h1, Sto.bg_eq hn hr]

theorem StAt.upd {w w' : World} {s : Sto} {f : Rec → Rec} (H : StAt w s) (m : Mild s f) (hr : ∀ r ∈ s.recs, RecAt w' (f r)) (hb : ∀ b ∈ s.foot, (∀ r ∈ s.recs, b ∉ r.foot) → w'.heap[b]? = w.heap[b]?) : StAt w' (s.mapR f) := by
  obtain ⟨p1, p2, p3, p4, p5, p6, p7, p8⟩ := Sto.nd_parts H.nd
  have hsb := hb s.sb (by simp [Sto.foot]) (fun r hr' hm => (p5 r hr' _ hm).1 rfl)
  have htm := hb s.tm (by simp [Sto.foot]) (fun r hr' hm => (p5 r hr' _ hm).2.1 rfl)
  have hvm := hb s.vm (by simp [Sto.foot]) (fun r hr' hm => (p5 r hr' _ hm).2.2.1 rfl)
  refine ⟨hsb.trans H.own, ?_, ?_, ?_, H.hnd, ?_, ?_, H.hlen, ?_, H.vm.of_block hvm, ?_, by rw [m.foot]; exact H.nd⟩
  · have e : (s.mapR f).recs.map (fun r => (r.h, r.tb)) = s.recs.map (fun r => (r.h, r.tb)) := by
      simp only [Sto.mapR, List.map_map]
      exact List.map_congr_left (fun r hr' => by simp only [Function.comp, m.h r hr', m.tb r hr'])
    rw [e]
    exact H.tm.of_block htm
  · intro r hr'
    obtain ⟨r0, hr0, rfl⟩ := List.mem_map.1 hr'
    exact hr r0 hr0
  · exact ownsRow_of_block H.hsl (fun b hb' => hb b (Sto.mem_hv hb') (fun r hr' hm => (p5 r hr' _ hm).2.2.2 hb'))
  · intro i t hi
    obtain ⟨r, hr', e1, e2, e3⟩ := H.hrec i t hi
    exact ⟨f r, List.mem_map.2 ⟨r, hr', rfl⟩, by rw [m.tb r hr', e1], by rw [m.pl r hr', e2], by rw [m.cm r hr', e3]⟩
  · intro r hr' hc
    obtain ⟨r0, hr0, rfl⟩ := List.mem_map.1 hr'
    rw [m.cm r0 hr0] at hc
    show (f r0).tb ∈ s.hl
    rw [m.tb r0 hr0]
    exact H.hact r0 hr0 hc
  · intro k k0 kn
    have hB : ∀ j, j < s.hl.length → fOf (s.mapR f).bg s.hl j = fOf s.bg s.hl j := fun j hj => by
      have hj' : s.hl[j]? = some s.hl[j] := List.getElem?_eq_getElem hj
      obtain ⟨r, hr', e1, _⟩ := H.hrec j _ hj'
      have : s.hl.getD j 0 = s.hl[j] := by simp [List.getD_eq_getElem?_getD, hj']
      unfold fOf
      rw [this]
      exact m.bg_eq H.nd ⟨r, hr', e1⟩
    have kn' : k < s.hl.length := kn
    show fOf (s.mapR f).bg s.hl ((k - 1) / 2) ≤ fOf (s.mapR f).bg s.hl k
    rw [hB k kn', hB _ (by omega)]
    exact H.ord k k0 kn'
  · intro x hx
    exact ownsRow_of_block (H.vers x hx) (fun b hb' => hb b (Sto.mem_vrec (s := s) hx hb') (fun r hr' hm => (p6 x hx b hb').2.2.2.2 r hr' hm))

/-! ### Marks -/

def markIn (l : List Nat) (x : Rec) : Rec := { x with i := x.i || decide (x.tb ∈ l) }
def markOut (l : List Nat) (x : Rec) : Rec := { x with o := x.o || decide (x.tb ∈ l) }

theorem rec_tb_inj {s : Sto} (h : s.foot.Nodup) {x y : Rec} (hx : x ∈ s.recs) (hy : y ∈ s.recs) (e : x.tb = y.tb) : x = y :=
  nodup_flatMap_apart (Sto.nd_parts h).2.2.2.2.2.2.1 hx hy (b := x.tb) (by simp [Rec.foot]) (by simp [Rec.foot, e])

/-- A cell of a record's own block is written. -/
theorem StAt.setRec {w : World} {s : Sto} {f : Rec → Rec} (H : StAt w s) (m : Mild s f) {r : Rec} (hr : r ∈ s.recs) (i : Nat) (v : Value)
    (hself : (f r).cells = r.cells.setIfInBounds i v ∧ (f r).wr = r.wr ∧ (f r).rd = r.rd) (hoth : ∀ x ∈ s.recs, x.tb ≠ r.tb → f x = x) : StAt (w.setCell ⟨r.tb, i, none⟩ v) (s.mapR f) := by
  have hn := (Sto.nd_parts H.nd).2.2.2.2.2.2.1
  refine H.upd m (fun x hx => ?_) (fun b _ hb => heap_setCell_other _ _ _ (fun e => hb r hr (by rw [show b = r.tb from e]; simp [Rec.foot])))
  by_cases e : x.tb = r.tb
  · have := rec_tb_inj H.nd hx hr e
    subst this
    refine ⟨?_, ?_, ?_⟩
    · rw [m.tb x hx, hself.1]; exact heap_setCell_same (H.recs x hx).own
    · rw [hself.2.1, m.wb x hx]
      refine (H.recs x hx).wr.of_block (heap_setCell_other _ _ _ (fun e' => ?_))
      have h1 : (x.foot).Nodup := by
        obtain ⟨s1, s2, hs⟩ := List.append_of_mem hx
        rw [hs, List.flatMap_append, List.flatMap_cons] at hn
        exact (List.nodup_append.1 (List.nodup_append.1 hn).2.1).1
      simp only [Rec.foot, List.nodup_cons, List.mem_cons, not_or] at h1
      exact h1.1.1 e'.symm
    · rw [hself.2.2, m.rb x hx]
      refine (H.recs x hx).rd.of_block (heap_setCell_other _ _ _ (fun e' => ?_))
      have h1 : (x.foot).Nodup := by
        obtain ⟨s1, s2, hs⟩ := List.append_of_mem hx
        rw [hs, List.flatMap_append, List.flatMap_cons] at hn
        exact (List.nodup_append.1 (List.nodup_append.1 hn).2.1).1
      simp only [Rec.foot, List.nodup_cons, List.mem_cons, not_or] at h1
      exact h1.1.2.1 e'.symm
  · rw [hoth x hx e]
    refine (H.recs x hx).of_blocks (fun b hb => heap_setCell_other _ _ _ (fun e' => e ?_))
    have := nodup_flatMap_apart hn hx hr hb (by rw [show b = r.tb from e']; simp [Rec.foot])
    rw [this]

end Go.Proofs.YthfimgeopciiiaaGreat
