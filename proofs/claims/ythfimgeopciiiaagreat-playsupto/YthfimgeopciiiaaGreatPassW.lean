/-
  passWriters, passReaders: who is read past, whether that may be, and the marks.
-/
import Derived.Test.YthfimgeopciiiaaGreatUpd
namespace Go.Proofs.YthfimgeopciiiaaGreat
open Go.MapKept Go.ChangeMaps Go.Maps Go.RowKit

/-- those of the records that overlap r and are meant -/
def Sto.past (s : Sto) (r : Rec) (g : Rec → Bool) : List Rec := s.recs.filter fun x => !(x.tb == r.tb) && (overlapsB r.bg x.cm && g x)

def fmW (t : Nat) (L : List Nat) (x : Rec) : Rec := { x with i := x.i || decide (x.tb ∈ L), o := x.o || (decide (x.tb = t) && !L.isEmpty) }
def fmR (t : Nat) (L : List Nat) (x : Rec) : Rec := { x with o := x.o || decide (x.tb ∈ L), i := x.i || (decide (x.tb = t) && !L.isEmpty) }
def setI (t : Nat) (x : Rec) : Rec := if x.tb = t then { x with i := true } else x
def setO (t : Nat) (x : Rec) : Rec := if x.tb = t then { x with o := true } else x

theorem fmW_step (t u : Nat) (L : List Nat) (x : Rec) : setI u (setO t (fmW t L x)) = fmW t (L ++ [u]) x := by
  unfold setI setO fmW
  by_cases h1 : x.tb = t <;> by_cases h2 : x.tb = u <;> simp [h1, h2] <;> simp_all

theorem fmR_step (t u : Nat) (L : List Nat) (x : Rec) : setI t (setO u (fmR t L x)) = fmR t (L ++ [u]) x := by
  unfold setI setO fmR
  by_cases h1 : x.tb = t <;> by_cases h2 : x.tb = u <;> simp [h1, h2] <;> simp_all

theorem fmW_nil (t : Nat) (x : Rec) : fmW t [] x = x := by simp [fmW]
theorem fmR_nil (t : Nat) (x : Rec) : fmR t [] x = x := by simp [fmR]

theorem mapR_mapR (s : Sto) (f g : Rec → Rec) : (s.mapR f).mapR g = s.mapR (fun x => g (f x)) := by
  simp [Sto.mapR, Function.comp_def]

theorem mapR_id {s : Sto} {f : Rec → Rec} (h : ∀ x ∈ s.recs, f x = x) : s.mapR f = s := by
  have : s.recs.map f = s.recs := by rw [List.map_congr_left h]; simp
  cases s; simp_all [Sto.mapR]

theorem mild_setI (s : Sto) (t : Nat) : Mild s (setI t) := by
  constructor <;> intro r _ <;> unfold setI <;> split <;> rfl
theorem mild_setO (s : Sto) (t : Nat) : Mild s (setO t) := by
  constructor <;> intro r _ <;> unfold setO <;> split <;> rfl
theorem mild_fmW (s : Sto) (t : Nat) (L : List Nat) : Mild s (fmW t L) := by
  constructor <;> intro r _ <;> rfl
theorem mild_fmR (s : Sto) (t : Nat) (L : List Nat) : Mild s (fmR t L) := by
  constructor <;> intro r _ <;> rfl

theorem StAt.setI {w : World} {s : Sto} (H : StAt w s) {r : Rec} (hr : r ∈ s.recs) : StAt (w.setCell ⟨r.tb, 5, none⟩ (.bool true)) (s.mapR (setI r.tb)) :=
  H.setRec (mild_setI s r.tb) hr 5 _ (by simp [Go.Proofs.YthfimgeopciiiaaGreat.setI, Rec.cells]) (fun x _ hx => by simp [Go.Proofs.YthfimgeopciiiaaGreat.setI, hx])

theorem StAt.setO {w : World} {s : Sto} (H : StAt w s) {r : Rec} (hr : r ∈ s.recs) : StAt (w.setCell ⟨r.tb, 6, none⟩ (.bool true)) (s.mapR (setO r.tb)) :=
  H.setRec (mild_setO s r.tb) hr 6 _ (by simp [Go.Proofs.YthfimgeopciiiaaGreat.setO, Rec.cells]) (fun x _ hx => by simp [Go.Proofs.YthfimgeopciiiaaGreat.setO, hx])

theorem mem_mapR {s : Sto} {f : Rec → Rec} (m : Mild s f) {t : Nat} (h : ∃ x ∈ s.recs, x.tb = t) : ∃ x ∈ (s.mapR f).recs, x.tb = t := by
  obtain ⟨x, hx, rfl⟩ := h
  exact ⟨f x, List.mem_map.2 ⟨x, hx, rfl⟩, m.tb x hx⟩

/-- one step of the marking -/
theorem readPast_st {w : World} {s : Sto} (H : StAt w s) {a b : Nat} (ha : ∃ x ∈ s.recs, x.tb = a) (hb : ∃ x ∈ s.recs, x.tb = b) :
    Calls Tryz.prog 160 #[.pointer (some ⟨a, 0, none⟩), .pointer (some ⟨b, 0, none⟩)] w fun e w' => e = .returned (.tuple #[]) ∧ StAt w' (s.mapR fun x => setI b (setO a x)) ∧ Keeps (fun c => c ∈ s.foot) w w' ∧ w'.heap.size = w.heap.size := by
  obtain ⟨ra, hra, rfl⟩ := ha
  have hb' := hb
  obtain ⟨rb, hrb, rfl⟩ := hb
  refine (readPast_any ra.tb rb.tb _ _ w ((H.recs ra hra).cell 6) ((H.recs rb hrb).cell 5) ((H.recs ra hra).frozen 6) ((H.recs rb hrb).frozen 5)).mono ?_
  rintro e w' ⟨rfl, rfl⟩
  have H1 := H.setO hra
  obtain ⟨rb2, hrb2, hrbe⟩ := mem_mapR (mild_setO s ra.tb) hb'
  have H2 := H1.setI hrb2
  rw [hrbe, mapR_mapR] at H2
  refine ⟨rfl, H2, ?_, by simp⟩
  exact (Keeps.setCell (S := fun c => c ∈ s.foot) w _ _ (Sto.mem_rec hra (by simp [Rec.foot]))).trans (Keeps.setCell (S := fun c => c ∈ s.foot) _ _ _ (Sto.mem_rec hrb (by simp [Rec.foot]))) (fun _ h => .inl h)

/-- none of them is committed with the other mark -/
def Sto.mayW (s : Sto) (r : Rec) (G : Rec → Bool) : Bool := !(s.past r G).any fun y => comInB y.cm y.o
def Sto.mayR (s : Sto) (r : Rec) (G : Rec → Bool) : Bool := !(s.past r G).any fun y => comInB y.cm y.i
/-- the store behind the marking -/
def Sto.markW (s : Sto) (r : Rec) (G : Rec → Bool) (L : List Nat) : Sto := if s.mayW r G then s.mapR (fmW r.tb L) else s
def Sto.markR (s : Sto) (r : Rec) (G : Rec → Bool) (L : List Nat) : Sto := if s.mayR r G then s.mapR (fmR r.tb L) else s

theorem past_eq {s : Sto} (hn : s.foot.Nodup) (r : Rec) (G : Rec → Bool) :
    ((s.recs.map fun x => (x.h, x.tb)).filter fun p => overF r.tb r.bg (fun t => G (s.byTb t)) (s.byTb p.2)).map (·.2) = (s.past r G).map (·.tb) := by
  unfold Sto.past
  rw [List.filter_map, List.map_map]
  have e : s.recs.filter ((fun p : Int × Nat => overF r.tb r.bg (fun t => G (s.byTb t)) (s.byTb p.2)) ∘ fun x => (x.h, x.tb)) = s.recs.filter fun x => !(x.tb == r.tb) && (overlapsB r.bg x.cm && G x) := by
    refine List.filter_congr (fun y hy => ?_)
    have := Sto.byTb_eq hn hy
    simp only [Function.comp, overF, this]
  rw [e]
  rfl

theorem past_any {s : Sto} (hn : s.foot.Nodup) (r : Rec) (G f : Rec → Bool) {l : List Nat} (hl : l.Perm ((s.past r G).map (·.tb))) : l.any (fun t => f (s.byTb t)) = (s.past r G).any f := by
  rw [any_perm hl, List.any_map]
  rw [Bool.eq_iff_iff, List.any_eq_true, List.any_eq_true]
  constructor
  · rintro ⟨y, hy, hf⟩
    refine ⟨y, hy, ?_⟩
    simp only [Function.comp, Sto.byTb_eq hn (List.mem_filter.1 hy).1] at hf; exact hf
  · rintro ⟨y, hy, hf⟩
    refine ⟨y, hy, ?_⟩
    simp only [Function.comp, Sto.byTb_eq hn (List.mem_filter.1 hy).1]; exact hf

theorem past_mem {s : Sto} {r : Rec} {G : Rec → Bool} {l : List Nat} (hl : l.Perm ((s.past r G).map (·.tb))) {t : Nat} (ht : t ∈ l) : ∃ x ∈ s.recs, x.tb = t := by
  obtain ⟨x, hx, rfl⟩ := List.mem_map.1 (hl.mem_iff.1 ht)
  exact ⟨x, (List.mem_filter.1 hx).1, rfl⟩

theorem past_len {s : Sto} {r : Rec} {G : Rec → Bool} {l : List Nat} (hl : l.Perm ((s.past r G).map (·.tb))) : l.length ≤ s.recs.length := by
  rw [hl.length_eq, List.length_map]; exact List.length_filter_le _ _

/-- a row that is new outlives what is done to a store -/
theorem NSl.kept {base : Nat} {w w' : World} {v : Value} {l : List Nat} {F : List Nat} (h : NSl base w v l) (k : Keeps (fun c => c ∈ F) w w') (hF : ∀ b ∈ F, b < base) : NSl base w' v l :=
  ownsRow_of_block h (fun b hb => k.block b (h.lt b hb).2 (fun hm => by have := hF b hm; have := (h.lt b hb).1; omega))

set_option maxRecDepth 100000 in
set_option maxHeartbeats 2000000 in
theorem passWriters_h {w : World} {s : Sto} (H : StAt w s) {r : Rec} (hr : r ∈ s.recs) (x : Bool) (lo hi : ByteArray) (hlen : s.recs.length ≤ 1000) :
    Calls Tryz.prog 191 #[.pointer (some ⟨s.sb, 2, none⟩), ptrTo r.tb, .agg #[.bool x, .string lo, .string hi]] w fun e w' =>
      ∃ L : List Nat, L.Perm ((s.past r fun y => y.wr.any fun p => coversB (x, lo, hi) p.1).map (·.tb)) ∧
      e = .returned (.bool (s.mayW r fun y => y.wr.any fun p => coversB (x, lo, hi) p.1)) ∧ Keeps (fun c => c ∈ s.foot) w w' ∧
      StAt w' (s.markW r (fun y => y.wr.any fun p => coversB (x, lo, hi) p.1) L) := by
  have hq0 : Quiet w (w.alloc (.cells #[.bool x, .string lo, .string hi] 213)) := Keeps.alloc _ _
  have HA := H.quiet hq0
  have hbox : (w.alloc (.cells #[.bool x, .string lo, .string hi] 213)).heap[w.heap.size]? = some (.cells #[.bool x, .string lo, .string hi] 213) := heap_alloc_new w _
  have hft : ∀ b ∈ s.foot, b < (w.alloc (.cells #[.bool x, .string lo, .string hi] 213)).heap.size := HA.lt
  have HOv := hidC (overlapping_walk _ s.sb s.tm r.tb w.heap.size 216 r.bg (fun t => (s.byTb t).wr.any fun p => coversB (x, lo, hi) p.1) _ s.byTb (HA.cell 8) HA.tm HA.recsAt _ (HA.recs r hr).own rfl (by simpa using hlen)
    (fun p hp W hW => by
      obtain ⟨rc, hrc, rfl⟩ := List.mem_map.1 hp
      have := writers1_h W rc ((HA.quiet hW).recs rc hrc) w.heap.size x lo hi ((hW.block _ (by simp) (by simp)).trans hbox)
      simp only [Sto.byTb_eq H.nd hrc]
      exact this)
    (fun W x => enter_writers1 W x _))
  rw [past_eq H.nd r (fun y => y.wr.any fun p => coversB (x, lo, hi) p.1)] at HOv
  generalize hG : (fun y : Rec => y.wr.any fun p => coversB (x, lo, hi) p.1) = G at *
  have hkA : Keeps (fun c => c ∈ s.foot) w (w.alloc (.cells #[.bool x, .string lo, .string hi] 213)) := Keeps.alloc _ _
  generalize hwA : w.alloc (.cells #[.bool x, .string lo, .string hi] 213) = wA at *
  have hmf : ∀ (fn : Fn) (first cap : Array Value) (w : World), (Instr.makeFunc fn first cap).run Tryz.prog w = .ok (.func fn first cap) w := fun _ _ _ _ => rfl
  have HW : Hid (w.alloc (.cells #[.bool x, .string lo, .string hi] 213) = wA) := hwA
  unfold ptrTo at *
  go_enter Tryz.func191, Tryz.ntmps191
  go_wp2_with fail
  refine (HOv.out).mono ?_
  rintro e w2 ⟨v, l, rfl, hsl, hpl, hq2⟩
  have H2 := HA.quiet hq2
  have hk2 : Keeps (fun c => c ∈ s.foot) w w2 := hkA.trans hq2 (fun _ h => h.elim)
  have hll := past_len hpl
  have hCf := containsFunc_h w2 _ 218 v l (fun t => comInB (s.byTb t).cm (s.byTb t).o) hsl (by omega)
    (fun t ht => by
      obtain ⟨rc, hrc, rfl⟩ := past_mem hpl ht
      simp only [Sto.byTb_eq H.nd hrc]
      exact isCommittedOut_any rc.tb rc.cm rc.o w2 ((H2.recs rc hrc).cell 2) ((H2.recs rc hrc).cell 6)) enter_comOut
  rw [past_any H.nd r G (fun y => comInB y.cm y.o) hpl] at hCf
  have HP : Hid (l.Perm ((s.past r G).map (·.tb))) := hpl
  have HM : Hid (∀ t ∈ l, ∃ x ∈ s.recs, x.tb = t) := fun t ht => past_mem hpl ht
  clear HOv HA hbox hpl hmf
  by_cases hbad : (s.past r G).any (fun y => comInB y.cm y.o) = true
  · rw [hbad] at hCf
    have HC := hidC hCf
    have HB : Hid ((s.past r G).any (fun y => comInB y.cm y.o) = true) := hbad
    clear hCf hbad
    go_wp2_with (go_at_call 158; refine (HC.out).mono ?_; rintro e w3 ⟨rfl, rfl⟩)
    go_ret
    have hm : s.mayW r G = false := by rw [Sto.mayW, HB.out]; rfl
    exact ⟨l, HP.out, ret_bool hm.symm, hk2, by rw [Sto.markW, hm]; exact H2⟩
  · have hbad' : (s.past r G).any (fun y => comInB y.cm y.o) = false := by simpa using hbad
    rw [hbad'] at hCf
    have HC := hidC hCf
    have HB : Hid ((s.past r G).any (fun y => comInB y.cm y.o) = false) := hbad'
    clear hCf hbad hbad'
    obtain ⟨av, cap, hv, hc⟩ := hsl.cells
    have HS : Hid (NSl wA.heap.size w2 v l) := hsl
    rw [hv] at HC
    clear hsl
    subst hv
    go_wp2_with (go_at_call 158; refine (HC.out).mono ?_; rintro e w3 ⟨rfl, rfl⟩)
    go_loopw [18] (fun i wr => ∃ n : Nat, i = .int .i64 n ∧ n ≤ l.length ∧ StAt wr (s.mapR (fmW r.tb (l.take n))) ∧ Keeps (fun c => c ∈ s.foot) w3 wr) (fun i _ => l.length - (intOf i).toNat)
    case atStart => exact ⟨0, rfl, Nat.zero_le _, by rw [List.take_zero, mapR_id (fun x _ => fmW_nil _ x)]; exact H2, Keeps.refl _ _⟩
    case round =>
      obtain ⟨n, rfl, hn, Hr, hkr⟩ := hrel
      by_cases hlt' : n < l.length
      · have hlt'' : (n : Int) < (l.length : Int) := by omega
        rcases hc with h0 | ⟨g, rfl, hg1, hg2, hcell⟩
        · rw [h0] at hlt'; simp at hlt'
        obtain ⟨t, ht⟩ : ∃ t, l[n]? = some t := ⟨_, List.getElem?_eq_getElem hlt'⟩
        have hp := hcell n t ht
        rw [← hkr.cell hg2 (fun hm => by have := hft g hm; omega)] at hp
        have hRP := readPast_st Hr (mem_mapR (mild_fmW s r.tb _) ⟨r, hr, rfl⟩) (mem_mapR (mild_fmW s r.tb _) (HM.out t (List.mem_of_getElem? ht)))
        rw [mapR_mapR, (mild_fmW s r.tb _).foot] at hRP
        simp only [fmW_step] at hRP
        rw [← take_succ_of ht] at hRP
        have HR := hidC hRP
        clear hRP hcell HC
        go_wp2_with (go_at_call 160; refine (HR.out).mono ?_; rintro e w4 ⟨rfl, Hr4, hk4, hs4⟩)
        exact ⟨⟨n + 1, by go_num, by omega, Hr4, hkr.trans hk4 (fun _ h => .inl h)⟩, by simp [intOf]; omega⟩
      · have hge : ¬ (n : Int) < (l.length : Int) := by omega
        have hT : l.take n = l := List.take_of_length_le (by omega)
        rw [hT] at Hr
        clear hc hT HC
        go_wp2
        go_ret
        have hm : s.mayW r G = true := by rw [Sto.mayW, HB.out]; rfl
        exact ⟨l, HP.out, ret_bool hm.symm, hk2.trans hkr (fun _ h => .inl h), by rw [Sto.markW, hm]; exact Hr⟩

set_option maxRecDepth 100000 in
set_option maxHeartbeats 2000000 in
theorem passReaders_h {w : World} {s : Sto} (H : StAt w s) {r : Rec} (hr : r ∈ s.recs) (cv : Value) (cs : List Chg) (hch : ChAt w cv cs) (hlen : s.recs.length ≤ 1000) :
    Calls Tryz.prog 99 #[.pointer (some ⟨s.sb, 2, none⟩), ptrTo r.tb, cv] w fun e w' =>
      ∃ L : List Nat, L.Perm ((s.past r fun y => y.rd.any fun p => readF cs p.1).map (·.tb)) ∧
      e = .returned (.bool (s.mayR r fun y => y.rd.any fun p => readF cs p.1)) ∧ Keeps (fun c => c ∈ s.foot) w w' ∧
      StAt w' (s.markR r (fun y => y.rd.any fun p => readF cs p.1) L) := by
  have hq0 : Quiet w (w.alloc (.cells #[cv] 46)) := Keeps.alloc _ _
  have HA := H.quiet hq0
  have hbox : (w.alloc (.cells #[cv] 46)).heap[w.heap.size]? = some (.cells #[cv] 46) := heap_alloc_new w _
  have hft : ∀ b ∈ s.foot, b < (w.alloc (.cells #[cv] 46)).heap.size := HA.lt
  have HOv := hidC (overlapping_walk _ s.sb s.tm r.tb w.heap.size 156 r.bg (fun t => (s.byTb t).rd.any fun p => readF cs p.1) _ s.byTb (HA.cell 8) HA.tm HA.recsAt _ (HA.recs r hr).own rfl (by simpa using hlen)
    (fun p hp W hW => by
      obtain ⟨rc, hrc, rfl⟩ := List.mem_map.1 hp
      have := readers1_h W rc ((HA.quiet hW).recs rc hrc) w.heap.size cv cs (hch.quiet (Quiet.trans' hq0 hW)) ((hW.block _ (by simp) (by simp)).trans hbox)
      simp only [Sto.byTb_eq H.nd hrc]
      exact this)
    (fun W x => enter_readers1 W x _))
  rw [past_eq H.nd r (fun y => y.rd.any fun p => readF cs p.1)] at HOv
  obtain ⟨ca, ccap, hcv, _⟩ := hch.sh
  generalize hG : (fun y : Rec => y.rd.any fun p => readF cs p.1) = G at *
  have hkA : Keeps (fun c => c ∈ s.foot) w (w.alloc (.cells #[cv] 46)) := Keeps.alloc _ _
  generalize hwA : w.alloc (.cells #[cv] 46) = wA at *
  have hmf : ∀ (fn : Fn) (first cap : Array Value) (w : World), (Instr.makeFunc fn first cap).run Tryz.prog w = .ok (.func fn first cap) w := fun _ _ _ _ => rfl
  have HW : Hid (w.alloc (.cells #[cv] 46) = wA) := hwA
  unfold ptrTo at *
  subst hcv
  go_enter Tryz.func99, Tryz.ntmps99
  go_wp2_with fail
  refine (HOv.out).mono ?_
  rintro e w2 ⟨v, l, rfl, hsl, hpl, hq2⟩
  have H2 := HA.quiet hq2
  have hk2 : Keeps (fun c => c ∈ s.foot) w w2 := hkA.trans hq2 (fun _ h => h.elim)
  have hll := past_len hpl
  have hCf := containsFunc_h w2 _ 159 v l (fun t => comInB (s.byTb t).cm (s.byTb t).i) hsl (by omega)
    (fun t ht => by
      obtain ⟨rc, hrc, rfl⟩ := past_mem hpl ht
      simp only [Sto.byTb_eq H.nd hrc]
      exact isCommittedIn_any rc.tb rc.cm rc.i w2 ((H2.recs rc hrc).cell 2) ((H2.recs rc hrc).cell 5)) enter_comIn
  rw [past_any H.nd r G (fun y => comInB y.cm y.i) hpl] at hCf
  have HP : Hid (l.Perm ((s.past r G).map (·.tb))) := hpl
  have HM : Hid (∀ t ∈ l, ∃ x ∈ s.recs, x.tb = t) := fun t ht => past_mem hpl ht
  clear HOv HA hbox hpl hmf
  by_cases hbad : (s.past r G).any (fun y => comInB y.cm y.i) = true
  · rw [hbad] at hCf
    have HC := hidC hCf
    have HB : Hid ((s.past r G).any (fun y => comInB y.cm y.i) = true) := hbad
    clear hCf hbad
    go_wp2_with (go_at_call 158; refine (HC.out).mono ?_; rintro e w3 ⟨rfl, rfl⟩)
    go_ret
    have hm : s.mayR r G = false := by rw [Sto.mayR, HB.out]; rfl
    exact ⟨l, HP.out, ret_bool hm.symm, hk2, by rw [Sto.markR, hm]; exact H2⟩
  · have hbad' : (s.past r G).any (fun y => comInB y.cm y.i) = false := by simpa using hbad
    rw [hbad'] at hCf
    have HC := hidC hCf
    have HB : Hid ((s.past r G).any (fun y => comInB y.cm y.i) = false) := hbad'
    clear hCf hbad hbad'
    obtain ⟨av, cap, hv, hc⟩ := hsl.cells
    have HS : Hid (NSl wA.heap.size w2 v l) := hsl
    rw [hv] at HC
    clear hsl
    subst hv
    go_wp2_with (go_at_call 158; refine (HC.out).mono ?_; rintro e w3 ⟨rfl, rfl⟩)
    go_loopw [18] (fun i wr => ∃ n : Nat, i = .int .i64 n ∧ n ≤ l.length ∧ StAt wr (s.mapR (fmR r.tb (l.take n))) ∧ Keeps (fun c => c ∈ s.foot) w3 wr) (fun i _ => l.length - (intOf i).toNat)
    case atStart => exact ⟨0, rfl, Nat.zero_le _, by rw [List.take_zero, mapR_id (fun x _ => fmR_nil _ x)]; exact H2, Keeps.refl _ _⟩
    case round =>
      obtain ⟨n, rfl, hn, Hr, hkr⟩ := hrel
      by_cases hlt' : n < l.length
      · have hlt'' : (n : Int) < (l.length : Int) := by omega
        rcases hc with h0 | ⟨g, rfl, hg1, hg2, hcell⟩
        · rw [h0] at hlt'; simp at hlt'
        obtain ⟨t, ht⟩ : ∃ t, l[n]? = some t := ⟨_, List.getElem?_eq_getElem hlt'⟩
        have hp := hcell n t ht
        rw [← hkr.cell hg2 (fun hm => by have := hft g hm; omega)] at hp
        have hRP := readPast_st Hr (mem_mapR (mild_fmR s r.tb _) (HM.out t (List.mem_of_getElem? ht))) (mem_mapR (mild_fmR s r.tb _) ⟨r, hr, rfl⟩)
        rw [mapR_mapR, (mild_fmR s r.tb _).foot] at hRP
        simp only [fmR_step] at hRP
        rw [← take_succ_of ht] at hRP
        have HR := hidC hRP
        clear hRP hcell HC
        go_wp2_with (go_at_call 160; refine (HR.out).mono ?_; rintro e w4 ⟨rfl, Hr4, hk4, hs4⟩)
        exact ⟨⟨n + 1, by go_num, by omega, Hr4, hkr.trans hk4 (fun _ h => .inl h)⟩, by simp [intOf]; omega⟩
      · have hge : ¬ (n : Int) < (l.length : Int) := by omega
        have hT : l.take n = l := List.take_of_length_le (by omega)
        rw [hT] at Hr
        clear hc hT HC
        go_wp2
        go_ret
        have hm : s.mayR r G = true := by rw [Sto.mayR, HB.out]; rfl
        exact ⟨l, HP.out, ret_bool hm.symm, hk2.trans hkr (fun _ h => .inl h), by rw [Sto.markR, hm]; exact Hr⟩

end Go.Proofs.YthfimgeopciiiaaGreat
