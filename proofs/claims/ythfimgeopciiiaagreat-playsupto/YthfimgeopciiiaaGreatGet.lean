/-
  read: the entry joins, those read past are marked, or the transaction is aborted.
-/
import Derived.Test.YthfimgeopciiiaaGreatJoin
import Derived.Test.YthfimgeopciiiaaGreatApiA
import Derived.OwnWalk
namespace Go.Proofs.YthfimgeopciiiaaGreat
open Go.MapKept Go.ChangeMaps Go.Maps Go.RowKit

theorem turn_mapR {w w' : World} {s : Sto} {f : Rec → Rec} (m : Mild s f) (h : StAt w' (s.mapR f)) (k : Keeps (fun b => b ∈ s.foot) w w') : Turn s (s.mapR f) w w' :=
  ⟨h, rfl, rfl, k, fun b hb => .inl (by rw [m.foot] at hb; exact hb)⟩

/-- the store behind an entry's joining -/
def joinF (t : Nat) (e : Ent) (x : Rec) : Rec := if x.tb = t then { x with rd := put x.rd e () } else x
theorem mild_joinF (s : Sto) (t : Nat) (e : Ent) : Mild s (joinF t e) := by
  constructor <;> intro r _ <;> unfold joinF <;> split <;> rfl

theorem put_old {α β : Type} [DecidableEq α] : ∀ {l : List (α × β)} {x : α} {v : β}, look l x = some v → put l x v = l
  | [], _, _, h => by simp [look] at h
  | p :: r, x, v, h => by
    by_cases e : p.1 = x
    · simp [look, e] at h; simp [put, e, ← h]; rw [← e]
    · simp only [look, e, if_false] at h
      simp only [put, e, if_false, put_old h]

theorem joinF_old {s : Sto} (hn : s.foot.Nodup) {r : Rec} (hr : r ∈ s.recs) {e : Ent} (h : (look r.rd e).isSome = true) : s.mapR (joinF r.tb e) = s := by
  refine mapR_id (fun x hx => ?_)
  unfold joinF
  split
  · rename_i ht
    have := rec_tb_inj hn hx hr ht
    subst this
    obtain ⟨u, hu⟩ := Option.isSome_iff_exists.1 h
    rw [put_old (v := ()) hu]
  · rfl

theorem joinF_new {s : Sto} (hn : s.foot.Nodup) {r : Rec} (hr : r ∈ s.recs) (e : Ent) : s.mapR (setRd r.tb (put r.rd e ())) = s.mapR (joinF r.tb e) := by
  unfold Sto.mapR
  congr 1
  refine List.map_congr_left (fun x hx => ?_)
  unfold setRd joinF
  split
  · rename_i ht
    have := rec_tb_inj hn hx hr ht
    subst this; rfl
  · rfl

theorem joinReads_ok {w : World} {s : Sto} (H : StAt w s) {r : Rec} (hr : r ∈ s.recs) (x : Bool) (lo hi : ByteArray) (hok : lo.size ≤ maxLen ∧ hi.size ≤ maxLen) (hn : s.nReads ≤ 1000) (hroom : (look r.rd (x, lo, hi)).isSome = true ∨ s.nReads < s.c2) :
    Calls Tryz.prog 190 #[.pointer (some ⟨s.sb, 2, none⟩), .pointer (some ⟨r.tb, 0, none⟩), .agg #[.bool x, .string lo, .string hi]] w fun e w' => e = .returned (.bool true) ∧ Turn s (s.mapR (joinF r.tb (x, lo, hi))) w w' := by
  by_cases hin : (look r.rd (x, lo, hi)).isSome = true
  · rw [joinF_old H.nd hr hin]
    exact (joinReads_old H hr x lo hi hok hin).mono fun e w' ⟨h1, h2⟩ => ⟨h1, Turn.quiet H h2⟩
  · have hnone : look r.rd (x, lo, hi) = none := by simpa using hin
    refine (joinReads_new H hr x lo hi hok hnone hn (hroom.resolve_left hin)).mono fun e w' ⟨h1, h2, h3⟩ => ⟨h1, ?_⟩
    rw [joinF_new H.nd hr] at h2
    exact turn_mapR (mild_joinF s r.tb _) h2 h3

def wrote (e : Ent) (y : Rec) : Bool := y.wr.any fun p => coversB e p.1

set_option maxRecDepth 100000 in
set_option maxHeartbeats 1000000 in
theorem read_full {w : World} {s : Sto} (H : StAt w s) {r : Rec} (hr : r ∈ s.recs) (x : Bool) (lo hi : ByteArray) (hok : lo.size ≤ maxLen ∧ hi.size ≤ maxLen) (hn : s.nReads ≤ 1000) (hin : look r.rd (x, lo, hi) = none) (hfull : s.c2 ≤ s.nReads) :
    Calls Tryz.prog 131 #[.pointer (some ⟨s.sb, 2, none⟩), .pointer (some ⟨r.tb, 0, none⟩), .agg #[.bool x, .string lo, .string hi]] w fun e w' => e = .returned (.int .i64 6) ∧ Quiet w w' := by
  have HJ : Hid (∀ o, Calls Tryz.prog 190 #[.pointer (some ⟨s.sb, 2, none⟩), .pointer (some ⟨r.tb, 0, none⟩), .agg #[.bool x, .string lo, .string hi]] (w.alloc o) fun e w' => e = .returned (.bool false) ∧ Quiet w w') := fun o =>
    (joinReads_full (H.quiet (Keeps.alloc (S := fun _ => False) w o)) hr x lo hi hok hin hn hfull).mono fun e w' ⟨h1, h2⟩ => ⟨h1, Quiet.trans' (Keeps.alloc _ _) h2⟩
  clear H
  go_enter Tryz.func131, Tryz.ntmps131
  go_wp2_with (go_at_call 190; refine (HJ.out _).mono ?_; rintro e w' ⟨rfl, hq⟩)
  go_ret
  exact ⟨rfl, hq⟩

theorem StAt.fresh {w : World} {s : Sto} (H : StAt w s) {b : Nat} (hb : w.heap.size ≤ b) : b ∉ s.foot := fun h => by have := H.lt b h; omega

theorem mapR_len (s : Sto) (f : Rec → Rec) : (s.mapR f).recs.length = s.recs.length := by simp [Sto.mapR]

/-- what read makes of a store, its record and the others' marks -/
def Sto.joined (s : Sto) (r : Rec) (e : Ent) : Sto := s.mapR (joinF r.tb e)
def Rec.joined (r : Rec) (e : Ent) : Rec := { r with rd := put r.rd e () }

theorem mem_joined {s : Sto} {r : Rec} (hr : r ∈ s.recs) (e : Ent) : r.joined e ∈ (s.joined r e).recs := List.mem_map.2 ⟨r, hr, by simp [joinF, Rec.joined]⟩

theorem joined_drop {s : Sto} (r : Rec) (e : Ent) : ((s.joined r e).recs.filter fun x => decide (x.tb ≠ r.tb)) = s.recs.filter fun x => decide (x.tb ≠ r.tb) := by
  unfold Sto.joined Sto.mapR
  rw [List.filter_map]
  have e1 : s.recs.filter ((fun x : Rec => decide (x.tb ≠ r.tb)) ∘ joinF r.tb e) = s.recs.filter fun x => decide (x.tb ≠ r.tb) := by
    refine List.filter_congr (fun x _ => ?_)
    simp only [Function.comp, joinF]; split <;> simp_all
  rw [e1]
  conv => rhs; rw [← List.map_id (s.recs.filter fun x => decide (x.tb ≠ r.tb))]
  refine List.map_congr_left (fun x hx => ?_)
  have : x.tb ≠ r.tb := by simpa using (List.mem_filter.1 hx).2
  simp [joinF, this]

set_option maxRecDepth 100000 in
set_option maxHeartbeats 1000000 in
theorem read_ok {w : World} {s : Sto} (H : StAt w s) {r : Rec} (hr : r ∈ s.recs) (x : Bool) (lo hi : ByteArray) (hok : lo.size ≤ maxLen ∧ hi.size ≤ maxLen) (hn : s.nReads ≤ 1000) (hlen : s.recs.length ≤ 1000) (hroom : (look r.rd (x, lo, hi)).isSome = true ∨ s.nReads < s.c2)
    (hmay : (s.joined r (x, lo, hi)).mayW (r.joined (x, lo, hi)) (wrote (x, lo, hi)) = true) :
    Calls Tryz.prog 131 #[.pointer (some ⟨s.sb, 2, none⟩), .pointer (some ⟨r.tb, 0, none⟩), .agg #[.bool x, .string lo, .string hi]] w fun e w' => e = .returned (.int .i64 0) ∧
      ∃ L : List Nat, L.Perm (((s.joined r (x, lo, hi)).past (r.joined (x, lo, hi)) (wrote (x, lo, hi))).map (·.tb)) ∧ Turn s ((s.joined r (x, lo, hi)).mapR (fmW r.tb L)) w w' := by
  have HJ : Hid (Calls Tryz.prog 190 #[.pointer (some ⟨s.sb, 2, none⟩), .pointer (some ⟨r.tb, 0, none⟩), .agg #[.bool x, .string lo, .string hi]] (w.alloc (.cells #[.bool x, .string lo, .string hi] 213)) fun e w' => e = .returned (.bool true) ∧ Turn s (s.joined r (x, lo, hi)) w w' ∧ w'.heap[w.heap.size]? = some (.cells #[.bool x, .string lo, .string hi] 213)) := by
    have HA := H.quiet (Keeps.alloc (S := fun _ => False) w (.cells #[.bool x, .string lo, .string hi] 213))
    refine (joinReads_ok HA hr x lo hi hok hn hroom).mono fun e w' ⟨h1, h2⟩ => ⟨h1, (Turn.quiet H (Keeps.alloc _ _)).trans h2, ?_⟩
    exact (h2.keeps.block _ (by simp) (H.fresh (Nat.le_refl _))).trans (heap_alloc_new w _)
  have HW : Hid (∀ w2, Turn s (s.joined r (x, lo, hi)) w w2 → Calls Tryz.prog 191 #[.pointer (some ⟨s.sb, 2, none⟩), .pointer (some ⟨r.tb, 0, none⟩), .agg #[.bool x, .string lo, .string hi]] w2 fun e w' => e = .returned (.bool true) ∧
      ∃ L : List Nat, L.Perm (((s.joined r (x, lo, hi)).past (r.joined (x, lo, hi)) (wrote (x, lo, hi))).map (·.tb)) ∧ Turn s ((s.joined r (x, lo, hi)).mapR (fmW r.tb L)) w w') := fun w2 h2 => by
    refine (passWriters_h h2.at_ (mem_joined hr (x, lo, hi)) x lo hi (Nat.le_trans (Nat.le_of_eq (mapR_len s _)) hlen)).mono fun e w' ⟨L, hL, h3, h4, h5⟩ => ?_
    have hm : (s.joined r (x, lo, hi)).mayW (r.joined (x, lo, hi)) (fun y => y.wr.any fun p => coversB (x, lo, hi) p.1) = true := hmay
    rw [hm] at h3
    rw [Sto.markW, if_pos hm] at h5
    exact ⟨h3, L, hL, h2.trans (turn_mapR (mild_fmW _ _ _) h5 h4)⟩
  clear H
  go_enter Tryz.func131, Tryz.ntmps131
  go_wp2_with (first | (go_at_call 190; refine (HJ.out).mono ?_; rintro e w2 ⟨rfl, ht2, hbx⟩; have b0 := cell_of_heap (i := 0) hbx; have b1 := cell_of_heap (i := 1) hbx; have b2 := cell_of_heap (i := 2) hbx; simp at b0 b1 b2) | (go_at_call 191; refine (HW.out _ ht2).mono ?_; rintro e w3 ⟨rfl, L, hL, ht3⟩))
  go_ret
  exact ⟨rfl, L, hL, ht3⟩

set_option maxRecDepth 100000 in
set_option maxHeartbeats 1000000 in
theorem read_unsafe {w : World} {s : Sto} (H : StAt w s) {r : Rec} (hr : r ∈ s.recs) (hc : r.cm = 0) (hwf : (Lit.int .i64 r.h).wf = true) (x : Bool) (lo hi : ByteArray) (hok : lo.size ≤ maxLen ∧ hi.size ≤ maxLen) (hn : s.nReads ≤ 1000) (hlen : s.recs.length ≤ 1000) (hroom : (look r.rd (x, lo, hi)).isSome = true ∨ s.nReads < s.c2)
    (hmay : (s.joined r (x, lo, hi)).mayW (r.joined (x, lo, hi)) (wrote (x, lo, hi)) = false) :
    Calls Tryz.prog 131 #[.pointer (some ⟨s.sb, 2, none⟩), .pointer (some ⟨r.tb, 0, none⟩), .agg #[.bool x, .string lo, .string hi]] w fun e w' => e = .returned (.int .i64 8) ∧
      ∃ s', Turn s s' w w' ∧ s'.abs = { s.abs with txs := (s.recs.filter fun x => decide (x.tb ≠ r.tb)).map Rec.tx } := by
  have HJ : Hid (Calls Tryz.prog 190 #[.pointer (some ⟨s.sb, 2, none⟩), .pointer (some ⟨r.tb, 0, none⟩), .agg #[.bool x, .string lo, .string hi]] (w.alloc (.cells #[.bool x, .string lo, .string hi] 213)) fun e w' => e = .returned (.bool true) ∧ Turn s (s.joined r (x, lo, hi)) w w' ∧ w'.heap[w.heap.size]? = some (.cells #[.bool x, .string lo, .string hi] 213)) := by
    have HA := H.quiet (Keeps.alloc (S := fun _ => False) w (.cells #[.bool x, .string lo, .string hi] 213))
    refine (joinReads_ok HA hr x lo hi hok hn hroom).mono fun e w' ⟨h1, h2⟩ => ⟨h1, (Turn.quiet H (Keeps.alloc _ _)).trans h2, ?_⟩
    exact (h2.keeps.block _ (by simp) (H.fresh (Nat.le_refl _))).trans (heap_alloc_new w _)
  have HW : Hid (∀ w2, Turn s (s.joined r (x, lo, hi)) w w2 → Calls Tryz.prog 191 #[.pointer (some ⟨s.sb, 2, none⟩), .pointer (some ⟨r.tb, 0, none⟩), .agg #[.bool x, .string lo, .string hi]] w2 fun e w' => e = .returned (.bool false) ∧ Turn s (s.joined r (x, lo, hi)) w w') := fun w2 h2 => by
    refine (passWriters_h h2.at_ (mem_joined hr (x, lo, hi)) x lo hi (Nat.le_trans (Nat.le_of_eq (mapR_len s _)) hlen)).mono fun e w' ⟨L, hL, h3, h4, h5⟩ => ?_
    have hm : (s.joined r (x, lo, hi)).mayW (r.joined (x, lo, hi)) (fun y => y.wr.any fun p => coversB (x, lo, hi) p.1) = false := hmay
    rw [hm] at h3
    rw [Sto.markW, if_neg (by rw [hm]; simp)] at h5
    exact ⟨h3, h2.trans ⟨h5, rfl, rfl, h4, fun _ h => .inl h⟩⟩
  have HB : Hid (∀ w3, Turn s (s.joined r (x, lo, hi)) w w3 → Calls Tryz.prog 92 #[.pointer (some ⟨s.sb, 2, none⟩), .pointer (some ⟨r.tb, 0, none⟩)] w3 fun e w' => e = .returned (.tuple #[]) ∧
      ∃ s', Turn s s' w w' ∧ s'.abs = { s.abs with txs := (s.recs.filter fun x => decide (x.tb ≠ r.tb)).map Rec.tx }) := fun w3 h3 => by
    refine (abort_h h3.at_ (mem_joined hr (x, lo, hi)) hc hwf).mono fun e w' ⟨h4, s', h5, h6⟩ => ⟨h4, s', h3.trans h5, ?_⟩
    have := joined_drop (s := s) r (x, lo, hi)
    rw [show ((s.joined r (x, lo, hi)).recs.filter fun y => decide (y.tb ≠ (r.joined (x, lo, hi)).tb)) = s.recs.filter fun x => decide (x.tb ≠ r.tb) from this] at h6
    exact h6
  clear H
  go_enter Tryz.func131, Tryz.ntmps131
  go_wp2_with (first | (go_at_call 190; refine (HJ.out).mono ?_; rintro e w2 ⟨rfl, ht2, hbx⟩; have b0 := cell_of_heap (i := 0) hbx; have b1 := cell_of_heap (i := 1) hbx; have b2 := cell_of_heap (i := 2) hbx; simp at b0 b1 b2) | (go_at_call 191; refine (HW.out _ ht2).mono ?_; rintro e w3 ⟨rfl, ht3⟩) | (go_at_call 92; refine (HB.out _ ht3).mono ?_; rintro e w4 ⟨rfl, s4, ht4, ha4⟩))
  go_ret
  exact ⟨rfl, s4, ht4, ha4⟩

end Go.Proofs.YthfimgeopciiiaaGreat

/-
  Get, under the mutex.
-/
namespace Go.Proofs.YthfimgeopciiiaaGreat
open Go.MapKept Go.ChangeMaps Go.Maps Go.RowKit Go.MuLone

/-- the own write of a key, if any -/
theorem own_look {w : World} {r : Rec} (R : RecAt w r) (k : ByteArray) (hk : k.size ≤ maxLen) :
    (Instr.lookup 171 (.map (some r.wb)) (.string k) true).run Tryz.prog w = .ok (.tuple #[.agg #[.string ((look r.wr k).getD (⟨#[]⟩, false)).1, .bool ((look r.wr k).getD (⟨#[]⟩, false)).2], .bool (look r.wr k).isSome]) w := by
  have := R.wr.look sk_good Tryz.underlying171 zero_cont (x := k) hk true
  cases h : look r.wr k with
  | none => rw [h] at this; simpa [sk, contV] using this
  | some c => rw [h] at this; simpa [sk, contV] using this

theorem key_small {k : ByteArray} (h : keyB k = true) : k.size ≤ 4 := by
  simp [keyB] at h; exact h.2

set_option maxRecDepth 100000 in
set_option maxHeartbeats 1000000 in
theorem get_no {w : World} {s : Sto} (H : StAt w s) (h : Int) (hw : (Lit.int .i64 h).wf = true) (k : ByteArray) (hr : s.act? h = none) :
    Calls Tryz.prog 90 #[.pointer (some ⟨s.sb, 2, none⟩), .int .i64 h, .string k] w fun e w' => e = .returned (.tuple #[.string ⟨#[]⟩, .bool false, .int .i64 2]) ∧ ∃ s', Turn s s' w w' ∧ s'.abs = s.abs := by
  have HL := H
  have HA := hidC (active_no HL h hw hr)
  have hfin := (Turn.refl HL)
  clear H HL hr
  go_enter Tryz.func90, Tryz.ntmps90
  go_wp2_with (first | (go_at_call 91; refine (HA.out).mono ?_; rintro e w' ⟨⟨p, rfl⟩, rfl⟩))
  go_ret3
  exact ⟨rfl, _, hfin, rfl⟩

set_option maxRecDepth 100000 in
set_option maxHeartbeats 1000000 in
theorem get_key {w : World} {s : Sto} (H : StAt w s) (h : Int) (hw : (Lit.int .i64 h).wf = true) (k : ByteArray) {r : Rec} (hr : s.act? h = some r) (hk : keyB k = false) :
    Calls Tryz.prog 90 #[.pointer (some ⟨s.sb, 2, none⟩), .int .i64 h, .string k] w fun e w' => e = .returned (.tuple #[.string ⟨#[]⟩, .bool false, .int .i64 3]) ∧ ∃ s', Turn s s' w w' ∧ s'.abs = s.abs := by
  have HL := H
  have HA := hidC (active_yes HL h hw hr)
  have hfin := (Turn.refl HL)
  clear H HL hr
  have HK : Hid (∀ W, Calls Tryz.prog 147 #[.string k] W fun e w' => e = .returned (.bool false) ∧ w' = W) := fun W => by rw [← hk]; exact isKey_any k W
  go_enter Tryz.func90, Tryz.ntmps90
  go_wp2_with (first | (go_at_call 91; refine (HA.out).mono ?_; rintro e w' ⟨rfl, rfl⟩) | (go_at_call 147; refine (HK.out _).mono ?_; rintro e w' ⟨rfl, rfl⟩))
  go_ret3
  exact ⟨rfl, _, hfin, rfl⟩

set_option maxRecDepth 100000 in
set_option maxHeartbeats 1000000 in
theorem get_own {w : World} {s : Sto} (H : StAt w s) (h : Int) (hw : (Lit.int .i64 h).wf = true) (k : ByteArray) {r : Rec} (hr : s.act? h = some r) (hk : keyB k = true) {c : Cont} (hc : look r.wr k = some c) :
    Calls Tryz.prog 90 #[.pointer (some ⟨s.sb, 2, none⟩), .int .i64 h, .string k] w fun e w' => e = .returned (.tuple #[.string c.1, .bool (!c.2), .int .i64 0]) ∧ ∃ s', Turn s s' w w' ∧ s'.abs = s.abs := by
  have HL := H
  have HA := hidC (active_yes HL h hw hr)
  obtain ⟨m1, m2, m3⟩ := act_mem hr
  have t3 : w.cell? ⟨r.tb, 3, none⟩ = some (.map (some r.wb)) := (HL.recs r m1).cell 3
  have hlk := own_look (HL.recs r m1) k (by have := key_small hk; simp [maxLen]; omega)
  rw [hc] at hlk
  simp only [Option.getD_some, Option.isSome_some] at hlk
  have HK : Hid (∀ W, Calls Tryz.prog 147 #[.string k] W fun e w' => e = .returned (.bool true) ∧ w' = W) := fun W => by rw [← hk]; exact isKey_any k W
  have HT : Hid (∀ W, Calls Tryz.prog 148 #[.agg #[.string c.1, .bool c.2]] W fun e w' => e = .returned (.tuple #[.string c.1, .bool (!c.2)]) ∧ Quiet W w') := fun W => told_any c.1 c.2 W
  have HQ : Hid (∀ w2, Quiet w w2 → Turn s s w w2) := fun w2 hq => Turn.quiet HL hq
  clear H HL hr
  go_enter Tryz.func90, Tryz.ntmps90
  go_wp2_with (first | (go_at_call 91; refine (HA.out).mono ?_; rintro e w' ⟨rfl, rfl⟩) | (go_at_call 147; refine (HK.out _).mono ?_; rintro e w' ⟨rfl, rfl⟩) | (go_at_call 148; refine (HT.out _).mono ?_; rintro e w3 ⟨rfl, hq3⟩))
  have hfin := (HQ.out _ (Quiet.trans' (Keeps.alloc _ _) hq3))
  go_ret3
  exact ⟨rfl, _, hfin, rfl⟩

/-- the entry of a key -/
def keyE (k : ByteArray) : Ent := (false, k, ⟨#[]⟩)

set_option maxRecDepth 100000 in
set_option maxHeartbeats 1000000 in
/-- Get of a key that is not its own, where read refuses. -/
theorem get_refused {w : World} {s : Sto} (H : StAt w s) (h : Int) (hw : (Lit.int .i64 h).wf = true) (k : ByteArray) {r : Rec} (hr : s.act? h = some r) (hk : keyB k = true) (hc : look r.wr k = none) (er : Int) (her : er ≠ 0) (R : Sto → Prop)
    (hread : ∀ W, StAt W s → Calls Tryz.prog 131 #[.pointer (some ⟨s.sb, 2, none⟩), .pointer (some ⟨r.tb, 0, none⟩), .agg #[.bool false, .string k, .string ⟨#[]⟩]] W fun e w' => e = .returned (.int .i64 er) ∧ ∃ s', Turn s s' W w' ∧ R s') :
    Calls Tryz.prog 90 #[.pointer (some ⟨s.sb, 2, none⟩), .int .i64 h, .string k] w fun e w' => e = .returned (.tuple #[.string ⟨#[]⟩, .bool false, .int .i64 er]) ∧ ∃ s', Turn s s' w w' ∧ R s' := by
  have HL := H
  have HA := hidC (active_yes HL h hw hr)
  obtain ⟨m1, m2, m3⟩ := act_mem hr
  have t3 : w.cell? ⟨r.tb, 3, none⟩ = some (.map (some r.wb)) := (HL.recs r m1).cell 3
  have hlk := own_look (HL.recs r m1) k (by have := key_small hk; simp [maxLen]; omega)
  rw [hc] at hlk
  simp only [Option.getD_none, Option.isSome_none] at hlk
  have HK : Hid (∀ W, Calls Tryz.prog 147 #[.string k] W fun e w' => e = .returned (.bool true) ∧ w' = W) := fun W => by rw [← hk]; exact isKey_any k W
  have HE : Hid (∀ W, Calls Tryz.prog 149 #[.string k] W fun e w' => e = .returned (.agg #[.bool false, .string k, .string ⟨#[]⟩]) ∧ Quiet W w') := fun W => keyEntry_h k W (by have := key_small hk; omega)
  have HR : Hid (∀ w2, Quiet w w2 → Calls Tryz.prog 131 #[.pointer (some ⟨s.sb, 2, none⟩), .pointer (some ⟨r.tb, 0, none⟩), .agg #[.bool false, .string k, .string ⟨#[]⟩]] w2 fun e w' => e = .returned (.int .i64 er) ∧ ∃ s', Turn s s' w w' ∧ R s') :=
    fun w2 hq => (hread w2 (HL.quiet hq)).mono fun e w' ⟨h1, s', h2, h3⟩ => ⟨h1, s', (Turn.quiet HL hq).trans h2, h3⟩
  clear H HL hr hread
  go_enter Tryz.func90, Tryz.ntmps90
  go_wp2_with (first | (go_at_call 91; refine (HA.out).mono ?_; rintro e w' ⟨rfl, rfl⟩) | (go_at_call 147; refine (HK.out _).mono ?_; rintro e w' ⟨rfl, rfl⟩) | (go_at_call 149; refine (HE.out _).mono ?_; rintro e w3 ⟨rfl, hq3⟩) | (go_at_call 131; refine (HR.out _ (Quiet.trans' (Keeps.alloc _ _) hq3)).mono ?_; rintro e w4 ⟨rfl, s4, ht4, hR4⟩))
  have hfin := ht4
  go_ret3
  exact ⟨rfl, _, hfin, hR4⟩

/-- the store behind a read that is allowed -/
def Sto.readL (s : Sto) (r : Rec) (e : Ent) (L : List Nat) : Sto := (s.joined r e).mapR (fmW r.tb L)
def Sto.readP (s : Sto) (r : Rec) (e : Ent) : List Rec := (s.joined r e).past (r.joined e) (wrote e)
def Sto.readOk (s : Sto) (r : Rec) (e : Ent) : Bool := (s.joined r e).mayW (r.joined e) (wrote e)

theorem mem_readL {s : Sto} {r : Rec} (hr : r ∈ s.recs) (e : Ent) (L : List Nat) : fmW r.tb L (r.joined e) ∈ (s.readL r e L).recs := List.mem_map.2 ⟨_, mem_joined hr e, rfl⟩

set_option maxRecDepth 100000 in
set_option maxHeartbeats 1000000 in
theorem get_ok {w : World} {s : Sto} (H : StAt w s) (h : Int) (hw : (Lit.int .i64 h).wf = true) (k : ByteArray) {r : Rec} (hr : s.act? h = some r) (hk : keyB k = true) (hc : look r.wr k = none) (hn : s.nReads ≤ 1000) (hlen : s.recs.length ≤ 1000) (hvs : (s.vs k).length ≤ 1000) (hroom : (look r.rd (keyE k)).isSome = true ∨ s.nReads < s.c2)
    (hmay : s.readOk r (keyE k) = true) :
    Calls Tryz.prog 90 #[.pointer (some ⟨s.sb, 2, none⟩), .int .i64 h, .string k] w fun e w' => e = .returned (.tuple #[.string (snap (s.vs k) r.bg).1, .bool (!(snap (s.vs k) r.bg).2), .int .i64 0]) ∧
      ∃ L : List Nat, L.Perm ((s.readP r (keyE k)).map (·.tb)) ∧ Turn s (s.readL r (keyE k) L) w w' := by
  have HL := H
  have HA := hidC (active_yes HL h hw hr)
  obtain ⟨m1, m2, m3⟩ := act_mem hr
  have t3 : w.cell? ⟨r.tb, 3, none⟩ = some (.map (some r.wb)) := (HL.recs r m1).cell 3
  have hkl : k.size ≤ maxLen := by have := key_small hk; simp [maxLen]; omega
  have hlk := own_look (HL.recs r m1) k hkl
  rw [hc] at hlk
  simp only [Option.getD_none, Option.isSome_none] at hlk
  have HK : Hid (∀ W, Calls Tryz.prog 147 #[.string k] W fun e w' => e = .returned (.bool true) ∧ w' = W) := fun W => by rw [← hk]; exact isKey_any k W
  have HE : Hid (∀ W, Calls Tryz.prog 149 #[.string k] W fun e w' => e = .returned (.agg #[.bool false, .string k, .string ⟨#[]⟩]) ∧ Quiet W w') := fun W => keyEntry_h k W (by have := key_small hk; omega)
  have HR : Hid (∀ w2, Quiet w w2 → Calls Tryz.prog 131 #[.pointer (some ⟨s.sb, 2, none⟩), .pointer (some ⟨r.tb, 0, none⟩), .agg #[.bool false, .string k, .string ⟨#[]⟩]] w2 fun e w' => e = .returned (.int .i64 0) ∧
      ∃ L : List Nat, L.Perm ((s.readP r (keyE k)).map (·.tb)) ∧ Turn s (s.readL r (keyE k) L) w w') :=
    fun w2 hq => (read_ok (s := s) (HL.quiet hq) m1 false k ⟨#[]⟩ ⟨hkl, Nat.zero_le _⟩ hn hlen hroom hmay).mono fun e w' ⟨h1, L, h2, h3⟩ => ⟨h1, L, h2, (Turn.quiet HL hq).trans h3⟩
  have HS : Hid (∀ L w2, Turn s (s.readL r (keyE k) L) w w2 → Calls Tryz.prog 150 #[.pointer (some ⟨s.sb, 2, none⟩), .pointer (some ⟨r.tb, 0, none⟩), .string k] w2 fun e w' => e = .returned (.agg #[.string (snap (s.vs k) r.bg).1, .bool (snap (s.vs k) r.bg).2]) ∧ Turn s (s.readL r (keyE k) L) w w') :=
    fun L w2 ht => (snapshot_h ht.at_ (mem_readL (s := s) m1 (keyE k) L) k hkl hvs).mono fun e w' ⟨h1, h2⟩ => ⟨h1, ht.trans (Turn.quiet ht.at_ h2)⟩
  have HT : Hid (∀ L W, Turn s (s.readL r (keyE k) L) w W → Calls Tryz.prog 148 #[.agg #[.string (snap (s.vs k) r.bg).1, .bool (snap (s.vs k) r.bg).2]] W fun e w' => e = .returned (.tuple #[.string (snap (s.vs k) r.bg).1, .bool (!(snap (s.vs k) r.bg).2)]) ∧ Turn s (s.readL r (keyE k) L) w w') :=
    fun L W ht => (told_any _ _ W).mono fun e w' ⟨h1, h2⟩ => ⟨h1, ht.trans (Turn.quiet ht.at_ h2)⟩
  generalize hcd : snap (s.vs k) r.bg = c at *
  clear H HL hr hcd
  go_enter Tryz.func90, Tryz.ntmps90
  go_wp2_with (first | (go_at_call 91; refine (HA.out).mono ?_; rintro e w' ⟨rfl, rfl⟩) | (go_at_call 147; refine (HK.out _).mono ?_; rintro e w' ⟨rfl, rfl⟩) | (go_at_call 149; refine (HE.out _).mono ?_; rintro e w3 ⟨rfl, hq3⟩) | (go_at_call 131; refine (HR.out _ (Quiet.trans' (Keeps.alloc _ _) hq3)).mono ?_; rintro e w4 ⟨rfl, L, hL, ht4⟩) | (go_at_call 150; refine (HS.out _ _ ht4).mono ?_; rintro e w5 ⟨rfl, ht5⟩) | (go_at_call 148; refine (HT.out _ _ ht5).mono ?_; rintro e w6 ⟨rfl, ht6⟩))
  have hfin := ht6
  go_ret3
  exact ⟨rfl, L, hL, hfin⟩

end Go.Proofs.YthfimgeopciiiaaGreat
