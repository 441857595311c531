/-
  Write, under the mutex.
-/
import Derived.Test.YthfimgeopciiiaaGreatWrites
namespace Go.Proofs.YthfimgeopciiiaaGreat
open Go.MapKept Go.ChangeMaps Go.Maps Go.RowKit Go.MuLone

def setWr (t : Nat) (l : List (ByteArray × Cont)) (x : Rec) : Rec := if x.tb = t then { x with wr := l } else x
theorem mild_setWr (s : Sto) (t : Nat) (l : List (ByteArray × Cont)) : Mild s (setWr t l) := by
  constructor <;> intro r _ <;> unfold setWr <;> split <;> rfl

theorem StAt.setWr {w w' : World} {s : Sto} (H : StAt w s) {r : Rec} (hr : r ∈ s.recs) {l : List (ByteArray × Cont)} (hm : MapIs sk contV w' r.wb l) (hk : Keeps (fun b => b = r.wb) w w') : StAt w' (s.mapR (setWr r.tb l)) := by
  have hn := (Sto.nd_parts H.nd).2.2.2.2.2.2.1
  obtain ⟨n1, n2, n3⟩ := foot_nodup hn hr
  refine H.upd (mild_setWr s r.tb l) (fun x hx => ?_) (fun b hb hno => hk.block b (H.lt b hb) (fun e => hno r hr (by rw [e]; simp [Rec.foot])))
  unfold Go.Proofs.YthfimgeopciiiaaGreat.setWr
  by_cases e : x.tb = r.tb
  · have := rec_tb_inj H.nd hx hr e
    subst this
    rw [if_pos rfl]
    have R := H.recs x hx
    exact ⟨(hk.block _ (R.lt _ (by simp [Rec.foot])) n1).trans R.own, hm, R.rd.of_block (hk.block _ R.rd.lt (Ne.symm n3))⟩
  · rw [if_neg e]
    have R := H.recs x hx
    refine R.of_blocks (fun b hb => hk.block b (R.lt b hb) (fun e' => e ?_))
    rw [nodup_flatMap_apart hn hx hr hb (by rw [e']; simp [Rec.foot])]

/-- the block that a slice's elements lie in, if it has one -/
def heldBlock : Value → Option Nat
  | .slice (some a) (_ + 1) _ => some a.block
  | _ => none

theorem ChAt.kept {w w' : World} {S : Nat → Prop} {v : Value} {cs : List Chg} (h : ChAt w v cs) (k : Keeps S w w') (hs : ∀ b, heldBlock v = some b → ¬ S b) : ChAt w' v cs := by
  obtain ⟨⟨a, cap, e, hc⟩, hl⟩ := h
  refine ⟨⟨a, cap, e, ?_⟩, hl⟩
  rcases hc with h0 | ⟨g, o, ea, hg, hcell⟩
  · exact .inl h0
  · exact .inr ⟨g, o, ea, Nat.lt_of_lt_of_le hg k.size, fun i x hx => by
    have hcl : ∃ n, cs.length = n + 1 := ⟨cs.length - 1, by have := (List.getElem?_eq_some_iff.1 hx).1; omega⟩
    obtain ⟨n, hn⟩ := hcl
    simp only [k.cell hg (hs g (by rw [e, ea, hn]; rfl))]; exact hcell i x hx⟩

/-- how many keys the writes would have -/
def Rec.with_ (r : Rec) (cs : List Chg) : Nat := r.wr.length + (more r.wr cs).length
/-- who has read one of the keys -/
def readBy (cs : List Chg) (y : Rec) : Bool := y.rd.any fun p => readF cs p.1
def Sto.writeOk (s : Sto) (r : Rec) (cs : List Chg) : Bool := s.mayR r (readBy cs)
def Sto.writeP (s : Sto) (r : Rec) (cs : List Chg) : List Rec := s.past r (readBy cs)
def Sto.writeL (s : Sto) (r : Rec) (cs : List Chg) (L : List Nat) : Sto := (s.mapR (fmR r.tb L)).mapR (Go.Proofs.YthfimgeopciiiaaGreat.setWr r.tb (joinW r.wr cs))

set_option maxRecDepth 100000 in
set_option maxHeartbeats 1000000 in
theorem write_no {w : World} {s : Sto} (H : StAt w s) (h : Int) (hw : (Lit.int .i64 h).wf = true) (v : Value) (hr : s.act? h = none) :
    Calls Tryz.prog 56 #[.pointer (some ⟨s.sb, 2, none⟩), .int .i64 h, v] w fun e w' => e = .returned (.int .i64 2) ∧ ∃ s', Turn s s' w w' ∧ s'.abs = s.abs := by
  have HL := H
  have HA := hidC (active_no HL h hw hr)
  have hfin := (Turn.refl HL)
  clear H HL hr
  go_enter Tryz.func56, Tryz.ntmps56
  go_wp2_with (first | (go_at_call 91; refine (HA.out).mono ?_; rintro e w' ⟨⟨p, rfl⟩, rfl⟩))
  go_ret
  exact ⟨rfl, _, hfin, rfl⟩

theorem ChAt.lock {w : World} {v : Value} {cs : List Chg} (h : ChAt w v cs) {b : Nat} (hb : heldBlock v ≠ some b) (x : Value) : ChAt (w.setCell ⟨b, 0, none⟩ x) v cs :=
  h.kept (Keeps.setCell (S := fun c => c = b) w ⟨b, 0, none⟩ x rfl) (fun c hc e => hb (by rw [hc, e]))

set_option maxRecDepth 100000 in
set_option maxHeartbeats 1000000 in
theorem write_bad {w : World} {s : Sto} (H : StAt w s) (h : Int) (hw : (Lit.int .i64 h).wf = true) (v : Value) (cs : List Chg) (hch : ChAt w v cs) (hap : ∀ b, heldBlock v = some b → b ∉ s.foot) {r : Rec} (hr : s.act? h = some r) (hk : changesE cs ≠ 0) :
    Calls Tryz.prog 56 #[.pointer (some ⟨s.sb, 2, none⟩), .int .i64 h, v] w fun e w' => e = .returned (.int .i64 (changesE cs)) ∧ ∃ s', Turn s s' w w' ∧ s'.abs = s.abs := by
  have HL := H
  have HA := hidC (active_yes HL h hw hr)
  have hsb : heldBlock v ≠ some s.sb := fun e => hap _ e (by simp [Sto.foot])
  have HC := hidC (checkChanges_h w v cs hch)
  have HQ : Hid (∀ w2, Quiet w w2 → Turn s s w w2) := fun w2 hq => Turn.quiet HL hq
  clear H HL hr hch
  generalize changesE cs = er at *
  go_enter Tryz.func56, Tryz.ntmps56
  go_wp2_with (first | (go_at_call 91; refine (HA.out).mono ?_; rintro e w' ⟨rfl, rfl⟩) | (go_at_call 96; refine (HC.out).mono ?_; rintro e w3 ⟨rfl, hq3⟩))
  have hfin := (HQ.out _ hq3)
  go_ret
  exact ⟨rfl, _, hfin, rfl⟩

set_option maxRecDepth 100000 in
set_option maxHeartbeats 2000000 in
theorem write_full {w : World} {s : Sto} (H : StAt w s) (h : Int) (hw : (Lit.int .i64 h).wf = true) (v : Value) (cs : List Chg) (hch : ChAt w v cs) (hap : ∀ b, heldBlock v = some b → b ∉ s.foot) {r : Rec} (hr : s.act? h = some r) (hk : changesE cs = 0) (hwl : r.wr.length ≤ 1000) (hfull : s.c3 < r.with_ cs) :
    Calls Tryz.prog 56 #[.pointer (some ⟨s.sb, 2, none⟩), .int .i64 h, v] w fun e w' => e = .returned (.int .i64 6) ∧ ∃ s', Turn s s' w w' ∧ s'.abs = s.abs := by
  have HL := H
  have HA := hidC (active_yes HL h hw hr)
  obtain ⟨m1, m2, m3⟩ := act_mem hr
  have hsb : heldBlock v ≠ some s.sb := fun e => hap _ e (by simp [Sto.foot])
  have hchL := hch
  have hcell : ∀ w2, Quiet w w2 → w2.cell? ⟨s.sb, 4, none⟩ = some (.int .i64 s.c3) := fun w2 hq => (HL.quiet hq).cell 4
  have HC : Hid (Calls Tryz.prog 96 #[v] w fun e w' => e = .returned (.int .i64 0) ∧ Quiet w w' ∧ w'.cell? ⟨s.sb, 4, none⟩ = some (.int .i64 s.c3)) := by
    have := checkChanges_h w v cs hchL
    rw [hk] at this
    exact this.mono fun e w' ⟨h1, h2⟩ => ⟨h1, h2, hcell _ h2⟩
  have HKW : Hid (∀ w2, Quiet w w2 → Calls Tryz.prog 97 #[.pointer (some ⟨r.tb, 0, none⟩), v] w2 fun e w' => e = .returned (.int .i64 (r.with_ cs)) ∧ Quiet w w' ∧ w'.cell? ⟨s.sb, 4, none⟩ = some (.int .i64 s.c3)) := fun w2 hq =>
    (keysWith_h w2 r ((HL.quiet hq).recs r m1) v cs (hchL.quiet hq) (fun c hc => (chg_ok hk c hc).1) hwl).mono fun e w' ⟨h1, h2⟩ => ⟨h1, Quiet.trans' hq h2, hcell _ (Quiet.trans' hq h2)⟩
  have HQ : Hid (∀ w2, Quiet w w2 → Turn s s w w2) := fun w2 hq => Turn.quiet HL hq
  clear H HL hr hch hchL hcell hk
  generalize r.with_ cs = kw at *
  go_enter Tryz.func56, Tryz.ntmps56
  go_wp2_with (first | (go_at_call 91; refine (HA.out).mono ?_; rintro e w' ⟨rfl, rfl⟩) | (go_at_call 96; refine (HC.out).mono ?_; rintro e w3 ⟨rfl, hq3, z4⟩))
  try refine wp_nopanic ?_
  go_region_with (go_at_call 97; refine (HKW.out _ (by repeat (first | assumption | refine Quiet.trans' ?_ (Keeps.drew _)))).mono ?_; rintro e w4 ⟨rfl, hq4, y4⟩)
  all_goals
    go_wp2
    have hfin := (HQ.out _ hq4)
    go_ret
    exact ⟨rfl, _, hfin, rfl⟩

set_option maxRecDepth 100000 in
set_option maxHeartbeats 2000000 in
theorem write_conflict {w : World} {s : Sto} (H : StAt w s) (h : Int) (hw : (Lit.int .i64 h).wf = true) (v : Value) (cs : List Chg) (hch : ChAt w v cs) (hap : ∀ b, heldBlock v = some b → b ∉ s.foot) {r : Rec} (hr : s.act? h = some r) (hk : changesE cs = 0) (hwl : r.wr.length ≤ 1000) (hroom : r.with_ cs ≤ s.c3) (hvs : ∀ k, (s.vs k).length ≤ 1000) (hcf : (cs.any fun c => conflictF s r c.1) = true) :
    Calls Tryz.prog 56 #[.pointer (some ⟨s.sb, 2, none⟩), .int .i64 h, v] w fun e w' => e = .returned (.int .i64 7) ∧ ∃ s', Turn s s' w w' ∧ s'.abs = { s.abs with txs := (s.recs.filter fun x => decide (x.tb ≠ r.tb)).map Rec.tx } := by
  have HL := H
  have HA := hidC (active_yes HL h hw hr)
  obtain ⟨m1, m2, m3⟩ := act_mem hr
  have hsb : heldBlock v ≠ some s.sb := fun e => hap _ e (by simp [Sto.foot])
  have hchL := hch
  have hcell : ∀ w2, Quiet w w2 → w2.cell? ⟨s.sb, 4, none⟩ = some (.int .i64 s.c3) := fun w2 hq => (HL.quiet hq).cell 4
  have HC : Hid (Calls Tryz.prog 96 #[v] w fun e w' => e = .returned (.int .i64 0) ∧ Quiet w w' ∧ w'.cell? ⟨s.sb, 4, none⟩ = some (.int .i64 s.c3)) := by
    have := checkChanges_h w v cs hchL
    rw [hk] at this
    exact this.mono fun e w' ⟨h1, h2⟩ => ⟨h1, h2, hcell _ h2⟩
  have HKW : Hid (∀ w2, Quiet w w2 → Calls Tryz.prog 97 #[.pointer (some ⟨r.tb, 0, none⟩), v] w2 fun e w' => e = .returned (.int .i64 (r.with_ cs)) ∧ Quiet w w' ∧ w'.cell? ⟨s.sb, 4, none⟩ = some (.int .i64 s.c3)) := fun w2 hq =>
    (keysWith_h w2 r ((HL.quiet hq).recs r m1) v cs (hchL.quiet hq) (fun c hc => (chg_ok hk c hc).1) hwl).mono fun e w' ⟨h1, h2⟩ => ⟨h1, Quiet.trans' hq h2, hcell _ (Quiet.trans' hq h2)⟩
  have hkl : ∀ c ∈ cs, c.1.size ≤ maxLen := fun c hc => by have := key_small (chg_ok hk c hc).1; simp [maxLen]; omega
  have HCf : Hid (∀ w2, Quiet w w2 → Calls Tryz.prog 98 #[.pointer (some ⟨s.sb, 2, none⟩), .pointer (some ⟨r.tb, 0, none⟩), v] w2 fun e w' => e = .returned (.bool true) ∧ Quiet w w') := fun w2 hq =>
    (conflicts_h (s := s) (HL.quiet hq) m1 v cs (hchL.quiet hq) hkl hvs).mono fun e w' ⟨h1, h2⟩ => ⟨by rw [h1]; exact ret_bool hcf, Quiet.trans' hq h2⟩
  have HB : Hid (∀ w3, Turn s s w w3 → Calls Tryz.prog 92 #[.pointer (some ⟨s.sb, 2, none⟩), .pointer (some ⟨r.tb, 0, none⟩)] w3 fun e w' => e = .returned (.tuple #[]) ∧
      ∃ s', Turn s s' w w' ∧ s'.abs = { s.abs with txs := (s.recs.filter fun x => decide (x.tb ≠ r.tb)).map Rec.tx }) := fun w3 h3 =>
    (abort_h h3.at_ m1 m3 (by rw [m2]; exact hw)).mono fun e w' ⟨h4, s', h5, h6⟩ => ⟨h4, s', h3.trans h5, h6⟩
  have HQ : Hid (∀ w2, Quiet w w2 → Turn s s w w2) := fun w2 hq => Turn.quiet HL hq
  clear H HL hr hch hchL hcell hk hkl hcf hvs
  generalize hkwd : r.with_ cs = kw at *
  have hroom' : ¬ (s.c3 : Int) < (kw : Int) := by omega
  go_enter Tryz.func56, Tryz.ntmps56
  go_wp2_with (first | (go_at_call 91; refine (HA.out).mono ?_; rintro e w' ⟨rfl, rfl⟩) | (go_at_call 96; refine (HC.out).mono ?_; rintro e w3 ⟨rfl, hq3, z4⟩))
  try refine wp_nopanic ?_
  go_region_with (go_at_call 97; refine (HKW.out _ (by repeat (first | assumption | refine Quiet.trans' ?_ (Keeps.drew _)))).mono ?_; rintro e w4 ⟨rfl, hq4, y4⟩)
  all_goals
    go_wp2_with (first | (go_at_call 98; refine (HCf.out _ hq4).mono ?_; rintro e w5 ⟨rfl, hq5⟩) | (go_at_call 92; refine (HB.out _ (HQ.out _ hq5)).mono ?_; rintro e w6 ⟨rfl, s6, ht6, ha6⟩))
    have hfin := ht6
    go_ret
    exact ⟨rfl, _, hfin, ha6⟩

set_option maxRecDepth 100000 in
set_option maxHeartbeats 2000000 in
theorem write_unsafe {w : World} {s : Sto} (H : StAt w s) (h : Int) (hw : (Lit.int .i64 h).wf = true) (v : Value) (cs : List Chg) (hch : ChAt w v cs) (hap : ∀ b, heldBlock v = some b → b ∉ s.foot) {r : Rec} (hr : s.act? h = some r) (hk : changesE cs = 0) (hwl : r.wr.length ≤ 1000) (hroom : r.with_ cs ≤ s.c3) (hvs : ∀ k, (s.vs k).length ≤ 1000) (hlen : s.recs.length ≤ 1000) (hcf : (cs.any fun c => conflictF s r c.1) = false) (hmay : s.writeOk r cs = false) :
    Calls Tryz.prog 56 #[.pointer (some ⟨s.sb, 2, none⟩), .int .i64 h, v] w fun e w' => e = .returned (.int .i64 8) ∧ ∃ s', Turn s s' w w' ∧ s'.abs = { s.abs with txs := (s.recs.filter fun x => decide (x.tb ≠ r.tb)).map Rec.tx } := by
  have HL := H
  have HA := hidC (active_yes HL h hw hr)
  obtain ⟨m1, m2, m3⟩ := act_mem hr
  have hsb : heldBlock v ≠ some s.sb := fun e => hap _ e (by simp [Sto.foot])
  have hchL := hch
  have hcell : ∀ w2, Quiet w w2 → w2.cell? ⟨s.sb, 4, none⟩ = some (.int .i64 s.c3) := fun w2 hq => (HL.quiet hq).cell 4
  have HC : Hid (Calls Tryz.prog 96 #[v] w fun e w' => e = .returned (.int .i64 0) ∧ Quiet w w' ∧ w'.cell? ⟨s.sb, 4, none⟩ = some (.int .i64 s.c3)) := by
    have := checkChanges_h w v cs hchL
    rw [hk] at this
    exact this.mono fun e w' ⟨h1, h2⟩ => ⟨h1, h2, hcell _ h2⟩
  have HKW : Hid (∀ w2, Quiet w w2 → Calls Tryz.prog 97 #[.pointer (some ⟨r.tb, 0, none⟩), v] w2 fun e w' => e = .returned (.int .i64 (r.with_ cs)) ∧ Quiet w w' ∧ w'.cell? ⟨s.sb, 4, none⟩ = some (.int .i64 s.c3)) := fun w2 hq =>
    (keysWith_h w2 r ((HL.quiet hq).recs r m1) v cs (hchL.quiet hq) (fun c hc => (chg_ok hk c hc).1) hwl).mono fun e w' ⟨h1, h2⟩ => ⟨h1, Quiet.trans' hq h2, hcell _ (Quiet.trans' hq h2)⟩
  have hkl : ∀ c ∈ cs, c.1.size ≤ maxLen := fun c hc => by have := key_small (chg_ok hk c hc).1; simp [maxLen]; omega
  have HCf : Hid (∀ w2, Quiet w w2 → Calls Tryz.prog 98 #[.pointer (some ⟨s.sb, 2, none⟩), .pointer (some ⟨r.tb, 0, none⟩), v] w2 fun e w' => e = .returned (.bool false) ∧ Quiet w w') := fun w2 hq =>
    (conflicts_h (s := s) (HL.quiet hq) m1 v cs (hchL.quiet hq) hkl hvs).mono fun e w' ⟨h1, h2⟩ => ⟨by rw [h1]; exact ret_bool hcf, Quiet.trans' hq h2⟩
  have HB : Hid (∀ w3, Turn s s w w3 → Calls Tryz.prog 92 #[.pointer (some ⟨s.sb, 2, none⟩), .pointer (some ⟨r.tb, 0, none⟩)] w3 fun e w' => e = .returned (.tuple #[]) ∧
      ∃ s', Turn s s' w w' ∧ s'.abs = { s.abs with txs := (s.recs.filter fun x => decide (x.tb ≠ r.tb)).map Rec.tx }) := fun w3 h3 =>
    (abort_h h3.at_ m1 m3 (by rw [m2]; exact hw)).mono fun e w' ⟨h4, s', h5, h6⟩ => ⟨h4, s', h3.trans h5, h6⟩
  have HQ : Hid (∀ w2, Quiet w w2 → Turn s s w w2) := fun w2 hq => Turn.quiet HL hq
  have HP : Hid (∀ w2, Quiet w w2 → Calls Tryz.prog 99 #[.pointer (some ⟨s.sb, 2, none⟩), .pointer (some ⟨r.tb, 0, none⟩), v] w2 fun e w' => e = .returned (.bool false) ∧ Turn s s w w') := fun w2 hq => by
    refine (passReaders_h (s := s) (HL.quiet hq) m1 v cs (hchL.quiet hq) hlen).mono fun e w' ⟨L, hL, h3, h4, h5⟩ => ?_
    have hm : s.mayR r (fun y => y.rd.any fun p => readF cs p.1) = false := hmay
    rw [hm] at h3
    rw [Sto.markR, if_neg (by rw [hm]; simp)] at h5
    exact ⟨h3, (Turn.quiet HL hq).trans ⟨h5, rfl, rfl, h4, fun _ h => .inl h⟩⟩
  clear H HL hr hch hchL hcell hk hkl hcf hvs hmay HQ
  generalize hkwd : r.with_ cs = kw at *
  have hroom' : ¬ (s.c3 : Int) < (kw : Int) := by omega
  go_enter Tryz.func56, Tryz.ntmps56
  go_wp2_with (first | (go_at_call 91; refine (HA.out).mono ?_; rintro e w' ⟨rfl, rfl⟩) | (go_at_call 96; refine (HC.out).mono ?_; rintro e w3 ⟨rfl, hq3, z4⟩))
  try refine wp_nopanic ?_
  go_region_with (go_at_call 97; refine (HKW.out _ (by repeat (first | assumption | refine Quiet.trans' ?_ (Keeps.drew _)))).mono ?_; rintro e w4 ⟨rfl, hq4, y4⟩)
  all_goals
    go_wp2_with (first | (go_at_call 98; refine (HCf.out _ hq4).mono ?_; rintro e w5 ⟨rfl, hq5⟩) | (go_at_call 99; refine (HP.out _ hq5).mono ?_; rintro e w6 ⟨rfl, ht6⟩) | (go_at_call 92; refine (HB.out _ ht6).mono ?_; rintro e w7 ⟨rfl, s7, ht7, ha7⟩))
    have hfin := ht7
    go_ret
    exact ⟨rfl, _, hfin, ha7⟩

set_option maxRecDepth 100000 in
set_option maxHeartbeats 2000000 in
theorem write_ok {w : World} {s : Sto} (H : StAt w s) (h : Int) (hw : (Lit.int .i64 h).wf = true) (v : Value) (cs : List Chg) (hch : ChAt w v cs) (hap : ∀ b, heldBlock v = some b → b ∉ s.foot) {r : Rec} (hr : s.act? h = some r) (hk : changesE cs = 0) (hwl : r.wr.length ≤ 1000) (hroom : r.with_ cs ≤ s.c3) (hvs : ∀ k, (s.vs k).length ≤ 1000) (hlen : s.recs.length ≤ 1000) (hcf : (cs.any fun c => conflictF s r c.1) = false) (hmay : s.writeOk r cs = true) :
    Calls Tryz.prog 56 #[.pointer (some ⟨s.sb, 2, none⟩), .int .i64 h, v] w fun e w' => e = .returned (.int .i64 0) ∧ ∃ L : List Nat, L.Perm ((s.writeP r cs).map (·.tb)) ∧ Turn s (s.writeL r cs L) w w' := by
  have HL := H
  have HA := hidC (active_yes HL h hw hr)
  obtain ⟨m1, m2, m3⟩ := act_mem hr
  have hsb : heldBlock v ≠ some s.sb := fun e => hap _ e (by simp [Sto.foot])
  have hchL := hch
  have hcell : ∀ w2, Quiet w w2 → w2.cell? ⟨s.sb, 4, none⟩ = some (.int .i64 s.c3) := fun w2 hq => (HL.quiet hq).cell 4
  have HC : Hid (Calls Tryz.prog 96 #[v] w fun e w' => e = .returned (.int .i64 0) ∧ Quiet w w' ∧ w'.cell? ⟨s.sb, 4, none⟩ = some (.int .i64 s.c3)) := by
    have := checkChanges_h w v cs hchL
    rw [hk] at this
    exact this.mono fun e w' ⟨h1, h2⟩ => ⟨h1, h2, hcell _ h2⟩
  have HKW : Hid (∀ w2, Quiet w w2 → Calls Tryz.prog 97 #[.pointer (some ⟨r.tb, 0, none⟩), v] w2 fun e w' => e = .returned (.int .i64 (r.with_ cs)) ∧ Quiet w w' ∧ w'.cell? ⟨s.sb, 4, none⟩ = some (.int .i64 s.c3)) := fun w2 hq =>
    (keysWith_h w2 r ((HL.quiet hq).recs r m1) v cs (hchL.quiet hq) (fun c hc => (chg_ok hk c hc).1) hwl).mono fun e w' ⟨h1, h2⟩ => ⟨h1, Quiet.trans' hq h2, hcell _ (Quiet.trans' hq h2)⟩
  have hkl : ∀ c ∈ cs, c.1.size ≤ maxLen := fun c hc => by have := key_small (chg_ok hk c hc).1; simp [maxLen]; omega
  have HCf : Hid (∀ w2, Quiet w w2 → Calls Tryz.prog 98 #[.pointer (some ⟨s.sb, 2, none⟩), .pointer (some ⟨r.tb, 0, none⟩), v] w2 fun e w' => e = .returned (.bool false) ∧ Quiet w w') := fun w2 hq =>
    (conflicts_h (s := s) (HL.quiet hq) m1 v cs (hchL.quiet hq) hkl hvs).mono fun e w' ⟨h1, h2⟩ => ⟨by rw [h1]; exact ret_bool hcf, Quiet.trans' hq h2⟩
  have HP : Hid (∀ w2, Quiet w w2 → Calls Tryz.prog 99 #[.pointer (some ⟨s.sb, 2, none⟩), .pointer (some ⟨r.tb, 0, none⟩), v] w2 fun e w' => e = .returned (.bool true) ∧
      ∃ L : List Nat, L.Perm ((s.writeP r cs).map (·.tb)) ∧ Turn s (s.mapR (fmR r.tb L)) w w') := fun w2 hq => by
    refine (passReaders_h (s := s) (HL.quiet hq) m1 v cs (hchL.quiet hq) hlen).mono fun e w' ⟨L, hL, h3, h4, h5⟩ => ?_
    have hm : s.mayR r (fun y => y.rd.any fun p => readF cs p.1) = true := hmay
    rw [hm] at h3
    rw [Sto.markR, if_pos hm] at h5
    exact ⟨h3, L, hL, (Turn.quiet HL hq).trans (turn_mapR (mild_fmR _ _ _) h5 h4)⟩
  have HJ : Hid (∀ L w2, Turn s (s.mapR (fmR r.tb L)) w w2 → Calls Tryz.prog 100 #[.pointer (some ⟨r.tb, 0, none⟩), v] w2 fun e w' => e = .returned (.tuple #[]) ∧
      Turn s (s.writeL r cs L) w w') := fun L w2 ht => by
    have hm1 : fmR r.tb L r ∈ (s.mapR (fmR r.tb L)).recs := List.mem_map.2 ⟨r, m1, rfl⟩
    have hne : r.tb ≠ r.wb := (foot_nodup (Sto.nd_parts HL.nd).2.2.2.2.2.2.1 m1).1
    have hch2 : ChAt w2 v cs := hchL.kept ht.keeps (fun b hb hm => hap b hb hm)
    refine (joinWrites_h w2 (fmR r.tb L r) (ht.at_.recs _ hm1) hne v cs hch2 (chg_ok hk)).mono fun e w' ⟨h1, h2, h3⟩ => ⟨h1, ht.trans ?_⟩
    refine turn_mapR (mild_setWr _ _ _) (ht.at_.setWr hm1 h3 h2) (h2.mono (fun b hb => .inl ?_))
    rw [hb]
    exact Sto.mem_rec hm1 (by simp [Rec.foot, fmR])
  clear H HL hr hch hchL hcell hk hkl hcf hvs hmay
  generalize hkwd : r.with_ cs = kw at *
  have hroom' : ¬ (s.c3 : Int) < (kw : Int) := by omega
  go_enter Tryz.func56, Tryz.ntmps56
  go_wp2_with (first | (go_at_call 91; refine (HA.out).mono ?_; rintro e w' ⟨rfl, rfl⟩) | (go_at_call 96; refine (HC.out).mono ?_; rintro e w3 ⟨rfl, hq3, z4⟩))
  try refine wp_nopanic ?_
  go_region_with (go_at_call 97; refine (HKW.out _ (by repeat (first | assumption | refine Quiet.trans' ?_ (Keeps.drew _)))).mono ?_; rintro e w4 ⟨rfl, hq4, y4⟩)
  all_goals
    go_wp2_with (first | (go_at_call 98; refine (HCf.out _ hq4).mono ?_; rintro e w5 ⟨rfl, hq5⟩) | (go_at_call 99; refine (HP.out _ hq5).mono ?_; rintro e w6 ⟨rfl, L, hL, ht6⟩) | (go_at_call 100; refine (HJ.out _ _ ht6).mono ?_; rintro e w7 ⟨rfl, ht7⟩))
    have hfin := ht7
    go_ret
    exact ⟨rfl, L, hL, hfin⟩

end Go.Proofs.YthfimgeopciiiaaGreat
