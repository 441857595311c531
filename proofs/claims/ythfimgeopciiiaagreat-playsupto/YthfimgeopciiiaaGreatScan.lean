/-
  Scan, under the mutex.
-/
import Derived.Test.YthfimgeopciiiaaGreatPairs
namespace Go.Proofs.YthfimgeopciiiaaGreat
open Go.MapKept Go.ChangeMaps Go.Maps Go.RowKit Go.MuLone

/-- the entry of a range -/
def rangeEnt (lo hi : ByteArray) : Ent := (true, lo, hi)

theorem range_small {lo hi : ByteArray} (h : rangeE lo hi = 0) : lo.size ≤ 4 ∧ hi.size ≤ 4 := by
  unfold rangeE at h
  split at h
  · simp at h
  · omega

theorem readL_foot (s : Sto) (r : Rec) (e : Ent) (L : List Nat) : (s.readL r e L).foot = s.foot := by
  unfold Sto.readL
  rw [(mild_fmW _ _ _).foot]
  exact (mild_joinF s r.tb e).foot

set_option maxRecDepth 100000 in
set_option maxHeartbeats 1000000 in
theorem scan_no {w : World} {s : Sto} (H : StAt w s) (h : Int) (hw : (Lit.int .i64 h).wf = true) (lo hi : ByteArray) (hr : s.act? h = none) :
    Calls Tryz.prog 77 #[.pointer (some ⟨s.sb, 2, none⟩), .int .i64 h, .string lo, .string hi] w fun e w' => e = .returned (.tuple #[.slice none 0 0, .int .i64 2]) ∧ ∃ s', Turn s s' w w' ∧ s'.abs = s.abs := by
  have HL := H
  have HA := hidC (active_no HL h hw hr)
  have hfin := (Turn.refl HL)
  clear H HL hr
  go_enter Tryz.func77, Tryz.ntmps77
  go_wp2_with (first | (go_at_call 91; refine (HA.out).mono ?_; rintro e w' ⟨⟨p, rfl⟩, rfl⟩))
  go_ret2
  exact ⟨rfl, _, hfin, rfl⟩

set_option maxRecDepth 100000 in
set_option maxHeartbeats 1000000 in
theorem scan_range {w : World} {s : Sto} (H : StAt w s) (h : Int) (hw : (Lit.int .i64 h).wf = true) (lo hi : ByteArray) {r : Rec} (hr : s.act? h = some r) (hk : rangeE lo hi ≠ 0) :
    Calls Tryz.prog 77 #[.pointer (some ⟨s.sb, 2, none⟩), .int .i64 h, .string lo, .string hi] w fun e w' => e = .returned (.tuple #[.slice none 0 0, .int .i64 (rangeE lo hi)]) ∧ ∃ s', Turn s s' w w' ∧ s'.abs = s.abs := by
  have HL := H
  have HA := hidC (active_yes HL h hw hr)
  have hfin := (Turn.refl HL)
  clear H HL hr
  have HK : Hid (∀ W, Calls Tryz.prog 129 #[.string lo, .string hi] W fun e w' => e = .returned (.int .i64 (rangeE lo hi)) ∧ w' = W) := fun W => checkRange_any lo hi W
  generalize rangeE lo hi = er at *
  go_enter Tryz.func77, Tryz.ntmps77
  go_wp2_with (first | (go_at_call 91; refine (HA.out).mono ?_; rintro e w' ⟨rfl, rfl⟩) | (go_at_call 129; refine (HK.out _).mono ?_; rintro e w' ⟨rfl, rfl⟩))
  go_ret2
  exact ⟨rfl, _, hfin, rfl⟩

set_option maxRecDepth 100000 in
set_option maxHeartbeats 1000000 in
/-- Scan where read refuses. -/
theorem scan_refused {w : World} {s : Sto} (H : StAt w s) (h : Int) (hw : (Lit.int .i64 h).wf = true) (lo hi : ByteArray) {r : Rec} (hr : s.act? h = some r) (hk : rangeE lo hi = 0) (er : Int) (her : er ≠ 0) (R : Sto → Prop)
    (hread : ∀ W, StAt W s → Calls Tryz.prog 131 #[.pointer (some ⟨s.sb, 2, none⟩), .pointer (some ⟨r.tb, 0, none⟩), .agg #[.bool true, .string lo, .string hi]] W fun e w' => e = .returned (.int .i64 er) ∧ ∃ s', Turn s s' W w' ∧ R s') :
    Calls Tryz.prog 77 #[.pointer (some ⟨s.sb, 2, none⟩), .int .i64 h, .string lo, .string hi] w fun e w' => e = .returned (.tuple #[.slice none 0 0, .int .i64 er]) ∧ ∃ s', Turn s s' w w' ∧ R s' := by
  have HL := H
  have HA := hidC (active_yes HL h hw hr)
  have HK : Hid (∀ W, Calls Tryz.prog 129 #[.string lo, .string hi] W fun e w' => e = .returned (.int .i64 0) ∧ w' = W) := fun W => by rw [← hk]; exact checkRange_any lo hi W
  obtain ⟨z1, z2⟩ := range_small hk
  have HE : Hid (∀ W, Calls Tryz.prog 130 #[.string lo, .string hi] W fun e w' => e = .returned (.agg #[.bool true, .string lo, .string hi]) ∧ Quiet W w') := fun W => rangeEntry_h lo hi W (by omega) (by omega)
  have HR : Hid (∀ w2, Quiet w w2 → Calls Tryz.prog 131 #[.pointer (some ⟨s.sb, 2, none⟩), .pointer (some ⟨r.tb, 0, none⟩), .agg #[.bool true, .string lo, .string hi]] w2 fun e w' => e = .returned (.int .i64 er) ∧ ∃ s', Turn s s' w w' ∧ R s') :=
    fun w2 hq => (hread w2 (HL.quiet hq)).mono fun e w' ⟨h1, s', h2, h3⟩ => ⟨h1, s', (Turn.quiet HL hq).trans h2, h3⟩
  clear H HL hr hread
  go_enter Tryz.func77, Tryz.ntmps77
  go_wp2_with (first | (go_at_call 91; refine (HA.out).mono ?_; rintro e w' ⟨rfl, rfl⟩) | (go_at_call 129; refine (HK.out _).mono ?_; rintro e w' ⟨rfl, rfl⟩) | (go_at_call 130; refine (HE.out _).mono ?_; rintro e w3 ⟨rfl, hq3⟩) | (go_at_call 131; refine (HR.out _ (Quiet.trans' hq3 (Keeps.alloc _ _))).mono ?_; rintro e w4 ⟨rfl, s4, ht4, hR4⟩))
  have hfin := ht4
  go_ret2
  exact ⟨rfl, _, hfin, hR4⟩

set_option maxRecDepth 100000 in
set_option maxHeartbeats 1000000 in
theorem scan_ok {w : World} {s : Sto} (H : StAt w s) (h : Int) (hw : (Lit.int .i64 h).wf = true) (lo hi : ByteArray) {r : Rec} (hr : s.act? h = some r) (hk : rangeE lo hi = 0) (hn : s.nReads ≤ 1000) (hlen : s.recs.length ≤ 1000) (hvs : ∀ k, (s.vs k).length ≤ 1000) (hsz : s.vrs.length + r.wr.length ≤ 2000) (hroom : (look r.rd (rangeEnt lo hi)).isSome = true ∨ s.nReads < s.c2)
    (hmay : s.readOk r (rangeEnt lo hi) = true) :
    Calls Tryz.prog 77 #[.pointer (some ⟨s.sb, 2, none⟩), .int .i64 h, .string lo, .string hi] w fun e w' => ∃ v, e = .returned (.tuple #[v, .int .i64 0]) ∧
      ∃ (L : List Nat) (ks : List ByteArray), L.Perm ((s.readP r (rangeEnt lo hi)).map (·.tb)) ∧ Turn s (s.readL r (rangeEnt lo hi) L) w w' ∧ PrSl w.heap.size w' v (ks.filterMap (s.seen r)) ∧ ks.Perm (s.keys r (rangeEnt lo hi)) ∧ ks.Pairwise leB ∧ ∀ b, v.ownBlock = some b → b ∉ (s.readL r (rangeEnt lo hi) L).foot := by
  have HL := H
  have HA := hidC (active_yes HL h hw hr)
  obtain ⟨m1, m2, m3⟩ := act_mem hr
  have HK : Hid (∀ W, Calls Tryz.prog 129 #[.string lo, .string hi] W fun e w' => e = .returned (.int .i64 0) ∧ w' = W) := fun W => by rw [← hk]; exact checkRange_any lo hi W
  obtain ⟨z1, z2⟩ := range_small hk
  have HE : Hid (∀ W, Calls Tryz.prog 130 #[.string lo, .string hi] W fun e w' => e = .returned (.agg #[.bool true, .string lo, .string hi]) ∧ Quiet W w') := fun W => rangeEntry_h lo hi W (by omega) (by omega)
  have hsbl : s.sb < w.heap.size := H.lt _ (by simp [Sto.foot])
  have HR : Hid (∀ w2 o, Quiet w w2 → Calls Tryz.prog 131 #[.pointer (some ⟨s.sb, 2, none⟩), .pointer (some ⟨r.tb, 0, none⟩), .agg #[.bool true, .string lo, .string hi]] (w2.alloc o) fun e w' => e = .returned (.int .i64 0) ∧
      ∃ L : List Nat, L.Perm ((s.readP r (rangeEnt lo hi)).map (·.tb)) ∧ Turn s (s.readL r (rangeEnt lo hi) L) w w' ∧ w'.heap[w2.heap.size]? = some o) :=
    fun w2 o hq => by
      have hq' : Quiet w (w2.alloc o) := Quiet.trans' hq (Keeps.alloc _ _)
      refine (read_ok (s := s) (HL.quiet hq') m1 true lo hi ⟨by simp [maxLen]; omega, by simp [maxLen]; omega⟩ hn hlen hroom hmay).mono fun e w' ⟨h1, L, h2, h3⟩ => ⟨h1, L, h2, (Turn.quiet HL hq').trans h3, ?_⟩
      exact (h3.keeps.block _ (by simp) ((HL.quiet hq).fresh (Nat.le_refl _))).trans (heap_alloc_new w2 o)
  have HS : Hid (∀ L w2, Turn s (s.readL r (rangeEnt lo hi) L) w w2 → Calls Tryz.prog 132 #[.pointer (some ⟨s.sb, 2, none⟩), .pointer (some ⟨r.tb, 0, none⟩), .agg #[.bool true, .string lo, .string hi]] w2 fun e w' => ∃ v, e = .returned v ∧
      ∃ ks : List ByteArray, Turn s (s.readL r (rangeEnt lo hi) L) w w' ∧ PrSl w.heap.size w' v (ks.filterMap (s.seen r)) ∧ ks.Perm (s.keys r (rangeEnt lo hi)) ∧ ks.Pairwise leB ∧ ∀ b, v.ownBlock = some b → b ∉ (s.readL r (rangeEnt lo hi) L).foot) :=
    fun L w2 ht => (pairs_h ht.at_ (mem_readL (s := s) m1 (rangeEnt lo hi) L) true lo hi hsz hvs).mono fun e w' ⟨v, ks, h1, h2, h3, h4, h5⟩ => ⟨v, h1, ks, ht.trans (Turn.quiet ht.at_ h5), ownsRow_low h2 (by have := ht.keeps.size; simpa using this), h3, h4, fun b hb hf => by have h6 := (h2.lt b hb).1; have h7 := ht.at_.lt b hf; omega⟩
  clear H HL hr
  go_enter Tryz.func77, Tryz.ntmps77
  go_wp2_with (first | (go_at_call 91; refine (HA.out).mono ?_; rintro e w' ⟨rfl, rfl⟩) | (go_at_call 129; refine (HK.out _).mono ?_; rintro e w' ⟨rfl, rfl⟩) | (go_at_call 130; refine (HE.out _).mono ?_; rintro e w3 ⟨rfl, hq3⟩) | (go_at_call 131; refine (HR.out _ _ hq3).mono ?_; rintro e w4 ⟨rfl, L, hL, ht4, hbx⟩; have b0 := cell_of_heap (i := 0) hbx; have b1 := cell_of_heap (i := 1) hbx; have b2 := cell_of_heap (i := 2) hbx; simp at b0 b1 b2) | (go_at_call 132; refine (HS.out _ _ ht4).mono ?_; rintro e w5 ⟨v, rfl, ks, ht5, hps, hkp, hso, hap⟩; have HAp := hidC' hap; clear hap))
  have hfin := ht5
  go_ret2
  exact ⟨v, rfl, L, ks, hL, hfin, hps, hkp, hso, HAp.out⟩

end Go.Proofs.YthfimgeopciiiaaGreat
