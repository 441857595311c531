/-
  Get, under the mutex.
-/
import Derived.Test.YthfimgeopciiiaaGreatRead
import Derived.Test.YthfimgeopciiiaaGreatApiA
import Derived.OwnWalk
namespace Go.Proofs.YthfimgeopciiiaaGreat
open Go.MapKept Go.ChangeMaps Go.Maps Go.RowKit Go.MuLone

/-- the own write of a key, if any -/
theorem own_look {w : World} {r : Rec} (R : RecAt w r) (k : ByteArray) (hk : k.size ≤ maxLen) :
    (Instr.lookup 171 (.map (some r.wb)) (.string k) true).run Tryz.prog w = .ok (.tuple #[.agg #[.string ((look r.wr k).getD (⟨#[]⟩, false)).1, .bool ((look r.wr k).getD (⟨#[]⟩, false)).2], .bool (look r.wr k).isSome]) w := by
  have := R.wr.look sk_good Tryz.underlying171 zero_cont (x := k) hk true
  cases h : look r.wr k with
  | none => rw [h] at this; simpa [sk, contV] using this
  | some c => rw [h] at this; simpa [sk, contV] using this

theorem key_small {k : ByteArray} (h : keyB k = true) : k.size ≤ 4 := by
  simp [keyB] at h; exact h.2

set_option maxRecDepth 100000 in
set_option maxHeartbeats 1000000 in
theorem get_no {w : World} {s : Sto} (H : StAt w s) (h : Int) (hw : (Lit.int .i64 h).wf = true) (k : ByteArray) (hr : s.act? h = none) :
    Calls Tryz.prog 90 #[.pointer (some ⟨s.sb, 2, none⟩), .int .i64 h, .string k] w fun e w' => e = .returned (.tuple #[.string ⟨#[]⟩, .bool false, .int .i64 2]) ∧ ∃ s', Turn s s' w w' ∧ s'.abs = s.abs := by
  have HL := H
  have HA := hidC (active_no HL h hw hr)
  have hfin := (Turn.refl HL)
  clear H HL hr
  go_enter Tryz.func90, Tryz.ntmps90
  go_wp2_with (first | (go_at_call 91; refine (HA.out).mono ?_; rintro e w' ⟨⟨p, rfl⟩, rfl⟩))
  go_ret3
  exact ⟨rfl, _, hfin, rfl⟩

set_option maxRecDepth 100000 in
set_option maxHeartbeats 1000000 in
theorem get_key {w : World} {s : Sto} (H : StAt w s) (h : Int) (hw : (Lit.int .i64 h).wf = true) (k : ByteArray) {r : Rec} (hr : s.act? h = some r) (hk : keyB k = false) :
    Calls Tryz.prog 90 #[.pointer (some ⟨s.sb, 2, none⟩), .int .i64 h, .string k] w fun e w' => e = .returned (.tuple #[.string ⟨#[]⟩, .bool false, .int .i64 3]) ∧ ∃ s', Turn s s' w w' ∧ s'.abs = s.abs := by
  have HL := H
  have HA := hidC (active_yes HL h hw hr)
  have hfin := (Turn.refl HL)
  clear H HL hr
  have HK : Hid (∀ W, Calls Tryz.prog 147 #[.string k] W fun e w' => e = .returned (.bool false) ∧ w' = W) := fun W => by rw [← hk]; exact isKey_any k W
  go_enter Tryz.func90, Tryz.ntmps90
  go_wp2_with (first | (go_at_call 91; refine (HA.out).mono ?_; rintro e w' ⟨rfl, rfl⟩) | (go_at_call 147; refine (HK.out _).mono ?_; rintro e w' ⟨rfl, rfl⟩))
  go_ret3
  exact ⟨rfl, _, hfin, rfl⟩

set_option maxRecDepth 100000 in
set_option maxHeartbeats 1000000 in
theorem get_own {w : World} {s : Sto} (H : StAt w s) (h : Int) (hw : (Lit.int .i64 h).wf = true) (k : ByteArray) {r : Rec} (hr : s.act? h = some r) (hk : keyB k = true) {c : Cont} (hc : look r.wr k = some c) :
    Calls Tryz.prog 90 #[.pointer (some ⟨s.sb, 2, none⟩), .int .i64 h, .string k] w fun e w' => e = .returned (.tuple #[.string c.1, .bool (!c.2), .int .i64 0]) ∧ ∃ s', Turn s s' w w' ∧ s'.abs = s.abs := by
  have HL := H
  have HA := hidC (active_yes HL h hw hr)
  obtain ⟨m1, m2, m3⟩ := act_mem hr
  have t3 : w.cell? ⟨r.tb, 3, none⟩ = some (.map (some r.wb)) := (HL.recs r m1).cell 3
  have hlk := own_look (HL.recs r m1) k (by have := key_small hk; simp [maxLen]; omega)
  rw [hc] at hlk
  simp only [Option.getD_some, Option.isSome_some] at hlk
  have HK : Hid (∀ W, Calls Tryz.prog 147 #[.string k] W fun e w' => e = .returned (.bool true) ∧ w' = W) := fun W => by rw [← hk]; exact isKey_any k W
  have HT : Hid (∀ W, Calls Tryz.prog 148 #[.agg #[.string c.1, .bool c.2]] W fun e w' => e = .returned (.tuple #[.string c.1, .bool (!c.2)]) ∧ Quiet W w') := fun W => told_any c.1 c.2 W
  have HQ : Hid (∀ w2, Quiet w w2 → Turn s s w w2) := fun w2 hq => Turn.quiet HL hq
  clear H HL hr
  go_enter Tryz.func90, Tryz.ntmps90
  go_wp2_with (first | (go_at_call 91; refine (HA.out).mono ?_; rintro e w' ⟨rfl, rfl⟩) | (go_at_call 147; refine (HK.out _).mono ?_; rintro e w' ⟨rfl, rfl⟩) | (go_at_call 148; refine (HT.out _).mono ?_; rintro e w3 ⟨rfl, hq3⟩))
  have hfin := (HQ.out _ (Quiet.trans' (Keeps.alloc _ _) hq3))
  go_ret3
  exact ⟨rfl, _, hfin, rfl⟩

/-- the entry of a key -/
def keyE (k : ByteArray) : Ent := (false, k, ⟨#[]⟩)

set_option maxRecDepth 100000 in
set_option maxHeartbeats 1000000 in
/-- Get of a key that is not its own, where read refuses. -/
theorem get_refused {w : World} {s : Sto} (H : StAt w s) (h : Int) (hw : (Lit.int .i64 h).wf = true) (k : ByteArray) {r : Rec} (hr : s.act? h = some r) (hk : keyB k = true) (hc : look r.wr k = none) (er : Int) (her : er ≠ 0) (R : Sto → Prop)
    (hread : ∀ W, StAt W s → Calls Tryz.prog 131 #[.pointer (some ⟨s.sb, 2, none⟩), .pointer (some ⟨r.tb, 0, none⟩), .agg #[.bool false, .string k, .string ⟨#[]⟩]] W fun e w' => e = .returned (.int .i64 er) ∧ ∃ s', Turn s s' W w' ∧ R s') :
    Calls Tryz.prog 90 #[.pointer (some ⟨s.sb, 2, none⟩), .int .i64 h, .string k] w fun e w' => e = .returned (.tuple #[.string ⟨#[]⟩, .bool false, .int .i64 er]) ∧ ∃ s', Turn s s' w w' ∧ R s' := by
  have HL := H
  have HA := hidC (active_yes HL h hw hr)
  obtain ⟨m1, m2, m3⟩ := act_mem hr
  have t3 : w.cell? ⟨r.tb, 3, none⟩ = some (.map (some r.wb)) := (HL.recs r m1).cell 3
  have hlk := own_look (HL.recs r m1) k (by have := key_small hk; simp [maxLen]; omega)
  rw [hc] at hlk
  simp only [Option.getD_none, Option.isSome_none] at hlk
  have HK : Hid (∀ W, Calls Tryz.prog 147 #[.string k] W fun e w' => e = .returned (.bool true) ∧ w' = W) := fun W => by rw [← hk]; exact isKey_any k W
  have HE : Hid (∀ W, Calls Tryz.prog 149 #[.string k] W fun e w' => e = .returned (.agg #[.bool false, .string k, .string ⟨#[]⟩]) ∧ Quiet W w') := fun W => keyEntry_h k W (by have := key_small hk; omega)
  have HR : Hid (∀ w2, Quiet w w2 → Calls Tryz.prog 131 #[.pointer (some ⟨s.sb, 2, none⟩), .pointer (some ⟨r.tb, 0, none⟩), .agg #[.bool false, .string k, .string ⟨#[]⟩]] w2 fun e w' => e = .returned (.int .i64 er) ∧ ∃ s', Turn s s' w w' ∧ R s') :=
    fun w2 hq => (hread w2 (HL.quiet hq)).mono fun e w' ⟨h1, s', h2, h3⟩ => ⟨h1, s', (Turn.quiet HL hq).trans h2, h3⟩
  clear H HL hr hread
  go_enter Tryz.func90, Tryz.ntmps90
  go_wp2_with (first | (go_at_call 91; refine (HA.out).mono ?_; rintro e w' ⟨rfl, rfl⟩) | (go_at_call 147; refine (HK.out _).mono ?_; rintro e w' ⟨rfl, rfl⟩) | (go_at_call 149; refine (HE.out _).mono ?_; rintro e w3 ⟨rfl, hq3⟩) | (go_at_call 131; refine (HR.out _ (Quiet.trans' (Keeps.alloc _ _) hq3)).mono ?_; rintro e w4 ⟨rfl, s4, ht4, hR4⟩))
  have hfin := ht4
  go_ret3
  exact ⟨rfl, _, hfin, hR4⟩

/-- the store behind a read that is allowed -/
def Sto.readL (s : Sto) (r : Rec) (e : Ent) (L : List Nat) : Sto := (s.joined r e).mapR (fmW r.tb L)
def Sto.readP (s : Sto) (r : Rec) (e : Ent) : List Rec := (s.joined r e).past (r.joined e) (wrote e)
def Sto.readOk (s : Sto) (r : Rec) (e : Ent) : Bool := (s.joined r e).mayW (r.joined e) (wrote e)

theorem mem_readL {s : Sto} {r : Rec} (hr : r ∈ s.recs) (e : Ent) (L : List Nat) : fmW r.tb L (r.joined e) ∈ (s.readL r e L).recs := List.mem_map.2 ⟨_, mem_joined hr e, rfl⟩

set_option maxRecDepth 100000 in
set_option maxHeartbeats 1000000 in
theorem get_ok {w : World} {s : Sto} (H : StAt w s) (h : Int) (hw : (Lit.int .i64 h).wf = true) (k : ByteArray) {r : Rec} (hr : s.act? h = some r) (hk : keyB k = true) (hc : look r.wr k = none) (hn : s.nReads ≤ 1000) (hlen : s.recs.length ≤ 1000) (hvs : (s.vs k).length ≤ 1000) (hroom : (look r.rd (keyE k)).isSome = true ∨ s.nReads < s.c2)
    (hmay : s.readOk r (keyE k) = true) :
    Calls Tryz.prog 90 #[.pointer (some ⟨s.sb, 2, none⟩), .int .i64 h, .string k] w fun e w' => e = .returned (.tuple #[.string (snap (s.vs k) r.bg).1, .bool (!(snap (s.vs k) r.bg).2), .int .i64 0]) ∧
      ∃ L : List Nat, L.Perm ((s.readP r (keyE k)).map (·.tb)) ∧ Turn s (s.readL r (keyE k) L) w w' := by
  have HL := H
  have HA := hidC (active_yes HL h hw hr)
  obtain ⟨m1, m2, m3⟩ := act_mem hr
  have t3 : w.cell? ⟨r.tb, 3, none⟩ = some (.map (some r.wb)) := (HL.recs r m1).cell 3
  have hkl : k.size ≤ maxLen := by have := key_small hk; simp [maxLen]; omega
  have hlk := own_look (HL.recs r m1) k hkl
  rw [hc] at hlk
  simp only [Option.getD_none, Option.isSome_none] at hlk
  have HK : Hid (∀ W, Calls Tryz.prog 147 #[.string k] W fun e w' => e = .returned (.bool true) ∧ w' = W) := fun W => by rw [← hk]; exact isKey_any k W
  have HE : Hid (∀ W, Calls Tryz.prog 149 #[.string k] W fun e w' => e = .returned (.agg #[.bool false, .string k, .string ⟨#[]⟩]) ∧ Quiet W w') := fun W => keyEntry_h k W (by have := key_small hk; omega)
  have HR : Hid (∀ w2, Quiet w w2 → Calls Tryz.prog 131 #[.pointer (some ⟨s.sb, 2, none⟩), .pointer (some ⟨r.tb, 0, none⟩), .agg #[.bool false, .string k, .string ⟨#[]⟩]] w2 fun e w' => e = .returned (.int .i64 0) ∧
      ∃ L : List Nat, L.Perm ((s.readP r (keyE k)).map (·.tb)) ∧ Turn s (s.readL r (keyE k) L) w w') :=
    fun w2 hq => (read_ok (s := s) (HL.quiet hq) m1 false k ⟨#[]⟩ ⟨hkl, Nat.zero_le _⟩ hn hlen hroom hmay).mono fun e w' ⟨h1, L, h2, h3⟩ => ⟨h1, L, h2, (Turn.quiet HL hq).trans h3⟩
  have HS : Hid (∀ L w2, Turn s (s.readL r (keyE k) L) w w2 → Calls Tryz.prog 150 #[.pointer (some ⟨s.sb, 2, none⟩), .pointer (some ⟨r.tb, 0, none⟩), .string k] w2 fun e w' => e = .returned (.agg #[.string (snap (s.vs k) r.bg).1, .bool (snap (s.vs k) r.bg).2]) ∧ Turn s (s.readL r (keyE k) L) w w') :=
    fun L w2 ht => (snapshot_h ht.at_ (mem_readL (s := s) m1 (keyE k) L) k hkl hvs).mono fun e w' ⟨h1, h2⟩ => ⟨h1, ht.trans (Turn.quiet ht.at_ h2)⟩
  have HT : Hid (∀ L W, Turn s (s.readL r (keyE k) L) w W → Calls Tryz.prog 148 #[.agg #[.string (snap (s.vs k) r.bg).1, .bool (snap (s.vs k) r.bg).2]] W fun e w' => e = .returned (.tuple #[.string (snap (s.vs k) r.bg).1, .bool (!(snap (s.vs k) r.bg).2)]) ∧ Turn s (s.readL r (keyE k) L) w w') :=
    fun L W ht => (told_any _ _ W).mono fun e w' ⟨h1, h2⟩ => ⟨h1, ht.trans (Turn.quiet ht.at_ h2)⟩
  generalize hcd : snap (s.vs k) r.bg = c at *
  clear H HL hr hcd
  go_enter Tryz.func90, Tryz.ntmps90
  go_wp2_with (first | (go_at_call 91; refine (HA.out).mono ?_; rintro e w' ⟨rfl, rfl⟩) | (go_at_call 147; refine (HK.out _).mono ?_; rintro e w' ⟨rfl, rfl⟩) | (go_at_call 149; refine (HE.out _).mono ?_; rintro e w3 ⟨rfl, hq3⟩) | (go_at_call 131; refine (HR.out _ (Quiet.trans' (Keeps.alloc _ _) hq3)).mono ?_; rintro e w4 ⟨rfl, L, hL, ht4⟩) | (go_at_call 150; refine (HS.out _ _ ht4).mono ?_; rintro e w5 ⟨rfl, ht5⟩) | (go_at_call 148; refine (HT.out _ _ ht5).mono ?_; rintro e w6 ⟨rfl, ht6⟩))
  have hfin := ht6
  go_ret3
  exact ⟨rfl, L, hL, hfin⟩

end Go.Proofs.YthfimgeopciiiaaGreat
