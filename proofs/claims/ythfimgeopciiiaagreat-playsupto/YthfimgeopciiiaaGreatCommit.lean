/-
  commit, where the versions are counted.
-/
import Derived.Test.YthfimgeopciiiaaGreatPubH
import Derived.Deep.RegionWith
import Derived.Deep.DrawnRows
namespace Go.Proofs.YthfimgeopciiiaaGreat
open Go.MapKept Go.ChangeMaps Go.Maps Go.RowKit Go.MuLone
attribute [local go_sem ↓] Go.wp_at_zero Go.wp_at_succ

/-- what commit reads behind its counting -/
structure CommAt (s : Sto) (r : Rec) (w : World) : Prop where
  t3 : w.cell? ⟨r.tb, 3, none⟩ = some (.map (some r.wb))
  c5 : w.cell? ⟨s.sb, 5, none⟩ = some (.int .i64 s.c4)
  len : (Builtin.len_ #[171] 3 #[.map (some r.wb)]).run Tryz.prog w = .ok (.int .i64 r.wr.length) w

theorem StAt.comm {w : World} {s : Sto} (H : StAt w s) {r : Rec} (hr : r ∈ s.recs) : CommAt s r w :=
  ⟨(H.recs r hr).cell 3, H.cell 5, (H.recs r hr).wr.len (P := Tryz.prog) (ty := 3) Tryz.underlying171⟩

/-- what a commit that goes through leaves -/
def Sto.commPost (s : Sto) (r : Rec) (w : World) (e : Ending) (w' : World) : Prop :=
  (e = .returned (.int .i64 6) ∧ s.c4 < (s.nVers : Int) + r.wr.length ∧ Turn s s w w') ∨
  (e = .returned (.int .i64 0) ∧ (s.nVers : Int) + r.wr.length ≤ s.c4 ∧ ∃ s' done, done.Perm r.wr ∧ Turn s s' w w' ∧ s'.abs = { s.abs with clock := s.clock + 1, txs := (s.recs.map (setCm r.tb (s.clock + 1))).map Rec.tx, vers := addAll (s.clock + 1) s.abs.vers done })

set_option maxRecDepth 100000 in
set_option maxHeartbeats 2000000 in
theorem commit_count {w : World} {s : Sto} (H : StAt w s) (h : Int) (hw : (Lit.int .i64 h).wf = true) {r : Rec} (hr : s.act? h = some r) (hio : (r.i && r.o) = false) (hn : s.nVers ≤ 400) (hwl : r.wr.length ≤ 500) (hclk : 0 ≤ s.clock ∧ s.clock < 4611686018427387904) :
    Calls Tryz.prog 54 #[.pointer (some ⟨s.sb, 2, none⟩), .int .i64 h] w (s.commPost r w) := by
  have HA := hidC (active_yes H h hw hr)
  obtain ⟨m1, m2, m3⟩ := act_mem hr
  have t5 := (H.recs r m1).cell 5
  have t6 := (H.recs r m1).cell 6
  have HV : Hid (∀ w2, Quiet w w2 → Calls Tryz.prog 86 #[.pointer (some ⟨s.sb, 2, none⟩)] w2 fun e w' => e = .returned (.int .i64 s.nVers) ∧ Quiet w w' ∧ CommAt s r w') := fun w2 hq =>
    (countVersions_h (s := s) (H.quiet hq) (by omega)).mono fun e w' ⟨h1, h2⟩ => ⟨h1, Quiet.trans' hq h2, (H.quiet (Quiet.trans' hq h2)).comm m1⟩
  obtain ⟨q3, q5, ql⟩ := (H.quiet (Keeps.drew w)).comm m1
  have HP : Hid (∀ w2, Quiet w w2 → Calls Tryz.prog 93 #[.pointer (some ⟨s.sb, 2, none⟩), .pointer (some ⟨r.tb, 0, none⟩)] w2 fun e w' => e = .returned (.tuple #[]) ∧
      ∃ s' done, done.Perm r.wr ∧ Turn s s' w w' ∧ s'.abs = { s.abs with clock := s.clock + 1, txs := (s.recs.map (setCm r.tb (s.clock + 1))).map Rec.tx, vers := addAll (s.clock + 1) s.abs.vers done }) := fun w2 hq =>
    (publish_h (H.quiet hq) m1 m3 hclk hwl (by rw [totV_abs]; exact hn)).mono fun e w' ⟨h1, s', done, h2, h3, h4⟩ => ⟨h1, s', done, h2, (Turn.quiet H hq).trans h3, h4⟩
  have HQ : Hid (∀ w2, Quiet w w2 → Turn s s w w2) := fun w2 hq => Turn.quiet H hq
  have HF : Hid (∀ w2, (s.c4 : Int) < (s.nVers : Int) + (r.wr.length : Int) → Turn s s w w2 → s.commPost r w (.returned (.int .i64 6)) w2) := fun w2 h1 h2 => .inl ⟨rfl, h1, h2⟩
  have HO : Hid (∀ w2, ¬ (s.c4 : Int) < (s.nVers : Int) + (r.wr.length : Int) → (∃ s' done, done.Perm r.wr ∧ Turn s s' w w2 ∧ s'.abs = { s.abs with clock := s.clock + 1, txs := (s.recs.map (setCm r.tb (s.clock + 1))).map Rec.tx, vers := addAll (s.clock + 1) s.abs.vers done }) → s.commPost r w (.returned (.int .i64 0)) w2) := fun w2 h1 h2 => .inr ⟨rfl, by omega, h2⟩
  clear H hr m1 m2 m3 hclk
  generalize s.commPost r w = CP at *
  generalize hnv : s.nVers = nv at *
  have hi5 : w.cell? ⟨r.tb, 5, none⟩ = some (.bool r.i) := t5
  have hi6 : w.cell? ⟨r.tb, 6, none⟩ = some (.bool r.o) := t6
  clear t5 t6 hnv
  have hwrap : IntKind.i64.wrap ((nv : Int) + (r.wr.length : Int)) = (nv : Int) + (r.wr.length : Int) := by
    have : -9223372036854775808 ≤ (nv : Int) + (r.wr.length : Int) ∧ (nv : Int) + (r.wr.length : Int) < 9223372036854775808 := by omega
    simp [IntKind.wrap, IntKind.bits, IntKind.signed]; omega
  generalize hri : r.i = fi at *
  generalize hro : r.o = fo at *
  clear hri hro
  cases fi
  · go_enter Tryz.func54, Tryz.ntmps54
    go_wp2_with (first | (go_at_call 91; refine (HA.out).mono ?_; rintro e w' ⟨rfl, rfl⟩))
    clear hi5 hi6 HA hio
    go_region_with (go_at_call 86; refine (HV.out _ (by repeat (first | assumption | exact Keeps.refl _ _ | refine Quiet.trans' ?_ (Keeps.drew _)))).mono ?_; rintro e w4 ⟨rfl, hq4, ⟨a3, a5, al⟩⟩)
    all_goals clear HV q3 q5 ql a3 a5 al
    all_goals go_wp2_with (go_at_call 93; refine (HP.out _ hq4).mono ?_; rintro e w5 ⟨rfl, s5, done, hd5, ht5, ha5⟩)
    all_goals first | exact HF.out _ (by assumption) (HQ.out _ hq4) | exact HO.out _ (by omega) ⟨s5, done, hd5, ht5, ha5⟩
  · cases fo
    · go_enter Tryz.func54, Tryz.ntmps54
      go_wp2_with (first | (go_at_call 91; refine (HA.out).mono ?_; rintro e w' ⟨rfl, rfl⟩))
      clear hi5 hi6 HA hio
      go_region_with (go_at_call 86; refine (HV.out _ (by repeat (first | assumption | exact Keeps.refl _ _ | refine Quiet.trans' ?_ (Keeps.drew _)))).mono ?_; rintro e w4 ⟨rfl, hq4, ⟨a3, a5, al⟩⟩)
      all_goals clear HV q3 q5 ql a3 a5 al
      all_goals go_wp2_with (go_at_call 93; refine (HP.out _ hq4).mono ?_; rintro e w5 ⟨rfl, s5, done, hd5, ht5, ha5⟩)
      all_goals first | exact HF.out _ (by assumption) (HQ.out _ hq4) | exact HO.out _ (by omega) ⟨s5, done, hd5, ht5, ha5⟩
    · exact Bool.noConfusion hio

end Go.Proofs.YthfimgeopciiiaaGreat
