/-
  The calls, under the mutex: Abort.
-/
import Derived.Test.YthfimgeopciiiaaGreatAbort
import Derived.Test.YthfimgeopciiiaaGreatLocks
namespace Go.Proofs.YthfimgeopciiiaaGreat
open Go.MapKept Go.ChangeMaps Go.Maps Go.RowKit Go.MuLone

theorem lock_turn {w w2 : World} {s s2 : Sto} (h0 : s.mu = 0) (h : Turn { s with mu := 1 } s2 (w.setCell ⟨s.sb, 0, none⟩ (.int .i32 1)) w2) : Turn s { s2 with mu := 0 } w (w2.setCell ⟨s.sb, 0, none⟩ (.int .i32 0)) := by
  have hsb : s2.sb = s.sb := h.sb
  have hl : StAt (w2.setCell ⟨s.sb, 0, none⟩ (.int .i32 0)) { s2 with mu := 0 } := by rw [← hsb]; exact h.at_.lock 0
  refine ⟨hl, hsb, h0.symm, ?_, fun b hb => ?_⟩
  · refine ((Keeps.setCell (S := fun b => b ∈ s.foot) w ⟨s.sb, 0, none⟩ (.int .i32 1) (by simp [Sto.foot])).trans h.keeps (fun b hb => .inl hb)).trans (Keeps.setCell (S := fun b => b ∈ s.foot) w2 ⟨s.sb, 0, none⟩ (.int .i32 0) (by simp [Sto.foot])) (fun _ hb => .inl hb)
  · exact (h.foot b hb).imp (fun h => h) (fun h => by simpa using h)

theorem Turn.cell0 {w w2 : World} {s s2 : Sto} (h : Turn { s with mu := 1 } s2 (w.setCell ⟨s.sb, 0, none⟩ (.int .i32 1)) w2) : w2.cell? ⟨s.sb, 0, none⟩ = some (.int .i32 1) ∧ w2.frozen? ⟨s.sb, 0, none⟩ = false := by
  have hsb : s2.sb = s.sb := h.sb
  have hmu : s2.mu = 1 := h.mu
  have h1 := h.at_.cell 0
  have h2 := h.at_.frozen 0
  rw [hsb] at h1 h2
  refine ⟨?_, h2⟩
  rw [h1]; simp [Sto.cells, hmu]

theorem StAt.locked {w : World} {s : Sto} (H : StAt w s) (h0 : s.mu = 0) : w.cell? ⟨s.sb, 0, none⟩ = some (.int .i32 0) ∧ w.frozen? ⟨s.sb, 0, none⟩ = false ∧ StAt (w.setCell ⟨s.sb, 0, none⟩ (.int .i32 1)) { s with mu := 1 } :=
  ⟨by rw [H.cell 0]; simp [Sto.cells, h0], H.frozen 0, H.lock 1⟩

theorem fin_turn {w : World} {s : Sto} (h0 : s.mu = 0) : Hid (∀ s2 w2, Turn { s with mu := 1 } s2 (w.setCell ⟨s.sb, 0, none⟩ (.int .i32 1)) w2 → Turn s { s2 with mu := 0 } w (w2.setCell ⟨s.sb, 0, none⟩ (.int .i32 0)) ∧ w2.cell? ⟨s.sb, 0, none⟩ = some (.int .i32 1) ∧ w2.frozen? ⟨s.sb, 0, none⟩ = false) :=
  fun _ _ ht => ⟨lock_turn h0 ht, ht.cell0⟩

/-- the active transaction of a handle -/
def Sto.act? (s : Sto) (h : Int) : Option Rec := (s.rec? h).filter (fun r => r.cm == 0)

theorem active_no {w : World} {s : Sto} (H : StAt w s) (h : Int) (hw : (Lit.int .i64 h).wf = true) (hr : s.act? h = none) :
    Calls Tryz.prog 91 #[.pointer (some ⟨s.sb, 2, none⟩), .int .i64 h] w fun e w' => (∃ p, e = .returned (.tuple #[.pointer p, .bool false])) ∧ w' = w := by
  cases hc : s.rec? h with
  | none => exact (active_none H h hw hc).mono fun e w' ⟨h1, h2⟩ => ⟨⟨_, h1⟩, h2⟩
  | some r =>
    have hcm : (r.cm == 0) = false := by simpa [Sto.act?, hc] using hr
    refine (active_some H h hw hc).mono fun e w' ⟨h1, h2⟩ => ⟨⟨some ⟨r.tb, 0, none⟩, ?_⟩, h2⟩
    rw [h1, hcm]; rfl

theorem active_yes {w : World} {s : Sto} (H : StAt w s) (h : Int) (hw : (Lit.int .i64 h).wf = true) {r : Rec} (hr : s.act? h = some r) :
    Calls Tryz.prog 91 #[.pointer (some ⟨s.sb, 2, none⟩), .int .i64 h] w fun e w' => e = .returned (.tuple #[.pointer (some ⟨r.tb, 0, none⟩), .bool true]) ∧ w' = w := by
  obtain ⟨hc, hcm⟩ : s.rec? h = some r ∧ (r.cm == 0) = true := by simpa [Sto.act?, Option.filter_eq_some_iff] using hr
  refine (active_some H h hw hc).mono fun e w' ⟨h1, h2⟩ => ⟨?_, h2⟩
  rw [h1, hcm]; rfl

theorem act_mem {s : Sto} {h : Int} {r : Rec} (hr : s.act? h = some r) : r ∈ s.recs ∧ r.h = h ∧ r.cm = 0 := by
  obtain ⟨hc, hcm⟩ : s.rec? h = some r ∧ (r.cm == 0) = true := by simpa [Sto.act?, Option.filter_eq_some_iff] using hr
  exact ⟨(Sto.rec_mem hc).1, (Sto.rec_mem hc).2, by simpa using hcm⟩

set_option maxRecDepth 100000 in
set_option maxHeartbeats 1000000 in
theorem abort_no {w : World} {s : Sto} (H : StAt w s) (h : Int) (hw : (Lit.int .i64 h).wf = true) (hr : s.act? h = none) :
    Calls Tryz.prog 78 #[.pointer (some ⟨s.sb, 2, none⟩), .int .i64 h] w fun e w' => e = .returned (.int .i64 2) ∧ ∃ s', Turn s s' w w' ∧ s'.abs = s.abs := by
  have HL := H
  have HA := hidC (active_no HL h hw hr)
  have hfin := Turn.refl HL
  clear H HL hr
  go_enter Tryz.func78, Tryz.ntmps78
  go_wp2_with (first | (go_at_call 91; refine (HA.out).mono ?_; rintro e w' ⟨⟨p, rfl⟩, rfl⟩))
  go_ret
  exact ⟨rfl, _, hfin, rfl⟩

set_option maxRecDepth 100000 in
set_option maxHeartbeats 1000000 in
theorem abort_yes {w : World} {s : Sto} (H : StAt w s) (h : Int) (hw : (Lit.int .i64 h).wf = true) {r : Rec} (hr : s.act? h = some r) :
    Calls Tryz.prog 78 #[.pointer (some ⟨s.sb, 2, none⟩), .int .i64 h] w fun e w' => e = .returned (.int .i64 0) ∧ ∃ s', Turn s s' w w' ∧ s'.abs = { s.abs with txs := (s.recs.filter fun x => decide (x.tb ≠ r.tb)).map Rec.tx } := by
  have HL := H
  have HA := hidC (active_yes HL h hw hr)
  obtain ⟨m1, m2, m3⟩ := act_mem hr
  have HB := hidC (abort_h HL m1 m3 (by rw [m2]; exact hw))
  unfold ptrTo at HB
  clear H HL hr m1 m2 m3
  go_enter Tryz.func78, Tryz.ntmps78
  go_wp2_with (first | (go_at_call 91; refine (HA.out).mono ?_; rintro e w' ⟨rfl, rfl⟩) | (go_at_call 92; refine (HB.out).mono ?_; rintro e w2 ⟨rfl, s2, ht2, ha2⟩))
  have hfin := ht2
  go_ret
  exact ⟨rfl, _, hfin, ha2⟩

/-- a region that does not panic, in whatever frame -/
theorem wp_nopanic {P : Program} {c : Code} {K : Act → World → Prop} {Q' : Exit → Act → World → Prop} {a : Act} {w : World} (h : c.wp P (Exit.then K (fun _ _ _ => False)) a w) : c.wp P (Exit.then K Q') a w :=
  wp_mono h (fun e a w hq => by cases e <;> first | exact hq | exact False.elim hq)

end Go.Proofs.YthfimgeopciiiaaGreat
