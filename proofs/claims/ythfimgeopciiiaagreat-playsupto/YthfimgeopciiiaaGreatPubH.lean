/-
  publish, whole; commit.
-/
import Derived.Test.YthfimgeopciiiaaGreatPubW
import Derived.Deep.RegionWith
namespace Go.Proofs.YthfimgeopciiiaaGreat
open Go.MapKept Go.ChangeMaps Go.Maps Go.RowKit Go.MuLone

theorem committed_abs (s : Sto) (t : Nat) (c : Int) : (s.committed t c).abs = { s.abs with clock := c, txs := (s.recs.map (setCm t c)).map Rec.tx } := rfl

theorem placed_setCm_tx (P : Nat → Int) (T : List Nat) (t : Nat) (c : Int) (l : List Rec) : ((l.map (placed P T)).map (setCm t c)).map Rec.tx = (l.map (setCm t c)).map Rec.tx := by
  simp only [List.map_map]
  refine List.map_congr_left (fun x _ => ?_)
  show (setCm t c (placed P T x)).tx = (setCm t c x).tx
  by_cases e : x.tb = t
  · have e' : (placed P T x).tb = t := e
    rw [setCm, if_pos e', setCm, if_pos e]; rfl
  · have e' : ¬ (placed P T x).tb = t := e
    rw [setCm, if_neg e', setCm, if_neg e]; rfl

theorem publish_h {w : World} {s : Sto} (H : StAt w s) {r : Rec} (hr : r ∈ s.recs) (hc : r.cm = 0) (hclk : 0 ≤ s.clock ∧ s.clock < 4611686018427387904) (hwl : r.wr.length ≤ 500) (htot : totV s.abs.vers ≤ 400) :
    Calls Tryz.prog 93 #[.pointer (some ⟨s.sb, 2, none⟩), .pointer (some ⟨r.tb, 0, none⟩)] w fun e w' => e = .returned (.tuple #[]) ∧
      ∃ s' done, done.Perm r.wr ∧ Turn s s' w w' ∧ s'.abs = { s.abs with clock := s.clock + 1, txs := (s.recs.map (setCm r.tb (s.clock + 1))).map Rec.tx, vers := addAll (s.clock + 1) s.abs.vers done } := by
  obtain ⟨i, hi⟩ := List.getElem?_of_mem (H.hact r hr hc)
  obtain ⟨p1, p2, p3, p4, p5, p6, p7, p8⟩ := Sto.nd_parts H.nd
  have hrem := remove_h s.sb 9 r.tb i s.hv s.hl s.bg w s.cells 136 H.own rfl H.heap H.ord H.hl_ne H.hv_ne hi
  have hTs : ∀ t ∈ s.hl, ∃ x ∈ s.recs, x.tb = t ∧ x.cm = 0 := fun t ht => by
    obtain ⟨j, hj⟩ := List.getElem?_of_mem ht
    obtain ⟨x, hx, e, _, hcx⟩ := H.hrec j _ hj
    exact ⟨x, hx, e, hcx⟩
  refine (publish_walk w s r (s.clock + 1) rfl (by omega) hwl
    (fun s4 w' => ∃ done, done.Perm r.wr ∧ Turn s s4 w w' ∧ s4.abs = { s.abs with clock := s.clock + 1, txs := (s.recs.map (setCm r.tb (s.clock + 1))).map Rec.tx, vers := addAll (s.clock + 1) s.abs.vers done }) (hrem.mono ?_)).mono (fun e w' ⟨h1, s4, done, h2, h3, h4⟩ => ⟨h1, s4, done, h2, h3, h4⟩)
  rintro e w1 ⟨rfl, v', hl', H1, hp1, hO1, hT1⟩
  have hnd' : (r.tb :: hl').Nodup := hp1.nodup_iff.1 H.hnd
  have hno : r.tb ∉ hl' := (List.nodup_cons.1 hnd').1
  obtain ⟨P, HS, hK, hF⟩ := heap_step (E := fun _ => False) (E' := fun t => t = r.tb) H.e hT1 (fun t ht => by obtain ⟨x, hx, e, _⟩ := hTs t ht; exact ⟨x, hx, e⟩) H1 hO1
    (fun t ht => ⟨hp1.mem_iff.2 (by simp [ht]), hTs t (hp1.mem_iff.2 (by simp [ht]))⟩)
    (fun x hx hcx hE => by
      have := hp1.mem_iff.1 (H.hact x hx hcx)
      rcases List.mem_cons.1 this with h | h
      · exact absurd h hE
      · exact h)
  have hr1 : placed P s.hl r ∈ (s.heaped P s.hl v' hl').recs := List.mem_map.2 ⟨r, hr, rfl⟩
  have HC := StAtE.committed (r := placed P s.hl r) HS hr1 hno (c := s.clock + 1) (by omega)
  have R1 := HS.recs _ hr1
  have hown1 := HS.own
  have hsr : s.sb ≠ r.tb := fun e => (p5 r hr r.tb (by simp [Rec.foot])).1 e.symm
  have c6 : w1.cell? ⟨s.sb, 6, none⟩ = some (.int .i64 s.clock) := by rw [show s.sb = (s.heaped P s.hl v' hl').sb from rfl, cell_of_heap hown1]; rfl
  have f6 : w1.frozen? ⟨s.sb, 6, none⟩ = false := by rw [show s.sb = (s.heaped P s.hl v' hl').sb from rfl]; exact frozen_of_heap hown1
  have hown2 := heap_setCell_same (i := 6) (v := .int .i64 (s.clock + 1)) hown1
  have hr2 : (w1.setCell ⟨s.sb, 6, none⟩ (.int .i64 (s.clock + 1))).heap[r.tb]? = _ := (heap_setCell_other _ _ _ (Ne.symm hsr)).trans R1.own
  have hmem3 : setCm r.tb (s.clock + 1) (placed P s.hl r) ∈ ((s.heaped P s.hl v' hl').committed r.tb (s.clock + 1)).recs := List.mem_map.2 ⟨_, hr1, rfl⟩
  have e3 : setCm r.tb (s.clock + 1) (placed P s.hl r) = { placed P s.hl r with cm := s.clock + 1 } := if_pos rfl
  have R3 := HC.recs _ hmem3
  refine ⟨rfl, c6, f6, ?_, ⟨r.cm, ?_⟩, ?_, ?_, ?_, _, _, HC, rfl, hmem3, by rw [e3]; rfl, by rw [e3]; rfl, by rw [e3]; rfl, by rw [e3], ?_, ?_⟩
  · have := cell_of_heap (i := 6) hown2
    simpa [Sto.heaped, Sto.cells] using this
  · rw [cell_of_heap hr2]; rfl
  · exact frozen_of_heap hr2
  · have := R3.cell 3
    rw [e3] at this
    exact this
  · have := R3.wr
    rw [e3] at this
    exact this
  · exact htot
  · intro s4 it wr hI
    obtain ⟨done, hd1, hd2, _⟩ := hI.abs
    rw [List.append_nil] at hd1
    have k2 : Keeps (fun b => b ∈ (s.heaped P s.hl v' hl').foot) w1 ((w1.setCell ⟨s.sb, 6, none⟩ (.int .i64 (s.clock + 1))).setCell ⟨r.tb, 2, none⟩ (.int .i64 (s.clock + 1))) := by
      refine (Keeps.setCell (S := fun b => b ∈ (s.heaped P s.hl v' hl').foot) w1 ⟨s.sb, 6, none⟩ _ ?_).trans (Keeps.setCell (S := fun b => b ∈ (s.heaped P s.hl v' hl').foot) _ ⟨r.tb, 2, none⟩ _ ?_) (fun _ h => .inl h)
      · simp [Sto.foot, Sto.heaped]
      · exact Sto.mem_rec hr1 (by simp [Rec.foot, placed])
    have hsz2 : ((w1.setCell ⟨s.sb, 6, none⟩ (.int .i64 (s.clock + 1))).setCell ⟨r.tb, 2, none⟩ (.int .i64 (s.clock + 1))).heap.size = w1.heap.size := by simp
    refine ⟨done, hd1, ⟨hI.at_, hI.sb.trans rfl, hI.mu.trans rfl, (hK.trans k2 hF).trans hI.keeps (fun b hb => ?_), fun b hb => ?_⟩, ?_⟩
    · rw [committed_foot] at hb
      exact hF b hb
    · rcases hI.foot b hb with h | h
      · rw [committed_foot] at h
        exact hF b h
      · have := hK.size; exact .inr (by omega)
    · rw [hd2, committed_abs]
      have e1 : (s.heaped P s.hl v' hl').abs = s.abs := heaped_abs _ _ _ _ _
      rw [e1]
      have e2 := placed_setCm_tx P s.hl r.tb (s.clock + 1) s.recs
      have e4 : ((s.heaped P s.hl v' hl').recs.map (setCm (placed P s.hl r).tb (s.clock + 1))).map Rec.tx = (s.recs.map (setCm r.tb (s.clock + 1))).map Rec.tx := e2
      rw [e4]

theorem totV_abs (s : Sto) : totV s.abs.vers = s.nVers := by
  unfold totV Sto.nVers Sto.abs
  rw [sumN_map]

set_option maxRecDepth 100000 in
set_option maxHeartbeats 1000000 in
theorem commit_no {w : World} {s : Sto} (H : StAt w s) (h : Int) (hw : (Lit.int .i64 h).wf = true) (hr : s.act? h = none) :
    Calls Tryz.prog 54 #[.pointer (some ⟨s.sb, 2, none⟩), .int .i64 h] w fun e w' => e = .returned (.int .i64 2) ∧ Turn s s w w' := by
  have HA := hidC (active_no H h hw hr)
  have hfin := Turn.refl H
  clear H hr
  go_enter Tryz.func54, Tryz.ntmps54
  go_wp2_with (first | (go_at_call 91; refine (HA.out).mono ?_; rintro e w' ⟨⟨p, rfl⟩, rfl⟩))
  go_ret
  exact ⟨rfl, hfin⟩

set_option maxRecDepth 100000 in
set_option maxHeartbeats 1000000 in
theorem commit_unsafe {w : World} {s : Sto} (H : StAt w s) (h : Int) (hw : (Lit.int .i64 h).wf = true) {r : Rec} (hr : s.act? h = some r) (hi : r.i = true) (ho : r.o = true) :
    Calls Tryz.prog 54 #[.pointer (some ⟨s.sb, 2, none⟩), .int .i64 h] w fun e w' => e = .returned (.int .i64 8) ∧ ∃ s', Turn s s' w w' ∧ s'.abs = { s.abs with txs := (s.recs.filter fun x => decide (x.tb ≠ r.tb)).map Rec.tx } := by
  have HA := hidC (active_yes H h hw hr)
  obtain ⟨m1, m2, m3⟩ := act_mem hr
  have t5 := (H.recs r m1).cell 5
  have t6 := (H.recs r m1).cell 6
  simp [Rec.cells, hi, ho] at t5 t6
  have HB := hidC (abort_h H m1 m3 (by rw [m2]; exact hw))
  unfold ptrTo at HB
  clear H hr m1 m2 m3
  go_enter Tryz.func54, Tryz.ntmps54
  go_wp2_with (first | (go_at_call 91; refine (HA.out).mono ?_; rintro e w' ⟨rfl, rfl⟩) | (go_at_call 92; refine (HB.out).mono ?_; rintro e w2 ⟨rfl, s2, ht2, ha2⟩))
  go_ret
  exact ⟨rfl, _, ht2, ha2⟩

end Go.Proofs.YthfimgeopciiiaaGreat
