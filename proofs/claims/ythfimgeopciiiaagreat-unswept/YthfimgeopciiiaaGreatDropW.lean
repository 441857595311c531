/-
  dropVersions: the walk.
-/
import Derived.Test.YthfimgeopciiiaaGreatDrop
namespace Go.Proofs.YthfimgeopciiiaaGreat
open Go.MapKept Go.ChangeMaps Go.Maps Go.RowKit Go.MuLone

/-- a key's versions as a slice -/
theorem vat_cases {w : World} {x : VRec} (h : VAt w x) : (x.a = none ∧ x.vs = [] ∧ x.cap = 0) ∨ ∃ g, x.a = some ⟨g, 0, none⟩ ∧ g < w.heap.size ∧ x.vs.length ≤ x.cap ∧ x.cap ≤ maxLen ∧ ∀ j u, (x.vs.flatMap verCells)[j]? = some u → w.cell? ⟨g, j, none⟩ = some u := by
  rcases h.2 with ⟨e, h0⟩ | ⟨g, cap, cur, e, _, hg, h1, h2, h3, h4⟩
  · simp only [VRec.v, Value.slice.injEq] at e
    exact .inl ⟨e.1, List.eq_nil_of_length_eq_zero h0, e.2.2⟩
  · simp only [VRec.v, Value.slice.injEq] at e
    obtain ⟨e1, -, e3⟩ := e
    refine .inr ⟨g, e1, lt_of_heap hg, by rw [e3]; exact h1, by rw [e3]; exact h2, fun j u hj => ?_⟩
    rw [cell_of_heap hg]
    have hl := (List.getElem?_eq_some_iff.1 hj).1
    rw [verCells_length] at hl
    rw [← h4, List.getElem?_take, if_pos hl] at hj
    simpa using hj

theorem drop_cells (vs : List Ver) (f : Nat) : (vs.drop f).flatMap verCells = (vs.flatMap verCells).drop (f * 3) := by
  induction f generalizing vs with
  | zero => simp
  | succ n ih =>
    cases vs with
    | nil => simp
    | cons x r =>
      rw [List.drop_succ_cons, ih, List.flatMap_cons, show (n + 1) * 3 = 3 + n * 3 by omega, ← List.drop_drop]
      rfl

set_option maxRecDepth 100000 in
set_option maxHeartbeats 4000000 in
theorem dropVersions_walk (w : World) (s : Sto) (H : StAt w s) (m : Int) (hb : ∀ x ∈ s.vrs, x.vs.length ≤ 1000) :
    Calls Tryz.prog 89 #[.pointer (some ⟨s.sb, 2, none⟩), .int .i64 m] w fun e w' => e = .returned (.tuple #[]) ∧ ∃ wr V, DropI s m w w.heap.size wr [] V ∧ w.heap.size + 2 ≤ wr.heap.size ∧ w' = wr.setCell ⟨s.sb, 10, none⟩ (.map (some w.heap.size)) := by
  have hkn := H.keys_nd
  have hqA : Quiet w (w.alloc (.map #[] 0)) := Keeps.alloc _ _
  have HA := H.quiet hqA
  have c10 := HA.cell 10
  have d10 := H.cell 10
  simp [Sto.cells] at c10 d10
  have hmap : MapIs sk slV (w.alloc (.map #[] 0)) s.vm (s.vrs.map VRec.pr) := HA.vm
  have hnew : MapIs sk slV (w.alloc (.map #[] 0)) w.heap.size ([] : List (ByteArray × (Option Addr × Nat × Nat))) := MapIs.nil _ _ (heap_alloc_new w _)
  have hsbl : s.sb < w.heap.size := H.lt s.sb (by simp [Sto.foot])
  have hvl := H.vm.lt
  have hsn : s.sb ≠ w.heap.size := by omega
  have hszA : (w.alloc (.map #[] 0)).heap.size = w.heap.size + 1 := by simp
  have hmm : ∀ t w, (Instr.makeMap t none).run Tryz.prog w = .ok (.map (some w.heap.size)) (w.alloc (.map #[] 0)) := fun _ _ => rfl
  have HX : Hid (StAt w s) := H
  have HM : Hid (∀ p ∈ s.vrs.map VRec.pr, ∃ x ∈ s.vrs, x.pr = p) := fun p hp => List.mem_map.1 hp
  have hown := H.own
  have HB : Hid (∀ x ∈ s.vrs, x.vs.length ≤ 1000) := hb
  clear H HA hb
  go_enter Tryz.func89, Tryz.ntmps89
  go_wp2_with (first
    | (at_range; refine wpList_range_is _ rfl _ 132 rfl 9 224 Tryz.underlying132 s.vm _ rfl hmap ?_; intro w0 hrg0 hk0 hs0)
    | go_in)
  rw [hszA] at hrg0 hs0 ⊢
  have I0 : DropI s m w w.heap.size w0 (s.vrs.map VRec.pr) [] := ⟨Quiet.trans' hqA hk0, hnew.of_block (hk0.block _ (by simp) (by simp)), fun x hx => by simp at hx, by simp, hmap.nodup, by rw [metV_all]; exact List.Perm.refl _⟩
  clear hqA hmap hnew hk0 c10
  generalize hml : s.vrs.map VRec.pr = ml at *
  go_frame
  go_loopw [] (fun wr => ∃ left V, RangeIs sk slV wr s.vm (w.heap.size + 1) ml left ∧ Hid (DropI s m w w.heap.size wr left V) ∧ w.heap.size + 2 ≤ wr.heap.size)
    (fun wr => wr.rangeLeft s.vm (w.heap.size + 1))
  case atStart => exact ⟨_, [], hrg0, I0, by omega⟩
  case round =>
    obtain ⟨left, V, hrg, HI, hsz⟩ := hrel
    clear hrg0 I0 hs0
    go_wp2_with (first
      | (at_next; refine wpList_next_is _ rfl _ rfl s.vm (w.heap.size + 1) ml left rfl hrg ?_ ?_)
      | go_in)
    · refine ⟨fun h0 => ?_⟩
      subst h0
      have hq := HI.out.quiet
      have hownr : wr.heap[s.sb]? = some (.cells s.cells 136) := (hq.block _ hsbl (by simp)).trans hown
      have r10 := cell_of_heap (i := 10) hownr
      have f10 := frozen_of_heap (i := 10) hownr
      simp [Sto.cells] at r10
      go_wp2
      go_end0
      exact ⟨rfl, wr, V, HI.out, hsz, rfl⟩
    · refine ⟨?_⟩
      rintro ⟨k⟩ ⟨⟨a, n, cap⟩⟩ left' wn hperm hmem hrgn hkn' hsn' hent
      simp only [sk, slV] at hent ⊢
      obtain ⟨x, hx, hxe⟩ := HM.out _ hmem
      simp only [VRec.pr, Prod.mk.injEq] at hxe
      obtain ⟨rfl, rfl, rfl, rfl⟩ := hxe
      have hqn : Quiet w wn := Quiet.of_new HI.out.quiet hkn' (fun b hb => by omega)
      have hvx : VAt wn x := (HX.out.quiet hqn).vers x hx
      have hbx := HB.out x hx
      have hlen := hperm.length_eq
      have hkok : x.k.size ≤ maxLen := hrg.map.oks _ hmem
      have HF : Hid (Calls Tryz.prog 145 #[.slice x.a x.vs.length x.cap, .int .i64 m] wn fun e w' => e = .returned (.int .i64 (firstF m x.vs 0 0 : Nat)) ∧ Quiet wn w') := firstSeen_h wn x hvx m hbx
      have hfl : firstF m x.vs 0 0 ≤ x.vs.length := by have := firstF_le m x.vs 0 0 (Nat.le_refl _); omega
      have hszn : Hid (wn.heap.size = wr.heap.size) := hsn'
      clear hsn'
      rcases vat_cases hvx with ⟨ha, hv0, hc0⟩ | ⟨g, ha, hg, hlc, hcm, hcell⟩
      · have hf0 : firstF m x.vs 0 0 = 0 := by rw [hv0]; rfl
        have hd0 : dropL m x.vs = [] := by unfold dropL; rw [hv0]; simp
        rw [Hid, hf0] at HF
        rw [ha, hv0, hc0] at hent HF ⊢
        have HF2 : Hid (Calls Tryz.prog 145 #[.slice none 0 0, .int .i64 m] wn fun e w' => e = .returned (.int .i64 0) ∧ Quiet wn w') := HF
        simp only [List.length_nil] at hent ⊢
        clear HF
        go_wp2_with (go_at_call 145; refine (HF2.out).mono ?_; rintro e w2 ⟨rfl, hq2⟩)
        have hk2 : Keeps (fun b => b = w.heap.size + 1) wr w2 := hkn'.trans hq2 (fun _ h => h.elim)
        have I2 := HI.out.skip hkn hx hperm hd0 hk2 (Nat.le_refl _)
        have hrg2 := hrgn.kept hq2 (by simp) (by simp)
        exact ⟨⟨left', V, hrg2, I2, Nat.le_trans hsz hk2.size⟩, by rw [hrg2.left_eq, hrg.left_eq, hlen]; simp⟩
      · generalize hfd : firstF m x.vs 0 0 = f at *
        have hdl : dropL m x.vs = x.vs.drop f := by unfold dropL; rw [hfd]
        have HF2 : Hid (Calls Tryz.prog 145 #[.slice (some ⟨g, 0, none⟩) x.vs.length x.cap, .int .i64 m] wn fun e w' => e = .returned (.int .i64 (f : Nat)) ∧ Quiet wn w') := by rw [Hid, ha] at HF; exact HF
        have HC : Hid (∀ w2, Quiet wn w2 → Calls Tryz.prog 146 #[.slice (some ⟨g, f * 3, none⟩) (x.vs.length - f) (x.cap - f)] w2 fun e w' => ∃ (v' : Value) (z : VRec), e = .returned v' ∧ z.v = v' ∧ z.k = x.k ∧ z.vs = dropL m x.vs ∧ w'.ownsRow w2.heap.size 233 3 z.v z.vs.length (z.vs.flatMap verCells) ∧ Quiet w2 w' ∧
            ∀ V', MapIs sk slV w' w.heap.size V' → ∃ o, (Instr.mapUpdate 132 (.map (some w.heap.size)) (.string x.k) v').run Tryz.prog w' = .ok () (setBlock w' w.heap.size o) ∧ MapIs sk slV (setBlock w' w.heap.size o) w.heap.size (put V' z.k (z.a, z.vs.length, z.cap))) := fun w2 hq => by
          have hcl := cloneV_h w2 g (f * 3) (x.cap - f) (x.vs.drop f) (by simp; omega) (Nat.lt_of_lt_of_le hg hq.size) (fun j u hj => by
            rw [drop_cells, List.getElem?_drop] at hj
            rw [hq.cell hg (by simp)]
            exact hcell _ u hj)
          rw [List.length_drop] at hcl
          refine hcl.mono ?_
          rintro e w' ⟨v', rfl, hown', hq'⟩
          obtain ⟨z, hzk, hzv, hzs⟩ : ∃ z : VRec, z.k = x.k ∧ z.vs = dropL m x.vs ∧ z.v = v' := by
            rcases hown'.2 with ⟨e, h0⟩ | ⟨g', cap', cur, e, _⟩
            · exact ⟨⟨x.k, none, 0, dropL m x.vs⟩, rfl, rfl, by simp [VRec.v, e, hdl, h0]⟩
            · exact ⟨⟨x.k, some ⟨g', 0, none⟩, cap', dropL m x.vs⟩, rfl, rfl, by simp [VRec.v, e, hdl]⟩
          refine ⟨v', z, rfl, hzs, hzk, hzv, ?_, hq', fun V' hV' => ?_⟩
          · rw [hzs, hzv, hdl, List.length_drop]; exact hown'
          · obtain ⟨o, h1, h2⟩ := hV'.update sk_good Tryz.underlying132 (x := x.k) hkok (z.a, z.vs.length, z.cap)
            have hsl : slV (z.a, z.vs.length, z.cap) = v' := by rw [← hzs]; rfl
            rw [hsl] at h1
            exact ⟨o, h1, by rw [hzk]; exact h2⟩
        rw [ha] at hent ⊢
        clear HF hcell hcm
        go_wp2_with (first
          | (go_at_call 145; refine (HF2.out).mono ?_; rintro e w2 ⟨rfl, hq2⟩)
          | (go_at_call 146; refine (HC.out _ hq2).mono ?_; rintro e w3 ⟨v', z, rfl, hzs, hzk, hzv, hown3, hq3, hup⟩; obtain ⟨o, hrun, hmap3⟩ := hup _ (HI.out.map.of_block ((hkn'.trans (Quiet.trans' hq2 hq3) (fun _ h => h.elim)).block _ HI.out.map.lt (by omega))); clear hup))
        · have hk3 : Keeps (fun b => b = w.heap.size + 1) wr w3 := (hkn'.trans hq2 (fun _ h => h.elim)).trans hq3 (fun _ h => h.elim)
          have hk4 : Keeps (fun b => b = w.heap.size + 1 ∨ b = w.heap.size) wr (setBlock w3 w.heap.size o) := (hk3.mono (fun _ h => .inl (.inl h))).trans (Keeps.setBlock (S := fun b => b = w.heap.size + 1 ∨ b = w.heap.size) w3 w.heap.size o (.inr rfl)) (fun _ h => .inl h)
          have hne0 : dropL m x.vs ≠ [] := fun e => by
            rw [hdl] at e
            have := congrArg List.length e
            simp at this; omega
          have hw2 : wr.heap.size ≤ w2.heap.size := (hkn'.trans hq2 (fun _ h => h.elim)).size
          have I2 := HI.out.keep hkn hx hperm hne0 (Nat.le_refl _) z hzk hzv w2.heap.size hw2 hsz (ownsRow_of_block hown3 (fun b hb => heap_setBlock_ne _ _ _ (by have := (hown3.lt b hb).1; omega))) hmap3 hk4
          have hrg2 := ((hrgn.kept hq2 (by simp) (by simp)).kept hq3 (by simp) (by simp)).kept (Keeps.setBlock (S := fun b => b = w.heap.size) w3 w.heap.size o rfl) (by omega) (by omega)
          exact ⟨⟨left', V ++ [z], hrg2, I2, Nat.le_trans hsz hk4.size⟩, by rw [hrg2.left_eq, hrg.left_eq, hlen]; simp⟩
        · have hk2 : Keeps (fun b => b = w.heap.size + 1) wr w2 := hkn'.trans hq2 (fun _ h => h.elim)
          have hd0 : dropL m x.vs = [] := by rw [hdl]; exact List.drop_eq_nil_of_le (by omega)
          have I2 := HI.out.skip hkn hx hperm hd0 hk2 (Nat.le_refl _)
          have hrg2 := hrgn.kept hq2 (by simp) (by simp)
          exact ⟨⟨left', V, hrg2, I2, Nat.le_trans hsz hk2.size⟩, by rw [hrg2.left_eq, hrg.left_eq, hlen]; simp⟩

end Go.Proofs.YthfimgeopciiiaaGreat
