/-
  The calls of a store: under the mutex, each is the state's own call.
-/
import Derived.Test.YthfimgeopciiiaaGreatApiA
namespace Go.Proofs.YthfimgeopciiiaaGreat
open Go.MapKept Go.ChangeMaps Go.Maps Go.RowKit Go.MuLone

set_option maxRecDepth 100000 in
set_option maxHeartbeats 1000000 in
theorem Begin_outer {w : World} {s : Sto} (H : StAt w s) (h0 : s.mu = 0) (R : Int → Int → Sto → World → Prop)
    (hin : Calls Tryz.prog 55 #[.pointer (some ⟨s.sb, 2, none⟩)] (w.setCell ⟨s.sb, 0, none⟩ (.int .i32 1)) fun e w' => ∃ a c s', e = .returned (.tuple #[.int .i64 a, .int .i64 c]) ∧ Turn { s with mu := 1 } s' (w.setCell ⟨s.sb, 0, none⟩ (.int .i32 1)) w' ∧ R a c s' w') :
    Calls Tryz.prog 26 #[.pointer (some ⟨s.sb, 0, none⟩)] w fun e w' => ∃ a c s' w1, e = .returned (.tuple #[.int .i64 a, .int .i64 c]) ∧ Turn s { s' with mu := 0 } w w' ∧ w' = w1.setCell ⟨s.sb, 0, none⟩ (.int .i32 0) ∧ R a c s' w1 := by
  obtain ⟨c0, f0, HL⟩ := H.locked h0
  have HF := fin_turn (w := w) h0
  have HI := hidC hin
  clear H HL hin
  generalize hW : w.setCell ⟨s.sb, 0, none⟩ (.int .i32 1) = W at *
  go_enter_defers Tryz.func26, Tryz.ntmps26
  go_wp2_with (first | (go_at_call 48; refine (lock_free Tryz.muLib ⟨s.sb, 0, none⟩ _ c0 f0).mono ?_; rintro e w' ⟨rfl, rfl⟩; simp only [hW]) | (go_at_call 55; refine (HI.out).mono ?_; rintro e w2 ⟨a, c, s2, rfl, ht2, hR2⟩))
  obtain ⟨hfin, c1, f1⟩ := HF.out _ _ ht2
  refine leaves_cons (f := 49) (args := #[.pointer (some ⟨s.sb, 0, none⟩)]) (by simp) (by simp [go_sem]) ?_
  refine (unlock_deferred Tryz.muLib ⟨s.sb, 0, none⟩ .returning _ c1 f1).mono ?_
  rintro e u' w'' ⟨rfl, rfl, rfl⟩
  exact ⟨_, results_tmp2 rfl _ _ _, _, _, _, _, rfl, hfin, rfl, hR2⟩

set_option maxRecDepth 100000 in
set_option maxHeartbeats 1000000 in
theorem Get_outer {w : World} {s : Sto} (H : StAt w s) (h0 : s.mu = 0) (h : Int) (k : ByteArray) (R : ByteArray → Bool → Int → Sto → World → Prop)
    (hin : Calls Tryz.prog 90 #[.pointer (some ⟨s.sb, 2, none⟩), .int .i64 h, .string k] (w.setCell ⟨s.sb, 0, none⟩ (.int .i32 1)) fun e w' => ∃ a b c s', e = .returned (.tuple #[.string a, .bool b, .int .i64 c]) ∧ Turn { s with mu := 1 } s' (w.setCell ⟨s.sb, 0, none⟩ (.int .i32 1)) w' ∧ R a b c s' w') :
    Calls Tryz.prog 52 #[.pointer (some ⟨s.sb, 0, none⟩), .int .i64 h, .string k] w fun e w' => ∃ a b c s' w1, e = .returned (.tuple #[.string a, .bool b, .int .i64 c]) ∧ Turn s { s' with mu := 0 } w w' ∧ w' = w1.setCell ⟨s.sb, 0, none⟩ (.int .i32 0) ∧ R a b c s' w1 := by
  obtain ⟨c0, f0, HL⟩ := H.locked h0
  have HF := fin_turn (w := w) h0
  have HI := hidC hin
  clear H HL hin
  generalize hW : w.setCell ⟨s.sb, 0, none⟩ (.int .i32 1) = W at *
  go_enter_defers Tryz.func52, Tryz.ntmps52
  go_wp2_with (first | (go_at_call 48; refine (lock_free Tryz.muLib ⟨s.sb, 0, none⟩ _ c0 f0).mono ?_; rintro e w' ⟨rfl, rfl⟩; simp only [hW]) | (go_at_call 90; refine (HI.out).mono ?_; rintro e w2 ⟨a, b, c, s2, rfl, ht2, hR2⟩))
  obtain ⟨hfin, c1, f1⟩ := HF.out _ _ ht2
  refine leaves_cons (f := 49) (args := #[.pointer (some ⟨s.sb, 0, none⟩)]) (by simp) (by simp [go_sem]) ?_
  refine (unlock_deferred Tryz.muLib ⟨s.sb, 0, none⟩ .returning _ c1 f1).mono ?_
  rintro e u' w'' ⟨rfl, rfl, rfl⟩
  exact ⟨_, results_tmp3 rfl _ _ _, _, _, _, _, _, rfl, hfin, rfl, hR2⟩

set_option maxRecDepth 100000 in
set_option maxHeartbeats 1000000 in
theorem Scan_outer {w : World} {s : Sto} (H : StAt w s) (h0 : s.mu = 0) (h : Int) (lo hi : ByteArray) (R : Value → Int → Sto → World → Prop)
    (hin : Calls Tryz.prog 77 #[.pointer (some ⟨s.sb, 2, none⟩), .int .i64 h, .string lo, .string hi] (w.setCell ⟨s.sb, 0, none⟩ (.int .i32 1)) fun e w' => ∃ v c s', e = .returned (.tuple #[v, .int .i64 c]) ∧ Turn { s with mu := 1 } s' (w.setCell ⟨s.sb, 0, none⟩ (.int .i32 1)) w' ∧ R v c s' w') :
    Calls Tryz.prog 41 #[.pointer (some ⟨s.sb, 0, none⟩), .int .i64 h, .string lo, .string hi] w fun e w' => ∃ v c s' w1, e = .returned (.tuple #[v, .int .i64 c]) ∧ Turn s { s' with mu := 0 } w w' ∧ w' = w1.setCell ⟨s.sb, 0, none⟩ (.int .i32 0) ∧ R v c s' w1 := by
  obtain ⟨c0, f0, HL⟩ := H.locked h0
  have HF := fin_turn (w := w) h0
  have HI := hidC hin
  clear H HL hin
  generalize hW : w.setCell ⟨s.sb, 0, none⟩ (.int .i32 1) = W at *
  go_enter_defers Tryz.func41, Tryz.ntmps41
  go_wp2_with (first | (go_at_call 48; refine (lock_free Tryz.muLib ⟨s.sb, 0, none⟩ _ c0 f0).mono ?_; rintro e w' ⟨rfl, rfl⟩; simp only [hW]) | (go_at_call 77; refine (HI.out).mono ?_; rintro e w2 ⟨v, c, s2, rfl, ht2, hR2⟩))
  obtain ⟨hfin, c1, f1⟩ := HF.out _ _ ht2
  refine leaves_cons (f := 49) (args := #[.pointer (some ⟨s.sb, 0, none⟩)]) (by simp) (by simp [go_sem]) ?_
  refine (unlock_deferred Tryz.muLib ⟨s.sb, 0, none⟩ .returning _ c1 f1).mono ?_
  rintro e u' w'' ⟨rfl, rfl, rfl⟩
  exact ⟨_, results_tmp2 rfl _ _ _, _, _, _, _, rfl, hfin, rfl, hR2⟩

set_option maxRecDepth 100000 in
set_option maxHeartbeats 1000000 in
theorem Write_outer {w : World} {s : Sto} (H : StAt w s) (h0 : s.mu = 0) (h : Int) (v : Value) (R : Int → Sto → World → Prop)
    (hin : Calls Tryz.prog 56 #[.pointer (some ⟨s.sb, 2, none⟩), .int .i64 h, v] (w.setCell ⟨s.sb, 0, none⟩ (.int .i32 1)) fun e w' => ∃ c s', e = .returned (.int .i64 c) ∧ Turn { s with mu := 1 } s' (w.setCell ⟨s.sb, 0, none⟩ (.int .i32 1)) w' ∧ R c s' w') :
    Calls Tryz.prog 27 #[.pointer (some ⟨s.sb, 0, none⟩), .int .i64 h, v] w fun e w' => ∃ c s' w1, e = .returned (.int .i64 c) ∧ Turn s { s' with mu := 0 } w w' ∧ w' = w1.setCell ⟨s.sb, 0, none⟩ (.int .i32 0) ∧ R c s' w1 := by
  obtain ⟨c0, f0, HL⟩ := H.locked h0
  have HF := fin_turn (w := w) h0
  have HI := hidC hin
  clear H HL hin
  generalize hW : w.setCell ⟨s.sb, 0, none⟩ (.int .i32 1) = W at *
  go_enter_defers Tryz.func27, Tryz.ntmps27
  go_wp2_with (first | (go_at_call 48; refine (lock_free Tryz.muLib ⟨s.sb, 0, none⟩ _ c0 f0).mono ?_; rintro e w' ⟨rfl, rfl⟩; simp only [hW]) | (go_at_call 56; refine (HI.out).mono ?_; rintro e w2 ⟨c, s2, rfl, ht2, hR2⟩))
  obtain ⟨hfin, c1, f1⟩ := HF.out _ _ ht2
  refine leaves_cons (f := 49) (args := #[.pointer (some ⟨s.sb, 0, none⟩)]) (by simp) (by simp [go_sem]) ?_
  refine (unlock_deferred Tryz.muLib ⟨s.sb, 0, none⟩ .returning _ c1 f1).mono ?_
  rintro e u' w'' ⟨rfl, rfl, rfl⟩
  exact ⟨_, results_tmp rfl _ _ _, _, _, _, rfl, hfin, rfl, hR2⟩

set_option maxRecDepth 100000 in
set_option maxHeartbeats 1000000 in
theorem Commit_outer {w : World} {s : Sto} (H : StAt w s) (h0 : s.mu = 0) (h : Int) (R : Int → Sto → World → Prop)
    (hin : Calls Tryz.prog 54 #[.pointer (some ⟨s.sb, 2, none⟩), .int .i64 h] (w.setCell ⟨s.sb, 0, none⟩ (.int .i32 1)) fun e w' => ∃ c s', e = .returned (.int .i64 c) ∧ Turn { s with mu := 1 } s' (w.setCell ⟨s.sb, 0, none⟩ (.int .i32 1)) w' ∧ R c s' w') :
    Calls Tryz.prog 25 #[.pointer (some ⟨s.sb, 0, none⟩), .int .i64 h] w fun e w' => ∃ c s' w1, e = .returned (.int .i64 c) ∧ Turn s { s' with mu := 0 } w w' ∧ w' = w1.setCell ⟨s.sb, 0, none⟩ (.int .i32 0) ∧ R c s' w1 := by
  obtain ⟨c0, f0, HL⟩ := H.locked h0
  have HF := fin_turn (w := w) h0
  have HI := hidC hin
  clear H HL hin
  generalize hW : w.setCell ⟨s.sb, 0, none⟩ (.int .i32 1) = W at *
  go_enter_defers Tryz.func25, Tryz.ntmps25
  go_wp2_with (first | (go_at_call 48; refine (lock_free Tryz.muLib ⟨s.sb, 0, none⟩ _ c0 f0).mono ?_; rintro e w' ⟨rfl, rfl⟩; simp only [hW]) | (go_at_call 54; refine (HI.out).mono ?_; rintro e w2 ⟨c, s2, rfl, ht2, hR2⟩))
  obtain ⟨hfin, c1, f1⟩ := HF.out _ _ ht2
  refine leaves_cons (f := 49) (args := #[.pointer (some ⟨s.sb, 0, none⟩)]) (by simp) (by simp [go_sem]) ?_
  refine (unlock_deferred Tryz.muLib ⟨s.sb, 0, none⟩ .returning _ c1 f1).mono ?_
  rintro e u' w'' ⟨rfl, rfl, rfl⟩
  exact ⟨_, results_tmp rfl _ _ _, _, _, _, rfl, hfin, rfl, hR2⟩

set_option maxRecDepth 100000 in
set_option maxHeartbeats 1000000 in
theorem Abort_outer {w : World} {s : Sto} (H : StAt w s) (h0 : s.mu = 0) (h : Int) (R : Int → Sto → World → Prop)
    (hin : Calls Tryz.prog 78 #[.pointer (some ⟨s.sb, 2, none⟩), .int .i64 h] (w.setCell ⟨s.sb, 0, none⟩ (.int .i32 1)) fun e w' => ∃ c s', e = .returned (.int .i64 c) ∧ Turn { s with mu := 1 } s' (w.setCell ⟨s.sb, 0, none⟩ (.int .i32 1)) w' ∧ R c s' w') :
    Calls Tryz.prog 42 #[.pointer (some ⟨s.sb, 0, none⟩), .int .i64 h] w fun e w' => ∃ c s' w1, e = .returned (.int .i64 c) ∧ Turn s { s' with mu := 0 } w w' ∧ w' = w1.setCell ⟨s.sb, 0, none⟩ (.int .i32 0) ∧ R c s' w1 := by
  obtain ⟨c0, f0, HL⟩ := H.locked h0
  have HF := fin_turn (w := w) h0
  have HI := hidC hin
  clear H HL hin
  generalize hW : w.setCell ⟨s.sb, 0, none⟩ (.int .i32 1) = W at *
  go_enter_defers Tryz.func42, Tryz.ntmps42
  go_wp2_with (first | (go_at_call 48; refine (lock_free Tryz.muLib ⟨s.sb, 0, none⟩ _ c0 f0).mono ?_; rintro e w' ⟨rfl, rfl⟩; simp only [hW]) | (go_at_call 78; refine (HI.out).mono ?_; rintro e w2 ⟨c, s2, rfl, ht2, hR2⟩))
  obtain ⟨hfin, c1, f1⟩ := HF.out _ _ ht2
  refine leaves_cons (f := 49) (args := #[.pointer (some ⟨s.sb, 0, none⟩)]) (by simp) (by simp [go_sem]) ?_
  refine (unlock_deferred Tryz.muLib ⟨s.sb, 0, none⟩ .returning _ c1 f1).mono ?_
  rintro e u' w'' ⟨rfl, rfl, rfl⟩
  exact ⟨_, results_tmp rfl _ _ _, _, _, _, rfl, hfin, rfl, hR2⟩

theorem quiet_lock {w : World} {b : Nat} {cs : Array Value} {ty : TypeId} (h : w.heap[b]? = some (.cells cs ty)) (v : Value) (o : Obj) : Quiet (w.setCell ⟨b, 0, none⟩ v) ((w.alloc o).setCell ⟨b, 0, none⟩ v) := by
  refine ⟨rfl, rfl, rfl, by simp, fun c hc _ => ?_⟩
  have hc' : c < w.heap.size := by simpa using hc
  by_cases e : c = b
  · subst e
    rw [heap_setCell_same h, heap_setCell_same ((heap_alloc_old w o hc').trans h)]
  · rw [heap_setCell_other _ _ _ e, heap_setCell_other _ _ _ e, heap_alloc_old w o hc']

theorem set5 {w : World} {b : Nat} {x0 x1 x2 x3 x4 : Value} {t : TypeId} (h : w.heap[b]? = some (.cells #[x0, x1, x2, x3, x4] t)) (v0 v1 v2 v3 v4 : Value) :
    (((((w.setCell ⟨b, 0, none⟩ v0).setCell ⟨b, 1, none⟩ v1).setCell ⟨b, 2, none⟩ v2).setCell ⟨b, 3, none⟩ v3).setCell ⟨b, 4, none⟩ v4).heap[b]? = some (.cells #[v0, v1, v2, v3, v4] t) := by
  rw [heap_setCell_same (heap_setCell_same (heap_setCell_same (heap_setCell_same (heap_setCell_same h))))]; rfl

theorem quiet_set5 {w w1 : World} {b : Nat} (h : Quiet w w1) (hb : w.heap.size ≤ b) (v0 v1 v2 v3 v4 : Value) : Quiet w (((((w1.setCell ⟨b, 0, none⟩ v0).setCell ⟨b, 1, none⟩ v1).setCell ⟨b, 2, none⟩ v2).setCell ⟨b, 3, none⟩ v3).setCell ⟨b, 4, none⟩ v4) :=
  Quiet.of_new (Quiet.of_new (quiet_set3 h hb v0 v1 v2) (Keeps.setCell (S := fun c => c = b) _ _ _ rfl) (by simpa using hb)) (Keeps.setCell (S := fun c => c = b) _ _ _ rfl) (by simpa using hb)

set_option maxRecDepth 100000 in
set_option maxHeartbeats 1000000 in
theorem Look_outer {w : World} {s : Sto} (H : StAt w s) (h0 : s.mu = 0) (h : Int) (bg : Int) (fi : Bool) (fo : Bool) (nr : Int) (nw : Int) (er : Int)
    (hin : ∀ W, StAt W { s with mu := 1 } → Calls Tryz.prog 53 #[.pointer (some ⟨s.sb, 2, none⟩), .int .i64 h] W fun e w' => e = .returned (.tuple #[.agg #[.int .i64 bg, .bool fi, .bool fo, .int .i64 nr, .int .i64 nw], .int .i64 er]) ∧ Quiet W w') :
    Calls Tryz.prog 23 #[.pointer (some ⟨s.sb, 0, none⟩), .int .i64 h] w fun e w' => e = .returned (.tuple #[.agg #[.int .i64 bg, .bool fi, .bool fo, .int .i64 nr, .int .i64 nw], .int .i64 er]) ∧ Turn s s w w' := by
  have hqA : Quiet w (w.alloc (.cells #[.int .i64 0, .bool false, .bool false, .int .i64 0, .int .i64 0] 57)) := Keeps.alloc _ _
  have HA0 := H.quiet hqA
  obtain ⟨c0, f0, HL⟩ := HA0.locked h0
  obtain ⟨_, _, HLw⟩ := H.locked h0
  have hqL := quiet_lock H.own (.int .i32 1) (.cells #[.int .i64 0, .bool false, .bool false, .int .i64 0, .int .i64 0] 57)
  have HF := fin_turn (w := w) h0
  have hgo : Hid (∀ w2, Quiet (w.setCell ⟨s.sb, 0, none⟩ (.int .i32 1)) w2 → Turn { s with mu := 1 } { s with mu := 1 } (w.setCell ⟨s.sb, 0, none⟩ (.int .i32 1)) w2) := fun w2 hq => Turn.quiet HLw hq
  have hsb : s.sb < w.heap.size := H.lt _ (by simp [Sto.foot])
  have hbx0 : ((w.alloc (.cells #[.int .i64 0, .bool false, .bool false, .int .i64 0, .int .i64 0] 57)).setCell ⟨s.sb, 0, none⟩ (.int .i32 1)).heap[w.heap.size]? = some (.cells #[.int .i64 0, .bool false, .bool false, .int .i64 0, .int .i64 0] 57) := (heap_setCell_other _ _ _ (by simp; omega)).trans (heap_alloc_new w _)
  have HI := hidC (hin _ HL)
  clear H HL HA0 HLw hin
  generalize hW : (w.alloc (.cells #[.int .i64 0, .bool false, .bool false, .int .i64 0, .int .i64 0] 57)).setCell ⟨s.sb, 0, none⟩ (.int .i32 1) = W at *
  have HB : Hid (∀ w2, Quiet W w2 → w2.heap[w.heap.size]? = some (.cells #[.int .i64 0, .bool false, .bool false, .int .i64 0, .int .i64 0] 57)) := fun w2 hq => (hq.block _ (lt_of_heap hbx0) (by simp)).trans hbx0
  go_enter_defers Tryz.func23, Tryz.ntmps23
  go_wp2_with (first | (go_at_call 48; refine (lock_free Tryz.muLib ⟨s.sb, 0, none⟩ _ c0 f0).mono ?_; rintro e w' ⟨rfl, rfl⟩; simp only [hW]) | (go_at_call 53; refine (HI.out).mono ?_; rintro e w2 ⟨rfl, hq2⟩; have hbx := HB.out _ hq2; have z0 := cell_of_heap (i := 0) hbx; have z1 := cell_of_heap (i := 1) hbx; have z2 := cell_of_heap (i := 2) hbx; have z3 := cell_of_heap (i := 3) hbx; have z4 := cell_of_heap (i := 4) hbx; have y0 := frozen_of_heap (i := 0) hbx; have y1 := frozen_of_heap (i := 1) hbx; have y2 := frozen_of_heap (i := 2) hbx; have y3 := frozen_of_heap (i := 3) hbx; have y4 := frozen_of_heap (i := 4) hbx; simp at z0 z1 z2 z3 z4))
  have es := set5 (HB.out _ hq2) (.int .i64 bg) (.bool fi) (.bool fo) (.int .i64 nr) (.int .i64 nw)
  have hqs := quiet_set5 (b := w.heap.size) (Quiet.trans' hqL hq2) (by simp) (.int .i64 bg) (.bool fi) (.bool fo) (.int .i64 nr) (.int .i64 nw)
  clear hbx z0 z1 z2 z3 z4 y0 y1 y2 y3 y4
  generalize hZ : (((((w2.setCell ⟨w.heap.size, 0, none⟩ (.int .i64 bg)).setCell ⟨w.heap.size, 1, none⟩ (.bool fi)).setCell ⟨w.heap.size, 2, none⟩ (.bool fo)).setCell ⟨w.heap.size, 3, none⟩ (.int .i64 nr)).setCell ⟨w.heap.size, 4, none⟩ (.int .i64 nw)) = Z at *
  obtain ⟨hfin, c1, f1⟩ := HF.out _ _ (hgo.out _ hqs)
  refine leaves_cons (f := 49) (args := #[.pointer (some ⟨s.sb, 0, none⟩)]) (by simp) (by simp [go_sem]) ?_
  refine (unlock_deferred Tryz.muLib ⟨s.sb, 0, none⟩ .returning _ c1 f1).mono ?_
  rintro e u' w'' ⟨rfl, rfl, rfl⟩
  have eb : (Z.setCell ⟨s.sb, 0, none⟩ (.int .i32 0)).heap[w.heap.size]? = some (.cells #[.int .i64 bg, .bool fi, .bool fo, .int .i64 nr, .int .i64 nw] 57) := (heap_setCell_other _ _ _ (by simp; omega)).trans es
  generalize hY : Z.setCell ⟨s.sb, 0, none⟩ (.int .i32 0) = Y at *
  have e0 := cell_of_heap (i := 0) eb
  have e1 := cell_of_heap (i := 1) eb
  have e2 := cell_of_heap (i := 2) eb
  have e3 := cell_of_heap (i := 3) eb
  have e4 := cell_of_heap (i := 4) eb
  simp at e0 e1 e2 e3 e4
  have hs0 : ({ ({ s with mu := 1 } : Sto) with mu := 0 } : Sto) = s := by rw [← h0]
  rw [hs0] at hfin
  exact ⟨.tuple #[.agg #[.int .i64 bg, .bool fi, .bool fo, .int .i64 nr, .int .i64 nw], .int .i64 er], by simp [results, Tryz.results23, go_sem, e0, e1, e2, e3, e4], rfl, hfin⟩

set_option maxRecDepth 100000 in
set_option maxHeartbeats 1000000 in
theorem Told_outer {w : World} {s : Sto} (H : StAt w s) (h0 : s.mu = 0) (k0 : Int) (k1 : Int) (k2 : Int) (k3 : Int) (k4 : Int)
    (hin : ∀ W, StAt W { s with mu := 1 } → Calls Tryz.prog 50 #[.pointer (some ⟨s.sb, 2, none⟩)] W fun e w' => e = .returned (.agg #[.int .i64 k0, .int .i64 k1, .int .i64 k2, .int .i64 k3, .int .i64 k4]) ∧ Quiet W w') :
    Calls Tryz.prog 19 #[.pointer (some ⟨s.sb, 0, none⟩)] w fun e w' => e = .returned (.agg #[.int .i64 k0, .int .i64 k1, .int .i64 k2, .int .i64 k3, .int .i64 k4]) ∧ Turn s s w w' := by
  have hqA : Quiet w (w.alloc (.cells #[.int .i64 0, .int .i64 0, .int .i64 0, .int .i64 0, .int .i64 0] 50)) := Keeps.alloc _ _
  have HA0 := H.quiet hqA
  obtain ⟨c0, f0, HL⟩ := HA0.locked h0
  obtain ⟨_, _, HLw⟩ := H.locked h0
  have hqL := quiet_lock H.own (.int .i32 1) (.cells #[.int .i64 0, .int .i64 0, .int .i64 0, .int .i64 0, .int .i64 0] 50)
  have HF := fin_turn (w := w) h0
  have hgo : Hid (∀ w2, Quiet (w.setCell ⟨s.sb, 0, none⟩ (.int .i32 1)) w2 → Turn { s with mu := 1 } { s with mu := 1 } (w.setCell ⟨s.sb, 0, none⟩ (.int .i32 1)) w2) := fun w2 hq => Turn.quiet HLw hq
  have hsb : s.sb < w.heap.size := H.lt _ (by simp [Sto.foot])
  have hbx0 : ((w.alloc (.cells #[.int .i64 0, .int .i64 0, .int .i64 0, .int .i64 0, .int .i64 0] 50)).setCell ⟨s.sb, 0, none⟩ (.int .i32 1)).heap[w.heap.size]? = some (.cells #[.int .i64 0, .int .i64 0, .int .i64 0, .int .i64 0, .int .i64 0] 50) := (heap_setCell_other _ _ _ (by simp; omega)).trans (heap_alloc_new w _)
  have HI := hidC (hin _ HL)
  clear H HL HA0 HLw hin
  generalize hW : (w.alloc (.cells #[.int .i64 0, .int .i64 0, .int .i64 0, .int .i64 0, .int .i64 0] 50)).setCell ⟨s.sb, 0, none⟩ (.int .i32 1) = W at *
  have HB : Hid (∀ w2, Quiet W w2 → w2.heap[w.heap.size]? = some (.cells #[.int .i64 0, .int .i64 0, .int .i64 0, .int .i64 0, .int .i64 0] 50)) := fun w2 hq => (hq.block _ (lt_of_heap hbx0) (by simp)).trans hbx0
  go_enter_defers Tryz.func19, Tryz.ntmps19
  go_wp2_with (first | (go_at_call 48; refine (lock_free Tryz.muLib ⟨s.sb, 0, none⟩ _ c0 f0).mono ?_; rintro e w' ⟨rfl, rfl⟩; simp only [hW]) | (go_at_call 50; refine (HI.out).mono ?_; rintro e w2 ⟨rfl, hq2⟩; have hbx := HB.out _ hq2; have z0 := cell_of_heap (i := 0) hbx; have z1 := cell_of_heap (i := 1) hbx; have z2 := cell_of_heap (i := 2) hbx; have z3 := cell_of_heap (i := 3) hbx; have z4 := cell_of_heap (i := 4) hbx; have y0 := frozen_of_heap (i := 0) hbx; have y1 := frozen_of_heap (i := 1) hbx; have y2 := frozen_of_heap (i := 2) hbx; have y3 := frozen_of_heap (i := 3) hbx; have y4 := frozen_of_heap (i := 4) hbx; simp at z0 z1 z2 z3 z4))
  have es := set5 (HB.out _ hq2) (.int .i64 k0) (.int .i64 k1) (.int .i64 k2) (.int .i64 k3) (.int .i64 k4)
  have hqs := quiet_set5 (b := w.heap.size) (Quiet.trans' hqL hq2) (by simp) (.int .i64 k0) (.int .i64 k1) (.int .i64 k2) (.int .i64 k3) (.int .i64 k4)
  clear hbx z0 z1 z2 z3 z4 y0 y1 y2 y3 y4
  generalize hZ : (((((w2.setCell ⟨w.heap.size, 0, none⟩ (.int .i64 k0)).setCell ⟨w.heap.size, 1, none⟩ (.int .i64 k1)).setCell ⟨w.heap.size, 2, none⟩ (.int .i64 k2)).setCell ⟨w.heap.size, 3, none⟩ (.int .i64 k3)).setCell ⟨w.heap.size, 4, none⟩ (.int .i64 k4)) = Z at *
  obtain ⟨hfin, c1, f1⟩ := HF.out _ _ (hgo.out _ hqs)
  refine leaves_cons (f := 49) (args := #[.pointer (some ⟨s.sb, 0, none⟩)]) (by simp) (by simp [go_sem]) ?_
  refine (unlock_deferred Tryz.muLib ⟨s.sb, 0, none⟩ .returning _ c1 f1).mono ?_
  rintro e u' w'' ⟨rfl, rfl, rfl⟩
  have eb : (Z.setCell ⟨s.sb, 0, none⟩ (.int .i32 0)).heap[w.heap.size]? = some (.cells #[.int .i64 k0, .int .i64 k1, .int .i64 k2, .int .i64 k3, .int .i64 k4] 50) := (heap_setCell_other _ _ _ (by simp; omega)).trans es
  generalize hY : Z.setCell ⟨s.sb, 0, none⟩ (.int .i32 0) = Y at *
  have e0 := cell_of_heap (i := 0) eb
  have e1 := cell_of_heap (i := 1) eb
  have e2 := cell_of_heap (i := 2) eb
  have e3 := cell_of_heap (i := 3) eb
  have e4 := cell_of_heap (i := 4) eb
  simp at e0 e1 e2 e3 e4
  have hs0 : ({ ({ s with mu := 1 } : Sto) with mu := 0 } : Sto) = s := by rw [← h0]
  rw [hs0] at hfin
  exact ⟨.agg #[.int .i64 k0, .int .i64 k1, .int .i64 k2, .int .i64 k3, .int .i64 k4], by simp [results, Tryz.results19, go_sem, e0, e1, e2, e3, e4], rfl, hfin⟩

set_option maxRecDepth 100000 in
set_option maxHeartbeats 1000000 in
theorem Cleanup_outer {w : World} {s : Sto} (H : StAt w s) (h0 : s.mu = 0) (R : Sto → Prop)
    (hin : Calls Tryz.prog 51 #[.pointer (some ⟨s.sb, 2, none⟩)] (w.setCell ⟨s.sb, 0, none⟩ (.int .i32 1)) fun e w' => e = .returned (.tuple #[]) ∧ ∃ s', Turn { s with mu := 1 } s' (w.setCell ⟨s.sb, 0, none⟩ (.int .i32 1)) w' ∧ R s') :
    Calls Tryz.prog 20 #[.pointer (some ⟨s.sb, 0, none⟩)] w fun e w' => e = .returned (.tuple #[]) ∧ ∃ s', Turn s { s' with mu := 0 } w w' ∧ R s' := by
  obtain ⟨c0, f0, HL⟩ := H.locked h0
  have HF := fin_turn (w := w) h0
  have HI := hidC hin
  clear H HL hin
  generalize hW : w.setCell ⟨s.sb, 0, none⟩ (.int .i32 1) = W at *
  go_enter_defers Tryz.func20, Tryz.ntmps20
  go_wp2_with (first | (go_at_call 48; refine (lock_free Tryz.muLib ⟨s.sb, 0, none⟩ _ c0 f0).mono ?_; rintro e w' ⟨rfl, rfl⟩; simp only [hW]) | (go_at_call 51; refine (HI.out).mono ?_; rintro e w2 ⟨rfl, s2, ht2, hR2⟩))
  obtain ⟨hfin, c1, f1⟩ := HF.out _ _ ht2
  refine leaves_cons (f := 49) (args := #[.pointer (some ⟨s.sb, 0, none⟩)]) (by simp) (by simp [go_sem]) ?_
  refine (unlock_deferred Tryz.muLib ⟨s.sb, 0, none⟩ .returning _ c1 f1).mono ?_
  rintro e u' w'' ⟨rfl, rfl, rfl⟩
  exact ⟨_, by simp [results, Tryz.results20, go_sem], rfl, _, hfin, hR2⟩

end Go.Proofs.YthfimgeopciiiaaGreat
