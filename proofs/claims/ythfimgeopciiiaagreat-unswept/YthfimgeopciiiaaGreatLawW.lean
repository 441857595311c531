/-
  Unswept: the walk.
-/
import Derived.Test.YthfimgeopciiiaaGreatScript
import Derived.Deep.CutRange
namespace Go.Proofs.YthfimgeopciiiaaGreat
open Go.MapKept Go.ChangeMaps Go.Maps Go.RowKit Go.MuLone

/-- what holds at the loop's head: behind k steps -/
structure UnI (w wr : World) (k : Nat) (bx by' : Nat) (x y : Sto) : Prop where
  two : Two w wr k x y
  sx : x.sb = bx
  sy : y.sb = by'

theorem fresh_kept {w0 W w6 : World} {n : Int} {x y : Sto} {o : Obj} (T : Two w0 W n x y) (k : Keeps (fun b => b ∈ y.foot) (W.alloc o) w6) : w6.heap[W.heap.size]? = some o :=
  (k.block _ (by simp) (fun hm => by have := T.pair.Y.lt _ hm; omega)).trans (heap_alloc_new W o)

theorem wf_tneg {a b : Int} (ha : a ≤ 0 ∧ -9223372036854775808 ≤ a) (hb : 0 < b ∧ b < 4611686018427387904) : (Lit.int .i64 (-(a.tmod b))).wf = true := by
  have e : -(a.tmod b) = (-a) % b := by rw [← Int.neg_tmod]; exact Int.tmod_eq_emod_of_nonneg (by omega)
  rw [e]
  have h1 := Int.emod_nonneg (-a) (show b ≠ 0 by omega)
  have h2 := Int.emod_lt_of_pos (-a) hb.1
  exact wf_i64 (by omega) (by omega)

theorem wf_emod {a b : Int} (hb : 0 < b ∧ b < 4611686018427387904) : (Lit.int .i64 (a % b)).wf = true := by
  have h1 := Int.emod_nonneg a (show b ≠ 0 by omega)
  have h2 := Int.emod_lt_of_pos a hb.1
  exact wf_i64 (by omega) (by omega)

set_option maxRecDepth 100000 in
set_option maxHeartbeats 8000000 in
theorem unswept_h (w : World) (v : Value) (l : List StepD) (hl : ScriptAt w v l) :
    Calls Tryz.prog 6 #[v] w fun e w' => e = .returned (.bool true) ∧ Quiet w w' := by
  obtain ⟨⟨a, cap, rfl, hc⟩, hok, hlen⟩ := hl
  have HW : Hid (∀ W, Calls Tryz.prog 21 #[] W fun e w' => e = .returned (.agg #[.int .i64 32, .int .i64 64, .int .i64 16, .int .i64 128]) ∧ Quiet W w') := fun W => whole_h W
  have HOp : Hid (∀ W, Calls Tryz.prog 13 #[.agg #[.int .i64 32, .int .i64 64, .int .i64 16, .int .i64 128]] W fun e w' => ∃ N, e = .returned (.tuple #[.pointer (some ⟨N + 2, 0, none⟩), .bool true]) ∧ W.heap.size ≤ N ∧ StAt w' (newSto 32 64 16 128 N (N + 2)) ∧ Quiet W w') := fun W => opened_ok 32 64 16 128 W rfl
  have hneq : ∀ (g : Nat) (W : World), (binOp .eql 29 (.pointer (some ⟨g, 0, none⟩)) (.pointer none)).run Tryz.prog W = .ok (.bool false) W := fun g W => by kernel_rfl
  go_enter Tryz.func6, Tryz.ntmps6
  go_wp2_with (first
    | (go_at_call 21; have h1 := hqb1; clear h1; refine (HW.out _).mono ?_; rintro e wa ⟨rfl, hqa⟩)
    | (go_at_call 13; have h1 := hqb1; clear h1; refine (HOp.out _).mono ?_; rintro e wb ⟨N, rfl, hN, hS, hqb⟩)
    | (go_at_call 21; refine (HW.out _).mono ?_; rintro e wa1 ⟨rfl, hqa1⟩)
    | (go_at_call 13; refine (HOp.out _).mono ?_; rintro e wb1 ⟨N1, rfl, hN1, hS1, hqb1⟩))
  have hq : Quiet w wb := Quiet.trans' (Quiet.trans' hqa1 hqb1) (Quiet.trans' hqa hqb)
  have I0 : UnI w wb 0 (N1 + 2) (N + 2) (newSto 32 64 16 128 N1 (N1 + 2)) (newSto 32 64 16 128 N (N + 2)) := by
    have s1 := hqa1.size; have s2 := hqb1.size; have s3 := hqa.size; have s4 := hqb.size
    refine ⟨⟨⟨hq, hS1.quiet (Quiet.trans' hqa hqb), hS, rfl, rfl, fun b hb hb' => ?_, fun b hb => ?_, fun b hb => ?_⟩, newSto_inv _ _, newSto_inv _ _, ⟨0, _, newSto_sim _ _ _ _⟩, rfl, rfl, rfl, rfl⟩, rfl, rfl⟩
    · have := hS1.lt b hb; have := (newSto_foot b hb').1; omega
    · have := (newSto_foot b hb).1; omega
    · have := (newSto_foot b hb).1; omega
  have HOk : Hid (∀ s ∈ l, StepOk w s) := hok
  clear HW HOp hqa1 hqb1 hqa hqb hS1 hS hN1 hN hok
  obtain ⟨X0, Y0, hI0, hbg0⟩ : ∃ X0 Y0, UnI w wb 0 (N1 + 2) (N + 2) X0 Y0 ∧ Y0.abs.begun = 0 := ⟨_, _, I0, rfl⟩
  clear I0
  generalize N1 + 2 = B1 at *
  generalize N + 2 = B2 at *
  go_loopw [7, 8] (fun b i wr => ∃ (k : Nat) (x y : Sto), i = .int .i64 k ∧ b = .int .i64 y.abs.begun ∧ k ≤ l.length ∧ Hid (UnI w wr k B1 B2 x y)) (fun _ i _ => l.length - (intOf i).toNat)
  case atStart => exact ⟨0, X0, Y0, rfl, by rw [hbg0], Nat.zero_le _, hI0⟩
  case round =>
    obtain ⟨k, x, y, rfl, rfl, hk, HI⟩ := hrel
    have hqr : Quiet w wr := HI.out.two.pair.quiet
    by_cases hlt : k < l.length
    · have hlt' : (k : Int) < (l.length : Int) := by omega
      rcases hc with h0 | ⟨g, o, rfl, hg, hcell⟩
      · rw [h0] at hlt; simp at hlt
      obtain ⟨s, hs⟩ : ∃ s, l[k]? = some s := ⟨_, List.getElem?_eq_getElem hlt⟩
      obtain ⟨p0, p1, p2, p3, p4⟩ := hcell k s hs
      rw [← hqr.cell hg (by simp)] at p0 p1 p2 p3 p4
      have hso := HOk.out s (List.mem_of_getElem? hs)
      clear hcell hs hI0 hbg0
      obtain ⟨la, lcap, hlv, -⟩ := hso.ch.sh
      rw [hlv] at p4
      by_cases h7 : s.kind = 7
      · have HC : Hid (∀ W, Quiet wr W → Calls Tryz.prog 20 #[.pointer (some ⟨B1, 0, none⟩)] W fun e w' => e = .returned (.tuple #[]) ∧ Hid (∃ x', UnI w w' (k + 1) B1 B2 x' y)) := fun W hW => by
          have T := HI.out.two.still hW
          obtain ⟨M, F, S⟩ := T.sim
          have hc := cleanup_api T.pair.X T.pair.mx T.ix
          rw [HI.out.sx] at hc
          refine hc.mono fun e w' ⟨h1, x', h2, m, h3⟩ => ⟨h1, x', ?_, h2.sb.trans HI.out.sx, HI.out.sy⟩
          obtain ⟨F', S'⟩ := S.clean T.ix h3
          exact T.next (T.pair.turnX h2) ((T.ix.clean h3).mono (by omega)) (T.iy.mono (by omega)) ⟨m, F', S'⟩ ⟨rfl, rfl, rfl, rfl⟩
        rw [h7] at p0
        go_wp2_with (go_at_call 20; refine (HC.out _ (Keeps.alloc _ _)).mono ?_; rintro e w2 ⟨rfl, hU⟩)
        obtain ⟨x', hU'⟩ := hU.out
        exact ⟨⟨k + 1, x', y, by go_num, rfl, by omega, hU'⟩, by simp [intOf]; omega⟩
      · have T := HI.out.two
        have hn : (k : Int) < 2305843009213693952 := by omega
        have hbg : 0 ≤ y.abs.begun ∧ y.abs.begun ≤ k := T.iy.begun
        have B := T.iy.bounds
        have htl : y.hl.length ≤ y.abs.txs.length := by have := T.pair.Y.hl_le; simpa [Sto.abs] using this
        have htx : (y.abs.txs.length : Int) ≤ 32 := by have := T.iy.txs; rw [T.c1] at this; exact this
        have hrd : (y.abs.nReads : Int) ≤ 64 := by have := T.iy.reads; rw [T.c2] at this; exact this
        have hvr : (totV y.abs.vers : Int) ≤ 128 := by have := T.iy.vers; rw [T.c4] at this; exact this
        have HT : Hid (∀ W, Quiet wr W → Calls Tryz.prog 19 #[.pointer (some ⟨B2, 0, none⟩)] W fun e w' => e = .returned (.agg #[.int .i64 y.abs.clock, .int .i64 y.hl.length, .int .i64 ((y.abs.txs.length : Int) - y.hl.length), .int .i64 y.abs.nReads, .int .i64 (totV y.abs.vers : Nat)]) ∧ Hid (Two w w' k x y) ∧ (OAt W wr.heap.size s.kind s.t s.key s.hi (.slice la s.cs.length lcap) → OAt w' wr.heap.size s.kind s.t s.key s.hi (.slice la s.cs.length lcap))) := fun W hW => by
          have T1 := T.still hW
          have ht := told_api T1.pair.Y T1.pair.my T1.iy
          rw [HI.out.sy] at ht
          exact ht.mono fun e w' ⟨h1, h2⟩ => ⟨h1, { T1 with pair := T1.pair.turnY h2 }, fun ho => ho.turn h2 (fun hm => by have := T.pair.Y.lt _ hm; omega)⟩
        have HAl : ∀ W h, Two w W k x y → Room y → (Lit.int .i64 h).wf = true → Calls Tryz.prog 22 #[.pointer (some ⟨B1, 0, none⟩), .pointer (some ⟨B2, 0, none⟩), .int .i64 h, .agg #[.int .i64 s.kind, .int .i64 s.t, .string s.key, .string s.hi, .slice la s.cs.length lcap]] W (AlikeIs w W k x y s.kind) := fun W h hT hR hw => by
          have := alike_h hT hR hn h hw s hso
          rw [HI.out.sx, HI.out.sy, hlv] at this
          exact this
        have hRm : Hid (¬ (y.abs.txs.length : Int) = 32 → ¬ (y.abs.nReads : Int) = 64 → ¬ (128 : Int) < (totV y.abs.vers : Int) + 16 → Room y) := fun h1 h2 h3 => ⟨by omega, by omega, by omega⟩
        have hob : Hid (OAt (wr.alloc (.cells #[.int .i64 s.kind, .int .i64 s.t, .string s.key, .string s.hi, .slice la s.cs.length lcap] 48)) wr.heap.size s.kind s.t s.key s.hi (.slice la s.cs.length lcap)) := heap_alloc_new wr _
        have hOk : Hid (∀ W w4 o, OAt W wr.heap.size s.kind s.t s.key s.hi (.slice la s.cs.length lcap) → Keeps (fun b => b ∈ x.foot ∨ b ∈ y.foot) (W.alloc o) w4 → OAt w4 wr.heap.size s.kind s.t s.key s.hi (.slice la s.cs.length lcap)) := fun W w4 o hO hK => by
          have hbl := lt_of_heap hO
          exact (hK.block _ (by simp; omega) (by rintro (hm | hm); exact absurd (T.pair.X.lt _ hm) (by omega); exact absurd (T.pair.Y.lt _ hm) (by omega))).trans ((heap_alloc_old _ _ hbl).trans hO)
        have hOc : Hid (∀ W, OAt W wr.heap.size s.kind s.t s.key s.hi (.slice la s.cs.length lcap) → W.cell? ⟨wr.heap.size, 0, none⟩ = some (.int .i64 s.kind) ∧ W.cell? ⟨wr.heap.size, 1, none⟩ = some (.int .i64 s.t) ∧ W.cell? ⟨wr.heap.size, 2, none⟩ = some (.string s.key) ∧ W.cell? ⟨wr.heap.size, 3, none⟩ = some (.string s.hi) ∧ W.cell? ⟨wr.heap.size, 4, none⟩ = some (.slice la s.cs.length lcap) ∧ wr.heap.size < W.heap.size) := fun W hO => ⟨by rw [cell_of_heap hO]; rfl, by rw [cell_of_heap hO]; rfl, by rw [cell_of_heap hO]; rfl, by rw [cell_of_heap hO]; rfl, by rw [cell_of_heap hO]; rfl, lt_of_heap hO⟩
        have hLx : Hid (∀ W h n' x' y', Two w W n' x' y' → x'.sb = B1 → (Lit.int .i64 h).wf = true → Calls Tryz.prog 23 #[.pointer (some ⟨B1, 0, none⟩), .int .i64 h] W fun e w' => e = .returned (.tuple #[.agg #[.int .i64 (y'.abs.lookR h).1.1, .bool (y'.abs.lookR h).1.2.1, .bool (y'.abs.lookR h).1.2.2.1, .int .i64 (y'.abs.lookR h).1.2.2.2.1, .int .i64 (y'.abs.lookR h).1.2.2.2.2], .int .i64 (y'.abs.lookR h).2]) ∧ Two w w' n' x' y') := fun W h n' x' y' T' hsb hw => by
          obtain ⟨M, F, S⟩ := T'.sim
          have := look_api T'.pair.X T'.pair.mx h hw
          rw [hsb, S.lookR h] at this
          exact this.mono fun e w' ⟨h1, h2⟩ => ⟨h1, { T' with pair := T'.pair.turnX h2 }⟩
        have hLy : Hid (∀ W h n' x' y', Two w W n' x' y' → y'.sb = B2 → (Lit.int .i64 h).wf = true → Calls Tryz.prog 23 #[.pointer (some ⟨B2, 0, none⟩), .int .i64 h] W fun e w' => e = .returned (.tuple #[.agg #[.int .i64 (y'.abs.lookR h).1.1, .bool (y'.abs.lookR h).1.2.1, .bool (y'.abs.lookR h).1.2.2.1, .int .i64 (y'.abs.lookR h).1.2.2.2.1, .int .i64 (y'.abs.lookR h).1.2.2.2.2], .int .i64 (y'.abs.lookR h).2]) ∧ Two w w' n' x' y' ∧ Keeps (fun b => b ∈ y'.foot) W w') := fun W h n' x' y' T' hsb hw => by
          have := look_api T'.pair.Y T'.pair.my h hw
          rw [hsb] at this
          exact this.mono fun e w' ⟨h1, h2⟩ => ⟨h1, { T' with pair := T'.pair.turnY h2 }, h2.keeps⟩
        generalize hA0 : y.hl.length = A at *
        generalize hT0 : y.abs.txs.length = TX at *
        generalize hR0 : y.abs.nReads = RD at *
        generalize hV0 : totV y.abs.vers = VR at *
        have w1 : IntKind.i64.wrap ((A : Int) + ((TX : Int) - (A : Int))) = (TX : Int) := by
          have : (A : Int) + ((TX : Int) - (A : Int)) = (TX : Int) := by omega
          rw [this]; simp [IntKind.wrap, IntKind.bits, IntKind.signed]; omega
        have HSo : Hid (StepOk w s) := hso
        have HTw : Hid (Two w wr k x y) := T
        have hst := hso.t
        generalize hB0 : y.abs.begun = BG at *
        have HSx : Hid (x.sb = B1) := HI.out.sx
        have HSy : Hid (y.sb = B2) := HI.out.sy
        have HBG : Hid (y.abs.begun = BG) := hB0
        clear T B hso hA0 hT0 hR0 hV0 hB0 hlv HOk hneq hg hqr
        have hAl : Hid (∀ W h, Two w W k x y → Room y → (Lit.int .i64 h).wf = true → Calls Tryz.prog 22 #[.pointer (some ⟨B1, 0, none⟩), .pointer (some ⟨B2, 0, none⟩), .int .i64 h, .agg #[.int .i64 s.kind, .int .i64 s.t, .string s.key, .string s.hi, .slice la s.cs.length lcap]] W (AlikeIs w W k x y s.kind)) := HAl
        clear HAl
        have hB2 : 0 ≤ BG ∧ BG < 2305843009213693952 := by omega
        have HLen : Hid (l.length ≤ 140737488355328) := hlen
        clear hbg hn hlen hk
        generalize s.kind = kd at *
        go_upto_if 61 with fail
        go_cut [10] from 43 to 156 (fun n wx => ∃ m : Int, n = .int .i64 m ∧ 0 ≤ m ∧ m < 9223372036854775808 ∧ wx = wr.alloc (.cells #[.int .i64 kd, .int .i64 s.t, .string s.key, .string s.hi, .slice la s.cs.length lcap] 48))
        case first =>
          clear HT hAl hRm hob hOk hOc hLx hLy
          by_cases hsg : s.t < 0
          · go_wp2
            go_meet
            exact ⟨-(s.t + 1), by go_num, by omega, by omega, rfl⟩
          · go_wp2
            go_meet
            exact ⟨s.t, rfl, by omega, by omega, rfl⟩
        case rest =>
        obtain ⟨m, rfl, hm0, hm1, rfl⟩ := hcut
        clear hst
        have hwf := wf_emod (a := m) (b := BG + 1) (by omega)
        go_upto_region 17 with (go_at_call 19; refine (HT.out _ (Keeps.alloc _ _)).mono ?_; rintro e w2 ⟨rfl, hT2, hO2⟩; have ho2 : Hid (OAt w2 wr.heap.size kd s.t s.key s.hi (.slice la s.cs.length lcap)) := hO2 hob.out; obtain ⟨q0, q1, q2, q3, q4, q5⟩ := hOc.out _ ho2.out; clear hO2)
        clear HT hob p0 p1 p2 p3 p4
        by_cases f1 : (TX : Int) = 32
        · clear hlt hAl hRm hOk hOc hLx hLy
          go_wp2
          go_ret
          exact ⟨rfl, Quiet.trans' hT2.out.pair.quiet (Keeps.alloc _ _)⟩
        by_cases f2 : (RD : Int) = 64
        · clear hlt hAl hRm hOk hOc hLx hLy
          go_wp2
          go_ret
          exact ⟨rfl, Quiet.trans' hT2.out.pair.quiet (Keeps.alloc _ _)⟩
        by_cases f3 : (128 : Int) < (VR : Int) + 16
        · clear hlt hAl hRm hOk hOc hLx hLy
          go_wp2
          go_ret
          exact ⟨rfl, Quiet.trans' hT2.out.pair.quiet (Keeps.alloc _ _)⟩
        go_upto_region 22 with (go_at_call 22; refine (hAl.out _ _ (hT2.out.still (Keeps.alloc _ _)) (hRm.out f1 f2 f3) hwf).mono ?_; rintro e w4 ⟨er, x', y', rfl, hk4, T4, hsx, hsy, hb1, hbn⟩; obtain ⟨r0, r1, r2, r3, r4, r5⟩ := hOc.out _ (hOk.out _ _ _ ho2.out hk4); have hT4 : Hid (Two w w4 (k + 1) x' y') := T4; have hY4 : Hid (x'.sb = B1 ∧ y'.sb = B2 ∧ (kd = 1 → er = 0 ∧ y'.abs.begun = BG + 1) ∧ (kd ≠ 1 → y'.abs.begun = BG)) := ⟨hsx.trans HSx.out, hsy.trans HSy.out, fun hk => ⟨(hb1 hk).1, (hb1 hk).2.trans (by rw [HBG.out])⟩, fun hk => (hbn hk).trans HBG.out⟩; clear T4 hsx hsy hb1 hbn hk4)
        · go_ret
          exact ⟨rfl, Quiet.trans' hT2.out.pair.quiet (Keeps.alloc _ _)⟩
        clear hAl hRm hOk hOc f1 f2 f3 q0 q1 q2 q3 q4 q5 hm0 hm1 w1
        go_cut [104] from 43 to 156 (fun c wx => ∃ cb : Bool, c = .bool cb ∧ Hid (y'.abs.begun = if cb then BG + 1 else BG) ∧ wx = w4)
        case first =>
          by_cases hk1 : kd = 1
          · obtain ⟨rfl, hbe⟩ := hY4.out.2.2.1 hk1
            have HB : Hid (y'.abs.begun = BG + 1) := hbe
            clear hbe hLx hLy
            subst hk1
            go_wp2
            go_meet
            exact ⟨true, rfl, HB.out, rfl⟩
          · have HB : Hid (y'.abs.begun = BG) := hY4.out.2.2.2 hk1
            clear hLx hLy
            go_wp2
            go_meet
            exact ⟨false, rfl, HB.out, rfl⟩
        case rest =>
        obtain ⟨cb, rfl, HB, hwc⟩ := hcut
        have hwc := hwc.symm
        subst hwc
        generalize hb' : y'.abs.begun = BG' at *
        go_upto_if 104 with fail
        go_cut [7] from 43 to 156 (fun b wx => b = .int .i64 BG' ∧ wx = w4)
        case first =>
          clear hLx hLy
          cases cb with
          | true =>
            have e1 : BG' = BG + 1 := HB.out
            clear HB
            go_wp2
            go_meet
            exact ⟨by rw [e1], rfl⟩
          | false =>
            have e1 : BG' = BG := HB.out
            clear HB
            go_wp2
            go_meet
            exact ⟨by rw [e1], rfl⟩
        case rest =>
        obtain ⟨rfl, hwc⟩ := hcut
        have hwc := hwc.symm
        subst hwc
        have HG : Hid (y'.abs.begun = BG') := hb'
        clear hb' r0 r1 r2 r3 r4 r5
        go_wp2_with (first
          | (go_at_call_of 23 (Value.pointer (some ⟨B1, 0, none⟩)); refine (hLx.out _ _ _ _ _ hT4.out hY4.out.1 hwf).mono ?_; rintro e w5 ⟨rfl, T5⟩; have hT5 : Hid (Two w w5 (k + 1) x' y') := T5; clear T5)
          | (go_at_call_of 23 (Value.pointer (some ⟨B2, 0, none⟩)); refine (hLy.out _ _ _ _ _ (hT5.out.still (Keeps.alloc _ _)) hY4.out.2.1 hwf).mono ?_; rintro e w6 ⟨rfl, T6, hk6⟩; have hT6 : Hid (Two w w6 (k + 1) x' y') := T6; have hab := fresh_kept hT5.out hk6; have a0 := cell_of_heap (i := 0) hab; have a1 := cell_of_heap (i := 1) hab; have a2 := cell_of_heap (i := 2) hab; have a3 := cell_of_heap (i := 3) hab; have a4 := cell_of_heap (i := 4) hab; have hl6 := lt_of_heap hab; simp at a0 a1 a2 a3 a4; clear T6 hk6 hab))
        have hle := HLen.out
        have hwk : wrap64 ((k : Int) + 1) = (k : Int) + 1 := by unfold wrap64; omega
        rw [hwk]
        exact ⟨⟨k + 1, x', y', by go_num, by rw [HG.out], by omega, ⟨hT6.out.still (Keeps.alloc _ _), hY4.out.1, hY4.out.2.1⟩⟩, by simp [intOf]; omega⟩
    · have hge : ¬ (k : Int) < (l.length : Int) := by omega
      clear hc hI0 hbg0
      go_wp2
      go_ret
      exact ⟨rfl, hqr⟩

end Go.Proofs.YthfimgeopciiiaaGreat
