/-
  The document's own store: Commit.
-/
import Derived.Test.YthfimgeopciiiaaGreatPlayG
import Derived.Test.YthfimgeopciiiaaGreatPlayD
namespace Go.Proofs.YthfimgeopciiiaaGreat
open Go.MapKept Go.ChangeMaps Go.Maps Go.RowKit Go.MuLone
set_option linter.unusedVariables false
attribute [local go_sem ↓ high] append_heldR append_eqR

section
variable {w w' W : World} {base : Nat} {m : MRef} {i : Nat} {k : RTx} {g cap : Nat} {wa : Option Addr} {wc : Nat} {ra : Option Addr} {rc : Nat}

/-- it has committed, in memory, but for the versions -/
def MRef.comm1 (m : MRef) (i : Nat) (k : RTx) (wv rv : Value) : MRef := { m with clock := m.clock + 1, txs := m.txs.set i ⟨{ k with st := 1, cm := m.clock + 1 }, wv, rv⟩ }

theorem RefIn.txG (H : RefIn W base m) {x : MRTx} (hx : m.txs[i]? = some x) (ho : m.tv.ownBlock = some g) : ∃ cap wa wc ra rc, TxAt W m i x.r g cap wa wc ra rc := by
  obtain ⟨g', cap', wa', wc', ra', rc', T⟩ := H.tx (i := i) (r := x.r) (by show (m.txs.map _)[i]? = _; rw [List.getElem?_map, hx]; rfl)
  obtain rfl : g' = g := by have := T.ho; rw [ho] at this; exact (Option.some.inj this).symm
  exact ⟨cap', wa', wc', ra', rc', T⟩

structure CommS (W : World) (base : Nat) (m : MRef) (i : Nat) (k : RTx) (g cap : Nat) (wv rv : Value) : Prop where
  a4 : W.cell? ⟨m.sb, 4, none⟩ = some (.int .i64 m.clock)
  f4 : W.frozen? ⟨m.sb, 4, none⟩ = false
  b5 : (W.setCell ⟨m.sb, 4, none⟩ (.int .i64 (m.clock + 1))).cell? ⟨m.sb, 5, none⟩ = some (.slice (some ⟨g, 0, none⟩) m.txs.length cap)
  b2 : (W.setCell ⟨m.sb, 4, none⟩ (.int .i64 (m.clock + 1))).cell? ⟨g, i * 7 + 2, none⟩ = some (.int .i64 k.st)
  g2 : (W.setCell ⟨m.sb, 4, none⟩ (.int .i64 (m.clock + 1))).frozen? ⟨g, i * 7 + 2, none⟩ = false
  d5 : ((W.setCell ⟨m.sb, 4, none⟩ (.int .i64 (m.clock + 1))).setCell ⟨g, i * 7 + 2, none⟩ (.int .i64 1)).cell? ⟨m.sb, 5, none⟩ = some (.slice (some ⟨g, 0, none⟩) m.txs.length cap)
  d4 : ((W.setCell ⟨m.sb, 4, none⟩ (.int .i64 (m.clock + 1))).setCell ⟨g, i * 7 + 2, none⟩ (.int .i64 1)).cell? ⟨m.sb, 4, none⟩ = some (.int .i64 (m.clock + 1))
  d1 : ((W.setCell ⟨m.sb, 4, none⟩ (.int .i64 (m.clock + 1))).setCell ⟨g, i * 7 + 2, none⟩ (.int .i64 1)).cell? ⟨g, i * 7 + 1, none⟩ = some (.int .i64 k.cm)
  h1 : ((W.setCell ⟨m.sb, 4, none⟩ (.int .i64 (m.clock + 1))).setCell ⟨g, i * 7 + 2, none⟩ (.int .i64 1)).frozen? ⟨g, i * 7 + 1, none⟩ = false
  is : RefIn (((W.setCell ⟨m.sb, 4, none⟩ (.int .i64 (m.clock + 1))).setCell ⟨g, i * 7 + 2, none⟩ (.int .i64 1)).setCell ⟨g, i * 7 + 1, none⟩ (.int .i64 (m.clock + 1))) base (m.comm1 i k wv rv)
  turn : RTurn W (((W.setCell ⟨m.sb, 4, none⟩ (.int .i64 (m.clock + 1))).setCell ⟨g, i * 7 + 2, none⟩ (.int .i64 1)).setCell ⟨g, i * 7 + 1, none⟩ (.int .i64 (m.clock + 1))) m (m.comm1 i k wv rv)

theorem RefIn.commS (H : RefIn W base m) (T : TxAt W m i k g cap wa wc ra rc) : CommS W base m i k g cap (.slice wa k.wr.length wc) (.slice ra k.rd.length rc) := by
  have ha : W.cell? ⟨m.sb, 4, none⟩ = some (.int .i64 m.clock) ∧ W.frozen? ⟨m.sb, 4, none⟩ = false := by obtain ⟨tag, h⟩ := H; exact ⟨h.cell.2.2.2.2.1, h.frz 4⟩
  obtain ⟨H1, t1⟩ := H.setClockM (m.clock + 1)
  have hT1 : ({ m with clock := m.clock + 1 } : MRef).txs[i]? = some ⟨k, .slice wa k.wr.length wc, .slice ra k.rd.length rc⟩ := T.at_
  obtain ⟨cap1, wa1, wc1, ra1, rc1, T1⟩ := H1.txG hT1 T.ho
  obtain rfl : cap1 = cap := by have := T1.tv.symm.trans T.tv; simpa using this
  obtain ⟨H2, t2⟩ := H1.setM (j := 2) (u := .int .i64 1) hT1 T.ho (by omega) { k with st := 1 } rfl rfl rfl
  have hi1 : i < ({ m with clock := m.clock + 1 } : MRef).txs.length := T.hi
  have hT2 : ({ m with clock := m.clock + 1, txs := m.txs.set i ⟨{ k with st := 1 }, .slice wa k.wr.length wc, .slice ra k.rd.length rc⟩ } : MRef).txs[i]? = some ⟨{ k with st := 1 }, .slice wa k.wr.length wc, .slice ra k.rd.length rc⟩ := by
    show (m.txs.set i _)[i]? = _
    rw [List.getElem?_set, if_pos rfl, if_pos T.hi]
  obtain ⟨cap2, wa2, wc2, ra2, rc2, T2⟩ := H2.txG hT2 T.ho
  obtain rfl : cap2 = cap1 := by
    have := T2.tv.symm.trans T.tv
    have e : (m.txs.set i (⟨{ k with st := 1 }, .slice wa k.wr.length wc, .slice ra k.rd.length rc⟩ : MRTx)).length = m.txs.length := List.length_set ..
    simp at this
    exact this
  obtain ⟨H3, t3⟩ := H2.setM (j := 1) (u := .int .i64 (m.clock + 1)) hT2 T.ho (by omega) { k with st := 1, cm := m.clock + 1 } rfl rfl rfl
  have e5 := T2.c5
  have el : ({ m with clock := m.clock + 1, txs := m.txs.set i ⟨{ k with st := 1 }, .slice wa k.wr.length wc, .slice ra k.rd.length rc⟩ } : MRef).txs.length = m.txs.length := by show (m.txs.set i _).length = _; rw [List.length_set]
  rw [el] at e5
  have hset : (m.txs.set i ⟨{ k with st := 1 }, .slice wa k.wr.length wc, .slice ra k.rd.length rc⟩).set i ⟨{ k with st := 1, cm := m.clock + 1 }, .slice wa k.wr.length wc, .slice ra k.rd.length rc⟩ = m.txs.set i ⟨{ k with st := 1, cm := m.clock + 1 }, .slice wa k.wr.length wc, .slice ra k.rd.length rc⟩ := List.set_set ..
  have d4 : ((W.setCell ⟨m.sb, 4, none⟩ (.int .i64 (m.clock + 1))).setCell ⟨g, i * 7 + 2, none⟩ (.int .i64 1)).cell? ⟨m.sb, 4, none⟩ = some (.int .i64 (m.clock + 1)) := by obtain ⟨tag, h⟩ := H2; exact h.cell.2.2.2.2.1
  refine ⟨ha.1, ha.2, T1.c5, T1.p2, T1.fz _, e5, d4, T2.p1, T2.fz _, ?_, ?_⟩
  · unfold MRef.comm1; rw [← hset]; exact H3
  · unfold MRef.comm1; rw [← hset]; exact (t1.trans t2).trans t3

/-- behind some of the versions -/
structure CommI (W wr : World) (base : Nat) (m m1 : MRef) (k : RTx) (n : Nat) (m' : MRef) : Prop where
  is : RefIn wr base m'
  turn : RTurn W wr m m'
  eq : ∃ vv, m' = { m1 with vv := vv, vers := m1.vers ++ (k.wr.take n).map fun p => (p.1, (m1.clock, p.2)) }

theorem comm1_rs (hh : m.rs.hsOk) (hi : m.rs.txs[i]? = some k) (wv rv vv : Value) (hx : m.txs[i]? = some ⟨k, wv, rv⟩) : ({ m.comm1 i k wv rv with vv := vv, vers := m.vers ++ k.wr.map fun p => (p.1, (m.clock + 1, p.2)) } : MRef).rs = m.rs.comm k := by
  unfold MRef.rs MRef.comm1 RSt.comm
  simp only
  congr 1
  refine map_set_if (fun x : MRTx => x.r) (commRX (m.clock + 1) k.h) (fun _ => True) m.txs i _ _ hx ?_ (fun j z hz hne => ?_)
  · unfold commRX; rw [if_pos rfl]
  · unfold commRX; rw [if_neg (by rw [hsOk_iff hh j z hz, hh i k hi]; omega)]

set_option maxRecDepth 100000 in
set_option maxHeartbeats 1000000 in
theorem rCommit_no (H : RefIn w base m) (hlen : m.txs.length ≤ 1099511627776) (h : Int) (ha : m.actB h = false) :
    Calls Tryz.prog 126 #[.pointer (some ⟨m.sb, 0, none⟩), .int .i64 h] w fun e w' => e = .returned (.int .i64 2) ∧ w' = w := by
  have HA := H.active hlen h
  rw [ha] at HA
  have HA := hidC HA
  clear H ha
  go_enter Tryz.func126, Tryz.ntmps126
  go_wp2_with (go_at_call 114; refine HA.out.mono ?_; rintro e w1 ⟨rfl, rfl⟩)
  go_ret
  exact ⟨rfl, rfl⟩

set_option maxRecDepth 100000 in
set_option maxHeartbeats 10000000 in
theorem rCommit_yes (H : RefIn w base m) {B : Int} (Bd : RBd m.rs B) (hlen : m.txs.length ≤ 1099511627776) (hv : m.vers.length ≤ 1048576) (hck : 0 ≤ m.clock ∧ m.clock ≤ 1152921504606846976) (hi : m.rs.txs[i]? = some k) (h0 : k.st = 0) :
    Calls Tryz.prog 126 #[.pointer (some ⟨m.sb, 0, none⟩), .int .i64 ((i : Int) + 1)] w fun e w' => e = .returned (.int .i64 (m.rs.commR k).1) ∧ RLeft w w' base m (m.rs.commR k).2 := by
  obtain ⟨g, cap, wa, wc, ra, rc, T⟩ := H.tx hi
  have hkh := Bd.hs i k hi
  have hil0 := T.hi
  have hwl := Bd.wl k (List.mem_of_getElem? hi)
  have HA := H.active hlen ((i : Int) + 1)
  rw [actB_yes hi h0] at HA
  have HA := hidC HA
  have HL : Hid (∀ wr, Quiet w wr → RLeft w wr base m m.rs) := fun wr q => H.left q
  have HAb : Hid (∀ wr, Quiet w wr → Calls Tryz.prog 182 #[.pointer (some ⟨m.sb, 0, none⟩), .int .i64 ((i : Int) + 1)] wr fun e w' => e = .returned (.tuple #[]) ∧ RLeft w w' base m (m.rs.abort ((i : Int) + 1))) := fun wr q => ((H.quiet q).abort Bd.hs hlen hi).mono fun e w' ⟨h1, h2⟩ => ⟨h1, RLeft.before q h2⟩
  have HCS : Hid (∀ wr, Quiet w wr → CommS wr base m i k g cap (.slice wa k.wr.length wc) (.slice ra k.rd.length rc)) := fun wr q => (H.quiet q).commS (T.quiet q)
  have HCell : Hid (∀ wr, Quiet w wr → wr.cell? ⟨m.sb, 3, none⟩ = some (.int .i64 m.c4) ∧ ∃ va vc, wr.cell? ⟨m.sb, 6, none⟩ = some (.slice va m.vers.length vc)) := fun wr q => by
    obtain ⟨tag, H1⟩ := H.quiet q
    obtain ⟨va, vc, ev, -⟩ := H1.versAt
    exact ⟨H1.cell.2.2.2.1, va, vc, by rw [← ev]; exact H1.cell.2.2.2.2.2.2⟩
  have hml : ∀ b, m.has b → b < w.heap.size := fun b hb => (H.lt hb).2
  have HRs := hidC' (fun vv => comm1_rs Bd.hs hi (.slice wa k.wr.length wc) (.slice ra k.rd.length rc) vv T.at_)
  generalize hRR : m.rs.commR k = RR
  have HRR : Hid (RR = if (decide (0 < k.i) && decide (0 < k.o)) = true then (8, m.rs.abort k.h) else if m.c4 < (m.vers.length : Int) + k.wr.length then (6, m.rs) else (0, m.rs.comm k)) := hidC' hRR.symm
  have c5 := T.c5
  have p0 := T.p0
  have p1 := T.p1
  have p2 := T.p2
  have p3 := T.p3
  have p4 := T.p4
  have p5 := T.p5
  have p6 := T.p6
  have hsb := T.hsb
  have hgl := T.hg
  have hat := hidC' T.at_
  clear hRR T Bd hi h0 H
  by_cases hu : 0 < k.i ∧ 0 < k.o
  · obtain ⟨hu, ho⟩ := hu
    have HN : Hid (RR = (8, m.rs.abort ((i : Int) + 1))) := hidC' (by rw [HRR.out, if_pos (by simp [hu, ho]), hkh])
    have HAq := hidC (HAb.out (w.alloc (.cells #[.int .i64 k.bg, .int .i64 k.cm, .int .i64 k.st, .int .i64 k.i, .int .i64 k.o, .slice wa k.wr.length wc, .slice ra k.rd.length rc] 197)) (Keeps.alloc _ _))
    clear HRR HCS HCell HRs HL HAb
    go_enter Tryz.func126, Tryz.ntmps126
    go_wp2_with (first
      | (go_at_call 114; refine HA.out.mono ?_; rintro e w1 ⟨rfl, rfl⟩)
      | (go_at_call 182; refine HAq.out.mono ?_; rintro e w2 ⟨rfl, hL⟩))
    go_ret
    rw [HN.out]; exact ⟨rfl, hL⟩
  have HR2 : Hid (RR = if m.c4 < (m.vers.length : Int) + k.wr.length then (6, m.rs) else (0, m.rs.comm k)) := hidC' (by
    rw [HRR.out, if_neg]
    intro h
    simp at h
    exact hu h)
  have hgd : (¬ 0 < k.i) ∨ (0 < k.i ∧ ¬ 0 < k.o) := by omega
  clear HRR HAb hu
  by_cases hfull : m.c4 < (m.vers.length : Int) + k.wr.length
  · have HN : Hid (RR = (6, m.rs)) := hidC' (by rw [HR2.out, if_pos hfull])
    clear HR2 HCS HRs
    rcases hgd with hgi | ⟨hgi, hgo⟩
    all_goals
      go_enter Tryz.func126, Tryz.ntmps126
      go_wp2_with (go_at_call 114; refine HA.out.mono ?_; rintro e w1 ⟨rfl, rfl⟩)
      have hqb : Quiet w1 (w1.alloc (.cells #[.int .i64 k.bg, .int .i64 k.cm, .int .i64 k.st, .int .i64 k.i, .int .i64 k.o, .slice wa k.wr.length wc, .slice ra k.rd.length rc] 197)) := Keeps.alloc _ _
      have s5 : (w1.alloc (.cells #[.int .i64 k.bg, .int .i64 k.cm, .int .i64 k.st, .int .i64 k.i, .int .i64 k.o, .slice wa k.wr.length wc, .slice ra k.rd.length rc] 197)).cell? ⟨w1.heap.size, 5, none⟩ = some (.slice wa k.wr.length wc) := by rw [cell_of_heap (heap_alloc_new _ _)]; rfl
      generalize (w1.alloc (.cells #[.int .i64 k.bg, .int .i64 k.cm, .int .i64 k.st, .int .i64 k.i, .int .i64 k.o, .slice wa k.wr.length wc, .slice ra k.rd.length rc] 197)) = WB at *
      obtain ⟨e3, va, vc, e6⟩ := HCell.out _ hqb
      clear c5 p0 p1 p2 p3 p4 p5 p6 HCell
      go_quiet (fail)
      go_wp2
      go_ret
      rw [HN.out]; exact ⟨rfl, HL.out _ (Quiet.trans' hqb (quiet_drewN _ _))⟩
  · have HN : Hid (RR = (0, m.rs.comm k)) := hidC' (by rw [HR2.out, if_neg hfull])
    clear HR2 HL
    rcases hgd with hgi | ⟨hgi, hgo⟩
    all_goals
      go_enter Tryz.func126, Tryz.ntmps126
      go_wp2_with (go_at_call 114; refine HA.out.mono ?_; rintro e w1 ⟨rfl, rfl⟩)
      have hqb : Quiet w1 (w1.alloc (.cells #[.int .i64 k.bg, .int .i64 k.cm, .int .i64 k.st, .int .i64 k.i, .int .i64 k.o, .slice wa k.wr.length wc, .slice ra k.rd.length rc] 197)) := Keeps.alloc _ _
      have s5 : (w1.alloc (.cells #[.int .i64 k.bg, .int .i64 k.cm, .int .i64 k.st, .int .i64 k.i, .int .i64 k.o, .slice wa k.wr.length wc, .slice ra k.rd.length rc] 197)).cell? ⟨w1.heap.size, 5, none⟩ = some (.slice wa k.wr.length wc) := by rw [cell_of_heap (heap_alloc_new _ _)]; rfl
      have hsB : w1.heap.size < (w1.alloc (.cells #[.int .i64 k.bg, .int .i64 k.cm, .int .i64 k.st, .int .i64 k.i, .int .i64 k.o, .slice wa k.wr.length wc, .slice ra k.rd.length rc] 197)).heap.size := by simp
      generalize (w1.alloc (.cells #[.int .i64 k.bg, .int .i64 k.cm, .int .i64 k.st, .int .i64 k.i, .int .i64 k.o, .slice wa k.wr.length wc, .slice ra k.rd.length rc] 197)) = WB at *
      obtain ⟨e3, va, vc, e6⟩ := HCell.out _ hqb
      clear c5 p0 p1 p2 p3 p4 p5 p6 HCell HA
      go_quiet (fail)
      have hqc : Quiet w1 (WB.drewN nq) := Quiet.trans' hqb (quiet_drewN _ _)
      have s5' : (WB.drewN nq).cell? ⟨w1.heap.size, 5, none⟩ = some (.slice wa k.wr.length wc) := ((quiet_drewN WB nq).cell hsB (by simp)).trans s5
      have hsC : w1.heap.size < (WB.drewN nq).heap.size := Nat.lt_of_lt_of_le hsB (quiet_drewN WB nq).size
      clear s5 hsB hqb e3 e6
      generalize WB.drewN nq = WC at *
      have C := HCS.out _ hqc
      have a4 := C.a4
      have f4 := C.f4
      have b5 := C.b5
      have b2 := C.b2
      have g2 := C.g2
      have d5 := C.d5
      have d4 := C.d4
      have d1 := C.d1
      have h1 := C.h1
      have hib : (i : Int) < (m.txs.length : Int) := by omega
      have HC0 := hidC' C
      clear C HCS
      go_wp2
      go_region
      have HI0 : Hid (CommI WC ((((WC.setCell ⟨m.sb, 4, none⟩ (.int .i64 (m.clock + 1))).setCell ⟨g, i * 7 + 2, none⟩ (.int .i64 1)).setCell ⟨g, i * 7 + 1, none⟩ (.int .i64 (m.clock + 1))).drew) base m (m.comm1 i k (.slice wa k.wr.length wc) (.slice ra k.rd.length rc)) k 0 (m.comm1 i k (.slice wa k.wr.length wc) (.slice ra k.rd.length rc))) := ⟨HC0.out.is.quiet (Keeps.drew _), HC0.out.turn.trans (RTurn.quiet _ (Keeps.drew _)), ⟨m.vv, by simp [MRef.comm1]⟩⟩
      clear a4 f4 b5 b2 g2 d5 d4 d1 h1 HC0
      generalize (((WC.setCell ⟨m.sb, 4, none⟩ (.int .i64 (m.clock + 1))).setCell ⟨g, i * 7 + 2, none⟩ (.int .i64 1)).setCell ⟨g, i * 7 + 1, none⟩ (.int .i64 (m.clock + 1))).drew = WD at *
      have HSt : Hid (∀ wx m' n, CommI WC wx base m (m.comm1 i k (.slice wa k.wr.length wc) (.slice ra k.rd.length rc)) k n m' → n ≤ k.wr.length → wx.cell? ⟨w1.heap.size, 5, none⟩ = some (.slice wa k.wr.length wc) ∧ w1.heap.size < wx.heap.size ∧ m.sb < wx.heap.size ∧ wx.cell? ⟨m.sb, 4, none⟩ = some (.int .i64 (m.clock + 1)) ∧
          ∀ p, k.wr[n]? = some p → ∃ gw, wa = some ⟨gw, 0, none⟩ ∧ gw < wx.heap.size ∧ wx.cell? ⟨gw, n * 3, none⟩ = some (.string p.1) ∧ wx.cell? ⟨gw, n * 3 + 1, none⟩ = some (.string p.2.1) ∧ wx.cell? ⟨gw, n * 3 + 2, none⟩ = some (.bool p.2.2) ∧
            ∃ a cap a5 c5 W5 m'', wx.cell? ⟨m.sb, 6, none⟩ = some (.slice a (m.vers.length + n) cap) ∧ (heldAppendR #[156, 156] 156 #[.slice a (m.vers.length + n) cap, .slice (some ⟨wx.heap.size, 0, none⟩) 1 1]).run Tryz.prog (wx.alloc (.cells #[.int .i64 (m.clock + 1), .string p.1, .string p.2.1, .bool p.2.2] 209)).drew = .ok (.slice a5 (m.vers.length + n + 1) c5) W5 ∧ W5.cell? ⟨m.sb, 6, none⟩ = some (.slice a (m.vers.length + n) cap) ∧ W5.frozen? ⟨m.sb, 6, none⟩ = false ∧
              CommI WC (W5.setCell ⟨m.sb, 6, none⟩ (.slice a5 (m.vers.length + n + 1) c5)) base m (m.comm1 i k (.slice wa k.wr.length wc) (.slice ra k.rd.length rc)) k (n + 1) m'') := fun wx m' n M hn => by
        obtain ⟨vv, em⟩ := M.eq
        have hsb' : m'.sb = m.sb := M.turn.sb
        have hck' : m'.clock = m.clock + 1 := by rw [em]; rfl
        have htx : m'.txs = m.txs.set i ⟨{ k with st := 1, cm := m.clock + 1 }, .slice wa k.wr.length wc, .slice ra k.rd.length rc⟩ := by rw [em]; rfl
        have hxi : m'.txs[i]? = some ⟨{ k with st := 1, cm := m.clock + 1 }, .slice wa k.wr.length wc, .slice ra k.rd.length rc⟩ := by rw [htx, List.getElem?_set, if_pos rfl, if_pos hil0]
        have hve : m'.vers = m.vers ++ (k.wr.take n).map fun p => (p.1, (m.clock + 1, p.2)) := by rw [em]; rfl
        have hvl : m'.vers.length = m.vers.length + n := by rw [hve, List.length_append, List.length_map, List.length_take]; omega
        have hnm : ¬ m.has w1.heap.size := fun h => by have := hml _ h; omega
        have hsz := M.turn.keeps.size
        have hIs := M.is
        obtain ⟨tag, H1⟩ := M.is
        have hsw : m.sb < wx.heap.size := by rw [← hsb']; exact lt_of_heap H1.own
        refine ⟨?_, by omega, hsw, by rw [← hsb', ← hck']; exact H1.cell.2.2.2.2.1, fun p hp => ?_⟩
        · exact (World.cell?_of_block (a := ⟨w1.heap.size, 5, none⟩) (M.turn.keeps.block _ hsC hnm)).trans s5'
        · obtain ⟨a', cap', e', hrow⟩ := row_at chgCells chgCells_len (H1.wr i _ hxi)
          have e2 : wa = a' := by have e3 : Value.slice wa k.wr.length wc = .slice a' k.wr.length cap' := e'; simpa using (Value.slice.inj e3).1
          rcases hrow with h0' | ⟨gw, rfl, -, -, hgw, -, hcell⟩
          · have : k.wr = [] := h0'
            rw [this] at hp; simp at hp
          obtain ⟨a, cap, a5, c5, W5, P⟩ := hIs.pushV (p.1, (m.clock + 1, p.2)) (by omega)
          have q6 := P.c6
          have qa := P.app
          have qc := P.cell
          have qf := P.frz
          have qi := P.is
          have qt := P.turn
          rw [hsb', hvl] at q6 qc
          rw [hvl] at qa
          rw [hsb'] at qf
          rw [hsb', hvl] at qi qt
          refine ⟨gw, e2, hgw, hcell n p hp 0 (by omega), hcell n p hp 1 (by omega), hcell n p hp 2 (by omega), a, cap, a5, c5, W5, _, q6, qa, qc, qf, ⟨qi, M.turn.trans qt, ⟨.slice a5 (m.vers.length + n + 1) c5, ?_⟩⟩⟩
          rw [hve, ← hsb', em, take_succ_of hp, List.map_append, ← List.append_assoc]
          rfl
      have HFin : Hid (∀ wx m', CommI WC wx base m (m.comm1 i k (.slice wa k.wr.length wc) (.slice ra k.rd.length rc)) k k.wr.length m' → RLeft w1 wx base m RR.2) := fun wx m' M => by
        obtain ⟨vv, em⟩ := M.eq
        refine ⟨m', M.is, (RTurn.quiet m hqc).trans M.turn, ?_⟩
        rw [em, List.take_length, HN.out]
        exact HRs.out vv
      have HRz : Hid (RR.1 = 0) := hidC' (by rw [HN.out])
      generalize hM1 : m.comm1 i k (.slice wa k.wr.length wc) (.slice ra k.rd.length rc) = m1 at *
      clear hM1 s5' HN HRs
      go_wp2
      go_loopw [7] (fun jj wr => ∃ (n : Nat) (m' : MRef), jj = .int .i64 n ∧ n ≤ k.wr.length ∧ Hid (CommI WC wr base m m1 k n m')) (fun jj _ => k.wr.length - (intOf jj).toNat)
      case atStart => exact ⟨0, _, rfl, Nat.zero_le _, HI0⟩
      case round =>
        obtain ⟨n, m', rfl, hn, HM⟩ := hrel
        obtain ⟨s5, z0, z1, z4, hst⟩ := HSt.out _ _ _ HM.out hn
        by_cases hlt : n < k.wr.length
        · have hlt' : (n : Int) < (k.wr.length : Int) := by omega
          obtain ⟨p, hp⟩ : ∃ p, k.wr[n]? = some p := ⟨_, List.getElem?_eq_getElem hlt⟩
          obtain ⟨gw, rfl, hgw, l0, l1, l2, a, cap, a5, c5, W5, m'', q6, happ, qc, qf, hM2⟩ := hst p hp
          have HM2 := hidC' hM2
          have y0 := Nat.ne_of_lt z0
          have y1 := Nat.ne_of_lt z1
          have y2 := Nat.ne_of_lt hgw
          generalize hvn : m.vers.length + n = VN at *
          clear hst hM2 HSt HFin HRz HI0 HM hp
          go_wp2
          go_region
          go_wp2
          exact ⟨⟨n + 1, m'', by go_num, by omega, HM2⟩, by simp [intOf]; omega⟩
        · have hge : ¬ (n : Int) < (k.wr.length : Int) := by omega
          have hne : n = k.wr.length := by omega
          subst hne
          have HL5 := hidC' (HFin.out _ _ HM.out)
          clear hst HSt HFin HI0 HM
          go_wp2
          go_ret
          exact ⟨by rw [HRz.out]; rfl, HL5.out⟩

end
end Go.Proofs.YthfimgeopciiiaaGreat

/-
  The document's own store: Look, New.
-/
namespace Go.Proofs.YthfimgeopciiiaaGreat
open Go.MapKept Go.ChangeMaps Go.Maps Go.RowKit Go.MuLone
set_option linter.unusedVariables false

section
variable {w w' : World} {base : Nat} {m : MRef} {i : Nat} {k : RTx}

set_option maxRecDepth 100000 in
set_option maxHeartbeats 1000000 in
theorem rLook_no (H : RefIn w base m) (hlen : m.txs.length ≤ 1099511627776) (h : Int) (ha : m.actB h = false) :
    Calls Tryz.prog 128 #[.pointer (some ⟨m.sb, 0, none⟩), .int .i64 h] w fun e w' => e = .returned (.tuple #[.agg #[.int .i64 0, .bool false, .bool false, .int .i64 0, .int .i64 0], .int .i64 2]) ∧ Quiet w w' := by
  have hq0 : Quiet w (w.alloc (.cells #[.int .i64 0, .bool false, .bool false, .int .i64 0, .int .i64 0] 57)) := Keeps.alloc _ _
  have HA := (H.quiet hq0).active hlen h
  rw [ha] at HA
  have HA := hidC HA
  have hb0 : (w.alloc (.cells #[.int .i64 0, .bool false, .bool false, .int .i64 0, .int .i64 0] 57)).heap[w.heap.size]? = some (.cells #[.int .i64 0, .bool false, .bool false, .int .i64 0, .int .i64 0] 57) := heap_alloc_new _ _
  clear H ha
  go_enter Tryz.func128, Tryz.ntmps128
  go_wp2_with (go_at_call 114; refine HA.out.mono ?_; rintro e w1 ⟨rfl, rfl⟩)
  have hbz := hb0
  have hqz := hq0
  clear hb0 hq0 HA
  generalize w.alloc (.cells #[.int .i64 0, .bool false, .bool false, .int .i64 0, .int .i64 0] 57) = WZ at *
  have e0 : WZ.cell? ⟨w.heap.size, 0, none⟩ = some (.int .i64 0) := by rw [cell_of_heap hbz]; rfl
  have e1 : WZ.cell? ⟨w.heap.size, 1, none⟩ = some (.bool false) := by rw [cell_of_heap hbz]; rfl
  have e2 : WZ.cell? ⟨w.heap.size, 2, none⟩ = some (.bool false) := by rw [cell_of_heap hbz]; rfl
  have e3 : WZ.cell? ⟨w.heap.size, 3, none⟩ = some (.int .i64 0) := by rw [cell_of_heap hbz]; rfl
  have e4 : WZ.cell? ⟨w.heap.size, 4, none⟩ = some (.int .i64 0) := by rw [cell_of_heap hbz]; rfl
  exact bodyPost_ret (v := .tuple #[.agg #[.int .i64 0, .bool false, .bool false, .int .i64 0, .int .i64 0], .int .i64 2]) (by simp [results, Tryz.results128, go_sem, e0, e1, e2, e3, e4]) rfl ⟨rfl, hqz⟩

set_option maxRecDepth 100000 in
set_option maxHeartbeats 1000000 in
theorem rLook_yes (H : RefIn w base m) (hlen : m.txs.length ≤ 1099511627776) (hi : m.rs.txs[i]? = some k) (h0 : k.st = 0) :
    Calls Tryz.prog 128 #[.pointer (some ⟨m.sb, 0, none⟩), .int .i64 ((i : Int) + 1)] w fun e w' => e = .returned (.tuple #[.agg #[.int .i64 k.bg, .bool (decide (0 < k.i)), .bool (decide (0 < k.o)), .int .i64 k.rd.length, .int .i64 k.wr.length], .int .i64 0]) ∧ Quiet w w' := by
  have hq0 : Quiet w (w.alloc (.cells #[.int .i64 0, .bool false, .bool false, .int .i64 0, .int .i64 0] 57)) := Keeps.alloc _ _
  obtain ⟨g, cap, wa, wc, ra, rc, T⟩ := (H.quiet hq0).tx hi
  have HA := (H.quiet hq0).active hlen ((i : Int) + 1)
  rw [actB_yes hi h0] at HA
  have HA := hidC HA
  have hil0 := T.hi
  have c5 := T.c5
  have p0 := T.p0
  have p1 := T.p1
  have p2 := T.p2
  have p3 := T.p3
  have p4 := T.p4
  have p5 := T.p5
  have p6 := T.p6
  have hsb := T.hsb
  have hgl := T.hg
  clear T H hi h0
  go_enter Tryz.func128, Tryz.ntmps128
  go_wp2_with (go_at_call 114; refine HA.out.mono ?_; rintro e w1 ⟨rfl, rfl⟩)
  have hqz : Quiet w ((w.alloc (.cells #[.int .i64 k.bg, .bool (decide (0 < k.i)), .bool (decide (0 < k.o)), .int .i64 k.rd.length, .int .i64 k.wr.length] 57)).alloc (.cells #[.int .i64 k.bg, .int .i64 k.cm, .int .i64 k.st, .int .i64 k.i, .int .i64 k.o, .slice wa k.wr.length wc, .slice ra k.rd.length rc] 197)) := Quiet.trans' (Keeps.alloc _ _) (Keeps.alloc _ _)
  have hbz : ((w.alloc (.cells #[.int .i64 k.bg, .bool (decide (0 < k.i)), .bool (decide (0 < k.o)), .int .i64 k.rd.length, .int .i64 k.wr.length] 57)).alloc (.cells #[.int .i64 k.bg, .int .i64 k.cm, .int .i64 k.st, .int .i64 k.i, .int .i64 k.o, .slice wa k.wr.length wc, .slice ra k.rd.length rc] 197)).heap[w.heap.size]? = some (.cells #[.int .i64 k.bg, .bool (decide (0 < k.i)), .bool (decide (0 < k.o)), .int .i64 k.rd.length, .int .i64 k.wr.length] 57) := (heap_alloc_old _ _ (by simp)).trans (heap_alloc_new w _)
  clear hq0 HA c5 p0 p1 p2 p3 p4 p5 p6 hsb hgl
  generalize ((w.alloc (.cells #[.int .i64 k.bg, .bool (decide (0 < k.i)), .bool (decide (0 < k.o)), .int .i64 k.rd.length, .int .i64 k.wr.length] 57)).alloc (.cells #[.int .i64 k.bg, .int .i64 k.cm, .int .i64 k.st, .int .i64 k.i, .int .i64 k.o, .slice wa k.wr.length wc, .slice ra k.rd.length rc] 197)) = WZ at *
  have e0 : WZ.cell? ⟨w.heap.size, 0, none⟩ = some (.int .i64 k.bg) := by rw [cell_of_heap hbz]; rfl
  have e1 : WZ.cell? ⟨w.heap.size, 1, none⟩ = some (.bool (decide (0 < k.i))) := by rw [cell_of_heap hbz]; rfl
  have e2 : WZ.cell? ⟨w.heap.size, 2, none⟩ = some (.bool (decide (0 < k.o))) := by rw [cell_of_heap hbz]; rfl
  have e3 : WZ.cell? ⟨w.heap.size, 3, none⟩ = some (.int .i64 k.rd.length) := by rw [cell_of_heap hbz]; rfl
  have e4 : WZ.cell? ⟨w.heap.size, 4, none⟩ = some (.int .i64 k.wr.length) := by rw [cell_of_heap hbz]; rfl
  exact bodyPost_ret (v := .tuple #[.agg #[.int .i64 k.bg, .bool (decide (0 < k.i)), .bool (decide (0 < k.o)), .int .i64 k.rd.length, .int .i64 k.wr.length], .int .i64 0]) (by simp [results, Tryz.results128, go_sem, e0, e1, e2, e3, e4]) rfl ⟨rfl, hqz⟩

end

/-- it is made -/
def refNew (sb : Nat) (c1 c2 c3 c4 : Int) : MRef := ⟨sb, .slice none 0 0, .slice none 0 0, c1, c2, c3, c4, 0, [], []⟩

theorem refNew_in {w : World} {base sb : Nat} {c1 c2 c3 c4 : Int} (hb : base ≤ sb) (h : w.heap[sb]? = some (.cells #[.int .i64 c1, .int .i64 c2, .int .i64 c3, .int .i64 c4, .int .i64 0, .slice none 0 0, .slice none 0 0] 158)) : RefIn w base (refNew sb c1 c2 c3 c4) :=
  ⟨fun _ => 0, ⟨h, hb, World.ownsRow_nil _ _ _ _, World.ownsRow_nil _ _ _ _, fun i x hx => by simp [refNew] at hx, fun i x hx => by simp [refNew] at hx, rfl, fun b e => by simp [refNew, Value.ownBlock] at e, fun b e => by simp [refNew, Value.ownBlock] at e, fun i x hx => by simp [refNew] at hx, fun i x hx => by simp [refNew] at hx⟩⟩

set_option maxRecDepth 100000 in
set_option maxHeartbeats 2000000 in
theorem rNew_yes (w : World) (c1 c2 c3 c4 : Int) (hc : configB c1 c2 c3 c4 = true) :
    Calls Tryz.prog 36 #[.agg #[.int .i64 c1, .int .i64 c2, .int .i64 c3, .int .i64 c4]] w fun e w' => ∃ sb, e = .returned (.tuple #[.pointer (some ⟨sb, 0, none⟩), .int .i64 0]) ∧ RefIn w' w.heap.size (refNew sb c1 c2 c3 c4) ∧ Quiet w w' := by
  simp only [configB, withinB, Bool.and_eq_true, decide_eq_true_eq] at hc
  obtain ⟨⟨⟨⟨a1, a2⟩, b1, b2⟩, d1, d2⟩, e1, e2⟩ := hc
  have g1 : ¬ c1 < 1 := by omega
  have g2 : ¬ 32 < c1 := by omega
  have g3 : ¬ c2 < 1 := by omega
  have g4 : ¬ 64 < c2 := by omega
  have g5 : ¬ c3 < 1 := by omega
  have g6 : ¬ 16 < c3 := by omega
  have g7 : ¬ c4 < 1 := by omega
  have g8 : ¬ 128 < c4 := by omega
  clear a1 a2 b1 b2 d1 d2 e1 e2
  go_enter Tryz.func36, Tryz.ntmps36
  go_wp2
  have hqz : Quiet w ((w.alloc (.cells #[.int .i64 c1, .int .i64 c2, .int .i64 c3, .int .i64 c4] 23)).alloc (.cells #[.int .i64 c1, .int .i64 c2, .int .i64 c3, .int .i64 c4, .int .i64 0, .slice none 0 0, .slice none 0 0] 158)) := Quiet.trans' (Keeps.alloc _ _) (Keeps.alloc _ _)
  have hbz : ((w.alloc (.cells #[.int .i64 c1, .int .i64 c2, .int .i64 c3, .int .i64 c4] 23)).alloc (.cells #[.int .i64 c1, .int .i64 c2, .int .i64 c3, .int .i64 c4, .int .i64 0, .slice none 0 0, .slice none 0 0] 158)).heap[w.heap.size + 1]? = some (.cells #[.int .i64 c1, .int .i64 c2, .int .i64 c3, .int .i64 c4, .int .i64 0, .slice none 0 0, .slice none 0 0] 158) := by
    have e : w.heap.size + 1 = (w.alloc (.cells #[.int .i64 c1, .int .i64 c2, .int .i64 c3, .int .i64 c4] 23)).heap.size := by simp
    rw [e]
    exact heap_alloc_new _ _
  generalize ((w.alloc (.cells #[.int .i64 c1, .int .i64 c2, .int .i64 c3, .int .i64 c4] 23)).alloc (.cells #[.int .i64 c1, .int .i64 c2, .int .i64 c3, .int .i64 c4, .int .i64 0, .slice none 0 0, .slice none 0 0] 158)) = WZ at *
  go_ret2
  exact ⟨_, rfl, refNew_in (by omega) hbz, hqz⟩

set_option maxRecDepth 100000 in
set_option maxHeartbeats 2000000 in
theorem rNew_no (w : World) (c1 c2 c3 c4 : Int) (hc : configB c1 c2 c3 c4 = false) :
    Calls Tryz.prog 36 #[.agg #[.int .i64 c1, .int .i64 c2, .int .i64 c3, .int .i64 c4]] w fun e w' => e = .returned (.tuple #[.pointer none, .int .i64 1]) ∧ Quiet w w' := by
  have hq0 : Quiet w (w.alloc (.cells #[.int .i64 c1, .int .i64 c2, .int .i64 c3, .int .i64 c4] 23)) := Keeps.alloc _ _
  have HC := hidC' hc
  clear hc
  by_cases g1 : c1 < 1
  · go_enter Tryz.func36, Tryz.ntmps36
    go_wp2
    go_ret2
    exact ⟨rfl, hq0⟩
  by_cases g2 : 32 < c1
  · go_enter Tryz.func36, Tryz.ntmps36
    go_wp2
    go_ret2
    exact ⟨rfl, hq0⟩
  by_cases g3 : c2 < 1
  · go_enter Tryz.func36, Tryz.ntmps36
    go_wp2
    go_ret2
    exact ⟨rfl, hq0⟩
  by_cases g4 : 64 < c2
  · go_enter Tryz.func36, Tryz.ntmps36
    go_wp2
    go_ret2
    exact ⟨rfl, hq0⟩
  by_cases g5 : c3 < 1
  · go_enter Tryz.func36, Tryz.ntmps36
    go_wp2
    go_ret2
    exact ⟨rfl, hq0⟩
  by_cases g6 : 16 < c3
  · go_enter Tryz.func36, Tryz.ntmps36
    go_wp2
    go_ret2
    exact ⟨rfl, hq0⟩
  by_cases g7 : c4 < 1
  · go_enter Tryz.func36, Tryz.ntmps36
    go_wp2
    go_ret2
    exact ⟨rfl, hq0⟩
  by_cases g8 : 128 < c4
  · go_enter Tryz.func36, Tryz.ntmps36
    go_wp2
    go_ret2
    exact ⟨rfl, hq0⟩
  · exfalso
    have h := HC.out
    have : configB c1 c2 c3 c4 = true := by
      unfold configB withinB
      simp only [Bool.and_eq_true, decide_eq_true_eq]
      omega
    rw [this] at h
    cases h

end Go.Proofs.YthfimgeopciiiaaGreat

/-
  The document's own store: Cleanup.
-/
namespace Go.Proofs.YthfimgeopciiiaaGreat
open Go.MapKept Go.ChangeMaps Go.Maps Go.RowKit Go.MuLone
set_option linter.unusedVariables false

/-- some are forgotten -/
def cleanN (mk : Int) (n : Nat) (x : RTx) : RTx := if x.h ≤ (n : Int) then cleanX mk x else x
def gone3 (n : Nat) (x : RTx) : RTx := if x.h = (n : Int) + 1 then { x with st := 3 } else x

theorem cleanN_h (mk : Int) (n : Nat) (x : RTx) : (cleanN mk n x).h = x.h := by unfold cleanN; split; exact cleanX_h _ _; rfl

section
variable {R : RSt} {mk : Int} {n : Nat} {x : RTx}

theorem cleanN_zero (hh : R.hsOk) : R.txs.map (cleanN mk 0) = R.txs := by
  rw [List.map_congr_left (g := id) (fun y hy => ?_), List.map_id]
  obtain ⟨j, hj⟩ := List.getElem?_of_mem hy
  have := hh j y hj
  unfold cleanN
  rw [if_neg (by omega)]; rfl

theorem cleanN_all (hh : R.hsOk) : R.txs.map (cleanN mk R.txs.length) = R.txs.map (cleanX mk) := by
  refine List.map_congr_left (fun y hy => ?_)
  obtain ⟨j, hj⟩ := List.getElem?_of_mem hy
  have h1 := hh j y hj
  have h2 := (List.getElem?_eq_some_iff.1 hj).1
  unfold cleanN
  rw [if_pos (by omega)]

theorem cleanN_yes (hh : R.hsOk) (hx : R.txs[n]? = some x) (h1 : x.st = 1) (h2 : x.cm ≤ mk) : (R.txs.map (cleanN mk n)).map (gone3 n) = R.txs.map (cleanN mk (n + 1)) := by
  rw [List.map_map]
  refine List.map_congr_left (fun y hy => ?_)
  obtain ⟨j, hj⟩ := List.getElem?_of_mem hy
  have e1 := hh j y hj
  simp only [Function.comp]
  by_cases e : j = n
  · subst e
    rw [hx] at hj
    obtain rfl := Option.some.inj hj
    unfold gone3
    rw [if_pos (by rw [cleanN_h]; exact e1)]
    unfold cleanN
    rw [if_neg (by omega), if_pos (by omega)]
    unfold cleanX
    rw [if_pos ⟨h1, h2⟩]
  · unfold gone3
    rw [if_neg (by rw [cleanN_h]; omega)]
    unfold cleanN
    by_cases hl : y.h ≤ (n : Int)
    · rw [if_pos hl, if_pos (by omega)]
    · rw [if_neg hl, if_neg (by omega)]

theorem cleanN_no (hh : R.hsOk) (hx : R.txs[n]? = some x) (h : ¬ (x.st = 1 ∧ x.cm ≤ mk)) : R.txs.map (cleanN mk n) = R.txs.map (cleanN mk (n + 1)) := by
  refine List.map_congr_left (fun y hy => ?_)
  obtain ⟨j, hj⟩ := List.getElem?_of_mem hy
  have e1 := hh j y hj
  unfold cleanN
  by_cases e : j = n
  · subst e
    rw [hx] at hj
    obtain rfl := Option.some.inj hj
    rw [if_neg (by omega), if_pos (by omega)]
    unfold cleanX
    rw [if_neg h]
  · by_cases hl : y.h ≤ (n : Int)
    · rw [if_pos hl, if_pos (by omega)]
    · rw [if_neg hl, if_neg (by omega)]
end

abbrev VRow (w : World) (base : Nat) (v : Value) (l : List (ByteArray × Ver)) : Prop := w.ownsRow base 209 4 v l.length (l.flatMap rverCells)

theorem VRow.snoc {w : World} {base : Nat} {v : Value} {l : List (ByteArray × Ver)} {p : ByteArray × Ver} (h : w.ownsRow base 209 4 v (l.length + 1) (l.flatMap rverCells ++ [.int .i64 p.2.1, .string p.1, .string p.2.2.1, .bool p.2.2.2])) : VRow w base v (l ++ [p]) := by
  unfold VRow
  rw [List.length_append, List.flatMap_append]
  exact h

theorem cell_fourNew (w : World) (x y z u : Value) (t : TypeId) : ∀ j v, [x, y, z, u][j]? = some v → (w.alloc (.cells #[x, y, z, u] t)).cell? ((⟨w.heap.size, 0, none⟩ : Addr).add j) = some v := fun j v hj => by
  rw [show (⟨w.heap.size, 0, none⟩ : Addr).add j = ⟨w.heap.size, j, none⟩ by cases j <;> simp [Addr.add], cell_of_heap (heap_alloc_new _ _)]
  simpa using hj

/-- is it the last of its key up to the mark? -/
def lateB (mk : Int) (v u : ByteArray × Ver) : Bool := !(decide (u.1 = v.1) && decide (u.2.1 ≤ mk) && decide (v.2.1 < u.2.1))

theorem keepV_eq (L : List (ByteArray × Ver)) (mk : Int) (v : ByteArray × Ver) : keepV L mk v = (decide (mk < v.2.1) || (L.all (lateB mk v) && !v.2.2.2)) := rfl

theorem all_take_succ {α : Type} {f : α → Bool} {l : List α} {n : Nat} {x : α} (h : l[n]? = some x) : (l.take (n + 1)).all f = ((l.take n).all f && f x) := by
  rw [take_succ_of h]; simp

theorem filter_take_succ {α : Type} {f : α → Bool} {l : List α} {n : Nat} {x : α} (h : l[n]? = some x) : (l.take (n + 1)).filter f = (l.take n).filter f ++ (if f x = true then [x] else []) := by
  rw [take_succ_of h, List.filter_append]
  cases hf : f x <;> simp [hf]

section
variable {w w' : World} {base : Nat} {m : MRef}

theorem RefIn.c5 (H : RefIn w base m) : ∃ a cap, w.cell? ⟨m.sb, 5, none⟩ = some (.slice a m.txs.length cap) := by
  obtain ⟨tag, H⟩ := H
  obtain ⟨a, cap, ev, -⟩ := H.txsAt
  exact ⟨a, cap, by rw [← ev]; exact H.cell.2.2.2.2.2.1⟩

set_option maxRecDepth 100000 in
set_option maxHeartbeats 10000000 in
theorem rClean_h (H : RefIn w base m) (hh : m.rs.hsOk) (hlen : m.txs.length ≤ 1099511627776) (hv : m.vers.length ≤ 1048576) :
    Calls Tryz.prog 73 #[.pointer (some ⟨m.sb, 0, none⟩)] w fun e w' => e = .returned (.tuple #[]) ∧ RLeft w w' base m m.rs.clean := by
  have c4 : w.cell? ⟨m.sb, 4, none⟩ = some (.int .i64 m.clock) := by obtain ⟨tag, H1⟩ := H; exact H1.cell.2.2.2.2.1
  have hln : m.rs.txs.length = m.txs.length := rs_len
  have HT : Hid (∀ (n : Nat) (x : RTx), m.rs.txs[n]? = some x → ∃ g cap wa wc ra rc, TxAt w m n x g cap wa wc ra rc) := fun n x hx => H.tx hx
  obtain ⟨a0, cap0, c5⟩ := H.c5
  have HMk : Hid (m.rs.txs.foldl markF m.clock = m.rs.mark) := hidC' rfl
  have HH := hidC' H
  have HHs := hidC' hh
  clear H hh
  go_enter Tryz.func73, Tryz.ntmps73
  go_wp2
  go_loopw [2, 3] (fun mv i wr => ∃ (n : Nat) (M : Int), mv = .int .i64 M ∧ i = .int .i64 n ∧ n ≤ m.txs.length ∧ wr = w ∧ Hid ((m.rs.txs.take n).foldl markF m.clock = M)) (fun _ i _ => m.txs.length - (intOf i).toNat)
  case atStart => exact ⟨0, m.clock, rfl, rfl, Nat.zero_le _, rfl, rfl⟩
  case round =>
    obtain ⟨n, M, rfl, rfl, hn, hw0, HF⟩ := hrel
    have hw0 := hw0.symm
    subst hw0
    by_cases hlt : n < m.txs.length
    · have hlt' : (n : Int) < (m.txs.length : Int) := by omega
      obtain ⟨x, hx⟩ : ∃ x, m.rs.txs[n]? = some x := ⟨_, List.getElem?_eq_getElem (by rw [hln]; exact hlt)⟩
      obtain ⟨g, cap, wa, wc, ra, rc, T⟩ := HT.out n x hx
      have d5 := T.c5
      have p0 := T.p0
      have p2 := T.p2
      have HS : Hid ((m.rs.txs.take (n + 1)).foldl markF m.clock = markF M x) := hidC' (by rw [take_succ_of hx, List.foldl_append, HF.out]; rfl)
      clear T hx HF HT c5 c4 HMk HH HHs
      by_cases s0 : x.st = 0
      · rw [s0] at p2
        by_cases hb : x.bg < M
        · have HN : Hid ((m.rs.txs.take (n + 1)).foldl markF m.clock = x.bg) := hidC' (by rw [HS.out]; unfold markF; rw [if_pos ⟨s0, hb⟩])
          clear HS s0
          go_wp2
          exact ⟨⟨n + 1, _, rfl, by go_num, by omega, trivial, HN⟩, by simp [intOf]; omega⟩
        · have HN : Hid ((m.rs.txs.take (n + 1)).foldl markF m.clock = M) := hidC' (by rw [HS.out]; unfold markF; rw [if_neg (fun h => hb h.2)])
          clear HS s0
          go_wp2
          exact ⟨⟨n + 1, _, rfl, by go_num, by omega, trivial, HN⟩, by simp [intOf]; omega⟩
      · have s0' : (x.st == 0) = false := by simpa using s0
        have HN : Hid ((m.rs.txs.take (n + 1)).foldl markF m.clock = M) := hidC' (by rw [HS.out]; unfold markF; rw [if_neg (fun h => s0 h.1)])
        clear HS
        go_wp2
        exact ⟨⟨n + 1, _, rfl, by go_num, by omega, trivial, HN⟩, by simp [intOf]; omega⟩
    · have hge : ¬ (n : Int) < (m.txs.length : Int) := by omega
      have hM : m.rs.mark = M := by
        rw [← HMk.out, ← HF.out, List.take_of_length_le (by omega)]
      have HRc : Hid (m.rs.clean = { m.rs with txs := m.rs.txs.map (cleanX M), vers := m.rs.vers.filter (keepV m.rs.vers M) }) := hidC' (by unfold RSt.clean; rw [hM])
      clear hM HF HMk HT c4
      go_wp2
      go_loopw [4] (fun i wr => ∃ (n : Nat) (m' : MRef), i = .int .i64 n ∧ n ≤ m.txs.length ∧ Hid (RefIn wr base m' ∧ RTurn w wr m m' ∧ m'.rs = { m.rs with txs := m.rs.txs.map (cleanN M n) })) (fun i _ => m.txs.length - (intOf i).toNat)
      case atStart => exact ⟨0, m, rfl, Nat.zero_le _, hidC' ⟨HH.out, RTurn.refl _ _, by rw [cleanN_zero HHs.out]⟩⟩
      case round =>
        obtain ⟨n2, m', rfl, hn2, HI⟩ := hrel
        have hsb' : m'.sb = m.sb := HI.out.2.1.sb
        have hl' : m'.txs.length = m.txs.length := by rw [← rs_len, HI.out.2.2]; show (m.rs.txs.map _).length = _; rw [List.length_map]; exact hln
        by_cases hlt2 : n2 < m.txs.length
        · have hlt2' : (n2 : Int) < (m.txs.length : Int) := by omega
          obtain ⟨x, hx⟩ : ∃ x, m.rs.txs[n2]? = some x := ⟨_, List.getElem?_eq_getElem (by rw [hln]; exact hlt2)⟩
          have hx' : m'.rs.txs[n2]? = some x := by
            rw [HI.out.2.2]
            show (m.rs.txs.map _)[n2]? = _
            rw [List.getElem?_map, hx]
            have := HHs.out n2 x hx
            show some (cleanN M n2 x) = _
            unfold cleanN
            rw [if_neg (by omega)]
          obtain ⟨g, cap, wa, wc, ra, rc, T⟩ := HI.out.1.tx hx'
          have d5 := T.c5
          rw [hsb', hl'] at d5
          have p1 := T.p1
          have p2 := T.p2
          have f2 := T.fz (n2 * 7 + 2)
          have HL : Hid (x.st = 1 → x.cm ≤ M → ∃ m'', RefIn (wr.setCell ⟨g, n2 * 7 + 2, none⟩ (.int .i64 3)) base m'' ∧ RTurn w (wr.setCell ⟨g, n2 * 7 + 2, none⟩ (.int .i64 3)) m m'' ∧ m''.rs = { m.rs with txs := m.rs.txs.map (cleanN M (n2 + 1)) }) := hidC' (fun h1 h2 => by
            have hh' : m'.rs.hsOk := by rw [HI.out.2.2]; exact HHs.out.map _ (cleanN_h _ _)
            obtain ⟨m'', k1, k2, k3⟩ := HI.out.1.set hh' (j := 2) (u := .int .i64 3) T.at_ T.ho (by omega) { x with st := 3 } rfl rfl rfl (gone3 n2) (by show gone3 n2 x = _; unfold gone3; rw [if_pos (hh' n2 x hx')]) (fun z hz => by unfold gone3; rw [if_neg hz])
            refine ⟨m'', k1, HI.out.2.1.trans k2, ?_⟩
            rw [k3, HI.out.2.2]
            simp only
            rw [cleanN_yes HHs.out hx h1 h2])
          have HNo : Hid (¬ (x.st = 1 ∧ x.cm ≤ M) → RefIn wr base m' ∧ RTurn w wr m m' ∧ m'.rs = { m.rs with txs := m.rs.txs.map (cleanN M (n2 + 1)) }) := hidC' (fun h => ⟨HI.out.1, HI.out.2.1, by rw [HI.out.2.2, cleanN_no HHs.out hx h]⟩)
          clear T hx hx' HI HH HHs HRc c5 hsb' hl'
          by_cases s1 : x.st = 1
          · by_cases hc : x.cm ≤ M
            · obtain ⟨m'', hm''⟩ := HL.out s1 hc
              have HN := hidC' hm''
              rw [s1] at p2
              clear HL HNo hm'' s1
              go_wp2
              exact ⟨⟨n2 + 1, m'', by go_num, by omega, HN⟩, by simp [intOf]; omega⟩
            · have HN := hidC' (HNo.out (fun h => hc h.2))
              rw [s1] at p2
              clear HL HNo s1
              go_wp2
              exact ⟨⟨n2 + 1, m', by go_num, by omega, HN⟩, by simp [intOf]; omega⟩
          · have s1' : (x.st == 1) = false := by simpa using s1
            have HN := hidC' (HNo.out (fun h => s1 h.1))
            clear HL HNo
            go_wp2
            exact ⟨⟨n2 + 1, m', by go_num, by omega, HN⟩, by simp [intOf]; omega⟩
        · have hge2 : ¬ (n2 : Int) < (m.txs.length : Int) := by omega
          have hn2e : n2 = m.rs.txs.length := by omega
          obtain ⟨hI2, hT2, hr2⟩ := HI.out
          have hr2' : m'.rs = { m.rs with txs := m.rs.txs.map (cleanX M) } := by rw [hr2, hn2e, cleanN_all HHs.out]
          have hv2 : m'.vers = m.vers := by have := congrArg (fun R : RSt => R.vers) hr2'; exact this
          obtain ⟨a2, cap2, d5⟩ := hI2.c5
          rw [hsb', hl'] at d5
          obtain ⟨W2, hW2⟩ : ∃ W2, W2 = wr := ⟨wr, rfl⟩
          subst hW2
          have HV : Hid (∀ wx, Quiet W2 wx → m.sb < wx.heap.size ∧ wx.frozen? ⟨m.sb, 6, none⟩ = false ∧ ∃ va vc, wx.cell? ⟨m.sb, 6, none⟩ = some (.slice va m.vers.length vc) ∧ ∀ (n : Nat) (p : ByteArray × Ver), m.vers[n]? = some p → ∃ gv, va = some ⟨gv, 0, none⟩ ∧ gv < wx.heap.size ∧ wx.cell? ⟨gv, n * 4, none⟩ = some (.int .i64 p.2.1) ∧ wx.cell? ⟨gv, n * 4 + 1, none⟩ = some (.string p.1) ∧ wx.cell? ⟨gv, n * 4 + 2, none⟩ = some (.string p.2.2.1) ∧ wx.cell? ⟨gv, n * 4 + 3, none⟩ = some (.bool p.2.2.2)) := fun wx q => by
            obtain ⟨tag, H1⟩ := hI2.quiet q
            obtain ⟨va, vc, ev, hrow⟩ := H1.versAt
            have e6 := H1.cell.2.2.2.2.2.2
            rw [ev, hsb', hv2] at e6
            refine ⟨by rw [← hsb']; exact lt_of_heap H1.own, by rw [← hsb']; exact H1.frz 6, va, vc, e6, fun n p hp => ?_⟩
            rcases hrow with h0 | ⟨gv, rfl, -, -, hgv, -, hcell⟩
            · rw [hv2] at h0; rw [h0] at hp; simp at hp
            · rw [← hv2] at hp
              exact ⟨gv, rfl, hgv, hcell n p hp 0 (by omega), hcell n p hp 1 (by omega), hcell n p hp 2 (by omega), hcell n p hp 3 (by omega)⟩
          have HFin : Hid (∀ wx v, Quiet W2 wx → VRow wx W2.heap.size v (m.vers.filter (keepV m.vers M)) → RLeft w (wx.setCell ⟨m.sb, 6, none⟩ v) base m m.rs.clean) := fun wx v q hrow => by
            obtain ⟨m3, k1, k2, k3⟩ := hI2.setVers q hrow
            rw [hsb'] at k1 k2
            refine ⟨m3, k1, hT2.trans k2, ?_⟩
            rw [k3, hr2', HRc.out]; rfl
          clear HI hI2 hT2 hr2 hr2' hv2 HH HHs HRc c5
          go_wp2
          go_loopw [5, 6] (fun lv i wr => ∃ n : Nat, i = .int .i64 n ∧ n ≤ m.vers.length ∧ Quiet W2 wr ∧ Hid (VRow wr W2.heap.size lv ((m.vers.take n).filter (keepV m.vers M)))) (fun _ i _ => m.vers.length - (intOf i).toNat)
          case atStart => exact ⟨0, rfl, Nat.zero_le _, Keeps.refl _ _, World.ownsRow_nil _ _ _ _⟩
          case round =>
            obtain ⟨n3, rfl, hn3, hq3, HR⟩ := hrel
            obtain ⟨ja, jc, rfl, -⟩ := row_at rverCells rverCells_len HR.out
            obtain ⟨z1, f6, va, vc, c6, hvrow⟩ := HV.out _ hq3
            have hfl : ((m.vers.take n3).filter (keepV m.vers M)).length ≤ n3 := Nat.le_trans (List.length_filter_le _ _) (by rw [List.length_take]; omega)
            by_cases hlt3 : n3 < m.vers.length
            · have hlt3' : (n3 : Int) < (m.vers.length : Int) := by omega
              obtain ⟨v, hv3⟩ : ∃ v, m.vers[n3]? = some v := ⟨_, List.getElem?_eq_getElem hlt3⟩
              obtain ⟨gv, rfl, hgv, v0, v1, v2, v3⟩ := hvrow n3 v hv3
              have HFs := hidC' (filter_take_succ (f := keepV m.vers M) hv3)
              generalize hFL : (m.vers.take n3).filter (keepV m.vers M) = FL at *
              have y1 := Nat.ne_of_lt z1
              have y2 := Nat.ne_of_lt hgv
              clear hvrow hFL hv3
              go_wp2
              have hqa : Quiet wr (wr.alloc (.cells #[.int .i64 v.2.1, .string v.1, .string v.2.2.1, .bool v.2.2.2] 209)) := Keeps.alloc _ _
              have hba : (wr.alloc (.cells #[.int .i64 v.2.1, .string v.1, .string v.2.2.1, .bool v.2.2.2] 209)).heap[wr.heap.size]? = some (.cells #[.int .i64 v.2.1, .string v.1, .string v.2.2.1, .bool v.2.2.2] 209) := heap_alloc_new _ _
              have HRv : Hid (VRow (wr.alloc (.cells #[.int .i64 v.2.1, .string v.1, .string v.2.2.1, .bool v.2.2.2] 209)) W2.heap.size (.slice ja FL.length jc) FL) := hidC' (ownsRow_of_block HR.out (fun b hb => hqa.block b (HR.out.lt b hb).2 id))
              have hsv := lt_of_heap hba
              have hqv := Quiet.trans' hq3 hqa
              clear HR hqa v0 v1 v2 v3 c6 f6 y1 y2 z1 hgv
              generalize wr.alloc (.cells #[.int .i64 v.2.1, .string v.1, .string v.2.2.1, .bool v.2.2.2] 209) = WV at *
              have HB : Hid (∀ wx, Quiet WV wx → wr.heap.size < wx.heap.size ∧ wx.cell? ⟨wr.heap.size, 0, none⟩ = some (.int .i64 v.2.1) ∧ wx.cell? ⟨wr.heap.size, 1, none⟩ = some (.string v.1) ∧ wx.cell? ⟨wr.heap.size, 2, none⟩ = some (.string v.2.2.1) ∧ wx.cell? ⟨wr.heap.size, 3, none⟩ = some (.bool v.2.2.2)) := fun wx q => by
                refine ⟨Nat.lt_of_lt_of_le hsv q.size, ?_, ?_, ?_, ?_⟩ <;> rw [q.cell hsv (by simp), cell_of_heap hba] <;> rfl
              clear hba
              generalize wr.heap.size = vb at *
              go_loopw [8, 9] (fun lb kk wr' => ∃ (q : Nat) (LB : Bool), lb = .bool LB ∧ kk = .int .i64 q ∧ q ≤ m.vers.length ∧ Quiet WV wr' ∧ Hid ((m.vers.take q).all (lateB M v) = LB)) (fun _ kk _ => m.vers.length - (intOf kk).toNat)
              case atStart => exact ⟨0, true, rfl, rfl, Nat.zero_le _, Keeps.refl _ _, rfl⟩
              case round =>
                obtain ⟨q, LB, rfl, rfl, hqn, hq4, HL⟩ := hrel
                have hqw := Quiet.trans' hqv hq4
                obtain ⟨z1, f6, va', vc', c6, hvrow⟩ := HV.out _ hqw
                obtain ⟨zb, b0, b1, b2, b3⟩ := HB.out _ hq4
                by_cases hql : q < m.vers.length
                · have hql' : (q : Int) < (m.vers.length : Int) := by omega
                  obtain ⟨u, hu⟩ : ∃ u, m.vers[q]? = some u := ⟨_, List.getElem?_eq_getElem hql⟩
                  obtain ⟨gu, rfl, hgu, u0, u1, u2, u3⟩ := hvrow q u hu
                  have HS : Hid ((m.vers.take (q + 1)).all (lateB M v) = (LB && lateB M v u)) := hidC' (by rw [all_take_succ hu, HL.out])
                  have y1 := Nat.ne_of_lt z1
                  have y2 := Nat.ne_of_lt hgu
                  have y3 := Nat.ne_of_lt zb
                  have hqa : Hid (∀ ob, Quiet WV (wr.alloc ob)) := fun ob => Quiet.trans' hq4 (Keeps.alloc _ _)
                  clear hvrow hu HL HV HB HFin HFs HRv
                  cases LB with
                  | false =>
                    have HN : Hid ((m.vers.take (q + 1)).all (lateB M v) = false) := hidC' HS.out
                    clear HS
                    go_wp2
                    exact ⟨⟨q + 1, false, rfl, by go_num, by omega, hqa.out _, HN⟩, by simp [intOf]; omega⟩
                  | true =>
                    by_cases k1 : u.1 = v.1
                    · have k1' := str_eq k1
                      by_cases k2 : u.2.1 ≤ M
                      · by_cases k3 : v.2.1 < u.2.1
                        · have HN : Hid ((m.vers.take (q + 1)).all (lateB M v) = false) := hidC' (HS.out.trans (by simp [lateB, k1, k2, k3]))
                          clear HS k1
                          go_wp2
                          exact ⟨⟨q + 1, false, rfl, by go_num, by omega, hqa.out _, HN⟩, by simp [intOf]; omega⟩
                        · have HN : Hid ((m.vers.take (q + 1)).all (lateB M v) = true) := hidC' (HS.out.trans (by simp [lateB, k3]))
                          clear HS k1
                          go_wp2
                          exact ⟨⟨q + 1, true, rfl, by go_num, by omega, hqa.out _, HN⟩, by simp [intOf]; omega⟩
                      · have HN : Hid ((m.vers.take (q + 1)).all (lateB M v) = true) := hidC' (HS.out.trans (by simp [lateB, k2]))
                        clear HS k1
                        go_wp2
                        exact ⟨⟨q + 1, true, rfl, by go_num, by omega, hqa.out _, HN⟩, by simp [intOf]; omega⟩
                    · have HN : Hid ((m.vers.take (q + 1)).all (lateB M v) = true) := hidC' (HS.out.trans (by simp [lateB, k1]))
                      have k1' := str_ne k1
                      clear HS k1
                      go_wp2
                      exact ⟨⟨q + 1, true, rfl, by go_num, by omega, hqa.out _, HN⟩, by simp [intOf]; omega⟩
                · have hqge : ¬ (q : Int) < (m.vers.length : Int) := by omega
                  have HKv : Hid (keepV m.vers M v = (decide (M < v.2.1) || (LB && !v.2.2.2))) := hidC' (by
                    rw [keepV_eq, ← HL.out, List.take_of_length_le (by omega)])
                  have hRw : VRow wr W2.heap.size (.slice ja FL.length jc) FL := ownsRow_of_block HRv.out (fun b hb => hq4.block b (HRv.out.lt b hb).2 id)
                  clear HL HV HB HFin HRv hvrow
                  by_cases hc : (M < v.2.1) ∨ (¬ M < v.2.1 ∧ LB = true ∧ v.2.2.2 = false)
                  · have HE : Hid ((m.vers.take (n3 + 1)).filter (keepV m.vers M) = FL ++ [v]) := hidC' (by
                      rw [HFs.out, HKv.out, if_pos]
                      rcases hc with h | ⟨_, h1, h2⟩
                      · simp [h]
                      · simp [h1, h2])
                    clear HFs HKv
                    obtain ⟨i0, hi0, hz0, hz1, hz2⟩ := info_parts info_rver
                    obtain ⟨vk, vcm, vvl, vgn⟩ := v
                    simp only at b0 b1 b2 b3 hc
                    rcases hc with hM | ⟨hM, rfl, rfl⟩
                    all_goals
                      go_wp2_with (at_builtin; refine wpList_append_own_at _ rfl _ _ 156 rfl W2.heap.size 209 i0 (.agg #[.int .i64 0, .string ⟨#[]⟩, .string ⟨#[]⟩, .bool false]) 4 48 Tryz.underlying156 hi0 hz0 hz1 hz2 rfl (by decide) _ _ _ (by simp [go_sem]) (hRw.alloc _) ⟨wr.heap.size, 0, none⟩ 1 1 [.int .i64 vcm, .string vk, .string vvl, .bool _] (by simp [go_sem]) rfl (cell_fourNew wr _ _ _ _ 209) (by simp [Value.oneCell']) (by unfold maxLen; omega) (by omega) (by have := hqw.size; simp; omega) ?_)
                      intro v5 w5 hown5 hgrow hnil hloc
                      have k5 := keeps_of_grown hgrow
                      have hlo5 := hRw.lt
                      have hq5 : Quiet W2 w5 := Quiet.of_new (Quiet.trans' hqw (Keeps.alloc _ _)) k5 (fun b hb => (hlo5 b hb).1)
                      have HR5 : Hid (VRow w5 W2.heap.size v5 ((m.vers.take (n3 + 1)).filter (keepV m.vers M))) := hidC' (by rw [HE.out]; exact VRow.snoc hown5)
                      clear hown5 hgrow hnil hloc k5 hlo5 hRw HE
                      go_wp2
                      go_roundw
                      case rel => exact ⟨n3 + 1, by go_num, by omega, hq5, HR5⟩
                      case measure => simp [intOf]; omega
                  · have HE : Hid ((m.vers.take (n3 + 1)).filter (keepV m.vers M) = FL) := hidC' (by
                      rw [HFs.out, HKv.out, if_neg, List.append_nil]
                      intro h
                      simp at h
                      exact hc (by
                        rcases h with h | ⟨h1, h2⟩
                        · exact .inl h
                        · by_cases hm : M < v.2.1
                          · exact .inl hm
                          · exact .inr ⟨hm, h1, h2⟩))
                    have hM : ¬ M < v.2.1 := fun h => hc (.inl h)
                    have hN5 : Hid (VRow wr W2.heap.size (.slice ja FL.length jc) ((m.vers.take (n3 + 1)).filter (keepV m.vers M))) := hidC' (by rw [HE.out]; exact hRw)
                    have hcc : LB = false ∨ (LB = true ∧ v.2.2.2 = true) := by
                      cases LB with
                      | false => exact .inl rfl
                      | true =>
                        refine .inr ⟨rfl, ?_⟩
                        cases hg : v.2.2.2 with
                        | true => rfl
                        | false => exact absurd (.inr ⟨hM, rfl, hg⟩) hc
                    clear HFs HKv hRw HE hc
                    rcases hcc with rfl | ⟨rfl, hgn⟩
                    · go_wp2
                      exact ⟨⟨n3 + 1, by go_num, by omega, hqw, hN5⟩, by simp [intOf]; omega⟩
                    · rw [hgn] at b3
                      clear hgn
                      go_wp2
                      exact ⟨⟨n3 + 1, by go_num, by omega, hqw, hN5⟩, by simp [intOf]; omega⟩
            · have hge3 : ¬ (n3 : Int) < (m.vers.length : Int) := by omega
              have etk : m.vers.take n3 = m.vers := List.take_of_length_le (by omega)
              have HL5 := hidC' (HFin.out wr (.slice ja ((m.vers.take n3).filter (keepV m.vers M)).length jc) hq3 (by have h := HR.out; simpa only [etk] using h))
              clear etk
              clear HFin HV HR hvrow
              generalize ((m.vers.take n3).filter (keepV m.vers M)).length = FLn at *
              go_wp2
              go_end0
              exact ⟨rfl, HL5.out⟩

end
end Go.Proofs.YthfimgeopciiiaaGreat
