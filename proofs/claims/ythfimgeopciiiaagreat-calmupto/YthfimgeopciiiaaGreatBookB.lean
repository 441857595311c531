/-
  Bounded.
-/
import Derived.Test.YthfimgeopciiiaaGreatBookL
namespace Go.Proofs.YthfimgeopciiiaaGreat
open Go.MapKept Go.ChangeMaps Go.Maps Go.RowKit Go.MuLone
set_option linter.unusedVariables false

section
variable {w W0 W W' : World} {s0 s : Sto} {m0 m : MBk} {n : Int}

theorem PI.turn (P : PI w W0 W s0 m0 n s m) (t : Turn s s W W') : PI w W0 W' s0 m0 n s m := by
  obtain ⟨M1, N1⟩ := P.mem.turn t
  exact ⟨M1, P.nx.trans N1, P.log, P.cfg⟩

theorem PI.still (P : PI w W0 W s0 m0 n s m) (k : Quiet W W') : PI w W0 W' s0 m0 n s m := ⟨P.mem.still k, P.nx.trans (Nx.quiet s m k), P.log, P.cfg⟩

theorem PI.clk (P : PI w W0 W s0 m0 n s m) : s.abs.clock = (m.commits.length : Int) := by
  obtain ⟨M, K⟩ := P.log.is
  have := K.clk
  simp only [MBk.bk, List.length_map] at this
  exact this.symm

theorem toldP (P : PI w W0 W s0 m0 n s m) :
    Calls Tryz.prog 19 #[.pointer (some ⟨s0.sb, 0, none⟩)] W fun e w' => ∃ A TX RD VR : Nat, e = .returned (.agg #[.int .i64 m.commits.length, .int .i64 A, .int .i64 ((TX : Int) - A), .int .i64 RD, .int .i64 VR]) ∧ Hid (PI w W0 w' s0 m0 n s m) ∧ A ≤ TX ∧ (TX : Int) ≤ s0.abs.c1 ∧ (RD : Int) ≤ s0.abs.c2 ∧ (VR : Int) ≤ s0.abs.c4 := by
  have := told_api P.mem.st P.mem.mu P.log.inv
  rw [P.nx.sb, P.clk] at this
  refine this.mono fun e w' ⟨e1, e2⟩ => ⟨s.hl.length, s.abs.txs.length, s.abs.nReads, totV s.abs.vers, e1, P.turn e2, ?_, ?_, ?_, ?_⟩
  · have := P.mem.st.hl_le; simpa [Sto.abs] using this
  · rw [← P.cfg.c1]; exact P.log.inv.txs
  · rw [← P.cfg.c2]; exact P.log.inv.reads
  · rw [← P.cfg.c4]; exact P.log.inv.vers

theorem clean_at (P : PI w W0 W s0 m0 n s m) (D : Idle s.abs) :
    Calls Tryz.prog 20 #[.pointer (some ⟨s0.sb, 0, none⟩)] W fun e w' => e = .returned (.tuple #[]) ∧ ∃ s', PI w W0 w' s0 m0 (n + 1) s' m ∧ s'.abs.txs = [] ∧ totV s'.abs.vers = m.t.length ∧ s'.abs.begun = s.abs.begun ∧ s'.abs.clock = s.abs.clock := by
  have := cleanup_api P.mem.st P.mem.mu P.log.inv
  rw [P.nx.sb] at this
  refine this.mono fun e w' ⟨e1, s', e2, mk, e3⟩ => ⟨e1, s', ?_, (clean_idle P.log.cms D e3).2, ?_, e3.begun, e3.clock⟩
  · obtain ⟨M1, N1⟩ := P.mem.turn e2
    exact ⟨M1, P.nx.trans N1, P.log.clean e3, CfgEq.trans ⟨e3.c1, e3.c2, e3.c3, e3.c4⟩ P.cfg⟩
  · obtain ⟨M, K⟩ := P.log.is
    exact vers_left K P.log.inv P.log.cms D e3

theorem told_end (P : PI w W0 W s0 m0 n s m) (h0 : s.abs.txs = []) (hv : totV s.abs.vers = m.t.length) :
    Calls Tryz.prog 19 #[.pointer (some ⟨s0.sb, 0, none⟩)] W fun e w' => e = .returned (.agg #[.int .i64 m.commits.length, .int .i64 0, .int .i64 0, .int .i64 0, .int .i64 m.t.length]) ∧ Hid (PI w W0 w' s0 m0 n s m) := by
  have := told_api P.mem.st P.mem.mu P.log.inv
  have hh : s.hl.length = 0 := by
    have h1 := P.mem.st.hl_le
    have h2 : s.abs.txs.length = s.recs.length := by simp [Sto.abs]
    rw [h0] at h2
    have h3 : ([] : List Tx).length = 0 := rfl
    omega
  have hr : s.abs.nReads = 0 := by unfold Abs.nReads; rw [h0]; rfl
  rw [P.nx.sb, P.clk, hh, hr, h0, hv] at this
  exact this.mono fun e w' ⟨e1, e2⟩ => ⟨e1, P.turn e2⟩

end

set_option maxRecDepth 100000 in
set_option maxHeartbeats 8000000 in
theorem bounded_h (w : World) (a b c d : Int) (v : Value) (l : List StepD) (hl : ScriptAt w v l) (hlen : l.length ≤ 1048576) (hcs : ∀ o ∈ l, o.cs.length ≤ 1048576) :
    Calls Tryz.prog 5 #[.agg #[.int .i64 a, .int .i64 b, .int .i64 c, .int .i64 d], v] w fun e w' => e = .returned (.bool true) ∧ Quiet w w' := by
  have hneq : ∀ (g : Nat) (W : World), (binOp .eql 29 (.pointer (some ⟨g, 0, none⟩)) (.pointer none)).run Tryz.prog W = .ok (.bool false) W := fun g W => by kernel_rfl
  have heql : ∀ (W : World), (binOp .eql 29 (.pointer none) (.pointer none)).run Tryz.prog W = .ok (.bool true) W := fun W => by kernel_rfl
  cases hcf : configB a b c d with
  | false =>
    have HOp : Hid (∀ W, Calls Tryz.prog 13 #[.agg #[.int .i64 a, .int .i64 b, .int .i64 c, .int .i64 d]] W fun e w' => e = .returned (.tuple #[.pointer none, .bool true]) ∧ Quiet W w') := fun W => opened_bad a b c d W hcf
    clear hl hcs hneq hcf
    go_enter Tryz.func5, Tryz.ntmps5
    go_wp2_with (go_at_call 13; refine (HOp.out _).mono ?_; rintro e w1 ⟨rfl, hq1⟩)
    go_ret
    exact ⟨rfl, Quiet.trans' (Keeps.alloc _ _) hq1⟩
  | true =>
    have HOp : Hid (∀ W, Quiet w W → Calls Tryz.prog 13 #[.agg #[.int .i64 a, .int .i64 b, .int .i64 c, .int .i64 d]] W fun e w' => ∃ sb, e = .returned (.tuple #[.pointer (some ⟨sb, 0, none⟩), .bool true]) ∧ ∃ s, s.sb = sb ∧ (s.abs.c1 = a ∧ s.abs.c2 = b ∧ s.abs.c4 = d) ∧ Quiet W w' ∧ (∀ x, x < W.heap.size → ¬ ((MBk.init w'.heap.size sb).has x ∨ x ∈ s.foot)) ∧ PI w (w'.alloc (.cells #[.pointer (some ⟨sb, 0, none⟩), .slice none 0 0, .slice none 0 0, .slice none 0 0] 38)) (w'.alloc (.cells #[.pointer (some ⟨sb, 0, none⟩), .slice none 0 0, .slice none 0 0, .slice none 0 0] 38)) s (MBk.init w'.heap.size sb) 0 s (MBk.init w'.heap.size sb)) := fun W hW => (opened_ok a b c d W hcf).mono fun e w' ⟨N, e1, e2, e3, e4⟩ => by
      refine ⟨N + 2, e1, newSto a b c d N (N + 2), rfl, ⟨rfl, rfl, rfl⟩, e4, fun x hx h => ?_, PI.start (start_mem (Quiet.trans' hW e4) e3 rfl (fun x hx => ?_)) (start_log hcf _ _ _ _)⟩
      · have h4 := e4.size
        rcases h with h | h
        · rcases h with h | h | h | h | ⟨i, y, hy, _⟩
          · have h' : x = w'.heap.size := h; omega
          · simp [MBk.init, Value.ownBlock] at h
          · simp [MBk.init, Value.ownBlock] at h
          · simp [MBk.init, Value.ownBlock] at h
          · simp [MBk.init] at hy
        · have := (newSto_foot x h).1; omega
      · have := (newSto_foot x hx).1
        have := hW.size
        omega
    have h32 : a ≤ 32 := (config_parts hcf).1.2
    have HL := hidC' hl
    have HCs := hidC' hcs
    clear hcs heql hcf
    obtain ⟨⟨sa, scap, rfl, hc⟩, hok, hlen'⟩ := hl
    have HOk : Hid (∀ s ∈ l, StepOk w s) := hok
    clear hok hlen'
    go_enter Tryz.func5, Tryz.ntmps5
    go_wp2_with (first
      | (go_at_call 13; refine (HOp.out _ (Keeps.alloc _ _)).mono ?_; rintro e w1 ⟨sb, rfl, s0, hsb, hcfg, hq1, hfr, P0⟩))
    generalize hWB : w1.alloc (.cells #[.pointer (some ⟨sb, 0, none⟩), .slice none 0 0, .slice none 0 0, .slice none 0 0] 38) = WB at *
    have hcb0 : WB.heap[w.heap.size]? = some (.cells #[.int .i64 a, .int .i64 b, .int .i64 c, .int .i64 d] 23) := by
      rw [← hWB]
      have h1 : w.heap.size < w1.heap.size := by have := hq1.size; simp at this; omega
      exact (heap_alloc_old w1 _ h1).trans ((hq1.block _ (by simp) (by simp)).trans (heap_alloc_new w _))
    have hcl : w.heap.size < WB.heap.size := lt_of_heap hcb0
    have HCb : Hid (∀ wr s' m' k, PI w WB wr s0 (MBk.init w1.heap.size sb) k s' m' → wr.heap[w.heap.size]? = some (.cells #[.int .i64 a, .int .i64 b, .int .i64 c, .int .i64 d] 23)) := fun wr s' m' k P => (P.nx.keeps.block _ hcl (hfr _ (by simp))).trans hcb0
    have HSt : Hid (∀ (k : Nat) wr s' m' o, o ∈ l → (k : Int) < l.length → PI w WB wr s0 (MBk.init w1.heap.size sb) k s' m' → Calls Tryz.prog 18 #[.pointer (some ⟨w1.heap.size, 0, none⟩), .agg #[.int .i64 o.kind, .int .i64 o.t, .string o.key, .string o.hi, o.lv]] wr fun e w' => e = .returned (.bool true) ∧ ∃ s2 m2, PI w WB w' s0 (MBk.init w1.heap.size sb) ((k + 1 : Nat) : Int) s2 m2) := fun k wr s' m' o ho hk P => by
      have := step_h P.mem P.log (by omega) o (HOk.out o ho) (HCs.out o ho)
      rw [P.nx.bb] at this
      refine this.mono fun e w' ⟨e1, e2⟩ => ⟨e1, ?_⟩
      obtain ⟨s2, m2, P2⟩ := P.step e2
      exact ⟨s2, m2, by rw [show (((k + 1 : Nat)) : Int) = k + 1 by omega]; exact P2⟩
    have HP0 := hidC' P0
    have hsz1 : w.heap.size < w1.heap.size := by have := hq1.size; simp at this; omega
    have hwr : w1.heap.size < WB.heap.size := by rw [← hWB]; simp
    clear P0 hfr hq1 hcb0 hWB hneq HOp HL HCs hcl
    obtain ⟨hcfa, hcfb, hcfd⟩ := hcfg
    go_loopw [8, 6] (fun i u wr => ∃ (k : Nat) (s' : Sto) (m' : MBk), i = .int .i64 k ∧ u = .bool true ∧ k ≤ l.length ∧ Hid (PI w WB wr s0 (MBk.init w1.heap.size sb) k s' m')) (fun i _ _ => l.length - (intOf i).toNat)
    case atStart => exact ⟨0, s0, _, rfl, rfl, Nat.zero_le _, HP0⟩
    case round =>
      obtain ⟨k, s', m', rfl, rfl, hk, HP⟩ := hrel
      by_cases hlt : k < l.length
      · have hlt' : (k : Int) < (l.length : Int) := by omega
        rcases hc with h0 | ⟨g, o, rfl, hg, hcell⟩
        · rw [h0] at hlt; simp at hlt
        obtain ⟨dd, hd⟩ : ∃ d, l[k]? = some d := ⟨_, List.getElem?_eq_getElem hlt⟩
        obtain ⟨p0, p1, p2, p3, p4⟩ := hcell k dd hd
        have hqr := HP.out.mem.quiet
        rw [← hqr.cell hg (by simp)] at p0 p1 p2 p3 p4
        have hdm := List.mem_of_getElem? hd
        obtain ⟨la, lcap, hlv, -⟩ := (HOk.out dd hdm).ch.sh
        have HS := HSt.out k wr s' m' dd hdm hlt' HP.out
        rw [hlv] at p4 HS
        have HS := hidC HS
        clear hcell hd hdm HOk HSt HP HP0 hqr hlv
        go_wp2_with (first
          | (go_at_call 18; refine HS.out.mono ?_; rintro e w2 ⟨rfl, s2, m2, hP2⟩; have HT := toldP hP2; rw [hsb, hcfa, hcfb, hcfd] at HT; have HT := hidC HT; clear hP2)
          | (go_at_call 19; refine HT.out.mono ?_; rintro e w3 ⟨A, TX, RD, VR, rfl, HP3, hATX, hTX, hRD, hVR⟩))
        have hcb := HCb.out _ _ _ _ HP3.out
        obtain ⟨tag, B, -⟩ := HP3.out.mem.bk
        obtain ⟨ac, cc, hcve, -⟩ := B.commitsAt
        have b3 := B.cell.2.2.2
        have hbl := lt_of_heap B.own
        rw [HP3.out.nx.bb, hcve] at b3
        rw [HP3.out.nx.bb] at hbl
        change w3.cell? ⟨w1.heap.size, 3, none⟩ = _ at b3
        change w1.heap.size < w3.heap.size at hbl
        have hclt := lt_of_heap hcb
        have x0 := cell_of_heap (i := 0) hcb
        have x1 := cell_of_heap (i := 1) hcb
        have x3 := cell_of_heap (i := 3) hcb
        simp at x0 x1 x3
        have hqn : Quiet w3 (w3.alloc (.cells #[.int .i64 m2.commits.length, .int .i64 A, .int .i64 ((TX : Int) - A), .int .i64 RD, .int .i64 VR] 50)) := Keeps.alloc _ _
        have hnb : (w3.alloc (.cells #[.int .i64 m2.commits.length, .int .i64 A, .int .i64 ((TX : Int) - A), .int .i64 RD, .int .i64 VR] 50)).heap[w3.heap.size]? = some (.cells #[.int .i64 m2.commits.length, .int .i64 A, .int .i64 ((TX : Int) - A), .int .i64 RD, .int .i64 VR] 50) := heap_alloc_new _ _
        have y0 : (w3.alloc (.cells #[.int .i64 m2.commits.length, .int .i64 A, .int .i64 ((TX : Int) - A), .int .i64 RD, .int .i64 VR] 50)).cell? ⟨w3.heap.size, 0, none⟩ = some (.int .i64 m2.commits.length) := by rw [cell_of_heap hnb]; rfl
        have y1 : (w3.alloc (.cells #[.int .i64 m2.commits.length, .int .i64 A, .int .i64 ((TX : Int) - A), .int .i64 RD, .int .i64 VR] 50)).cell? ⟨w3.heap.size, 1, none⟩ = some (.int .i64 A) := by rw [cell_of_heap hnb]; rfl
        have y2 : (w3.alloc (.cells #[.int .i64 m2.commits.length, .int .i64 A, .int .i64 ((TX : Int) - A), .int .i64 RD, .int .i64 VR] 50)).cell? ⟨w3.heap.size, 2, none⟩ = some (.int .i64 ((TX : Int) - A)) := by rw [cell_of_heap hnb]; rfl
        have y3 : (w3.alloc (.cells #[.int .i64 m2.commits.length, .int .i64 A, .int .i64 ((TX : Int) - A), .int .i64 RD, .int .i64 VR] 50)).cell? ⟨w3.heap.size, 3, none⟩ = some (.int .i64 RD) := by rw [cell_of_heap hnb]; rfl
        have y4 : (w3.alloc (.cells #[.int .i64 m2.commits.length, .int .i64 A, .int .i64 ((TX : Int) - A), .int .i64 RD, .int .i64 VR] 50)).cell? ⟨w3.heap.size, 4, none⟩ = some (.int .i64 VR) := by rw [cell_of_heap hnb]; rfl
        have HPn := hidC' (HP3.out.still hqn)
        rw [← hqn.cell hclt (by simp)] at x0 x1 x3
        rw [← hqn.cell hbl (by simp)] at b3
        have hclc : (m2.commits.length : Int) ≤ 2097152 := by have := HP3.out.log.len.2; simp only [MBk.bk, List.length_map] at this; omega
        have w1' : IntKind.i64.wrap ((A : Int) + ((TX : Int) - (A : Int))) = (TX : Int) := by
          have : (A : Int) + ((TX : Int) - (A : Int)) = (TX : Int) := by omega
          rw [this]; simp [IntKind.wrap, IntKind.bits, IntKind.signed]; omega
        generalize w3.alloc (.cells #[.int .i64 m2.commits.length, .int .i64 A, .int .i64 ((TX : Int) - A), .int .i64 RD, .int .i64 VR] 50) = WN at *
        generalize m2.commits.length = CL at *
        have g1 : ¬ a < (TX : Int) := by omega
        have g2 : ¬ b < (RD : Int) := by omega
        have g3 : ¬ d < (VR : Int) := by omega
        clear B hcve hcb hnb HCb HT HS HP3 hTX hRD hVR hATX
        go_quiet (fail)
        go_wp2
        exact ⟨⟨k + 1, s2, m2, by go_num, rfl, by omega, HPn.out.still (quiet_drewN _ _)⟩, by simp [intOf]; omega⟩
      · have hge : ¬ (k : Int) < (l.length : Int) := by omega
        have hkk : (k : Int) + k ≤ 2097152 := by omega
        have HEn := hidC (ends_at HP.out hkk)
        have hdl := HP.out.deals
        clear hc HSt HOk HP HP0 HCb
        go_wp2_with (first
          | (go_at_call 15; refine HEn.out.mono ?_; rintro e w2 ⟨rfl, s2, m2, hP2, hD2⟩; have HCn := clean_at hP2 hD2; rw [hsb] at HCn; have HCn := hidC HCn; clear hP2 hD2)
          | (go_at_call 20; refine HCn.out.mono ?_; rintro e w3 ⟨rfl, s3, hP3, h03, hv3, -, -⟩; have HTd := told_end hP3 h03 hv3; rw [hsb] at HTd; have HTd := hidC HTd; clear hP3 h03 hv3)
          | (go_at_call 19; refine HTd.out.mono ?_; rintro e w4 ⟨rfl, HP4⟩))
        have hqn : Quiet w4 (w4.alloc (.cells #[.int .i64 m2.commits.length, .int .i64 0, .int .i64 0, .int .i64 0, .int .i64 m2.t.length] 50)) := Keeps.alloc _ _
        have hnb : (w4.alloc (.cells #[.int .i64 m2.commits.length, .int .i64 0, .int .i64 0, .int .i64 0, .int .i64 m2.t.length] 50)).heap[w4.heap.size]? = some (.cells #[.int .i64 m2.commits.length, .int .i64 0, .int .i64 0, .int .i64 0, .int .i64 m2.t.length] 50) := heap_alloc_new _ _
        have y1 : (w4.alloc (.cells #[.int .i64 m2.commits.length, .int .i64 0, .int .i64 0, .int .i64 0, .int .i64 m2.t.length] 50)).cell? ⟨w4.heap.size, 1, none⟩ = some (.int .i64 0) := by rw [cell_of_heap hnb]; rfl
        have y2 : (w4.alloc (.cells #[.int .i64 m2.commits.length, .int .i64 0, .int .i64 0, .int .i64 0, .int .i64 m2.t.length] 50)).cell? ⟨w4.heap.size, 2, none⟩ = some (.int .i64 0) := by rw [cell_of_heap hnb]; rfl
        have y3 : (w4.alloc (.cells #[.int .i64 m2.commits.length, .int .i64 0, .int .i64 0, .int .i64 0, .int .i64 m2.t.length] 50)).cell? ⟨w4.heap.size, 3, none⟩ = some (.int .i64 0) := by rw [cell_of_heap hnb]; rfl
        have y4 : (w4.alloc (.cells #[.int .i64 m2.commits.length, .int .i64 0, .int .i64 0, .int .i64 0, .int .i64 m2.t.length] 50)).cell? ⟨w4.heap.size, 4, none⟩ = some (.int .i64 m2.t.length) := by rw [cell_of_heap hnb]; rfl
        obtain ⟨at_, ct, c2, -⟩ := table_at (HP4.out.still hqn).mem (HP4.out.still hqn).nx
        change World.cell? _ ⟨w1.heap.size, 2, none⟩ = _ at c2
        have HPn := hidC' (HP4.out.still hqn)
        generalize w4.alloc (.cells #[.int .i64 m2.commits.length, .int .i64 0, .int .i64 0, .int .i64 0, .int .i64 m2.t.length] 50) = WN at *
        generalize m2.t.length = TL at *
        clear HEn HCn HTd hnb HP4
        go_quiet (fail)
        go_wp2
        go_ret
        exact ⟨rfl, (HPn.out.still (quiet_drewN _ _)).mem.quiet⟩

end Go.Proofs.YthfimgeopciiiaaGreat
