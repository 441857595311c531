/-
  The document's own store: reads, walked.
-/
import Derived.Test.YthfimgeopciiiaaGreatPlayG
namespace Go.Proofs.YthfimgeopciiiaaGreat
open Go.MapKept Go.ChangeMaps Go.Maps Go.RowKit Go.MuLone
set_option linter.unusedVariables false
attribute [local go_sem ↓ high] append_heldR append_eqR

section
variable {w w' : World} {base : Nat} {m : MRef} {i : Nat} {k : RTx}

set_option maxRecDepth 100000 in
set_option maxHeartbeats 40000000 in
theorem reads_h (H : RefIn w base m) {B : Int} (Bd : RBd m.rs B) (hB : B ≤ 1152921504606846976) (hlen : m.txs.length ≤ 1099511627776) (hv : m.vers.length ≤ 1099511627776) (hrd : m.rs.nReads ≤ 1099511627776) (hi : m.rs.txs[i]? = some k) (h0 : k.st = 0) (x : Bool) (lo hi' : ByteArray) : ReadsOk w base m i k (x, lo, hi') := by
  obtain ⟨g, cap, wa, wc, ra, rc, T⟩ := H.tx hi
  have hkh := Bd.hs i k hi
  have hil0 := T.hi
  have hwl : ∀ (j : Nat) (r : RTx), m.rs.txs[j]? = some r → r.wr.length ≤ 16 := fun j r hr => Bd.wl r (List.mem_of_getElem? hr)
  have hrl := Bd.rl k (List.mem_of_getElem? hi)
  have HR : Hid (∀ wr, Quiet w wr → ∀ (n : Nat) (p : Ent × Unit), k.rd[n]? = some p → ∃ gr, ra = some ⟨gr, 0, none⟩ ∧ wr.cell? ⟨gr, n * 3, none⟩ = some (.string p.1.2.1) ∧ wr.cell? ⟨gr, n * 3 + 1, none⟩ = some (.string p.1.2.2) ∧ wr.cell? ⟨gr, n * 3 + 2, none⟩ = some (.bool (!p.1.1))) := fun wr q n p hp => by
    obtain ⟨gw, e1, -, e2, e3, e4⟩ := (H.quiet q).rrow (T.quiet q) hp
    exact ⟨gw, e1, e2, e3, e4⟩
  have HK : Hid (∀ wr, Quiet w wr → TxAt wr m i k g cap wa wc ra rc ∧ wr.cell? ⟨m.sb, 1, none⟩ = some (.int .i64 m.c2)) := fun wr q => ⟨T.quiet q, by obtain ⟨tag, H1⟩ := H.quiet q; exact H1.cell.2.1⟩
  have HTo : Hid (∀ wr, Quiet w wr → Calls Tryz.prog 113 #[.pointer (some ⟨m.sb, 0, none⟩)] wr fun e w' => e = .returned (.agg #[.int .i64 m.clock, .int .i64 m.rs.nAct, .int .i64 m.rs.nKept, .int .i64 m.rs.nReads, .int .i64 m.vers.length]) ∧ Quiet wr w') := fun wr q => by
    obtain ⟨tag, H1⟩ := H.quiet q
    exact rtold_h H1 hlen hv hrd
  have HL : Hid (∀ wr, Quiet w wr → RLeft w wr base m m.rs) := fun wr q => H.left q
  have HT : Hid (∀ wr, Quiet w wr → ∀ (j : Nat) (r : RTx), m.rs.txs[j]? = some r → ∃ wa wc ra rc, TxAt wr m j r g cap wa wc ra rc ∧ r.wr.length ≤ 16 ∧ (∀ (n : Nat) (p : ByteArray × Cont), r.wr[n]? = some p → ∃ gw, wa = some ⟨gw, 0, none⟩ ∧ wr.cell? ⟨gw, n * 3, none⟩ = some (.string p.1)) ∧
      Calls Tryz.prog 181 #[.pointer (some ⟨m.sb, 0, none⟩), .int .i64 j, .int .i64 i] wr fun e w' => e = .returned (.bool (k.over r)) ∧ Quiet wr w') := fun wr q j r hr => by
    obtain ⟨wa, wc, ra, rc, T'⟩ := (H.quiet q).tx' T hr
    refine ⟨wa, wc, ra, rc, T', hwl j r hr, fun n p hp => ?_, ?_⟩
    · obtain ⟨gw, e1, -, e2, -, -⟩ := (H.quiet q).wrow T' hp
      exact ⟨gw, e1, e2⟩
    · obtain ⟨x, hx, rfl⟩ := rs_at hr
      obtain ⟨y, hy, rfl⟩ := rs_at hi
      obtain ⟨tag, H1⟩ := H.quiet q
      exact roverlap_h H1 hx hy hlen (hsOk_iff Bd.hs)
  have HAb : Hid (∀ wr, Quiet w wr → Calls Tryz.prog 182 #[.pointer (some ⟨m.sb, 0, none⟩), .int .i64 ((i : Int) + 1)] wr fun e w' => e = .returned (.tuple #[]) ∧ RLeft w w' base m (m.rs.abort ((i : Int) + 1))) := fun wr q => ((H.quiet q).abort Bd.hs hlen hi).mono fun e w' ⟨h1, h2⟩ => ⟨h1, RLeft.before q h2⟩
  have HPr : Hid (∀ wr, Quiet w wr → ∃ a5 c5 W5, PushR wr base m i g k ra rc lo hi' x a5 c5 W5) := fun wr q => (H.quiet q).pushR Bd.hs (T.quiet q) lo hi' x (by omega)
  have HIn : Hid (∀ wr, Quiet w wr → RefIn wr base m ∧ ∀ b, m.has b → b < w.heap.size) := fun wr q => ⟨H.quiet q, fun b hb => (H.lt hb).2⟩
  have hany : (look k.rd (x, lo, hi')).isSome = k.rd.any (fun p => decide (p.1 = (x, lo, hi'))) := rd_any.symm
  unfold ReadsOk
  generalize hRR : m.rs.readR k (x, lo, hi') = RR
  have HRR := hidC' hRR
  have HRD : Hid (m.rs.readR k (x, lo, hi') = if ((k.rd.any fun p => decide (p.1 = (x, lo, hi'))) || decide ((m.rs.nReads : Int) < m.c2)) = false then (6, m.rs) else if m.rs.txs.any (fun y => k.past (wroteT (x, lo, hi')) y && y.out) = true then (8, m.rs.abort k.h) else (0, m.rs.readA k (x, lo, hi'))) := by
    show _ = _
    unfold RSt.readR RSt.room
    rw [hany]; rfl
  clear hRR hany
  go_enter Tryz.func116, Tryz.ntmps116
  go_wp2
  have hqA : Quiet w (w.alloc (.cells #[.string lo, .string hi', .bool (!x)] 201)) := Keeps.alloc _ _
  have hbA : (w.alloc (.cells #[.string lo, .string hi', .bool (!x)] 201)).heap[w.heap.size]? = some (.cells #[.string lo, .string hi', .bool (!x)] 201) := heap_alloc_new _ _
  generalize w.alloc (.cells #[.string lo, .string hi', .bool (!x)] 201) = WA at *
  have hsA := lt_of_heap hbA
  have HB : Hid (∀ wr, Quiet WA wr → wr.cell? ⟨w.heap.size, 0, none⟩ = some (.string lo) ∧ wr.cell? ⟨w.heap.size, 1, none⟩ = some (.string hi') ∧ wr.cell? ⟨w.heap.size, 2, none⟩ = some (.bool (!x))) := fun wr q => by
    refine ⟨?_, ?_, ?_⟩ <;> rw [q.cell hsA (by simp), cell_of_heap hbA] <;> rfl
  clear hbA
  go_loopw [8, 9] (fun o j wr => ∃ (n : Nat) (O : Bool), o = .bool O ∧ j = .int .i64 n ∧ n ≤ k.rd.length ∧ Quiet WA wr ∧ Hid ((k.rd.take n).any (fun p => decide (p.1 = (x, lo, hi'))) = O)) (fun _ j _ => k.rd.length - (intOf j).toNat)
  case atStart => exact ⟨0, false, rfl, rfl, Nat.zero_le _, Keeps.refl _ _, rfl⟩
  case round =>
    obtain ⟨n, O, rfl, rfl, hn, hq, HO⟩ := hrel
    have hq' := Quiet.trans' hqA hq
    obtain ⟨T1, c1⟩ := HK.out wr hq'
    have c5 := T1.c5
    have p6 := T1.p6
    have hil : (i : Int) < (m.txs.length : Int) := by have := T1.hi; omega
    obtain ⟨b0, b1, b2⟩ := HB.out wr hq
    have hlw : w.heap.size < wr.heap.size := Nat.lt_of_lt_of_le hsA hq.size
    have hnw : w.heap.size ≠ wr.heap.size := by omega
    by_cases hlt : n < k.rd.length
    · have hlt' : (n : Int) < (k.rd.length : Int) := by omega
      obtain ⟨p, hp⟩ : ∃ p, k.rd[n]? = some p := ⟨_, List.getElem?_eq_getElem hlt⟩
      obtain ⟨gr, rfl, r0, r1, r2⟩ := HR.out wr hq' n p hp
      have HS : Hid ((k.rd.take (n + 1)).any (fun p => decide (p.1 = (x, lo, hi'))) = (O || decide (p.1 = (x, lo, hi')))) := by
        show _ = _
        rw [take_succ_of hp, List.any_append, HO.out]
        simp
      have hqa : Hid (∀ ob, Quiet WA (wr.alloc ob)) := fun ob => Quiet.trans' hq (Keeps.alloc _ _)
      clear HR HK HTo HL HRR HRD T1 T HO hp H HT HAb HPr HIn
      obtain ⟨⟨px, plo, phi⟩, pu⟩ := p
      simp only at r0 r1 r2
      cases O with
      | true =>
        have HN : Hid ((k.rd.take (n + 1)).any (fun p => decide (p.1 = (x, lo, hi'))) = true) := HS.out
        clear HS
        go_wp2
        exact ⟨⟨n + 1, true, rfl, by go_num, by omega, hqa.out _, HN⟩, by simp [intOf]; omega⟩
      | false =>
        by_cases e1 : plo = lo
        · by_cases e2 : phi = hi'
          · have HN : Hid ((k.rd.take (n + 1)).any (fun p => decide (p.1 = (x, lo, hi'))) = ((!px) == (!x))) := by
              have := HS.out
              rw [e1, e2] at this
              refine this.trans ?_
              cases px <;> cases x <;> simp
            have k1 := str_eq e1
            have k2 := str_eq e2
            clear HS e1 e2
            generalize (!px) = pb at *
            generalize (!x) = xb at *
            cases pb <;> cases xb
            all_goals
              go_wp2
              exact ⟨⟨n + 1, _, rfl, by go_num, by omega, hqa.out _, HN⟩, by simp [intOf]; omega⟩
          · have HN : Hid ((k.rd.take (n + 1)).any (fun p => decide (p.1 = (x, lo, hi'))) = false) := hidC' (HS.out.trans (by simp [e2]))
            have k1 := str_eq e1
            have k2 := str_ne e2
            clear HS e1 e2
            go_wp2
            exact ⟨⟨n + 1, false, rfl, by go_num, by omega, hqa.out _, HN⟩, by simp [intOf]; omega⟩
        · have HN : Hid ((k.rd.take (n + 1)).any (fun p => decide (p.1 = (x, lo, hi'))) = false) := hidC' (HS.out.trans (by simp [e1]))
          have k1 := str_ne e1
          clear HS e1
          go_wp2
          exact ⟨⟨n + 1, false, rfl, by go_num, by omega, hqa.out _, HN⟩, by simp [intOf]; omega⟩
    · have hge : ¬ (n : Int) < (k.rd.length : Int) := by omega
      have HO1 : Hid ((k.rd.any fun p => decide (p.1 = (x, lo, hi'))) = O) := hidC' (by have := HO.out; rw [List.take_of_length_le (by omega)] at this; exact this)
      clear HR HO T1
      by_cases hroom : O = false ∧ m.c2 ≤ (m.rs.nReads : Int)
      · obtain ⟨rfl, hroom⟩ := hroom
        have HZ : Hid (RR = (6, m.rs)) := hidC' (by
          rw [← HRR.out, HRD.out, HO1.out, if_pos]
          simp; omega)
        clear HRR HRD HO1
        generalize m.rs.nReads = NR at *
        generalize m.rs.nAct = NA at *
        generalize m.rs.nKept = NK at *
        go_wp2_with (go_at_call 113; refine (HTo.out _ hq').mono ?_; rintro e w1 ⟨rfl, hq1⟩)
        have hqb : Quiet w (w1.alloc (.cells #[.int .i64 m.clock, .int .i64 NA, .int .i64 NK, .int .i64 NR, .int .i64 m.vers.length] 50)) := Quiet.trans' hq' (Quiet.trans' hq1 (Keeps.alloc _ _))
        generalize hWB : w1.alloc (.cells #[.int .i64 m.clock, .int .i64 NA, .int .i64 NK, .int .i64 NR, .int .i64 m.vers.length] 50) = WB at *
        have b3 : WB.cell? ⟨w1.heap.size, 3, none⟩ = some (.int .i64 NR) := by rw [← hWB, cell_of_heap (heap_alloc_new _ _)]; rfl
        have c1' := (HK.out _ hqb).2
        clear hWB HK
        go_quiet (fail)
        go_wp2
        go_ret
        rw [HZ.out]
        exact ⟨rfl, HL.out _ (Quiet.trans' hqb (quiet_drewN _ _))⟩
      · have hgo : O = true ∨ (O = false ∧ ¬ m.c2 ≤ (m.rs.nReads : Int)) := by
          cases O with
          | true => exact .inl rfl
          | false => exact .inr ⟨rfl, fun h => hroom ⟨rfl, h⟩⟩
        have HRA : Hid (RR = if m.rs.txs.any (fun y => k.past (wroteT (x, lo, hi')) y && y.out) = true then (8, m.rs.abort k.h) else (0, m.rs.readA k (x, lo, hi'))) := hidC' (by
          rw [← HRR.out, HRD.out, HO1.out, if_neg]
          rcases hgo with h | ⟨h, h'⟩
          · simp [h]
          · simp; intro _; omega)
        have HRe : Hid (∀ R1, ((O = true ∧ R1 = m.rs) ∨ (O = false ∧ R1 = { m.rs with txs := m.rs.txs.map (addRd ((i : Int) + 1) (x, lo, hi')) })) → { R1 with txs := R1.txs.map (markR ((i : Int) + 1) (hsOf (pidx m.rs.txs (k.past (wroteT (x, lo, hi'))) m.rs.txs.length))) } = m.rs.readA k (x, lo, hi')) := fun R1 hR1 => by
          have e1 : (look k.rd (x, lo, hi')).isSome = O := by rw [← HO1.out]; exact rd_any.symm
          rw [← hkh]
          refine readA_marks Bd.hs (List.mem_of_getElem? hi) _ R1 ?_
          rcases hR1 with ⟨h, rfl⟩ | ⟨h, rfl⟩
          · exact .inl ⟨by rw [e1]; exact h, rfl⟩
          · refine .inr ⟨?_, by rw [hkh]⟩
            cases hl : look k.rd (x, lo, hi') with
            | none => rfl
            | some u => rw [hl] at e1; rw [h] at e1; cases e1
        have hio : ∀ (j : Nat) (r : RTx), m.rs.txs[j]? = some r → (0 ≤ r.i ∧ r.i ≤ B) ∧ (0 ≤ r.o ∧ r.o ≤ B) := fun j r hr => Bd.io r (List.mem_of_getElem? hr)
        have HIo := hidC' hio
        have HHs := hidC' Bd.hs
        have HKi := hidC' hi
        have hln : m.rs.txs.length = m.txs.length := rs_len
        have hhk := hkh
        clear HRR HRD HO1 hroom HL hio Bd H T hwl hi h0
        generalize m.rs.nReads = NR at *
        generalize m.rs.nAct = NA at *
        generalize m.rs.nKept = NK at *
        have hTo := HTo.out _ hq'
        go_wp2_with (go_at_call 113; refine hTo.mono ?_; rintro e w1 ⟨rfl, hq1⟩)
        have hqb : Quiet WA (w1.alloc (.cells #[.int .i64 m.clock, .int .i64 NA, .int .i64 NK, .int .i64 NR, .int .i64 m.vers.length] 50)) := Quiet.trans' hq (Quiet.trans' hq1 (Keeps.alloc _ _))
        generalize hWB : w1.alloc (.cells #[.int .i64 m.clock, .int .i64 NA, .int .i64 NK, .int .i64 NR, .int .i64 m.vers.length] 50) = WB at *
        have b3 : WB.cell? ⟨w1.heap.size, 3, none⟩ = some (.int .i64 NR) := by rw [← hWB, cell_of_heap (heap_alloc_new _ _)]; rfl
        have c1' := (HK.out _ (Quiet.trans' hqA hqb)).2
        clear hWB HTo hTo c1 c5 p6 b0 b1 b2 hq1
        generalize hPp : k.past (wroteT (x, lo, hi')) = P at *
        have HPp := hidC' hPp
        clear hPp
        have HPx : Hid (∀ y : RTx, P y = (k.over y && y.wr.any fun p => coversB (x, lo, hi') p.1)) := fun y => by rw [← HPp.out]; rfl
        rcases hgo with rfl | ⟨rfl, hnr⟩
        all_goals
          go_quiet (fail)
          go_wp2
          have hqn : Quiet WA (WB.drewN nq) := Quiet.trans' hqb (quiet_drewN _ _)
          clear c1' b3 hqb
          generalize WB.drewN nq = W1 at *
          go_loopw [12, 13] (fun pv j wr => ∃ n : Nat, j = .int .i64 n ∧ n ≤ m.txs.length ∧ Quiet W1 wr ∧ Hid (IxAt wr W1.heap.size pv (pidx m.rs.txs P n))) (fun _ j _ => m.txs.length - (intOf j).toNat)
          case atStart => exact ⟨0, rfl, Nat.zero_le _, Keeps.refl _ _, World.ownsRow_nil _ _ _ _⟩
          case round =>
            obtain ⟨n2, rfl, hn2, hq2, HIx⟩ := hrel
            have hqw : Quiet WA wr := Quiet.trans' hqn hq2
            have hqv : Quiet w wr := Quiet.trans' hqA hqw
            obtain ⟨pa, pc, rfl, -⟩ := HIx.out.at
            have hpl := pidx_len (l := m.rs.txs) (P := P) n2
            by_cases hlt2 : n2 < m.txs.length
            · have hlt2' : (n2 : Int) < (m.txs.length : Int) := by omega
              obtain ⟨x2, hx2⟩ : ∃ x2, m.rs.txs[n2]? = some x2 := ⟨_, List.getElem?_eq_getElem (by rw [hln]; exact hlt2)⟩
              obtain ⟨wa2, wc2, ra2, rc2, T2, hwl2, -, -⟩ := HT.out wr hqv n2 x2 hx2
              have c5 := T2.c5
              have HPn := hidC' (pidx_succ (P := P) hx2)
              generalize hPN : pidx m.rs.txs P n2 = PN at *
              clear hPN T2
              go_wp2
              go_loopw [14, 15] (fun mt jj wr' => ∃ (j : Nat) (MT : Bool), mt = .bool MT ∧ jj = .int .i64 j ∧ j ≤ x2.wr.length ∧ Quiet wr wr' ∧ Hid ((x2.wr.take j).any (fun p => coversB (x, lo, hi') p.1) = MT)) (fun _ jj _ => x2.wr.length - (intOf jj).toNat)
              case atStart => exact ⟨0, false, rfl, rfl, Nat.zero_le _, Keeps.refl _ _, rfl⟩
              case round =>
                obtain ⟨j, MT, rfl, rfl, hj, hq3, HM⟩ := hrel
                have hqv3 := Quiet.trans' hqv hq3
                have hqw3 := Quiet.trans' hqw hq3
                obtain ⟨wa3, wc3, ra3, rc3, T3, -, hrow3, hov3⟩ := HT.out _ hqv3 n2 x2 hx2
                have c5' := T3.c5
                have p5' := T3.p5
                obtain ⟨b0, b1, b2⟩ := HB.out _ hqw3
                by_cases hjl : j < x2.wr.length
                · have hjl' : (j : Int) < (x2.wr.length : Int) := by omega
                  obtain ⟨p3, hp3⟩ : ∃ p3, x2.wr[j]? = some p3 := ⟨_, List.getElem?_eq_getElem hjl⟩
                  obtain ⟨gw, rfl, l0⟩ := hrow3 j p3 hp3
                  have HS : Hid ((x2.wr.take (j + 1)).any (fun p => coversB (x, lo, hi') p.1) = (MT || coversB (x, lo, hi') p3.1)) := hidC' (by rw [any_take_succ hp3, HM.out])
                  have HH : Hid (∀ W', Calls Tryz.prog 180 #[.agg #[.string lo, .string hi', .bool (!x)], .string p3.1] W' fun e w' => e = .returned (.bool (coversB (x, lo, hi') p3.1)) ∧ Quiet W' w') := fun W' => rhas_h x lo hi' p3.1 W'
                  clear hrow3 hov3 T3 HM hp3 HT HK HAb HPr HIn HRA HRe HIo HHs HKi HPp HPx HPn HIx hx2 c5
                  generalize coversB (x, lo, hi') p3.1 = cv at *
                  go_wp2
                  go_region_with (go_at_call 180; refine (HH.out _).mono ?_; rintro e w7 ⟨rfl, hq7⟩)
                  all_goals
                    clear c5' p5' b0 b1 b2 l0 HH
                    cases MT <;> cases cv
                  all_goals
                    go_wp2
                    exact ⟨⟨j + 1, _, rfl, by go_num, by omega, Quiet.trans' hq3 (Quiet.trans' (Keeps.drew _) hq7), HS⟩, by simp [intOf]; omega⟩
                · have hjge : ¬ (j : Int) < (x2.wr.length : Int) := by omega
                  have HPv : Hid (P x2 = (k.over x2 && MT)) := hidC' (by rw [HPx.out, ← HM.out, List.take_of_length_le (by omega)])
                  have HOv := hidC hov3
                  have hix3 := HIx.out.quiet hq3
                  generalize k.over x2 = ov at *
                  clear hrow3 hov3 T3 HM b0 b1 b2 HT HK HAb HPr HIn HRA HRe HIo HHs HKi HPp HPx HIx hx2 c5
                  by_cases hb : ov = true ∧ MT = true
                  · obtain ⟨rfl, rfl⟩ := hb
                    have HE : Hid (pidx m.rs.txs P (n2 + 1) = PN ++ [n2]) := hidC' (by rw [HPn.out, HPv.out]; rfl)
                    obtain ⟨i0, hi0, hz0, hz1, hz2⟩ := info_parts info_int
                    clear HPn HPv
                    go_wp2_with (first
                      | (go_at_call 181; refine HOv.out.mono ?_; rintro e w8 ⟨rfl, hq8⟩; have hown8 : w8.ownsRow W1.heap.size 3 1 (.slice pa PN.length pc) PN.length (PN.map fun n : Nat => Value.int .i64 (n : Int)) := hix3.quiet hq8; have hs8 := (Quiet.trans' hq2 (Quiet.trans' hq3 hq8)).size)
                      | (at_builtin; refine wpList_append_own_at _ rfl _ _ 75 rfl W1.heap.size 3 i0 (.int .i64 0) 1 8 Tryz.underlying75 hi0 hz0 hz1 hz2 rfl (by decide) _ _ _ (by simp [go_sem]) (hown8.alloc _) ⟨w8.heap.size, 0, none⟩ 1 1 [.int .i64 n2] (by simp [go_sem]) rfl (cell_oneNew w8 _ 3) (by simp [Value.oneCell']) (by unfold maxLen; omega) (by omega) (by simp; omega) ?_))
                    intro v' w5 hown5 hgrow hnil hloc
                    have k5 := keeps_of_grown hgrow
                    have hlo5 := hown8.lt
                    have hq5 : Quiet W1 w5 := Quiet.of_new (Quiet.trans' hq2 (Quiet.trans' hq3 (Quiet.trans' hq8 (Keeps.alloc _ _)))) k5 (fun b hb => (hlo5 b hb).1)
                    have hown6 : Hid (IxAt w5 W1.heap.size v' (pidx m.rs.txs P (n2 + 1))) := hidC' (by rw [HE.out]; exact IxAt.snoc hown5)
                    clear hown5 hgrow hnil hloc k5 hlo5 hown8 HE
                    go_wp2
                    go_roundw
                    case rel => exact ⟨n2 + 1, by go_num, by omega, hq5, hown6⟩
                    case measure => simp [intOf]; omega
                  · have HE : Hid (pidx m.rs.txs P (n2 + 1) = PN) := hidC' (by
                      rw [HPn.out, HPv.out, if_neg (by simpa using hb), List.append_nil])
                    clear HPn HPv
                    cases ov with
                    | false =>
                      go_wp2_with (go_at_call 181; refine HOv.out.mono ?_; rintro e w8 ⟨rfl, hq8⟩)
                      all_goals exact ⟨⟨n2 + 1, by go_num, by omega, Quiet.trans' hq2 (Quiet.trans' hq3 hq8), hidC' (by rw [HE.out]; exact hix3.quiet hq8)⟩, by simp [intOf]; omega⟩
                    | true =>
                      have hMT : MT = false := by simpa using hb
                      subst hMT
                      go_wp2_with (go_at_call 181; refine HOv.out.mono ?_; rintro e w8 ⟨rfl, hq8⟩)
                      all_goals exact ⟨⟨n2 + 1, by go_num, by omega, Quiet.trans' hq2 (Quiet.trans' hq3 hq8), hidC' (by rw [HE.out]; exact hix3.quiet hq8)⟩, by simp [intOf]; omega⟩
            · have hge2 : ¬ (n2 : Int) < (m.txs.length : Int) := by omega
              have hn2e : n2 = m.rs.txs.length := by omega
              have HMem : Hid (∀ (q p : Nat), (pidx m.rs.txs P n2)[q]? = some p → ∃ y, m.rs.txs[p]? = some y ∧ P y = true) := fun q p hp => by
                obtain ⟨h1, y, h2, h3⟩ := pidx_mem.1 (List.mem_of_getElem? hp)
                exact ⟨y, h2, h3⟩
              have HAny : Hid ((∀ (q p : Nat) (y : RTx), (pidx m.rs.txs P n2)[q]? = some p → m.rs.txs[p]? = some y → y.out = false) → m.rs.txs.any (fun y => P y && y.out) = false) := fun hall => by
                rw [List.any_eq_false]
                intro y hy
                obtain ⟨p, hp⟩ := List.getElem?_of_mem hy
                cases hP : P y with
                | false => simp
                | true =>
                  have hm : p ∈ pidx m.rs.txs P n2 := pidx_mem.2 ⟨by rw [hn2e]; exact (List.getElem?_eq_some_iff.1 hp).1, y, hp, hP⟩
                  obtain ⟨q, hq⟩ := List.getElem?_of_mem hm
                  simp [hall q p y hq hp]
              have HNd := hidC' (pidx_nd (l := m.rs.txs) (P := P) n2)
              rw [← hn2e] at HRe
              generalize hPI : pidx m.rs.txs P n2 = PI at *
              clear hPI
              obtain ⟨g0, cap0, wa0, wc0, ra0, rc0, T0⟩ : ∃ g0 cap0 wa0 wc0 ra0 rc0, TxAt wr m i k g0 cap0 wa0 wc0 ra0 rc0 := (HIn.out _ hqv).1.tx HKi.out
              have c5 := T0.c5
              clear T0
              go_wp2
              go_loopw [18] (fun jj wr' => ∃ j : Nat, jj = .int .i64 j ∧ j ≤ PI.length ∧ Quiet wr wr' ∧ Hid (∀ (q p : Nat) (y : RTx), q < j → PI[q]? = some p → m.rs.txs[p]? = some y → y.out = false)) (fun jj _ => PI.length - (intOf jj).toNat)
              case atStart => exact ⟨0, rfl, Nat.zero_le _, Keeps.refl _ _, fun q p y h => absurd h (by omega)⟩
              case round =>
                obtain ⟨j, rfl, hj, hq4, HO4⟩ := hrel
                have hqv4 := Quiet.trans' hqv hq4
                have hqw4 := Quiet.trans' hqw hq4
                have hix4 := HIx.out.quiet hq4
                by_cases hjl : j < PI.length
                · have hjl' : (j : Int) < (PI.length : Int) := by omega
                  obtain ⟨p4, hp4⟩ : ∃ p4, PI[j]? = some p4 := ⟨_, List.getElem?_eq_getElem hjl⟩
                  obtain ⟨y, hy, hPy⟩ := HMem.out j p4 hp4
                  obtain ⟨pa', pc', epa, hprow⟩ := hix4.at
                  obtain ⟨rfl, -, rfl⟩ : pa = pa' ∧ True ∧ pc = pc' := by simpa using epa
                  rcases hprow with h0' | ⟨gp, rfl, -, -, hgp, hpcell⟩
                  · rw [h0'] at hjl; simp at hjl
                  have l4 := hpcell j p4 hp4
                  obtain ⟨wa4, wc4, ra4, rc4, T4, -, -, -⟩ := HT.out _ hqv4 p4 y hy
                  have hp4l : (p4 : Int) < (m.txs.length : Int) := by have := T4.hi; omega
                  have c5' := T4.c5
                  have q0 := T4.p0
                  have q1 := T4.p1
                  have q2 := T4.p2
                  have q3 := T4.p3
                  have q4 := T4.p4
                  have q5 := T4.p5
                  have q6 := T4.p6
                  have z1 := T4.hsb
                  have z2 := T4.hg
                  have z1' := Nat.ne_of_lt z1
                  have z2' := Nat.ne_of_lt z2
                  have z3' := Nat.ne_of_lt hgp
                  have HAbx := HAb.out
                  have HRy : Hid (y.out = true → RR = (8, m.rs.abort ((i : Int) + 1))) := fun h => by
                    rw [HRA.out, if_pos, hhk]
                    exact List.any_eq_true.2 ⟨y, List.mem_of_getElem? hy, by rw [hPy, h]; rfl⟩
                  have HO5 : Hid (y.out = false → ∀ (q p : Nat) (y : RTx), q < j + 1 → PI[q]? = some p → m.rs.txs[p]? = some y → y.out = false) := fun h q p z hq hp hz => by
                    by_cases e : q = j
                    · subst e
                      rw [hp4] at hp
                      obtain rfl := Option.some.inj hp
                      rw [hy] at hz
                      obtain rfl := Option.some.inj hz
                      exact h
                    · exact HO4.out q p z (by omega) hp hz
                  have HAbj : Hid (∀ W', Quiet w W' → Calls Tryz.prog 182 #[.pointer (some ⟨m.sb, 0, none⟩), .int .i64 ((i : Int) + 1)] W' fun e w' => e = .returned (.tuple #[]) ∧ RLeft w w' base m (m.rs.abort ((i : Int) + 1))) := HAbx
                  clear hpcell T4 hy hPy hp4 HO4 HMem HAny HNd HT HK HAb HPr HIn HRA HRe HIo HHs HKi HPp HPx HIx hix4 epa HAbx c5
                  have hou : y.out = (!decide (y.st = 0) && decide (0 < y.o)) := rfl
                  have HOu := hidC' hou
                  clear hou
                  go_wp2
                  go_region
                  have hqz : Quiet wr ((wr.alloc (.cells #[.int .i64 y.bg, .int .i64 y.cm, .int .i64 y.st, .int .i64 y.i, .int .i64 y.o, .slice wa4 y.wr.length wc4, .slice ra4 y.rd.length rc4] 197)).drew) := Quiet.trans' (Keeps.alloc _ _) (Keeps.drew _)
                  have s2 : ((wr.alloc (.cells #[.int .i64 y.bg, .int .i64 y.cm, .int .i64 y.st, .int .i64 y.i, .int .i64 y.o, .slice wa4 y.wr.length wc4, .slice ra4 y.rd.length rc4] 197)).drew).cell? ⟨wr.heap.size, 2, none⟩ = some (.int .i64 y.st) := (cell_of_heap (w := (wr.alloc _).drew) (heap_alloc_new wr _)).trans rfl
                  have s4 : ((wr.alloc (.cells #[.int .i64 y.bg, .int .i64 y.cm, .int .i64 y.st, .int .i64 y.i, .int .i64 y.o, .slice wa4 y.wr.length wc4, .slice ra4 y.rd.length rc4] 197)).drew).cell? ⟨wr.heap.size, 4, none⟩ = some (.int .i64 y.o) := (cell_of_heap (w := (wr.alloc _).drew) (heap_alloc_new wr _)).trans rfl
                  generalize (wr.alloc (.cells #[.int .i64 y.bg, .int .i64 y.cm, .int .i64 y.st, .int .i64 y.i, .int .i64 y.o, .slice wa4 y.wr.length wc4, .slice ra4 y.rd.length rc4] 197)).drew = WZ at *
                  clear q0 q1 q2 q3 q4 q5 q6 c5' l4
                  generalize y.st = ys at *
                  generalize y.o = yo at *
                  by_cases hs : ys = 0
                  · subst hs
                    have HN := hidC' (HO5.out (by rw [HOu.out]; rfl))
                    clear HO5 HRy HOu HAbj
                    go_wp2
                    exact ⟨⟨j + 1, by go_num, by omega, Quiet.trans' hq4 hqz, HN⟩, by simp [intOf]; omega⟩
                  have hs' : (ys == 0) = false := by simpa using hs
                  by_cases ho : 0 < yo
                  · have HZ := hidC' (HRy.out (by rw [HOu.out]; simp [hs, ho]))
                    have HAz := hidC (HAbj.out WZ (Quiet.trans' hqv4 hqz))
                    clear HO5 HRy HOu HAbj
                    go_wp2_with (go_at_call 182; refine HAz.out.mono ?_; rintro e w9 ⟨rfl, hL9⟩)
                    go_ret
                    rw [HZ.out]
                    exact ⟨rfl, hL9⟩
                  · have HN := hidC' (HO5.out (by rw [HOu.out]; simp [ho]))
                    clear HO5 HRy HOu HAbj
                    go_wp2
                    exact ⟨⟨j + 1, by go_num, by omega, Quiet.trans' hq4 hqz, HN⟩, by simp [intOf]; omega⟩
                · have hjge : ¬ (j : Int) < (PI.length : Int) := by omega
                  have HRf : Hid (RR = (0, m.rs.readA k (x, lo, hi'))) := hidC' (by
                    rw [HRA.out, if_neg]
                    rw [HAny.out (fun q p y hp hy => HO4.out q p y (by have := (List.getElem?_eq_some_iff.1 hp).1; omega) hp hy)]
                    simp)
                  have hsW := (Quiet.trans' hqA hqn).size
                  have hml := (HIn.out _ hqv4).2
                  obtain ⟨T6, -⟩ := HK.out _ hqv4
                  have c5' := T6.c5
                  have p6' := T6.p6
                  have z1 := T6.hsb
                  have z2 := T6.hg
                  have z1' := Nat.ne_of_lt z1
                  have z2' := Nat.ne_of_lt z2
                  obtain ⟨b0, b1, b2⟩ := HB.out _ hqw4
                  have zb := Nat.lt_of_lt_of_le hsA hqw4.size
                  have zb' := Nat.ne_of_lt zb
                  clear HRA HAny HO4 HK HT HAb HPp c5 T6
                  first
                  | (have hnew := hnr
                     obtain ⟨a5, c5n, W5, G5⟩ := HPr.out _ hqv4
                     have HS5 : Hid (∃ R1 m1, R1 = { m.rs with txs := m.rs.txs.map (addRd ((i : Int) + 1) (x, lo, hi')) } ∧ RefIn (W5.setCell ⟨g, i * 7 + 6, none⟩ (.slice a5 (k.rd.length + 1) c5n)) base m1 ∧ RTurn w (W5.setCell ⟨g, i * 7 + 6, none⟩ (.slice a5 (k.rd.length + 1) c5n)) m m1 ∧ m1.rs = R1 ∧ IxAt (W5.setCell ⟨g, i * 7 + 6, none⟩ (.slice a5 (k.rd.length + 1) c5n)) W1.heap.size (.slice pa PI.length pc) PI ∧ (∀ b, (Value.slice pa PI.length pc).ownBlock = some b → ¬ m1.has b) ∧ { R1 with txs := R1.txs.map (markR ((i : Int) + 1) (hsOf PI)) } = m.rs.readA k (x, lo, hi')) := by
                       obtain ⟨m1, h1, h2, h3⟩ := G5.left
                       refine ⟨_, m1, rfl, h1, (RTurn.quiet m hqv4).trans h2, h3, ?_, fun b hb hm1 => ?_, HRe.out _ (.inr ⟨by simp, rfl⟩)⟩
                       · exact ownsRow_of_block hix4 (fun b hb => h2.keeps.block b (hix4.lt b hb).2 (fun hm => by have := hml b hm; have := (hix4.lt b hb).1; omega))
                       · have hb' := hix4.lt b hb
                         rcases h2.fresh b hm1 with h | h
                         · have := hml b h; omega
                         · omega
                     have happ := G5.app
                     have hcl := G5.cell
                     have hfz := G5.frz
                     have h5c := G5.old5.trans c5'
                     change (heldAppendR _ _ _).run _ _ = _ at happ
                     clear G5 HPr hix4 HIx HRe
                     go_wp2
                     go_region
                     go_wp2
                     generalize W5.setCell ⟨g, i * 7 + 6, none⟩ (.slice a5 (k.rd.length + 1) c5n) = W3 at *
                     clear happ hcl hfz h5c)
                  | (have HS5 : Hid (∃ R1 m1, R1 = m.rs ∧ RefIn wr base m1 ∧ RTurn w wr m m1 ∧ m1.rs = R1 ∧ IxAt wr W1.heap.size (.slice pa PI.length pc) PI ∧ (∀ b, (Value.slice pa PI.length pc).ownBlock = some b → ¬ m1.has b) ∧ { R1 with txs := R1.txs.map (markR ((i : Int) + 1) (hsOf PI)) } = m.rs.readA k (x, lo, hi')) := by
                       refine ⟨_, m, rfl, (HIn.out _ hqv4).1, RTurn.quiet m hqv4, rfl, hix4, fun b hb hm1 => ?_, HRe.out _ (.inl ⟨by simp, rfl⟩)⟩
                       have := hml b hm1
                       have := (hix4.lt b hb).1
                       omega
                     clear HPr hix4 HIx HRe
                     go_wp2
                     generalize wr = W3 at *)
                  obtain ⟨R1, m1, hR1, hI1, hT1, hr1, hix1, hnot1, hre1⟩ := HS5.out
                  have hR1h : R1.hsOk := by
                    rw [hR1]
                    first
                    | exact HHs.out
                    | exact HHs.out.map _ (addRd_h _ _)
                  have hR1t : ∀ (q : Nat) (y : RTx), m.rs.txs[q]? = some y → ∃ y1, R1.txs[q]? = some y1 ∧ y1.o = y.o ∧ y1.i = y.i := fun q y hy => by
                    rw [hR1]
                    first
                    | exact ⟨y, hy, rfl, rfl⟩
                    | (refine ⟨addRd ((i : Int) + 1) (x, lo, hi') y, ?_, ?_, ?_⟩
                       · show (m.rs.txs.map _)[q]? = _
                         rw [List.getElem?_map, hy]; rfl
                       · unfold addRd; split <;> rfl
                       · unfold addRd; split <;> rfl)
                  have hR1l : R1.txs.length = m.txs.length := by
                    rw [hR1]
                    first
                    | exact hln
                    | (show (m.rs.txs.map _).length = _; rw [List.length_map]; exact hln)
                  have hsb1 : m1.sb = m.sb := hT1.sb
                  have HSt : Hid (∀ (wx : World) (m' : MRef) (n5 p5 : Nat), MarkI W3 wx base m1 R1 i PI n5 m' → PI[n5]? = some p5 → p5 ≠ i ∧ m'.sb = m.sb ∧ ∃ ov iv g5 cap5, (0 ≤ ov ∧ ov ≤ 2305843009213693952) ∧ (0 ≤ iv ∧ iv ≤ 2305843009213693952) ∧ Bumps wx base m' i p5 ov iv g5 cap5 ∧ m'.txs.length = m.txs.length ∧ ∃ gp, pa = some ⟨gp, 0, none⟩ ∧ wx.cell? ⟨gp, n5, none⟩ = some (.int .i64 p5) ∧ (wx.setCell ⟨g5, i * 7 + 4, none⟩ (.int .i64 (ov + 1))).cell? ⟨gp, n5, none⟩ = some (.int .i64 p5)) := fun wx m' n5 p5 M5 hp5 => by
                    obtain ⟨y5, hy5, hPy5⟩ := HMem.out n5 p5 hp5
                    have hne5 : p5 ≠ i := fun e => by
                      subst e
                      rw [HKi.out] at hy5
                      obtain rfl := Option.some.inj hy5
                      rw [HPx.out, over_self] at hPy5
                      cases hPy5
                    obtain ⟨k1, hk1, eo, -⟩ := hR1t i k HKi.out
                    obtain ⟨y1, hy1, -, ei⟩ := hR1t p5 y5 hy5
                    obtain ⟨ov, iv, g5, cap5, ho5, hi5, Bu, hl5⟩ := M5.facts hR1h hk1 hy1 hB (by omega) (by rw [eo]; exact (HIo.out i k HKi.out).2) (by rw [ei]; exact (HIo.out p5 y5 hy5).1)
                    obtain ⟨pa', pc', epa, hprow⟩ := hix1.at
                    obtain ⟨rfl, -, rfl⟩ : pa = pa' ∧ True ∧ pc = pc' := by simpa using epa
                    rcases hprow with h0' | ⟨gp, rfl, hob, hgb, hgp, hpcell⟩
                    · rw [h0'] at hp5; simp at hp5
                    have hnm1 : ¬ m1.has gp := hnot1 gp hob
                    have hnm' : ¬ m'.has gp := fun h => by
                      rcases M5.turn.fresh gp h with h | h
                      · exact hnm1 h
                      · omega
                    have hcw : wx.heap[gp]? = W3.heap[gp]? := M5.turn.keeps.block gp hgp hnm1
                    have hcx := (World.cell?_of_block (a := ⟨gp, n5, none⟩) hcw).trans (hpcell n5 p5 hp5)
                    exact ⟨hne5, M5.turn.sb.trans hsb1, ov, iv, g5, cap5, ho5, hi5, Bu, by rw [hl5]; exact hR1l, gp, rfl, hcx, (World.cell?_of_block (a := ⟨gp, n5, none⟩) (Bu.old gp hnm')).trans hcx⟩
                  have HM0 : Hid (MarkI W3 W3 base m1 R1 i PI 0 m1) := ⟨hI1, RTurn.refl _ _, by rw [hr1]; simp only [List.take_zero]; rw [show hsOf [] = [] from rfl]; rw [show (markR ((i : Int) + 1) []) = id from funext (markR_nil _)]; rw [List.map_id]⟩
                  have HFin : Hid (∀ wx m', MarkI W3 wx base m1 R1 i PI PI.length m' → RLeft w wx base m RR.2) := fun wx m' M5 => ⟨m', M5.is, hT1.trans M5.turn, by rw [M5.rs, List.take_length, HRf.out]; exact hre1⟩
                  have HRz : Hid (RR.1 = 0) := hidC' (by rw [HRf.out])
                  clear hR1 hI1 hT1 hr1 hix1 hnot1 hre1 hR1h hR1t hR1l HS5 HRf HIo HHs HKi HMem HIn hml c5' p6' b0 b1 b2
                  go_loopw [20] (fun jj wr' => ∃ (j : Nat) (m' : MRef), jj = .int .i64 j ∧ j ≤ PI.length ∧ Hid (MarkI W3 wr' base m1 R1 i PI j m')) (fun jj _ => PI.length - (intOf jj).toNat)
                  case atStart => exact ⟨0, m1, rfl, Nat.zero_le _, HM0⟩
                  case round =>
                    obtain ⟨j5, m', rfl, hj5, HM⟩ := hrel
                    by_cases hj5l : j5 < PI.length
                    · have hj5l' : (j5 : Int) < (PI.length : Int) := by omega
                      obtain ⟨p5, hp5⟩ : ∃ p5, PI[j5]? = some p5 := ⟨_, List.getElem?_eq_getElem hj5l⟩
                      obtain ⟨hne5, hsb5, ov, iv, g5, cap5, ho5, hi5, Bu, hl5, gp, rfl, l5, l6⟩ := HSt.out _ _ _ _ HM.out hp5
                      obtain ⟨m'', hM''⟩ := HM.out.step hp5 HNd.out hne5 Bu.left
                      have HM2 := hidC' hM''
                      have c5' := Bu.c5
                      have p4' := Bu.p4
                      have f4 := Bu.f4
                      have d5 := Bu.d5
                      have q3 := Bu.q3
                      have f3 := Bu.f3
                      rw [hsb5, hl5] at c5' d5
                      have hb5 : (p5 : Int) < (m.txs.length : Int) := by have := Bu.hb; omega
                      have hib : (i : Int) < (m.txs.length : Int) := by omega
                      clear Bu hM'' HM hp5 HSt HM0 HFin HRz hne5 hsb5 hl5 HNd
                      go_wp2
                      clear c5' p4' f4 l5
                      generalize wr.setCell ⟨g5, i * 7 + 4, none⟩ (.int .i64 (ov + 1)) = W6 at *
                      go_region
                      go_wp2
                      exact ⟨⟨j5 + 1, m'', by go_num, by omega, hidC' (HM2.out.quiet (Keeps.drew _))⟩, by simp [intOf]; omega⟩
                    · have hge5 : ¬ (j5 : Int) < (PI.length : Int) := by omega
                      have hj5e : j5 = PI.length := by omega
                      subst hj5e
                      have hL := HFin.out _ _ HM.out
                      have HL5 := hidC' hL
                      clear hL HFin HSt HM0 HM
                      go_wp2
                      go_ret
                      exact ⟨by rw [HRz.out]; rfl, HL5.out⟩

end
end Go.Proofs.YthfimgeopciiiaaGreat
