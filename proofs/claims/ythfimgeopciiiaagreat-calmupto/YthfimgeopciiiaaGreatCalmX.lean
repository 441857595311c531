/-
  Calm: the walk.
-/
import Derived.Test.YthfimgeopciiiaaGreatCalmV
namespace Go.Proofs.YthfimgeopciiiaaGreat
open Go.MapKept Go.ChangeMaps Go.Maps Go.RowKit Go.MuLone
set_option linter.unusedVariables false

set_option maxRecDepth 100000 in
set_option maxHeartbeats 3000000 in
theorem calm_h (w : World) (v : Value) (l : List StepD) (hl : ScriptAt w v l) (rv : Value) (rl : List StepD) (hrl : ScriptAt w rv rl) (key value : ByteArray) (hlen : l.length + rl.length ≤ 1048574) (hcs : ∀ o ∈ l, o.cs.length ≤ 1048576) (hrs : ∀ o ∈ rl, o.cs.length ≤ 1048576) :
    Calls Tryz.prog 7 #[v, rv, .string key, .string value] w fun e w' => e = .returned (.bool true) ∧ Quiet w w' := by
  have hneq : ∀ (g : Nat) (W : World), (binOp .eql 29 (.pointer (some ⟨g, 0, none⟩)) (.pointer none)).run Tryz.prog W = .ok (.bool false) W := fun g W => by kernel_rfl
  have HW : Hid (∀ W, Calls Tryz.prog 21 #[] W fun e w' => e = .returned (.agg #[.int .i64 32, .int .i64 64, .int .i64 16, .int .i64 128]) ∧ Quiet W w') := fun W => whole_h W
  have HOp : Hid (∀ W, Quiet w W → Calls Tryz.prog 13 #[.agg #[.int .i64 32, .int .i64 64, .int .i64 16, .int .i64 128]] W fun e w' => ∃ sb, e = .returned (.tuple #[.pointer (some ⟨sb, 0, none⟩), .bool true]) ∧ ∃ s, s.sb = sb ∧ (s.abs.c1 = 32 ∧ s.abs.c3 = 16 ∧ s.abs.c4 = 128) ∧ PI w (w'.alloc (.cells #[.pointer (some ⟨sb, 0, none⟩), .slice none 0 0, .slice none 0 0, .slice none 0 0] 38)) (w'.alloc (.cells #[.pointer (some ⟨sb, 0, none⟩), .slice none 0 0, .slice none 0 0, .slice none 0 0] 38)) s (MBk.init w'.heap.size sb) 0 s (MBk.init w'.heap.size sb)) := fun W hW => (opened_ok 32 64 16 128 W rfl).mono fun e w' ⟨N, e1, e2, e3, e4⟩ => by
    refine ⟨N + 2, e1, newSto 32 64 16 128 N (N + 2), rfl, ⟨rfl, rfl, rfl⟩, PI.start (start_mem (Quiet.trans' hW e4) e3 rfl (fun x hx => ?_)) (start_log rfl _ _ _ _)⟩
    have := (newSto_foot x hx).1
    have := hW.size
    omega
  have HL := hidC' hl
  have HCs := hidC' hcs
  have HRs := hidC' hrs
  obtain ⟨⟨ra, rcap, rfl, hrc⟩, hrok, -⟩ := hrl
  have HROk : Hid (∀ s ∈ rl, StepOk w s) := hrok
  clear hl hcs hrs hrok
  go_enter Tryz.func7, Tryz.ntmps7
  go_wp2_with (first
    | (go_at_call 21; refine (HW.out _).mono ?_; rintro e w0 ⟨rfl, hq0⟩)
    | (go_at_call 13; refine (HOp.out _ hq0).mono ?_; rintro e w1 ⟨sb, rfl, s0, hsb, hcfg, P0⟩; have HPl := hidC (plays_at P0 v l HL.out (by omega) HCs.out); clear P0)
    | (go_at_call 14; refine HPl.out.mono ?_; rintro e w2 ⟨rfl, s2, m2, P2⟩; have HEn := hidC (ends_at P2 (by omega)); have hd2 := P2.deals; clear P2)
    | (go_at_call 15; refine HEn.out.mono ?_; rintro e w3 ⟨rfl, s3, m3, P3, D3⟩; have HCn := clean_at P3 D3; rw [hsb] at HCn; have HCn := hidC HCn; clear P3 D3)
    | (go_at_call 20; refine HCn.out.mono ?_; rintro e w4 ⟨rfl, s4, P4, h40, hv4, -, -⟩; have HS1 := hidC (stepB P4 (by omega)); have HP4 := hidC' (And.intro P4 h40); clear P4 h40 hv4)
    | (go_at_call 18; refine HS2.out.mono ?_; rintro e w6 ⟨rfl, s6, m6, P6, ha6⟩; have HP6 := hidC' (And.intro P6 ha6); obtain ⟨ad6, cd6, c16⟩ := dealsCell P6; change w6.cell? ⟨w1.heap.size, 1, none⟩ = _ at c16; clear P6 ha6)
    | (go_at_call 18; refine HS1.out.mono ?_; rintro e w5 ⟨rfl, s5, m5, P5, ha5⟩; have HS2 := hidC (stepB P5 (by omega)); have HP5 := hidC' (And.intro P5 ha5); clear P5 ha5))
  subst hsb
  obtain ⟨n0, hn0⟩ : ∃ n0 : Nat, (0 : Int) + l.length + m2.deals.length + 1 + 1 + 1 = n0 := ⟨l.length + m2.deals.length + 3, by omega⟩
  have hnb : n0 + rl.length ≤ 2097152 := by omega
  have HRI := hidC' (PI.riStart HP4.out.1 HP4.out.2 hcfg HP6.out.1 (by rw [HP6.out.2, HP5.out.2]))
  rw [hn0] at HRI
  have hN2 : 2 ≤ (m6.deals.length : Int) ∧ (m6.deals.length : Int) ≤ 2097152 := by
    have h1 := HRI.out.q.N0
    obtain ⟨t1, ht1⟩ := HRI.out.q.act (m6.deals.length - 1) (by simp)
    have h2 := (HRI.out.q.inv.hs t1 (act_mem' ht1).1).1
    rw [(act_mem' ht1).2.1] at h2
    omega
  clear HP4 HP5 HP6 HS1 HS2 HCn HEn HPl HL HCs hcfg hneq HOp HW hd2 c16
  generalize m6.deals.length = N at *
  generalize w1.alloc (.cells #[.pointer (some ⟨s0.sb, 0, none⟩), .slice none 0 0, .slice none 0 0, .slice none 0 0] 38) = WB at *
  go_loopw [10, 16] (fun u i wr => ∃ (k : Nat) (s' : Sto) (m' : MBk), u = .bool true ∧ i = .int .i64 k ∧ k ≤ rl.length ∧ Hid (RI w WB wr s0 (MBk.init w1.heap.size s0.sb) (n0 + k) N s' m')) (fun _ i _ => rl.length - (intOf i).toNat)
  case atStart => exact ⟨0, s6, m6, rfl, rfl, Nat.zero_le _, by simpa using HRI⟩
  case round =>
    obtain ⟨k, s', m', rfl, rfl, hk, HR⟩ := hrel
    by_cases hlt : k < rl.length
    · have hlt' : (k : Int) < (rl.length : Int) := by omega
      rcases hrc with h0 | ⟨g, o, rfl, hg, hcell⟩
      · rw [h0] at hlt; simp at hlt
      obtain ⟨d, hd⟩ : ∃ d, rl[k]? = some d := ⟨_, List.getElem?_eq_getElem hlt⟩
      obtain ⟨p0, p1, p2, p3, p4⟩ := hcell k d hd
      have hqr := HR.out.pi.mem.quiet
      rw [← hqr.cell hg (by simp)] at p0 p1 p2 p3 p4
      have hgr : g < wr.heap.size := by have := hqr.size; omega
      have hdm := List.mem_of_getElem? hd
      obtain ⟨la, lcap, hlv, -⟩ := (HROk.out d hdm).ch.sh
      have HS : Hid (d.kind = 2 ∨ d.kind = 3 → ∀ (t : Int), t = N ∨ t = N - 1 → ∀ ob, Calls Tryz.prog 18 #[.pointer (some ⟨w1.heap.size, 0, none⟩), .agg #[.int .i64 d.kind, .int .i64 t, .string d.key, .string d.hi, d.lv]] (wr.alloc ob) fun e w' => e = .returned (.bool true) ∧ w'.heap[wr.heap.size]? = some ob ∧ ∃ s' m', RI w WB w' s0 (MBk.init w1.heap.size s0.sb) (n0 + k + 1) N s' m') := fun h2 t ht ob => HR.out.stepN (by omega) d (HROk.out d hdm) (HRs.out d hdm) h2 ht ob
      have HA : Hid (∀ (t : Int), t = N ∨ t = N - 1 → ∀ W s m, RI w WB W s0 (MBk.init w1.heap.size s0.sb) (n0 + k + 1) N s m → Calls Tryz.prog 24 #[.pointer (some ⟨w1.heap.size, 0, none⟩), .int .i64 t] W fun e w' => e = .returned (.bool true) ∧ w' = W) := fun t ht W s m R => R.active (by omega) ht
      rw [hlv] at p4 HS
      clear hcell hd hdm HROk HRs hqr
      have HR1 : Hid (∀ ob, RI w WB (wr.alloc ob) s0 (MBk.init w1.heap.size s0.sb) (n0 + (k + 1 : Nat)) N s' m') := fun ob => (HR.out.still (Keeps.alloc _ _)).mono (by omega)
      clear HR HRI
      by_cases h2 : d.kind = 2
      · have HS := hidC' (HS.out (.inl h2))
        rw [h2] at HS p0
        clear h2
        by_cases ht : (d.t.tmod 2 == 0) = true
        · skip
          go_wp2_with (first
            | (go_at_call 18; refine (HS.out ((N : Int) - 1) (Or.inr rfl) _).mono ?_; rintro e w7 ⟨rfl, hb7, s7, m7, R7⟩; have x1 : w7.cell? ⟨wr.heap.size, 1, none⟩ = some (.int .i64 ((N : Int) - 1)) := (by rw [cell_of_heap hb7]; rfl); have HA' := hidC (HA.out ((N : Int) - 1) (Or.inr rfl) _ _ _ R7); have HR7 := hidC' R7; clear R7)
            | (go_at_call 24; refine HA'.out.mono ?_; rintro e w8 ⟨rfl, rfl⟩))
          exact ⟨⟨k + 1, s7, m7, rfl, by go_num, by omega, by rw [show (n0 : Int) + ((k + 1 : Nat) : Int) = n0 + k + 1 by omega]; first | exact HR7 | exact HR7.out.still (quiet_drewN _ _)⟩, by simp [intOf]; omega⟩
        · skip
          go_wp2_with (first
            | (go_at_call 18; refine (HS.out (N : Int) (Or.inl rfl) _).mono ?_; rintro e w7 ⟨rfl, hb7, s7, m7, R7⟩; have x1 : w7.cell? ⟨wr.heap.size, 1, none⟩ = some (.int .i64 (N : Int)) := (by rw [cell_of_heap hb7]; rfl); have HA' := hidC (HA.out (N : Int) (Or.inl rfl) _ _ _ R7); have HR7 := hidC' R7; clear R7)
            | (go_at_call 24; refine HA'.out.mono ?_; rintro e w8 ⟨rfl, rfl⟩))
          exact ⟨⟨k + 1, s7, m7, rfl, by go_num, by omega, by rw [show (n0 : Int) + ((k + 1 : Nat) : Int) = n0 + k + 1 by omega]; first | exact HR7 | exact HR7.out.still (quiet_drewN _ _)⟩, by simp [intOf]; omega⟩
      · have h2a : (d.kind != 2) = true := by simp [h2]
        by_cases h3 : d.kind = 3
        · have HS := hidC' (HS.out (.inr h3))
          rw [h3] at HS p0
          clear h2 h2a h3
          by_cases ht : (d.t.tmod 2 == 0) = true
          · skip
            go_wp2_with (first
              | (go_at_call 18; refine (HS.out ((N : Int) - 1) (Or.inr rfl) _).mono ?_; rintro e w7 ⟨rfl, hb7, s7, m7, R7⟩; have x1 : w7.cell? ⟨wr.heap.size, 1, none⟩ = some (.int .i64 ((N : Int) - 1)) := (by rw [cell_of_heap hb7]; rfl); have HA' := hidC (HA.out ((N : Int) - 1) (Or.inr rfl) _ _ _ R7); have HR7 := hidC' R7; clear R7)
              | (go_at_call 24; refine HA'.out.mono ?_; rintro e w8 ⟨rfl, rfl⟩))
            exact ⟨⟨k + 1, s7, m7, rfl, by go_num, by omega, by rw [show (n0 : Int) + ((k + 1 : Nat) : Int) = n0 + k + 1 by omega]; first | exact HR7 | exact HR7.out.still (quiet_drewN _ _)⟩, by simp [intOf]; omega⟩
          · skip
            go_wp2_with (first
              | (go_at_call 18; refine (HS.out (N : Int) (Or.inl rfl) _).mono ?_; rintro e w7 ⟨rfl, hb7, s7, m7, R7⟩; have x1 : w7.cell? ⟨wr.heap.size, 1, none⟩ = some (.int .i64 (N : Int)) := (by rw [cell_of_heap hb7]; rfl); have HA' := hidC (HA.out (N : Int) (Or.inl rfl) _ _ _ R7); have HR7 := hidC' R7; clear R7)
              | (go_at_call 24; refine HA'.out.mono ?_; rintro e w8 ⟨rfl, rfl⟩))
            exact ⟨⟨k + 1, s7, m7, rfl, by go_num, by omega, by rw [show (n0 : Int) + ((k + 1 : Nat) : Int) = n0 + k + 1 by omega]; first | exact HR7 | exact HR7.out.still (quiet_drewN _ _)⟩, by simp [intOf]; omega⟩
        · have h3a : (d.kind != 3) = true := by simp [h3]
          clear HS HA
          go_wp2
          exact ⟨⟨k + 1, s', m', rfl, by go_num, by omega, HR1.out _⟩, by simp [intOf]; omega⟩
    · have hge : ¬ (k : Int) < (rl.length : Int) := by omega
      have HC1 := hidC ((HR.out.cq (by omega)).commit (h := N) (by simp) (wf_i64 (by omega) (by omega)) (by omega))
      have he1 : ([(N : Int) - 1, (N : Int)].filter fun j => decide (j ≠ (N : Int))) = [(N : Int) - 1] := by
        have : (N : Int) - 1 ≠ N := by omega
        simp [List.filter, this]
      have he2 : ([(N : Int) - 1].filter fun j => decide (j ≠ (N : Int) - 1)) = [] := by simp
      have htl := HR.out.pi.tlen
      obtain ⟨hE1, hE2⟩ := oneE key value
      clear hrc HROk HRs HRI HR
      by_cases hk1 : (key.size : Int) < 1
      · have hE := hE1 (.inl hk1)
        clear hE1 hE2
        go_wp2_with (first
          | (go_at_call 25; refine HC2.out.mono ?_; rintro e w8 ⟨rfl, s8, C8⟩; rw [he2] at C8; have HB := hidC C8.begin; have HC8 := hidC' C8; clear HC2 C8)
          | (go_at_call 25; refine HC1.out.mono ?_; rintro e w7 ⟨rfl, s7, C7⟩; rw [he1] at C7; have HC2 := hidC (C7.commit (h := (N : Int) - 1) (by simp) (wf_i64 (by omega) (by omega)) (by omega)); clear HC1 C7)
          | (go_at_call 26; refine HB.out.mono ?_; rintro e w9 ⟨rfl, s9, M9, N9, ha9⟩; have HWr := M9.writeC N9 HC8.out.q ha9 (by omega) key value; rw [hE] at HWr; have HWr := hidC HWr; clear HB HC8 M9 N9 ha9)
          | (go_at_call 27; refine HWr.out.mono ?_; rintro e w10 ⟨rfl, s10, M10, N10, hW10⟩; have HQ10 := hidC' M10.quiet; clear HWr M10 N10 hW10))
        go_ret
        exact ⟨rfl, HQ10.out⟩
      by_cases hk2 : 4 < (key.size : Int)
      · have hE := hE1 (.inr hk2)
        clear hE1 hE2
        go_wp2_with (first
          | (go_at_call 25; refine HC2.out.mono ?_; rintro e w8 ⟨rfl, s8, C8⟩; rw [he2] at C8; have HB := hidC C8.begin; have HC8 := hidC' C8; clear HC2 C8)
          | (go_at_call 25; refine HC1.out.mono ?_; rintro e w7 ⟨rfl, s7, C7⟩; rw [he1] at C7; have HC2 := hidC (C7.commit (h := (N : Int) - 1) (by simp) (wf_i64 (by omega) (by omega)) (by omega)); clear HC1 C7)
          | (go_at_call 26; refine HB.out.mono ?_; rintro e w9 ⟨rfl, s9, M9, N9, ha9⟩; have HWr := M9.writeC N9 HC8.out.q ha9 (by omega) key value; rw [hE] at HWr; have HWr := hidC HWr; clear HB HC8 M9 N9 ha9)
          | (go_at_call 27; refine HWr.out.mono ?_; rintro e w10 ⟨rfl, s10, M10, N10, hW10⟩; have HQ10 := hidC' M10.quiet; clear HWr M10 N10 hW10))
        go_ret
        exact ⟨rfl, HQ10.out⟩
      by_cases hv : 8 < (value.size : Int)
      · have hE := (hE2 hk1 hk2).1 hv
        clear hE1 hE2
        go_wp2_with (first
          | (go_at_call 25; refine HC2.out.mono ?_; rintro e w8 ⟨rfl, s8, C8⟩; rw [he2] at C8; have HB := hidC C8.begin; have HC8 := hidC' C8; clear HC2 C8)
          | (go_at_call 25; refine HC1.out.mono ?_; rintro e w7 ⟨rfl, s7, C7⟩; rw [he1] at C7; have HC2 := hidC (C7.commit (h := (N : Int) - 1) (by simp) (wf_i64 (by omega) (by omega)) (by omega)); clear HC1 C7)
          | (go_at_call 26; refine HB.out.mono ?_; rintro e w9 ⟨rfl, s9, M9, N9, ha9⟩; have HWr := M9.writeC N9 HC8.out.q ha9 (by omega) key value; rw [hE] at HWr; have HWr := hidC HWr; clear HB HC8 M9 N9 ha9)
          | (go_at_call 27; refine HWr.out.mono ?_; rintro e w10 ⟨rfl, s10, M10, N10, hW10⟩; have HQ10 := hidC' M10.quiet; clear HWr M10 N10 hW10))
        go_ret
        exact ⟨rfl, HQ10.out⟩
      have hE := (hE2 hk1 hk2).2 hv
      clear hE1 hE2
      go_wp2_with (first
        | (go_at_call 25; refine HC2.out.mono ?_; rintro e w8 ⟨rfl, s8, C8⟩; rw [he2] at C8; have HB := hidC C8.begin; have HC8 := hidC' C8; clear HC2 C8)
        | (go_at_call 25; refine HC1.out.mono ?_; rintro e w7 ⟨rfl, s7, C7⟩; rw [he1] at C7; have HC2 := hidC (C7.commit (h := (N : Int) - 1) (by simp) (wf_i64 (by omega) (by omega)) (by omega)); clear HC1 C7)
        | (go_at_call 26; refine HB.out.mono ?_; rintro e w9 ⟨rfl, s9, M9, N9, ha9⟩; have HWr := M9.writeC N9 HC8.out.q ha9 (by omega) key value; rw [hE] at HWr; have HWr := hidC HWr; clear HB HC8 M9 N9 ha9)
        | (go_at_call 27; refine HWr.out.mono ?_; rintro e w10 ⟨rfl, s10, M10, N10, hW10⟩; have HT := hidC (hW10 (by simp)).told; clear HWr M10 N10 hW10))
      refine HT.out.mono ?_
      rintro e w11 ⟨y0, y1, y2, y3, rfl, C11⟩
      clear HT
      by_cases hV : totV s10.abs.vers = 128
      · have HC3 := hidC (C11.fullN hV (.cells #[.int .i64 y0, .int .i64 y1, .int .i64 y2, .int .i64 y3, .int .i64 ((totV s10.abs.vers : Nat) : Int)] 50))
        rw [hV] at HC3 ⊢
        clear C11
        go_wp2_with (go_at_call 25; refine HC3.out.mono ?_; rintro e w12 ⟨rfl, hb12, hq12⟩; have z4 : w12.cell? ⟨w11.heap.size, 4, none⟩ = some (.int .i64 128) := (by rw [cell_of_heap hb12]; rfl); clear HC3)
        go_ret
        exact ⟨rfl, hq12⟩
      · have HC3 := C11.okN hV (.cells #[.int .i64 y0, .int .i64 y1, .int .i64 y2, .int .i64 y3, .int .i64 ((totV s10.abs.vers : Nat) : Int)] 50)
        obtain ⟨T, hT⟩ : ∃ T, T = tput m'.t key value := ⟨_, rfl⟩
        rw [← hT] at HC3
        have HC3 := hidC HC3
        have HTe := hidC' hT
        clear C11 hT
        generalize totV s10.abs.vers = V at *
        have hV1 : ((V : Int) == 128) = false := by simp; omega
        have hV2 : ¬ (V : Int) = 128 := by omega
        go_wp2_with (first
          | (go_at_call 25; refine HC3.out.mono ?_; rintro e w12 ⟨rfl, hb12, s12, M12, N12, I12, C12, D12, S12⟩; have z4 : w12.cell? ⟨w11.heap.size, 4, none⟩ = some (.int .i64 (V : Int)) := (by rw [cell_of_heap hb12]; rfl); have hTl := sees_len I12 S12; have HFi := hidC (end_final M12 N12 I12 (by omega) C12 D12 S12); clear HC3 M12 N12 I12 C12 D12 S12)
          | (go_at_call 16; refine HFi.out.mono ?_; rintro e w13 ⟨av, cv, rfl, E13⟩; obtain ⟨at_, ct, c2, hPut⟩ := E13.put key value HTe.out htl; change w13.cell? ⟨w1.heap.size, 2, none⟩ = _ at c2; change Calls _ _ _ w13 _ at hPut; have HPut := hidC hPut; clear HFi E13 hPut)
          | (go_at_call 28; refine HPut.out.mono ?_; rintro e w14 ⟨av2, cv2, rfl, hp1, hp2, hq14⟩; have HSa := hidC (same_self w14 _ _ _ hp1 hp2 (by omega)); clear HPut hp1 hp2)
          | (go_at_call 17; refine HSa.out.mono ?_; rintro e w15 ⟨rfl, hq15⟩))
        go_ret
        exact ⟨rfl, Quiet.trans' hq14 hq15⟩

end Go.Proofs.YthfimgeopciiiaaGreat
