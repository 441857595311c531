/-
  The book's small calls: handle, active, gone.
-/
import Derived.Test.YthfimgeopciiiaaGreatBookR
namespace Go.Proofs.YthfimgeopciiiaaGreat
open Go.MapKept Go.ChangeMaps Go.Maps Go.RowKit
set_option linter.unusedVariables false

section
variable {w W : World} {s : Sto} {m : MBk}

theorem MBk.actB_eq (m : MBk) {h : Int} : actB m.bk h = (decide (1 ≤ h) && ((m.deals[(h - 1).toNat]?).map (·.d.active)).getD false) := by
  unfold actB MBk.bk
  simp only [List.getElem?_map, Option.map_map]
  rfl

set_option maxRecDepth 100000 in
set_option maxHeartbeats 1000000 in
theorem handle_h (M : Mem w W s m) (n : Int) (hn : -9223372036854775808 ≤ n ∧ n ≤ 9223372036854775807) (hlen : m.deals.length ≤ 1099511627776) :
    Calls Tryz.prog 43 #[.pointer (some ⟨m.bb, 0, none⟩), .int .i64 n] W fun e w' => ∃ h : Int, e = .returned (.int .i64 h) ∧ (0 ≤ h ∧ h ≤ m.deals.length) ∧ (0 ≤ n → n ≤ m.deals.length → h = n) ∧ w' = W := by
  obtain ⟨tag, B, h4⟩ := M.bk
  obtain ⟨a, cap, hdv, -⟩ := B.dealsAt
  have c1 := B.cell.2.1
  rw [hdv] at c1
  clear B h4 M
  generalize m.deals.length = L at *
  by_cases h0 : n < 0
  · go_enter Tryz.func43, Tryz.ntmps43
    go_wp2
    go_ret
    refine ⟨_, rfl, ?_, fun h => by omega, rfl⟩
    have e : -((n + 1).tmod ((L : Int) + 1)) = (-(n + 1)) % ((L : Int) + 1) := by rw [← Int.neg_tmod]; exact Int.tmod_eq_emod_of_nonneg (by omega)
    rw [e]
    have h1 := Int.emod_nonneg (-(n + 1)) (show (L : Int) + 1 ≠ 0 by omega)
    have h2 := Int.emod_lt_of_pos (-(n + 1)) (show 0 < (L : Int) + 1 by omega)
    omega
  · go_enter Tryz.func43, Tryz.ntmps43
    go_wp2
    go_ret
    refine ⟨_, rfl, ?_, ?_, rfl⟩
    · have h1 := Int.emod_nonneg n (show (L : Int) + 1 ≠ 0 by omega)
      have h2 := Int.emod_lt_of_pos n (show 0 < (L : Int) + 1 by omega)
      omega
    · intro h1
      exact Int.emod_eq_of_lt h0 (by omega)

set_option maxRecDepth 100000 in
set_option maxHeartbeats 1000000 in
theorem active_h (M : Mem w W s m) (h : Int) (hh : 0 ≤ h ∧ h ≤ m.deals.length) (hlen : m.deals.length ≤ 1099511627776) :
    Calls Tryz.prog 24 #[.pointer (some ⟨m.bb, 0, none⟩), .int .i64 h] W fun e w' => e = .returned (.bool (actB m.bk h)) ∧ w' = W := by
  obtain ⟨tag, B, h4⟩ := M.bk
  obtain ⟨a, cap, hdv, hc⟩ := B.dealsAt
  have c1 := B.cell.2.1
  rw [hdv] at c1
  have hA := m.actB_eq (h := h)
  by_cases h1 : 1 ≤ h
  · rcases hc with h0 | ⟨g, rfl, _, _, hgl, _, hcell⟩
    · rw [h0] at hh; simp at hh; omega
    obtain ⟨i, hi⟩ : ∃ i : Nat, h = (i : Int) + 1 := ⟨(h - 1).toNat, by omega⟩
    have hil : i < m.deals.length := by omega
    obtain ⟨x, hx⟩ : ∃ x, m.deals[i]? = some x := ⟨_, List.getElem?_eq_getElem hil⟩
    obtain ⟨p0, -, -, -⟩ := hcell i x hx
    have e1 : (h - 1).toNat = i := by omega
    rw [e1, hx, decide_eq_true h1] at hA
    simp only [Option.map_some, Option.getD_some, Bool.true_and] at hA
    have HA : Hid (actB m.bk h = x.d.active) := hA
    subst hi
    clear hA hx hcell e1 B h4 M hdv
    generalize m.deals.length = L at *
    go_enter Tryz.func24, Tryz.ntmps24
    go_wp2
    go_ret
    exact ⟨by rw [HA.out]; rfl, rfl⟩
  · rw [decide_eq_false h1, Bool.false_and] at hA
    have HA : Hid (actB m.bk h = false) := hA
    clear hA hc B h4 M hdv
    generalize m.deals.length = L at *
    go_enter Tryz.func24, Tryz.ntmps24
    go_wp2
    go_ret
    exact ⟨by rw [HA.out]; rfl, rfl⟩

set_option maxRecDepth 100000 in
set_option maxHeartbeats 1000000 in
/-- no error with which it is aborted -/
theorem gone_no (h e : Int) (h7 : (e == 7) = false) (h8 : (e == 8) = false) (b : Nat) (W : World) :
    Calls Tryz.prog 79 #[.pointer (some ⟨b, 0, none⟩), .int .i64 h, .int .i64 e] W fun e w' => e = .returned (.bool false) ∧ w' = W := by
  go_enter Tryz.func79, Tryz.ntmps79
  go_wp2
  go_ret
  exact ⟨rfl, rfl⟩

set_option maxRecDepth 100000 in
set_option maxHeartbeats 1000000 in
theorem gone_yes (M : Mem w W s m) (i : Nat) (x : MDeal) (hx : m.deals[i]? = some x) (hact : x.d.active = true) (e : Int) (he : e = 7 ∨ e = 8) (hlen : m.deals.length ≤ 1099511627776) :
    Calls Tryz.prog 79 #[.pointer (some ⟨m.bb, 0, none⟩), .int .i64 ((i : Int) + 1), .int .i64 e] W fun e w' => e = .returned (.bool true) ∧ Mem w w' s (m.off i x) ∧ Nx W w' s s m (m.off i x) := by
  obtain ⟨tag, B, h4⟩ := M.bk
  obtain ⟨a, cap, hdv, hc⟩ := B.dealsAt
  have c1 := B.cell.2.1
  rw [hdv] at c1
  have hil : i < m.deals.length := (List.getElem?_eq_some_iff.1 hx).1
  rcases hc with h0 | ⟨g, rfl, hown, _, hgl, hfz, hcell⟩
  · rw [h0] at hil; simp at hil
  obtain ⟨p0, -, -, -⟩ := hcell i x hx
  have f0 := hfz (i * 4)
  have HM := hidC' (M.off hx hown hact)
  clear hcell hfz B h4 M hdv hown
  generalize m.deals.length = L at *
  rcases he with rfl | rfl
  · go_enter Tryz.func79, Tryz.ntmps79
    go_wp2
    go_ret
    exact ⟨rfl, HM.out⟩
  · go_enter Tryz.func79, Tryz.ntmps79
    go_wp2
    go_ret
    exact ⟨rfl, HM.out⟩

end
end Go.Proofs.YthfimgeopciiiaaGreat

/-
  taken: is one of the keys taken?
-/
namespace Go.Proofs.YthfimgeopciiiaaGreat
open Go.MapKept Go.ChangeMaps Go.Maps Go.RowKit
set_option linter.unusedVariables false

/-- a key that is free -/
structure FreeK (m : MBk) (h bg : Int) (k : ByteArray) : Prop where
  deals : ∀ (i : Nat) (y : MDeal), m.deals[i]? = some y → (i : Int) ≠ h - 1 → y.d.active = true → hasB y.d.keys k = false
  commits : ∀ (j : Nat) (q : List ByteArray × Value), m.commits[j]? = some q → bg ≤ j → hasB q.1 k = false

section
variable {m : MBk} {h bg : Int}

theorem laterB_true {cs : List (List ByteArray)} {b : Int} {k : ByteArray} {j : Nat} {q : List ByteArray} (hq : cs[j]? = some q) (hb : b ≤ j) (hk : hasB q k = true) : laterB cs b k = true := by
  unfold laterB
  rw [List.any_eq_true]
  refine ⟨q, ?_, hk⟩
  refine List.mem_of_getElem? (i := j - b.toNat) ?_
  rw [List.getElem?_drop, show b.toNat + (j - b.toNat) = j by omega]
  exact hq

theorem laterB_false {cs : List (List ByteArray)} {b : Int} {k : ByteArray} (h : ∀ (j : Nat) (q : List ByteArray), cs[j]? = some q → b ≤ j → hasB q k = false) : laterB cs b k = false := by
  unfold laterB
  rw [List.any_eq_false]
  intro q hq
  obtain ⟨i, hi, e⟩ := List.mem_iff_getElem.1 hq
  have : cs[b.toNat + i]? = some q := by rw [← List.getElem?_drop, List.getElem?_eq_getElem hi, e]
  have := h _ q this (by omega)
  simp [this]

theorem taken_yes1 {cs : List Chg} {c : Chg} (hc : c ∈ cs) {i : Nat} {y : MDeal} (hy : m.deals[i]? = some y) (hne : (i : Int) ≠ h - 1) (ha : y.d.active = true) (hk : hasB y.d.keys c.1 = true) : takenB m.bk h bg cs = true := by
  unfold takenB
  rw [List.any_eq_true]
  refine ⟨c, hc, ?_⟩
  unfold takenK
  rw [Bool.or_eq_true]
  left
  rw [List.any_eq_true]
  refine ⟨i, ?_, ?_⟩
  · rw [List.mem_range]; simp only [MBk.bk, List.length_map]; exact (List.getElem?_eq_some_iff.1 hy).1
  · simp only [MBk.bk, List.getElem?_map, hy, Option.map_some, Option.getD_some, ha, hk]
    simp [hne]

theorem taken_yes2 {cs : List Chg} {c : Chg} (hc : c ∈ cs) {j : Nat} {q : List ByteArray × Value} (hq : m.commits[j]? = some q) (hb : bg ≤ j) (hk : hasB q.1 c.1 = true) : takenB m.bk h bg cs = true := by
  unfold takenB
  rw [List.any_eq_true]
  refine ⟨c, hc, ?_⟩
  unfold takenK
  rw [Bool.or_eq_true]
  right
  exact laterB_true (q := q.1) (by simp only [MBk.bk, List.getElem?_map, hq, Option.map_some]) hb hk

theorem taken_no {cs : List Chg} (hf : ∀ c ∈ cs, FreeK m h bg c.1) : takenB m.bk h bg cs = false := by
  unfold takenB
  rw [List.any_eq_false]
  intro c hc
  have F := hf c hc
  rw [Bool.not_eq_true]
  unfold takenK
  rw [Bool.or_eq_false_iff]
  refine ⟨?_, laterB_false (fun j q hq hb => ?_)⟩
  · rw [List.any_eq_false]
    intro i hi
    rw [List.mem_range] at hi
    simp only [MBk.bk, List.length_map] at hi
    obtain ⟨y, hy⟩ : ∃ y, m.deals[i]? = some y := ⟨_, List.getElem?_eq_getElem hi⟩
    simp only [MBk.bk, List.getElem?_map, hy, Option.map_some, Option.getD_some]
    by_cases hne : (i : Int) = h - 1
    · simp [hne]
    · cases ha : y.d.active with
      | false => simp
      | true => simp [F.deals i y hy hne ha]
  · simp only [MBk.bk, List.getElem?_map] at hq
    cases hm : m.commits[j]? with
    | none => rw [hm] at hq; cases hq
    | some q' =>
      rw [hm] at hq
      obtain rfl := Option.some.inj hq
      exact F.commits j q' hm hb
end

section
variable {w W : World} {s : Sto} {m : MBk}

set_option maxRecDepth 100000 in
set_option maxHeartbeats 4000000 in
theorem taken_h (M : Mem w W s m) (i0 : Nat) (x0 : MDeal) (hx0 : m.deals[i0]? = some x0) (hlen : m.deals.length ≤ 1099511627776) (hcl : m.commits.length ≤ 1099511627776) (b0 : Nat) (hbg : x0.d.bg = (b0 : Int)) (hbg' : b0 ≤ m.commits.length) (v : Value) (cs : List Chg) (hch : ChAt W v cs) :
    Calls Tryz.prog 80 #[.pointer (some ⟨m.bb, 0, none⟩), .int .i64 ((i0 : Int) + 1), v] W fun e w' => e = .returned (.bool (takenB m.bk ((i0 : Int) + 1) b0 cs)) ∧ Quiet W w' := by
  obtain ⟨tag, B, h4⟩ := M.bk
  obtain ⟨a, cap, hdv, hc⟩ := B.dealsAt
  obtain ⟨ac, capc, hcv, hcc⟩ := B.commitsAt
  have c1 := B.cell.2.1
  have c3 := B.cell.2.2.2
  have hbl : m.bb < W.heap.size := lt_of_heap B.own
  rw [hdv] at c1
  rw [hcv] at c3
  have hil : i0 < m.deals.length := (List.getElem?_eq_some_iff.1 hx0).1
  rcases hc with h0 | ⟨g, rfl, _, _, hgl, _, hcell⟩
  · rw [h0] at hil; simp at hil
  have hb0 : W.cell? ⟨g, i0 * 4 + 1, none⟩ = some (.int .i64 (b0 : Int)) := by rw [← hbg]; exact (hcell i0 x0 hx0).2.1
  obtain ⟨⟨la, lcap, rfl, hlc⟩, hll⟩ := hch
  have HD : Hid (∀ (j : Nat) (y : MDeal), m.deals[j]? = some y → ∀ k wr, Quiet W wr → Calls Tryz.prog 82 #[y.kv, .string k] wr fun e w' => e = .returned (.bool (hasB y.d.keys k)) ∧ w' = wr) := fun j y hy k wr hq => has_h wr _ _ _ ((B.quiet hq).keys j y hy) k
  have HC : Hid (∀ (j : Nat) (q : List ByteArray × Value), m.commits[j]? = some q → ∀ k wr, Quiet W wr → Calls Tryz.prog 82 #[q.2, .string k] wr fun e w' => e = .returned (.bool (hasB q.1 k)) ∧ w' = wr) := fun j q hq' k wr hq => has_h wr _ _ _ ((B.quiet hq).commitKeys (List.mem_of_getElem? hq')) k
  clear B h4 M hdv hcv
  go_enter Tryz.func80, Tryz.ntmps80
  go_wp2
  go_loopw [7] (fun i wr => ∃ n : Nat, i = .int .i64 n ∧ n ≤ cs.length ∧ Quiet W wr ∧ Hid (∀ (k : Nat) (c : Chg), k < n → cs[k]? = some c → FreeK m ((i0 : Int) + 1) b0 c.1)) (fun i _ => cs.length - (intOf i).toNat)
  case atStart => exact ⟨0, rfl, Nat.zero_le _, Keeps.refl _ _, fun k c hk => by omega⟩
  case round =>
    obtain ⟨n, rfl, hn, hq, HF⟩ := hrel
    by_cases hlt : n < cs.length
    · have hlt' : (n : Int) < (cs.length : Int) := by omega
      rcases hlc with h0 | ⟨gl, o, rfl, hgl', hlcell⟩
      · rw [h0] at hlt; simp at hlt
      obtain ⟨c, hc⟩ : ∃ c, cs[n]? = some c := ⟨_, List.getElem?_eq_getElem hlt⟩
      obtain ⟨l0, -, -⟩ := hlcell n c hc
      have HCm : Hid (c ∈ cs) := List.mem_of_getElem? hc
      have HCn : Hid (cs[n]? = some c) := hc
      have hq0 := hq
      clear hlcell hc
      go_wp2
      go_loopw [8] (fun k wr => ∃ j : Nat, k = .int .i64 j ∧ j ≤ m.deals.length ∧ Quiet W wr ∧ Hid (∀ (i : Nat) (y : MDeal), i < j → m.deals[i]? = some y → (i : Int) ≠ (i0 : Int) + 1 - 1 → y.d.active = true → hasB y.d.keys c.1 = false)) (fun k _ => m.deals.length - (intOf k).toNat)
      case atStart => exact ⟨0, rfl, Nat.zero_le _, hq, fun i y hi => by omega⟩
      case round =>
        obtain ⟨j, rfl, hj, hqj, HJ⟩ := hrel
        have c1j : _ := (hqj.cell (o := 1) hbl (by simp)).trans c1
        have l0j : _ := (hqj.cell (o := o + n * 3) hgl' (by simp)).trans l0
        by_cases hjl : j < m.deals.length
        · have hjl' : (j : Int) < (m.deals.length : Int) := by omega
          obtain ⟨y, hy⟩ : ∃ y, m.deals[j]? = some y := ⟨_, List.getElem?_eq_getElem hjl⟩
          obtain ⟨p0, -, -, p3⟩ := hcell j y hy
          have HDj := hidC' (HD.out j y hy c.1)
          have HY : Hid (m.deals[j]? = some y) := hy
          have p0j : _ := (hqj.cell (o := j * 4) hgl (by simp)).trans p0
          have p3j : _ := (hqj.cell (o := j * 4 + 3) hgl (by simp)).trans p3
          have HA : Hid (y.d.active = y.d.active) := rfl
          generalize hI : hasB y.d.keys c.1 = I at HDj
          generalize hAc : y.d.active = A at p0 p0j HA
          have HIn : Hid (hasB y.d.keys c.1 = I) := hI
          have HAc : Hid (y.d.active = A) := hAc
          have hstep : Hid (((j : Int) = i0 ∨ A = false ∨ I = false) → ∀ (i : Nat) (y : MDeal), i < j + 1 → m.deals[i]? = some y → (i : Int) ≠ (i0 : Int) + 1 - 1 → y.d.active = true → hasB y.d.keys c.1 = false) := fun hor i z hi hz hne ha => by
            by_cases e : i = j
            · subst e
              rw [HY.out] at hz
              obtain rfl := Option.some.inj hz
              rcases hor with h | h | h
              · omega
              · rw [HAc.out, h] at ha; cases ha
              · rw [HIn.out, h]
            · exact HJ.out i z (by omega) hz hne ha
          clear hy p3 HA hI hAc HD HC hcc hb0 hcell HF
          have hyes : Hid ((j : Int) ≠ (i0 : Int) → A = true → I = true → takenB m.bk ((i0 : Int) + 1) b0 cs = true) := fun h1 h2 h3 => taken_yes1 HCm.out HY.out (by omega) (HAc.out.trans h2) (HIn.out.trans h3)
          have hbj := Nat.lt_of_lt_of_le hbl hqj.size
          have hgj := Nat.lt_of_lt_of_le hgl hqj.size
          clear HIn HAc HY HJ
          go_wp2
          go_quiet ((go_at_call 82; exact Calls.quiet_of_same (HDj.out _ (Quiet.trans' hqj (quiet_drewN _ _)))))
          have hq2 : Quiet W (wr.drewN nq) := Quiet.trans' hqj (quiet_drewN _ _)
          have c1k := (hq2.cell (o := 1) hbl (by simp)).trans c1
          have p0k := (hq2.cell (o := j * 4) hgl (by simp)).trans p0
          clear c1j l0j p0j p3j
          by_cases hji : (j : Int) = (i0 : Int)
          · have HS := hidC' (hstep.out (.inl hji))
            have e : j = i0 := by omega
            clear hstep hyes hji
            subst e
            go_wp2
            exact ⟨⟨j + 1, by go_num, by omega, hq2, HS⟩, by simp [intOf]; omega⟩
          · cases A with
            | false =>
              have HS := hidC' (hstep.out (.inr (.inl rfl)))
              clear hstep hyes
              go_wp2
              exact ⟨⟨j + 1, by go_num, by omega, hq2, HS⟩, by simp [intOf]; omega⟩
            | true =>
              cases I with
              | false =>
                have HS := hidC' (hstep.out (.inr (.inr rfl)))
                clear hstep hyes
                go_wp2
                exact ⟨⟨j + 1, by go_num, by omega, hq2, HS⟩, by simp [intOf]; omega⟩
              | true =>
                have HT := hidC' (hyes.out hji rfl rfl)
                clear hstep hyes
                go_wp2
                go_ret
                exact ⟨by rw [HT.out]; rfl, hq2⟩
        · have hjge : ¬ (j : Int) < (m.deals.length : Int) := by omega
          have HJ' : Hid (∀ (i : Nat) (y : MDeal), m.deals[i]? = some y → (i : Int) ≠ (i0 : Int) + 1 - 1 → y.d.active = true → hasB y.d.keys c.1 = false) := fun i y hy => HJ.out i y (by have := (List.getElem?_eq_some_iff.1 hy).1; omega) hy
          have b1j := (hqj.cell (o := i0 * 4 + 1) hgl (by simp)).trans hb0
          clear HJ HD hcell
          go_wp2
          go_loopw [10] (fun k wr => ∃ r : Nat, k = .int .i64 r ∧ b0 ≤ r ∧ r ≤ m.commits.length ∧ Quiet W wr ∧ Hid (∀ (i : Nat) (q : List ByteArray × Value), b0 ≤ i → i < r → m.commits[i]? = some q → hasB q.1 c.1 = false)) (fun k _ => m.commits.length - (intOf k).toNat)
          case atStart => exact ⟨b0, rfl, Nat.le_refl _, hbg', hqj, fun i q h1 h2 => by omega⟩
          case round =>
            obtain ⟨r, rfl, hbr, hr, hqr, HR⟩ := hrel
            clear c1j l0j b1j
            have c3r := (hqr.cell (o := 3) hbl (by simp)).trans c3
            have l0r := (hqr.cell (o := o + n * 3) hgl' (by simp)).trans l0
            by_cases hrl : r < m.commits.length
            · have hrl' : (r : Int) < (m.commits.length : Int) := by omega
              obtain ⟨q, hq'⟩ : ∃ q, m.commits[r]? = some q := ⟨_, List.getElem?_eq_getElem hrl⟩
              rcases hcc with h0 | ⟨gc, rfl, hgc, hccell⟩
              · rw [h0] at hrl; simp at hrl
              have k0 := (hqr.cell (o := r) hgc (by simp)).trans (hccell r q hq')
              have HCr := hidC' (HC.out r q hq' c.1)
              have HQ : Hid (m.commits[r]? = some q) := hq'
              generalize hI : hasB q.1 c.1 = I at HCr
              have HIn : Hid (hasB q.1 c.1 = I) := hI
              clear hccell hq' HC hI
              go_wp2
              go_quiet ((go_at_call 82; exact Calls.quiet_of_same (HCr.out _ (Quiet.trans' hqr (quiet_drewN _ _)))))
              have hq2 : Quiet W (wr.drewN nq) := Quiet.trans' hqr (quiet_drewN _ _)
              cases I with
              | true =>
                have HT : Hid (takenB m.bk ((i0 : Int) + 1) b0 cs = true) := taken_yes2 HCm.out HQ.out (by omega) HIn.out
                clear HIn HQ HR HF HJ'
                go_wp2
                go_ret
                exact ⟨by rw [HT.out]; rfl, hq2⟩
              | false =>
                have HS : Hid (∀ (i : Nat) (q : List ByteArray × Value), b0 ≤ i → i < r + 1 → m.commits[i]? = some q → hasB q.1 c.1 = false) := fun i z h1 h2 hz => by
                  by_cases e : i = r
                  · subst e
                    rw [HQ.out] at hz
                    obtain rfl := Option.some.inj hz
                    exact HIn.out
                  · exact HR.out i z h1 (by omega) hz
                clear HIn HQ HR HF HJ'
                go_wp2
                exact ⟨⟨r + 1, by go_num, by omega, by omega, hq2, HS⟩, by simp [intOf]; omega⟩
            · have hrge : ¬ (r : Int) < (m.commits.length : Int) := by omega
              have HN : Hid (∀ (k : Nat) (c : Chg), k < n + 1 → cs[k]? = some c → FreeK m ((i0 : Int) + 1) b0 c.1) := fun k c' hk hc' => by
                by_cases e : k = n
                · subst e
                  rw [HCn.out] at hc'
                  obtain rfl := Option.some.inj hc'
                  exact ⟨HJ'.out, fun j q hq hb => HR.out j q (by omega) (by have := (List.getElem?_eq_some_iff.1 hq).1; omega) hq⟩
                · exact HF.out k c' (by omega) hc'
              clear HR HF HJ' HC hcc
              go_wp2
              exact ⟨⟨n + 1, by go_num, by omega, hqr, HN⟩, by simp [intOf]; omega⟩
    · have hge : ¬ (n : Int) < (cs.length : Int) := by omega
      have HT : Hid (takenB m.bk ((i0 : Int) + 1) b0 cs = false) := taken_no (fun c hc => by
        obtain ⟨k, hk, e⟩ := List.mem_iff_getElem.1 hc
        exact HF.out k c (by omega) (by rw [List.getElem?_eq_getElem hk, e]))
      clear HF HD HC hcell hcc hlc
      go_wp2
      go_ret
      exact ⟨by rw [HT.out]; rfl, hq⟩

end
end Go.Proofs.YthfimgeopciiiaaGreat
