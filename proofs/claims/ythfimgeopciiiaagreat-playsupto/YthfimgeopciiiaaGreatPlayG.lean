/-
  The document's own store: Abort, Get, given reads.
-/
import Derived.Test.YthfimgeopciiiaaGreatPlayD
namespace Go.Proofs.YthfimgeopciiiaaGreat
open Go.MapKept Go.ChangeMaps Go.Maps Go.RowKit Go.MuLone
set_option linter.unusedVariables false

section
variable {w w' : World} {base : Nat} {m : MRef} {i : Nat} {k : RTx}

theorem actB_yes (hi : m.rs.txs[i]? = some k) (h0 : k.st = 0) : m.actB ((i : Int) + 1) = true := by
  obtain ⟨x, hx, rfl⟩ := rs_at hi
  have hl : i < m.txs.length := (List.getElem?_eq_some_iff.1 hx).1
  unfold MRef.actB
  rw [show (((i : Int) + 1 - 1).toNat) = i by omega, hx]
  have h1 : (1 : Int) ≤ (i : Int) + 1 := by omega
  have h2 : (i : Int) + 1 ≤ (m.txs.length : Int) := by omega
  simp [h1, h2, h0]

theorem actB_cases (m : MRef) (h : Int) : m.actB h = false ∨ ∃ (i : Nat) (k : RTx), h = (i : Int) + 1 ∧ m.rs.txs[i]? = some k ∧ k.st = 0 := by
  cases hb : m.actB h with
  | false => exact .inl rfl
  | true =>
    unfold MRef.actB at hb
    simp only [Bool.and_eq_true, decide_eq_true_eq] at hb
    obtain ⟨⟨h1, h2⟩, h3⟩ := hb
    cases hx : m.txs[(h - 1).toNat]? with
    | none => rw [hx] at h3; cases h3
    | some x =>
      rw [hx] at h3
      exact .inr ⟨(h - 1).toNat, x.r, by omega, by show (m.txs.map _)[_]? = _; rw [List.getElem?_map, hx]; rfl, by simpa using h3⟩

theorem RefIn.active (H : RefIn w base m) (hlen : m.txs.length ≤ 1099511627776) (h : Int) :
    Calls Tryz.prog 114 #[.pointer (some ⟨m.sb, 0, none⟩), .int .i64 h] w fun e w' => e = .returned (.bool (m.actB h)) ∧ w' = w := by
  obtain ⟨tag, H⟩ := H
  exact ractive_h H h hlen

theorem RefIn.abort (H : RefIn w base m) (hh : m.rs.hsOk) (hlen : m.txs.length ≤ 1099511627776) (hi : m.rs.txs[i]? = some k) :
    Calls Tryz.prog 182 #[.pointer (some ⟨m.sb, 0, none⟩), .int .i64 ((i : Int) + 1)] w fun e w' => e = .returned (.tuple #[]) ∧ RLeft w w' base m (m.rs.abort ((i : Int) + 1)) := by
  obtain ⟨tag, H⟩ := H
  obtain ⟨x, hx, rfl⟩ := rs_at hi
  exact (rabort_h H hx hlen (hsOk_iff hh)).mono fun e w' ⟨h1, m', h2, h3, h4⟩ => ⟨h1, m', ⟨tag, h2⟩, h3, h4⟩

set_option maxRecDepth 100000 in
set_option maxHeartbeats 1000000 in
theorem rAbort_no (H : RefIn w base m) (hlen : m.txs.length ≤ 1099511627776) (h : Int) (ha : m.actB h = false) :
    Calls Tryz.prog 127 #[.pointer (some ⟨m.sb, 0, none⟩), .int .i64 h] w fun e w' => e = .returned (.int .i64 2) ∧ w' = w := by
  have HA := H.active hlen h
  rw [ha] at HA
  have HA := hidC HA
  clear H ha
  go_enter Tryz.func127, Tryz.ntmps127
  go_wp2_with (go_at_call 114; refine HA.out.mono ?_; rintro e w1 ⟨rfl, rfl⟩)
  go_ret
  exact ⟨rfl, rfl⟩

set_option maxRecDepth 100000 in
set_option maxHeartbeats 1000000 in
theorem rAbort_yes (H : RefIn w base m) (hh : m.rs.hsOk) (hlen : m.txs.length ≤ 1099511627776) (hi : m.rs.txs[i]? = some k) (h0 : k.st = 0) :
    Calls Tryz.prog 127 #[.pointer (some ⟨m.sb, 0, none⟩), .int .i64 ((i : Int) + 1)] w fun e w' => e = .returned (.int .i64 0) ∧ RLeft w w' base m (m.rs.abort ((i : Int) + 1)) := by
  have HA := H.active hlen ((i : Int) + 1)
  rw [actB_yes hi h0] at HA
  have HA := hidC HA
  have HB := hidC (H.abort hh hlen hi)
  clear H hi
  generalize m.rs.abort ((i : Int) + 1) = RA at *
  go_enter Tryz.func127, Tryz.ntmps127
  go_wp2_with (first
    | (go_at_call 114; refine HA.out.mono ?_; rintro e w1 ⟨rfl, rfl⟩)
    | (go_at_call 182; refine HB.out.mono ?_; rintro e w2 ⟨rfl, hL⟩))
  go_ret
  exact ⟨rfl, hL⟩

/-! ### Get -/

set_option maxRecDepth 100000 in
set_option maxHeartbeats 1000000 in
theorem rGet_no (H : RefIn w base m) (hlen : m.txs.length ≤ 1099511627776) (h : Int) (key : ByteArray) (ha : m.actB h = false) :
    Calls Tryz.prog 69 #[.pointer (some ⟨m.sb, 0, none⟩), .int .i64 h, .string key] w fun e w' => e = .returned (.tuple #[.string ⟨#[]⟩, .bool false, .int .i64 2]) ∧ w' = w := by
  have HA := H.active hlen h
  rw [ha] at HA
  have HA := hidC HA
  clear H ha
  go_enter Tryz.func69, Tryz.ntmps69
  go_wp2_with (go_at_call 114; refine HA.out.mono ?_; rintro e w1 ⟨rfl, rfl⟩)
  go_ret3
  exact ⟨rfl, rfl⟩

/-- what reads is to leave -/
def ReadsOk (w : World) (base : Nat) (m : MRef) (i : Nat) (k : RTx) (e : Ent) : Prop :=
  Calls Tryz.prog 116 #[.pointer (some ⟨m.sb, 0, none⟩), .int .i64 ((i : Int) + 1), .agg #[.string e.2.1, .string e.2.2, .bool (!e.1)]] w fun o w' => o = .returned (.int .i64 (m.rs.readR k e).1) ∧ RLeft w w' base m (m.rs.readR k e).2

theorem readA_sees (R : RSt) (k : RTx) (e : Ent) (b : Int) (key : ByteArray) : (R.readR k e).2.sees b key = R.sees b key := by
  unfold RSt.readR
  split
  · rfl
  · split <;> rfl

theorem readA_at {R : RSt} (e : Ent) (hi : R.txs[i]? = some k) : ∃ k', (R.readR k e).2.txs[i]? = some k' ∧ k'.bg = k.bg ∧ k'.wr = k.wr := by
  unfold RSt.readR
  split
  · exact ⟨k, hi, rfl, rfl⟩
  · split
    · refine ⟨abortX k.h k, by show (R.txs.map _)[i]? = _; rw [List.getElem?_map, hi]; rfl, abortX_bg _ _, ?_⟩
      unfold abortX; split <;> rfl
    · exact ⟨readRX (R.nPast k (wroteT e)) k e k, by show (R.txs.map _)[i]? = _; rw [List.getElem?_map, hi]; rfl, rfl, rfl⟩

set_option maxRecDepth 100000 in
set_option maxHeartbeats 1000000 in
theorem rGet_yes (H : RefIn w base m) {B : Int} (Bd : RBd m.rs B) (hlen : m.txs.length ≤ 1099511627776) (hv : m.vers.length ≤ 1099511627776) (hi : m.rs.txs[i]? = some k) (h0 : k.st = 0) (key : ByteArray) (HR : ∀ W, Quiet w W → ReadsOk W base m i k (keyE key)) :
    Calls Tryz.prog 69 #[.pointer (some ⟨m.sb, 0, none⟩), .int .i64 ((i : Int) + 1), .string key] w fun e w' => e = .returned (.tuple #[.string (m.rs.getR k key).1.1, .bool (m.rs.getR k key).1.2.1, .int .i64 (m.rs.getR k key).1.2.2]) ∧ RLeft w w' base m (m.rs.getR k key).2 := by
  have HA := H.active hlen ((i : Int) + 1)
  rw [actB_yes hi h0] at HA
  have HA := hidC HA
  have HL := hidC' (H.left (Keeps.refl _ w))
  by_cases hk1 : (key.size : Int) < 1
  · have e1 : m.rs.getR k key = ((⟨#[]⟩, false, 3), m.rs) := by unfold RSt.getR; rw [if_pos (by simp [keyB]; omega)]
    rw [e1]
    clear H hi HR e1 h0
    go_enter Tryz.func69, Tryz.ntmps69
    go_wp2_with (go_at_call 114; refine HA.out.mono ?_; rintro e w1 ⟨rfl, rfl⟩)
    go_ret3
    exact ⟨rfl, HL.out⟩
  by_cases hk2 : 4 < (key.size : Int)
  · have e1 : m.rs.getR k key = ((⟨#[]⟩, false, 3), m.rs) := by unfold RSt.getR; rw [if_pos (by simp [keyB]; omega)]
    rw [e1]
    clear H hi HR e1 h0
    go_enter Tryz.func69, Tryz.ntmps69
    go_wp2_with (go_at_call 114; refine HA.out.mono ?_; rintro e w1 ⟨rfl, rfl⟩)
    go_ret3
    exact ⟨rfl, HL.out⟩
  have hkb : ¬ keyB key = false := by simp [keyB]; omega
  obtain ⟨g, cap, wa, wc, ra, rc, T⟩ := H.tx hi
  have hwl := Bd.wl k (List.mem_of_getElem? hi)
  have hWr : Hid (Calls Tryz.prog 115 #[.agg #[.int .i64 k.bg, .int .i64 k.cm, .int .i64 k.st, .int .i64 k.i, .int .i64 k.o, .slice wa k.wr.length wc, .slice ra k.rd.length rc], .string key] w fun e w' => (∃ x, e = .returned (.int .i64 x) ∧ AtW k.wr key x) ∧ Quiet w w') := by
    obtain ⟨tag, H0⟩ := H
    exact written_h w _ _ _ _ _ _ _ k.wr (chAt_of_row (H0.wr i _ T.at_) (by show k.wr.length ≤ _; omega)) ⟨_, _, _, rfl⟩ key
  clear h0
  have hi' : (i : Int) < (m.txs.length : Int) := by have := T.hi; omega
  have c5 := T.c5
  have p0 := T.p0
  have p1 := T.p1
  have p2 := T.p2
  have p3 := T.p3
  have p4 := T.p4
  have p5 := T.p5
  have p6 := T.p6
  have hg := T.hg
  have hsb : m.sb < w.heap.size := by obtain ⟨tag, H0⟩ := H; exact lt_of_heap H0.own
  cases hlk : look k.wr key with
  | some c =>
    have e1 : m.rs.getR k key = ((if c.2 then ⟨#[]⟩ else c.1, !c.2, 0), m.rs) := by unfold RSt.getR; rw [if_neg hkb, hlk]
    rw [e1]
    have HC : Hid (∀ w1 x, Quiet w w1 → AtW k.wr key x → ∃ (j : Nat) (gw : Nat), x = j ∧ wa = some ⟨gw, 0, none⟩ ∧ (j : Int) < (k.wr.length : Int) ∧ w1.cell? ⟨m.sb, 5, none⟩ = some (.slice (some ⟨g, 0, none⟩) m.txs.length cap) ∧ w1.cell? ⟨g, i * 7 + 5, none⟩ = some (.slice wa k.wr.length wc) ∧ w1.cell? ⟨gw, j * 3, none⟩ = some (.string key) ∧ w1.cell? ⟨gw, j * 3 + 1, none⟩ = some (.string c.1) ∧ w1.cell? ⟨gw, j * 3 + 2, none⟩ = some (.bool c.2)) := fun w1 x hq hx => by
      rcases hx with ⟨j, c', rfl, hc, hj⟩ | ⟨_, hc⟩
      · rw [hlk] at hc
        obtain rfl := Option.some.inj hc
        have hjl : j < k.wr.length := (List.getElem?_eq_some_iff.1 hj).1
        obtain ⟨tag, H0⟩ := H
        obtain ⟨a', cap', e', hrow⟩ := row_at chgCells chgCells_len (H0.wr i _ T.at_)
        have e2 : wa = a' := by have : Value.slice wa k.wr.length wc = .slice a' k.wr.length cap' := e'; simpa using (Value.slice.inj this).1
        rcases hrow with h0' | ⟨gw, rfl, -, -, hgl, -, hcell⟩
        · have : k.wr = [] := h0'
          rw [this] at hjl; simp at hjl
        refine ⟨j, gw, rfl, e2, by omega, (hq.cell hsb (by simp)).trans c5, (hq.cell hg (by simp)).trans p5, ?_, ?_, ?_⟩
        · rw [hq.cell hgl (by simp)]; exact hcell j (key, c) hj 0 (by omega)
        · rw [hq.cell hgl (by simp)]; exact hcell j (key, c) hj 1 (by omega)
        · rw [hq.cell hgl (by simp)]; exact hcell j (key, c) hj 2 (by omega)
      · rw [hlk] at hc; cases hc
    have HLq := hidC' (fun w1 (hq : Quiet w w1) => H.left hq)
    clear H hi HR e1 T HL
    obtain ⟨cv, cg⟩ := c
    cases cg with
    | true =>
      go_enter Tryz.func69, Tryz.ntmps69
      go_wp2_with (first
        | (go_at_call 114; refine HA.out.mono ?_; rintro e w1 ⟨rfl, rfl⟩)
        | (go_at_call 115; refine hWr.out.mono ?_; rintro e w2 ⟨⟨xx, rfl, hAt⟩, hq2⟩; obtain ⟨j, gw, rfl, rfl, hjl, d5, d6, d0, d1, d2⟩ := HC.out _ _ hq2 hAt))
      go_ret3
      exact ⟨rfl, HLq.out _ (by repeat (first | assumption | refine Quiet.trans' ?_ (Keeps.alloc _ _)))⟩
    | false =>
      go_enter Tryz.func69, Tryz.ntmps69
      go_wp2_with (first
        | (go_at_call 114; refine HA.out.mono ?_; rintro e w1 ⟨rfl, rfl⟩)
        | (go_at_call 115; refine hWr.out.mono ?_; rintro e w2 ⟨⟨xx, rfl, hAt⟩, hq2⟩; obtain ⟨j, gw, rfl, rfl, hjl, d5, d6, d0, d1, d2⟩ := HC.out _ _ hq2 hAt))
      go_ret3
      exact ⟨rfl, HLq.out _ (by repeat (first | assumption | refine Quiet.trans' ?_ (Keeps.alloc _ _)))⟩
  | none =>
    have e1 : m.rs.getR k key = if (m.rs.readR k (keyE key)).1 = 0 then (((m.rs.sees k.bg key).1, (m.rs.sees k.bg key).2, 0), (m.rs.readR k (keyE key)).2) else ((⟨#[]⟩, false, (m.rs.readR k (keyE key)).1), (m.rs.readR k (keyE key)).2) := by unfold RSt.getR; rw [if_neg hkb, hlk]
    have HX : Hid (∀ x, AtW k.wr key x → x = -1) := fun x hx => by
      rcases hx with ⟨j, c', rfl, hc, hj⟩ | ⟨h, _⟩
      · rw [hlk] at hc; cases hc
      · exact h
    have HRd : Hid (∀ w1, Quiet w w1 → Calls Tryz.prog 116 #[.pointer (some ⟨m.sb, 0, none⟩), .int .i64 ((i : Int) + 1), .agg #[.string key, .string ⟨#[]⟩, .bool true]] w1 fun o w' => o = .returned (.int .i64 (m.rs.readR k (keyE key)).1) ∧ RLeft w w' base m (m.rs.readR k (keyE key)).2) := fun w1 hq => (HR w1 hq).mono fun o w' ⟨h1, h2⟩ => ⟨h1, RLeft.before hq h2⟩
    have HSe : Hid (∀ w2, RLeft w w2 base m (m.rs.readR k (keyE key)).2 → (∃ g' cap', w2.cell? ⟨m.sb, 5, none⟩ = some (.slice (some ⟨g', 0, none⟩) m.txs.length cap') ∧ w2.cell? ⟨g', i * 7, none⟩ = some (.int .i64 k.bg)) ∧ Calls Tryz.prog 117 #[.pointer (some ⟨m.sb, 0, none⟩), .int .i64 k.bg, .string key] w2 fun e w' => e = .returned (.tuple #[.string (m.rs.sees k.bg key).1, .bool (m.rs.sees k.bg key).2]) ∧ Quiet w2 w') := fun w2 hL => by
      obtain ⟨m2, h1, h2, h3⟩ := hL
      obtain ⟨k', hk', hb', -⟩ := readA_at (keyE key) hi
      rw [← h3] at hk'
      obtain ⟨g', cap', _, _, _, _, T'⟩ := h1.tx hk'
      have hl2 : m2.txs.length = m.txs.length := by
        have := congrArg (fun R : RSt => R.txs.length) h3
        simp only [rs_len] at this
        rw [this]
        unfold RSt.readR
        split
        · exact rs_len
        · split
          · show (m.rs.txs.map _).length = _; rw [List.length_map, rs_len]
          · show (m.rs.txs.map _).length = _; rw [List.length_map, rs_len]
      have hv2 : m2.vers = m.vers := by
        have := congrArg (fun R : RSt => R.vers) h3
        show m2.rs.vers = _
        rw [h3]
        unfold RSt.readR
        split
        · rfl
        · split <;> rfl
      refine ⟨⟨g', cap', by rw [← h2.sb, ← hl2]; exact T'.c5, by rw [← hb']; exact T'.p0⟩, ?_⟩
      obtain ⟨tag, H2⟩ := h1
      have := rsees_h H2 (by rw [hv2]; exact hv) k.bg key
      rw [h2.sb, h3, readA_sees] at this
      exact this
    clear H hi HR T Bd HL hlk
    generalize hRR : m.rs.readR k (keyE key) = RR at *
    obtain ⟨er, R2⟩ := RR
    generalize m.rs.sees k.bg key = SE at *
    by_cases he : er = 0
    · subst he
      rw [e1, if_pos rfl]
      clear e1 hRR
      go_enter Tryz.func69, Tryz.ntmps69
      go_wp2_with (first
        | (go_at_call 114; refine HA.out.mono ?_; rintro e w1 ⟨rfl, rfl⟩)
        | (go_at_call 115; refine hWr.out.mono ?_; rintro e w2 ⟨⟨xx, rfl, hAt⟩, hq2⟩; obtain rfl := HX.out _ hAt)
        | (go_at_call 116; refine (HRd.out _ (by repeat (first | assumption | refine Quiet.trans' ?_ (Keeps.alloc _ _)))).mono ?_; rintro e w3 ⟨rfl, hL3⟩; obtain ⟨⟨g', cap', d5, d0⟩, HS⟩ := HSe.out _ hL3)
        | (go_at_call 117; refine HS.mono ?_; rintro e w4 ⟨rfl, hq4⟩))
      go_ret3
      exact ⟨rfl, hL3.quiet hq4⟩
    · rw [e1, if_neg he]
      have he' : (er == 0) = false := by simpa using he
      clear e1 hRR HSe
      go_enter Tryz.func69, Tryz.ntmps69
      go_wp2_with (first
        | (go_at_call 114; refine HA.out.mono ?_; rintro e w1 ⟨rfl, rfl⟩)
        | (go_at_call 115; refine hWr.out.mono ?_; rintro e w2 ⟨⟨xx, rfl, hAt⟩, hq2⟩; obtain rfl := HX.out _ hAt)
        | (go_at_call 116; refine (HRd.out _ (by repeat (first | assumption | refine Quiet.trans' ?_ (Keeps.alloc _ _)))).mono ?_; rintro e w3 ⟨rfl, hL3⟩))
      go_ret3
      exact ⟨rfl, hL3⟩

end
end Go.Proofs.YthfimgeopciiiaaGreat

/-
  The document's own store: clash, read.
-/
namespace Go.Proofs.YthfimgeopciiiaaGreat
open Go.MapKept Go.ChangeMaps Go.Maps Go.RowKit Go.MuLone
set_option linter.unusedVariables false

theorem any_drop {α : Type} {l : List α} {n : Nat} {x : α} (P : α → Bool) (h : l[n]? = some x) : (l.drop n).any P = (P x || (l.drop (n + 1)).any P) := by
  obtain ⟨hn, e⟩ := List.getElem?_eq_some_iff.1 h
  rw [List.drop_eq_getElem_cons hn, e, List.any_cons]

theorem AtW.some_iff {l : List (ByteArray × Cont)} {k : ByteArray} {x : Int} (h : AtW l k x) : (0 ≤ x ∧ (look l k).isSome = true) ∨ (x = -1 ∧ (look l k).isSome = false) := by
  rcases h with ⟨j, c, rfl, hc, _⟩ | ⟨h, hc⟩
  · exact .inl ⟨by omega, by rw [hc]; rfl⟩
  · exact .inr ⟨h, by rw [hc]; rfl⟩

section
variable {w w' : World} {base : Nat} {m : MRef} {i : Nat} {k : RTx}

set_option maxRecDepth 100000 in
set_option maxHeartbeats 1500000 in
theorem rclash_h (H : RefIn w base m) {B : Int} (Bd : RBd m.rs B) (hlen : m.txs.length ≤ 1099511627776) (hv : m.vers.length ≤ 1099511627776) (hi : m.rs.txs[i]? = some k) (key : ByteArray) :
    Calls Tryz.prog 186 #[.pointer (some ⟨m.sb, 0, none⟩), .int .i64 i, .string key] w fun e w' => e = .returned (.bool (m.rs.clash k key)) ∧ Quiet w w' := by
  obtain ⟨g, cap, wa, wc, ra, rc, T⟩ := H.tx hi
  have hkh := Bd.hs i k hi
  have HT : Hid (∀ wr, Quiet w wr → ∀ (j : Nat) (x : RTx), m.rs.txs[j]? = some x → ∃ wa wc ra rc, TxAt wr m j x g cap wa wc ra rc ∧ Calls Tryz.prog 115 #[.agg #[.int .i64 x.bg, .int .i64 x.cm, .int .i64 x.st, .int .i64 x.i, .int .i64 x.o, .slice wa x.wr.length wc, .slice ra x.rd.length rc], .string key] wr fun e w' => (∃ y, e = .returned (.int .i64 y) ∧ AtW x.wr key y) ∧ Quiet wr w') := fun wr q j x hx => by
    obtain ⟨wa, wc, ra, rc, T'⟩ := (H.quiet q).tx' T hx
    have hwl := Bd.wl x (List.mem_of_getElem? hx)
    exact ⟨wa, wc, ra, rc, T', written_h wr _ _ _ _ _ _ _ x.wr ((H.quiet q).chAt T' (by omega)) ⟨_, _, _, rfl⟩ key⟩
  have HV : Hid (∀ wr, Quiet w wr → ∃ va vc, wr.cell? ⟨m.sb, 6, none⟩ = some (.slice va m.vers.length vc) ∧ ∀ (n : Nat) (p : ByteArray × Ver), m.vers[n]? = some p → ∃ gv, va = some ⟨gv, 0, none⟩ ∧ wr.cell? ⟨gv, n * 4, none⟩ = some (.int .i64 p.2.1) ∧ wr.cell? ⟨gv, n * 4 + 1, none⟩ = some (.string p.1)) := fun wr q => by
    obtain ⟨tag, H1⟩ := H.quiet q
    obtain ⟨va, vc, ev, hrow⟩ := H1.versAt
    refine ⟨va, vc, by rw [← ev]; exact H1.cell.2.2.2.2.2.2, fun n p hp => ?_⟩
    rcases hrow with h0 | ⟨gv, rfl, -, -, -, -, hcell⟩
    · rw [h0] at hp; simp at hp
    · exact ⟨gv, rfl, hcell n p hp 0 (by omega), hcell n p hp 1 (by omega)⟩
  have HK : Hid (∀ wr, Quiet w wr → TxAt wr m i k g cap wa wc ra rc) := fun wr q => T.quiet q
  have HX : Hid (∀ (j : Nat) (x : RTx), m.rs.txs[j]? = some x → (decide (x.h = k.h) = decide (j = i))) := fun j x hx => by
    rw [Bd.hs j x hx, hkh]
    simp only [decide_eq_decide]; omega
  have hc5 := T.c5
  have hsb := T.hsb
  have hil := T.hi
  have er : m.rs.clash k key = ((m.rs.txs.any fun x => !decide (x.h = k.h) && decide (x.st = 0) && (look x.wr key).isSome) || m.rs.vers.any fun p => decide (p.1 = key) && decide (k.bg < p.2.1)) := rfl
  have hln : m.rs.txs.length = m.txs.length := rs_len
  have HVe : Hid (m.rs.vers = m.vers) := rfl
  rw [er]
  clear H hi T er Bd hkh
  generalize hP1 : (fun x : RTx => !decide (x.h = k.h) && decide (x.st = 0) && (look x.wr key).isSome) = P1
  generalize hP2 : (fun p : ByteArray × Ver => decide (p.1 = key) && decide (k.bg < p.2.1)) = P2
  have HP := hidC' (And.intro hP1 hP2)
  clear hP1 hP2
  go_enter Tryz.func186, Tryz.ntmps186
  go_wp2
  go_loopw [7] (fun j wr => ∃ n : Nat, j = .int .i64 n ∧ n ≤ m.txs.length ∧ Quiet w wr ∧ Hid (m.rs.txs.any P1 = (m.rs.txs.drop n).any P1)) (fun j _ => m.txs.length - (intOf j).toNat)
  case atStart => exact ⟨0, rfl, Nat.zero_le _, Keeps.refl _ _, by rw [List.drop_zero]; exact rfl⟩
  case round =>
    obtain ⟨n, rfl, hn, hq, HA⟩ := hrel
    have c5 : wr.cell? ⟨m.sb, 5, none⟩ = some (.slice (some ⟨g, 0, none⟩) m.txs.length cap) := (hq.cell hsb (by simp)).trans hc5
    by_cases hlt : n < m.txs.length
    · have hlt' : (n : Int) < (m.txs.length : Int) := by omega
      obtain ⟨x, hx⟩ : ∃ x, m.rs.txs[n]? = some x := ⟨_, List.getElem?_eq_getElem (by rw [hln]; exact hlt)⟩
      obtain ⟨wa', wc', ra', rc', T', hW⟩ := HT.out wr hq n x hx
      have p0 := T'.p0
      have p1 := T'.p1
      have p2 := T'.p2
      have p3 := T'.p3
      have p4 := T'.p4
      have p5 := T'.p5
      have p6 := T'.p6
      have HW := hidC hW
      have HS : Hid (m.rs.txs.any P1 = (P1 x || (m.rs.txs.drop (n + 1)).any P1)) := HA.out.trans (any_drop P1 hx)
      have HPx : Hid (P1 x = (!decide (n = i) && decide (x.st = 0) && (look x.wr key).isSome)) := by
        show P1 x = _
        rw [← HP.out.1, ← HX.out n x hx]
      clear T' hW hx HA HT HV HK HX
      by_cases e : n = i
      · subst e
        have HN : Hid (m.rs.txs.any P1 = (m.rs.txs.drop (n + 1)).any P1) := hidC' (by have := HS.out; rw [HPx.out] at this; simpa using this)
        clear HS HPx
        go_wp2
        exact ⟨⟨n + 1, by go_num, by omega, hq, HN⟩, by simp [intOf]; omega⟩
      · have e1 : ¬ (n : Int) = (i : Int) := by omega
        have e2 : ((n : Int) == (i : Int)) = false := by simpa using e1
        by_cases s0 : x.st = 0
        · rw [s0] at p2 HW
          have HPy : Hid (P1 x = (look x.wr key).isSome) := hidC' (by have := HPx.out; simpa [e, s0] using this)
          clear HPx s0 e
          go_wp2_with (fail)
          go_at_call 115
          refine HW.out.mono ?_
          rintro e w1 ⟨⟨y, rfl, hAt⟩, hq1⟩
          rcases hAt.some_iff with ⟨hy, hs⟩ | ⟨rfl, hs⟩
          · have HN : Hid (m.rs.txs.any P1 = true) := hidC' (by
              have h1 := HS.out
              rw [HPy.out, hs] at h1
              simpa using h1)
            have HN' := HN
            clear HN HS HPy hAt hs HW
            go_wp2
            go_ret
            exact ⟨by rw [HN'.out, Bool.true_or]; rfl, Quiet.trans' hq hq1⟩
          · have HN : Hid (m.rs.txs.any P1 = (m.rs.txs.drop (n + 1)).any P1) := hidC' (by
              have h1 := HS.out
              rw [HPy.out, hs] at h1
              exact h1)
            clear HS HPy hAt hs HW
            go_wp2
            exact ⟨⟨n + 1, by go_num, by omega, Quiet.trans' hq hq1, HN⟩, by simp [intOf]; omega⟩
        · have s0' : (x.st == 0) = false := by simpa using s0
          have HN : Hid (m.rs.txs.any P1 = (m.rs.txs.drop (n + 1)).any P1) := hidC' (by have := HS.out; rw [HPx.out] at this; simpa [s0] using this)
          clear HS HPx
          go_wp2
          exact ⟨⟨n + 1, by go_num, by omega, hq, HN⟩, by simp [intOf]; omega⟩
    · have hge : ¬ (n : Int) < (m.txs.length : Int) := by omega
      have HE : Hid (m.rs.txs.any P1 = false) := hidC' (by have := HA.out; rw [List.drop_eq_nil_of_le (by omega)] at this; exact this)
      have HE1 := HE
      clear HA HE HT HX
      go_wp2
      go_loopw [8] (fun j wr => ∃ n : Nat, j = .int .i64 n ∧ n ≤ m.vers.length ∧ Quiet w wr ∧ Hid (m.rs.vers.any P2 = (m.rs.vers.drop n).any P2)) (fun j _ => m.vers.length - (intOf j).toNat)
      case atStart => exact ⟨0, rfl, Nat.zero_le _, hq, by rw [List.drop_zero]; exact rfl⟩
      case round =>
        obtain ⟨n2, rfl, hn2, hq2, HA2⟩ := hrel
        obtain ⟨va, vc, c6, hrow⟩ := HV.out _ hq2
        have T2 := HK.out _ hq2
        have c5' := T2.c5
        have p0' := T2.p0
        have hil' : (i : Int) < (m.txs.length : Int) := by omega
        clear T2
        by_cases hlt2 : n2 < m.vers.length
        · have hlt2' : (n2 : Int) < (m.vers.length : Int) := by omega
          obtain ⟨p, hp⟩ : ∃ p, m.vers[n2]? = some p := ⟨_, List.getElem?_eq_getElem hlt2⟩
          obtain ⟨gv, rfl, v0, v1⟩ := hrow n2 p hp
          have HS : Hid (m.rs.vers.any P2 = ((decide (p.1 = key) && decide (k.bg < p.2.1)) || (m.rs.vers.drop (n2 + 1)).any P2)) := by
            have e : P2 p = (decide (p.1 = key) && decide (k.bg < p.2.1)) := by rw [← HP.out.2]
            show _ = _
            rw [← e]
            exact HA2.out.trans (any_drop P2 hp)
          clear hrow HV HK HA2 hp HP
          by_cases k1 : p.1 = key
          · by_cases k2 : k.bg < p.2.1
            · have HN : Hid (m.rs.vers.any P2 = true) := hidC' (HS.out.trans (by simp [k1, k2]))
              have HN' := HN
              have k1' := str_eq k1
              clear HS HN k1
              go_wp2
              go_quiet (fail)
              go_wp2
              go_ret
              exact ⟨by rw [HN'.out, Bool.or_true]; rfl, Quiet.trans' hq2 (quiet_drewN _ _)⟩
            · have HN : Hid (m.rs.vers.any P2 = (m.rs.vers.drop (n2 + 1)).any P2) := hidC' (HS.out.trans (by simp [k2]))
              have k1' := str_eq k1
              clear HS k1
              go_wp2
              go_quiet (fail)
              go_wp2
              exact ⟨⟨n2 + 1, by go_num, by omega, Quiet.trans' hq2 (quiet_drewN _ _), HN⟩, by simp [intOf]; omega⟩
          · have HN : Hid (m.rs.vers.any P2 = (m.rs.vers.drop (n2 + 1)).any P2) := hidC' (HS.out.trans (by simp [k1]))
            have k1' := str_ne k1
            clear HS k1
            go_wp2
            go_quiet (fail)
            go_wp2
            exact ⟨⟨n2 + 1, by go_num, by omega, Quiet.trans' hq2 (quiet_drewN _ _), HN⟩, by simp [intOf]; omega⟩
        · have hge2 : ¬ (n2 : Int) < (m.vers.length : Int) := by omega
          have HE : Hid (m.rs.vers.any P2 = false) := hidC' (by have := HA2.out; rw [List.drop_eq_nil_of_le (by rw [HVe.out]; omega)] at this; exact this)
          have HE2 := HE
          clear HA2 HE HV HK hrow
          go_wp2
          go_ret
          exact ⟨by rw [HE1.out, HE2.out]; rfl, hq2⟩

end

set_option maxRecDepth 100000 in
set_option maxHeartbeats 1500000 in
theorem rread_h (W : World) (bg cm st ii oo : Int) (wv : Value) (hwv : ∃ a n c, wv = .slice a n c) (ra : Option Addr) (rc : Nat) (rd : List (Ent × Unit)) (hrl : rd.length ≤ 1099511627776)
    (hr : ∀ (n : Nat) (p : Ent × Unit), rd[n]? = some p → ∃ gr, ra = some ⟨gr, 0, none⟩ ∧ gr < W.heap.size ∧ W.cell? ⟨gr, n * 3, none⟩ = some (.string p.1.2.1) ∧ W.cell? ⟨gr, n * 3 + 1, none⟩ = some (.string p.1.2.2) ∧ W.cell? ⟨gr, n * 3 + 2, none⟩ = some (.bool (!p.1.1))) (v : Value) (cs : List Chg) (hch : ChAt W v cs) (hcl : cs.length ≤ 1099511627776) :
    Calls Tryz.prog 187 #[.agg #[.int .i64 bg, .int .i64 cm, .int .i64 st, .int .i64 ii, .int .i64 oo, wv, .slice ra rd.length rc], v] W fun e w' => e = .returned (.bool (rd.any fun p => readF cs p.1)) ∧ Quiet W w' := by
  obtain ⟨wa, wn, wc, rfl⟩ := hwv
  obtain ⟨⟨a, cap, rfl, hc⟩, hll⟩ := hch
  generalize hF : (fun p : Ent × Unit => readF cs p.1) = F
  have HF := hidC' hF
  clear hF
  go_enter Tryz.func187, Tryz.ntmps187
  go_wp2
  have hq0 : Quiet W (W.alloc (.cells #[.int .i64 bg, .int .i64 cm, .int .i64 st, .int .i64 ii, .int .i64 oo, .slice wa wn wc, .slice ra rd.length rc] 197)) := Keeps.alloc _ _
  have hb0 : (W.alloc (.cells #[.int .i64 bg, .int .i64 cm, .int .i64 st, .int .i64 ii, .int .i64 oo, .slice wa wn wc, .slice ra rd.length rc] 197)).cell? ⟨W.heap.size, 6, none⟩ = some (.slice ra rd.length rc) := by rw [cell_of_heap (heap_alloc_new _ _)]; rfl
  have hs0 : W.heap.size < (W.alloc (.cells #[.int .i64 bg, .int .i64 cm, .int .i64 st, .int .i64 ii, .int .i64 oo, .slice wa wn wc, .slice ra rd.length rc] 197)).heap.size := by simp
  generalize W.alloc (.cells #[.int .i64 bg, .int .i64 cm, .int .i64 st, .int .i64 ii, .int .i64 oo, .slice wa wn wc, .slice ra rd.length rc] 197) = WN at *
  have HC : Hid (∀ wr, Quiet WN wr → wr.cell? ⟨W.heap.size, 6, none⟩ = some (.slice ra rd.length rc) ∧ (∀ (n : Nat) (p : Ent × Unit), rd[n]? = some p → ∃ gr, ra = some ⟨gr, 0, none⟩ ∧ wr.cell? ⟨gr, n * 3, none⟩ = some (.string p.1.2.1) ∧ wr.cell? ⟨gr, n * 3 + 1, none⟩ = some (.string p.1.2.2) ∧ wr.cell? ⟨gr, n * 3 + 2, none⟩ = some (.bool (!p.1.1))) ∧ ∀ (j : Nat) (c : Chg), cs[j]? = some c → ∃ g o, a = some ⟨g, o, none⟩ ∧ wr.cell? ⟨g, o + j * 3, none⟩ = some (.string c.1)) := fun wr q => by
    have q' := Quiet.trans' hq0 q
    refine ⟨(q.cell hs0 (by simp)).trans hb0, fun n p hp => ?_, fun j c hj => ?_⟩
    · obtain ⟨gr, e1, hg, e2, e3, e4⟩ := hr n p hp
      exact ⟨gr, e1, (q'.cell hg (by simp)).trans e2, (q'.cell hg (by simp)).trans e3, (q'.cell hg (by simp)).trans e4⟩
    · rcases hc with h0 | ⟨g, o, e1, hg, hcell⟩
      · rw [h0] at hj; simp at hj
      · exact ⟨g, o, e1, (q'.cell hg (by simp)).trans (hcell j c hj).1⟩
  clear hr hc hb0
  go_loopw [5] (fun i wr => ∃ n : Nat, i = .int .i64 n ∧ n ≤ rd.length ∧ Quiet WN wr ∧ Hid (rd.any F = (rd.drop n).any F)) (fun i _ => rd.length - (intOf i).toNat)
  case atStart => exact ⟨0, rfl, Nat.zero_le _, Keeps.refl _ _, by rw [List.drop_zero]; exact rfl⟩
  case round =>
    obtain ⟨n, rfl, hn, hq, HA⟩ := hrel
    obtain ⟨b6, hrow, -⟩ := HC.out wr hq
    by_cases hlt : n < rd.length
    · have hlt' : (n : Int) < (rd.length : Int) := by omega
      obtain ⟨p, hp⟩ : ∃ p, rd[n]? = some p := ⟨_, List.getElem?_eq_getElem hlt⟩
      have HS : Hid (rd.any F = (readF cs p.1 || (rd.drop (n + 1)).any F)) := by
        have e : F p = readF cs p.1 := by rw [← HF.out]
        show _ = _
        rw [HA.out, any_drop F hp, e]
      clear HA hrow
      go_wp2
      go_loopw [6] (fun i wr' => ∃ j : Nat, i = .int .i64 j ∧ j ≤ cs.length ∧ Quiet WN wr' ∧ Hid (readF cs p.1 = (cs.drop j).any fun c => coversB p.1 c.1)) (fun i _ => cs.length - (intOf i).toNat)
      case atStart => exact ⟨0, rfl, Nat.zero_le _, hq, by rw [List.drop_zero]; exact rfl⟩
      case round =>
        obtain ⟨j, rfl, hj, hq2, HB⟩ := hrel
        obtain ⟨b6, hrow, hcc⟩ := HC.out _ hq2
        obtain ⟨gr, rfl, r0, r1, r2⟩ := hrow n p hp
        by_cases hjl : j < cs.length
        · have hjl' : (j : Int) < (cs.length : Int) := by omega
          obtain ⟨c, hcj⟩ : ∃ c, cs[j]? = some c := ⟨_, List.getElem?_eq_getElem hjl⟩
          obtain ⟨gc, oc, rfl, l0⟩ := hcc j c hcj
          have HD : Hid (readF cs p.1 = (coversB p.1 c.1 || (cs.drop (j + 1)).any fun c => coversB p.1 c.1)) := HB.out.trans (any_drop _ hcj)
          obtain ⟨⟨px, plo, phi⟩, pu⟩ := p
          have HH : Hid (∀ W', Calls Tryz.prog 180 #[.agg #[.string plo, .string phi, .bool (!px)], .string c.1] W' fun e w' => e = .returned (.bool (coversB (px, plo, phi) c.1)) ∧ Quiet W' w') := fun W' => rhas_h px plo phi c.1 W'
          simp only at r0 r1 r2
          clear HC hrow hcc hcj HB hp
          generalize hcv : coversB (px, plo, phi) c.1 = cv at *
          clear hcv
          cases cv with
          | true =>
            have HN : Hid (rd.any F = true) := hidC' (by have h1 := HD.out; have h2 := HS.out; rw [h1] at h2; simpa using h2)
            clear HS HD
            go_wp2
            go_region_with (go_at_call 180; refine (HH.out _).mono ?_; rintro e w7 ⟨rfl, hq7⟩)
            all_goals
              go_wp2
              go_ret
              exact ⟨by rw [HN.out]; rfl, Quiet.trans' hq0 (Quiet.trans' hq2 (Quiet.trans' (Keeps.drew _) hq7))⟩
          | false =>
            have HN : Hid (readF cs (px, plo, phi) = (cs.drop (j + 1)).any fun c => coversB (px, plo, phi) c.1) := hidC' HD.out
            clear HD
            go_wp2
            go_region_with (go_at_call 180; refine (HH.out _).mono ?_; rintro e w7 ⟨rfl, hq7⟩)
            all_goals
              go_wp2
              exact ⟨⟨j + 1, by go_num, by omega, Quiet.trans' hq2 (Quiet.trans' (Keeps.drew _) hq7), HN⟩, by simp [intOf]; omega⟩
        · have hjge : ¬ (j : Int) < (cs.length : Int) := by omega
          have HN : Hid (rd.any F = (rd.drop (n + 1)).any F) := hidC' (by
            have h1 := HB.out
            rw [List.drop_eq_nil_of_le (by omega)] at h1
            have h2 := HS.out
            rw [h1] at h2
            exact h2)
          clear HB HS hrow hcc
          go_wp2
          exact ⟨⟨n + 1, by go_num, by omega, hq2, HN⟩, by simp [intOf]; omega⟩
    · have hge : ¬ (n : Int) < (rd.length : Int) := by omega
      have HE : Hid (rd.any F = false) := hidC' (by have := HA.out; rw [List.drop_eq_nil_of_le (by omega)] at this; exact this)
      clear HA hrow
      go_wp2
      go_ret
      exact ⟨by rw [HE.out]; rfl, Quiet.trans' hq0 hq⟩

end Go.Proofs.YthfimgeopciiiaaGreat

/-
  The document's own store: reads.
-/
namespace Go.Proofs.YthfimgeopciiiaaGreat
open Go.MapKept Go.ChangeMaps Go.Maps Go.RowKit Go.MuLone
set_option linter.unusedVariables false
attribute [local go_sem ↓ high] append_heldR append_eqR

theorem info_int : (Tryz.prog.info? 3).map (fun i => (i.zero, i.size, i.bytes)) = some (some (.int .i64 0), 1, 8) := by kernel_rfl

/-- a row of places -/
def IxAt (w : World) (base : Nat) (v : Value) (l : List Nat) : Prop := w.ownsRow base 3 1 v l.length (l.map fun n : Nat => Value.int .i64 (n : Int))

theorem IxAt.at {w : World} {base : Nat} {v : Value} {l : List Nat} (h : IxAt w base v l) : ∃ a cap, v = .slice a l.length cap ∧ (l = [] ∨ ∃ g, a = some ⟨g, 0, none⟩ ∧ v.ownBlock = some g ∧ base ≤ g ∧ g < w.heap.size ∧ ∀ (i n : Nat), l[i]? = some n → w.cell? ⟨g, i, none⟩ = some (.int .i64 n)) := by
  rcases h.2 with ⟨e, h0⟩ | ⟨g, cap, cur, e, hb, hg, h1, h2, h3, h4⟩
  · exact ⟨none, 0, by rw [e, h0], .inl (List.eq_nil_of_length_eq_zero h0)⟩
  · refine ⟨_, cap, e, .inr ⟨g, rfl, by rw [e]; rfl, hb, lt_of_heap hg, fun i n hn => ?_⟩⟩
    have hi : i < l.length := (List.getElem?_eq_some_iff.1 hn).1
    have : (l.map fun n : Nat => Value.int .i64 (n : Int))[i]? = some (.int .i64 n) := by rw [List.getElem?_map, hn]; rfl
    rw [← h4, List.getElem?_take, if_pos (by omega)] at this
    rw [cell_of_heap hg]
    simpa using this

theorem IxAt.quiet {w w' : World} {base : Nat} {v : Value} {l : List Nat} (h : IxAt w base v l) (k : Quiet w w') : IxAt w' base v l := ownsRow_of_block h (fun b hb => k.block b (h.lt b hb).2 id)

theorem IxAt.snoc {w : World} {base : Nat} {v : Value} {l : List Nat} {n : Nat} (h : w.ownsRow base 3 1 v (l.length + 1) ((l.map fun n : Nat => Value.int .i64 (n : Int)) ++ [.int .i64 n])) : IxAt w base v (l ++ [n]) := by
  unfold IxAt
  rw [List.length_append, List.map_append]
  exact h

theorem pidx_succ {l : List RTx} {P : RTx → Bool} {n : Nat} {x : RTx} (hx : l[n]? = some x) : pidx l P (n + 1) = pidx l P n ++ (if P x = true then [n] else []) := by
  rw [pidx, hx]; rfl

theorem rd_any {l : List (Ent × Unit)} {e : Ent} : l.any (fun p => decide (p.1 = e)) = (look l e).isSome := by
  induction l with
  | nil => rfl
  | cons p r ih =>
    rw [List.any_cons, ih]
    by_cases h : p.1 = e <;> simp [look, h]

section
variable {w w' : World} {base : Nat} {m : MRef} {i : Nat} {k : RTx}

/-- two marks, whole -/
structure Bumps (w : World) (base : Nat) (m : MRef) (a b : Nat) (ov iv : Int) (g cap : Nat) : Prop where
  ha : a < m.txs.length
  hb : b < m.txs.length
  c5 : w.cell? ⟨m.sb, 5, none⟩ = some (.slice (some ⟨g, 0, none⟩) m.txs.length cap)
  p4 : w.cell? ⟨g, a * 7 + 4, none⟩ = some (.int .i64 ov)
  f4 : w.frozen? ⟨g, a * 7 + 4, none⟩ = false
  d5 : (w.setCell ⟨g, a * 7 + 4, none⟩ (.int .i64 (ov + 1))).cell? ⟨m.sb, 5, none⟩ = some (.slice (some ⟨g, 0, none⟩) m.txs.length cap)
  q3 : (w.setCell ⟨g, a * 7 + 4, none⟩ (.int .i64 (ov + 1))).cell? ⟨g, b * 7 + 3, none⟩ = some (.int .i64 iv)
  f3 : (w.setCell ⟨g, a * 7 + 4, none⟩ (.int .i64 (ov + 1))).frozen? ⟨g, b * 7 + 3, none⟩ = false
  left : RLeft w ((w.setCell ⟨g, a * 7 + 4, none⟩ (.int .i64 (ov + 1))).setCell ⟨g, b * 7 + 3, none⟩ (.int .i64 (iv + 1))) base m { m.rs with txs := (m.rs.txs.map (bumpO ((a : Int) + 1))).map (bumpI ((b : Int) + 1)) }
  old : ∀ c : Nat, ¬ m.has c → (w.setCell ⟨g, a * 7 + 4, none⟩ (.int .i64 (ov + 1))).heap[c]? = w.heap[c]?

theorem RefIn.bumps (H : RefIn w base m) (hh : m.rs.hsOk) {a b : Nat} {x y : RTx} (hx : m.rs.txs[a]? = some x) (hy : m.rs.txs[b]? = some y) : ∃ g cap, Bumps w base m a b x.o y.i g cap := by
  obtain ⟨g, cap, wa, wc, ra, rc, T⟩ := H.tx hx
  have L1 := H.set hh (j := 4) (u := .int .i64 (x.o + 1)) T.at_ T.ho (by omega) { x with o := x.o + 1 } rfl rfl rfl (bumpO ((a : Int) + 1)) (by show bumpO _ x = _; unfold bumpO; rw [if_pos (hh a x hx)]) (fun z hz => by unfold bumpO; rw [if_neg hz])
  obtain ⟨m1, h1, h2, h3⟩ := L1
  have hh1 : m1.rs.hsOk := by rw [h3]; exact hh.map _ (bumpO_h _)
  have hy1 : m1.rs.txs[b]? = some (bumpO ((a : Int) + 1) y) := by rw [h3]; show (m.rs.txs.map _)[b]? = _; rw [List.getElem?_map, hy]; rfl
  obtain ⟨g1, cap1, wa1, wc1, ra1, rc1, T1⟩ := h1.tx hy1
  have hne : m.sb ≠ g := by
    obtain ⟨tag, H0⟩ := H
    intro e
    have e1 := H0.gt g T.ho
    have e2 := H0.gb
    rw [e] at e2; omega
  have d5 : (w.setCell ⟨g, a * 7 + 4, none⟩ (.int .i64 (x.o + 1))).cell? ⟨m.sb, 5, none⟩ = some (.slice (some ⟨g, 0, none⟩) m.txs.length cap) := by
    rw [← T.c5]
    exact World.cell?_of_block (a := ⟨m.sb, 5, none⟩) (heap_setCell_other _ _ _ (fun e => hne e))
  have hl1 : m1.txs.length = m.txs.length := by rw [← rs_len, h3, ← rs_len (m := m)]; show (m.rs.txs.map _).length = _; rw [List.length_map]
  have eg : g1 = g := by
    have e := T1.c5
    rw [h2.sb, d5] at e
    have e' : g1 = g ∧ m1.txs.length = m.txs.length ∧ cap1 = cap := by simpa using e.symm
    exact e'.1
  subst eg
  have hi1 : (bumpO ((a : Int) + 1) y).i = y.i := by unfold bumpO; split <;> rfl
  have L2 := h1.set hh1 (j := 3) (u := .int .i64 (y.i + 1)) T1.at_ T1.ho (by omega) { bumpO ((a : Int) + 1) y with i := y.i + 1 } rfl rfl rfl (bumpI ((b : Int) + 1)) (by show bumpI _ (bumpO _ y) = _; unfold bumpI; rw [if_pos (by rw [bumpO_h]; exact hh b y hy), hi1]) (fun z hz => by unfold bumpI; rw [if_neg hz])
  obtain ⟨m2, k1, k2, k3⟩ := L2
  refine ⟨g1, cap, ⟨T.hi, by rw [← hl1]; exact T1.hi, T.c5, T.p4, T.fz _, d5, by rw [← hi1]; exact T1.p3, T1.fz _, ⟨m2, k1, h2.trans k2, by rw [k3, h3]⟩, fun c hc => heap_setCell_other _ _ _ (fun e => hc (.inr (.inl (by rw [e]; exact T.ho))))⟩⟩

/-- the marks of a read, behind some -/
structure MarkI (W wr : World) (base : Nat) (m : MRef) (R1 : RSt) (i : Nat) (PI : List Nat) (n : Nat) (m' : MRef) : Prop where
  is : RefIn wr base m'
  turn : RTurn W wr m m'
  rs : m'.rs = { R1 with txs := R1.txs.map (markR ((i : Int) + 1) (hsOf (PI.take n))) }

theorem MarkI.quiet {W wr wx : World} {R1 : RSt} {PI : List Nat} {n : Nat} {m' : MRef} (M : MarkI W wr base m R1 i PI n m') (k : Quiet wr wx) : MarkI W wx base m R1 i PI n m' := ⟨M.is.quiet k, M.turn.trans (RTurn.quiet _ k), M.rs⟩

/-- one mark more -/
theorem MarkI.step {W wr : World} {R1 : RSt} {PI : List Nat} {n p : Nat} {m' : MRef} (M : MarkI W wr base m R1 i PI n m') (hp : PI[n]? = some p) (hnd : PI.Nodup) (hne : p ≠ i) {wx : World} (L : RLeft wr wx base m' { m'.rs with txs := (m'.rs.txs.map (bumpO ((i : Int) + 1))).map (bumpI ((p : Int) + 1)) }) :
    ∃ m'', MarkI W wx base m R1 i PI (n + 1) m'' := by
  obtain ⟨m2, h1, h2, h3⟩ := L
  refine ⟨m2, h1, M.turn.trans h2, ?_⟩
  rw [h3, M.rs]
  simp only [List.map_map]
  congr 1
  refine List.map_congr_left fun z _ => ?_
  simp only [Function.comp]
  have e1 : hsOf (PI.take (n + 1)) = hsOf (PI.take n) ++ [(p : Int) + 1] := by unfold hsOf; rw [take_succ_of hp, List.map_append]; rfl
  rw [e1]
  refine markR_snoc (fun h => ?_) (by omega) z
  unfold hsOf at h
  obtain ⟨q, hq, e⟩ := List.mem_map.1 h
  have : q = p := by omega
  subst this
  have hn : n < PI.length := (List.getElem?_eq_some_iff.1 hp).1
  obtain ⟨j, hj⟩ := List.getElem?_of_mem hq
  have hjn : j < n := by have := (List.getElem?_eq_some_iff.1 hj).1; simp at this; omega
  rw [List.getElem?_take, if_pos hjn] at hj
  obtain ⟨h1, h1'⟩ := List.getElem?_eq_some_iff.1 hj
  obtain ⟨h2, h2'⟩ := List.getElem?_eq_some_iff.1 hp
  have := (List.pairwise_iff_getElem.1 hnd) j n h1 h2 hjn
  exact this (h1'.trans h2'.symm)

theorem MarkI.facts {W wr : World} {R1 : RSt} {PI : List Nat} {n p : Nat} {m' : MRef} {k1 y1 : RTx} {B : Int} (M : MarkI W wr base m R1 i PI n m') (hh : R1.hsOk) (hk : R1.txs[i]? = some k1) (hy : R1.txs[p]? = some y1) (hB : B ≤ 1152921504606846976) (hl : PI.length ≤ 1099511627776) (hko : 0 ≤ k1.o ∧ k1.o ≤ B) (hyi : 0 ≤ y1.i ∧ y1.i ≤ B) :
    ∃ ov iv g cap, (0 ≤ ov ∧ ov ≤ 2305843009213693952) ∧ (0 ≤ iv ∧ iv ≤ 2305843009213693952) ∧ Bumps wr base m' i p ov iv g cap ∧ m'.txs.length = R1.txs.length := by
  have hh' : m'.rs.hsOk := by rw [M.rs]; exact hh.map _ (fun _ => rfl)
  have hk' : m'.rs.txs[i]? = some (markR ((i : Int) + 1) (hsOf (PI.take n)) k1) := by rw [M.rs]; show (R1.txs.map _)[i]? = _; rw [List.getElem?_map, hk]; rfl
  have hy' : m'.rs.txs[p]? = some (markR ((i : Int) + 1) (hsOf (PI.take n)) y1) := by rw [M.rs]; show (R1.txs.map _)[p]? = _; rw [List.getElem?_map, hy]; rfl
  obtain ⟨g, cap, Bu⟩ := M.is.bumps hh' hk' hy'
  refine ⟨_, _, g, cap, ?_, ?_, Bu, ?_⟩
  · show 0 ≤ (if k1.h = (i : Int) + 1 then k1.o + ((hsOf (PI.take n)).length : Int) else k1.o) ∧ (if k1.h = (i : Int) + 1 then k1.o + ((hsOf (PI.take n)).length : Int) else k1.o) ≤ _
    have : (hsOf (PI.take n)).length ≤ PI.length := by unfold hsOf; rw [List.length_map, List.length_take]; omega
    split <;> omega
  · show 0 ≤ (if y1.h ∈ hsOf (PI.take n) then y1.i + 1 else y1.i) ∧ (if y1.h ∈ hsOf (PI.take n) then y1.i + 1 else y1.i) ≤ _
    split <;> omega
  · rw [← rs_len, M.rs]; show (R1.txs.map _).length = _; rw [List.length_map]

end
end Go.Proofs.YthfimgeopciiiaaGreat
