/-
  The book's Write.
-/
import Derived.Test.YthfimgeopciiiaaGreatBookS
import Derived.Test.YthfimgeopciiiaaGreatWrite
import Derived.Deep.CutRange
namespace Go.Proofs.YthfimgeopciiiaaGreat
open Go.MapKept Go.ChangeMaps Go.Maps Go.RowKit Go.MuLone
set_option linter.unusedVariables false

section
variable {w W : World} {s : Sto} {m : MBk} {n M : Int}

set_option maxRecDepth 100000 in
set_option maxHeartbeats 4000000 in
theorem writes_no (Mm : Mem w W s m) (I : s.abs.Inv n) (K : BkIs s.abs m.bk M) (h : Int) (hh : 0 ≤ h ∧ h ≤ m.deals.length) (hlen : m.deals.length ≤ 1099511627776) (v : Value) (cs : List Chg) (hch : ChAt w v cs) (hlb : ∀ b, heldBlock v = some b → b < w.heap.size) (ha : s.abs.act? h = none) :
    Calls Tryz.prog 46 #[.pointer (some ⟨m.bb, 0, none⟩), .int .i64 h, v] W fun e w' => e = .returned (.bool true) ∧ BLeft w W w' s m s.abs m.bk := by
  have hA := K.actB I h
  rw [ha] at hA
  have c0 : W.cell? ⟨m.bb, 0, none⟩ = some (.pointer (some ⟨s.sb, 0, none⟩)) := by obtain ⟨tag, B, -⟩ := Mm.bk; rw [← Mm.sb]; exact B.cell.1
  have HAc : Hid (Calls Tryz.prog 24 #[.pointer (some ⟨m.bb, 0, none⟩), .int .i64 h] W fun e w'' => e = .returned (.bool false) ∧ w'' = W) := by
    have := active_h Mm h hh hlen
    rw [hA] at this
    exact this
  have hq := Mm.quiet
  have HWr := write_api Mm.st Mm.mu I h (wf_h hh hlen) v cs (hch.quiet hq) (fun b hb hf => by have := hlb b hb; have := Mm.low b hf; omega)
  rw [show (s.abs.writeR h cs) = (2, s.abs) by unfold Abs.writeR; rw [ha]] at HWr
  have HM : Hid (∀ w' s', Turn s s' W w' → s'.abs = s.abs → BLeft w W w' s m s.abs m.bk) := fun w' s' t e => by
    obtain ⟨M1, N1⟩ := Mm.turn t
    exact ⟨s', m, M1, N1, e, rfl⟩
  obtain ⟨⟨la, lcap, rfl, hlc⟩, hll⟩ := hch.quiet hq
  have HWr := hidC HWr
  clear hA K I Mm hch hlb hq ha
  go_enter Tryz.func46, Tryz.ntmps46
  go_wp2_with (go_at_call 24; refine (HAc.out).mono ?_; rintro e w3 ⟨rfl, rfl⟩)
  go_loopw [8, 9] (fun u i wr => ∃ (n : Nat) (e : Int), i = .int .i64 n ∧ u = .int .i64 e ∧ n ≤ cs.length ∧ wr = w3) (fun _ i _ => cs.length - (intOf i).toNat)
  case atStart => exact ⟨0, 0, rfl, rfl, Nat.zero_le _, rfl⟩
  case round =>
    obtain ⟨n, e, rfl, rfl, hn, rfl⟩ := hrel
    by_cases hlt : n < cs.length
    · have hlt' : (n : Int) < (cs.length : Int) := by omega
      by_cases he : e = 0
      · subst he
        rcases hlc with h0 | ⟨gl, o, rfl, hgl, hcell⟩
        · rw [h0] at hlt; simp at hlt
        obtain ⟨c, hc⟩ : ∃ c, cs[n]? = some c := ⟨_, List.getElem?_eq_getElem hlt⟩
        obtain ⟨l0, l1, l2⟩ := hcell n c hc
        clear hcell hc HWr HM HAc
        by_cases hk1 : (c.1.size : Int) < 1
        · go_wp2
          exact ⟨⟨n + 1, 3, by go_num, rfl, by omega, trivial⟩, by simp [intOf]; omega⟩
        by_cases hk2 : 4 < (c.1.size : Int)
        · go_wp2
          exact ⟨⟨n + 1, 3, by go_num, rfl, by omega, trivial⟩, by simp [intOf]; omega⟩
        by_cases hk3 : 8 < (c.2.1.size : Int)
        · go_wp2
          exact ⟨⟨n + 1, 4, by go_num, rfl, by omega, trivial⟩, by simp [intOf]; omega⟩
        · go_wp2
          exact ⟨⟨n + 1, 0, by go_num, rfl, by omega, trivial⟩, by simp [intOf]; omega⟩
      · have he' : (e == 0) = false := by simpa using he
        clear hlc HAc
        go_wp2_with (go_at_call 27; refine (HWr.out).mono ?_; rintro e w4 ⟨s4, rfl, hT, hab⟩)
        go_ret
        exact ⟨rfl, HM.out _ _ hT hab⟩
    · have hge : ¬ (n : Int) < (cs.length : Int) := by omega
      clear hlc HAc
      go_wp2_with (go_at_call 27; refine (HWr.out).mono ?_; rintro e w4 ⟨s4, rfl, hT, hab⟩)
      go_ret
      exact ⟨rfl, HM.out _ _ hT hab⟩


/-- what the walks of Write want -/
structure WrH (w W : World) (s : Sto) (m : MBk) (i : Nat) (x : MDeal) (v : Value) (cs : List Chg) (T : Bool) (E : Int) (A : Abs) : Prop where
  ac : Calls Tryz.prog 24 #[.pointer (some ⟨m.bb, 0, none⟩), .int .i64 ((i : Int) + 1)] W fun e w'' => e = .returned (.bool true) ∧ w'' = W
  tk : Calls Tryz.prog 80 #[.pointer (some ⟨m.bb, 0, none⟩), .int .i64 ((i : Int) + 1), v] W fun e w' => e = .returned (.bool T) ∧ Quiet W w' ∧ w'.cell? ⟨m.bb, 0, none⟩ = some (.pointer (some ⟨s.sb, 0, none⟩))
  wr : ∀ W', Quiet W W' → Calls Tryz.prog 27 #[.pointer (some ⟨s.sb, 0, none⟩), .int .i64 ((i : Int) + 1), v] W' fun e w' => ∃ s', e = .returned (.int .i64 E) ∧ Mem w w' s' m ∧ Nx W w' s s' m m ∧ s'.abs = A

theorem writeH (Mm : Mem w W s m) (I : s.abs.Inv n) (K : BkIs s.abs m.bk M) {h : Int} (hlen : m.deals.length ≤ 1099511627776) (hcl : m.commits.length ≤ 1099511627776) (v : Value) (cs : List Chg) (hch : ChAt w v cs) (hlb : ∀ b, heldBlock v = some b → b < w.heap.size) {t : Tx} (ha : s.abs.act? h = some t) :
    ∃ (i : Nat) (x : MDeal), h = (i : Int) + 1 ∧ m.deals[i]? = some x ∧ DealIs s.abs t x.d ∧ x.d.active = true ∧ t ∈ s.abs.txs ∧ t.cm = 0 ∧ t.h = h ∧ WrH w W s m i x v cs (s.abs.clash t cs) (s.abs.writeR h cs).1 (s.abs.writeR h cs).2 := by
  obtain ⟨i, x, rfl, hx, D, hact, htm, hcm, hth⟩ := deal_at K I ha
  have hil : i < m.deals.length := (List.getElem?_eq_some_iff.1 hx).1
  have hh : 0 ≤ (i : Int) + 1 ∧ (i : Int) + 1 ≤ m.deals.length := by omega
  have hA := K.actB I ((i : Int) + 1)
  rw [ha] at hA
  have hq := Mm.quiet
  have hb0 := I.bgs t htm
  have hcc : (m.commits.length : Int) = s.abs.clock := by have := K.clk; simpa [MBk.bk] using this
  refine ⟨i, x, rfl, hx, D, hact, htm, hcm, hth, ?_, ?_, fun W' k => ?_⟩
  · have := active_h Mm _ hh hlen
    rw [hA] at this
    exact this
  · have h1 := taken_h Mm i x hx hlen hcl t.bg.toNat (by rw [D.bg]; omega) (by omega) v cs (hch.quiet hq)
    rw [show ((t.bg.toNat : Nat) : Int) = t.bg by omega, ← hth, K.takenB I htm hcm cs, hth] at h1
    refine h1.mono fun e w' ⟨e1, e2⟩ => ⟨e1, e2, ?_⟩
    obtain ⟨tag, B, -⟩ := (Mm.still e2).bk
    rw [← Mm.sb]
    exact B.cell.1
  · have Mm' := Mm.still k
    refine (write_api Mm'.st Mm'.mu I _ (wf_h hh hlen) v cs (hch.quiet Mm'.quiet) (fun b hb hf => by have := hlb b hb; have := Mm.low b hf; omega)).mono fun e w' ⟨s', e1, e2, e3⟩ => ?_
    obtain ⟨M1, N1⟩ := Mm'.turn e2
    exact ⟨s', e1, M1, (Nx.quiet s m k).trans N1, e3⟩

theorem chg_step {cs : List Chg} {n : Nat} {c : Chg} (hc : cs[n]? = some c) {e : Int} (he : changesE cs = changesE (cs.drop n)) :
    ((c.1.size : Int) < 1 ∨ 4 < (c.1.size : Int) → changesE cs = 3) ∧ (¬ (c.1.size : Int) < 1 → ¬ 4 < (c.1.size : Int) → (8 < (c.2.1.size : Int) → changesE cs = 4) ∧ (¬ 8 < (c.2.1.size : Int) → changesE cs = changesE (cs.drop (n + 1)))) := by
  rw [he, changesE_drop hc]
  refine ⟨fun h => ?_, fun h1 h2 => ⟨fun h3 => ?_, fun h3 => ?_⟩⟩
  · rw [key_len.2 h]; rfl
  · have : keyB c.1 = true := by rw [← Bool.not_eq_false]; exact fun hf => by have := key_len.1 hf; omega
    rw [this, if_neg (by simp), if_pos (by omega)]
  · have : keyB c.1 = true := by rw [← Bool.not_eq_false]; exact fun hf => by have := key_len.1 hf; omega
    rw [this, if_neg (by simp), if_neg (by omega)]

set_option maxRecDepth 100000 in
set_option maxHeartbeats 4000000 in
/-- a list with an error -/
theorem writes_bad {i : Nat} {x : MDeal} {v : Value} {cs : List Chg} {T : Bool} {E : Int} {A : Abs} (H : WrH w W s m i x v cs T E A) (hE : changesE cs ≠ 0) (hE' : E = changesE cs) (hch : ChAt W v cs) (c0 : W.cell? ⟨m.bb, 0, none⟩ = some (.pointer (some ⟨s.sb, 0, none⟩))) :
    Calls Tryz.prog 46 #[.pointer (some ⟨m.bb, 0, none⟩), .int .i64 ((i : Int) + 1), v] W fun e w' => e = .returned (.bool true) ∧ BLeft w W w' s m A m.bk := by
  have HAc := hidC H.ac
  have HTk := hidC H.tk
  have HWr := hidC' H.wr
  have HEn := hidC' hE
  subst hE'
  generalize hz : changesE cs = Z at HWr
  have HZ : Hid (changesE cs = Z) := hz
  clear H hE hz
  obtain ⟨⟨la, lcap, rfl, hlc⟩, hll⟩ := hch
  go_enter Tryz.func46, Tryz.ntmps46
  go_wp2_with (go_at_call 24; refine (HAc.out).mono ?_; rintro e w3 ⟨rfl, rfl⟩)
  go_loopw [8, 9] (fun u i wr => ∃ (n : Nat) (e : Int), i = .int .i64 n ∧ u = .int .i64 e ∧ n ≤ cs.length ∧ wr = w3 ∧ Hid ((e = 0 ∧ changesE cs = changesE (cs.drop n)) ∨ (e ≠ 0 ∧ changesE cs = e))) (fun _ i _ => cs.length - (intOf i).toNat)
  case atStart => exact ⟨0, 0, rfl, rfl, Nat.zero_le _, rfl, .inl ⟨rfl, rfl⟩⟩
  case round =>
    obtain ⟨n, e, rfl, rfl, hn, rfl, HE⟩ := hrel
    by_cases hlt : n < cs.length
    · have hlt' : (n : Int) < (cs.length : Int) := by omega
      by_cases he : e = 0
      · subst he
        rcases hlc with h0 | ⟨gl, o, rfl, hgl, hcell⟩
        · rw [h0] at hlt; simp at hlt
        obtain ⟨c, hc⟩ : ∃ c, cs[n]? = some c := ⟨_, List.getElem?_eq_getElem hlt⟩
        obtain ⟨l0, l1, l2⟩ := hcell n c hc
        have HS := hidC' (chg_step (e := 0) hc (by rcases HE.out with ⟨_, h⟩ | ⟨h, _⟩; exact h; exact absurd rfl h))
        clear hcell hc HAc HE HTk HWr HEn HZ
        by_cases hk1 : (c.1.size : Int) < 1
        · have HN : Hid (changesE cs = 3) := HS.out.1 (.inl hk1)
          clear HS
          go_wp2
          exact ⟨⟨n + 1, 3, by go_num, rfl, by omega, trivial, .inr ⟨by decide, HN.out⟩⟩, by simp [intOf]; omega⟩
        by_cases hk2 : 4 < (c.1.size : Int)
        · have HN : Hid (changesE cs = 3) := HS.out.1 (.inr hk2)
          clear HS
          go_wp2
          exact ⟨⟨n + 1, 3, by go_num, rfl, by omega, trivial, .inr ⟨by decide, HN.out⟩⟩, by simp [intOf]; omega⟩
        by_cases hk3 : 8 < (c.2.1.size : Int)
        · have HN : Hid (changesE cs = 4) := (HS.out.2 hk1 hk2).1 hk3
          clear HS
          go_wp2
          exact ⟨⟨n + 1, 4, by go_num, rfl, by omega, trivial, .inr ⟨by decide, HN.out⟩⟩, by simp [intOf]; omega⟩
        · have HN : Hid (changesE cs = changesE (cs.drop (n + 1))) := (HS.out.2 hk1 hk2).2 hk3
          clear HS
          go_wp2
          exact ⟨⟨n + 1, 0, by go_num, rfl, by omega, trivial, .inl ⟨rfl, HN.out⟩⟩, by simp [intOf]; omega⟩
      · have he' : (e == 0) = false := by simpa using he
        have HX : Hid (e = Z) := by rcases HE.out with ⟨h, _⟩ | ⟨_, h⟩; exact absurd h he; exact h.symm.trans HZ.out
        clear hlc HAc HE HEn HZ
        go_wp2_with (first
          | (go_at_call 80; refine (HTk.out).mono ?_; rintro e w4 ⟨rfl, hq4, c4⟩)
          | (go_at_call 27; refine (HWr.out _ hq4).mono ?_; rintro e w5 ⟨s5, rfl, hM, hN, hab⟩; have hX := HX.out; subst hX))
        go_ret
        exact ⟨by simp, s5, m, hM, hN, hab, rfl⟩
    · have hge : ¬ (n : Int) < (cs.length : Int) := by omega
      have HX : Hid (e = Z) := by
        rcases HE.out with ⟨_, h⟩ | ⟨_, h⟩
        · rw [List.drop_eq_nil_of_le (by omega)] at h; exact absurd h HEn.out
        · exact h.symm.trans HZ.out
      have he0 : ¬ e = 0 := by rw [HX.out, ← HZ.out]; exact HEn.out
      have he : (e == 0) = false := by simpa using he0
      clear hlc HAc HE HEn HZ
      go_wp2_with (first
        | (go_at_call 80; refine (HTk.out).mono ?_; rintro e w4 ⟨rfl, hq4, c4⟩)
        | (go_at_call 27; refine (HWr.out _ hq4).mono ?_; rintro e w5 ⟨s5, rfl, hM, hN, hab⟩; have hX := HX.out; subst hX))
      go_ret
      exact ⟨by simp, s5, m, hM, hN, hab, rfl⟩

set_option maxRecDepth 100000 in
set_option maxHeartbeats 4000000 in
/-- no room -/
theorem writes_six {i : Nat} {x : MDeal} {v : Value} {cs : List Chg} {T : Bool} {A : Abs} (H : WrH w W s m i x v cs T 6 A) (hE : changesE cs = 0) (hch : ChAt W v cs) :
    Calls Tryz.prog 46 #[.pointer (some ⟨m.bb, 0, none⟩), .int .i64 ((i : Int) + 1), v] W fun e w' => e = .returned (.bool true) ∧ BLeft w W w' s m A m.bk := by
  have HAc := hidC H.ac
  have HTk := hidC H.tk
  have HWr := hidC' H.wr
  have HEz := hidC' hE
  clear H hE
  obtain ⟨⟨la, lcap, rfl, hlc⟩, hll⟩ := hch
  go_enter Tryz.func46, Tryz.ntmps46
  go_wp2_with (go_at_call 24; refine (HAc.out).mono ?_; rintro e w3 ⟨rfl, rfl⟩)
  go_loopw [8, 9] (fun u i wr => ∃ (n : Nat) (e : Int), i = .int .i64 n ∧ u = .int .i64 e ∧ n ≤ cs.length ∧ wr = w3 ∧ Hid ((e = 0 ∧ changesE cs = changesE (cs.drop n)) ∨ (e ≠ 0 ∧ changesE cs = e))) (fun _ i _ => cs.length - (intOf i).toNat)
  case atStart => exact ⟨0, 0, rfl, rfl, Nat.zero_le _, rfl, .inl ⟨rfl, rfl⟩⟩
  case round =>
    obtain ⟨n, e, rfl, rfl, hn, rfl, HE⟩ := hrel
    by_cases hlt : n < cs.length
    · have hlt' : (n : Int) < (cs.length : Int) := by omega
      by_cases he : e = 0
      · subst he
        rcases hlc with h0 | ⟨gl, o, rfl, hgl, hcell⟩
        · rw [h0] at hlt; simp at hlt
        obtain ⟨c, hc⟩ : ∃ c, cs[n]? = some c := ⟨_, List.getElem?_eq_getElem hlt⟩
        obtain ⟨l0, l1, l2⟩ := hcell n c hc
        have HS := hidC' (chg_step (e := 0) hc (by rcases HE.out with ⟨_, h⟩ | ⟨h, _⟩; exact h; exact absurd rfl h))
        clear hcell hc HAc HE HTk HWr HEz
        by_cases hk1 : (c.1.size : Int) < 1
        · have HN : Hid (changesE cs = 3) := HS.out.1 (.inl hk1)
          clear HS
          go_wp2
          exact ⟨⟨n + 1, 3, by go_num, rfl, by omega, trivial, .inr ⟨by decide, HN.out⟩⟩, by simp [intOf]; omega⟩
        by_cases hk2 : 4 < (c.1.size : Int)
        · have HN : Hid (changesE cs = 3) := HS.out.1 (.inr hk2)
          clear HS
          go_wp2
          exact ⟨⟨n + 1, 3, by go_num, rfl, by omega, trivial, .inr ⟨by decide, HN.out⟩⟩, by simp [intOf]; omega⟩
        by_cases hk3 : 8 < (c.2.1.size : Int)
        · have HN : Hid (changesE cs = 4) := (HS.out.2 hk1 hk2).1 hk3
          clear HS
          go_wp2
          exact ⟨⟨n + 1, 4, by go_num, rfl, by omega, trivial, .inr ⟨by decide, HN.out⟩⟩, by simp [intOf]; omega⟩
        · have HN : Hid (changesE cs = changesE (cs.drop (n + 1))) := (HS.out.2 hk1 hk2).2 hk3
          clear HS
          go_wp2
          exact ⟨⟨n + 1, 0, by go_num, rfl, by omega, trivial, .inl ⟨rfl, HN.out⟩⟩, by simp [intOf]; omega⟩
      · exact absurd (by rcases HE.out with ⟨h, _⟩ | ⟨_, h⟩; exact h; exact h.symm.trans HEz.out) he
    · have hge : ¬ (n : Int) < (cs.length : Int) := by omega
      have he : e = 0 := by rcases HE.out with ⟨h, _⟩ | ⟨_, h⟩; exact h; exact h.symm.trans HEz.out
      subst he
      clear hlc HAc HE HEz
      go_wp2_with (first
        | (go_at_call 80; refine (HTk.out).mono ?_; rintro e w4 ⟨rfl, hq4, c4⟩)
        | (go_at_call 27; refine (HWr.out _ hq4).mono ?_; rintro e w5 ⟨s5, rfl, hM, hN, hab⟩))
      go_ret
      exact ⟨rfl, s5, m, hM, hN, hab, rfl⟩

set_option maxRecDepth 100000 in
set_option maxHeartbeats 4000000 in
/-- it is aborted -/
theorem writes_gone {i : Nat} {x : MDeal} {v : Value} {cs : List Chg} {T : Bool} {E : Int} {A : Abs} (H : WrH w W s m i x v cs T E A) (hET : (E = 7 ∧ T = true) ∨ (E = 8 ∧ T = false)) (hx : m.deals[i]? = some x) (hact : x.d.active = true) (hlen : m.deals.length ≤ 1099511627776) (hE : changesE cs = 0) (hch : ChAt W v cs) :
    Calls Tryz.prog 46 #[.pointer (some ⟨m.bb, 0, none⟩), .int .i64 ((i : Int) + 1), v] W fun e w' => e = .returned (.bool true) ∧ BLeft w W w' s m A (m.bk.off ((i : Int) + 1)) := by
  have HAc := hidC H.ac
  have HTk := hidC H.tk
  have HWr := hidC' H.wr
  have HEz := hidC' hE
  have HGy : Hid (∀ w' s', Mem w w' s' m → Nx W w' s s' m m → Calls Tryz.prog 79 #[.pointer (some ⟨m.bb, 0, none⟩), .int .i64 ((i : Int) + 1), .int .i64 E] w' fun e w'' => e = .returned (.bool true) ∧ Mem w w'' s' (m.off i x) ∧ Nx W w'' s s' m (m.off i x)) := fun w' s' M1 N1 => (gone_yes M1 i x hx hact E (by rcases hET with ⟨h, _⟩ | ⟨h, _⟩; exact .inl h; exact .inr h) hlen).mono fun e w'' ⟨h1, h2, h3⟩ => ⟨h1, h2, N1.trans h3⟩
  have HB : Hid ((m.off i x).bk = m.bk.off ((i : Int) + 1)) := MBk.off_bk hx
  clear H hE hx hact
  obtain ⟨⟨la, lcap, rfl, hlc⟩, hll⟩ := hch
  go_enter Tryz.func46, Tryz.ntmps46
  go_wp2_with (go_at_call 24; refine (HAc.out).mono ?_; rintro e w3 ⟨rfl, rfl⟩)
  go_loopw [8, 9] (fun u i wr => ∃ (n : Nat) (e : Int), i = .int .i64 n ∧ u = .int .i64 e ∧ n ≤ cs.length ∧ wr = w3 ∧ Hid ((e = 0 ∧ changesE cs = changesE (cs.drop n)) ∨ (e ≠ 0 ∧ changesE cs = e))) (fun _ i _ => cs.length - (intOf i).toNat)
  case atStart => exact ⟨0, 0, rfl, rfl, Nat.zero_le _, rfl, .inl ⟨rfl, rfl⟩⟩
  case round =>
    obtain ⟨n, e, rfl, rfl, hn, rfl, HE⟩ := hrel
    by_cases hlt : n < cs.length
    · have hlt' : (n : Int) < (cs.length : Int) := by omega
      by_cases he : e = 0
      · subst he
        rcases hlc with h0 | ⟨gl, o, rfl, hgl, hcell⟩
        · rw [h0] at hlt; simp at hlt
        obtain ⟨c, hc⟩ : ∃ c, cs[n]? = some c := ⟨_, List.getElem?_eq_getElem hlt⟩
        obtain ⟨l0, l1, l2⟩ := hcell n c hc
        have HS := hidC' (chg_step (e := 0) hc (by rcases HE.out with ⟨_, h⟩ | ⟨h, _⟩; exact h; exact absurd rfl h))
        clear hcell hc HAc HE HTk HWr HEz HGy HB
        by_cases hk1 : (c.1.size : Int) < 1
        · have HN : Hid (changesE cs = 3) := HS.out.1 (.inl hk1)
          clear HS
          go_wp2
          exact ⟨⟨n + 1, 3, by go_num, rfl, by omega, trivial, .inr ⟨by decide, HN.out⟩⟩, by simp [intOf]; omega⟩
        by_cases hk2 : 4 < (c.1.size : Int)
        · have HN : Hid (changesE cs = 3) := HS.out.1 (.inr hk2)
          clear HS
          go_wp2
          exact ⟨⟨n + 1, 3, by go_num, rfl, by omega, trivial, .inr ⟨by decide, HN.out⟩⟩, by simp [intOf]; omega⟩
        by_cases hk3 : 8 < (c.2.1.size : Int)
        · have HN : Hid (changesE cs = 4) := (HS.out.2 hk1 hk2).1 hk3
          clear HS
          go_wp2
          exact ⟨⟨n + 1, 4, by go_num, rfl, by omega, trivial, .inr ⟨by decide, HN.out⟩⟩, by simp [intOf]; omega⟩
        · have HN : Hid (changesE cs = changesE (cs.drop (n + 1))) := (HS.out.2 hk1 hk2).2 hk3
          clear HS
          go_wp2
          exact ⟨⟨n + 1, 0, by go_num, rfl, by omega, trivial, .inl ⟨rfl, HN.out⟩⟩, by simp [intOf]; omega⟩
      · exact absurd (by rcases HE.out with ⟨h, _⟩ | ⟨_, h⟩; exact h; exact h.symm.trans HEz.out) he
    · have hge : ¬ (n : Int) < (cs.length : Int) := by omega
      have he : e = 0 := by rcases HE.out with ⟨h, _⟩ | ⟨_, h⟩; exact h; exact h.symm.trans HEz.out
      subst he
      clear hlc HAc HE HEz
      rcases hET with ⟨rfl, rfl⟩ | ⟨rfl, rfl⟩
      all_goals
        go_wp2_with (first
          | (go_at_call 80; refine (HTk.out).mono ?_; rintro e w4 ⟨rfl, hq4, c4⟩)
          | (go_at_call 27; refine (HWr.out _ hq4).mono ?_; rintro e w5 ⟨s5, rfl, hM, hN, hab⟩)
          | (go_at_call 79; refine (HGy.out _ _ hM hN).mono ?_; rintro e w6 ⟨rfl, hM6, hN6⟩))
        go_ret
        exact ⟨rfl, s5, _, hM6, hN6, hab, HB.out⟩

end
end Go.Proofs.YthfimgeopciiiaaGreat

/-
  The book's Write, where it is written.
-/
namespace Go.Proofs.YthfimgeopciiiaaGreat
open Go.MapKept Go.ChangeMaps Go.Maps Go.RowKit Go.MuLone
set_option linter.unusedVariables false

/-- behind some of the changes -/
structure WrI (w W W' : World) (s s' : Sto) (m : MBk) (i : Nat) (x : MDeal) (done : List Chg) (m' : MBk) : Prop where
  mem : Mem w W' s' m'
  nx : Nx W W' s s' m m'
  at_ : ∃ x', m'.deals[i]? = some x' ∧ x'.d = ⟨true, x.d.bg, done.foldl applyC x.d.now, x.d.keys ++ done.map (·.1)⟩ ∧ m'.deals = m.deals.set i x'
  t : m'.t = m.t
  cm : m'.commits = m.commits
  sb : m'.sb = m.sb

/-- one key more -/
structure GrowK (w W : World) (s : Sto) (m : MBk) (i : Nat) (x : MDeal) (k : ByteArray) (g : Nat) (a5 : Option Addr) (c5 : Nat) (W5 : World) : Prop where
  app : (Builtin.append_ #[115, 115] 115 #[x.kv, .slice (some ⟨W.heap.size, 0, none⟩) 1 1]).run Tryz.prog (W.alloc (.cells #[.string k] 9)).drew = .ok (.slice a5 (x.d.keys.length + 1) c5) W5
  frz : W5.frozen? ⟨g, i * 4 + 3, none⟩ = false
  cell : W5.cell? ⟨g, i * 4 + 3, none⟩ = some x.kv
  mem : Mem w (W5.setCell ⟨g, i * 4 + 3, none⟩ (.slice a5 (x.d.keys.length + 1) c5)) s { m with deals := m.deals.set i ⟨{ x.d with keys := x.d.keys ++ [k] }, x.nv, .slice a5 (x.d.keys.length + 1) c5⟩ }
  nx : Nx W (W5.setCell ⟨g, i * 4 + 3, none⟩ (.slice a5 (x.d.keys.length + 1) c5)) s s m { m with deals := m.deals.set i ⟨{ x.d with keys := x.d.keys ++ [k] }, x.nv, .slice a5 (x.d.keys.length + 1) c5⟩ }

set_option maxRecDepth 100000 in
theorem Mem.growK {w W : World} {s : Sto} {m : MBk} (M : Mem w W s m) {i g : Nat} {x : MDeal} (hx : m.deals[i]? = some x) (hg : m.dv.ownBlock = some g) (hact : x.d.active = true) (k : ByteArray) (hl : x.d.keys.length ≤ 4398046511104) :
    ∃ a5 c5 W5, GrowK w W s m i x k g a5 c5 W5 := by
  obtain ⟨i0, hi0, hz0, hz1, hz2⟩ := info_parts info_string
  have hq2 : Quiet W ((W.alloc (.cells #[.string k] 9)).drew) := Quiet.trans' (Keeps.alloc _ _) (Keeps.drew _)
  have hnew : (W.alloc (.cells #[.string k] 9)).drew.heap[W.heap.size]? = some (.cells #[.string k] 9) := heap_alloc_new W _
  have hsz : ((W.alloc (.cells #[.string k] 9)).drew).heap.size = W.heap.size + 1 := by simp
  have hs := M.quiet.size
  generalize hw2 : (W.alloc (.cells #[.string k] 9)).drew = w2 at *
  have M2 := M.still hq2
  obtain ⟨tag, B, h4⟩ := M2.bk
  have hown := B.keys i x hx
  have hnews : ∀ j u, [Value.string k][j]? = some u → w2.cell? ((⟨W.heap.size, 0, none⟩ : Addr).add j) = some u := fun j u hj => by
    rw [show (⟨W.heap.size, 0, none⟩ : Addr).add j = ⟨W.heap.size, j, none⟩ by cases j <;> simp [Addr.add], cell_of_heap hnew]
    simpa using hj
  obtain ⟨v', w5, happ, hown', hgrow, hnil, hat⟩ := run_append_own_at (P := Tryz.prog) w2 w.heap.size 115 115 9 i0 _ 1 16 Tryz.underlying115 hi0 hz0 hz1 hz2 (by kernel_rfl) (by omega) x.kv _ _ hown
    ⟨W.heap.size, 0, none⟩ 1 1 [.string k] rfl hnews (by simp [Value.oneCell']) (by simp [maxLen]; omega) (by omega) (by omega)
  have hv := SSl.snoc hown'
  obtain ⟨a5, c5, hv5, -⟩ := hv.cells
  have hv5' : v' = .slice a5 (x.d.keys.length + 1) c5 := by rw [hv5]; simp
  subst hv5'
  have hgk : x.kv.ownBlock ≠ some g := fun e => by have h1 := B.gk i x hx g e; have h2 := B.gd g hg; omega
  have hgl : g < w2.heap.size := (B.dl.lt g hg).2
  have hblk : w5.heap[g]? = w2.heap[g]? := hgrow.block g hgl (fun e => hgk e.symm)
  obtain ⟨g', cap, hg', -, -, -, -, c3, hfz, -⟩ := (show ∃ g cap, m.dv.ownBlock = some g ∧ w2.cell? ⟨m.bb, 1, none⟩ = some (.slice (some ⟨g, 0, none⟩) m.deals.length cap) ∧ w2.cell? ⟨g, i * 4, none⟩ = some (.bool x.d.active) ∧ w2.cell? ⟨g, i * 4 + 1, none⟩ = some (.int .i64 x.d.bg) ∧ w2.cell? ⟨g, i * 4 + 2, none⟩ = some x.nv ∧ w2.cell? ⟨g, i * 4 + 3, none⟩ = some x.kv ∧ (∀ j, w2.frozen? ⟨g, j, none⟩ = false) ∧ g < w2.heap.size from M2.dealCells hx)
  obtain rfl : g' = g := by rw [hg] at hg'; exact (Option.some.inj hg').symm
  obtain ⟨M5, N5⟩ := M.setKeys hx hg hact hq2 hgrow hv (fun b hb => by
    rcases hat with h | h
    · exact .inl (by rw [← h]; exact hb)
    · rw [h] at hb; exact .inr (by have := Option.some.inj hb; omega))
  exact ⟨a5, c5, w5, ⟨by rw [hw2]; exact happ, (World.frozen?_of_block (a := ⟨g', i * 4 + 3, none⟩) hblk).trans (hfz _), (World.cell?_of_block (a := ⟨g', i * 4 + 3, none⟩) hblk).trans c3, M5, N5⟩⟩

def heldAppend' (ats : Array TypeId) (ty : TypeId) (args : Array Value) : Sem Value := Builtin.append_ ats ty args
theorem append_held' (ats : Array TypeId) (ty : TypeId) (cs : Array Bool) (args : Array Value) : builtin .append ats ty cs args = (do pure (.value (← heldAppend' ats ty args))) := rfl
theorem append_eq' (ats : Array TypeId) (ty : TypeId) (args : Array Value) : Builtin.append_ ats ty args = heldAppend' ats ty args := rfl
attribute [local go_sem ↓ high] append_held' append_eq'

/-- behind the table's turn -/
structure MidI (w W W' : World) (s : Sto) (m : MBk) (i : Nat) (x : MDeal) (c : Chg) (m1 : MBk) (x1 : MDeal) : Prop where
  mem : Mem w W' s m1
  nx : Nx W W' s s m m1
  at_ : m1.deals[i]? = some x1
  is : x1.d = { x.d with now := applyC x.d.now c } ∧ x1.kv = x.kv
  eq : m1 = { m with deals := m.deals.set i x1 }

theorem foldl_len : ∀ (cs : List Chg) (t : Tab), (cs.foldl applyC t).length ≤ t.length + cs.length
  | [], t => by simp
  | c :: r, t => by
    have h1 := foldl_len r (applyC t c)
    have h2 : (applyC t c).length ≤ t.length + 1 := by
      unfold applyC
      split
      · exact Nat.le_trans (List.length_filter_le _ _) (by omega)
      · exact tput_len t c.1 c.2.1
    simp only [List.foldl_cons, List.length_cons]
    omega

theorem WrI.step {w W wr : World} {s s5 : Sto} {m m' m1 : MBk} {i g : Nat} {x x' x1 : MDeal} {cs : List Chg} {j : Nat} {c : Chg} {wx : World} {a5 : Option Addr} {c5 : Nat} {W5 : World} (H : WrI w W wr s s5 m i x (cs.take j) m') (hx' : m'.deals[i]? = some x') (hxd : x'.d = ⟨true, x.d.bg, (cs.take j).foldl applyC x.d.now, x.d.keys ++ (cs.take j).map (·.1)⟩) (hset : m'.deals = m.deals.set i x')
    (hc : cs[j]? = some c) (D : MidI w wr wx s5 m' i x' c m1 x1) (G : GrowK w wx s5 m1 i x1 c.1 g a5 c5 W5) :
    ∃ m2, WrI w W (W5.setCell ⟨g, i * 4 + 3, none⟩ (.slice a5 (x1.d.keys.length + 1) c5)) s s5 m i x (cs.take (j + 1)) m2 := by
  have hi : i < m'.deals.length := (List.getElem?_eq_some_iff.1 hx').1
  have ed : m1.deals = m'.deals.set i x1 := by rw [D.eq]
  refine ⟨_, G.mem, H.nx.trans (D.nx.trans G.nx), ⟨⟨{ x1.d with keys := x1.d.keys ++ [c.1] }, x1.nv, .slice a5 (x1.d.keys.length + 1) c5⟩, ?_, ?_, ?_⟩, ?_, ?_, ?_⟩
  · show (m1.deals.set i _)[i]? = some _
    rw [List.getElem?_set, if_pos rfl, if_pos (by rw [ed, List.length_set]; exact hi)]
  · simp only [D.is.1, hxd, take_succ_of hc, List.foldl_append, List.foldl_cons, List.foldl_nil, List.map_append, List.map_cons, List.map_nil, List.append_assoc]
  · show m1.deals.set i _ = _
    rw [ed, hset, List.set_set, List.set_set]
  · rw [D.eq]; exact H.t
  · rw [D.eq]; exact H.cm
  · rw [D.eq]; exact H.sb

theorem WrI.fin {w W W' : World} {s s' : Sto} {m m' : MBk} {i : Nat} {x : MDeal} {cs : List Chg} (H : WrI w W W' s s' m i x cs m') (hx : m.deals[i]? = some x) (hact : x.d.active = true) : m'.bk = m.bk.wrote ((i : Int) + 1) cs := by
  obtain ⟨x', hx', hxd, hset⟩ := H.at_
  unfold MBk.bk Bk.wrote
  rw [show ((i : Int) + 1 - 1).toNat = i by omega, H.t, H.cm, hset]
  simp only [Bk.mk.injEq, and_true]
  apply List.ext_getElem?
  intro k
  rw [List.getElem?_map, List.getElem?_set, modify_at, List.getElem?_map]
  by_cases e : i = k
  · subst e
    rw [if_pos rfl, if_pos (List.getElem?_eq_some_iff.1 hx).1, hx, if_pos rfl]
    simp only [Option.map_some, hxd, ← hact]
  · rw [if_neg e, if_neg e]

section
variable {w W : World} {s : Sto} {m : MBk} {n M : Int}

set_option maxRecDepth 100000 in
set_option maxHeartbeats 4000000 in
/-- it is written -/
theorem writes_zero {i : Nat} {x : MDeal} {v : Value} {cs : List Chg} {A : Abs} (H : WrH w W s m i x v cs false 0 A) (hx : m.deals[i]? = some x) (hact : x.d.active = true) (hlen : m.deals.length ≤ 1099511627776) (hnl : x.d.now.length ≤ 144) (hcs : cs.length ≤ 1048576) (hkl : x.d.keys.length ≤ 2199023255552) (hE : changesE cs = 0) (hch : ChAt w v cs) (hq : Quiet w W) :
    Calls Tryz.prog 46 #[.pointer (some ⟨m.bb, 0, none⟩), .int .i64 ((i : Int) + 1), v] W fun e w' => e = .returned (.bool true) ∧ BLeft w W w' s m A (m.bk.wrote ((i : Int) + 1) cs) := by
  have HAc := hidC H.ac
  have HTk := hidC H.tk
  have HWr := hidC' H.wr
  have HEz := hidC' hE
  have HGn : Hid (∀ W', Calls Tryz.prog 79 #[.pointer (some ⟨m.bb, 0, none⟩), .int .i64 ((i : Int) + 1), .int .i64 0] W' fun e w' => e = .returned (.bool false) ∧ w' = W') := fun W' => gone_no _ 0 rfl rfl m.bb W'
  have HI : Hid (∀ w' s', Mem w w' s' m → Nx W w' s s' m m → WrI w W w' s s' m i x [] m) := fun w' s' M1 N1 => ⟨M1, N1, ⟨x, hx, by simp only [List.foldl_nil, List.map_nil, List.append_nil, ← hact], by
    apply List.ext_getElem?
    intro k
    rw [List.getElem?_set]
    by_cases e : i = k
    · subst e; rw [if_pos rfl, if_pos (List.getElem?_eq_some_iff.1 hx).1]; exact hx
    · rw [if_neg e]⟩, rfl, rfl, rfl⟩
  have HCh := hidC' hch
  have hil : i < m.deals.length := (List.getElem?_eq_some_iff.1 hx).1
  have HX0 := hidC' (And.intro hx hact)
  clear H hE hx hact
  obtain ⟨⟨la, lcap, rfl, hlc⟩, hll⟩ := hch.quiet hq
  clear hch
  go_enter Tryz.func46, Tryz.ntmps46
  go_wp2_with (go_at_call 24; refine (HAc.out).mono ?_; rintro e w3 ⟨rfl, rfl⟩)
  go_loopw [8, 9] (fun u i wr => ∃ (n : Nat) (e : Int), i = .int .i64 n ∧ u = .int .i64 e ∧ n ≤ cs.length ∧ wr = w3 ∧ Hid ((e = 0 ∧ changesE cs = changesE (cs.drop n)) ∨ (e ≠ 0 ∧ changesE cs = e))) (fun _ i _ => cs.length - (intOf i).toNat)
  case atStart => exact ⟨0, 0, rfl, rfl, Nat.zero_le _, rfl, .inl ⟨rfl, rfl⟩⟩
  case round =>
    obtain ⟨n, e, rfl, rfl, hn, hw3, HE⟩ := hrel
    have hw3 := hw3.symm
    subst hw3
    by_cases hlt : n < cs.length
    · have hlt' : (n : Int) < (cs.length : Int) := by omega
      by_cases he : e = 0
      · subst he
        rcases hlc with h0 | ⟨gl, o, rfl, hgl, hcell⟩
        · rw [h0] at hlt; simp at hlt
        obtain ⟨c, hc⟩ : ∃ c, cs[n]? = some c := ⟨_, List.getElem?_eq_getElem hlt⟩
        obtain ⟨l0, l1, l2⟩ := hcell n c hc
        have HS := hidC' (chg_step (e := 0) hc (by rcases HE.out with ⟨_, h⟩ | ⟨h, _⟩; exact h; exact absurd rfl h))
        clear hcell hc HAc HE HTk HWr HEz HGn HI
        by_cases hk1 : (c.1.size : Int) < 1
        · have HN : Hid (changesE cs = 3) := HS.out.1 (.inl hk1)
          clear HS
          go_wp2
          exact ⟨⟨n + 1, 3, by go_num, rfl, by omega, trivial, .inr ⟨by decide, HN.out⟩⟩, by simp [intOf]; omega⟩
        by_cases hk2 : 4 < (c.1.size : Int)
        · have HN : Hid (changesE cs = 3) := HS.out.1 (.inr hk2)
          clear HS
          go_wp2
          exact ⟨⟨n + 1, 3, by go_num, rfl, by omega, trivial, .inr ⟨by decide, HN.out⟩⟩, by simp [intOf]; omega⟩
        by_cases hk3 : 8 < (c.2.1.size : Int)
        · have HN : Hid (changesE cs = 4) := (HS.out.2 hk1 hk2).1 hk3
          clear HS
          go_wp2
          exact ⟨⟨n + 1, 4, by go_num, rfl, by omega, trivial, .inr ⟨by decide, HN.out⟩⟩, by simp [intOf]; omega⟩
        · have HN : Hid (changesE cs = changesE (cs.drop (n + 1))) := (HS.out.2 hk1 hk2).2 hk3
          clear HS
          go_wp2
          exact ⟨⟨n + 1, 0, by go_num, rfl, by omega, trivial, .inl ⟨rfl, HN.out⟩⟩, by simp [intOf]; omega⟩
      · exact absurd (by rcases HE.out with ⟨h, _⟩ | ⟨_, h⟩; exact h; exact h.symm.trans HEz.out) he
    · have hge : ¬ (n : Int) < (cs.length : Int) := by omega
      have he : e = 0 := by rcases HE.out with ⟨h, _⟩ | ⟨_, h⟩; exact h; exact h.symm.trans HEz.out
      subst he
      clear hlc HAc HE HEz
      go_wp2_with (first
        | (go_at_call 80; refine (HTk.out).mono ?_; rintro e w4 ⟨rfl, hq4, c4⟩)
        | (go_at_call 27; refine (HWr.out _ hq4).mono ?_; rintro e w5 ⟨s5, rfl, hM, hN, hab⟩)
        | (go_at_call 79; refine (HGn.out _).mono ?_; rintro e w6 ⟨rfl, rfl⟩))
      have HI0 := hidC' (HI.out _ _ hM hN)
      clear HI HTk HWr HGn hM hN c4
      go_loopw [13] (fun i' wr => ∃ (j : Nat) (m' : MBk), i' = .int .i64 j ∧ j ≤ cs.length ∧ Hid (WrI w w3 wr s s5 m i x (cs.take j) m')) (fun i' _ => cs.length - (intOf i').toNat)
      case atStart => exact ⟨0, m, rfl, Nat.zero_le _, HI0⟩
      case round =>
        obtain ⟨j, m', rfl, hj, HW⟩ := hrel
        clear HI0
        by_cases hjl : j < cs.length
        · have hjl' : (j : Int) < (cs.length : Int) := by omega
          obtain ⟨x', hx', hxd, hset⟩ := HW.out.at_
          have M1 := HW.out.mem
          obtain ⟨g, cap, ho, k1, k0, -, k2, k3, hfz, hgl⟩ := M1.dealCells hx'
          have hl' : m'.deals.length = m.deals.length := by rw [hset, List.length_set]
          rw [hl', HW.out.nx.bb] at k1
          obtain ⟨⟨la', lcap', hlv, hlc⟩, -⟩ := HCh.out.quiet M1.quiet
          obtain ⟨rfl, -, rfl⟩ : la = la' ∧ True ∧ lcap = lcap' := by simpa using hlv
          rcases hlc with h0 | ⟨gl, o, rfl, hgl', hcell⟩
          · rw [h0] at hjl; simp at hjl
          obtain ⟨c, hc⟩ : ∃ c, cs[j]? = some c := ⟨_, List.getElem?_eq_getElem hjl⟩
          obtain ⟨l0, l1, l2⟩ := hcell j c hc
          have f2 := hfz (i * 4 + 2)
          have f3 := hfz (i * 4 + 3)
          have HX := hidC' hxd
          have HSt := hidC' hset
          have HMe := hidC' M1
          have HCj := hidC' hc
          have hnj : x'.d.now.length ≤ 1048720 := by
            rw [hxd]
            have := foldl_len (cs.take j) x.d.now
            simp only [List.length_take] at this
            show (List.foldl applyC x.d.now (cs.take j)).length ≤ _
            omega
          have hkj : x'.d.keys.length ≤ 2199024304128 := by
            rw [hxd]
            simp only [List.length_append, List.length_map, List.length_take]
            omega
          have hactj : x'.d.active = true := by rw [hxd]
          have HMid : Hid (∀ W1 v, Quiet wr W1 → PrSl wr.heap.size W1 v (applyC x'.d.now c) → ∃ m1 x1, MidI w wr (W1.setCell ⟨g, i * 4 + 2, none⟩ v) s5 m' i x' c m1 x1) := fun W1 v k hv => by
            obtain ⟨M5, N5⟩ := M1.setNow hx' ho hactj k hv
            refine ⟨_, ⟨{ x'.d with now := applyC x'.d.now c }, v, x'.kv⟩, M5, N5, ?_, ⟨rfl, rfl⟩, rfl⟩
            show (m'.deals.set i _)[i]? = some _
            rw [List.getElem?_set, if_pos rfl, if_pos (List.getElem?_eq_some_iff.1 hx').1]
          have HGr : Hid (∀ wx m1 x1, MidI w wr wx s5 m' i x' c m1 x1 → ∃ a5 c5 W5, GrowK w wx s5 m1 i x1 c.1 g a5 c5 W5) := fun wx m1 x1 D => D.mem.growK D.at_ (by rw [D.eq]; exact ho) (by rw [D.is.1]; exact hactj) c.1 (by rw [D.is.1]; show x'.d.keys.length ≤ _; omega)
          have HSx : Hid (∀ wx m1 x1 a5 c5 W5, MidI w wr wx s5 m' i x' c m1 x1 → GrowK w wx s5 m1 i x1 c.1 g a5 c5 W5 → ∃ m2, WrI w w3 (W5.setCell ⟨g, i * 4 + 3, none⟩ (.slice a5 (x1.d.keys.length + 1) c5)) s s5 m i x (cs.take (j + 1)) m2) := fun wx m1 x1 a5 c5 W5 D G => HW.out.step hx' hxd hset hc D G
          have HCx : Hid (∀ wx m1 x1, MidI w wr wx s5 m' i x' c m1 x1 → wx.cell? ⟨g, i * 4 + 3, none⟩ = some x1.kv ∧ wx.cell? ⟨gl, o + j * 3, none⟩ = some (.string c.1) ∧ g < wx.heap.size ∧ gl < wx.heap.size ∧ ∃ a1 c1, x1.kv = .slice a1 x1.d.keys.length c1) := fun wx m1 x1 D => by
            obtain ⟨g', cap', hg', -, -, -, -, q3, -, hgx⟩ := D.mem.dealCells D.at_
            obtain rfl : g' = g := by rw [D.eq] at hg'; exact (Option.some.inj (hg'.symm.trans ho))
            obtain ⟨⟨la', lcap', hlv', hlc'⟩, -⟩ := HCh.out.quiet D.mem.quiet
            obtain ⟨hla, -⟩ : some (⟨gl, o, none⟩ : Addr) = la' ∧ lcap = lcap' := by simpa using hlv'
            rcases hlc' with h0 | ⟨gl2, o2, e2, hglx, hcell'⟩
            · rw [h0] at hjl; simp at hjl
            obtain ⟨rfl, rfl⟩ : gl = gl2 ∧ o = o2 := by rw [← hla] at e2; simpa using e2
            obtain ⟨tag, B, -⟩ := D.mem.bk
            obtain ⟨a1, c1, ek, -⟩ := (B.keys i x1 D.at_).cells
            exact ⟨q3, (hcell' j c hc).1, hgx, hglx, a1, c1, ek⟩
          have HPu : Hid (∀ W', Quiet wr W' → Calls Tryz.prog 28 #[x'.nv, .string c.1, .string c.2.1] W' fun e w'' => ∃ a' c', e = .returned (.slice a' (tput x'.d.now c.1 c.2.1).length c') ∧ Hid (PrSl wr.heap.size w'' (.slice a' (tput x'.d.now c.1 c.2.1).length c') (tput x'.d.now c.1 c.2.1)) ∧ Hid (Quiet wr w'') ∧ w''.cell? ⟨g, i * 4 + 2, none⟩ = some x'.nv ∧ w''.frozen? ⟨g, i * 4 + 2, none⟩ = false) := fun W' k => by
            obtain ⟨tag, B, -⟩ := (HMe.out.still k).bk
            refine (tput_h W' _ _ _ (B.now i x' hx') (by omega) c.1 c.2.1).mono fun e w'' ⟨v', h1, h2, h3⟩ => ?_
            have h4 := Quiet.trans' k h3
            have h5 : PrSl wr.heap.size w'' v' (tput x'.d.now c.1 c.2.1) := ownsRow_low h2 k.size
            obtain ⟨a', c', e2, -⟩ := h5.at
            subst e2
            exact ⟨a', c', h1, h5, h4, (h4.cell hgl (by simp)).trans k2, (h4.frozen hgl (by simp)).trans f2⟩
          have HDr : Hid (∀ W', Quiet wr W' → Calls Tryz.prog 81 #[x'.nv, .string c.1] W' fun e w'' => ∃ a' c', e = .returned (.slice a' (tdrop x'.d.now c.1).length c') ∧ Hid (PrSl wr.heap.size w'' (.slice a' (tdrop x'.d.now c.1).length c') (tdrop x'.d.now c.1)) ∧ Hid (Quiet wr w'') ∧ w''.cell? ⟨g, i * 4 + 2, none⟩ = some x'.nv ∧ w''.frozen? ⟨g, i * 4 + 2, none⟩ = false) := fun W' k => by
            obtain ⟨tag, B, -⟩ := (HMe.out.still k).bk
            refine (tdrop_h W' _ _ _ (B.now i x' hx') (by omega) c.1).mono fun e w'' ⟨v', h1, h2, h3⟩ => ?_
            have h4 := Quiet.trans' k h3
            have h5 : PrSl wr.heap.size w'' v' (tdrop x'.d.now c.1) := ownsRow_low h2 k.size
            obtain ⟨a', c', e2, -⟩ := h5.at
            subst e2
            exact ⟨a', c', h1, h5, h4, (h4.cell hgl (by simp)).trans k2, (h4.frozen hgl (by simp)).trans f2⟩
          have HAp : Hid (applyC x'.d.now c = if c.2.2 then tdrop x'.d.now c.1 else tput x'.d.now c.1 c.2.1) := rfl
          clear hcell hc hlv hl' hxd hset M1 hfz HX HSt HMe HCj HW HCh hnj hkj hactj hx' hgl hgl'
          generalize hdn : applyC x'.d.now c = AN at *
          generalize tdrop x'.d.now c.1 = TD at *
          generalize tput x'.d.now c.1 c.2.1 = TP at *
          clear hdn
          generalize c.2.2 = G at *
          go_upto_if 108 with fail
          go_cut [] from 91 to 153 (fun wx => ∃ m1 x1, Hid (MidI w wr wx s5 m' i x' c m1 x1))
          case first =>
            clear HGr HSx HCx
            cases G with
            | true =>
              have e1 : AN = TD := HAp.out
              subst e1
              clear HAp HPu
              go_wp2
              go_region_with (go_at_call 81; refine (HDr.out _ (by repeat (first | assumption | exact Keeps.refl _ _ | refine Quiet.trans' ?_ (Keeps.drew _)))).mono ?_; rintro e w7 ⟨a', c', rfl, hP7, hq7, z1, z3⟩)
              all_goals
                go_wp2
                go_meet
                obtain ⟨m1, x1, hD⟩ := HMid.out _ _ hq7.out hP7.out
                exact ⟨m1, x1, hD⟩
            | false =>
              have e1 : AN = TP := HAp.out
              subst e1
              clear HAp HDr
              go_wp2
              go_region_with (go_at_call 28; refine (HPu.out _ (by repeat (first | assumption | exact Keeps.refl _ _ | refine Quiet.trans' ?_ (Keeps.drew _)))).mono ?_; rintro e w7 ⟨a', c', rfl, hP7, hq7, z1, z3⟩)
              all_goals
                go_wp2
                go_meet
                obtain ⟨m1, x1, hD⟩ := HMid.out _ _ hq7.out hP7.out
                exact ⟨m1, x1, hD⟩
          case rest =>
          obtain ⟨m1, x1, HD⟩ := hcut
          obtain ⟨a5, c5, W5, G5⟩ := HGr.out _ _ _ HD.out
          obtain ⟨q3, q0, hgx, hglx, a1, c1, ek⟩ := HCx.out _ _ _ HD.out
          obtain ⟨m2, hW2⟩ := HSx.out _ _ _ _ _ _ HD.out G5
          have HW2 := hidC' hW2
          have happ := G5.app
          have hfz5 := G5.frz
          have hc5 := G5.cell
          rw [ek] at happ q3 hc5
          change (heldAppend' #[115, 115] 115 #[.slice a1 x1.d.keys.length c1, .slice (some ⟨wc.heap.size, 0, none⟩) 1 1]).run Tryz.prog _ = _ at happ
          have hgn : g ≠ wc.heap.size := by omega
          have hgln : gl ≠ wc.heap.size := by omega
          generalize hkl1 : x1.d.keys.length = KL at *
          clear HGr HCx HSx HMid HDr HPu HAp HD G5 hW2 k0 k1 k2 k3 f2 f3 l0 l1 l2 ek hkl1
          go_wp2
          go_region
          go_wp2
          go_roundw
          case measure => simp [intOf]; omega
          case rel => exact ⟨j + 1, m2, by go_num, by omega, HW2⟩
        · have hjge : ¬ (j : Int) < (cs.length : Int) := by omega
          have hT : cs.take j = cs := List.take_of_length_le (by omega)
          rw [hT] at HW
          clear HCh
          go_wp2
          go_ret
          refine ⟨rfl, s5, m', HW.out.mem, HW.out.nx, hab, ?_⟩
          exact HW.out.fin HX0.out.1 HX0.out.2

end
end Go.Proofs.YthfimgeopciiiaaGreat
