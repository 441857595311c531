/-
  All steps of a script; all that are active are aborted.
-/
import Derived.Test.YthfimgeopciiiaaGreatBookF
import Derived.Test.YthfimgeopciiiaaGreatScript
namespace Go.Proofs.YthfimgeopciiiaaGreat
open Go.MapKept Go.ChangeMaps Go.Maps Go.RowKit Go.MuLone
set_option linter.unusedVariables false

theorem CfgEq.trans {a b c : Abs} (h : CfgEq a b) (k : CfgEq b c) : CfgEq a c := ⟨h.c1.trans k.c1, h.c2.trans k.c2, h.c3.trans k.c3, h.c4.trans k.c4⟩
theorem CfgEq.refl (a : Abs) : CfgEq a a := ⟨rfl, rfl, rfl, rfl⟩

/-- behind some steps -/
structure PI (w W W' : World) (s : Sto) (m : MBk) (n : Int) (s' : Sto) (m' : MBk) : Prop where
  mem : Mem w W' s' m'
  nx : Nx W W' s s' m m'
  log : Log n s'.abs m'.bk
  cfg : CfgEq s'.abs s.abs

theorem PI.start {w W : World} {s : Sto} {m : MBk} {n : Int} (Mm : Mem w W s m) (L : Log n s.abs m.bk) : PI w W W s m n s m := ⟨Mm, Nx.refl _ _ _, L, CfgEq.refl _⟩

theorem PI.step {w W W' W'' : World} {s s' : Sto} {m m' : MBk} {n : Int} {o : StepD} (P : PI w W W' s m n s' m') (S : SOut w W' W'' s' m' n o) : ∃ s2 m2, PI w W W'' s m (n + 1) s2 m2 := by
  obtain ⟨s2, m2, h, h1, h2, h3, _, _, h6⟩ := S.ex
  exact ⟨s2, m2, h1, P.nx.trans h2, h3, h6.cfg.trans P.cfg⟩

section
variable {w W : World} {s : Sto} {m : MBk} {n : Int}

set_option maxRecDepth 100000 in
set_option maxHeartbeats 4000000 in
theorem plays_h (Mm : Mem w W s m) (L : Log n s.abs m.bk) (v : Value) (l : List StepD) (hl : ScriptAt w v l) (hn : n + l.length ≤ 2097152) (hcs : ∀ o ∈ l, o.cs.length ≤ 1048576) :
    Calls Tryz.prog 14 #[.pointer (some ⟨m.bb, 0, none⟩), v] W fun e w' => e = .returned (.bool true) ∧ ∃ s' m', PI w W w' s m (n + l.length) s' m' := by
  obtain ⟨⟨a, cap, rfl, hc⟩, hok, hlen⟩ := hl
  have h0 := L.n0
  have HP0 := hidC' (PI.start Mm L)
  have HSt : Hid (∀ (k : Nat) wr s' m' o, o ∈ l → (k : Int) < l.length → PI w W wr s m (n + k) s' m' → Calls Tryz.prog 18 #[.pointer (some ⟨m.bb, 0, none⟩), .agg #[.int .i64 o.kind, .int .i64 o.t, .string o.key, .string o.hi, o.lv]] wr fun e w' => e = .returned (.bool true) ∧ ∃ s2 m2, PI w W w' s m (n + (k + 1 : Nat)) s2 m2) := fun k wr s' m' o ho hk P => by
    have := step_h P.mem P.log (by omega) o (hok o ho) (hcs o ho)
    rw [P.nx.bb] at this
    refine this.mono fun e w' ⟨e1, e2⟩ => ⟨e1, ?_⟩
    obtain ⟨s2, m2, P2⟩ := P.step e2
    exact ⟨s2, m2, by rw [show n + ((k + 1 : Nat) : Int) = n + k + 1 by omega]; exact P2⟩
  have HOk : Hid (∀ s ∈ l, StepOk w s) := hok
  clear Mm L hok hcs
  go_enter Tryz.func14, Tryz.ntmps14
  go_wp2
  go_loopw [5] (fun i wr => ∃ (k : Nat) (s' : Sto) (m' : MBk), i = .int .i64 k ∧ k ≤ l.length ∧ Hid (PI w W wr s m (n + k) s' m')) (fun i _ => l.length - (intOf i).toNat)
  case atStart => exact ⟨0, s, m, rfl, Nat.zero_le _, by simpa using HP0⟩
  case round =>
    obtain ⟨k, s', m', rfl, hk, HP⟩ := hrel
    by_cases hlt : k < l.length
    · have hlt' : (k : Int) < (l.length : Int) := by omega
      rcases hc with h0 | ⟨g, o, rfl, hg, hcell⟩
      · rw [h0] at hlt; simp at hlt
      obtain ⟨d, hd⟩ : ∃ d, l[k]? = some d := ⟨_, List.getElem?_eq_getElem hlt⟩
      obtain ⟨p0, p1, p2, p3, p4⟩ := hcell k d hd
      have hqr := HP.out.mem.quiet
      rw [← hqr.cell hg (by simp)] at p0 p1 p2 p3 p4
      have hdm := List.mem_of_getElem? hd
      obtain ⟨la, lcap, hlv, -⟩ := (HOk.out d hdm).ch.sh
      have HS := HSt.out k wr s' m' d hdm hlt' HP.out
      rw [hlv] at p4 HS
      have HS := hidC HS
      clear hcell hd hdm HOk HSt HP HP0 hqr hlv
      go_wp2_with (go_at_call 18; refine HS.out.mono ?_; rintro e w2 ⟨rfl, s2, m2, hP2⟩; have HP2 := hidC' hP2; clear hP2)
      exact ⟨⟨k + 1, s2, m2, by go_num, by omega, HP2⟩, by simp [intOf]; omega⟩
    · have hge : ¬ (k : Int) < (l.length : Int) := by omega
      have hkl : k = l.length := by omega
      clear hc HSt HOk HP0
      go_wp2
      go_ret
      exact ⟨rfl, s', m', by rw [← hkl]; exact HP.out⟩

theorem abort_act {a : Abs} (h j : Int) : (a.abortR h).2.act? j = if j = h then none else a.act? j := by
  unfold Abs.abortR
  cases ha : a.act? h with
  | none =>
    by_cases e : j = h
    · rw [if_pos e, e]; exact ha
    · rw [if_neg e]
  | some t =>
    show (a.without h).act? j = _
    unfold Abs.act? Abs.without
    rw [List.find?_filter]
    by_cases e : j = h
    · rw [if_pos e]
      have : a.txs.find? (fun x => decide (decide (x.h ≠ h) = true ∧ decide (x.h = j) = true)) = none := by
        rw [List.find?_eq_none]
        intro x _
        subst e
        simp
      rw [this]; rfl
    · rw [if_neg e]
      have : (fun x : Tx => decide (decide (x.h ≠ h) = true ∧ decide (x.h = j) = true)) = fun x => decide (x.h = j) := by
        funext x
        by_cases e2 : x.h = j
        · have : x.h ≠ h := by rw [e2]; exact e
          simp [e2, e]
        · simp [e2]
      rw [this]

theorem abort_begun {a : Abs} (h : Int) : (a.abortR h).2.begun = a.begun := by
  unfold Abs.abortR
  cases a.act? h <;> rfl

theorem abort_clock {a : Abs} (h : Int) : (a.abortR h).2.clock = a.clock := by
  unfold Abs.abortR
  cases a.act? h <;> rfl

/-- behind so many endings -/
structure EI (w W W' : World) (s : Sto) (m : MBk) (n : Int) (k : Nat) (s' : Sto) (m' : MBk) : Prop where
  pi : PI w W W' s m (n + k) s' m'
  begun : s'.abs.begun = s.abs.begun
  gone : ∀ j : Int, 1 ≤ j → j ≤ k → s'.abs.act? j = none

theorem MBk.len_of {a : Abs} {m : MBk} {n : Int} (L : Log n a m.bk) : (m.deals.length : Int) = a.begun := by
  obtain ⟨M, K⟩ := L.is
  have := K.len
  simpa [MBk.bk] using this

set_option maxRecDepth 100000 in
set_option maxHeartbeats 4000000 in
theorem ends_h (Mm : Mem w W s m) (L : Log n s.abs m.bk) (hn : n + m.deals.length ≤ 2097152) :
    Calls Tryz.prog 15 #[.pointer (some ⟨m.bb, 0, none⟩)] W fun e w' => e = .returned (.bool true) ∧ ∃ s' m', EI w W w' s m n m.deals.length s' m' := by
  have h0 := L.n0
  have hlb := MBk.len_of L
  have HP0 : Hid (EI w W W s m n 0 s m) := ⟨by simpa using PI.start Mm L, rfl, fun j h1 h2 => by simp at h2; omega⟩
  have HSt : Hid (∀ (k : Nat) wr s' m', k < m.deals.length → EI w W wr s m n k s' m' → Calls Tryz.prog 18 #[.pointer (some ⟨m.bb, 0, none⟩), .agg #[.int .i64 6, .int .i64 ((k : Int) + 1), .string ⟨#[]⟩, .string ⟨#[]⟩, .slice none 0 0]] wr fun e w' => e = .returned (.bool true) ∧ ∃ s2 m2, EI w W w' s m n (k + 1) s2 m2) := fun k wr s' m' hk E => by
    have hl' := MBk.len_of E.pi.log
    have := step_h E.pi.mem E.pi.log (by omega) ⟨6, (k : Int) + 1, ⟨#[]⟩, ⟨#[]⟩, .slice none 0 0, []⟩ ⟨⟨by show _ ≤ (k : Int) + 1; omega, by show (k : Int) + 1 ≤ _; omega⟩, ⟨⟨none, 0, rfl, .inl rfl⟩, by simp⟩, fun b hb => by simp [heldBlock] at hb⟩ (by simp)
    simp only at this
    rw [E.pi.nx.bb] at this
    refine this.mono fun e w' ⟨e1, e2⟩ => ⟨e1, ?_⟩
    obtain ⟨s2, m2, h, q1, q2, q3, q4, q5, q6⟩ := e2.ex
    have hh : h = (k : Int) + 1 := q5 (by show (0 : Int) ≤ (k : Int) + 1; omega) (by show (k : Int) + 1 ≤ _; rw [hl', E.begun, ← hlb]; omega)
    have ha := q6.six rfl
    rw [hh] at ha
    refine ⟨s2, m2, ⟨q1, E.pi.nx.trans q2, by rw [show n + ((k + 1 : Nat) : Int) = n + k + 1 by omega]; exact q3, q6.cfg.trans E.pi.cfg⟩, by rw [ha, abort_begun]; exact E.begun, fun j h1 h2 => ?_⟩
    rw [ha, abort_act]
    by_cases e : j = (k : Int) + 1
    · rw [if_pos e]
    · rw [if_neg e]; exact E.gone j h1 (by omega)
  have HCl : Hid (∀ (k : Nat) wr s' m', EI w W wr s m n k s' m' → ∃ ad cd, wr.cell? ⟨m.bb, 1, none⟩ = some (.slice ad m.deals.length cd)) := fun k wr s' m' E => by
    obtain ⟨tag, B, -⟩ := E.pi.mem.bk
    obtain ⟨ad, cd, hdv, -⟩ := B.dealsAt
    have c1 := B.cell.2.1
    have hl' := MBk.len_of E.pi.log
    rw [E.pi.nx.bb, hdv] at c1
    exact ⟨ad, cd, by rw [c1, show m'.deals.length = m.deals.length by have := E.begun; omega]⟩
  clear Mm L hlb
  generalize m.deals.length = DL at *
  go_enter Tryz.func15, Tryz.ntmps15
  go_wp2
  go_loopw [3] (fun i wr => ∃ (k : Nat) (s' : Sto) (m' : MBk), i = .int .i64 ((k : Int) + 1) ∧ k ≤ DL ∧ Hid (EI w W wr s m n k s' m')) (fun i _ => DL + 1 - (intOf i).toNat)
  case atStart => exact ⟨0, s, m, rfl, Nat.zero_le _, HP0⟩
  case round =>
    obtain ⟨k, s', m', rfl, hk, HE⟩ := hrel
    obtain ⟨ad, cd, c1⟩ := HCl.out _ _ _ _ HE.out
    by_cases hlt : k < DL
    · have hlt' : (k : Int) + 1 ≤ (DL : Int) := by omega
      have HS := hidC (HSt.out k wr s' m' hlt HE.out)
      clear HSt HCl HE HP0
      go_wp2_with (go_at_call 18; refine HS.out.mono ?_; rintro e w2 ⟨rfl, s2, m2, hP2⟩; have HP2 := hidC' hP2; clear hP2)
      exact ⟨⟨k + 1, s2, m2, by go_num, by omega, HP2⟩, by simp [intOf]; omega⟩
    · have hge : ¬ (k : Int) + 1 ≤ (DL : Int) := by omega
      have hkl : k = DL := by omega
      clear HSt HCl HP0
      go_wp2
      go_ret
      exact ⟨rfl, s', m', by rw [← hkl]; exact HE.out⟩

end
end Go.Proofs.YthfimgeopciiiaaGreat

/-
  What a new transaction sees, when nothing is active and all is cleaned up.
-/
namespace Go.Proofs.YthfimgeopciiiaaGreat
open Go.MapKept Go.ChangeMaps Go.Maps Go.RowKit Go.MuLone
set_option linter.unusedVariables false

/-- none is active -/
def Idle (a : Abs) : Prop := ∀ t ∈ a.txs, t.cm ≠ 0

section
variable {a a' : Abs} {n : Int}

theorem idle_of (I : a.Inv n) (h : ∀ j : Int, 1 ≤ j → j ≤ a.begun → a.act? j = none) : Idle a := fun t ht hc => by
  have := h t.h (I.hs t ht).1 (I.hs t ht).2
  rw [act_of_mem I ht hc] at this
  cases this

theorem clean_idle (C : Cms a) (D : Idle a) {m : Int} (K : CleanIs a m a') : m = a.clock ∧ a'.txs = [] := by
  have hm : m = a.clock := by
    rcases K.mark.is with e | ⟨t, ht, hc, _⟩
    · exact e
    · exact absurd hc (D t ht)
  refine ⟨hm, ?_⟩
  rw [K.txs, List.filter_eq_nil_iff]
  intro t ht
  have h1 := C t ht
  have h2 := D t ht
  simp [Tx.old, h2]
  omega

/-! ### how many versions are left -/

theorem firstF_all (m : Int) : ∀ (l : List Ver) (i f : Nat) (z : Cont), (∀ x ∈ l, x.1 ≤ m) → l ≠ [] → firstF m l i f + (if (l.foldl (snapF m) z).2 then 0 else 1) = i + l.length
  | [], i, f, z, _, h => absurd rfl h
  | x :: r, i, f, z, hx, _ => by
    have hxm : ¬ m < x.1 := by have := hx x (by simp); omega
    have hz : snapF m z x = x.2 := by unfold snapF; rw [if_pos (by omega)]
    unfold firstF
    rw [if_neg hxm, List.foldl_cons, hz]
    cases r with
    | nil =>
      unfold firstF
      cases hg : x.2.2 <;> simp [hg]
    | cons y r' =>
      have := firstF_all m (y :: r') (i + 1) (if x.2.2 then i + 1 else i) x.2 (fun z hz => hx z (by simp [hz])) (by simp)
      simp only [List.length_cons] at this ⊢
      omega

theorem dropL_len {m : Int} {vs : List Ver} (h : ∀ x ∈ vs, x.1 ≤ m) : (dropL m vs).length = if (seen (snap vs m)).isSome then 1 else 0 := by
  unfold dropL
  rw [List.length_drop]
  by_cases hv : vs = []
  · subst hv; rfl
  · have := firstF_all m vs 0 0 (⟨#[]⟩, true) h hv
    have hs : (seen (snap vs m)).isSome = !(snap vs m).2 := by unfold seen; cases (snap vs m).2 <;> rfl
    rw [hs]
    have h1 : 0 < vs.length := List.length_pos_iff.2 hv
    change firstF m vs 0 0 + (if (snap vs m).2 then 0 else 1) = _ at this
    cases hg : (snap vs m).2
    · rw [hg] at this; simp at this ⊢; omega
    · rw [hg] at this; simp at this ⊢; omega

theorem totV_clean {m : Int} : ∀ (V : List (ByteArray × List Ver)), (∀ p ∈ V, ∀ x ∈ p.2, x.1 ≤ m) → totV (V.filterMap (dropA m)) = (V.filter fun p => (seen (snap p.2 m)).isSome).length
  | [], _ => rfl
  | p :: r, h => by
    have ih := totV_clean r (fun q hq => h q (by simp [hq]))
    have hl := dropL_len (h p (by simp))
    unfold totV at *
    cases hd : dropA m p with
    | none =>
      rw [List.filterMap_cons_none hd, ih]
      have : dropL m p.2 = [] := by
        unfold dropA at hd
        split at hd
        · assumption
        · cases hd
      rw [this] at hl
      have hs : (seen (snap p.2 m)).isSome = false := by
        cases hz : (seen (snap p.2 m)).isSome with
        | false => rfl
        | true => rw [hz] at hl; simp at hl
      rw [List.filter_cons_of_neg (by rw [hs]; simp)]
    | some q =>
      rw [List.filterMap_cons_some hd, sumN_cons, ih]
      obtain ⟨_, e2, e3⟩ := dropA_some hd
      rw [e2, hl]
      have hs : (seen (snap p.2 m)).isSome = true := by
        cases hz : (seen (snap p.2 m)).isSome with
        | true => rfl
        | false => rw [hz] at hl; rw [e2] at e3; exact absurd (List.eq_nil_of_length_eq_zero (by simpa using hl)) e3
      rw [hs, List.filter_cons_of_pos (p := fun p : ByteArray × List Ver => (seen (snap p.2 m)).isSome) hs]
      simp; omega

/-- behind all, cleaned up: one version for each key that is there -/
theorem vers_left {B : Bk} {M : Int} (K : BkIs a B M) (I : a.Inv n) (C : Cms a) (D : Idle a) {m : Int} (W : CleanIs a m a') : totV a'.vers = B.t.length := by
  obtain ⟨rfl, -⟩ := clean_idle C D W
  have hst : ∀ p ∈ a.vers, ∀ x ∈ p.2, x.1 ≤ a.clock := fun p hp x hx => by
    obtain ⟨j, hj, e⟩ := List.mem_iff_getElem.1 hp
    have hl : look a.vers p.1 = some p.2 := lookup_at I.vnd (j := j) (by rw [List.getElem?_eq_getElem hj, e])
    exact K.stamps p.1 x (by unfold Abs.vs; rw [hl]; exact hx)
  rw [totV_perm W.vers, totV_clean a.vers hst]
  have hvs : ∀ p ∈ a.vers, a.vs p.1 = p.2 := fun p hp => by
    obtain ⟨j, hj, e⟩ := List.mem_iff_getElem.1 hp
    have hl : look a.vers p.1 = some p.2 := lookup_at I.vnd (j := j) (by rw [List.getElem?_eq_getElem hj, e])
    unfold Abs.vs; rw [hl]; rfl
  have h1 := nodup_le_len ((a.vers.filter fun p => (seen (snap p.2 a.clock)).isSome).map (·.1)) (B.t.map (·.1)) (I.vnd.sublist (List.Sublist.map _ List.filter_sublist)) (fun k hk => by
    obtain ⟨p, hp, rfl⟩ := List.mem_map.1 hk
    obtain ⟨hp1, hp2⟩ := List.mem_filter.1 hp
    have := K.tab p.1
    rw [hvs p hp1] at this
    exact look_key (by rw [this]; exact hp2))
  have h2 := nodup_le_len (B.t.map (·.1)) ((a.vers.filter fun p => (seen (snap p.2 a.clock)).isSome).map (·.1)) K.sorted.nd (fun k hk => by
    obtain ⟨p, hp, rfl⟩ := List.mem_map.1 hk
    have h3 := (mem_look K.sorted p.1 p.2).1 hp
    rw [K.tab p.1] at h3
    have h4 := seen_vs h3
    obtain ⟨q, hq, e⟩ := List.mem_map.1 h4
    refine List.mem_map.2 ⟨q, List.mem_filter.2 ⟨hq, ?_⟩, e⟩
    rw [← hvs q hq, e, h3]; rfl)
  simp at h1 h2
  omega

/-! ### one that begins in a store where nothing is, and scans all -/

theorem covers_all (k : ByteArray) : coversB (rangeEnt ⟨#[]⟩ ⟨#[]⟩) k = true := by
  unfold coversB rangeEnt bl
  have e : (⟨#[]⟩ : ByteArray).toList = [] := by rw [ByteArray.toList_eq]
  rw [e]
  have : Op.bytesLess k.toList [] = false := by cases k.toList <;> rfl
  simp [this]

/-- what is seen of a store -/
def Sees (a : Abs) (T : Tab) : Prop := SortedT T ∧ ∀ k, look T k = seen (snap (a.vs k) a.clock)

theorem rangeE_nil : rangeE ⟨#[]⟩ ⟨#[]⟩ = 0 := by
  have e : (⟨#[]⟩ : ByteArray).toList = [] := by rw [ByteArray.toList_eq]
  unfold rangeE
  rw [e]
  rfl

structure Lone (a : Abs) (t : Tx) : Prop where
  begin : a.beginR = ((a.begun + 1, 0), { a with begun := a.begun + 1, txs := [t] })
  h : t.h = a.begun + 1
  bg : t.bg = a.clock
  cm : t.cm = 0
  wr : t.wr = []
  rd : t.rd = []

theorem lone_begin (I : a.Inv n) (h0 : a.txs = []) : Lone a a.newTx := by
  have hc := config_parts I.cfg
  refine ⟨?_, rfl, rfl, rfl, rfl, rfl⟩
  unfold Abs.beginR
  rw [if_neg (by rw [h0]; simp; omega), h0]
  rfl

/-- it scans all, and is aborted -/
structure Scans (a : Abs) (T : Tab) : Prop where
  bg : a.beginR.1 = (a.begun + 1, 0)
  ok : (a.beginR.2.scanR (a.begun + 1) ⟨#[]⟩ ⟨#[]⟩).1.1 = 0
  is : ∀ l, ScanAns a.beginR.2 (a.beginR.2.scanR (a.begun + 1) ⟨#[]⟩ ⟨#[]⟩) (rangeEnt ⟨#[]⟩ ⟨#[]⟩) l → l = T
  ab : ((a.beginR.2.scanR (a.begun + 1) ⟨#[]⟩ ⟨#[]⟩).2.abortR (a.begun + 1)).1 = 0
  inv : ∀ n, a.Inv n → ((a.beginR.2.scanR (a.begun + 1) ⟨#[]⟩ ⟨#[]⟩).2.abortR (a.begun + 1)).2.Inv (n + 1)

theorem lone_scan (I : a.Inv n) (h0 : a.txs = []) {T : Tab} (hT : Sees a T) : Scans a T := by
  obtain ⟨t, L⟩ : ∃ t, Lone a t := ⟨_, lone_begin I h0⟩
  have hc := config_parts I.cfg
  have e2 : a.beginR.2 = { a with begun := a.begun + 1, txs := [t] } := by rw [L.begin]
  have hact : a.beginR.2.act? (a.begun + 1) = some t := by
    rw [e2]; unfold Abs.act?
    simp [L.h, Option.filter, L.cm]
  have hrr : a.beginR.2.readR t (rangeEnt ⟨#[]⟩ ⟨#[]⟩) = (0, a.beginR.2.readA t (rangeEnt ⟨#[]⟩ ⟨#[]⟩)) := by
    have hrm : a.beginR.2.room t (rangeEnt ⟨#[]⟩ ⟨#[]⟩) = true := by
      unfold Abs.room Abs.nReads
      rw [e2]
      have : sumN (fun t : Tx => t.rd.length) [t] = 0 := by simp [sumN, L.rd]
      show ((look t.rd _).isSome || decide ((sumN (fun t : Tx => t.rd.length) [t] : Int) < a.c2)) = true
      rw [this, Bool.or_eq_true]
      right
      simp; omega
    have hok : a.beginR.2.okR t (rangeEnt ⟨#[]⟩ ⟨#[]⟩) = true := by
      unfold Abs.okR
      rw [e2]
      simp [passB]
    unfold Abs.readR
    rw [hrm, hok]
    rfl
  have hsc : a.beginR.2.scanR (a.begun + 1) ⟨#[]⟩ ⟨#[]⟩ = ((0, some t), a.beginR.2.readA t (rangeEnt ⟨#[]⟩ ⟨#[]⟩)) := by
    unfold Abs.scanR
    rw [hact]
    simp only
    rw [if_neg (by rw [rangeE_nil]; simp), hrr]
    rfl
  have hact2 : (a.beginR.2.readA t (rangeEnt ⟨#[]⟩ ⟨#[]⟩)).act? (a.begun + 1) ≠ none := by
    unfold Abs.readA Abs.act?
    rw [e2]
    simp [readX, L.h, Option.filter, L.cm]
  refine ⟨by rw [L.begin], by rw [hsc], fun l hl => ?_, ?_, fun n' I' => ?_⟩
  · have S := hl.yes t (by rw [hsc])
    refine sorted_ext S.sorted hT.1 (fun x => ?_)
    obtain ⟨k, v⟩ := x
    rw [S.mem k v, mem_look hT.1, hT.2 k, seen_some]
    have : a.beginR.2.content t k = snap (a.vs k) a.clock := by
      unfold Abs.content
      rw [L.wr, L.bg, e2]
      rfl
    rw [this]
    exact ⟨fun h => h.2, fun h => ⟨covers_all k, h⟩⟩
  · rw [hsc]
    unfold Abs.abortR
    cases hz : (a.beginR.2.readA t (rangeEnt ⟨#[]⟩ ⟨#[]⟩)).act? (a.begun + 1) with
    | none => exact absurd hz hact2
    | some u => rfl
  · exact (I'.beginR.scanR _ _ _).abortR _

theorem Sees.clean {m : Int} (I : a.Inv n) (C : Cms a) (D : Idle a) (W : CleanIs a m a') {T : Tab} (h : Sees a T) : Sees a' T := by
  obtain ⟨rfl, -⟩ := clean_idle C D W
  refine ⟨h.1, fun k => ?_⟩
  rw [h.2 k, W.clock, W.vs_eq I.vnd k, (dropL_sim (I.vs_gone k) a.clock (Int.le_refl _)).1]

end
end Go.Proofs.YthfimgeopciiiaaGreat

/-
  final: the walk.
-/
namespace Go.Proofs.YthfimgeopciiiaaGreat
open Go.MapKept Go.ChangeMaps Go.Maps Go.RowKit Go.MuLone
set_option linter.unusedVariables false

theorem lt_strict {a b : ByteArray} (h : leB a b) (hne : a ≠ b) : Op.bytesLess a.toList b.toList = true := by
  have := leb_iff.2 h
  unfold leb at this
  rw [str_ne hne, Bool.or_false] at this
  exact this

theorem sorted_at {T : Tab} (h : SortedT T) {k : Nat} {p q : ByteArray × ByteArray} (hp : T[k]? = some p) (hq : T[k + 1]? = some q) : Op.bytesLess p.1.toList q.1.toList = true := by
  obtain ⟨h1, e1⟩ := List.getElem?_eq_some_iff.1 hp
  obtain ⟨h2, e2⟩ := List.getElem?_eq_some_iff.1 hq
  have := List.pairwise_iff_getElem.1 h k (k + 1) h1 h2 (by omega)
  rw [e1, e2] at this
  exact lt_strict this.1 this.2

theorem sees_len {a : Abs} {n : Int} (I : a.Inv n) {T : Tab} (h : Sees a T) : T.length ≤ 128 := by
  have h1 := nodup_le_len (T.map (·.1)) (a.vers.map (·.1)) h.1.nd (fun k hk => by
    obtain ⟨p, hp, rfl⟩ := List.mem_map.1 hk
    have := (mem_look h.1 p.1 p.2).1 hp
    rw [h.2 p.1] at this
    exact seen_vs this)
  simp at h1
  have h2 := vers_len I
  have h3 := I.vers
  have h4 := (config_parts I.cfg).2.2.2
  omega

/-- cleaned up -/
structure Fin1 (w W w1 : World) (s : Sto) (m : MBk) (n : Int) (T : Tab) (s1 : Sto) : Prop where
  mem : Mem w w1 s1 m
  nx : Nx W w1 s s1 m m
  inv : s1.abs.Inv n
  sc : Scans s1.abs T
  wf : (Lit.int .i64 (s1.abs.begun + 1)).wf = true
  hn : n < 2305843009213693952

/-- begun -/
structure Fin2 (w W w2 : World) (s : Sto) (m : MBk) (n : Int) (T : Tab) (a : Abs) (s2 : Sto) : Prop where
  mem : Mem w w2 s2 m
  nx : Nx W w2 s s2 m m
  inv : s2.abs.Inv (n + 1)
  sc : Scans a T
  abs : s2.abs = a.beginR.2
  wf : (Lit.int .i64 (a.begun + 1)).wf = true

/-- scanned -/
structure Fin3 (w W w3 : World) (s : Sto) (m : MBk) (n : Int) (T : Tab) (a : Abs) (s3 : Sto) : Prop where
  mem : Mem w w3 s3 m
  nx : Nx W w3 s s3 m m
  sc : Scans a T
  abs : s3.abs = (a.beginR.2.scanR (a.begun + 1) ⟨#[]⟩ ⟨#[]⟩).2
  wf : (Lit.int .i64 (a.begun + 1)).wf = true

section
variable {w W w1 w2 w3 : World} {s s1 s2 s3 : Sto} {m : MBk} {n : Int} {T : Tab} {a : Abs}

theorem Fin1.begin (F : Fin1 w W w1 s m n T s1) : Calls Tryz.prog 26 #[.pointer (some ⟨s.sb, 0, none⟩)] w1 fun e w2 => e = .returned (.tuple #[.int .i64 (s1.abs.begun + 1), .int .i64 0]) ∧ ∃ s2, Fin2 w W w2 s m n T s1.abs s2 := by
  have := begin_api F.mem.st F.mem.mu F.inv F.hn
  rw [F.nx.sb, F.sc.bg] at this
  refine this.mono fun e w2 ⟨s2, e1, e2, e3⟩ => ⟨e1, ?_⟩
  obtain ⟨M1, N1⟩ := F.mem.turn e2
  exact ⟨s2, M1, F.nx.trans N1, by rw [e3]; exact F.inv.beginR, F.sc, e3, F.wf⟩

theorem Fin2.scan (F : Fin2 w W w2 s m n T a s2) : Calls Tryz.prog 41 #[.pointer (some ⟨s.sb, 0, none⟩), .int .i64 (a.begun + 1), .string ⟨#[]⟩, .string ⟨#[]⟩] w2 fun e w3 => ∃ av cv, e = .returned (.tuple #[.slice av T.length cv, .int .i64 0]) ∧ PrSl w2.heap.size w3 (.slice av T.length cv) T ∧ ∃ s3, Fin3 w W w3 s m n T a s3 ∧ ∀ b, (Value.slice av T.length cv).ownBlock = some b → b ∉ s3.foot := by
  have := scan_api' F.mem.st F.mem.mu F.inv (a.begun + 1) F.wf ⟨#[]⟩ ⟨#[]⟩
  rw [F.nx.sb, F.abs, F.sc.ok] at this
  refine this.mono fun e w3 ⟨v, s3, l, e1, e2, e3, e4, e5, e6⟩ => ?_
  obtain ⟨M1, N1⟩ := F.mem.turn e2
  have hl := F.sc.is l e5
  subst hl
  obtain ⟨av, cv, hv, -⟩ := e4.at
  subst hv
  exact ⟨av, cv, e1, e4, s3, ⟨M1, F.nx.trans N1, F.sc, e3, F.wf⟩, e6⟩

theorem Fin3.abort (F : Fin3 w W w3 s m n T a s3) {base : Nat} {v : Value} (hv : PrSl base w3 v T) (hb : ∀ b, v.ownBlock = some b → b ∉ s3.foot) : Calls Tryz.prog 42 #[.pointer (some ⟨s.sb, 0, none⟩), .int .i64 (a.begun + 1)] w3 fun e w4 => e = .returned (.int .i64 0) ∧ PrSl base w4 v T ∧ ∃ s4, Mem w w4 s4 m ∧ Nx W w4 s s4 m m := by
  have := abort_api F.mem.st F.mem.mu (a.begun + 1) F.wf
  rw [F.nx.sb, F.abs, F.sc.ab] at this
  refine this.mono fun e w4 ⟨s4, e1, e2, e3⟩ => ⟨e1, ?_, ?_⟩
  · exact ownsRow_of_block hv (fun b hb' => e2.keeps.block b (hv.lt b hb').2 (hb b hb'))
  · obtain ⟨M1, N1⟩ := F.mem.turn e2
    exact ⟨s4, M1, F.nx.trans N1⟩

end

section
variable {w W : World} {s : Sto} {m : MBk} {n : Int}

set_option maxRecDepth 100000 in
set_option maxHeartbeats 4000000 in
theorem final_h (Mm : Mem w W s m) (I : s.abs.Inv n) (hn : n ≤ 1000000000000) (C : Cms s.abs) (D : Idle s.abs) {T : Tab} (hT : Sees s.abs T) :
    Calls Tryz.prog 16 #[.pointer (some ⟨s.sb, 0, none⟩)] W fun e w' => ∃ v, e = .returned (.tuple #[v, .bool true]) ∧ PrAt w' v T ∧ ∃ s', Mem w w' s' m ∧ Nx W w' s s' m m := by
  obtain ⟨i0, hi0, hz0, hz1, hz2⟩ := info_parts info_pair
  have hTl := sees_len I hT
  have HSo := hidC' hT.1
  have HC : Hid (Calls Tryz.prog 20 #[.pointer (some ⟨s.sb, 0, none⟩)] W fun e w' => e = .returned (.tuple #[]) ∧ ∃ s1, Fin1 w W w' s m n T s1) := (cleanup_api Mm.st Mm.mu I).mono fun e w' ⟨e1, s1, e2, mk, e3⟩ => by
    obtain ⟨M1, N1⟩ := Mm.turn e2
    have I1 := I.clean e3
    have hb := I1.begun
    exact ⟨e1, s1, M1, N1, I1, lone_scan I1 (clean_idle C D e3).2 (hT.clean I C D e3), wf_i64 (by omega) (by omega), by omega⟩
  clear Mm I C D hT hn
  go_enter Tryz.func16, Tryz.ntmps16
  go_wp2_with (first
    | (go_at_call 20; refine HC.out.mono ?_; rintro e w1 ⟨rfl, s1, F1⟩; have HB := hidC (F1.begin); clear F1)
    | (go_at_call 26; refine HB.out.mono ?_; rintro e w2 ⟨rfl, s2, F2⟩; have HS := hidC (F2.scan); clear F2)
    | (go_at_call 41; refine HS.out.mono ?_; rintro e w3 ⟨av, cv, rfl, hv, s3, F3, hap⟩; have HA := hidC (F3.abort hv hap); clear F3 hap hv)
    | (go_at_call 42; refine HA.out.mono ?_; rintro e w4 ⟨rfl, hv4, s4, hM4, hN4⟩; have HM4 := hidC' (And.intro hM4 hN4); clear hM4 hN4))
  obtain ⟨a', cap', hve, hc⟩ := hv4.at
  obtain ⟨rfl, rfl⟩ : av = a' ∧ cv = cap' := by simpa using hve
  clear hv4 hve HC HB HS HA
  go_loopw [9, 10] (fun o i wr => ∃ k : Nat, i = .int .i64 k ∧ k ≤ T.length ∧ Quiet w4 wr ∧ PrSl w4.heap.size wr o (T.take k)) (fun _ i _ => T.length - (intOf i).toNat)
  case atStart => exact ⟨0, rfl, Nat.zero_le _, Keeps.refl _ _, World.ownsRow_nil _ _ _ _⟩
  case round =>
    obtain ⟨k, rfl, hk, hq, hown⟩ := hrel
    have hsz := hq.size
    by_cases hlt : k < T.length
    · have hlt' : (k : Int) < (T.length : Int) := by omega
      rcases hc with h0 | ⟨g, rfl, hg, hcell⟩
      · rw [h0] at hlt; simp at hlt
      obtain ⟨p, hp⟩ : ∃ p, T[k]? = some p := ⟨_, List.getElem?_eq_getElem hlt⟩
      obtain ⟨p1, p2⟩ := hcell k p hp
      have HT : Hid (T.take (k + 1) = T.take k ++ [(p.1, p.2)]) := take_succ_of hp
      have hfl : (T.take k).length ≤ 128 := by simp; omega
      rw [← hq.cell hg (by simp)] at p1 p2
      generalize T.take k = TK at hown HT hfl
      cases k with
      | zero =>
        clear hcell hp
        go_wp2
        go_quiet (fail)
        have hq2 : Quiet w4 (wr.drewN nq) := Quiet.trans' hq (quiet_drewN _ _)
        have hown2 : PrSl w4.heap.size (wr.drewN nq) _ TK := hown
        have p1d : (wr.drewN nq).cell? ⟨g, 0 * 2, none⟩ = some (.string p.1) := p1
        have p2d : (wr.drewN nq).cell? ⟨g, 0 * 2 + 1, none⟩ = some (.string p.2) := p2
        have hsz2 := hq2.size
        clear hown p1 p2 hq hsz
        generalize wr.drewN nq = wd at *
        go_wp2_with (first
          | (at_builtin; refine wpList_append_own_at _ rfl _ _ 35 rfl w4.heap.size 113 i0 (.agg #[.string ⟨#[]⟩, .string ⟨#[]⟩]) 2 32 Tryz.underlying35 hi0 hz0 hz1 hz2 rfl (by decide) _ _ _ (by simp [go_sem]) (hown2.alloc _) ⟨wd.heap.size, 0, none⟩ 1 1 [.string p.1, .string p.2] (by simp [go_sem]) rfl (cell_twoNew wd (.string p.1) (.string p.2) 113) (one2 _ _) (by unfold maxLen; omega) (by omega) (by simp; omega) ?_)
          | fail)
        intro v5 w5 hown5 hgrow hnil hloc
        have k5 := keeps_of_grown hgrow
        have hlo5 := hown2.lt
        have hq5 : Quiet w4 w5 := Quiet.of_new (Quiet.trans' hq2 (Keeps.alloc _ _)) k5 (fun b hb => (hlo5 b hb).1)
        have hown5b := PrSl.snoc hown5
        clear hown5 hgrow hnil hloc k5 hlo5 hown2
        go_wp2
        go_roundw
        case rel => exact ⟨0 + 1, by go_num, by omega, hq5, by rw [HT.out]; exact hown5b⟩
        case measure => simp [intOf]; omega
      | succ j =>
        obtain ⟨p0, hp0⟩ : ∃ p, T[j]? = some p := ⟨_, List.getElem?_eq_getElem (by omega)⟩
        obtain ⟨q1, -⟩ := hcell j p0 hp0
        rw [← hq.cell hg (by simp)] at q1
        have hlt0 := sorted_at HSo.out hp0 hp
        clear hcell hp hp0
        go_wp2
        go_quiet (fail)
        have hq2 : Quiet w4 (wr.drewN nq) := Quiet.trans' hq (quiet_drewN _ _)
        have hown2 : PrSl w4.heap.size (wr.drewN nq) _ TK := hown
        have p1d : (wr.drewN nq).cell? ⟨g, (j + 1) * 2, none⟩ = some (.string p.1) := p1
        have p2d : (wr.drewN nq).cell? ⟨g, (j + 1) * 2 + 1, none⟩ = some (.string p.2) := p2
        have hsz2 := hq2.size
        clear hown p1 p2 hq hsz
        generalize wr.drewN nq = wd at *
        go_wp2_with (first
          | (at_builtin; refine wpList_append_own_at _ rfl _ _ 35 rfl w4.heap.size 113 i0 (.agg #[.string ⟨#[]⟩, .string ⟨#[]⟩]) 2 32 Tryz.underlying35 hi0 hz0 hz1 hz2 rfl (by decide) _ _ _ (by simp [go_sem]) (hown2.alloc _) ⟨wd.heap.size, 0, none⟩ 1 1 [.string p.1, .string p.2] (by simp [go_sem]) rfl (cell_twoNew wd (.string p.1) (.string p.2) 113) (one2 _ _) (by unfold maxLen; omega) (by omega) (by simp; omega) ?_)
          | fail)
        intro v5 w5 hown5 hgrow hnil hloc
        have k5 := keeps_of_grown hgrow
        have hlo5 := hown2.lt
        have hq5 : Quiet w4 w5 := Quiet.of_new (Quiet.trans' hq2 (Keeps.alloc _ _)) k5 (fun b hb => (hlo5 b hb).1)
        have hown5b := PrSl.snoc hown5
        clear hown5 hgrow hnil hloc k5 hlo5 hown2
        go_wp2
        go_roundw
        case rel => exact ⟨(j + 1) + 1, by go_num, by omega, hq5, by rw [HT.out]; exact hown5b⟩
        case measure => simp [intOf]; omega
    · have hge : ¬ (k : Int) < (T.length : Int) := by omega
      have hT : T.take k = T := List.take_of_length_le (by omega)
      rw [hT] at hown
      clear hc
      go_wp2
      go_ret2
      exact ⟨_, rfl, PrAt.of_sl hown, s4, HM4.out.1.still hq, nx_same HM4.out.2 hq⟩

end
end Go.Proofs.YthfimgeopciiiaaGreat

/-
  The laws of the book: how one starts; Snapshot.
-/
namespace Go.Proofs.YthfimgeopciiiaaGreat
open Go.MapKept Go.ChangeMaps Go.Maps Go.RowKit Go.MuLone
set_option linter.unusedVariables false

theorem newSto_invC {a b c d : Int} (h : configB a b c d = true) (N L : Nat) : (newSto a b c d N L).abs.Inv 0 where
  cfg := h
  txs := by have := config_parts h; simp [newSto, Sto.abs]; omega
  reads := by have := config_parts h; simp [newSto, Sto.abs, Abs.nReads, sumN]; omega
  writes := by simp [newSto, Sto.abs]
  vers := by have := config_parts h; simp [newSto, Sto.abs, totV, sumN]; omega
  begun := by simp [newSto, Sto.abs]
  clock := by simp [newSto, Sto.abs]
  hs := by simp [newSto, Sto.abs]
  bgs := by simp [newSto, Sto.abs]
  nd := by simp [newSto, Sto.abs]
  wnd := by simp [newSto, Sto.abs]
  gone := by simp [newSto, Sto.abs]
  vgone := by simp [newSto, Sto.abs]
  vnd := by simp [newSto, Sto.abs]
  vne := by simp [newSto, Sto.abs]

def MBk.init (bb sb : Nat) : MBk := ⟨bb, sb, .slice none 0 0, .slice none 0 0, .slice none 0 0, [], [], []⟩

theorem start_mem {w w' : World} (hq : Quiet w w') {s : Sto} (hS : StAt w' s) (hmu : s.mu = 0) (hlow : ∀ b ∈ s.foot, w.heap.size ≤ b) :
    Mem w (w'.alloc (.cells #[.pointer (some ⟨s.sb, 0, none⟩), .slice none 0 0, .slice none 0 0, .slice none 0 0] 38)) s (MBk.init w'.heap.size s.sb) where
  quiet := Quiet.trans' hq (Keeps.alloc _ _)
  st := hS.quiet (Keeps.alloc _ _)
  mu := hmu
  bk := ⟨fun b => if b = w'.heap.size then 0 else 4, {
    own := heap_alloc_new _ _
    hb := hq.size
    dl := World.ownsRow_nil _ _ _ _
    tb := World.ownsRow_nil _ _ _ _
    cm := World.ownsRow_nil _ _ _ _
    now := fun i x h => by simp [MBk.init] at h
    keys := fun i x h => by simp [MBk.init] at h
    ck := fun c h => by simp [MBk.init] at h
    gb := if_pos rfl
    gd := fun b h => by simp [MBk.init, Value.ownBlock] at h
    gc := fun b h => by simp [MBk.init, Value.ownBlock] at h
    gt := fun b h => by simp [MBk.init, Value.ownBlock] at h
    gn := fun i x h => by simp [MBk.init] at h
    gk := fun i x h => by simp [MBk.init] at h }, fun b hb => if_neg (by have := hS.lt b hb; omega)⟩
  low := hlow
  sb := rfl

theorem start_log {a b c d : Int} (h : configB a b c d = true) (N L bb sb : Nat) : Log 0 (newSto a b c d N L).abs (MBk.init bb sb).bk where
  inv := newSto_invC h N L
  is := ⟨0, {
    len := rfl
    clk := rfl
    act := fun t ht => by simp [newSto, Sto.abs] at ht
    idle := fun i d h => by simp [MBk.init, MBk.bk] at h
    sorted := List.Pairwise.nil
    tab := fun k => rfl
    M0 := Int.le_refl _
    Mc := Int.le_refl _
    Ma := fun t ht => by simp [newSto, Sto.abs] at ht
    newer := fun k b h => by simp [laterB, MBk.init, MBk.bk, newerB, Abs.vs, newSto, Sto.abs, look]
    disj := fun t ht => by simp [newSto, Sto.abs] at ht
    fresh := fun t ht => by simp [newSto, Sto.abs] at ht }⟩
  bud := fun d h => by simp [MBk.init, MBk.bk] at h
  cms := fun t ht => by simp [newSto, Sto.abs] at ht

section
variable {w W0 W : World} {s0 s : Sto} {m0 m : MBk} {n : Int}

theorem PI.deals (P : PI w W0 W s0 m0 n s m) : (m.deals.length : Int) ≤ n := by have := P.log.len.1; simpa [MBk.bk] using this

theorem plays_at (P : PI w W0 W s0 m0 n s m) (v : Value) (l : List StepD) (hl : ScriptAt w v l) (hn : n + l.length ≤ 2097152) (hcs : ∀ o ∈ l, o.cs.length ≤ 1048576) :
    Calls Tryz.prog 14 #[.pointer (some ⟨m0.bb, 0, none⟩), v] W fun e w' => e = .returned (.bool true) ∧ ∃ s' m', PI w W0 w' s0 m0 (n + l.length) s' m' := by
  have := plays_h P.mem P.log v l hl hn hcs
  rw [P.nx.bb] at this
  exact this.mono fun e w' ⟨e1, s', m', Q⟩ => ⟨e1, s', m', Q.mem, P.nx.trans Q.nx, Q.log, Q.cfg.trans P.cfg⟩

theorem ends_at (P : PI w W0 W s0 m0 n s m) (hn : n + n ≤ 2097152) :
    Calls Tryz.prog 15 #[.pointer (some ⟨m0.bb, 0, none⟩)] W fun e w' => e = .returned (.bool true) ∧ ∃ s' m', PI w W0 w' s0 m0 (n + m.deals.length) s' m' ∧ Idle s'.abs := by
  have hd := P.deals
  have := ends_h P.mem P.log (by omega)
  rw [P.nx.bb] at this
  refine this.mono fun e w' ⟨e1, s', m', E⟩ => ⟨e1, s', m', ⟨E.pi.mem, P.nx.trans E.pi.nx, E.pi.log, E.pi.cfg.trans P.cfg⟩, ?_⟩
  refine idle_of E.pi.log.inv (fun j h1 h2 => E.gone j h1 ?_)
  rw [E.begun, ← MBk.len_of P.log] at h2
  exact h2

theorem sees_of {M : Int} {a : Abs} {B : Bk} (K : BkIs a B M) : Sees a B.t := ⟨K.sorted, K.tab⟩

theorem final_at (P : PI w W0 W s0 m0 n s m) (D : Idle s.abs) (hn : n ≤ 1000000000000) :
    Calls Tryz.prog 16 #[.pointer (some ⟨s0.sb, 0, none⟩)] W fun e w' => ∃ av cv, e = .returned (.tuple #[.slice av m.t.length cv, .bool true]) ∧ PrAt w' (.slice av m.t.length cv) m.t ∧ ∃ s', Mem w w' s' m ∧ Nx W0 w' s0 s' m0 m := by
  obtain ⟨M, K⟩ := P.log.is
  have := final_h P.mem P.log.inv hn P.log.cms D (sees_of K)
  rw [P.nx.sb] at this
  refine this.mono fun e w' ⟨v, e1, e2, s', e3, e4⟩ => ?_
  obtain ⟨av, cv, ev, -⟩ := id e2
  have ev' : v = .slice av m.t.length cv := ev
  subst ev'
  exact ⟨av, cv, e1, e2, s', e3, P.nx.trans e4⟩

theorem table_at {w W0 W : World} {s0 s : Sto} {m0 m : MBk} (M : Mem w W s m) (N : Nx W0 W s0 s m0 m) : ∃ at_ ct, W.cell? ⟨m0.bb, 2, none⟩ = some (.slice at_ m.t.length ct) ∧ PrAt W (.slice at_ m.t.length ct) m.t := by
  obtain ⟨tag, B, -⟩ := M.bk
  obtain ⟨at_, ct, e, -⟩ := B.tb.at
  have c := B.cell.2.2.1
  have h := PrAt.of_sl B.tb
  rw [N.bb, e] at c
  rw [e] at h
  exact ⟨at_, ct, c, h⟩

theorem PI.tlen (P : PI w W0 W s0 m0 n s m) : m.t.length ≤ 128 := by
  obtain ⟨M, K⟩ := P.log.is
  exact K.t_len P.log.inv

end

set_option maxRecDepth 100000 in
set_option maxHeartbeats 4000000 in
theorem snapLaw_h (w : World) (a b c d : Int) (v : Value) (l : List StepD) (hl : ScriptAt w v l) (hlen : l.length ≤ 1048576) (hcs : ∀ o ∈ l, o.cs.length ≤ 1048576) :
    Calls Tryz.prog 4 #[.agg #[.int .i64 a, .int .i64 b, .int .i64 c, .int .i64 d], v] w fun e w' => e = .returned (.bool true) ∧ Quiet w w' := by
  have hneq : ∀ (g : Nat) (W : World), (binOp .eql 29 (.pointer (some ⟨g, 0, none⟩)) (.pointer none)).run Tryz.prog W = .ok (.bool false) W := fun g W => by kernel_rfl
  have heql : ∀ (W : World), (binOp .eql 29 (.pointer none) (.pointer none)).run Tryz.prog W = .ok (.bool true) W := fun W => by kernel_rfl
  cases hcf : configB a b c d with
  | false =>
    have HOp : Hid (∀ W, Calls Tryz.prog 13 #[.agg #[.int .i64 a, .int .i64 b, .int .i64 c, .int .i64 d]] W fun e w' => e = .returned (.tuple #[.pointer none, .bool true]) ∧ Quiet W w') := fun W => opened_bad a b c d W hcf
    clear hl hcs hneq hcf
    go_enter Tryz.func4, Tryz.ntmps4
    go_wp2_with (go_at_call 13; refine (HOp.out _).mono ?_; rintro e w1 ⟨rfl, hq1⟩)
    go_ret
    exact ⟨rfl, Quiet.trans' (Keeps.alloc _ _) hq1⟩
  | true =>
    have HOp : Hid (∀ W, Quiet w W → Calls Tryz.prog 13 #[.agg #[.int .i64 a, .int .i64 b, .int .i64 c, .int .i64 d]] W fun e w' => ∃ sb, e = .returned (.tuple #[.pointer (some ⟨sb, 0, none⟩), .bool true]) ∧ ∃ s, s.sb = sb ∧ PI w (w'.alloc (.cells #[.pointer (some ⟨sb, 0, none⟩), .slice none 0 0, .slice none 0 0, .slice none 0 0] 38)) (w'.alloc (.cells #[.pointer (some ⟨sb, 0, none⟩), .slice none 0 0, .slice none 0 0, .slice none 0 0] 38)) s (MBk.init w'.heap.size sb) 0 s (MBk.init w'.heap.size sb)) := fun W hW => (opened_ok a b c d W hcf).mono fun e w' ⟨N, e1, e2, e3, e4⟩ => by
      refine ⟨N + 2, e1, newSto a b c d N (N + 2), rfl, PI.start (start_mem (Quiet.trans' hW e4) e3 rfl (fun x hx => ?_)) (start_log hcf _ _ _ _)⟩
      have := (newSto_foot x hx).1
      have := hW.size
      omega
    have HL := hidC' hl
    have HCs := hidC' hcs
    clear hl hcs heql hcf
    go_enter Tryz.func4, Tryz.ntmps4
    go_wp2_with (first
      | (go_at_call 13; refine (HOp.out _ (Keeps.alloc _ _)).mono ?_; rintro e w1 ⟨sb, rfl, s0, hsb, P0⟩; have HPl := hidC (plays_at P0 v l HL.out (by omega) HCs.out); clear P0)
      | (go_at_call 14; refine HPl.out.mono ?_; rintro e w2 ⟨rfl, s2, m2, P2⟩; have HEn := hidC (ends_at P2 (by omega)); have hd2 := P2.deals; clear P2)
      | (go_at_call 15; refine HEn.out.mono ?_; rintro e w3 ⟨rfl, s3, m3, P3, D3⟩; have HFi := final_at P3 D3 (by omega); rw [hsb] at HFi; have HFi := hidC HFi; have ht3 := P3.tlen; clear P3 D3)
      | (go_at_call 16; refine HFi.out.mono ?_; rintro e w4 ⟨av, cv, rfl, hP4, s4, hM4, hN4⟩; obtain ⟨at_, ct, c2, hP5⟩ := table_at hM4 hN4; change w4.cell? ⟨w1.heap.size, 2, none⟩ = _ at c2; have HSa := hidC (same_self w4 _ _ m3.t hP4 hP5 (by omega)); have HM4 := hidC' hM4; clear hM4 hN4 hP4 hP5)
      | (go_at_call 17; refine HSa.out.mono ?_; rintro e w5 ⟨rfl, hq5⟩))
    go_ret
    exact ⟨rfl, Quiet.trans' HM4.out.quiet hq5⟩

end Go.Proofs.YthfimgeopciiiaaGreat
