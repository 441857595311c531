/-
  The law's two stores beside one another: in memory, and what they tell.
-/
import Derived.Test.YthfimgeopciiiaaGreatLwE
import Derived.Test.YthfimgeopciiiaaGreatPlayG2
import Derived.Test.YthfimgeopciiiaaGreatPlayJ
import Derived.Test.YthfimgeopciiiaaGreatPlayW
import Derived.Test.YthfimgeopciiiaaGreatPlayZ
import Derived.Deep.RegionHeld3
namespace Go.Proofs.YthfimgeopciiiaaGreat
open Go.MapKept Go.ChangeMaps Go.Maps Go.RowKit Go.MuLone
set_option linter.unusedVariables false

/-- both stores, their side, and the law's world, in a call's own memory -/
structure Two (w W : World) (s : Sto) (m : MRef) (M : MW) (sd : Nat) : Prop where
  quiet : Quiet w W
  st : StAt W s
  mu : s.mu = 0
  low : ∀ b ∈ s.foot, w.heap.size ≤ b
  rf : RefIn W w.heap.size m
  wo : WIn W w.heap.size M
  sd_at : W.heap[sd]? = some (.cells #[.pointer (some ⟨s.sb, 0, none⟩), .pointer (some ⟨m.sb, 0, none⟩)] 104)
  sd_low : w.heap.size ≤ sd
  a1 : ∀ b ∈ s.foot, ¬ m.has b
  a2 : ∀ b ∈ s.foot, ¬ M.has b
  a3 : ∀ b, m.has b → ¬ M.has b
  a4 : sd ∉ s.foot
  a5 : ¬ m.has sd
  a6 : ¬ M.has sd
  sv_at : ∀ g, M.sv.ownBlock = some g → g < W.heap.size ∧ W.cell? ⟨g, 0, none⟩ = some (.pointer (some ⟨sd, 0, none⟩)) ∧ g ∉ s.foot ∧ ¬ m.has g ∧ ¬ M.has g

section
variable {w W W' : World} {s s' : Sto} {m m' : MRef} {M M' : MW} {sd N : Nat}

theorem Two.still (T : Two w W s m M sd) (k : Quiet W W') : Two w W' s m M sd :=
  { T with
    quiet := Quiet.trans' T.quiet k
    st := T.st.quiet k
    rf := T.rf.quiet k
    wo := T.wo.quiet k
    sd_at := (k.block sd (lt_of_heap T.sd_at) id).trans T.sd_at
    sv_at := fun g h => by
      obtain ⟨h1, h2, h3⟩ := T.sv_at g h
      exact ⟨Nat.lt_of_lt_of_le h1 k.size, (k.cell h1 id).trans h2, h3⟩ }

theorem Two.turnX (T : Two w W s m M sd) (t : Turn s s' W W') : Two w W' s' m M sd := by
  have hs := T.quiet.size
  have hsd := lt_of_heap T.sd_at
  have hf : ∀ b ∈ s'.foot, ∀ P : Nat → Prop, (∀ b ∈ s.foot, ¬ P b) → (∀ b, P b → b < W.heap.size) → ¬ P b := fun b hb P h1 h2 hp => by
    rcases t.foot b hb with h | h
    · exact h1 b h hp
    · have := h2 b hp; omega
  refine ⟨Quiet.of_new T.quiet t.keeps T.low, t.at_, t.mu.trans T.mu, fun b hb => ?_, T.rf.kept t.keeps (fun b hb hf => T.a1 b hf hb), T.wo.kept t.keeps (fun b hb hf => T.a2 b hf hb), ?_, T.sd_low, fun b hb => hf b hb m.has T.a1 (fun b h => (T.rf.lt h).2), fun b hb => hf b hb M.has T.a2 (fun b h => (T.wo.lt h).2), T.a3, fun hb => ?_, T.a5, T.a6, fun g h => ?_⟩
  · rcases t.foot b hb with h | h
    · exact T.low b h
    · omega
  · rw [t.sb]; exact (t.keeps.block sd hsd T.a4).trans T.sd_at
  · rcases t.foot sd hb with h | h
    · exact T.a4 h
    · omega
  · obtain ⟨h1, h2, h3, h4, h5⟩ := T.sv_at g h
    refine ⟨Nat.lt_of_lt_of_le h1 t.keeps.size, (t.keeps.cell h1 h3).trans h2, fun hb => ?_, h4, h5⟩
    rcases t.foot g hb with h | h
    · exact h3 h
    · omega

theorem Two.turnY (T : Two w W s m M sd) (h : RefIn W' w.heap.size m') (t : RTurn W W' m m') : Two w W' s m' M sd := by
  have hsd := lt_of_heap T.sd_at
  have hf : ∀ b, m'.has b → m.has b ∨ W.heap.size ≤ b := t.fresh
  refine ⟨Quiet.of_new T.quiet t.keeps (fun b hb => (T.rf.lt hb).1), T.st.kept t.keeps (fun b hb hm => T.a1 b hb hm), T.mu, T.low, h, T.wo.kept t.keeps (fun b hb hm => T.a3 b hm hb), ?_, T.sd_low, fun b hb hm => ?_, T.a2, fun b hm hM => ?_, T.a4, fun hm => ?_, T.a6, fun g h => ?_⟩
  · rw [t.sb]; exact (t.keeps.block sd hsd T.a5).trans T.sd_at
  · rcases hf b hm with h1 | h1
    · exact T.a1 b hb h1
    · have := T.st.lt b hb; omega
  · rcases hf b hm with h1 | h1
    · exact T.a3 b h1 hM
    · have := (T.wo.lt hM).2; omega
  · rcases hf sd hm with h1 | h1
    · exact T.a5 h1
    · omega
  · obtain ⟨h1, h2, h3, h4, h5⟩ := T.sv_at g h
    refine ⟨Nat.lt_of_lt_of_le h1 t.keeps.size, (t.keeps.cell h1 h4).trans h2, h3, fun hm => ?_, h5⟩
    rcases hf g hm with h | h
    · exact h4 h
    · omega

theorem Two.left {R : RSt} (T : Two w W s m M sd) (h : RLeft W W' w.heap.size m R) : ∃ m', Two w W' s m' M sd ∧ m'.rs = R ∧ m'.sb = m.sb ∧ Keeps m.has W W' := by
  obtain ⟨m', h1, h2, h3⟩ := h
  exact ⟨m', T.turnY h1 h2, h3, h2.sb, h2.keeps⟩

theorem Two.turnM (T : Two w W s m M sd) {v : Value} (k : KeptOut W W' w.heap.size M v M') (hv : ∀ b, v.ownBlock = some b → w.heap.size ≤ b ∧ b < W.heap.size ∧ b ∉ s.foot ∧ ¬ m.has b ∧ b ≠ sd ∧ M.sv.ownBlock ≠ some b) : Two w W' s m M' sd := by
  have hsd := lt_of_heap T.sd_at
  refine ⟨Quiet.of_new T.quiet k.keeps (fun b hb => ?_), T.st.kept k.keeps (fun b hb h => ?_), T.mu, T.low, T.rf.kept k.keeps (fun b hb h => ?_), k.is, (k.keeps.block sd hsd (fun h => ?_)).trans T.sd_at, T.sd_low, T.a1, fun b hb hM => ?_, fun b hm hM => ?_, T.a4, T.a5, fun hM => ?_, fun g h => ?_⟩
  · rcases hb with h | h
    · exact (T.wo.lt h).1
    · exact (hv b h).1
  · rcases h with h | h
    · exact T.a2 b hb h
    · exact (hv b h).2.2.1 hb
  · rcases h with h | h
    · exact T.a3 b hb h
    · exact (hv b h).2.2.2.1 hb
  · rcases h with h | h
    · exact T.a6 h
    · exact (hv sd h).2.2.2.2.1 rfl
  · rcases k.fresh b hM with h | h | h
    · exact T.a2 b hb h
    · exact (hv b h).2.2.1 hb
    · have := T.st.lt b hb; omega
  · rcases k.fresh b hM with h | h | h
    · exact T.a3 b hm h
    · exact (hv b h).2.2.2.1 hm
    · have := (T.rf.lt hm).2; omega
  · rcases k.fresh sd hM with h | h | h
    · exact T.a6 h
    · exact (hv sd h).2.2.2.2.1 rfl
    · omega
  · rw [k.sv] at h
    obtain ⟨h1, h2, h3, h4, h5⟩ := T.sv_at g h
    refine ⟨Nat.lt_of_lt_of_le h1 k.keeps.size, (k.keeps.cell h1 (fun hx => ?_)).trans h2, h3, h4, fun hM => ?_⟩
    · rcases hx with hx | hx
      · exact h5 hx
      · exact (hv g hx).2.2.2.2.2 h
    · rcases k.fresh g hM with hx | hx | hx
      · exact h5 hx
      · exact (hv g hx).2.2.2.2.2 h
      · omega

/-- what is known of both, behind N steps -/
structure Lg (s : Sto) (m : MRef) (M : MW) (N : Nat) : Prop where
  is : RefIs s.abs m.rs
  inv : s.abs.Inv (N : Int)
  bd : RBd m.rs ((N : Int) * 2097152)
  n : N ≤ 2097152
  mks : M.mks = M.prs.map (·.2.2)
  prs : M.prs.length ≤ 4 * N
  chs : M.chs.length ≤ N
  last : -(N : Int) ≤ M.last ∧ M.last ≤ 0

theorem Lg.len (L : Lg s m M N) : m.txs.length ≤ N := by
  have h1 := L.is.len
  have h2 := L.inv.begun.2
  rw [rs_len] at h1
  omega

theorem Lg.cfg (L : Lg s m M N) : (m.c1 ≤ 32 ∧ m.c2 ≤ 64) ∧ m.c3 ≤ 16 ∧ m.c4 ≤ 128 := by
  have h := L.inv.cfg
  have e1 : s.abs.c1 = m.c1 := L.is.c1
  have e2 : s.abs.c2 = m.c2 := L.is.c2
  have e3 : s.abs.c3 = m.c3 := L.is.c3
  have e4 : s.abs.c4 = m.c4 := L.is.c4
  unfold configB withinB at h
  simp only [Bool.and_eq_true, decide_eq_true_eq] at h
  omega

theorem Lg.vers (L : Lg s m M N) : m.vers.length ≤ 128 := by
  have h1 := L.is.tot
  have h2 := L.inv.vers
  have h3 := L.cfg
  have e4 : s.abs.c4 = m.c4 := L.is.c4
  have e5 : m.rs.vers.length = m.vers.length := rfl
  omega

theorem Lg.reads (L : Lg s m M N) : m.rs.nReads ≤ 64 := by
  have h1 := L.is.nReads
  have h2 := L.inv.reads
  have h3 := L.cfg
  have e2 : s.abs.c2 = m.c2 := L.is.c2
  omega

/-- the same, of stores that have turned -/
theorem Lg.next (L : Lg s m M N) (hN : N + 1 ≤ 2097152) (E : RefIs s'.abs m'.rs) (I : s'.abs.Inv ((N : Int) + 1)) (B : RBd m'.rs ((N : Int) * 2097152 + m.rs.txs.length + 1)) : Lg s' m' M (N + 1) := by
  have hl := L.len
  have hr : m.rs.txs.length = m.txs.length := rs_len
  have h1 := L.prs
  have h2 := L.chs
  have h3 := L.last
  exact ⟨E, by exact_mod_cast I, B.mono (by push_cast; omega), hN, L.mks, by omega, by omega, by push_cast; omega⟩

/-- a handle is active in both, or in none -/
theorem Lg.act (L : Lg s m M N) (h : Int) : (m.actB h = false ∧ s.abs.act? h = none) ∨ ∃ (i : Nat) (k : RTx), h = (i : Int) + 1 ∧ m.rs.txs[i]? = some k ∧ k.st = 0 ∧ k ∈ m.rs.txs ∧ k.h = h ∧ s.abs.act? h = some k.tx := by
  rcases actB_cases m h with ha | ⟨i, k, rfl, hk, h0⟩
  · refine .inl ⟨ha, L.is.act_none fun r hr e h0 => ?_⟩
    obtain ⟨i, hi⟩ := List.getElem?_of_mem hr
    have e1 := L.is.hs i r hi
    rw [← e, e1, actB_yes hi h0] at ha
    cases ha
  · have hm := List.mem_of_getElem? hk
    have e1 := L.is.hs i k hk
    exact .inr ⟨i, k, rfl, hk, h0, hm, e1, by rw [← e1]; exact L.is.act L.inv hm h0⟩

/-- the calls that begin no transaction and that the law's asks makes -/
def Asking (f : Nat) : Bool := f == 42 || f == 25 || f == 23 || f == 19

theorem len_of {m m' : MRef} {R : RSt} (em : m'.rs = R) (h : R.txs.length = m.rs.txs.length) : m'.txs.length = m.txs.length := by
  rw [← rs_len (m := m'), ← rs_len (m := m), em, h]

theorem abort_len (R : RSt) (h : Int) : (R.abort h).txs.length = R.txs.length := List.length_map _

theorem commR_len (R : RSt) (k : RTx) : (R.commR k).2.txs.length = R.txs.length := by
  unfold RSt.commR
  split
  · exact abort_len _ _
  · split
    · rfl
    · exact List.length_map _

/-- the two calls, one behind the other, answer alike -/
def Both (w W : World) (s : Sto) (m : MRef) (M : MW) (sd N : Nat) (fX : Nat) (aX : Array Value) (fY : Nat) (aY : Array Value) (val : Value) : Prop :=
  ∀ W1, Quiet W W1 → Calls Tryz.prog fX aX W1 fun e W2 => e = .returned val ∧ ∃ s', Two w W2 s' m M sd ∧ s'.sb = s.sb ∧ Keeps (fun b => b ∈ s.foot) W1 W2 ∧ ∀ W3, Quiet W2 W3 → Calls Tryz.prog fY aY W3 fun e W4 => e = .returned val ∧ ∃ m', Two w W4 s' m' M sd ∧ m'.sb = m.sb ∧ (Keeps m.has W3 W4 ∧ (Asking fX = true → m'.txs.length = m.txs.length)) ∧ Lg s' m' M (N + 1)

theorem both_begin (T : Two w W s m M sd) (L : Lg s m M N) (hN : N + 1 ≤ 2097152) :
    ∃ a e, Both w W s m M sd N 26 #[.pointer (some ⟨s.sb, 0, none⟩)] 68 #[.pointer (some ⟨m.sb, 0, none⟩)] (.tuple #[.int .i64 a, .int .i64 e]) := by
  have hl := L.len
  have hv := L.vers
  have hr := L.reads
  have key : s.abs.beginR.1 = m.rs.beginR.1 ∧ RefIs s.abs.beginR.2 m.rs.beginR.2 ∧ RBd m.rs.beginR.2 ((N : Int) * 2097152 + m.rs.txs.length + 1) := by
    unfold RSt.beginR
    split
    · rename_i h
      obtain ⟨h1, h2⟩ := L.is.begin h
      exact ⟨h1, h2, (L.bd.begin (by omega)).mono (by omega)⟩
    · rename_i h
      have := L.is.begin_full h
      exact ⟨by rw [this], by rw [this]; exact L.is, L.bd.mono (by omega)⟩
  refine ⟨s.abs.beginR.1.1, s.abs.beginR.1.2, fun W1 q1 => ?_⟩
  have T1 := T.still q1
  refine (begin_api T1.st T1.mu L.inv (by omega)).mono fun e W2 ⟨s', e1, t, e2⟩ => ⟨e1, s', T1.turnX t, t.sb, t.keeps, fun W3 q3 => ?_⟩
  have T3 := (T1.turnX t).still q3
  refine (rbegin_h T3.rf (by omega) (by omega) (by omega)).mono fun e W4 ⟨f1, f2⟩ => ?_
  obtain ⟨m', T4, em, esb, ek⟩ := T3.left f2
  refine ⟨by rw [f1, key.1], m', T4, esb, ⟨ek, fun hx => absurd hx (by decide)⟩, L.next hN (by rw [e2, em]; exact key.2.1) (by rw [e2]; exact L.inv.beginR) (by rw [em]; exact key.2.2)⟩

theorem both_abort (T : Two w W s m M sd) (L : Lg s m M N) (hN : N + 1 ≤ 2097152) (h : Int) (hw : (Lit.int .i64 h).wf = true) :
    ∃ e, Both w W s m M sd N 42 #[.pointer (some ⟨s.sb, 0, none⟩), .int .i64 h] 127 #[.pointer (some ⟨m.sb, 0, none⟩), .int .i64 h] (.int .i64 e) := by
  have hl := L.len
  refine ⟨(s.abs.abortR h).1, fun W1 q1 => ?_⟩
  have T1 := T.still q1
  refine (abort_api T1.st T1.mu h hw).mono fun e W2 ⟨s', e1, t, e2⟩ => ⟨e1, s', T1.turnX t, t.sb, t.keeps, fun W3 q3 => ?_⟩
  have T3 := (T1.turnX t).still q3
  rcases L.act h with ⟨ha, hn⟩ | ⟨i, k, rfl, hk, h0, hm, hh, hs⟩
  · have ea : s.abs.abortR h = (2, s.abs) := by unfold Abs.abortR; rw [hn]
    refine (rAbort_no T3.rf (by omega) h ha).mono fun e W4 ⟨f1, f2⟩ => ?_
    subst f2
    exact ⟨by rw [f1, ea], m, T3, rfl, ⟨Keeps.refl _ _, fun _ => rfl⟩, L.next hN (by rw [e2, ea]; exact L.is) (by rw [e2, ea]; exact L.inv.mono (by omega)) (L.bd.mono (by omega))⟩
  · obtain ⟨a1, a2⟩ := L.is.abortR L.inv hm h0
    rw [hh] at a1 a2
    refine (rAbort_yes T3.rf L.bd.hs (by omega) hk h0).mono fun e W4 ⟨f1, f2⟩ => ?_
    obtain ⟨m', T4, em, esb, ek⟩ := T3.left f2
    exact ⟨by rw [f1, a1], m', T4, esb, ⟨ek, fun _ => len_of em (abort_len _ _)⟩, L.next hN (by rw [e2, em]; exact a2) (by rw [e2]; exact (L.inv.abortR _).mono (by omega)) (by rw [em]; exact (L.bd.abort _).mono (by omega))⟩

theorem both_commit (T : Two w W s m M sd) (L : Lg s m M N) (hN : N + 1 ≤ 2097152) (h : Int) (hw : (Lit.int .i64 h).wf = true) :
    ∃ e, Both w W s m M sd N 25 #[.pointer (some ⟨s.sb, 0, none⟩), .int .i64 h] 126 #[.pointer (some ⟨m.sb, 0, none⟩), .int .i64 h] (.int .i64 e) := by
  have hl := L.len
  have hv := L.vers
  have hck : 0 ≤ m.clock ∧ m.clock ≤ 1152921504606846976 := by
    have h1 := L.inv.clock
    have e1 : s.abs.clock = m.clock := L.is.clock
    have := L.n
    omega
  refine ⟨(s.abs.commR h).1, fun W1 q1 => ?_⟩
  have T1 := T.still q1
  refine (commit_api T1.st T1.mu L.inv (by have := L.n; omega) h hw).mono fun e W2 ⟨s', e1, t, e2⟩ => ⟨e1, s', T1.turnX t, t.sb, t.keeps, fun W3 q3 => ?_⟩
  have T3 := (T1.turnX t).still q3
  rcases L.act h with ⟨ha, hn⟩ | ⟨i, k, rfl, hk, h0, hm, hh, hs⟩
  · have ea : s.abs.commR h = (2, s.abs, none) := by unfold Abs.commR; rw [hn]
    have eb := e2.no (by rw [ea])
    rw [ea] at eb
    refine (rCommit_no T3.rf (by omega) h ha).mono fun e W4 ⟨f1, f2⟩ => ?_
    subst f2
    exact ⟨by rw [f1, ea], m, T3, rfl, ⟨Keeps.refl _ _, fun _ => rfl⟩, L.next hN (by rw [eb]; exact L.is) (by rw [eb]; exact L.inv.mono (by omega)) (L.bd.mono (by omega))⟩
  · obtain ⟨a1, a2, a3⟩ := L.is.commR L.inv hm h0
    rw [hh] at a1 a2 a3
    refine (rCommit_yes T3.rf L.bd (by omega) (by omega) hck hk h0).mono fun e W4 ⟨f1, f2⟩ => ?_
    obtain ⟨m', T4, em, esb, ek⟩ := T3.left f2
    have hEI : RefIs s'.abs (m.rs.commR k).2 ∧ s'.abs.Inv ((N : Int) + 1) := by
      cases hc : (s.abs.commR ((i : Int) + 1)).2.2 with
      | none =>
        have eb := e2.no hc
        refine ⟨by rw [eb]; exact a3 hc, ?_⟩
        rw [eb]
        unfold Abs.commR at hc ⊢
        rw [hs] at hc ⊢
        simp only at hc ⊢
        split
        · exact (L.inv.without _).mono (by omega)
        · rename_i hx
          rw [if_neg hx] at hc
          split
          · exact L.inv.mono (by omega)
          · rename_i hy
            rw [if_neg hy] at hc
            simp at hc
      | some t =>
        obtain ⟨rfl, b2⟩ := a2 t hc
        have C := e2.yes _ hc
        refine ⟨by rw [b2]; exact L.is.comm L.inv hm h0 C, L.inv.comm (L.is.mem hm (by simp [RTx.live, h0])) ?_ C⟩
        unfold Abs.commR at hc
        rw [hs] at hc
        simp only at hc
        split at hc
        · simp at hc
        · split at hc
          · simp at hc
          · omega
    exact ⟨by rw [f1, a1], m', T4, esb, ⟨ek, fun _ => len_of em (commR_len _ _)⟩, L.next hN (by rw [em]; exact hEI.1) hEI.2 (by rw [em]; exact (L.bd.commR hm).mono (by omega))⟩

theorem both_clean (T : Two w W s m M sd) (L : Lg s m M N) (hN : N + 1 ≤ 2097152) :
    Both w W s m M sd N 20 #[.pointer (some ⟨s.sb, 0, none⟩)] 73 #[.pointer (some ⟨m.sb, 0, none⟩)] (.tuple #[]) := fun W1 q1 => by
  have hl := L.len
  have hv := L.vers
  have T1 := T.still q1
  refine (cleanup_api T1.st T1.mu L.inv).mono fun e W2 ⟨e1, s', t, mk, C⟩ => ⟨e1, s', T1.turnX t, t.sb, t.keeps, fun W3 q3 => ?_⟩
  have T3 := (T1.turnX t).still q3
  refine (rClean_h T3.rf L.bd.hs (by omega) (by omega)).mono fun e W4 ⟨f1, f2⟩ => ?_
  obtain ⟨m', T4, em, esb, ek⟩ := T3.left f2
  exact ⟨f1, m', T4, esb, ⟨ek, fun hx => absurd hx (by decide)⟩, L.next hN (by rw [em]; exact L.is.clean L.inv C) ((L.inv.clean C).mono (by omega)) (by rw [em]; exact L.bd.clean.mono (by omega))⟩

theorem both_get (T : Two w W s m M sd) (L : Lg s m M N) (hN : N + 1 ≤ 2097152) (h : Int) (hw : (Lit.int .i64 h).wf = true) (key : ByteArray) :
    ∃ v f e, Both w W s m M sd N 52 #[.pointer (some ⟨s.sb, 0, none⟩), .int .i64 h, .string key] 69 #[.pointer (some ⟨m.sb, 0, none⟩), .int .i64 h, .string key] (.tuple #[.string v, .bool f, .int .i64 e]) := by
  have hl := L.len
  have hv := L.vers
  have hr := L.reads
  have hc := L.cfg
  have hn0 := L.n
  refine ⟨(s.abs.getR h key).1.1, (s.abs.getR h key).1.2.1, (s.abs.getR h key).1.2.2, fun W1 q1 => ?_⟩
  have T1 := T.still q1
  refine (get_api T1.st T1.mu L.inv h hw key).mono fun e W2 ⟨s', e1, t, e2⟩ => ⟨e1, s', T1.turnX t, t.sb, t.keeps, fun W3 q3 => ?_⟩
  have T3 := (T1.turnX t).still q3
  rcases L.act h with ⟨ha, hn⟩ | ⟨i, k, rfl, hk, h0, hm, hh, hs⟩
  · have ea : s.abs.getR h key = ((⟨#[]⟩, false, 2), s.abs) := by unfold Abs.getR; rw [hn]
    refine (rGet_no T3.rf (by omega) h key ha).mono fun e W4 ⟨f1, f2⟩ => ?_
    subst f2
    exact ⟨by rw [f1, ea], m, T3, rfl, ⟨Keeps.refl _ _, fun hx => absurd hx (by decide)⟩, L.next hN (by rw [e2, ea]; exact L.is) (by rw [e2, ea]; exact L.inv.mono (by omega)) (L.bd.mono (by omega))⟩
  · obtain ⟨a1, a2⟩ := L.is.getR L.inv hm h0 key
    rw [hh] at a1 a2
    refine (rGet_yes T3.rf L.bd (by omega) (by omega) hk h0 key (fun W q => reads_h (T3.rf.quiet q) L.bd (by omega) (by omega) (by omega) (by omega) hk h0 false key ⟨#[]⟩)).mono fun e W4 ⟨f1, f2⟩ => ?_
    obtain ⟨m', T4, em, esb, ek⟩ := T3.left f2
    exact ⟨by rw [f1, a1], m', T4, esb, ⟨ek, fun hx => absurd hx (by decide)⟩, L.next hN (by rw [e2, em]; exact a2) (by rw [e2]; exact (L.inv.getR _ _).mono (by omega)) (by rw [em]; exact L.bd.getR hm h0 hc.1.2 key)⟩

end
end Go.Proofs.YthfimgeopciiiaaGreat

/-
  The law's two stores beside one another: Look, Told, Write, Scan.
-/
namespace Go.Proofs.YthfimgeopciiiaaGreat
open Go.MapKept Go.ChangeMaps Go.Maps Go.RowKit Go.MuLone
set_option linter.unusedVariables false

theorem map_sub_flat {α : Type} (g : α → Nat) (f : α → List Nat) (h : ∀ x, ∃ r, f x = g x :: r) : ∀ (l : List α), (l.map g).Sublist (l.flatMap f)
  | [] => List.Sublist.slnil
  | x :: l => by
    obtain ⟨r, e⟩ := h x
    rw [List.map_cons, List.flatMap_cons, e, List.cons_append]
    exact List.Sublist.cons_cons _ ((map_sub_flat g f h l).trans (List.sublist_append_right _ _))

theorem hl_len {W : World} {s : Sto} (H : StAt W s) : s.hl.length = (s.abs.txs.filter fun t => decide (t.cm = 0)).length := by
  have hnd : (s.recs.map (·.tb)).Nodup := (Sto.nd_parts H.nd).2.2.2.2.2.2.1.sublist (map_sub_flat (·.tb) Rec.foot (fun x => ⟨_, rfl⟩) s.recs)
  have hnd2 : ((s.recs.filter fun r => decide (r.cm = 0)).map (·.tb)).Nodup := hnd.sublist ((List.filter_sublist).map _)
  have hp : s.hl.Perm ((s.recs.filter fun r => decide (r.cm = 0)).map (·.tb)) := (List.perm_ext_iff_of_nodup H.hnd hnd2).2 (fun b => by
    constructor
    · intro hb
      obtain ⟨i, hi⟩ := List.getElem?_of_mem hb
      obtain ⟨r, hr, e1, _, e2⟩ := H.hrec i b hi
      exact List.mem_map.2 ⟨r, List.mem_filter.2 ⟨hr, by simpa using e2⟩, e1⟩
    · intro hb
      obtain ⟨r, hr, rfl⟩ := List.mem_map.1 hb
      obtain ⟨h1, h2⟩ := List.mem_filter.1 hr
      exact H.hact r h1 (by simpa using h2))
  rw [hp.length_eq, List.length_map]
  show _ = ((s.recs.map Rec.tx).filter _).length
  rw [List.filter_map, List.length_map]
  rfl

section
variable {w W W' : World} {s s' : Sto} {m m' : MRef} {M M' : MW} {sd N : Nat}

theorem Lg.same (L : Lg s m M N) (hN : N + 1 ≤ 2097152) : Lg s m M (N + 1) := L.next hN L.is (L.inv.mono (by omega)) (L.bd.mono (by omega))

theorem both_look (T : Two w W s m M sd) (L : Lg s m M N) (hN : N + 1 ≤ 2097152) (h : Int) (hw : (Lit.int .i64 h).wf = true) :
    ∃ b i o r x e, Both w W s m M sd N 23 #[.pointer (some ⟨s.sb, 0, none⟩), .int .i64 h] 128 #[.pointer (some ⟨m.sb, 0, none⟩), .int .i64 h] (.tuple #[.agg #[.int .i64 b, .bool i, .bool o, .int .i64 r, .int .i64 x], .int .i64 e]) := by
  have hl := L.len
  have hn0 := L.n
  refine ⟨(s.abs.lookR h).1.1, (s.abs.lookR h).1.2.1, (s.abs.lookR h).1.2.2.1, (s.abs.lookR h).1.2.2.2.1, (s.abs.lookR h).1.2.2.2.2, (s.abs.lookR h).2, fun W1 q1 => ?_⟩
  have T1 := T.still q1
  refine (look_api T1.st T1.mu h hw).mono fun e W2 ⟨e1, t⟩ => ⟨e1, s, T1.turnX t, rfl, t.keeps, fun W3 q3 => ?_⟩
  have T3 := (T1.turnX t).still q3
  rcases L.act h with ⟨ha, hn⟩ | ⟨i, k, rfl, hk, h0, hm, hh, hs⟩
  · have ea : s.abs.lookR h = ((0, false, false, 0, 0), 2) := by unfold Abs.lookR; rw [hn]
    refine (rLook_no T3.rf (by omega) h ha).mono fun e W4 ⟨f1, f2⟩ => ?_
    exact ⟨by rw [f1, ea], m, T3.still f2, rfl, ⟨f2.mono (fun _ h => h.elim), fun _ => rfl⟩, L.same hN⟩
  · have ea : s.abs.lookR ((i : Int) + 1) = ((k.bg, decide (0 < k.i), decide (0 < k.o), (k.rd.length : Int), (k.wr.length : Int)), 0) := by unfold Abs.lookR; rw [hs]; rfl
    refine (rLook_yes T3.rf (by omega) hk h0).mono fun e W4 ⟨f1, f2⟩ => ?_
    exact ⟨by rw [f1, ea], m, T3.still f2, rfl, ⟨f2.mono (fun _ h => h.elim), fun _ => rfl⟩, L.same hN⟩

theorem both_told (T : Two w W s m M sd) (L : Lg s m M N) (hN : N + 1 ≤ 2097152) :
    ∃ c a k r v, Both w W s m M sd N 19 #[.pointer (some ⟨s.sb, 0, none⟩)] 113 #[.pointer (some ⟨m.sb, 0, none⟩)] (.agg #[.int .i64 c, .int .i64 a, .int .i64 k, .int .i64 r, .int .i64 v]) := by
  have hl := L.len
  have hv := L.vers
  have hr := L.reads
  have hn0 := L.n
  refine ⟨s.abs.clock, s.hl.length, (s.abs.txs.length : Int) - s.hl.length, s.abs.nReads, (totV s.abs.vers : Nat), fun W1 q1 => ?_⟩
  have T1 := T.still q1
  refine (told_api T1.st T1.mu L.inv).mono fun e W2 ⟨e1, t⟩ => ⟨e1, s, T1.turnX t, rfl, t.keeps, fun W3 q3 => ?_⟩
  have T3 := (T1.turnX t).still q3
  obtain ⟨tag, R3⟩ := T3.rf
  refine (rtold_h R3 (by omega) (by omega) (by omega)).mono fun e W4 ⟨f1, f2⟩ => ?_
  have ha : s.hl.length = m.rs.nAct := (hl_len T3.st).trans L.is.nAct
  have ht := L.is.nTxs
  have e1 : s.abs.clock = m.clock := L.is.clock
  have e2 : totV s.abs.vers = m.vers.length := L.is.tot
  have e3 := L.is.nReads
  have e4 : ((s.abs.txs.length : Int) - (s.hl.length : Int)) = m.rs.nKept := by omega
  exact ⟨by rw [f1, e4, e1, e2, e3, ha], m, T3.still f2, rfl, ⟨f2.mono (fun _ h => h.elim), fun _ => rfl⟩, L.same hN⟩

/-- the two Writes, one behind the other -/
def BothWrite (w W : World) (s : Sto) (m : MRef) (M : MW) (sd N : Nat) (h : Int) (v u : Value) : Prop :=
  ∃ er, ∀ W1, Quiet W W1 → Calls Tryz.prog 27 #[.pointer (some ⟨s.sb, 0, none⟩), .int .i64 h, v] W1 fun e W2 => e = .returned (.int .i64 er) ∧ ∃ s', Two w W2 s' m M sd ∧ s'.sb = s.sb ∧ Keeps (fun b => b ∈ s.foot) W1 W2 ∧ (∀ b ∈ s'.foot, b ∈ s.foot ∨ W1.heap.size ≤ b) ∧
    ∀ W3, Quiet W2 W3 → Calls Tryz.prog 121 #[.pointer (some ⟨m.sb, 0, none⟩), .int .i64 h, u] W3 fun e W4 => e = .returned (.int .i64 er) ∧ ∃ m', Two w W4 s' m' M sd ∧ m'.sb = m.sb ∧ Keeps m.has W3 W4 ∧ (∀ b, m'.has b → m.has b ∨ W3.heap.size ≤ b) ∧ Lg s' m' M (N + 1)

theorem both_write (T : Two w W s m M sd) (L : Lg s m M N) (hN : N + 1 ≤ 2097152) (h : Int) (hw : (Lit.int .i64 h).wf = true) (v u : Value) (cs : List Chg) (hcv : ChAt W v cs) (hcu : ChAt w u cs) (hap : ∀ b, heldBlock v = some b → b ∉ s.foot) (hcl : cs.length ≤ 1048576) : BothWrite w W s m M sd N h v u := by
  have hl := L.len
  have hv := L.vers
  have hc := L.cfg
  have hn0 := L.n
  refine ⟨(s.abs.writeR h cs).1, fun W1 q1 => ?_⟩
  have T1 := T.still q1
  refine (write_api T1.st T1.mu L.inv h hw v cs (hcv.quiet q1) hap).mono fun e W2 ⟨s', e1, t, e2⟩ => ⟨e1, s', T1.turnX t, t.sb, t.keeps, t.foot, fun W3 q3 => ?_⟩
  have T3 := (T1.turnX t).still q3
  have hcu3 := hcu.quiet T3.quiet
  rcases L.act h with ⟨ha, hn⟩ | ⟨i, k, rfl, hk, h0, hm, hh, hs⟩
  · have ea : s.abs.writeR h cs = (2, s.abs) := by unfold Abs.writeR; rw [hn]
    obtain ⟨⟨a, cap, eu, -⟩, -⟩ := id hcu
    refine (rWrite_no T3.rf (by omega) h u ⟨_, _, _, eu⟩ ha).mono fun e W4 ⟨f1, f2⟩ => ?_
    subst f2
    exact ⟨by rw [f1, ea], m, T3, rfl, Keeps.refl _ _, fun b hb => .inl hb, L.next hN (by rw [e2, ea]; exact L.is) (by rw [e2, ea]; exact L.inv.mono (by omega)) (L.bd.mono (by omega))⟩
  · obtain ⟨a1, a2⟩ := L.is.writeR L.inv hm h0 cs
    rw [hh] at a1 a2
    have hwnd : (k.wr.map (·.1)).Nodup := L.inv.wnd k.tx (L.is.mem hm (by simp [RTx.live, h0]))
    refine (rWrite_yes T3.rf L.bd (by omega) (by omega) (by omega) hk h0 hwnd u cs hcu3 hcl).mono fun e W4 ⟨f1, f2⟩ => ?_
    obtain ⟨m', g1, g2, em⟩ := f2
    exact ⟨by rw [f1, a1], m', T3.turnY g1 g2, g2.sb, g2.keeps, g2.fresh, L.next hN (by rw [e2, em]; exact a2) (by rw [e2]; exact (L.inv.writeR _ _).mono (by omega)) (by rw [em]; exact L.bd.writeR hm hc.2.1 cs)⟩

theorem sub_len' : ∀ (l K : List ByteArray), l.Nodup → (∀ x ∈ l, x ∈ K) → l.length ≤ K.length
  | [], K, _, _ => Nat.zero_le _
  | x :: l, K, hn, hs => by
    obtain ⟨h1, h2⟩ := List.nodup_cons.1 hn
    have hx := hs x (List.mem_cons_self ..)
    have h3 := sub_len' l (K.filter fun y => decide (y ≠ x)) h2 (fun y hy => List.mem_filter.2 ⟨hs y (List.mem_cons_of_mem _ hy), by simpa using fun e : y = x => h1 (e ▸ hy)⟩)
    have h4 : (K.filter fun y => decide (y ≠ x)).length < K.length := List.length_filter_lt_length_iff_exists.2 ⟨x, hx, by simp⟩
    simp only [List.length_cons]
    omega

theorem RScan.len {R : RSt} {k : RTx} {e : Ent} {l : Tab} (S : RScan R k e l) : l.length ≤ (R.keysOf k).length := by
  have hnd : (l.map (·.1)).Nodup := by
    unfold List.Nodup
    rw [List.pairwise_map]
    exact S.sorted.imp fun h => h.2
  have := sub_len' (l.map (·.1)) (R.keysOf k) hnd (fun x hx => by
    obtain ⟨p, hp, rfl⟩ := List.mem_map.1 hx
    refine Classical.byContradiction fun h => ?_
    have h1 := R.seen_none k h
    have h2 := ((S.mem p.1 p.2).1 hp).2
    rw [h2] at h1
    cases h1)
  rw [List.length_map] at this
  exact this

theorem RefIs.rscan' {a : Abs} {R : RSt} {k : RTx} (E : RefIs a R) {n : Int} (I : a.Inv n) {e : Ent} {l : Tab} (S : ScanIs a k.tx e l) : RScan R k e l := by
  refine ⟨S.sorted, fun key v => ?_⟩
  rw [S.mem]
  unfold RSt.seen Abs.content
  show _ ∧ (look k.wr key).getD _ = _ ↔ _
  cases look k.wr key with
  | some c =>
    simp only [Option.getD_some, Prod.mk.injEq]
    constructor
    · rintro ⟨h1, rfl⟩; exact ⟨h1, rfl, rfl⟩
    · rintro ⟨h1, h2, h3⟩; exact ⟨h1, by rw [← h2]; exact Prod.ext rfl (by simpa using h3)⟩
  | none =>
    simp only [Option.getD_none]
    rw [E.sees I]
    simp only [Prod.mk.injEq]
    constructor
    · rintro ⟨h1, h2⟩
      have h2' : snap (a.vs key) k.bg = (v, false) := h2
      rw [h2']; exact ⟨h1, rfl, rfl⟩
    · rintro ⟨h1, h2, h3⟩
      have h3' : (snap (a.vs key) k.bg).2 = false := by simpa using h3
      exact ⟨h1, by rw [← h2]; exact Prod.ext rfl h3'⟩

/-- the two Scans, one behind the other, tell the same list -/
def BothScan (w W : World) (s : Sto) (m : MRef) (M : MW) (sd N : Nat) (h : Int) (lo hi : ByteArray) : Prop :=
  ∃ er, ∀ W1, Quiet W W1 → Calls Tryz.prog 41 #[.pointer (some ⟨s.sb, 0, none⟩), .int .i64 h, .string lo, .string hi] W1 fun e W2 => ∃ v l, e = .returned (.tuple #[v, .int .i64 er]) ∧ l.length ≤ 1048592 ∧ PrSl W1.heap.size W2 v l ∧ ∃ s', (∀ b, v.ownBlock = some b → b ∉ s'.foot) ∧ Two w W2 s' m M sd ∧ s'.sb = s.sb ∧ Keeps (fun b => b ∈ s.foot) W1 W2 ∧
    ∀ W3, Quiet W2 W3 → Calls Tryz.prog 118 #[.pointer (some ⟨m.sb, 0, none⟩), .int .i64 h, .string lo, .string hi] W3 fun e W4 => ∃ u, e = .returned (.tuple #[u, .int .i64 er]) ∧ PrAt W4 u l ∧ ∃ m', Two w W4 s' m' M sd ∧ m'.sb = m.sb ∧ Keeps m.has W3 W4 ∧ (∀ b, m'.has b → m.has b ∨ W3.heap.size ≤ b) ∧ Lg s' m' M (N + 1)

theorem both_scan (T : Two w W s m M sd) (L : Lg s m M N) (hN : N + 1 ≤ 2097152) (h : Int) (hw : (Lit.int .i64 h).wf = true) (lo hi : ByteArray) : BothScan w W s m M sd N h lo hi := by
  have hl := L.len
  have hv := L.vers
  have hr := L.reads
  have hc := L.cfg
  have hn0 := L.n
  rcases L.act h with ⟨ha, hn⟩ | ⟨i, k, rfl, hk, h0, hm, hh, hs⟩
  · have ea : s.abs.scanR h lo hi = ((2, none), s.abs) := by unfold Abs.scanR; rw [hn]
    refine ⟨2, fun W1 q1 => ?_⟩
    have T1 := T.still q1
    refine (scan_api' T1.st T1.mu L.inv h hw lo hi).mono fun e W2 ⟨v, s', l, e1, t, e2, e3, e4, e5⟩ => ?_
    have el : l = [] := e4.no (by rw [ea])
    subst el
    refine ⟨v, [], by rw [e1, ea], by simp, e3, s', e5, T1.turnX t, t.sb, t.keeps, fun W3 q3 => ?_⟩
    have T3 := (T1.turnX t).still q3
    refine (rScan_no T3.rf (by omega) h lo hi ha).mono fun e W4 ⟨f1, f2⟩ => ?_
    subst f2
    exact ⟨_, f1, PrAt.nil _, m, T3, rfl, Keeps.refl _ _, fun b hb => .inl hb, L.next hN (by rw [e2, ea]; exact L.is) (by rw [e2, ea]; exact L.inv.mono (by omega)) (L.bd.mono (by omega))⟩
  · have key : (s.abs.scanR ((i : Int) + 1) lo hi).1.1 = (m.rs.scanR k lo hi).1 ∧ RefIs (s.abs.scanR ((i : Int) + 1) lo hi).2 (m.rs.scanR k lo hi).2 ∧ RBd (m.rs.scanR k lo hi).2 ((N : Int) * 2097152 + m.rs.txs.length + 1) ∧ ((m.rs.scanR k lo hi).1 ≠ 0 → (s.abs.scanR ((i : Int) + 1) lo hi).1.2 = none) ∧ ((m.rs.scanR k lo hi).1 = 0 → (s.abs.scanR ((i : Int) + 1) lo hi).1.2 = some k.tx) := by
      unfold Abs.scanR RSt.scanR
      rw [hs]
      simp only
      by_cases hrg : rangeE lo hi ≠ 0
      · rw [if_pos hrg, if_pos hrg]
        exact ⟨rfl, L.is, L.bd.mono (by omega), fun _ => rfl, fun h => absurd h hrg⟩
      · rw [if_neg hrg, if_neg hrg]
        obtain ⟨a1, a2⟩ := L.is.readR hm h0 (rangeEnt lo hi)
        have a3 := L.bd.readR hm h0 hc.1.2 (rangeEnt lo hi)
        by_cases hz : (s.abs.readR k.tx (rangeEnt lo hi)).1 = 0
        · rw [if_pos hz]
          exact ⟨by rw [← a1, hz], a2, a3, fun h => absurd (a1.symm.trans hz) h, fun _ => rfl⟩
        · rw [if_neg hz]
          exact ⟨a1, a2, a3, fun _ => rfl, fun h => absurd (a1.trans h) hz⟩
    obtain ⟨k1, k2, k3, k4, k5⟩ := key
    by_cases her : (m.rs.scanR k lo hi).1 = 0
    · -- the list is the same, whoever tells it
      have hX : ∀ l l', ScanAns s.abs (s.abs.scanR ((i : Int) + 1) lo hi) (rangeEnt lo hi) l → RScan m.rs k (rangeEnt lo hi) l' → l = l' := fun l l' h1 h2 => (h1.yes _ (k5 her)).eq (L.is.rscan L.inv h2) (fun _ => rfl)
      have hkl : (m.rs.keysOf k).length ≤ 1048592 := by
        have hwl := L.bd.wl k hm
        unfold RSt.keysOf
        rw [List.length_append, List.length_map, List.length_map]
        have : m.rs.vers.length = m.vers.length := rfl
        omega
      refine ⟨0, fun W1 q1 => ?_⟩
      have T1 := T.still q1
      refine (scan_api' T1.st T1.mu L.inv _ hw lo hi).mono fun e W2 ⟨v, s', l, e1, t, e2, e3, e4, e5⟩ => ?_
      have hRS := L.is.rscan' L.inv (e4.yes _ (k5 her))
      have hlen0 := hRS.len
      refine ⟨v, l, by rw [e1, k1, her], by omega, e3, s', e5, T1.turnX t, t.sb, t.keeps, fun W3 q3 => ?_⟩
      have T3 := (T1.turnX t).still q3
      refine (rScan_yes T3.rf L.bd (by omega) (by omega) hk h0 lo hi (fun W q => reads_h (T3.rf.quiet q) L.bd (by omega) (by omega) (by omega) (by omega) hk h0 true lo hi)).mono fun e W4 ⟨u, l2, f1, f2, f3, f4, f5⟩ => ?_
      obtain rfl := hX l l2 e4 (f5 her)
      obtain ⟨m', g1, g2, g3⟩ := f2
      exact ⟨u, by rw [f1, her], f3, m', T3.turnY g1 g2, g2.sb, g2.keeps, g2.fresh, L.next hN (by rw [e2, g3]; exact k2) (by rw [e2]; exact (L.inv.scanR _ _ _).mono (by omega)) (by rw [g3]; exact k3)⟩
    · refine ⟨(m.rs.scanR k lo hi).1, fun W1 q1 => ?_⟩
      have T1 := T.still q1
      refine (scan_api' T1.st T1.mu L.inv _ hw lo hi).mono fun e W2 ⟨v, s', l, e1, t, e2, e3, e4, e5⟩ => ?_
      have el : l = [] := e4.no (k4 her)
      subst el
      refine ⟨v, [], by rw [e1, k1], by simp, e3, s', e5, T1.turnX t, t.sb, t.keeps, fun W3 q3 => ?_⟩
      have T3 := (T1.turnX t).still q3
      refine (rScan_yes T3.rf L.bd (by omega) (by omega) hk h0 lo hi (fun W q => reads_h (T3.rf.quiet q) L.bd (by omega) (by omega) (by omega) (by omega) hk h0 true lo hi)).mono fun e W4 ⟨u, l2, f1, f2, f3, f4, f5⟩ => ?_
      have el2 := f4 her
      subst el2
      obtain ⟨m', g1, g2, g3⟩ := f2
      exact ⟨u, f1, f3, m', T3.turnY g1 g2, g2.sb, g2.keeps, g2.fresh, L.next hN (by rw [e2, g3]; exact k2) (by rw [e2]; exact (L.inv.scanR _ _ _).mono (by omega)) (by rw [g3]; exact k3)⟩

end
end Go.Proofs.YthfimgeopciiiaaGreat

/-
  The law's asks.
-/
namespace Go.Proofs.YthfimgeopciiiaaGreat
open Go.MapKept Go.ChangeMaps Go.Maps Go.RowKit Go.MuLone
set_option linter.unusedVariables false

/-- a step's fields -/
structure OpV where
  kind : Int
  h : Int
  key : ByteArray
  hi : ByteArray
  la : Option Addr
  ll : Nat
  lc : Nat
  pa : Option Addr
  pl : Nat
  pc : Nat
  ta : Option Addr
  tl : Nat
  tc : Nat
  which : Bool

def OpV.cells (o : OpV) : Array Value := #[.int .i64 o.kind, .int .i64 o.h, .string o.key, .string o.hi, .slice o.la o.ll o.lc, .slice o.pa o.pl o.pc, .slice o.ta o.tl o.tc, .bool o.which]

/-- behind a step -/
def Stepped (w W' : World) (s : Sto) (m : MRef) (M : MW) (sd N : Nat) : Prop := ∃ s' m' M', Two w W' s' m' M' sd ∧ s'.sb = s.sb ∧ m'.sb = m.sb ∧ M'.wb = M.wb ∧ M'.sv = M.sv ∧ Lg s' m' M' (N + 1)

/-- behind what asks does: no transaction has been begun -/
def Asked (w W' : World) (s : Sto) (m : MRef) (M : MW) (sd N : Nat) : Prop := ∃ s' m' M', Two w W' s' m' M' sd ∧ s'.sb = s.sb ∧ m'.sb = m.sb ∧ M'.wb = M.wb ∧ M'.sv = M.sv ∧ Lg s' m' M' (N + 1) ∧ m'.txs.length = m.txs.length

theorem Asked.stepped {w W' : World} {s : Sto} {m : MRef} {M : MW} {sd N : Nat} : Asked w W' s m M sd N → Stepped w W' s m M sd N := fun ⟨s', m', M', h1, h2, h3, h4, h5, h6, _⟩ => ⟨s', m', M', h1, h2, h3, h4, h5, h6⟩

section
variable {w W : World} {s : Sto} {m : MRef} {M : MW} {sd N : Nat}

theorem Two.foot_lt (T : Two w W s m M sd) : ∀ b ∈ s.foot, b < W.heap.size := T.st.lt

/-- the first of two calls has been: the side, and another's block -/
theorem Two.side (T : Two w W s m M sd) : W.cell? ⟨sd, 0, none⟩ = some (.pointer (some ⟨s.sb, 0, none⟩)) ∧ W.cell? ⟨sd, 1, none⟩ = some (.pointer (some ⟨m.sb, 0, none⟩)) ∧ sd < W.heap.size :=
  ⟨by rw [cell_of_heap T.sd_at]; rfl, by rw [cell_of_heap T.sd_at]; rfl, lt_of_heap T.sd_at⟩

set_option maxRecDepth 100000 in
set_option maxHeartbeats 4000000 in
theorem asks_other (T : Two w W s m M sd) (L : Lg s m M N) (hN : N + 1 ≤ 2097152) (o : OpV) (h5 : o.kind ≠ 5) (h6 : o.kind ≠ 6) (h8 : o.kind ≠ 8) (h9 : o.kind ≠ 9) :
    Calls Tryz.prog 74 #[.pointer (some ⟨sd, 0, none⟩), .agg o.cells] W fun e W' => e = .returned (.bool true) ∧ Asked w W' s m M sd N := by
  have HF : Hid (Asked w (W.alloc (.cells o.cells 106)) s m M sd N) := ⟨s, m, M, T.still (Keeps.alloc _ _), rfl, rfl, rfl, rfl, L.same hN, rfl⟩
  have k5 : (o.kind == 5) = false := by simpa using h5
  have k6 : (o.kind == 6) = false := by simpa using h6
  have k8 : (o.kind == 8) = false := by simpa using h8
  have k9 : (o.kind == 9) = false := by simpa using h9
  unfold OpV.cells at HF ⊢
  clear T L
  go_enter Tryz.func74, Tryz.ntmps74
  go_wp2
  go_ret
  exact ⟨rfl, HF.out⟩

set_option maxRecDepth 100000 in
set_option maxHeartbeats 8000000 in
theorem asks_commit (T : Two w W s m M sd) (L : Lg s m M N) (hN : N + 1 ≤ 2097152) (o : OpV) (hw : (Lit.int .i64 o.h).wf = true) (h5 : o.kind = 5) :
    Calls Tryz.prog 74 #[.pointer (some ⟨sd, 0, none⟩), .agg o.cells] W fun e W' => e = .returned (.bool true) ∧ Asked w W' s m M sd N := by
  obtain ⟨er, hB⟩ := both_commit T L hN o.h hw
  obtain ⟨ki, h, key, hi, la, ll, lc, pa, pl, pc, ta, tl, tc, wh⟩ := o
  simp only at h5 hB
  subst h5
  unfold OpV.cells
  simp only
  have hqb : Quiet W (W.alloc (.cells #[.int .i64 5, .int .i64 h, .string key, .string hi, .slice la ll lc, .slice pa pl pc, .slice ta tl tc, .bool wh] 106)) := Keeps.alloc _ _
  have hbb : (W.alloc (.cells #[.int .i64 5, .int .i64 h, .string key, .string hi, .slice la ll lc, .slice pa pl pc, .slice ta tl tc, .bool wh] 106)).heap[W.heap.size]? = some (.cells #[.int .i64 5, .int .i64 h, .string key, .string hi, .slice la ll lc, .slice pa pl pc, .slice ta tl tc, .bool wh] 106) := heap_alloc_new _ _
  have hfl := T.foot_lt
  obtain ⟨d0, -, hsd⟩ := T.side
  have hsd' := Nat.ne_of_lt hsd
  have HX : Hid (∀ W1, Quiet (W.alloc (.cells #[.int .i64 5, .int .i64 h, .string key, .string hi, .slice la ll lc, .slice pa pl pc, .slice ta tl tc, .bool wh] 106)) W1 → Calls Tryz.prog 25 #[.pointer (some ⟨s.sb, 0, none⟩), .int .i64 h] W1 fun e W2 => e = .returned (.int .i64 er) ∧ W2.cell? ⟨sd, 1, none⟩ = some (.pointer (some ⟨m.sb, 0, none⟩)) ∧ W2.cell? ⟨W.heap.size, 1, none⟩ = some (.int .i64 h) ∧ Hid (∀ W3, Quiet W2 W3 → Calls Tryz.prog 126 #[.pointer (some ⟨m.sb, 0, none⟩), .int .i64 h] W3 fun e W4 => e = .returned (.int .i64 er) ∧ Asked w W4 s m M sd N)) := fun W1 q1 => by
    have hbl := (q1.block _ (lt_of_heap hbb) id).trans hbb
    refine (hB W1 (Quiet.trans' hqb q1)).mono fun e W2 ⟨e1, s', T2, hsb, hk, hY⟩ => ⟨e1, T2.side.2.1, ?_, fun W3 q3 => (hY W3 q3).mono fun e W4 ⟨f1, m', T4, f2, f5, f3⟩ => ⟨f1, s', m', M, T4, hsb, f2, rfl, rfl, f3, f5.2 (by decide)⟩⟩
    have hb2 := (hk.block W.heap.size (lt_of_heap hbl) (fun hf => by have := hfl _ hf; omega)).trans hbl
    rw [cell_of_heap hb2]; rfl
  clear T L hB hbb
  go_enter Tryz.func74, Tryz.ntmps74
  go_wp2
  go_region_with (go_at_call 25; refine (HX.out _ (by repeat (first | assumption | exact Keeps.refl _ _ | refine Quiet.trans' ?_ (Keeps.drew _)))).mono ?_; rintro e W2 ⟨rfl, g1, g2, HY⟩)
  all_goals
    clear HX d0
    go_wp2
    go_region_with (go_at_call 126; refine (HY.out _ (by repeat (first | assumption | exact Keeps.refl _ _ | refine Quiet.trans' ?_ (Keeps.drew _)))).mono ?_; rintro e W4 ⟨rfl, hS⟩)
    all_goals
      go_wp2
      go_ret
      exact ⟨rfl, hS⟩

set_option maxRecDepth 100000 in
set_option maxHeartbeats 8000000 in
theorem asks_abort (T : Two w W s m M sd) (L : Lg s m M N) (hN : N + 1 ≤ 2097152) (o : OpV) (hw : (Lit.int .i64 o.h).wf = true) (h5 : o.kind = 6) :
    Calls Tryz.prog 74 #[.pointer (some ⟨sd, 0, none⟩), .agg o.cells] W fun e W' => e = .returned (.bool true) ∧ Asked w W' s m M sd N := by
  obtain ⟨er, hB⟩ := both_abort T L hN o.h hw
  obtain ⟨ki, h, key, hi, la, ll, lc, pa, pl, pc, ta, tl, tc, wh⟩ := o
  simp only at h5 hB
  subst h5
  unfold OpV.cells
  simp only
  have hqb : Quiet W (W.alloc (.cells #[.int .i64 6, .int .i64 h, .string key, .string hi, .slice la ll lc, .slice pa pl pc, .slice ta tl tc, .bool wh] 106)) := Keeps.alloc _ _
  have hbb : (W.alloc (.cells #[.int .i64 6, .int .i64 h, .string key, .string hi, .slice la ll lc, .slice pa pl pc, .slice ta tl tc, .bool wh] 106)).heap[W.heap.size]? = some (.cells #[.int .i64 6, .int .i64 h, .string key, .string hi, .slice la ll lc, .slice pa pl pc, .slice ta tl tc, .bool wh] 106) := heap_alloc_new _ _
  have hfl := T.foot_lt
  obtain ⟨d0, -, hsd⟩ := T.side
  have hsd' := Nat.ne_of_lt hsd
  have HX : Hid (∀ W1, Quiet (W.alloc (.cells #[.int .i64 6, .int .i64 h, .string key, .string hi, .slice la ll lc, .slice pa pl pc, .slice ta tl tc, .bool wh] 106)) W1 → Calls Tryz.prog 42 #[.pointer (some ⟨s.sb, 0, none⟩), .int .i64 h] W1 fun e W2 => e = .returned (.int .i64 er) ∧ W2.cell? ⟨sd, 1, none⟩ = some (.pointer (some ⟨m.sb, 0, none⟩)) ∧ W2.cell? ⟨W.heap.size, 1, none⟩ = some (.int .i64 h) ∧ Hid (∀ W3, Quiet W2 W3 → Calls Tryz.prog 127 #[.pointer (some ⟨m.sb, 0, none⟩), .int .i64 h] W3 fun e W4 => e = .returned (.int .i64 er) ∧ Asked w W4 s m M sd N)) := fun W1 q1 => by
    have hbl := (q1.block _ (lt_of_heap hbb) id).trans hbb
    refine (hB W1 (Quiet.trans' hqb q1)).mono fun e W2 ⟨e1, s', T2, hsb, hk, hY⟩ => ⟨e1, T2.side.2.1, ?_, fun W3 q3 => (hY W3 q3).mono fun e W4 ⟨f1, m', T4, f2, f5, f3⟩ => ⟨f1, s', m', M, T4, hsb, f2, rfl, rfl, f3, f5.2 (by decide)⟩⟩
    have hb2 := (hk.block W.heap.size (lt_of_heap hbl) (fun hf => by have := hfl _ hf; omega)).trans hbl
    rw [cell_of_heap hb2]; rfl
  clear T L hB hbb
  go_enter Tryz.func74, Tryz.ntmps74
  go_wp2
  go_region_with (go_at_call 42; refine (HX.out _ (by repeat (first | assumption | exact Keeps.refl _ _ | refine Quiet.trans' ?_ (Keeps.drew _)))).mono ?_; rintro e W2 ⟨rfl, g1, g2, HY⟩)
  all_goals
    clear HX d0
    go_wp2
    go_region_with (go_at_call 127; refine (HY.out _ (by repeat (first | assumption | exact Keeps.refl _ _ | refine Quiet.trans' ?_ (Keeps.drew _)))).mono ?_; rintro e W4 ⟨rfl, hS⟩)
    all_goals
      go_wp2
      go_ret
      exact ⟨rfl, hS⟩

set_option maxRecDepth 100000 in
set_option maxHeartbeats 8000000 in
theorem asks_told (T : Two w W s m M sd) (L : Lg s m M N) (hN : N + 1 ≤ 2097152) (o : OpV) (h9 : o.kind = 9) :
    Calls Tryz.prog 74 #[.pointer (some ⟨sd, 0, none⟩), .agg o.cells] W fun e W' => e = .returned (.bool true) ∧ Asked w W' s m M sd N := by
  obtain ⟨cc, ca, ck, cr, cv, hB⟩ := both_told T L hN
  obtain ⟨ki, h, key, hi, la, ll, lc, pa, pl, pc, ta, tl, tc, wh⟩ := o
  simp only at h9
  subst h9
  unfold OpV.cells
  simp only
  have hqb : Quiet W (W.alloc (.cells #[.int .i64 9, .int .i64 h, .string key, .string hi, .slice la ll lc, .slice pa pl pc, .slice ta tl tc, .bool wh] 106)) := Keeps.alloc _ _
  obtain ⟨d0, -, hsd⟩ := T.side
  have hsd' := Nat.ne_of_lt hsd
  have HX : Hid (∀ W1, Quiet (W.alloc (.cells #[.int .i64 9, .int .i64 h, .string key, .string hi, .slice la ll lc, .slice pa pl pc, .slice ta tl tc, .bool wh] 106)) W1 → Calls Tryz.prog 19 #[.pointer (some ⟨s.sb, 0, none⟩)] W1 fun e W2 => e = .returned (.agg #[.int .i64 cc, .int .i64 ca, .int .i64 ck, .int .i64 cr, .int .i64 cv]) ∧ W2.cell? ⟨sd, 1, none⟩ = some (.pointer (some ⟨m.sb, 0, none⟩)) ∧ sd < W2.heap.size ∧ Hid (∀ W3, Quiet W2 W3 → Calls Tryz.prog 113 #[.pointer (some ⟨m.sb, 0, none⟩)] W3 fun e W4 => e = .returned (.agg #[.int .i64 cc, .int .i64 ca, .int .i64 ck, .int .i64 cr, .int .i64 cv]) ∧ Hid (∀ b, W2.heap.size ≤ b → b < W3.heap.size → W4.heap[b]? = W3.heap[b]?) ∧ Hid (∀ W5, Quiet W4 W5 → Asked w W5 s m M sd N))) := fun W1 q1 => by
    refine (hB W1 (Quiet.trans' hqb q1)).mono fun e W2 ⟨e1, s', T2, hsb, hk, hY⟩ => ⟨e1, T2.side.2.1, T2.side.2.2, fun W3 q3 => (hY W3 q3).mono fun e W4 ⟨f1, m', T4, f2, f4, f3⟩ => ⟨f1, fun b h1 h2 => f4.1.block b h2 (fun hm => by have := (T2.rf.lt hm).2; omega), fun W5 q5 => ⟨s', m', M, T4.still q5, hsb, f2, rfl, rfl, f3, f4.2 (by decide)⟩⟩⟩
  clear T L hB
  go_enter Tryz.func74, Tryz.ntmps74
  go_wp2_with (first
    | (go_at_call 19; refine (HX.out _ (Keeps.refl _ _)).mono ?_; rintro e W2 ⟨rfl, g1, g3, HY⟩; have g3' := Nat.ne_of_lt g3; clear HX)
    | (go_at_call 113; refine (HY.out _ (Keeps.alloc _ _)).mono ?_; rintro e W4 ⟨rfl, hK, hS⟩; have hb4 : W4.heap[W2.heap.size]? = some (.cells #[.int .i64 cc, .int .i64 ca, .int .i64 ck, .int .i64 cr, .int .i64 cv] 50) := (hK.out W2.heap.size (Nat.le_refl _) (by simp)).trans (heap_alloc_new W2 _); have x0 : W4.cell? ⟨W2.heap.size, 0, none⟩ = some (.int .i64 cc) := (by rw [cell_of_heap hb4]; rfl); have x1 : W4.cell? ⟨W2.heap.size, 1, none⟩ = some (.int .i64 ca) := (by rw [cell_of_heap hb4]; rfl); have x2 : W4.cell? ⟨W2.heap.size, 2, none⟩ = some (.int .i64 ck) := (by rw [cell_of_heap hb4]; rfl); have x3 : W4.cell? ⟨W2.heap.size, 3, none⟩ = some (.int .i64 cr) := (by rw [cell_of_heap hb4]; rfl); have x4 : W4.cell? ⟨W2.heap.size, 4, none⟩ = some (.int .i64 cv) := (by rw [cell_of_heap hb4]; rfl); have hl4 := lt_of_heap hb4; have hl5 := Nat.ne_of_lt hl4; clear hb4 HY hK))
  go_ret
  exact ⟨rfl, hS.out _ (Keeps.alloc _ _)⟩

end
end Go.Proofs.YthfimgeopciiiaaGreat

/-
  The law's step: Begin, Get, Cleanup, and what asks does.
-/
namespace Go.Proofs.YthfimgeopciiiaaGreat
open Go.MapKept Go.ChangeMaps Go.Maps Go.RowKit Go.MuLone
set_option linter.unusedVariables false

section
variable {w W : World} {s : Sto} {m : MRef} {M : MW} {sd N : Nat}

set_option maxRecDepth 100000 in
set_option maxHeartbeats 8000000 in
theorem step_begin (T : Two w W s m M sd) (L : Lg s m M N) (hN : N + 1 ≤ 2097152) (o : OpV) (h1 : o.kind = 1) :
    Calls Tryz.prog 37 #[.pointer (some ⟨M.wb, 0, none⟩), .pointer (some ⟨sd, 0, none⟩), .agg o.cells] W fun e W' => e = .returned (.bool true) ∧ Stepped w W' s m M sd N := by
  obtain ⟨ea, er, hB⟩ := both_begin T L hN
  obtain ⟨ki, h, key, hi, la, ll, lc, pa, pl, pc, ta, tl, tc, wh⟩ := o
  simp only at h1
  subst h1
  unfold OpV.cells
  simp only
  have hqb : Quiet W (W.alloc (.cells #[.int .i64 1, .int .i64 h, .string key, .string hi, .slice la ll lc, .slice pa pl pc, .slice ta tl tc, .bool wh] 106)) := Keeps.alloc _ _
  obtain ⟨d0, -, hsd⟩ := T.side
  have hsd' := Nat.ne_of_lt hsd
  have HX : Hid (Calls Tryz.prog 26 #[.pointer (some ⟨s.sb, 0, none⟩)] (W.alloc (.cells #[.int .i64 1, .int .i64 h, .string key, .string hi, .slice la ll lc, .slice pa pl pc, .slice ta tl tc, .bool wh] 106)) fun e W2 => e = .returned (.tuple #[.int .i64 ea, .int .i64 er]) ∧ W2.cell? ⟨sd, 1, none⟩ = some (.pointer (some ⟨m.sb, 0, none⟩)) ∧ Hid (Calls Tryz.prog 68 #[.pointer (some ⟨m.sb, 0, none⟩)] W2 fun e W4 => e = .returned (.tuple #[.int .i64 ea, .int .i64 er]) ∧ Stepped w W4 s m M sd N)) := hidC (
    (hB _ hqb).mono fun e W2 ⟨e1, s', T2, hsb, hk, hY⟩ => ⟨e1, T2.side.2.1, (hY W2 (Keeps.refl _ _)).mono fun e W4 ⟨f1, m', T4, f2, _, f3⟩ => ⟨f1, s', m', M, T4, hsb, f2, rfl, rfl, f3⟩⟩)
  clear T L hB
  go_enter Tryz.func37, Tryz.ntmps37
  go_wp2_with (first
    | (go_at_call 26; refine HX.out.mono ?_; rintro e W2 ⟨rfl, g1, HY⟩; clear HX)
    | (go_at_call 68; refine HY.out.mono ?_; rintro e W4 ⟨rfl, hS⟩))
  go_ret
  exact ⟨rfl, hS⟩

set_option maxRecDepth 100000 in
set_option maxHeartbeats 8000000 in
theorem step_clean (T : Two w W s m M sd) (L : Lg s m M N) (hN : N + 1 ≤ 2097152) (o : OpV) (h1 : o.kind = 7) :
    Calls Tryz.prog 37 #[.pointer (some ⟨M.wb, 0, none⟩), .pointer (some ⟨sd, 0, none⟩), .agg o.cells] W fun e W' => e = .returned (.bool true) ∧ Stepped w W' s m M sd N := by
  have hB := both_clean T L hN
  obtain ⟨ki, h, key, hi, la, ll, lc, pa, pl, pc, ta, tl, tc, wh⟩ := o
  simp only at h1
  subst h1
  unfold OpV.cells
  simp only
  have hqb : Quiet W (W.alloc (.cells #[.int .i64 7, .int .i64 h, .string key, .string hi, .slice la ll lc, .slice pa pl pc, .slice ta tl tc, .bool wh] 106)) := Keeps.alloc _ _
  obtain ⟨d0, -, hsd⟩ := T.side
  have hsd' := Nat.ne_of_lt hsd
  have HX : Hid (Calls Tryz.prog 20 #[.pointer (some ⟨s.sb, 0, none⟩)] (W.alloc (.cells #[.int .i64 7, .int .i64 h, .string key, .string hi, .slice la ll lc, .slice pa pl pc, .slice ta tl tc, .bool wh] 106)) fun e W2 => e = .returned (.tuple #[]) ∧ W2.cell? ⟨sd, 1, none⟩ = some (.pointer (some ⟨m.sb, 0, none⟩)) ∧ Hid (Calls Tryz.prog 73 #[.pointer (some ⟨m.sb, 0, none⟩)] W2 fun e W4 => e = .returned (.tuple #[]) ∧ Stepped w W4 s m M sd N)) := hidC (
    (hB _ hqb).mono fun e W2 ⟨e1, s', T2, hsb, hk, hY⟩ => ⟨e1, T2.side.2.1, (hY W2 (Keeps.refl _ _)).mono fun e W4 ⟨f1, m', T4, f2, _, f3⟩ => ⟨f1, s', m', M, T4, hsb, f2, rfl, rfl, f3⟩⟩)
  clear T L hB
  go_enter Tryz.func37, Tryz.ntmps37
  go_wp2_with (first
    | (go_at_call 20; refine HX.out.mono ?_; rintro e W2 ⟨rfl, g1, HY⟩; clear HX)
    | (go_at_call 73; refine HY.out.mono ?_; rintro e W4 ⟨rfl, hS⟩))
  go_ret
  exact ⟨rfl, hS⟩

set_option maxRecDepth 100000 in
set_option maxHeartbeats 8000000 in
theorem step_get (T : Two w W s m M sd) (L : Lg s m M N) (hN : N + 1 ≤ 2097152) (o : OpV) (hw : (Lit.int .i64 o.h).wf = true) (h5 : o.kind = 2) :
    Calls Tryz.prog 37 #[.pointer (some ⟨M.wb, 0, none⟩), .pointer (some ⟨sd, 0, none⟩), .agg o.cells] W fun e W' => e = .returned (.bool true) ∧ Stepped w W' s m M sd N := by
  obtain ⟨gv, gf, er, hB⟩ := both_get T L hN o.h hw o.key
  obtain ⟨ki, h, key, hi, la, ll, lc, pa, pl, pc, ta, tl, tc, wh⟩ := o
  simp only at h5 hB
  subst h5
  unfold OpV.cells
  simp only
  have hqb : Quiet W (W.alloc (.cells #[.int .i64 2, .int .i64 h, .string key, .string hi, .slice la ll lc, .slice pa pl pc, .slice ta tl tc, .bool wh] 106)) := Keeps.alloc _ _
  have hbb : (W.alloc (.cells #[.int .i64 2, .int .i64 h, .string key, .string hi, .slice la ll lc, .slice pa pl pc, .slice ta tl tc, .bool wh] 106)).heap[W.heap.size]? = some (.cells #[.int .i64 2, .int .i64 h, .string key, .string hi, .slice la ll lc, .slice pa pl pc, .slice ta tl tc, .bool wh] 106) := heap_alloc_new _ _
  have hfl := T.foot_lt
  obtain ⟨d0, -, hsd⟩ := T.side
  have hsd' := Nat.ne_of_lt hsd
  have hml : ∀ b, m.has b → b < W.heap.size := fun b hb => (T.rf.lt hb).2
  have HX : Hid (∀ W1, Quiet (W.alloc (.cells #[.int .i64 2, .int .i64 h, .string key, .string hi, .slice la ll lc, .slice pa pl pc, .slice ta tl tc, .bool wh] 106)) W1 → Calls Tryz.prog 52 #[.pointer (some ⟨s.sb, 0, none⟩), .int .i64 h, .string key] W1 fun e W2 => e = .returned (.tuple #[.string gv, .bool gf, .int .i64 er]) ∧ W2.cell? ⟨sd, 0, none⟩ = some (.pointer (some ⟨s.sb, 0, none⟩)) ∧ W2.cell? ⟨sd, 1, none⟩ = some (.pointer (some ⟨m.sb, 0, none⟩)) ∧ W2.cell? ⟨W.heap.size, 1, none⟩ = some (.int .i64 h) ∧ W2.cell? ⟨W.heap.size, 2, none⟩ = some (.string key) ∧ Hid (∀ W3, Quiet W2 W3 → Calls Tryz.prog 69 #[.pointer (some ⟨m.sb, 0, none⟩), .int .i64 h, .string key] W3 fun e W4 => e = .returned (.tuple #[.string gv, .bool gf, .int .i64 er]) ∧ W4.cell? ⟨sd, 1, none⟩ = some (.pointer (some ⟨m.sb, 0, none⟩)) ∧ W4.cell? ⟨W.heap.size, 1, none⟩ = some (.int .i64 h) ∧ W4.cell? ⟨W.heap.size, 2, none⟩ = some (.string key) ∧ Hid (Stepped w W4 s m M sd N))) := fun W1 q1 => by
    have hbl := (q1.block _ (lt_of_heap hbb) id).trans hbb
    refine (hB W1 (Quiet.trans' hqb q1)).mono fun e W2 ⟨e1, s', T2, hsb, hk, hY⟩ => ?_
    have hb2 := (hk.block W.heap.size (lt_of_heap hbl) (fun hf => by have := hfl _ hf; omega)).trans hbl
    refine ⟨e1, by rw [T2.side.1, hsb], T2.side.2.1, by rw [cell_of_heap hb2]; rfl, by rw [cell_of_heap hb2]; rfl, fun W3 q3 => (hY W3 q3).mono fun e W4 ⟨f1, m', T4, f2, f5, f3⟩ => ?_⟩
    have hb3 := (q3.block _ (lt_of_heap hb2) id).trans hb2
    have hb4 := (f5.1.block W.heap.size (lt_of_heap hb3) (fun hf => by have := hml _ hf; omega)).trans hb3
    exact ⟨f1, by rw [T4.side.2.1, f2], by rw [cell_of_heap hb4]; rfl, by rw [cell_of_heap hb4]; rfl, s', m', M, T4, hsb, f2, rfl, rfl, f3⟩
  clear T L hB hbb hml
  go_enter Tryz.func37, Tryz.ntmps37
  go_wp2
  go_region_held3 (fun w' => w'.cell? ⟨sd, 0, none⟩ = some (.pointer (some ⟨s.sb, 0, none⟩)) ∧ w'.cell? ⟨W.heap.size, 1, none⟩ = some (.int .i64 h) ∧ w'.cell? ⟨W.heap.size, 2, none⟩ = some (.string key)) (go_keep)
    (first | (go_at_call 52; refine (HX.out _ (by repeat (first | assumption | exact Keeps.refl _ _ | refine Quiet.trans' ?_ (Keeps.drew _)))).mono ?_; rintro e W2 ⟨rfl, g0, g1, g2, g3, HY⟩))
  clear HX d0
  go_wp2
  go_region_held3 (fun w' => w'.cell? ⟨sd, 1, none⟩ = some (.pointer (some ⟨m.sb, 0, none⟩)) ∧ w'.cell? ⟨W.heap.size, 1, none⟩ = some (.int .i64 h) ∧ w'.cell? ⟨W.heap.size, 2, none⟩ = some (.string key)) (go_keep)
    (first | (go_at_call 69; refine (HY.out _ (by repeat (first | assumption | exact Keeps.refl _ _ | refine Quiet.trans' ?_ (Keeps.drew _)))).mono ?_; rintro e W4 ⟨rfl, f0, f1, f2, hS⟩))
  go_wp2
  go_ret
  exact ⟨rfl, hS.out⟩

set_option maxRecDepth 100000 in
set_option maxHeartbeats 4000000 in
/-- the other kinds, but for Scan, Write and Run -/
theorem step_asks (o : OpV) (h1 : o.kind ≠ 1) (h2 : o.kind ≠ 2) (h3 : o.kind ≠ 3) (h4 : o.kind ≠ 4) (h10 : o.kind ≠ 10) (h7 : o.kind ≠ 7) (Q : World → Prop)
    (hA : Calls Tryz.prog 74 #[.pointer (some ⟨sd, 0, none⟩), .agg o.cells] (W.alloc (.cells o.cells 106)) fun e W' => e = .returned (.bool true) ∧ Q W') :
    Calls Tryz.prog 37 #[.pointer (some ⟨M.wb, 0, none⟩), .pointer (some ⟨sd, 0, none⟩), .agg o.cells] W fun e W' => e = .returned (.bool true) ∧ Q W' := by
  have HA := hidC hA
  have k1 : (o.kind == 1) = false := by simpa using h1
  have k2 : (o.kind == 2) = false := by simpa using h2
  have k3 : (o.kind == 3) = false := by simpa using h3
  have k4 : (o.kind == 4) = false := by simpa using h4
  have k10 : (o.kind == 10) = false := by simpa using h10
  have k7 : (o.kind == 7) = false := by simpa using h7
  unfold OpV.cells at HA ⊢
  clear hA h1 h2 h3 h4 h10 h7
  go_enter Tryz.func37, Tryz.ntmps37
  go_wp2_with (go_at_call 74; refine HA.out.mono ?_; rintro e W2 ⟨rfl, hQ⟩)
  go_ret
  exact ⟨rfl, hQ⟩

end
end Go.Proofs.YthfimgeopciiiaaGreat
