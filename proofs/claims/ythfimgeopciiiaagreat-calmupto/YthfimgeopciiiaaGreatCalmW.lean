/-
  Calm: the calls, and the walk.
-/
import Derived.Test.YthfimgeopciiiaaGreatCalmP
import Derived.Test.YthfimgeopciiiaaGreatBookB
import Derived.Deep.CutRange
namespace Go.Proofs.YthfimgeopciiiaaGreat
open Go.MapKept Go.ChangeMaps Go.Maps Go.RowKit Go.MuLone
set_option linter.unusedVariables false

theorem Qs.mono {a : Abs} {n n' N : Int} {T : Tab} {acts : List Int} (Q : Qs a n N T acts) (h : n ≤ n') : Qs a n' N T acts := { Q with inv := Q.inv.mono h }
theorem Qs.reT {a : Abs} {n N : Int} {T T' : Tab} {acts : List Int} (Q : Qs a n N T acts) (h : Sees a T') : Qs a n N T' acts := { Q with sees := h }

theorem Qs.start {a : Abs} {n n2 : Int} {B : Bk} {M : Int} (I : a.Inv n) (h0 : a.txs = []) (h1 : a.c1 = 32) (h3 : a.c3 = 16) (h4 : a.c4 = 128) (I2 : a.beginR.2.beginR.2.Inv n2) (C2 : Cms a.beginR.2.beginR.2) (K : BkIs a.beginR.2.beginR.2 B M) :
    Qs a.beginR.2.beginR.2 n2 (a.begun + 2) B.t [a.begun + 1, a.begun + 2] := by
  have e1 : a.beginR.2 = { a with begun := a.begun + 1, txs := [a.newTx] } := by unfold Abs.beginR; rw [if_neg (by rw [h0, h1]; decide), h0]; rfl
  have e2 : a.beginR.2.beginR.2 = { a with begun := a.begun + 2, txs := [a.newTx, ⟨a.begun + 2, a.clock, 0, [], [], false, false⟩] } := by
    rw [e1]
    unfold Abs.beginR
    rw [if_neg (by show ¬ a.c1 ≤ (1 : Nat); rw [h1]; decide)]
    simp only [Abs.mk.injEq, true_and, and_true, List.cons_append, List.nil_append, List.cons.injEq, Tx.mk.injEq]
    omega
  have hm : ∀ t ∈ a.beginR.2.beginR.2.txs, t = a.newTx ∨ t = ⟨a.begun + 2, a.clock, 0, [], [], false, false⟩ := fun t ht => by rw [e2] at ht; simpa using ht
  refine { inv := I2, cms := C2, c1 := by rw [e2]; exact h1, c3 := by rw [e2]; exact h3, c4 := by rw [e2]; exact h4, len := by rw [e2]; rfl, wr := fun t ht => ?_, st := K.stamps, sees := ⟨K.sorted, K.tab⟩, begun := by rw [e2], act := fun h hh => ?_, done := fun t ht hc => ?_ }
  · rcases hm t ht with rfl | rfl <;> exact ⟨rfl, rfl⟩
  · simp at hh
    rcases hh with rfl | rfl
    · exact ⟨a.newTx, act_of_mem I2 (t := a.newTx) (by rw [e2]; simp) rfl⟩
    · exact ⟨⟨a.begun + 2, a.clock, 0, [], [], false, false⟩, act_of_mem I2 (t := ⟨a.begun + 2, a.clock, 0, [], [], false, false⟩) (by rw [e2]; simp) rfl⟩
  · rcases hm t ht with rfl | rfl <;> simp [Abs.newTx]

/-- readers -/
structure Cq (w W0 W : World) (s0 : Sto) (m0 : MBk) (s : Sto) (m : MBk) (n N : Int) (acts : List Int) : Prop where
  mem : Mem w W s m
  nx : Nx W0 W s0 s m0 m
  q : Qs s.abs n N m.t acts
  hn : n ≤ 4194304

/-- one that has written -/
structure Wq (w W0 W : World) (s0 : Sto) (m0 : MBk) (s : Sto) (m : MBk) (n N : Int) (k v : ByteArray) : Prop where
  mem : Mem w W s m
  nx : Nx W0 W s0 s m0 m
  wr : ∃ a t, Qs a n N m.t [] ∧ Wr a n N m.t k v s.abs t
  hn : n ≤ 4194304

section
variable {w W0 W W' : World} {s0 s : Sto} {m0 m : MBk} {n N : Int} {acts : List Int}

theorem Qs.N0 {a : Abs} {T : Tab} (Q : Qs a n N T acts) : 0 ≤ N ∧ N ≤ n := by have := Q.inv.begun; rw [Q.begun] at this; exact this

theorem Cq.commit (C : Cq w W0 W s0 m0 s m n N acts) {h : Int} (hh : h ∈ acts) (hw : (Lit.int .i64 h).wf = true) (hlt : n < 4194304) :
    Calls Tryz.prog 25 #[.pointer (some ⟨s0.sb, 0, none⟩), .int .i64 h] W fun e w' => e = .returned (.int .i64 0) ∧ ∃ s', Cq w W0 w' s0 m0 s' m (n + 1) N (acts.filter fun j => decide (j ≠ h)) := by
  obtain ⟨t, e, hq⟩ := C.q.commR hh
  have hn := C.hn
  have := commit_api C.mem.st C.mem.mu C.q.inv (by omega) h hw
  rw [C.nx.sb, e] at this
  refine this.mono fun e w' ⟨s', e1, e2, e3⟩ => ⟨e1, s', ?_⟩
  obtain ⟨M1, N1⟩ := C.mem.turn e2
  exact ⟨M1, C.nx.trans N1, hq _ (e3.yes t rfl), by omega⟩

theorem Cq.begin (C : Cq w W0 W s0 m0 s m n N []) :
    Calls Tryz.prog 26 #[.pointer (some ⟨s0.sb, 0, none⟩)] W fun e w' => e = .returned (.tuple #[.int .i64 (N + 1), .int .i64 0]) ∧ ∃ s', Mem w w' s' m ∧ Nx W0 w' s0 s' m0 m ∧ s'.abs = s.abs.beginR.2 := by
  have hn := C.hn
  have := begin_api C.mem.st C.mem.mu C.q.inv (by omega)
  rw [C.nx.sb, C.q.begin.1] at this
  refine this.mono fun e w' ⟨s', e1, e2, e3⟩ => ⟨e1, s', ?_⟩
  obtain ⟨M1, N1⟩ := C.mem.turn e2
  exact ⟨M1, C.nx.trans N1, e3⟩

theorem oneChg (W : World) (k v : ByteArray) : ChAt (W.alloc (.cells #[.string k, .string v, .bool false] 66)) (.slice (some ⟨W.heap.size, 0, none⟩) 1 1) [(k, v, false)] where
  sh := ⟨some ⟨W.heap.size, 0, none⟩, 1, rfl, .inr ⟨W.heap.size, 0, rfl, by simp, fun i x hx => by
    match i, hx with
    | 0, hx => simp at hx; subst hx; simp
    | i + 1, hx => simp at hx⟩⟩
  len := by simp

theorem Mem.writeC {a : Abs} (M1 : Mem w W s m) (N1 : Nx W0 W s0 s m0 m) (Q : Qs a n N m.t []) (ha : s.abs = a.beginR.2) (hn : n ≤ 4194303) (k v : ByteArray) :
    Calls Tryz.prog 27 #[.pointer (some ⟨s0.sb, 0, none⟩), .int .i64 (N + 1), .slice (some ⟨W.heap.size, 0, none⟩) 1 1] (W.alloc (.cells #[.string k, .string v, .bool false] 66)) fun e w' => e = .returned (.int .i64 (changesE [(k, v, false)])) ∧ ∃ s', Mem w w' s' m ∧ Nx W0 w' s0 s' m0 m ∧ (changesE [(k, v, false)] = 0 → Wq w W0 w' s0 m0 s' m n N k v) := by
  have hq : Quiet W (W.alloc (.cells #[.string k, .string v, .bool false] 66)) := Keeps.alloc _ _
  have M2 := M1.still hq
  have hN := Q.N0
  have I1 : s.abs.Inv (n + 1) := by rw [ha]; exact Q.inv.beginR
  have := write_api M2.st M2.mu I1 (N + 1) (wf_i64 (by omega) (by omega)) _ _ (oneChg W k v) (fun b hb hf => by
    simp [heldBlock] at hb
    have := M1.st.lt b hf
    omega)
  rw [N1.sb, ha] at this
  refine this.mono fun e w' ⟨s', e1, e2, e3⟩ => ?_
  obtain ⟨M3, N3⟩ := M2.turn e2
  have N4 := (N1.trans (Nx.quiet s m hq)).trans N3
  by_cases hE : changesE [(k, v, false)] = 0
  · obtain ⟨t, q1, q2⟩ := Q.writeOk k v hE
    rw [q1] at e1
    refine ⟨by rw [hE]; exact e1, s', M3, N4, fun _ => ⟨M3, N4, ⟨a, t, Q, by rw [e3]; exact q2⟩, by omega⟩⟩
  · rw [Q.writeBad k v hE] at e1
    exact ⟨e1, s', M3, N4, fun h => absurd h hE⟩

theorem Wq.told {k v : ByteArray} (C : Wq w W0 W s0 m0 s m n N k v) :
    Calls Tryz.prog 19 #[.pointer (some ⟨s0.sb, 0, none⟩)] W fun e w' => ∃ (x0 x1 x2 x3 : Int), e = .returned (.agg #[.int .i64 x0, .int .i64 x1, .int .i64 x2, .int .i64 x3, .int .i64 (totV s.abs.vers : Nat)]) ∧ Wq w W0 w' s0 m0 s m n N k v := by
  obtain ⟨a, t, Q, R⟩ := C.wr
  have := told_api C.mem.st C.mem.mu R.inv
  rw [C.nx.sb] at this
  refine this.mono fun e w' ⟨e1, e2⟩ => ⟨_, _, _, _, e1, ?_⟩
  obtain ⟨M1, N1⟩ := C.mem.turn e2
  exact ⟨M1, C.nx.trans N1, ⟨a, t, Q, R⟩, C.hn⟩

theorem Wq.commitFull {k v : ByteArray} (C : Wq w W0 W s0 m0 s m n N k v) (h : totV s.abs.vers = 128) :
    Calls Tryz.prog 25 #[.pointer (some ⟨s0.sb, 0, none⟩), .int .i64 (N + 1)] W fun e w' => e = .returned (.int .i64 6) ∧ Quiet w w' ∧ Keeps (fun b => m.has b ∨ b ∈ s.foot) W w' := by
  obtain ⟨a, t, Q, R⟩ := C.wr
  have hN := Q.N0
  have hn := C.hn
  have := commit_api C.mem.st C.mem.mu R.inv (by omega) (N + 1) (wf_i64 (by omega) (by omega))
  rw [C.nx.sb, R.full h] at this
  refine this.mono fun e w' ⟨s', e1, e2, e3⟩ => ⟨e1, (C.mem.turn e2).1.quiet, (C.mem.turn e2).2.keeps⟩

theorem Wq.commitOk {k v : ByteArray} (C : Wq w W0 W s0 m0 s m n N k v) (h : totV s.abs.vers ≠ 128) :
    Calls Tryz.prog 25 #[.pointer (some ⟨s0.sb, 0, none⟩), .int .i64 (N + 1)] W fun e w' => e = .returned (.int .i64 0) ∧ (∃ s', Mem w w' s' m ∧ Nx W0 w' s0 s' m0 m ∧ s'.abs.Inv (n + 1 + 1) ∧ Cms s'.abs ∧ Idle s'.abs ∧ Sees s'.abs (tput m.t k v)) ∧ Keeps (fun b => m.has b ∨ b ∈ s.foot) W w' := by
  obtain ⟨a, t, Q, R⟩ := C.wr
  have hN := Q.N0
  have hn := C.hn
  obtain ⟨q1, q2⟩ := R.comm Q h
  have := commit_api C.mem.st C.mem.mu R.inv (by omega) (N + 1) (wf_i64 (by omega) (by omega))
  rw [C.nx.sb, q1] at this
  refine this.mono fun e w' ⟨s', e1, e2, e3⟩ => ⟨e1, ?_⟩
  obtain ⟨M1, N1⟩ := C.mem.turn e2
  obtain ⟨r1, r2, r3, r4⟩ := q2 _ (e3.yes t rfl)
  exact ⟨⟨s', M1, C.nx.trans N1, r1, r2, r3, r4⟩, N1.keeps⟩

end
end Go.Proofs.YthfimgeopciiiaaGreat
