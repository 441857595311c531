/-
  Calm: what its walk calls.
-/
import Derived.Test.YthfimgeopciiiaaGreatCalmW
namespace Go.Proofs.YthfimgeopciiiaaGreat
open Go.MapKept Go.ChangeMaps Go.Maps Go.RowKit Go.MuLone
set_option linter.unusedVariables false

/-- the two that read -/
structure RI (w W0 W : World) (s0 : Sto) (m0 : MBk) (n N : Int) (s : Sto) (m : MBk) : Prop where
  pi : PI w W0 W s0 m0 n s m
  q : Qs s.abs n N m.t [N - 1, N]

section
variable {w W0 W W' : World} {s0 s : Sto} {m0 m : MBk} {n N : Int}

theorem RI.still (R : RI w W0 W s0 m0 n N s m) (k : Quiet W W') : RI w W0 W' s0 m0 n N s m := ⟨R.pi.still k, R.q⟩
theorem RI.mono {n' : Int} (R : RI w W0 W s0 m0 n N s m) (h : n ≤ n') : RI w W0 W s0 m0 n' N s m :=
  ⟨⟨R.pi.mem, R.pi.nx, ⟨R.pi.log.inv.mono h, R.pi.log.is, fun d hd => by have := R.pi.log.bud d hd; have : n * 1048576 ≤ n' * 1048576 := Int.mul_le_mul_of_nonneg_right h (by omega); omega, R.pi.log.cms⟩, R.pi.cfg⟩, R.q.mono h⟩
theorem RI.dl (R : RI w W0 W s0 m0 n N s m) : (m.deals.length : Int) = N := (MBk.len_of R.pi.log).trans R.q.begun

theorem dealsCell (P : PI w W0 W s0 m0 n s m) : ∃ ad cd, W.cell? ⟨m0.bb, 1, none⟩ = some (.slice ad m.deals.length cd) := by
  obtain ⟨tag, B, -⟩ := P.mem.bk
  obtain ⟨ad, cd, hdv, -⟩ := B.dealsAt
  have c1 := B.cell.2.1
  rw [P.nx.bb, hdv] at c1
  exact ⟨ad, cd, c1⟩

theorem stepB (P : PI w W0 W s0 m0 n s m) (hn : n ≤ 2097152) : Calls Tryz.prog 18 #[.pointer (some ⟨m0.bb, 0, none⟩), .agg #[.int .i64 1, .int .i64 0, .string ⟨#[]⟩, .string ⟨#[]⟩, .slice none 0 0]] W fun e w' => e = .returned (.bool true) ∧ ∃ s' m', PI w W0 w' s0 m0 (n + 1) s' m' ∧ s'.abs = s.abs.beginR.2 := by
  have := step_h P.mem P.log hn ⟨1, 0, ⟨#[]⟩, ⟨#[]⟩, .slice none 0 0, []⟩ ⟨⟨by decide, by decide⟩, ⟨⟨none, 0, rfl, .inl rfl⟩, by simp⟩, fun b hb => by simp [heldBlock] at hb⟩ (by simp)
  simp only at this
  rw [P.nx.bb] at this
  refine this.mono fun e w' ⟨e1, e2⟩ => ⟨e1, ?_⟩
  obtain ⟨s2, m2, h, h1, h2, h3, _, _, h6⟩ := e2.ex
  exact ⟨s2, m2, ⟨h1, P.nx.trans h2, h3, h6.cfg.trans P.cfg⟩, h6.one rfl⟩

theorem RI.step (R : RI w W0 W s0 m0 n N s m) (hn : n ≤ 2097152) (o : StepD) (ho : StepOk w o) (hcs : o.cs.length ≤ 1048576) (hk : o.kind = 2 ∨ o.kind = 3) {t : Int} (ht : t = N ∨ t = N - 1) :
    Calls Tryz.prog 18 #[.pointer (some ⟨m0.bb, 0, none⟩), .agg #[.int .i64 o.kind, .int .i64 t, .string o.key, .string o.hi, o.lv]] W fun e w' => e = .returned (.bool true) ∧ (∃ s' m', RI w W0 w' s0 m0 (n + 1) N s' m') ∧ ∀ b, b < W.heap.size → ¬ (m.has b ∨ b ∈ s.foot) → w'.heap[b]? = W.heap[b]? := by
  have hN := R.q.N0
  have hdl := R.dl
  have hN2 : 2 ≤ N := by
    obtain ⟨t1, h1⟩ := R.q.act (N - 1) (by simp)
    have := (R.q.inv.hs t1 (act_mem' h1).1).1
    rw [(act_mem' h1).2.1] at this
    omega
  have := step_h R.pi.mem R.pi.log hn { o with t := t } ⟨⟨by show _ ≤ t; omega, by show t ≤ _; omega⟩, ho.ch, ho.lb⟩ hcs
  simp only at this
  rw [R.pi.nx.bb] at this
  refine this.mono fun e w' ⟨e1, e2⟩ => ⟨e1, ?_, ?_⟩
  · obtain ⟨s2, m2, h, h1, h2, h3, h4, h5, h6⟩ := e2.ex
    obtain ⟨M, K⟩ := h3.is
    refine ⟨s2, m2, ⟨h1, R.pi.nx.trans h2, h3, h6.cfg.trans R.pi.cfg⟩, Qs.reT (T := m.t) ?_ (sees_of K)⟩
    rcases hk with hk | hk
    · rw [h6.two hk]; exact (R.q.getR h _).mono (by omega)
    · rw [h6.three hk]; exact (R.q.scanR h _ _).mono (by omega)
  · obtain ⟨s2, m2, h, h1, h2, h3, h4, h5, h6⟩ := e2.ex
    exact fun b hb hn' => h2.keeps.block b hb hn'

theorem RI.active (R : RI w W0 W s0 m0 n N s m) (hn : n ≤ 4194304) {t : Int} (ht : t = N ∨ t = N - 1) :
    Calls Tryz.prog 24 #[.pointer (some ⟨m0.bb, 0, none⟩), .int .i64 t] W fun e w' => e = .returned (.bool true) ∧ w' = W := by
  have hN := R.q.N0
  have hdl := R.dl
  obtain ⟨tx, hx⟩ := R.q.act t (by rcases ht with rfl | rfl <;> simp)
  have h1 := (R.q.inv.hs tx (act_mem' hx).1)
  rw [(act_mem' hx).2.1, R.q.begun] at h1
  have := active_h R.pi.mem t (by omega) (by omega)
  obtain ⟨M, K⟩ := R.pi.log.is
  rw [R.pi.nx.bb, K.actB R.pi.log.inv t, hx] at this
  exact this

theorem RI.cq (R : RI w W0 W s0 m0 n N s m) (hn : n ≤ 4194304) : Cq w W0 W s0 m0 s m n N [N - 1, N] := ⟨R.pi.mem, R.pi.nx, R.q, hn⟩

end

section
variable {w W0 W W' : World} {s0 s : Sto} {m0 m : MBk} {n N : Int}

/-- a step beside one block that is new -/
theorem RI.stepN (R : RI w W0 W s0 m0 n N s m) (hn : n ≤ 2097152) (o : StepD) (ho : StepOk w o) (hcs : o.cs.length ≤ 1048576) (hk : o.kind = 2 ∨ o.kind = 3) {t : Int} (ht : t = N ∨ t = N - 1) (ob : Obj) :
    Calls Tryz.prog 18 #[.pointer (some ⟨m0.bb, 0, none⟩), .agg #[.int .i64 o.kind, .int .i64 t, .string o.key, .string o.hi, o.lv]] (W.alloc ob) fun e w' => e = .returned (.bool true) ∧ w'.heap[W.heap.size]? = some ob ∧ ∃ s' m', RI w W0 w' s0 m0 (n + 1) N s' m' := by
  have q : Quiet W (W.alloc ob) := Keeps.alloc _ _
  refine ((R.still q).step hn o ho hcs hk ht).mono fun e w' ⟨e1, e2, e3⟩ => ⟨e1, ?_, e2⟩
  rw [e3 W.heap.size (by simp) (fun h => by have := R.pi.mem.lt h; omega)]
  exact heap_alloc_new _ _

theorem Wq.still {k v : ByteArray} (C : Wq w W0 W s0 m0 s m n N k v) (q : Quiet W W') : Wq w W0 W' s0 m0 s m n N k v := ⟨C.mem.still q, C.nx.trans (Nx.quiet s m q), C.wr, C.hn⟩

theorem Wq.fullN {k v : ByteArray} (C : Wq w W0 W s0 m0 s m n N k v) (h : totV s.abs.vers = 128) (ob : Obj) :
    Calls Tryz.prog 25 #[.pointer (some ⟨s0.sb, 0, none⟩), .int .i64 (N + 1)] (W.alloc ob) fun e w' => e = .returned (.int .i64 6) ∧ w'.heap[W.heap.size]? = some ob ∧ Quiet w w' := by
  have q : Quiet W (W.alloc ob) := Keeps.alloc _ _
  refine ((C.still q).commitFull h).mono fun e w' ⟨e1, e2, e3⟩ => ⟨e1, ?_, e2⟩
  rw [e3.block W.heap.size (by simp) (fun h => by have := C.mem.lt h; omega)]
  exact heap_alloc_new _ _

theorem Wq.okN {k v : ByteArray} (C : Wq w W0 W s0 m0 s m n N k v) (h : totV s.abs.vers ≠ 128) (ob : Obj) :
    Calls Tryz.prog 25 #[.pointer (some ⟨s0.sb, 0, none⟩), .int .i64 (N + 1)] (W.alloc ob) fun e w' => e = .returned (.int .i64 0) ∧ w'.heap[W.heap.size]? = some ob ∧ ∃ s', Mem w w' s' m ∧ Nx W0 w' s0 s' m0 m ∧ s'.abs.Inv (n + 1 + 1) ∧ Cms s'.abs ∧ Idle s'.abs ∧ Sees s'.abs (tput m.t k v) := by
  have q : Quiet W (W.alloc ob) := Keeps.alloc _ _
  refine ((C.still q).commitOk h).mono fun e w' ⟨e1, e2, e3⟩ => ⟨e1, ?_, e2⟩
  rw [e3.block W.heap.size (by simp) (fun h => by have := C.mem.lt h; omega)]
  exact heap_alloc_new _ _

/-- the end: the table of the store, and what is wanted -/
structure CEnd (w W0 W : World) (s0 : Sto) (m0 m : MBk) (T : Tab) (av : Option Addr) (cv : Nat) : Prop where
  pr : PrAt W (.slice av T.length cv) T
  mem : ∃ s', Mem w W s' m ∧ Nx W0 W s0 s' m0 m

theorem end_final {T : Tab} (M : Mem w W s m) (N1 : Nx W0 W s0 s m0 m) (I : s.abs.Inv n) (hn : n ≤ 1000000000000) (C : Cms s.abs) (D : Idle s.abs) (S : Sees s.abs T) :
    Calls Tryz.prog 16 #[.pointer (some ⟨s0.sb, 0, none⟩)] W fun e w' => ∃ av cv, e = .returned (.tuple #[.slice av T.length cv, .bool true]) ∧ CEnd w W0 w' s0 m0 m T av cv := by
  have := final_h M I hn C D S
  rw [N1.sb] at this
  refine this.mono fun e w' ⟨v, e1, e2, s', e3, e4⟩ => ?_
  obtain ⟨av, cv, ev, -⟩ := id e2
  have ev' : v = .slice av T.length cv := ev
  subst ev'
  exact ⟨av, cv, e1, e2, s', e3, N1.trans e4⟩

theorem CEnd.put {T : Tab} {av : Option Addr} {cv : Nat} (E : CEnd w W0 W s0 m0 m T av cv) (k v : ByteArray) (hT : T = tput m.t k v) (hl : m.t.length ≤ 128) :
    ∃ at_ ct, W.cell? ⟨m0.bb, 2, none⟩ = some (.slice at_ m.t.length ct) ∧ Calls Tryz.prog 28 #[.slice at_ m.t.length ct, .string k, .string v] W fun e w' => ∃ av2 cv2, e = .returned (.slice av2 T.length cv2) ∧ PrAt w' (.slice av2 T.length cv2) T ∧ PrAt w' (.slice av T.length cv) T ∧ Quiet w w' := by
  obtain ⟨s', M, N1⟩ := E.mem
  obtain ⟨tag, B, -⟩ := M.bk
  have htb := B.tb
  obtain ⟨at_, ct, e, -⟩ := B.tb.at
  have c := B.cell.2.2.1
  rw [N1.bb, e] at c
  rw [e] at htb
  refine ⟨at_, ct, c, (tput_h W _ _ _ htb (by omega) k v).mono fun e w' ⟨v', e1, e2, e3⟩ => ?_⟩
  subst hT
  have hp := PrAt.of_sl e2
  obtain ⟨av2, cv2, ev, -⟩ := id hp
  have ev' : v' = .slice av2 (tput m.t k v).length cv2 := ev
  subst ev'
  exact ⟨av2, cv2, e1, hp, E.pr.quiet e3, Quiet.trans' M.quiet e3⟩

theorem oneE (k v : ByteArray) : ((k.size : Int) < 1 ∨ 4 < (k.size : Int) → changesE [(k, v, false)] = 3) ∧ (¬ (k.size : Int) < 1 → ¬ 4 < (k.size : Int) → (8 < (v.size : Int) → changesE [(k, v, false)] = 4) ∧ (¬ 8 < (v.size : Int) → changesE [(k, v, false)] = 0)) := by
  have := chg_step (cs := [(k, v, false)]) (n := 0) (c := (k, v, false)) rfl (e := 0) rfl
  exact this

theorem PI.riStart {s4 s6 : Sto} {m4 m6 : MBk} {W4 W6 : World} {n4 n6 : Int} (P4 : PI w W0 W4 s0 m0 n4 s4 m4) (h40 : s4.abs.txs = []) (hcfg : s0.abs.c1 = 32 ∧ s0.abs.c3 = 16 ∧ s0.abs.c4 = 128) (P6 : PI w W0 W6 s0 m0 n6 s6 m6) (ha : s6.abs = s4.abs.beginR.2.beginR.2) :
    RI w W0 W6 s0 m0 n6 m6.deals.length s6 m6 := by
  obtain ⟨M, K⟩ := P6.log.is
  have I6 := P6.log.inv
  have C6 := P6.log.cms
  have hl := MBk.len_of P6.log
  rw [ha] at K I6 C6 hl
  have Q := Qs.start P4.log.inv h40 (P4.cfg.c1.trans hcfg.1) (P4.cfg.c3.trans hcfg.2.1) (P4.cfg.c4.trans hcfg.2.2) I6 C6 K
  have hb := Q.begun
  refine ⟨P6, ?_⟩
  rw [ha]
  have e1 : (m6.deals.length : Int) = s4.abs.begun + 2 := hl.trans hb
  have e2 : s4.abs.begun + 2 - 1 = s4.abs.begun + 1 := by omega
  rw [e1, e2]
  exact Q

end
end Go.Proofs.YthfimgeopciiiaaGreat
