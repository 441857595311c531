/-
  Calm, of plain data: who only reads is not aborted, and commits; one alone commits what it writes. No world, no program.
-/
import Derived.Test.YthfimgeopciiiaaGreatBookL
import Derived.Test.YthfimgeopciiiaaGreatBookB
import Derived.Deep.CutRange
namespace Go.Proofs.YthfimgeopciiiaaGreat
set_option linter.unusedVariables false

/-- the greatest configuration, two records of readers; of which are active just those of the list -/
structure Qs (a : Abs) (n N : Int) (T : Tab) (acts : List Int) : Prop where
  inv : a.Inv n
  cms : Cms a
  c1 : a.c1 = 32
  c3 : a.c3 = 16
  c4 : a.c4 = 128
  len : a.txs.length = 2
  wr : ∀ t ∈ a.txs, t.wr = [] ∧ t.i = false
  st : ∀ k, ∀ x ∈ a.vs k, x.1 ≤ a.clock
  sees : Sees a T
  begun : a.begun = N
  act : ∀ h ∈ acts, ∃ t, a.act? h = some t
  done : ∀ t ∈ a.txs, t.cm = 0 → t.h ∈ acts

theorem act_map {a : Abs} (f : Tx → Tx) (hh : ∀ t, (f t).h = t.h) (hc : ∀ t, (f t).cm = t.cm) (h : Int) : ({ a with txs := a.txs.map f } : Abs).act? h = (a.act? h).map f := by
  unfold Abs.act?
  rw [List.find?_map]
  have e : ((fun t : Tx => decide (t.h = h)) ∘ f) = fun t => decide (t.h = h) := by funext t; simp [hh]
  rw [e]
  cases a.txs.find? (fun t => decide (t.h = h)) with
  | none => rfl
  | some t =>
    by_cases e0 : t.cm = 0
    · simp [Option.filter, hc, e0]
    · simp [Option.filter, hc, e0]

section
variable {a a' : Abs} {n N : Int} {T : Tab} {acts : List Int}

theorem Qs.any (Q : Qs a n N T acts) (t : Tx) (e : Ent) : a.txs.any (passB t (wroteT e)) = false := by
  rw [List.any_eq_false]
  intro x hx
  have : wroteT e x = false := by unfold wroteT; rw [(Q.wr x hx).1]; rfl
  simp [passB, this]

theorem Qs.readR (Q : Qs a n N T acts) {t : Tx} (ht : t ∈ a.txs) (e : Ent) : Qs (a.readR t e).2 n N T acts := by
  have hok : a.okR t e = true := by
    unfold Abs.okR
    have : a.txs.any (fun x => passB t (wroteT e) x && comInB x.cm x.o) = false := by
      rw [List.any_eq_false]
      intro x hx
      have := List.any_eq_false.1 (Q.any t e) x hx
      simp at this
      simp [this]
    rw [this]; rfl
  have I := Q.inv.readR ht e
  unfold Abs.readR at *
  by_cases hr : a.room t e = false
  · rw [if_pos hr]; exact Q
  · rw [if_neg hr, if_neg (by rw [hok]; simp)] at I ⊢
    have e1 : ∀ x ∈ a.txs, (readX (a.txs.any (passB t (wroteT e))) t e x).wr = x.wr ∧ (readX (a.txs.any (passB t (wroteT e))) t e x).i = x.i := fun x hx => by
      refine ⟨rfl, ?_⟩
      have := List.any_eq_false.1 (Q.any t e) x hx
      simp only [readX]
      simp at this
      simp [this]
    refine { inv := I, cms := Q.cms.mapT _ (fun _ => rfl), c1 := Q.c1, c3 := Q.c3, c4 := Q.c4, len := ?_, wr := fun x hx => ?_, st := Q.st, sees := Q.sees, begun := Q.begun, act := fun h hh => ?_, done := fun x hx hc => ?_ }
    · show (a.txs.map _).length = 2
      rw [List.length_map]; exact Q.len
    · obtain ⟨u, hu, rfl⟩ := List.mem_map.1 hx
      rw [(e1 u hu).1, (e1 u hu).2]; exact Q.wr u hu
    · obtain ⟨u, hu⟩ := Q.act h hh
      refine ⟨readX (a.txs.any (passB t (wroteT e))) t e u, ?_⟩
      exact (act_map (a := a) (readX (a.txs.any (passB t (wroteT e))) t e) (fun _ => rfl) (fun _ => rfl) h).trans (by rw [hu]; rfl)
    · obtain ⟨u, hu, rfl⟩ := List.mem_map.1 hx
      exact Q.done u hu hc

theorem Qs.getR (Q : Qs a n N T acts) (h : Int) (k : ByteArray) : Qs (a.getR h k).2 n N T acts := by
  unfold Abs.getR
  cases ha : a.act? h with
  | none => exact Q
  | some t =>
    have hm := (act_mem' ha).1
    simp only
    split
    · exact Q
    · rw [(Q.wr t hm).1]
      simp only [look]
      split <;> exact Q.readR hm _

theorem Qs.scanR (Q : Qs a n N T acts) (h : Int) (lo hi : ByteArray) : Qs (a.scanR h lo hi).2 n N T acts := by
  unfold Abs.scanR
  cases ha : a.act? h with
  | none => exact Q
  | some t =>
    have hm := (act_mem' ha).1
    simp only
    split
    · exact Q
    · split <;> exact Q.readR hm _

theorem vs_comm_nil {t : Tx} (C : CommIs a t a') (hw : t.wr = []) (k : ByteArray) : a'.vs k = a.vs k := by
  obtain ⟨done, hd, hv⟩ := C.vers
  rw [hw] at hd
  have : done = [] := hd.eq_nil
  unfold Abs.vs
  rw [hv, this]; rfl

/-- a reader commits -/
theorem Qs.commR (Q : Qs a n N T acts) {h : Int} (hh : h ∈ acts) : ∃ t, a.commR h = (0, a, some t) ∧ ∀ a', CommIs a t a' → Qs a' (n + 1) N T (acts.filter fun j => decide (j ≠ h)) := by
  obtain ⟨t, ht⟩ := Q.act h hh
  obtain ⟨hm, hth, hcm⟩ := act_mem' ht
  obtain ⟨hw, hi⟩ := Q.wr t hm
  have hv := Q.inv.vers
  refine ⟨t, ?_, fun a' C => ?_⟩
  · unfold Abs.commR
    rw [ht]
    simp only
    rw [if_neg (by rw [hi]; simp), if_neg (by rw [hw]; simp; omega)]
  · have I' := Q.inv.comm hm (by rw [hw]; simpa using hv) C
    have hk := Q.inv.clock
    have hmem : ∀ x ∈ a'.txs, ∃ u ∈ a.txs, x = commX (a.clock + 1) t.h u := fun x hx => by
      rw [C.txs, commA_txs] at hx
      obtain ⟨u, hu, e⟩ := List.mem_map.1 hx
      exact ⟨u, hu, e.symm⟩
    refine { inv := I', cms := Q.cms.comm C, c1 := C.c1.trans Q.c1, c3 := C.c3.trans Q.c3, c4 := C.c4.trans Q.c4, len := ?_, wr := fun x hx => ?_, st := fun k x hx => ?_, sees := ⟨Q.sees.1, fun k => ?_⟩, begun := C.begun.trans Q.begun, act := fun j hj => ?_, done := fun x hx hc => ?_ }
    · rw [C.txs, commA_txs, List.length_map]; exact Q.len
    · obtain ⟨u, hu, rfl⟩ := hmem x hx
      rw [commX_wr]
      refine ⟨(Q.wr u hu).1, ?_⟩
      have : (commX (a.clock + 1) t.h u).i = u.i := by unfold commX; split <;> rfl
      rw [this]; exact (Q.wr u hu).2
    · rw [vs_comm_nil C hw] at hx
      have := Q.st k x hx
      rw [C.clock]; omega
    · rw [Q.sees.2 k, vs_comm_nil C hw, C.clock, snap_stamps (Q.st k) (by omega : a.clock ≤ a.clock + 1)]
    · obtain ⟨hj1, hj2⟩ := List.mem_filter.1 hj
      have hne : j ≠ h := by simpa using hj2
      obtain ⟨u, hu⟩ := Q.act j hj1
      obtain ⟨um, uh, uc⟩ := act_mem' hu
      have e : commX (a.clock + 1) t.h u = u := by unfold commX; rw [if_neg (by rw [uh, hth]; exact hne)]
      refine ⟨u, ?_⟩
      rw [← uh]
      refine act_of_mem I' ?_ uc
      rw [C.txs, commA_txs]
      exact List.mem_map.2 ⟨u, um, e⟩
    · obtain ⟨u, hu, rfl⟩ := hmem x hx
      by_cases e : u.h = t.h
      · unfold commX at hc
        rw [if_pos e] at hc
        simp at hc
        omega
      · have e2 : commX (a.clock + 1) t.h u = u := by unfold commX; rw [if_neg e]
        rw [e2] at hc ⊢
        exact List.mem_filter.2 ⟨Q.done u hu hc, by simpa [← hth] using e⟩

/-! ### one that runs alone -/

/-- one has begun, beside two that have ended -/
theorem Qs.begin (Q : Qs a n N T []) : a.beginR.1 = (N + 1, 0) ∧ a.beginR.2 = { a with begun := a.begun + 1, txs := a.txs ++ [a.newTx] } ∧ a.beginR.2.act? (N + 1) = some a.newTx := by
  have hl := Q.len
  have hroom : ¬ a.c1 ≤ a.txs.length := by rw [Q.c1, hl]; decide
  have e2 : a.beginR.2 = { a with begun := a.begun + 1, txs := a.txs ++ [a.newTx] } := by unfold Abs.beginR; rw [if_neg hroom]; rfl
  refine ⟨by unfold Abs.beginR; rw [if_neg hroom, Q.begun], e2, ?_⟩
  have := act_of_mem (Q.inv.beginR) (t := a.newTx) (by rw [e2]; simp) rfl
  rw [← Q.begun]
  exact this

/-- what it writes -/
structure Wr (a : Abs) (n N : Int) (T : Tab) (k v : ByteArray) (a10 : Abs) (t : Tx) : Prop where
  inv : a10.Inv (n + 1)
  cms : Cms a10
  c4 : a10.c4 = 128
  act : a10.act? (N + 1) = some t
  wr : t.wr = [(k, (v, false))]
  o : t.o = false
  vers : a10.vers = a.vers
  clock : a10.clock = a.clock
  done : ∀ x ∈ a10.txs, x.cm = 0 → x.h = N + 1

theorem Qs.writeBad (Q : Qs a n N T []) (k v : ByteArray) (hE : changesE [(k, v, false)] ≠ 0) : (a.beginR.2.writeR (N + 1) [(k, v, false)]) = (changesE [(k, v, false)], a.beginR.2) := by
  unfold Abs.writeR
  rw [Q.begin.2.2]
  simp only
  rw [if_pos hE]

theorem Qs.writeOk (Q : Qs a n N T []) (k v : ByteArray) (hE : changesE [(k, v, false)] = 0) : ∃ t, (a.beginR.2.writeR (N + 1) [(k, v, false)]).1 = 0 ∧ Wr a n N T k v (a.beginR.2.writeR (N + 1) [(k, v, false)]).2 t := by
  obtain ⟨b1, b2, b3⟩ := Q.begin
  have hI := Q.inv.hs
  have hcl : a.beginR.2.clash a.newTx [(k, v, false)] = false := by
    unfold Abs.clash
    have h1 : a.beginR.2.held a.newTx k = false := by
      unfold Abs.held
      rw [List.any_eq_false]
      intro x hx
      rw [b2] at hx
      have : look x.wr k = none := by
        rcases List.mem_append.1 hx with h | h
        · rw [(Q.wr x h).1]; rfl
        · simp at h; subst h; rfl
      simp [this]
    have h2 : newerB (a.beginR.2.vs k) a.newTx.bg = false := by
      have e : a.beginR.2.vs k = a.vs k := by rw [b2]; rfl
      rw [e]
      unfold newerB
      rw [List.any_eq_false]
      intro x hx
      have := Q.st k x hx
      simp
      exact this
    simp [h1, h2]
  have hok : a.beginR.2.okW a.newTx [(k, v, false)] = true := by
    unfold Abs.okW
    have : a.beginR.2.txs.any (fun x => passB a.newTx (readT [(k, v, false)]) x && comInB x.cm x.i) = false := by
      rw [List.any_eq_false]
      intro x hx
      rw [b2] at hx
      rcases List.mem_append.1 hx with h | h
      · simp [comInB, (Q.wr x h).2]
      · simp at h; subst h; simp [passB]
    rw [this]; rfl
  have hkw : ¬ a.beginR.2.c3 < (a.newTx.keysWith [(k, v, false)] : Int) := by
    have e1 : a.beginR.2.c3 = 16 := by rw [b2]; exact Q.c3
    have e2 : a.newTx.keysWith [(k, v, false)] = 1 := by
      unfold Tx.keysWith more
      simp [Abs.newTx, moreF, look, put]
    rw [e1, e2]; decide
  have er : a.beginR.2.writeR (N + 1) [(k, v, false)] = (0, a.beginR.2.writeA a.newTx [(k, v, false)]) := by
    unfold Abs.writeR
    rw [b3]
    simp only
    rw [if_neg (by simpa using hE), if_neg hkw, if_neg (by rw [hcl]; simp), if_neg (by rw [hok]; simp)]
  have I10 := Q.inv.beginR.writeR (N + 1) [(k, v, false)]
  have C10 := (Q.cms.beginR Q.inv).writeR (N + 1) [(k, v, false)]
  rw [er] at I10 C10 ⊢
  refine ⟨writeX (a.beginR.2.txs.any (passB a.newTx (readT [(k, v, false)]))) a.newTx [(k, v, false)] a.newTx, rfl, ?_⟩
  refine ⟨I10, C10, ?_, ?_, ?_, ?_, ?_, ?_, ?_⟩
  · show a.beginR.2.c4 = 128
    rw [b2]; exact Q.c4
  · exact (act_map (a := a.beginR.2) (writeX (a.beginR.2.txs.any (passB a.newTx (readT [(k, v, false)]))) a.newTx [(k, v, false)]) (fun _ => rfl) (fun _ => rfl) (N + 1)).trans (by rw [b3]; rfl)
  · simp [writeX, Abs.newTx, joinW, put, contOf]
  · simp [writeX, Abs.newTx, passB]
  · show a.beginR.2.vers = a.vers
    rw [b2]
  · show a.beginR.2.clock = a.clock
    rw [b2]
  · intro x hx hc
    obtain ⟨u, hu, rfl⟩ := List.mem_map.1 hx
    rw [b2] at hu
    rcases List.mem_append.1 hu with h | h
    · exact absurd (Q.done u h hc) (by simp)
    · simp at h; subst h
      show a.begun + 1 = N + 1
      rw [Q.begun]

theorem Wr.full {a10 : Abs} {t : Tx} {k v : ByteArray} (R : Wr a n N T k v a10 t) (h : totV a10.vers = 128) : a10.commR (N + 1) = (6, a10, none) := by
  unfold Abs.commR
  rw [R.act]
  simp only
  rw [if_neg (by rw [R.o]; simp), if_pos (by rw [R.c4, h, R.wr]; simp)]

theorem Wr.comm {a10 : Abs} {t : Tx} {k v : ByteArray} (Q : Qs a n N T []) (R : Wr a n N T k v a10 t) (h : totV a10.vers ≠ 128) : a10.commR (N + 1) = (0, a10, some t) ∧ ∀ a', CommIs a10 t a' → a'.Inv (n + 1 + 1) ∧ Cms a' ∧ Idle a' ∧ Sees a' (tput T k v) := by
  have hv := R.inv.vers
  rw [R.c4] at hv
  obtain ⟨hm, hth, hcm⟩ := act_mem' R.act
  have hk := R.inv.clock
  refine ⟨?_, fun a' C => ⟨R.inv.comm hm (by rw [R.wr, R.c4]; simp; omega) C, R.cms.comm C, fun x hx hc => ?_, tput_sorted Q.sees.1 k v, fun j => ?_⟩⟩
  · unfold Abs.commR
    rw [R.act]
    simp only
    rw [if_neg (by rw [R.o]; simp), if_neg (by rw [R.c4, R.wr]; simp; omega)]
  · rw [C.txs, commA_txs] at hx
    obtain ⟨u, hu, rfl⟩ := List.mem_map.1 hx
    by_cases e : u.h = t.h
    · unfold commX at hc
      rw [if_pos e] at hc
      simp at hc
      omega
    · have e2 : commX (a10.clock + 1) t.h u = u := by unfold commX; rw [if_neg e]
      rw [e2] at hc
      exact e ((R.done u hu hc).trans hth.symm)
  · rw [tput_look, C.vs_eq (by rw [R.wr]; simp) j, C.clock, R.wr, Q.sees.2 j]
    have e10 : a10.vs j = a.vs j := by unfold Abs.vs; rw [R.vers]
    rw [e10, R.clock]
    by_cases e : j = k
    · subst e
      simp [look, snap_new, seen]
    · have e' : ¬ k = j := fun h => e h.symm
      simp only [look, e', if_false, e, Option.toList_none, List.map_nil, List.append_nil]
      rw [snap_stamps (Q.st j) (by omega : a.clock ≤ a.clock + 1)]

end
end Go.Proofs.YthfimgeopciiiaaGreat

/-
  Calm: the calls, and the walk.
-/
namespace Go.Proofs.YthfimgeopciiiaaGreat
open Go.MapKept Go.ChangeMaps Go.Maps Go.RowKit Go.MuLone
set_option linter.unusedVariables false

theorem Qs.mono {a : Abs} {n n' N : Int} {T : Tab} {acts : List Int} (Q : Qs a n N T acts) (h : n ≤ n') : Qs a n' N T acts := { Q with inv := Q.inv.mono h }
theorem Qs.reT {a : Abs} {n N : Int} {T T' : Tab} {acts : List Int} (Q : Qs a n N T acts) (h : Sees a T') : Qs a n N T' acts := { Q with sees := h }

theorem Qs.start {a : Abs} {n n2 : Int} {B : Bk} {M : Int} (I : a.Inv n) (h0 : a.txs = []) (h1 : a.c1 = 32) (h3 : a.c3 = 16) (h4 : a.c4 = 128) (I2 : a.beginR.2.beginR.2.Inv n2) (C2 : Cms a.beginR.2.beginR.2) (K : BkIs a.beginR.2.beginR.2 B M) :
    Qs a.beginR.2.beginR.2 n2 (a.begun + 2) B.t [a.begun + 1, a.begun + 2] := by
  have e1 : a.beginR.2 = { a with begun := a.begun + 1, txs := [a.newTx] } := by unfold Abs.beginR; rw [if_neg (by rw [h0, h1]; decide), h0]; rfl
  have e2 : a.beginR.2.beginR.2 = { a with begun := a.begun + 2, txs := [a.newTx, ⟨a.begun + 2, a.clock, 0, [], [], false, false⟩] } := by
    rw [e1]
    unfold Abs.beginR
    rw [if_neg (by show ¬ a.c1 ≤ (1 : Nat); rw [h1]; decide)]
    simp only [Abs.mk.injEq, true_and, and_true, List.cons_append, List.nil_append, List.cons.injEq, Tx.mk.injEq]
    omega
  have hm : ∀ t ∈ a.beginR.2.beginR.2.txs, t = a.newTx ∨ t = ⟨a.begun + 2, a.clock, 0, [], [], false, false⟩ := fun t ht => by rw [e2] at ht; simpa using ht
  refine { inv := I2, cms := C2, c1 := by rw [e2]; exact h1, c3 := by rw [e2]; exact h3, c4 := by rw [e2]; exact h4, len := by rw [e2]; rfl, wr := fun t ht => ?_, st := K.stamps, sees := ⟨K.sorted, K.tab⟩, begun := by rw [e2], act := fun h hh => ?_, done := fun t ht hc => ?_ }
  · rcases hm t ht with rfl | rfl <;> exact ⟨rfl, rfl⟩
  · simp at hh
    rcases hh with rfl | rfl
    · exact ⟨a.newTx, act_of_mem I2 (t := a.newTx) (by rw [e2]; simp) rfl⟩
    · exact ⟨⟨a.begun + 2, a.clock, 0, [], [], false, false⟩, act_of_mem I2 (t := ⟨a.begun + 2, a.clock, 0, [], [], false, false⟩) (by rw [e2]; simp) rfl⟩
  · rcases hm t ht with rfl | rfl <;> simp [Abs.newTx]

/-- readers -/
structure Cq (w W0 W : World) (s0 : Sto) (m0 : MBk) (s : Sto) (m : MBk) (n N : Int) (acts : List Int) : Prop where
  mem : Mem w W s m
  nx : Nx W0 W s0 s m0 m
  q : Qs s.abs n N m.t acts
  hn : n ≤ 4194304

/-- one that has written -/
structure Wq (w W0 W : World) (s0 : Sto) (m0 : MBk) (s : Sto) (m : MBk) (n N : Int) (k v : ByteArray) : Prop where
  mem : Mem w W s m
  nx : Nx W0 W s0 s m0 m
  wr : ∃ a t, Qs a n N m.t [] ∧ Wr a n N m.t k v s.abs t
  hn : n ≤ 4194304

section
variable {w W0 W W' : World} {s0 s : Sto} {m0 m : MBk} {n N : Int} {acts : List Int}

theorem Qs.N0 {a : Abs} {T : Tab} (Q : Qs a n N T acts) : 0 ≤ N ∧ N ≤ n := by have := Q.inv.begun; rw [Q.begun] at this; exact this

theorem Cq.commit (C : Cq w W0 W s0 m0 s m n N acts) {h : Int} (hh : h ∈ acts) (hw : (Lit.int .i64 h).wf = true) (hlt : n < 4194304) :
    Calls Tryz.prog 25 #[.pointer (some ⟨s0.sb, 0, none⟩), .int .i64 h] W fun e w' => e = .returned (.int .i64 0) ∧ ∃ s', Cq w W0 w' s0 m0 s' m (n + 1) N (acts.filter fun j => decide (j ≠ h)) := by
  obtain ⟨t, e, hq⟩ := C.q.commR hh
  have hn := C.hn
  have := commit_api C.mem.st C.mem.mu C.q.inv (by omega) h hw
  rw [C.nx.sb, e] at this
  refine this.mono fun e w' ⟨s', e1, e2, e3⟩ => ⟨e1, s', ?_⟩
  obtain ⟨M1, N1⟩ := C.mem.turn e2
  exact ⟨M1, C.nx.trans N1, hq _ (e3.yes t rfl), by omega⟩

theorem Cq.begin (C : Cq w W0 W s0 m0 s m n N []) :
    Calls Tryz.prog 26 #[.pointer (some ⟨s0.sb, 0, none⟩)] W fun e w' => e = .returned (.tuple #[.int .i64 (N + 1), .int .i64 0]) ∧ ∃ s', Mem w w' s' m ∧ Nx W0 w' s0 s' m0 m ∧ s'.abs = s.abs.beginR.2 := by
  have hn := C.hn
  have := begin_api C.mem.st C.mem.mu C.q.inv (by omega)
  rw [C.nx.sb, C.q.begin.1] at this
  refine this.mono fun e w' ⟨s', e1, e2, e3⟩ => ⟨e1, s', ?_⟩
  obtain ⟨M1, N1⟩ := C.mem.turn e2
  exact ⟨M1, C.nx.trans N1, e3⟩

theorem oneChg (W : World) (k v : ByteArray) : ChAt (W.alloc (.cells #[.string k, .string v, .bool false] 66)) (.slice (some ⟨W.heap.size, 0, none⟩) 1 1) [(k, v, false)] where
  sh := ⟨some ⟨W.heap.size, 0, none⟩, 1, rfl, .inr ⟨W.heap.size, 0, rfl, by simp, fun i x hx => by
    match i, hx with
    | 0, hx => simp at hx; subst hx; simp
    | i + 1, hx => simp at hx⟩⟩
  len := by simp

theorem Mem.writeC {a : Abs} (M1 : Mem w W s m) (N1 : Nx W0 W s0 s m0 m) (Q : Qs a n N m.t []) (ha : s.abs = a.beginR.2) (hn : n ≤ 4194303) (k v : ByteArray) :
    Calls Tryz.prog 27 #[.pointer (some ⟨s0.sb, 0, none⟩), .int .i64 (N + 1), .slice (some ⟨W.heap.size, 0, none⟩) 1 1] (W.alloc (.cells #[.string k, .string v, .bool false] 66)) fun e w' => e = .returned (.int .i64 (changesE [(k, v, false)])) ∧ ∃ s', Mem w w' s' m ∧ Nx W0 w' s0 s' m0 m ∧ (changesE [(k, v, false)] = 0 → Wq w W0 w' s0 m0 s' m n N k v) := by
  have hq : Quiet W (W.alloc (.cells #[.string k, .string v, .bool false] 66)) := Keeps.alloc _ _
  have M2 := M1.still hq
  have hN := Q.N0
  have I1 : s.abs.Inv (n + 1) := by rw [ha]; exact Q.inv.beginR
  have := write_api M2.st M2.mu I1 (N + 1) (wf_i64 (by omega) (by omega)) _ _ (oneChg W k v) (fun b hb hf => by
    simp [heldBlock] at hb
    have := M1.st.lt b hf
    omega)
  rw [N1.sb, ha] at this
  refine this.mono fun e w' ⟨s', e1, e2, e3⟩ => ?_
  obtain ⟨M3, N3⟩ := M2.turn e2
  have N4 := (N1.trans (Nx.quiet s m hq)).trans N3
  by_cases hE : changesE [(k, v, false)] = 0
  · obtain ⟨t, q1, q2⟩ := Q.writeOk k v hE
    rw [q1] at e1
    refine ⟨by rw [hE]; exact e1, s', M3, N4, fun _ => ⟨M3, N4, ⟨a, t, Q, by rw [e3]; exact q2⟩, by omega⟩⟩
  · rw [Q.writeBad k v hE] at e1
    exact ⟨e1, s', M3, N4, fun h => absurd h hE⟩

theorem Wq.told {k v : ByteArray} (C : Wq w W0 W s0 m0 s m n N k v) :
    Calls Tryz.prog 19 #[.pointer (some ⟨s0.sb, 0, none⟩)] W fun e w' => ∃ (x0 x1 x2 x3 : Int), e = .returned (.agg #[.int .i64 x0, .int .i64 x1, .int .i64 x2, .int .i64 x3, .int .i64 (totV s.abs.vers : Nat)]) ∧ Wq w W0 w' s0 m0 s m n N k v := by
  obtain ⟨a, t, Q, R⟩ := C.wr
  have := told_api C.mem.st C.mem.mu R.inv
  rw [C.nx.sb] at this
  refine this.mono fun e w' ⟨e1, e2⟩ => ⟨_, _, _, _, e1, ?_⟩
  obtain ⟨M1, N1⟩ := C.mem.turn e2
  exact ⟨M1, C.nx.trans N1, ⟨a, t, Q, R⟩, C.hn⟩

theorem Wq.commitFull {k v : ByteArray} (C : Wq w W0 W s0 m0 s m n N k v) (h : totV s.abs.vers = 128) :
    Calls Tryz.prog 25 #[.pointer (some ⟨s0.sb, 0, none⟩), .int .i64 (N + 1)] W fun e w' => e = .returned (.int .i64 6) ∧ Quiet w w' ∧ Keeps (fun b => m.has b ∨ b ∈ s.foot) W w' := by
  obtain ⟨a, t, Q, R⟩ := C.wr
  have hN := Q.N0
  have hn := C.hn
  have := commit_api C.mem.st C.mem.mu R.inv (by omega) (N + 1) (wf_i64 (by omega) (by omega))
  rw [C.nx.sb, R.full h] at this
  refine this.mono fun e w' ⟨s', e1, e2, e3⟩ => ⟨e1, (C.mem.turn e2).1.quiet, (C.mem.turn e2).2.keeps⟩

theorem Wq.commitOk {k v : ByteArray} (C : Wq w W0 W s0 m0 s m n N k v) (h : totV s.abs.vers ≠ 128) :
    Calls Tryz.prog 25 #[.pointer (some ⟨s0.sb, 0, none⟩), .int .i64 (N + 1)] W fun e w' => e = .returned (.int .i64 0) ∧ (∃ s', Mem w w' s' m ∧ Nx W0 w' s0 s' m0 m ∧ s'.abs.Inv (n + 1 + 1) ∧ Cms s'.abs ∧ Idle s'.abs ∧ Sees s'.abs (tput m.t k v)) ∧ Keeps (fun b => m.has b ∨ b ∈ s.foot) W w' := by
  obtain ⟨a, t, Q, R⟩ := C.wr
  have hN := Q.N0
  have hn := C.hn
  obtain ⟨q1, q2⟩ := R.comm Q h
  have := commit_api C.mem.st C.mem.mu R.inv (by omega) (N + 1) (wf_i64 (by omega) (by omega))
  rw [C.nx.sb, q1] at this
  refine this.mono fun e w' ⟨s', e1, e2, e3⟩ => ⟨e1, ?_⟩
  obtain ⟨M1, N1⟩ := C.mem.turn e2
  obtain ⟨r1, r2, r3, r4⟩ := q2 _ (e3.yes t rfl)
  exact ⟨⟨s', M1, C.nx.trans N1, r1, r2, r3, r4⟩, N1.keeps⟩

end
end Go.Proofs.YthfimgeopciiiaaGreat

/-
  Calm: what its walk calls.
-/
namespace Go.Proofs.YthfimgeopciiiaaGreat
open Go.MapKept Go.ChangeMaps Go.Maps Go.RowKit Go.MuLone
set_option linter.unusedVariables false

/-- the two that read -/
structure RI (w W0 W : World) (s0 : Sto) (m0 : MBk) (n N : Int) (s : Sto) (m : MBk) : Prop where
  pi : PI w W0 W s0 m0 n s m
  q : Qs s.abs n N m.t [N - 1, N]

section
variable {w W0 W W' : World} {s0 s : Sto} {m0 m : MBk} {n N : Int}

theorem RI.still (R : RI w W0 W s0 m0 n N s m) (k : Quiet W W') : RI w W0 W' s0 m0 n N s m := ⟨R.pi.still k, R.q⟩
theorem RI.mono {n' : Int} (R : RI w W0 W s0 m0 n N s m) (h : n ≤ n') : RI w W0 W s0 m0 n' N s m :=
  ⟨⟨R.pi.mem, R.pi.nx, ⟨R.pi.log.inv.mono h, R.pi.log.is, fun d hd => by have := R.pi.log.bud d hd; have : n * 1048576 ≤ n' * 1048576 := Int.mul_le_mul_of_nonneg_right h (by omega); omega, R.pi.log.cms⟩, R.pi.cfg⟩, R.q.mono h⟩
theorem RI.dl (R : RI w W0 W s0 m0 n N s m) : (m.deals.length : Int) = N := (MBk.len_of R.pi.log).trans R.q.begun

theorem dealsCell (P : PI w W0 W s0 m0 n s m) : ∃ ad cd, W.cell? ⟨m0.bb, 1, none⟩ = some (.slice ad m.deals.length cd) := by
  obtain ⟨tag, B, -⟩ := P.mem.bk
  obtain ⟨ad, cd, hdv, -⟩ := B.dealsAt
  have c1 := B.cell.2.1
  rw [P.nx.bb, hdv] at c1
  exact ⟨ad, cd, c1⟩

theorem stepB (P : PI w W0 W s0 m0 n s m) (hn : n ≤ 2097152) : Calls Tryz.prog 18 #[.pointer (some ⟨m0.bb, 0, none⟩), .agg #[.int .i64 1, .int .i64 0, .string ⟨#[]⟩, .string ⟨#[]⟩, .slice none 0 0]] W fun e w' => e = .returned (.bool true) ∧ ∃ s' m', PI w W0 w' s0 m0 (n + 1) s' m' ∧ s'.abs = s.abs.beginR.2 := by
  have := step_h P.mem P.log hn ⟨1, 0, ⟨#[]⟩, ⟨#[]⟩, .slice none 0 0, []⟩ ⟨⟨by decide, by decide⟩, ⟨⟨none, 0, rfl, .inl rfl⟩, by simp⟩, fun b hb => by simp [heldBlock] at hb⟩ (by simp)
  simp only at this
  rw [P.nx.bb] at this
  refine this.mono fun e w' ⟨e1, e2⟩ => ⟨e1, ?_⟩
  obtain ⟨s2, m2, h, h1, h2, h3, _, _, h6⟩ := e2.ex
  exact ⟨s2, m2, ⟨h1, P.nx.trans h2, h3, h6.cfg.trans P.cfg⟩, h6.one rfl⟩

theorem RI.step (R : RI w W0 W s0 m0 n N s m) (hn : n ≤ 2097152) (o : StepD) (ho : StepOk w o) (hcs : o.cs.length ≤ 1048576) (hk : o.kind = 2 ∨ o.kind = 3) {t : Int} (ht : t = N ∨ t = N - 1) :
    Calls Tryz.prog 18 #[.pointer (some ⟨m0.bb, 0, none⟩), .agg #[.int .i64 o.kind, .int .i64 t, .string o.key, .string o.hi, o.lv]] W fun e w' => e = .returned (.bool true) ∧ (∃ s' m', RI w W0 w' s0 m0 (n + 1) N s' m') ∧ ∀ b, b < W.heap.size → ¬ (m.has b ∨ b ∈ s.foot) → w'.heap[b]? = W.heap[b]? := by
  have hN := R.q.N0
  have hdl := R.dl
  have hN2 : 2 ≤ N := by
    obtain ⟨t1, h1⟩ := R.q.act (N - 1) (by simp)
    have := (R.q.inv.hs t1 (act_mem' h1).1).1
    rw [(act_mem' h1).2.1] at this
    omega
  have := step_h R.pi.mem R.pi.log hn { o with t := t } ⟨⟨by show _ ≤ t; omega, by show t ≤ _; omega⟩, ho.ch, ho.lb⟩ hcs
  simp only at this
  rw [R.pi.nx.bb] at this
  refine this.mono fun e w' ⟨e1, e2⟩ => ⟨e1, ?_, ?_⟩
  · obtain ⟨s2, m2, h, h1, h2, h3, h4, h5, h6⟩ := e2.ex
    obtain ⟨M, K⟩ := h3.is
    refine ⟨s2, m2, ⟨h1, R.pi.nx.trans h2, h3, h6.cfg.trans R.pi.cfg⟩, Qs.reT (T := m.t) ?_ (sees_of K)⟩
    rcases hk with hk | hk
    · rw [h6.two hk]; exact (R.q.getR h _).mono (by omega)
    · rw [h6.three hk]; exact (R.q.scanR h _ _).mono (by omega)
  · obtain ⟨s2, m2, h, h1, h2, h3, h4, h5, h6⟩ := e2.ex
    exact fun b hb hn' => h2.keeps.block b hb hn'

theorem RI.active (R : RI w W0 W s0 m0 n N s m) (hn : n ≤ 4194304) {t : Int} (ht : t = N ∨ t = N - 1) :
    Calls Tryz.prog 24 #[.pointer (some ⟨m0.bb, 0, none⟩), .int .i64 t] W fun e w' => e = .returned (.bool true) ∧ w' = W := by
  have hN := R.q.N0
  have hdl := R.dl
  obtain ⟨tx, hx⟩ := R.q.act t (by rcases ht with rfl | rfl <;> simp)
  have h1 := (R.q.inv.hs tx (act_mem' hx).1)
  rw [(act_mem' hx).2.1, R.q.begun] at h1
  have := active_h R.pi.mem t (by omega) (by omega)
  obtain ⟨M, K⟩ := R.pi.log.is
  rw [R.pi.nx.bb, K.actB R.pi.log.inv t, hx] at this
  exact this

theorem RI.cq (R : RI w W0 W s0 m0 n N s m) (hn : n ≤ 4194304) : Cq w W0 W s0 m0 s m n N [N - 1, N] := ⟨R.pi.mem, R.pi.nx, R.q, hn⟩

end

section
variable {w W0 W W' : World} {s0 s : Sto} {m0 m : MBk} {n N : Int}

/-- a step beside one block that is new -/
theorem RI.stepN (R : RI w W0 W s0 m0 n N s m) (hn : n ≤ 2097152) (o : StepD) (ho : StepOk w o) (hcs : o.cs.length ≤ 1048576) (hk : o.kind = 2 ∨ o.kind = 3) {t : Int} (ht : t = N ∨ t = N - 1) (ob : Obj) :
    Calls Tryz.prog 18 #[.pointer (some ⟨m0.bb, 0, none⟩), .agg #[.int .i64 o.kind, .int .i64 t, .string o.key, .string o.hi, o.lv]] (W.alloc ob) fun e w' => e = .returned (.bool true) ∧ w'.heap[W.heap.size]? = some ob ∧ ∃ s' m', RI w W0 w' s0 m0 (n + 1) N s' m' := by
  have q : Quiet W (W.alloc ob) := Keeps.alloc _ _
  refine ((R.still q).step hn o ho hcs hk ht).mono fun e w' ⟨e1, e2, e3⟩ => ⟨e1, ?_, e2⟩
  rw [e3 W.heap.size (by simp) (fun h => by have := R.pi.mem.lt h; omega)]
  exact heap_alloc_new _ _

theorem Wq.still {k v : ByteArray} (C : Wq w W0 W s0 m0 s m n N k v) (q : Quiet W W') : Wq w W0 W' s0 m0 s m n N k v := ⟨C.mem.still q, C.nx.trans (Nx.quiet s m q), C.wr, C.hn⟩

theorem Wq.fullN {k v : ByteArray} (C : Wq w W0 W s0 m0 s m n N k v) (h : totV s.abs.vers = 128) (ob : Obj) :
    Calls Tryz.prog 25 #[.pointer (some ⟨s0.sb, 0, none⟩), .int .i64 (N + 1)] (W.alloc ob) fun e w' => e = .returned (.int .i64 6) ∧ w'.heap[W.heap.size]? = some ob ∧ Quiet w w' := by
  have q : Quiet W (W.alloc ob) := Keeps.alloc _ _
  refine ((C.still q).commitFull h).mono fun e w' ⟨e1, e2, e3⟩ => ⟨e1, ?_, e2⟩
  rw [e3.block W.heap.size (by simp) (fun h => by have := C.mem.lt h; omega)]
  exact heap_alloc_new _ _

theorem Wq.okN {k v : ByteArray} (C : Wq w W0 W s0 m0 s m n N k v) (h : totV s.abs.vers ≠ 128) (ob : Obj) :
    Calls Tryz.prog 25 #[.pointer (some ⟨s0.sb, 0, none⟩), .int .i64 (N + 1)] (W.alloc ob) fun e w' => e = .returned (.int .i64 0) ∧ w'.heap[W.heap.size]? = some ob ∧ ∃ s', Mem w w' s' m ∧ Nx W0 w' s0 s' m0 m ∧ s'.abs.Inv (n + 1 + 1) ∧ Cms s'.abs ∧ Idle s'.abs ∧ Sees s'.abs (tput m.t k v) := by
  have q : Quiet W (W.alloc ob) := Keeps.alloc _ _
  refine ((C.still q).commitOk h).mono fun e w' ⟨e1, e2, e3⟩ => ⟨e1, ?_, e2⟩
  rw [e3.block W.heap.size (by simp) (fun h => by have := C.mem.lt h; omega)]
  exact heap_alloc_new _ _

/-- the end: the table of the store, and what is wanted -/
structure CEnd (w W0 W : World) (s0 : Sto) (m0 m : MBk) (T : Tab) (av : Option Addr) (cv : Nat) : Prop where
  pr : PrAt W (.slice av T.length cv) T
  mem : ∃ s', Mem w W s' m ∧ Nx W0 W s0 s' m0 m

theorem end_final {T : Tab} (M : Mem w W s m) (N1 : Nx W0 W s0 s m0 m) (I : s.abs.Inv n) (hn : n ≤ 1000000000000) (C : Cms s.abs) (D : Idle s.abs) (S : Sees s.abs T) :
    Calls Tryz.prog 16 #[.pointer (some ⟨s0.sb, 0, none⟩)] W fun e w' => ∃ av cv, e = .returned (.tuple #[.slice av T.length cv, .bool true]) ∧ CEnd w W0 w' s0 m0 m T av cv := by
  have := final_h M I hn C D S
  rw [N1.sb] at this
  refine this.mono fun e w' ⟨v, e1, e2, s', e3, e4⟩ => ?_
  obtain ⟨av, cv, ev, -⟩ := id e2
  have ev' : v = .slice av T.length cv := ev
  subst ev'
  exact ⟨av, cv, e1, e2, s', e3, N1.trans e4⟩

theorem CEnd.put {T : Tab} {av : Option Addr} {cv : Nat} (E : CEnd w W0 W s0 m0 m T av cv) (k v : ByteArray) (hT : T = tput m.t k v) (hl : m.t.length ≤ 128) :
    ∃ at_ ct, W.cell? ⟨m0.bb, 2, none⟩ = some (.slice at_ m.t.length ct) ∧ Calls Tryz.prog 28 #[.slice at_ m.t.length ct, .string k, .string v] W fun e w' => ∃ av2 cv2, e = .returned (.slice av2 T.length cv2) ∧ PrAt w' (.slice av2 T.length cv2) T ∧ PrAt w' (.slice av T.length cv) T ∧ Quiet w w' := by
  obtain ⟨s', M, N1⟩ := E.mem
  obtain ⟨tag, B, -⟩ := M.bk
  have htb := B.tb
  obtain ⟨at_, ct, e, -⟩ := B.tb.at
  have c := B.cell.2.2.1
  rw [N1.bb, e] at c
  rw [e] at htb
  refine ⟨at_, ct, c, (tput_h W _ _ _ htb (by omega) k v).mono fun e w' ⟨v', e1, e2, e3⟩ => ?_⟩
  subst hT
  have hp := PrAt.of_sl e2
  obtain ⟨av2, cv2, ev, -⟩ := id hp
  have ev' : v' = .slice av2 (tput m.t k v).length cv2 := ev
  subst ev'
  exact ⟨av2, cv2, e1, hp, E.pr.quiet e3, Quiet.trans' M.quiet e3⟩

theorem oneE (k v : ByteArray) : ((k.size : Int) < 1 ∨ 4 < (k.size : Int) → changesE [(k, v, false)] = 3) ∧ (¬ (k.size : Int) < 1 → ¬ 4 < (k.size : Int) → (8 < (v.size : Int) → changesE [(k, v, false)] = 4) ∧ (¬ 8 < (v.size : Int) → changesE [(k, v, false)] = 0)) := by
  have := chg_step (cs := [(k, v, false)]) (n := 0) (c := (k, v, false)) rfl (e := 0) rfl
  exact this

theorem PI.riStart {s4 s6 : Sto} {m4 m6 : MBk} {W4 W6 : World} {n4 n6 : Int} (P4 : PI w W0 W4 s0 m0 n4 s4 m4) (h40 : s4.abs.txs = []) (hcfg : s0.abs.c1 = 32 ∧ s0.abs.c3 = 16 ∧ s0.abs.c4 = 128) (P6 : PI w W0 W6 s0 m0 n6 s6 m6) (ha : s6.abs = s4.abs.beginR.2.beginR.2) :
    RI w W0 W6 s0 m0 n6 m6.deals.length s6 m6 := by
  obtain ⟨M, K⟩ := P6.log.is
  have I6 := P6.log.inv
  have C6 := P6.log.cms
  have hl := MBk.len_of P6.log
  rw [ha] at K I6 C6 hl
  have Q := Qs.start P4.log.inv h40 (P4.cfg.c1.trans hcfg.1) (P4.cfg.c3.trans hcfg.2.1) (P4.cfg.c4.trans hcfg.2.2) I6 C6 K
  have hb := Q.begun
  refine ⟨P6, ?_⟩
  rw [ha]
  have e1 : (m6.deals.length : Int) = s4.abs.begun + 2 := hl.trans hb
  have e2 : s4.abs.begun + 2 - 1 = s4.abs.begun + 1 := by omega
  rw [e1, e2]
  exact Q

end
end Go.Proofs.YthfimgeopciiiaaGreat

/-
  Calm: the walk.
-/
namespace Go.Proofs.YthfimgeopciiiaaGreat
open Go.MapKept Go.ChangeMaps Go.Maps Go.RowKit Go.MuLone
set_option linter.unusedVariables false

set_option maxRecDepth 100000 in
set_option maxHeartbeats 3000000 in
theorem calm_h (w : World) (v : Value) (l : List StepD) (hl : ScriptAt w v l) (rv : Value) (rl : List StepD) (hrl : ScriptAt w rv rl) (key value : ByteArray) (hlen : l.length + rl.length ≤ 1048574) (hcs : ∀ o ∈ l, o.cs.length ≤ 1048576) (hrs : ∀ o ∈ rl, o.cs.length ≤ 1048576) :
    Calls Tryz.prog 7 #[v, rv, .string key, .string value] w fun e w' => e = .returned (.bool true) ∧ Quiet w w' := by
  have hneq : ∀ (g : Nat) (W : World), (binOp .eql 29 (.pointer (some ⟨g, 0, none⟩)) (.pointer none)).run Tryz.prog W = .ok (.bool false) W := fun g W => by kernel_rfl
  have HW : Hid (∀ W, Calls Tryz.prog 21 #[] W fun e w' => e = .returned (.agg #[.int .i64 32, .int .i64 64, .int .i64 16, .int .i64 128]) ∧ Quiet W w') := fun W => whole_h W
  have HOp : Hid (∀ W, Quiet w W → Calls Tryz.prog 13 #[.agg #[.int .i64 32, .int .i64 64, .int .i64 16, .int .i64 128]] W fun e w' => ∃ sb, e = .returned (.tuple #[.pointer (some ⟨sb, 0, none⟩), .bool true]) ∧ ∃ s, s.sb = sb ∧ (s.abs.c1 = 32 ∧ s.abs.c3 = 16 ∧ s.abs.c4 = 128) ∧ PI w (w'.alloc (.cells #[.pointer (some ⟨sb, 0, none⟩), .slice none 0 0, .slice none 0 0, .slice none 0 0] 38)) (w'.alloc (.cells #[.pointer (some ⟨sb, 0, none⟩), .slice none 0 0, .slice none 0 0, .slice none 0 0] 38)) s (MBk.init w'.heap.size sb) 0 s (MBk.init w'.heap.size sb)) := fun W hW => (opened_ok 32 64 16 128 W rfl).mono fun e w' ⟨N, e1, e2, e3, e4⟩ => by
    refine ⟨N + 2, e1, newSto 32 64 16 128 N (N + 2), rfl, ⟨rfl, rfl, rfl⟩, PI.start (start_mem (Quiet.trans' hW e4) e3 rfl (fun x hx => ?_)) (start_log rfl _ _ _ _)⟩
    have := (newSto_foot x hx).1
    have := hW.size
    omega
  have HL := hidC' hl
  have HCs := hidC' hcs
  have HRs := hidC' hrs
  obtain ⟨⟨ra, rcap, rfl, hrc⟩, hrok, -⟩ := hrl
  have HROk : Hid (∀ s ∈ rl, StepOk w s) := hrok
  clear hl hcs hrs hrok
  go_enter Tryz.func7, Tryz.ntmps7
  go_wp2_with (first
    | (go_at_call 21; refine (HW.out _).mono ?_; rintro e w0 ⟨rfl, hq0⟩)
    | (go_at_call 13; refine (HOp.out _ hq0).mono ?_; rintro e w1 ⟨sb, rfl, s0, hsb, hcfg, P0⟩; have HPl := hidC (plays_at P0 v l HL.out (by omega) HCs.out); clear P0)
    | (go_at_call 14; refine HPl.out.mono ?_; rintro e w2 ⟨rfl, s2, m2, P2⟩; have HEn := hidC (ends_at P2 (by omega)); have hd2 := P2.deals; clear P2)
    | (go_at_call 15; refine HEn.out.mono ?_; rintro e w3 ⟨rfl, s3, m3, P3, D3⟩; have HCn := clean_at P3 D3; rw [hsb] at HCn; have HCn := hidC HCn; clear P3 D3)
    | (go_at_call 20; refine HCn.out.mono ?_; rintro e w4 ⟨rfl, s4, P4, h40, hv4, -, -⟩; have HS1 := hidC (stepB P4 (by omega)); have HP4 := hidC' (And.intro P4 h40); clear P4 h40 hv4)
    | (go_at_call 18; refine HS2.out.mono ?_; rintro e w6 ⟨rfl, s6, m6, P6, ha6⟩; have HP6 := hidC' (And.intro P6 ha6); obtain ⟨ad6, cd6, c16⟩ := dealsCell P6; change w6.cell? ⟨w1.heap.size, 1, none⟩ = _ at c16; clear P6 ha6)
    | (go_at_call 18; refine HS1.out.mono ?_; rintro e w5 ⟨rfl, s5, m5, P5, ha5⟩; have HS2 := hidC (stepB P5 (by omega)); have HP5 := hidC' (And.intro P5 ha5); clear P5 ha5))
  subst hsb
  obtain ⟨n0, hn0⟩ : ∃ n0 : Nat, (0 : Int) + l.length + m2.deals.length + 1 + 1 + 1 = n0 := ⟨l.length + m2.deals.length + 3, by omega⟩
  have hnb : n0 + rl.length ≤ 2097152 := by omega
  have HRI := hidC' (PI.riStart HP4.out.1 HP4.out.2 hcfg HP6.out.1 (by rw [HP6.out.2, HP5.out.2]))
  rw [hn0] at HRI
  have hN2 : 2 ≤ (m6.deals.length : Int) ∧ (m6.deals.length : Int) ≤ 2097152 := by
    have h1 := HRI.out.q.N0
    obtain ⟨t1, ht1⟩ := HRI.out.q.act (m6.deals.length - 1) (by simp)
    have h2 := (HRI.out.q.inv.hs t1 (act_mem' ht1).1).1
    rw [(act_mem' ht1).2.1] at h2
    omega
  clear HP4 HP5 HP6 HS1 HS2 HCn HEn HPl HL HCs hcfg hneq HOp HW hd2 c16
  generalize m6.deals.length = N at *
  generalize w1.alloc (.cells #[.pointer (some ⟨s0.sb, 0, none⟩), .slice none 0 0, .slice none 0 0, .slice none 0 0] 38) = WB at *
  go_loopw [10, 16] (fun u i wr => ∃ (k : Nat) (s' : Sto) (m' : MBk), u = .bool true ∧ i = .int .i64 k ∧ k ≤ rl.length ∧ Hid (RI w WB wr s0 (MBk.init w1.heap.size s0.sb) (n0 + k) N s' m')) (fun _ i _ => rl.length - (intOf i).toNat)
  case atStart => exact ⟨0, s6, m6, rfl, rfl, Nat.zero_le _, by simpa using HRI⟩
  case round =>
    obtain ⟨k, s', m', rfl, rfl, hk, HR⟩ := hrel
    by_cases hlt : k < rl.length
    · have hlt' : (k : Int) < (rl.length : Int) := by omega
      rcases hrc with h0 | ⟨g, o, rfl, hg, hcell⟩
      · rw [h0] at hlt; simp at hlt
      obtain ⟨d, hd⟩ : ∃ d, rl[k]? = some d := ⟨_, List.getElem?_eq_getElem hlt⟩
      obtain ⟨p0, p1, p2, p3, p4⟩ := hcell k d hd
      have hqr := HR.out.pi.mem.quiet
      rw [← hqr.cell hg (by simp)] at p0 p1 p2 p3 p4
      have hgr : g < wr.heap.size := by have := hqr.size; omega
      have hdm := List.mem_of_getElem? hd
      obtain ⟨la, lcap, hlv, -⟩ := (HROk.out d hdm).ch.sh
      have HS : Hid (d.kind = 2 ∨ d.kind = 3 → ∀ (t : Int), t = N ∨ t = N - 1 → ∀ ob, Calls Tryz.prog 18 #[.pointer (some ⟨w1.heap.size, 0, none⟩), .agg #[.int .i64 d.kind, .int .i64 t, .string d.key, .string d.hi, d.lv]] (wr.alloc ob) fun e w' => e = .returned (.bool true) ∧ w'.heap[wr.heap.size]? = some ob ∧ ∃ s' m', RI w WB w' s0 (MBk.init w1.heap.size s0.sb) (n0 + k + 1) N s' m') := fun h2 t ht ob => HR.out.stepN (by omega) d (HROk.out d hdm) (HRs.out d hdm) h2 ht ob
      have HA : Hid (∀ (t : Int), t = N ∨ t = N - 1 → ∀ W s m, RI w WB W s0 (MBk.init w1.heap.size s0.sb) (n0 + k + 1) N s m → Calls Tryz.prog 24 #[.pointer (some ⟨w1.heap.size, 0, none⟩), .int .i64 t] W fun e w' => e = .returned (.bool true) ∧ w' = W) := fun t ht W s m R => R.active (by omega) ht
      rw [hlv] at p4 HS
      clear hcell hd hdm HROk HRs hqr
      have HR1 : Hid (∀ ob, RI w WB (wr.alloc ob) s0 (MBk.init w1.heap.size s0.sb) (n0 + (k + 1 : Nat)) N s' m') := fun ob => (HR.out.still (Keeps.alloc _ _)).mono (by omega)
      clear HR HRI
      by_cases h2 : d.kind = 2
      · have HS := hidC' (HS.out (.inl h2))
        rw [h2] at HS p0
        clear h2
        by_cases ht : (d.t.tmod 2 == 0) = true
        · skip
          go_wp2_with (first
            | (go_at_call 18; refine (HS.out ((N : Int) - 1) (Or.inr rfl) _).mono ?_; rintro e w7 ⟨rfl, hb7, s7, m7, R7⟩; have x1 : w7.cell? ⟨wr.heap.size, 1, none⟩ = some (.int .i64 ((N : Int) - 1)) := (by rw [cell_of_heap hb7]; rfl); have HA' := hidC (HA.out ((N : Int) - 1) (Or.inr rfl) _ _ _ R7); have HR7 := hidC' R7; clear R7)
            | (go_at_call 24; refine HA'.out.mono ?_; rintro e w8 ⟨rfl, rfl⟩))
          exact ⟨⟨k + 1, s7, m7, rfl, by go_num, by omega, by rw [show (n0 : Int) + ((k + 1 : Nat) : Int) = n0 + k + 1 by omega]; first | exact HR7 | exact HR7.out.still (quiet_drewN _ _)⟩, by simp [intOf]; omega⟩
        · skip
          go_wp2_with (first
            | (go_at_call 18; refine (HS.out (N : Int) (Or.inl rfl) _).mono ?_; rintro e w7 ⟨rfl, hb7, s7, m7, R7⟩; have x1 : w7.cell? ⟨wr.heap.size, 1, none⟩ = some (.int .i64 (N : Int)) := (by rw [cell_of_heap hb7]; rfl); have HA' := hidC (HA.out (N : Int) (Or.inl rfl) _ _ _ R7); have HR7 := hidC' R7; clear R7)
            | (go_at_call 24; refine HA'.out.mono ?_; rintro e w8 ⟨rfl, rfl⟩))
          exact ⟨⟨k + 1, s7, m7, rfl, by go_num, by omega, by rw [show (n0 : Int) + ((k + 1 : Nat) : Int) = n0 + k + 1 by omega]; first | exact HR7 | exact HR7.out.still (quiet_drewN _ _)⟩, by simp [intOf]; omega⟩
      · have h2a : (d.kind != 2) = true := by simp [h2]
        by_cases h3 : d.kind = 3
        · have HS := hidC' (HS.out (.inr h3))
          rw [h3] at HS p0
          clear h2 h2a h3
          by_cases ht : (d.t.tmod 2 == 0) = true
          · skip
            go_wp2_with (first
              | (go_at_call 18; refine (HS.out ((N : Int) - 1) (Or.inr rfl) _).mono ?_; rintro e w7 ⟨rfl, hb7, s7, m7, R7⟩; have x1 : w7.cell? ⟨wr.heap.size, 1, none⟩ = some (.int .i64 ((N : Int) - 1)) := (by rw [cell_of_heap hb7]; rfl); have HA' := hidC (HA.out ((N : Int) - 1) (Or.inr rfl) _ _ _ R7); have HR7 := hidC' R7; clear R7)
              | (go_at_call 24; refine HA'.out.mono ?_; rintro e w8 ⟨rfl, rfl⟩))
            exact ⟨⟨k + 1, s7, m7, rfl, by go_num, by omega, by rw [show (n0 : Int) + ((k + 1 : Nat) : Int) = n0 + k + 1 by omega]; first | exact HR7 | exact HR7.out.still (quiet_drewN _ _)⟩, by simp [intOf]; omega⟩
          · skip
            go_wp2_with (first
              | (go_at_call 18; refine (HS.out (N : Int) (Or.inl rfl) _).mono ?_; rintro e w7 ⟨rfl, hb7, s7, m7, R7⟩; have x1 : w7.cell? ⟨wr.heap.size, 1, none⟩ = some (.int .i64 (N : Int)) := (by rw [cell_of_heap hb7]; rfl); have HA' := hidC (HA.out (N : Int) (Or.inl rfl) _ _ _ R7); have HR7 := hidC' R7; clear R7)
              | (go_at_call 24; refine HA'.out.mono ?_; rintro e w8 ⟨rfl, rfl⟩))
            exact ⟨⟨k + 1, s7, m7, rfl, by go_num, by omega, by rw [show (n0 : Int) + ((k + 1 : Nat) : Int) = n0 + k + 1 by omega]; first | exact HR7 | exact HR7.out.still (quiet_drewN _ _)⟩, by simp [intOf]; omega⟩
        · have h3a : (d.kind != 3) = true := by simp [h3]
          clear HS HA
          go_wp2
          exact ⟨⟨k + 1, s', m', rfl, by go_num, by omega, HR1.out _⟩, by simp [intOf]; omega⟩
    · have hge : ¬ (k : Int) < (rl.length : Int) := by omega
      have HC1 := hidC ((HR.out.cq (by omega)).commit (h := N) (by simp) (wf_i64 (by omega) (by omega)) (by omega))
      have he1 : ([(N : Int) - 1, (N : Int)].filter fun j => decide (j ≠ (N : Int))) = [(N : Int) - 1] := by
        have : (N : Int) - 1 ≠ N := by omega
        simp [List.filter, this]
      have he2 : ([(N : Int) - 1].filter fun j => decide (j ≠ (N : Int) - 1)) = [] := by simp
      have htl := HR.out.pi.tlen
      obtain ⟨hE1, hE2⟩ := oneE key value
      clear hrc HROk HRs HRI HR
      by_cases hk1 : (key.size : Int) < 1
      · have hE := hE1 (.inl hk1)
        clear hE1 hE2
        go_wp2_with (first
          | (go_at_call 25; refine HC2.out.mono ?_; rintro e w8 ⟨rfl, s8, C8⟩; rw [he2] at C8; have HB := hidC C8.begin; have HC8 := hidC' C8; clear HC2 C8)
          | (go_at_call 25; refine HC1.out.mono ?_; rintro e w7 ⟨rfl, s7, C7⟩; rw [he1] at C7; have HC2 := hidC (C7.commit (h := (N : Int) - 1) (by simp) (wf_i64 (by omega) (by omega)) (by omega)); clear HC1 C7)
          | (go_at_call 26; refine HB.out.mono ?_; rintro e w9 ⟨rfl, s9, M9, N9, ha9⟩; have HWr := M9.writeC N9 HC8.out.q ha9 (by omega) key value; rw [hE] at HWr; have HWr := hidC HWr; clear HB HC8 M9 N9 ha9)
          | (go_at_call 27; refine HWr.out.mono ?_; rintro e w10 ⟨rfl, s10, M10, N10, hW10⟩; have HQ10 := hidC' M10.quiet; clear HWr M10 N10 hW10))
        go_ret
        exact ⟨rfl, HQ10.out⟩
      by_cases hk2 : 4 < (key.size : Int)
      · have hE := hE1 (.inr hk2)
        clear hE1 hE2
        go_wp2_with (first
          | (go_at_call 25; refine HC2.out.mono ?_; rintro e w8 ⟨rfl, s8, C8⟩; rw [he2] at C8; have HB := hidC C8.begin; have HC8 := hidC' C8; clear HC2 C8)
          | (go_at_call 25; refine HC1.out.mono ?_; rintro e w7 ⟨rfl, s7, C7⟩; rw [he1] at C7; have HC2 := hidC (C7.commit (h := (N : Int) - 1) (by simp) (wf_i64 (by omega) (by omega)) (by omega)); clear HC1 C7)
          | (go_at_call 26; refine HB.out.mono ?_; rintro e w9 ⟨rfl, s9, M9, N9, ha9⟩; have HWr := M9.writeC N9 HC8.out.q ha9 (by omega) key value; rw [hE] at HWr; have HWr := hidC HWr; clear HB HC8 M9 N9 ha9)
          | (go_at_call 27; refine HWr.out.mono ?_; rintro e w10 ⟨rfl, s10, M10, N10, hW10⟩; have HQ10 := hidC' M10.quiet; clear HWr M10 N10 hW10))
        go_ret
        exact ⟨rfl, HQ10.out⟩
      by_cases hv : 8 < (value.size : Int)
      · have hE := (hE2 hk1 hk2).1 hv
        clear hE1 hE2
        go_wp2_with (first
          | (go_at_call 25; refine HC2.out.mono ?_; rintro e w8 ⟨rfl, s8, C8⟩; rw [he2] at C8; have HB := hidC C8.begin; have HC8 := hidC' C8; clear HC2 C8)
          | (go_at_call 25; refine HC1.out.mono ?_; rintro e w7 ⟨rfl, s7, C7⟩; rw [he1] at C7; have HC2 := hidC (C7.commit (h := (N : Int) - 1) (by simp) (wf_i64 (by omega) (by omega)) (by omega)); clear HC1 C7)
          | (go_at_call 26; refine HB.out.mono ?_; rintro e w9 ⟨rfl, s9, M9, N9, ha9⟩; have HWr := M9.writeC N9 HC8.out.q ha9 (by omega) key value; rw [hE] at HWr; have HWr := hidC HWr; clear HB HC8 M9 N9 ha9)
          | (go_at_call 27; refine HWr.out.mono ?_; rintro e w10 ⟨rfl, s10, M10, N10, hW10⟩; have HQ10 := hidC' M10.quiet; clear HWr M10 N10 hW10))
        go_ret
        exact ⟨rfl, HQ10.out⟩
      have hE := (hE2 hk1 hk2).2 hv
      clear hE1 hE2
      go_wp2_with (first
        | (go_at_call 25; refine HC2.out.mono ?_; rintro e w8 ⟨rfl, s8, C8⟩; rw [he2] at C8; have HB := hidC C8.begin; have HC8 := hidC' C8; clear HC2 C8)
        | (go_at_call 25; refine HC1.out.mono ?_; rintro e w7 ⟨rfl, s7, C7⟩; rw [he1] at C7; have HC2 := hidC (C7.commit (h := (N : Int) - 1) (by simp) (wf_i64 (by omega) (by omega)) (by omega)); clear HC1 C7)
        | (go_at_call 26; refine HB.out.mono ?_; rintro e w9 ⟨rfl, s9, M9, N9, ha9⟩; have HWr := M9.writeC N9 HC8.out.q ha9 (by omega) key value; rw [hE] at HWr; have HWr := hidC HWr; clear HB HC8 M9 N9 ha9)
        | (go_at_call 27; refine HWr.out.mono ?_; rintro e w10 ⟨rfl, s10, M10, N10, hW10⟩; have HT := hidC (hW10 (by simp)).told; clear HWr M10 N10 hW10))
      refine HT.out.mono ?_
      rintro e w11 ⟨y0, y1, y2, y3, rfl, C11⟩
      clear HT
      by_cases hV : totV s10.abs.vers = 128
      · have HC3 := hidC (C11.fullN hV (.cells #[.int .i64 y0, .int .i64 y1, .int .i64 y2, .int .i64 y3, .int .i64 ((totV s10.abs.vers : Nat) : Int)] 50))
        rw [hV] at HC3 ⊢
        clear C11
        go_wp2_with (go_at_call 25; refine HC3.out.mono ?_; rintro e w12 ⟨rfl, hb12, hq12⟩; have z4 : w12.cell? ⟨w11.heap.size, 4, none⟩ = some (.int .i64 128) := (by rw [cell_of_heap hb12]; rfl); clear HC3)
        go_ret
        exact ⟨rfl, hq12⟩
      · have HC3 := C11.okN hV (.cells #[.int .i64 y0, .int .i64 y1, .int .i64 y2, .int .i64 y3, .int .i64 ((totV s10.abs.vers : Nat) : Int)] 50)
        obtain ⟨T, hT⟩ : ∃ T, T = tput m'.t key value := ⟨_, rfl⟩
        rw [← hT] at HC3
        have HC3 := hidC HC3
        have HTe := hidC' hT
        clear C11 hT
        generalize totV s10.abs.vers = V at *
        have hV1 : ((V : Int) == 128) = false := by simp; omega
        have hV2 : ¬ (V : Int) = 128 := by omega
        go_wp2_with (first
          | (go_at_call 25; refine HC3.out.mono ?_; rintro e w12 ⟨rfl, hb12, s12, M12, N12, I12, C12, D12, S12⟩; have z4 : w12.cell? ⟨w11.heap.size, 4, none⟩ = some (.int .i64 (V : Int)) := (by rw [cell_of_heap hb12]; rfl); have hTl := sees_len I12 S12; have HFi := hidC (end_final M12 N12 I12 (by omega) C12 D12 S12); clear HC3 M12 N12 I12 C12 D12 S12)
          | (go_at_call 16; refine HFi.out.mono ?_; rintro e w13 ⟨av, cv, rfl, E13⟩; obtain ⟨at_, ct, c2, hPut⟩ := E13.put key value HTe.out htl; change w13.cell? ⟨w1.heap.size, 2, none⟩ = _ at c2; change Calls _ _ _ w13 _ at hPut; have HPut := hidC hPut; clear HFi E13 hPut)
          | (go_at_call 28; refine HPut.out.mono ?_; rintro e w14 ⟨av2, cv2, rfl, hp1, hp2, hq14⟩; have HSa := hidC (same_self w14 _ _ _ hp1 hp2 (by omega)); clear HPut hp1 hp2)
          | (go_at_call 17; refine HSa.out.mono ?_; rintro e w15 ⟨rfl, hq15⟩))
        go_ret
        exact ⟨rfl, Quiet.trans' hq14 hq15⟩

end Go.Proofs.YthfimgeopciiiaaGreat
