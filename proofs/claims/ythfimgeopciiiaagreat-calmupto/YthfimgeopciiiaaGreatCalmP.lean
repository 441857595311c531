/-
  Calm, of plain data: who only reads is not aborted, and commits; one alone commits what it writes. No world, no program.
-/
import Derived.Test.YthfimgeopciiiaaGreatBookL
namespace Go.Proofs.YthfimgeopciiiaaGreat
set_option linter.unusedVariables false

/-- the greatest configuration, two records of readers; of which are active just those of the list -/
structure Qs (a : Abs) (n N : Int) (T : Tab) (acts : List Int) : Prop where
  inv : a.Inv n
  cms : Cms a
  c1 : a.c1 = 32
  c3 : a.c3 = 16
  c4 : a.c4 = 128
  len : a.txs.length = 2
  wr : ∀ t ∈ a.txs, t.wr = [] ∧ t.i = false
  st : ∀ k, ∀ x ∈ a.vs k, x.1 ≤ a.clock
  sees : Sees a T
  begun : a.begun = N
  act : ∀ h ∈ acts, ∃ t, a.act? h = some t
  done : ∀ t ∈ a.txs, t.cm = 0 → t.h ∈ acts

theorem act_map {a : Abs} (f : Tx → Tx) (hh : ∀ t, (f t).h = t.h) (hc : ∀ t, (f t).cm = t.cm) (h : Int) : ({ a with txs := a.txs.map f } : Abs).act? h = (a.act? h).map f := by
  unfold Abs.act?
  rw [List.find?_map]
  have e : ((fun t : Tx => decide (t.h = h)) ∘ f) = fun t => decide (t.h = h) := by funext t; simp [hh]
  rw [e]
  cases a.txs.find? (fun t => decide (t.h = h)) with
  | none => rfl
  | some t =>
    by_cases e0 : t.cm = 0
    · simp [Option.filter, hc, e0]
    · simp [Option.filter, hc, e0]

section
variable {a a' : Abs} {n N : Int} {T : Tab} {acts : List Int}

theorem Qs.any (Q : Qs a n N T acts) (t : Tx) (e : Ent) : a.txs.any (passB t (wroteT e)) = false := by
  rw [List.any_eq_false]
  intro x hx
  have : wroteT e x = false := by unfold wroteT; rw [(Q.wr x hx).1]; rfl
  simp [passB, this]

theorem Qs.readR (Q : Qs a n N T acts) {t : Tx} (ht : t ∈ a.txs) (e : Ent) : Qs (a.readR t e).2 n N T acts := by
  have hok : a.okR t e = true := by
    unfold Abs.okR
    have : a.txs.any (fun x => passB t (wroteT e) x && comInB x.cm x.o) = false := by
      rw [List.any_eq_false]
      intro x hx
      have := List.any_eq_false.1 (Q.any t e) x hx
      simp at this
      simp [this]
    rw [this]; rfl
  have I := Q.inv.readR ht e
  unfold Abs.readR at *
  by_cases hr : a.room t e = false
  · rw [if_pos hr]; exact Q
  · rw [if_neg hr, if_neg (by rw [hok]; simp)] at I ⊢
    have e1 : ∀ x ∈ a.txs, (readX (a.txs.any (passB t (wroteT e))) t e x).wr = x.wr ∧ (readX (a.txs.any (passB t (wroteT e))) t e x).i = x.i := fun x hx => by
      refine ⟨rfl, ?_⟩
      have := List.any_eq_false.1 (Q.any t e) x hx
      simp only [readX]
      simp at this
      simp [this]
    refine { inv := I, cms := Q.cms.mapT _ (fun _ => rfl), c1 := Q.c1, c3 := Q.c3, c4 := Q.c4, len := ?_, wr := fun x hx => ?_, st := Q.st, sees := Q.sees, begun := Q.begun, act := fun h hh => ?_, done := fun x hx hc => ?_ }
    · show (a.txs.map _).length = 2
      rw [List.length_map]; exact Q.len
    · obtain ⟨u, hu, rfl⟩ := List.mem_map.1 hx
      rw [(e1 u hu).1, (e1 u hu).2]; exact Q.wr u hu
    · obtain ⟨u, hu⟩ := Q.act h hh
      refine ⟨readX (a.txs.any (passB t (wroteT e))) t e u, ?_⟩
      exact (act_map (a := a) (readX (a.txs.any (passB t (wroteT e))) t e) (fun _ => rfl) (fun _ => rfl) h).trans (by rw [hu]; rfl)
    · obtain ⟨u, hu, rfl⟩ := List.mem_map.1 hx
      exact Q.done u hu hc

theorem Qs.getR (Q : Qs a n N T acts) (h : Int) (k : ByteArray) : Qs (a.getR h k).2 n N T acts := by
  unfold Abs.getR
  cases ha : a.act? h with
  | none => exact Q
  | some t =>
    have hm := (act_mem' ha).1
    simp only
    split
    · exact Q
    · rw [(Q.wr t hm).1]
      simp only [look]
      split <;> exact Q.readR hm _

theorem Qs.scanR (Q : Qs a n N T acts) (h : Int) (lo hi : ByteArray) : Qs (a.scanR h lo hi).2 n N T acts := by
  unfold Abs.scanR
  cases ha : a.act? h with
  | none => exact Q
  | some t =>
    have hm := (act_mem' ha).1
    simp only
    split
    · exact Q
    · split <;> exact Q.readR hm _

theorem vs_comm_nil {t : Tx} (C : CommIs a t a') (hw : t.wr = []) (k : ByteArray) : a'.vs k = a.vs k := by
  obtain ⟨done, hd, hv⟩ := C.vers
  rw [hw] at hd
  have : done = [] := hd.eq_nil
  unfold Abs.vs
  rw [hv, this]; rfl

/-- a reader commits -/
theorem Qs.commR (Q : Qs a n N T acts) {h : Int} (hh : h ∈ acts) : ∃ t, a.commR h = (0, a, some t) ∧ ∀ a', CommIs a t a' → Qs a' (n + 1) N T (acts.filter fun j => decide (j ≠ h)) := by
  obtain ⟨t, ht⟩ := Q.act h hh
  obtain ⟨hm, hth, hcm⟩ := act_mem' ht
  obtain ⟨hw, hi⟩ := Q.wr t hm
  have hv := Q.inv.vers
  refine ⟨t, ?_, fun a' C => ?_⟩
  · unfold Abs.commR
    rw [ht]
    simp only
    rw [if_neg (by rw [hi]; simp), if_neg (by rw [hw]; simp; omega)]
  · have I' := Q.inv.comm hm (by rw [hw]; simpa using hv) C
    have hk := Q.inv.clock
    have hmem : ∀ x ∈ a'.txs, ∃ u ∈ a.txs, x = commX (a.clock + 1) t.h u := fun x hx => by
      rw [C.txs, commA_txs] at hx
      obtain ⟨u, hu, e⟩ := List.mem_map.1 hx
      exact ⟨u, hu, e.symm⟩
    refine { inv := I', cms := Q.cms.comm C, c1 := C.c1.trans Q.c1, c3 := C.c3.trans Q.c3, c4 := C.c4.trans Q.c4, len := ?_, wr := fun x hx => ?_, st := fun k x hx => ?_, sees := ⟨Q.sees.1, fun k => ?_⟩, begun := C.begun.trans Q.begun, act := fun j hj => ?_, done := fun x hx hc => ?_ }
    · rw [C.txs, commA_txs, List.length_map]; exact Q.len
    · obtain ⟨u, hu, rfl⟩ := hmem x hx
      rw [commX_wr]
      refine ⟨(Q.wr u hu).1, ?_⟩
      have : (commX (a.clock + 1) t.h u).i = u.i := by unfold commX; split <;> rfl
      rw [this]; exact (Q.wr u hu).2
    · rw [vs_comm_nil C hw] at hx
      have := Q.st k x hx
      rw [C.clock]; omega
    · rw [Q.sees.2 k, vs_comm_nil C hw, C.clock, snap_stamps (Q.st k) (by omega : a.clock ≤ a.clock + 1)]
    · obtain ⟨hj1, hj2⟩ := List.mem_filter.1 hj
      have hne : j ≠ h := by simpa using hj2
      obtain ⟨u, hu⟩ := Q.act j hj1
      obtain ⟨um, uh, uc⟩ := act_mem' hu
      have e : commX (a.clock + 1) t.h u = u := by unfold commX; rw [if_neg (by rw [uh, hth]; exact hne)]
      refine ⟨u, ?_⟩
      rw [← uh]
      refine act_of_mem I' ?_ uc
      rw [C.txs, commA_txs]
      exact List.mem_map.2 ⟨u, um, e⟩
    · obtain ⟨u, hu, rfl⟩ := hmem x hx
      by_cases e : u.h = t.h
      · unfold commX at hc
        rw [if_pos e] at hc
        simp at hc
        omega
      · have e2 : commX (a.clock + 1) t.h u = u := by unfold commX; rw [if_neg e]
        rw [e2] at hc ⊢
        exact List.mem_filter.2 ⟨Q.done u hu hc, by simpa [← hth] using e⟩

/-! ### one that runs alone -/

/-- one has begun, beside two that have ended -/
theorem Qs.begin (Q : Qs a n N T []) : a.beginR.1 = (N + 1, 0) ∧ a.beginR.2 = { a with begun := a.begun + 1, txs := a.txs ++ [a.newTx] } ∧ a.beginR.2.act? (N + 1) = some a.newTx := by
  have hl := Q.len
  have hroom : ¬ a.c1 ≤ a.txs.length := by rw [Q.c1, hl]; decide
  have e2 : a.beginR.2 = { a with begun := a.begun + 1, txs := a.txs ++ [a.newTx] } := by unfold Abs.beginR; rw [if_neg hroom]; rfl
  refine ⟨by unfold Abs.beginR; rw [if_neg hroom, Q.begun], e2, ?_⟩
  have := act_of_mem (Q.inv.beginR) (t := a.newTx) (by rw [e2]; simp) rfl
  rw [← Q.begun]
  exact this

/-- what it writes -/
structure Wr (a : Abs) (n N : Int) (T : Tab) (k v : ByteArray) (a10 : Abs) (t : Tx) : Prop where
  inv : a10.Inv (n + 1)
  cms : Cms a10
  c4 : a10.c4 = 128
  act : a10.act? (N + 1) = some t
  wr : t.wr = [(k, (v, false))]
  o : t.o = false
  vers : a10.vers = a.vers
  clock : a10.clock = a.clock
  done : ∀ x ∈ a10.txs, x.cm = 0 → x.h = N + 1

theorem Qs.writeBad (Q : Qs a n N T []) (k v : ByteArray) (hE : changesE [(k, v, false)] ≠ 0) : (a.beginR.2.writeR (N + 1) [(k, v, false)]) = (changesE [(k, v, false)], a.beginR.2) := by
  unfold Abs.writeR
  rw [Q.begin.2.2]
  simp only
  rw [if_pos hE]

theorem Qs.writeOk (Q : Qs a n N T []) (k v : ByteArray) (hE : changesE [(k, v, false)] = 0) : ∃ t, (a.beginR.2.writeR (N + 1) [(k, v, false)]).1 = 0 ∧ Wr a n N T k v (a.beginR.2.writeR (N + 1) [(k, v, false)]).2 t := by
  obtain ⟨b1, b2, b3⟩ := Q.begin
  have hI := Q.inv.hs
  have hcl : a.beginR.2.clash a.newTx [(k, v, false)] = false := by
    unfold Abs.clash
    have h1 : a.beginR.2.held a.newTx k = false := by
      unfold Abs.held
      rw [List.any_eq_false]
      intro x hx
      rw [b2] at hx
      have : look x.wr k = none := by
        rcases List.mem_append.1 hx with h | h
        · rw [(Q.wr x h).1]; rfl
        · simp at h; subst h; rfl
      simp [this]
    have h2 : newerB (a.beginR.2.vs k) a.newTx.bg = false := by
      have e : a.beginR.2.vs k = a.vs k := by rw [b2]; rfl
      rw [e]
      unfold newerB
      rw [List.any_eq_false]
      intro x hx
      have := Q.st k x hx
      simp
      exact this
    simp [h1, h2]
  have hok : a.beginR.2.okW a.newTx [(k, v, false)] = true := by
    unfold Abs.okW
    have : a.beginR.2.txs.any (fun x => passB a.newTx (readT [(k, v, false)]) x && comInB x.cm x.i) = false := by
      rw [List.any_eq_false]
      intro x hx
      rw [b2] at hx
      rcases List.mem_append.1 hx with h | h
      · simp [comInB, (Q.wr x h).2]
      · simp at h; subst h; simp [passB]
    rw [this]; rfl
  have hkw : ¬ a.beginR.2.c3 < (a.newTx.keysWith [(k, v, false)] : Int) := by
    have e1 : a.beginR.2.c3 = 16 := by rw [b2]; exact Q.c3
    have e2 : a.newTx.keysWith [(k, v, false)] = 1 := by
      unfold Tx.keysWith more
      simp [Abs.newTx, moreF, look, put]
    rw [e1, e2]; decide
  have er : a.beginR.2.writeR (N + 1) [(k, v, false)] = (0, a.beginR.2.writeA a.newTx [(k, v, false)]) := by
    unfold Abs.writeR
    rw [b3]
    simp only
    rw [if_neg (by simpa using hE), if_neg hkw, if_neg (by rw [hcl]; simp), if_neg (by rw [hok]; simp)]
  have I10 := Q.inv.beginR.writeR (N + 1) [(k, v, false)]
  have C10 := (Q.cms.beginR Q.inv).writeR (N + 1) [(k, v, false)]
  rw [er] at I10 C10 ⊢
  refine ⟨writeX (a.beginR.2.txs.any (passB a.newTx (readT [(k, v, false)]))) a.newTx [(k, v, false)] a.newTx, rfl, ?_⟩
  refine ⟨I10, C10, ?_, ?_, ?_, ?_, ?_, ?_, ?_⟩
  · show a.beginR.2.c4 = 128
    rw [b2]; exact Q.c4
  · exact (act_map (a := a.beginR.2) (writeX (a.beginR.2.txs.any (passB a.newTx (readT [(k, v, false)]))) a.newTx [(k, v, false)]) (fun _ => rfl) (fun _ => rfl) (N + 1)).trans (by rw [b3]; rfl)
  · simp [writeX, Abs.newTx, joinW, put, contOf]
  · simp [writeX, Abs.newTx, passB]
  · show a.beginR.2.vers = a.vers
    rw [b2]
  · show a.beginR.2.clock = a.clock
    rw [b2]
  · intro x hx hc
    obtain ⟨u, hu, rfl⟩ := List.mem_map.1 hx
    rw [b2] at hu
    rcases List.mem_append.1 hu with h | h
    · exact absurd (Q.done u h hc) (by simp)
    · simp at h; subst h
      show a.begun + 1 = N + 1
      rw [Q.begun]

theorem Wr.full {a10 : Abs} {t : Tx} {k v : ByteArray} (R : Wr a n N T k v a10 t) (h : totV a10.vers = 128) : a10.commR (N + 1) = (6, a10, none) := by
  unfold Abs.commR
  rw [R.act]
  simp only
  rw [if_neg (by rw [R.o]; simp), if_pos (by rw [R.c4, h, R.wr]; simp)]

theorem Wr.comm {a10 : Abs} {t : Tx} {k v : ByteArray} (Q : Qs a n N T []) (R : Wr a n N T k v a10 t) (h : totV a10.vers ≠ 128) : a10.commR (N + 1) = (0, a10, some t) ∧ ∀ a', CommIs a10 t a' → a'.Inv (n + 1 + 1) ∧ Cms a' ∧ Idle a' ∧ Sees a' (tput T k v) := by
  have hv := R.inv.vers
  rw [R.c4] at hv
  obtain ⟨hm, hth, hcm⟩ := act_mem' R.act
  have hk := R.inv.clock
  refine ⟨?_, fun a' C => ⟨R.inv.comm hm (by rw [R.wr, R.c4]; simp; omega) C, R.cms.comm C, fun x hx hc => ?_, tput_sorted Q.sees.1 k v, fun j => ?_⟩⟩
  · unfold Abs.commR
    rw [R.act]
    simp only
    rw [if_neg (by rw [R.o]; simp), if_neg (by rw [R.c4, R.wr]; simp; omega)]
  · rw [C.txs, commA_txs] at hx
    obtain ⟨u, hu, rfl⟩ := List.mem_map.1 hx
    by_cases e : u.h = t.h
    · unfold commX at hc
      rw [if_pos e] at hc
      simp at hc
      omega
    · have e2 : commX (a10.clock + 1) t.h u = u := by unfold commX; rw [if_neg e]
      rw [e2] at hc
      exact e ((R.done u hu hc).trans hth.symm)
  · rw [tput_look, C.vs_eq (by rw [R.wr]; simp) j, C.clock, R.wr, Q.sees.2 j]
    have e10 : a10.vs j = a.vs j := by unfold Abs.vs; rw [R.vers]
    rw [e10, R.clock]
    by_cases e : j = k
    · subst e
      simp [look, snap_new, seen]
    · have e' : ¬ k = j := fun h => e h.symm
      simp only [look, e', if_false, e, Option.toList_none, List.map_nil, List.append_nil]
      rw [snap_stamps (Q.st j) (by omega : a.clock ≤ a.clock + 1)]

end
end Go.Proofs.YthfimgeopciiiaaGreat
