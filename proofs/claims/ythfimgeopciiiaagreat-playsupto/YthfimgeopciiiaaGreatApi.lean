/-
  Each call of a state, whole: the rest.
-/
import Derived.Test.YthfimgeopciiiaaGreatWhole
import Derived.Test.YthfimgeopciiiaaGreatNew
namespace Go.Proofs.YthfimgeopciiiaaGreat
open Go.MapKept Go.ChangeMaps Go.Maps Go.RowKit Go.MuLone

structure ScanAns (a : Abs) (R : (Int × Option Tx) × Abs) (e : Ent) (l : List (ByteArray × ByteArray)) : Prop where
  no : R.1.2 = none → l = []
  yes : ∀ t, R.1.2 = some t → ScanIs a t e l

theorem scan_whole {w : World} {s : Sto} {n : Int} (H : StAt w s) (I : s.abs.Inv n) (h : Int) (hw : (Lit.int .i64 h).wf = true) (lo hi : ByteArray) :
    Calls Tryz.prog 77 #[.pointer (some ⟨s.sb, 2, none⟩), .int .i64 h, .string lo, .string hi] w fun e w' => ∃ v s' l, e = .returned (.tuple #[v, .int .i64 (s.abs.scanR h lo hi).1.1]) ∧ Turn s s' w w' ∧ s'.abs = (s.abs.scanR h lo hi).2 ∧ PrSl w.heap.size w' v l ∧ ScanAns s.abs (s.abs.scanR h lo hi) (rangeEnt lo hi) l ∧ ∀ b, v.ownBlock = some b → b ∉ s'.foot := by
  have B := I.bounds
  have hnil : ∀ W, PrSl w.heap.size W (.slice none 0 0) [] := fun W => World.ownsRow_nil _ _ _ _
  unfold Abs.scanR
  rw [abs_act]
  cases ha : s.act? h with
  | none => exact (scan_no H h hw lo hi ha).mono fun e w' ⟨h1, s', h2, h3⟩ => ⟨_, s', [], h1, h2, h3, hnil _, ⟨fun _ => rfl, fun t ht => by cases ht⟩, fun b hb => by simp [Value.ownBlock] at hb⟩
  | some r =>
    obtain ⟨m1, m2, m3⟩ := act_mem ha
    simp only [Option.map_some]
    by_cases hk : rangeE lo hi ≠ 0
    · rw [if_pos hk]
      exact (scan_range H h hw lo hi ha hk).mono fun e w' ⟨h1, s', h2, h3⟩ => ⟨_, s', [], h1, h2, h3, hnil _, ⟨fun _ => rfl, fun t ht => by cases ht⟩, fun b hb => by simp [Value.ownBlock] at hb⟩
    · rw [if_neg hk]
      have hk' : rangeE lo hi = 0 := by simpa using hk
      obtain ⟨z1, z2⟩ := range_small hk'
      have hok : lo.size ≤ maxLen ∧ hi.size ≤ maxLen := ⟨by simp [maxLen]; omega, by simp [maxLen]; omega⟩
      unfold Abs.readR
      by_cases hroom : s.abs.room r.tx (rangeEnt lo hi) = false
      · rw [if_pos hroom]
        have hnr : ¬ ((look r.rd (rangeEnt lo hi)).isSome = true ∨ (s.nReads : Int) < s.c2) := fun hh => by rw [(abs_room s r (rangeEnt lo hi)).2 hh] at hroom; cases hroom
        rw [not_or] at hnr
        rw [if_neg (fun h => by cases h)]
        have hin : look r.rd (rangeEnt lo hi) = none := by simpa using hnr.1
        refine (scan_refused H h hw lo hi ha hk' 6 (by decide) (fun s' => s'.abs = s.abs) (fun W HW => ?_)).mono fun e w' ⟨h1, s', h2, h3⟩ => ⟨_, s', [], h1, h2, h3, hnil _, ⟨fun _ => rfl, fun t ht => by cases ht⟩, fun b hb => by simp [Value.ownBlock] at hb⟩
        exact (read_full HW m1 true lo hi hok (by have := B.reads; omega) hin (by omega)).mono fun e w' ⟨h1, h2⟩ => ⟨h1, s, Turn.quiet HW h2, rfl⟩
      · rw [if_neg hroom]
        have hr' := (abs_room s r (rangeEnt lo hi)).1 (by simpa using hroom)
        rw [← readOk_abs H.apart m1]
        by_cases hmay : s.readOk r (rangeEnt lo hi) = false
        · rw [if_pos hmay, if_neg (fun h => by cases h)]
          refine (scan_refused H h hw lo hi ha hk' 8 (by decide) (fun s' => s'.abs = s.abs.without r.h) (fun W HW => ?_)).mono fun e w' ⟨h1, s', h2, h3⟩ => ⟨_, s', [], h1, h2, h3, hnil _, ⟨fun _ => rfl, fun t ht => by cases ht⟩, fun b hb => by simp [Value.ownBlock] at hb⟩
          refine (read_unsafe HW m1 m3 (by rw [m2]; exact hw) true lo hi hok (by have := B.reads; omega) (by have := B.recs; omega) hr' hmay).mono fun e w' ⟨h1, s', h2, h3⟩ => ⟨h1, s', h2, ?_⟩
          rw [h3, without_abs H.apart m1]
        · rw [if_neg hmay, if_pos rfl]
          refine (scan_ok H h hw lo hi ha hk' (by have := B.reads; omega) (by have := B.recs; omega) (fun k => by have := B.vs k; omega) (by have := B.vrs; have := B.wr r m1; omega) hr' (by simpa using hmay)).mono ?_
          rintro e w' ⟨v, h1, L, ks, h2, h3, h4, h5, h6, h7⟩
          refine ⟨v, _, _, h1, h3, readL_abs H.apart m1 (rangeEnt lo hi) h2, h4, ⟨fun hn => (by cases hn), fun t ht => ?_⟩, h7⟩
          cases ht
          exact scanIs_of H.keys_nd (I.wnd r.tx (List.mem_map.2 ⟨r, m1, rfl⟩)) h5 h6

theorem write_whole {w : World} {s : Sto} {n : Int} (H : StAt w s) (I : s.abs.Inv n) (h : Int) (hw : (Lit.int .i64 h).wf = true) (v : Value) (cs : List Chg) (hch : ChAt w v cs) (hap : ∀ b, heldBlock v = some b → b ∉ s.foot) :
    Calls Tryz.prog 56 #[.pointer (some ⟨s.sb, 2, none⟩), .int .i64 h, v] w fun e w' => ∃ s', e = .returned (.int .i64 (s.abs.writeR h cs).1) ∧ Turn s s' w w' ∧ s'.abs = (s.abs.writeR h cs).2 := by
  have B := I.bounds
  unfold Abs.writeR
  rw [abs_act]
  cases ha : s.act? h with
  | none => exact (write_no H h hw v ha).mono fun e w' ⟨h1, s', h2, h3⟩ => ⟨s', h1, h2, h3⟩
  | some r =>
    obtain ⟨m1, m2, m3⟩ := act_mem ha
    have hwl : r.wr.length ≤ 1000 := by have := B.wr r m1; omega
    simp only [Option.map_some]
    by_cases hk : changesE cs ≠ 0
    · rw [if_pos hk]
      exact (write_bad H h hw v cs hch hap ha hk).mono fun e w' ⟨h1, s', h2, h3⟩ => ⟨s', h1, h2, h3⟩
    · rw [if_neg hk]
      have hk' : changesE cs = 0 := by simpa using hk
      have ec : s.abs.c3 = s.c3 := rfl
      have et : r.tx.keysWith cs = r.with_ cs := rfl
      rw [ec, et]
      by_cases hfull : s.c3 < (r.with_ cs : Int)
      · rw [if_pos hfull]
        exact (write_full H h hw v cs hch hap ha hk' hwl hfull).mono fun e w' ⟨h1, s', h2, h3⟩ => ⟨s', h1, h2, h3⟩
      · rw [if_neg hfull]
        have hroom : (r.with_ cs : Int) ≤ s.c3 := by omega
        have hvs : ∀ k, (s.vs k).length ≤ 1000 := fun k => by have := B.vs k; omega
        have hlen : s.recs.length ≤ 1000 := by have := B.recs; omega
        rw [← clash_abs H.apart m1]
        by_cases hcf : (cs.any fun c => conflictF s r c.1) = true
        · rw [if_pos hcf]
          refine (write_conflict H h hw v cs hch hap ha hk' hwl hroom hvs hcf).mono fun e w' ⟨h1, s', h2, h3⟩ => ⟨s', h1, h2, ?_⟩
          rw [h3, without_abs H.apart m1, m2]
        · rw [if_neg hcf]
          have hcf' : (cs.any fun c => conflictF s r c.1) = false := Bool.eq_false_iff.2 hcf
          rw [← writeOk_abs H.apart m1]
          by_cases hmay : s.writeOk r cs = false
          · rw [if_pos hmay]
            refine (write_unsafe H h hw v cs hch hap ha hk' hwl hroom hvs hlen hcf' hmay).mono fun e w' ⟨h1, s', h2, h3⟩ => ⟨s', h1, h2, ?_⟩
            rw [h3, without_abs H.apart m1, m2]
          · rw [if_neg hmay]
            exact (write_ok H h hw v cs hch hap ha hk' hwl hroom hvs hlen hcf' (by simpa using hmay)).mono fun e w' ⟨h1, L, h2, h3⟩ => ⟨_, h1, h3, writeL_abs H.apart m1 cs h2⟩

theorem abort_whole {w : World} {s : Sto} (H : StAt w s) (h : Int) (hw : (Lit.int .i64 h).wf = true) :
    Calls Tryz.prog 78 #[.pointer (some ⟨s.sb, 2, none⟩), .int .i64 h] w fun e w' => ∃ s', e = .returned (.int .i64 (s.abs.abortR h).1) ∧ Turn s s' w w' ∧ s'.abs = (s.abs.abortR h).2 := by
  unfold Abs.abortR
  rw [abs_act]
  cases ha : s.act? h with
  | none => exact (abort_no H h hw ha).mono fun e w' ⟨h1, s', h2, h3⟩ => ⟨s', h1, h2, h3⟩
  | some r =>
    obtain ⟨m1, m2, m3⟩ := act_mem ha
    refine (abort_yes H h hw ha).mono fun e w' ⟨h1, s', h2, h3⟩ => ⟨s', h1, h2, ?_⟩
    rw [h3, without_abs H.apart m1, m2]; rfl

/-- the versions of one key, behind all that join -/
theorem put_perm {α β : Type} [DecidableEq α] {l : List (α × β)} {x : α} {v : β} (hn : (l.map (·.1)).Nodup) : ∀ p, p ∈ put l x v ↔ p = (x, v) ∨ (p ∈ l ∧ p.1 ≠ x) := by
  induction l with
  | nil => intro p; simp [put]
  | cons q r ih =>
    intro p
    simp only [List.map_cons, List.nodup_cons] at hn
    by_cases e : q.1 = x
    · simp only [put, e, if_true, List.mem_cons]
      constructor
      · rintro (h | h)
        · exact .inl h
        · exact .inr ⟨.inr h, fun e' => hn.1 (List.mem_map.2 ⟨p, h, by rw [e', e]⟩)⟩
      · rintro (h | ⟨h | h, h2⟩)
        · exact .inl h
        · exact absurd (by rw [h]; exact e) h2
        · exact .inr h
    · simp only [put, e, if_false, List.mem_cons, ih hn.2]
      constructor
      · rintro (h | h | ⟨h, h2⟩)
        · exact .inr ⟨.inl h, by rw [h]; exact e⟩
        · exact .inl h
        · exact .inr ⟨.inr h, h2⟩
      · rintro (h | ⟨h | h, h2⟩)
        · exact .inr (.inl h)
        · exact .inl h
        · exact .inr (.inr ⟨h, h2⟩)

theorem put_keys {α β : Type} [DecidableEq α] : ∀ {l : List (α × β)} {x : α} {v : β}, (l.map (·.1)).Nodup → ((put l x v).map (·.1)).Nodup
  | [], x, v, _ => by simp [put]
  | q :: r, x, v, hn => by
    simp only [List.map_cons, List.nodup_cons] at hn
    by_cases e : q.1 = x
    · simp only [put, e, if_true, List.map_cons, List.nodup_cons]; exact ⟨by rw [← e]; exact hn.1, hn.2⟩
    · simp only [put, e, if_false, List.map_cons, List.nodup_cons]
      refine ⟨fun hm => ?_, put_keys hn.2⟩
      obtain ⟨p, hp, e'⟩ := List.mem_map.1 hm
      rcases (put_perm hn.2 p).1 hp with h | ⟨h, _⟩
      · rw [h] at e'; exact e e'.symm
      · exact hn.1 (List.mem_map.2 ⟨p, h, e'⟩)

theorem look_put {α β : Type} [DecidableEq α] : ∀ (l : List (α × β)) (x : α) (v : β) (y : α), look (put l x v) y = if x = y then some v else look l y
  | [], x, v, y => by simp [put, look]
  | q :: r, x, v, y => by
    by_cases e : q.1 = x
    · simp only [put, e, if_true, look]
      by_cases e' : x = y
      · simp [e']
      · have : ¬ q.1 = y := fun h => e' (by rw [← e, h])
        simp [e']
    · simp only [put, e, if_false, look]
      by_cases e2 : q.1 = y
      · have : ¬ x = y := fun h => e (by rw [e2, h])
        simp [e2, this]
      · simp only [e2, if_false]; exact look_put r x v y

theorem addAll_look (c : Int) : ∀ (l : List (ByteArray × Cont)) (V : List (ByteArray × List Ver)) (k : ByteArray), (l.map (·.1)).Nodup →
    (look (addAll c V l) k).getD [] = (look V k).getD [] ++ ((look l k).toList.map fun ct => (c, ct))
  | [], V, k, _ => by simp [addAll, look]
  | p :: r, V, k, hn => by
    simp only [List.map_cons, List.nodup_cons] at hn
    have ih := addAll_look c r (addVers V p.1 (c, p.2)) k hn.2
    show (look (addAll c (addVers V p.1 (c, p.2)) r) k).getD [] = _
    rw [ih]
    unfold addVers
    rw [look_put]
    by_cases e : p.1 = k
    · have hnone : look r k = none := lookup_none_of (fun q hq e' => hn.1 (List.mem_map.2 ⟨q, hq, by rw [e', e]⟩))
      simp [look, e, hnone]
    · simp [look, e]

theorem addAll_nd (c : Int) : ∀ (l : List (ByteArray × Cont)) (V : List (ByteArray × List Ver)), (V.map (·.1)).Nodup → ((addAll c V l).map (·.1)).Nodup
  | [], _, h => h
  | _ :: r, _, h => addAll_nd c r _ (put_keys h)

theorem addAll_ne (c : Int) : ∀ (l : List (ByteArray × Cont)) (V : List (ByteArray × List Ver)), (V.map (·.1)).Nodup → (∀ p ∈ V, p.2 ≠ []) → ∀ p ∈ addAll c V l, p.2 ≠ []
  | [], _, _, h => h
  | q :: r, V, hn, h => addAll_ne c r _ (put_keys hn) (fun p hp => by
    rcases (put_perm hn p).1 hp with e | ⟨e, _⟩
    · rw [e]; simp
    · exact h p e)

theorem addAll_gone (c : Int) : ∀ (l : List (ByteArray × Cont)) (V : List (ByteArray × List Ver)), (V.map (·.1)).Nodup → (∀ p ∈ l, p.2.2 = true → p.2.1 = ⟨#[]⟩) → (∀ p ∈ V, ∀ x ∈ p.2, x.2.2 = true → x.2.1 = (⟨#[]⟩ : ByteArray)) → ∀ p ∈ addAll c V l, ∀ x ∈ p.2, x.2.2 = true → x.2.1 = ⟨#[]⟩
  | [], _, _, _, h => h
  | q :: r, V, hn, hl, h => addAll_gone c r _ (put_keys hn) (fun p hp => hl p (by simp [hp])) (fun p hp x hx => by
    rcases (put_perm hn p).1 hp with e | ⟨e, _⟩
    · rw [e] at hx
      rcases List.mem_append.1 hx with hx' | hx'
      · cases hlk : look V q.1 with
        | none => rw [hlk] at hx'; simp at hx'
        | some vs => rw [hlk] at hx'; exact h _ (lookup_mem hlk) x hx'
      · simp at hx'; subst hx'; exact hl q (by simp)
    · exact h p e x hx)

theorem addAll_tot (c : Int) : ∀ (l : List (ByteArray × Cont)) (V : List (ByteArray × List Ver)), totV (addAll c V l) = totV V + l.length
  | [], _ => rfl
  | p :: r, V => by
    show totV (addAll c (addVers V p.1 (c, p.2)) r) = _
    rw [addAll_tot c r, totV_add]; simp; omega

/-- what a commit leaves, but for the order of the keys -/
structure CommIs (a : Abs) (t : Tx) (a' : Abs) : Prop where
  c1 : a'.c1 = a.c1
  c2 : a'.c2 = a.c2
  c3 : a'.c3 = a.c3
  c4 : a'.c4 = a.c4
  clock : a'.clock = a.clock + 1
  begun : a'.begun = a.begun
  txs : a'.txs = (a.commA t).txs
  vers : ∃ done, done.Perm t.wr ∧ a'.vers = addAll (a.clock + 1) a.vers done

/-- commit: its error; what is left where it is not committed; who is committed -/
def Abs.commR (a : Abs) (h : Int) : Int × Abs × Option Tx :=
  match a.act? h with
  | none => (2, a, none)
  | some t => if (t.i && t.o) = true then (8, a.without h, none) else if a.c4 < (totV a.vers : Int) + t.wr.length then (6, a, none) else (0, a, some t)

structure CommAns (a : Abs) (R : Int × Abs × Option Tx) (a' : Abs) : Prop where
  no : R.2.2 = none → a' = R.2.1
  yes : ∀ t, R.2.2 = some t → CommIs a t a'

theorem commit_whole {w : World} {s : Sto} {n : Int} (H : StAt w s) (I : s.abs.Inv n) (hn : n < 2305843009213693952) (h : Int) (hw : (Lit.int .i64 h).wf = true) :
    Calls Tryz.prog 54 #[.pointer (some ⟨s.sb, 2, none⟩), .int .i64 h] w fun e w' => ∃ s', e = .returned (.int .i64 (s.abs.commR h).1) ∧ Turn s s' w w' ∧ CommAns s.abs (s.abs.commR h) s'.abs := by
  have B := I.bounds
  unfold Abs.commR
  rw [abs_act]
  cases ha : s.act? h with
  | none => exact (commit_no H h hw ha).mono fun e w' ⟨h1, h2⟩ => ⟨s, h1, h2, fun _ => rfl, fun t ht => by cases ht⟩
  | some r =>
    obtain ⟨m1, m2, m3⟩ := act_mem ha
    simp only [Option.map_some]
    have e1 : r.tx.i = r.i := rfl
    have e2 : r.tx.o = r.o := rfl
    have e3 : r.tx.wr = r.wr := rfl
    have e4 : s.abs.c4 = s.c4 := rfl
    rw [e1, e2, e3, e4, totV_abs]
    by_cases hio : (r.i && r.o) = true
    · rw [if_pos hio]
      simp only [Bool.and_eq_true] at hio
      refine (commit_unsafe H h hw ha hio.1 hio.2).mono fun e w' ⟨h1, s', h2, h3⟩ => ⟨s', h1, h2, fun _ => ?_, fun t ht => by cases ht⟩
      rw [h3, without_abs H.apart m1, m2]
    · rw [if_neg hio]
      have hc := I.clock
      refine (commit_count H h hw ha (by simpa using hio) (by have := B.vers; omega) (by have := B.wr r m1; omega) (by have e5 : s.abs.clock = s.clock := rfl; rw [e5] at hc; omega)).mono ?_
      rintro e w' (⟨rfl, h1, h2⟩ | ⟨rfl, h1, s', done, h2, h3, h4⟩)
      · rw [if_pos h1]
        exact ⟨s, rfl, h2, fun _ => rfl, fun t ht => by cases ht⟩
      · rw [if_neg (by omega)]
        refine ⟨s', rfl, h3, ⟨fun hx => (by cases hx), fun t ht => ?_⟩⟩
        cases ht
        rw [h4]
        exact ⟨rfl, rfl, rfl, rfl, rfl, rfl, setCm_abs H.apart m1 _, done, h2, rfl⟩

theorem nodup_sub_len : ∀ {l m : List Nat}, l.Nodup → (∀ x ∈ l, x ∈ m) → l.length ≤ m.length
  | [], _, _, _ => by simp
  | a :: l, m, hn, hs => by
    simp only [List.nodup_cons] at hn
    have ha := hs a (by simp)
    obtain ⟨m1, m2, rfl⟩ := List.append_of_mem ha
    have := nodup_sub_len (m := m1 ++ m2) hn.2 (fun x hx => by
      have := hs x (by simp [hx])
      simp only [List.mem_append, List.mem_cons] at this ⊢
      rcases this with h | h | h
      · exact .inl h
      · subst h; exact absurd hx hn.1
      · exact .inr h)
    simp only [List.length_append, List.length_cons] at this ⊢; omega

theorem StAt.hl_le {w : World} {s : Sto} (H : StAt w s) : s.hl.length ≤ s.recs.length := by
  have := nodup_sub_len (m := s.recs.map (·.tb)) H.hnd (fun t ht => by
    obtain ⟨i, hi⟩ := List.getElem?_of_mem ht
    obtain ⟨r, hr, e, _⟩ := H.hrec i t hi
    exact List.mem_map.2 ⟨r, hr, e⟩)
  simpa using this

theorem begin_whole {w : World} {s : Sto} {n : Int} (H : StAt w s) (I : s.abs.Inv n) (hn : n < 2305843009213693952) :
    Calls Tryz.prog 55 #[.pointer (some ⟨s.sb, 2, none⟩)] w fun e w' => ∃ s', e = .returned (.tuple #[.int .i64 s.abs.beginR.1.1, .int .i64 s.abs.beginR.1.2]) ∧ Turn s s' w w' ∧ s'.abs = s.abs.beginR.2 := by
  have B := I.bounds
  have hb := I.begun
  have eb : s.abs.begun = s.begun := rfl
  rw [eb] at hb
  unfold Abs.beginR
  have e1 : s.abs.c1 = s.c1 := rfl
  have e2 : s.abs.txs.length = s.recs.length := by simp [Sto.abs]
  rw [e1, e2]
  by_cases hf : s.c1 ≤ (s.recs.length : Int)
  · rw [if_pos hf]
    exact (begin_full H hf).mono fun e w' ⟨h1, s', h2, h3⟩ => ⟨s', h1, h2, h3⟩
  · rw [if_neg hf]
    refine (begin_ok H (by omega) (by omega) (fun r hr => ?_) (by have := H.hl_le; have := B.recs; omega)).mono fun e w' ⟨h1, s', h2, h3⟩ => ⟨s', h1, h2, h3⟩
    have := (I.hs r.tx (List.mem_map.2 ⟨r, hr, rfl⟩)).2
    rw [eb] at this
    have e : r.tx.h = r.h := rfl
    rw [e] at this; omega

theorem ord_root {f : Nat → Int} {n : Nat} (h : Ord f n) : ∀ k, k < n → f 0 ≤ f k := fun k => by
  induction k using Nat.strongRecOn with
  | _ k ih =>
    intro hk
    by_cases h0 : k = 0
    · subst h0; exact Int.le_refl _
    · have h1 := h k (by omega) hk
      have h2 := ih ((k - 1) / 2) (by omega) (by omega)
      omega

theorem mark_is {w : World} {s : Sto} (H : StAt w s) : s.abs.MarkIs s.mark := by
  cases hh : s.hl with
  | nil =>
    have hm : s.mark = s.clock := by unfold Sto.mark; rw [hh]
    rw [hm]
    refine ⟨fun t ht hc => ?_, .inl rfl⟩
    obtain ⟨r, hr, rfl⟩ := List.mem_map.1 ht
    have := H.hact r hr hc
    rw [hh] at this; simp at this
  | cons t l =>
    have hm : s.mark = s.bg t := by unfold Sto.mark; rw [hh]
    have h0 : s.hl[0]? = some t := by rw [hh]; rfl
    obtain ⟨r0, hr0, e0, _, hc0⟩ := H.hrec 0 t h0
    have hb0 : s.mark = r0.bg := by rw [hm, ← e0]; exact Sto.bg_eq H.nd hr0
    refine ⟨fun x hx hc => ?_, .inr ⟨r0.tx, List.mem_map.2 ⟨r0, hr0, rfl⟩, hc0, hb0⟩⟩
    obtain ⟨r, hr, rfl⟩ := List.mem_map.1 hx
    obtain ⟨i, hi⟩ := List.getElem?_of_mem (H.hact r hr hc)
    have hil : i < s.hl.length := (List.getElem?_eq_some_iff.1 hi).1
    have h1 := ord_root H.ord i hil
    have g0 : s.hl.getD 0 0 = t := by rw [hh]; rfl
    have gi : s.hl.getD i 0 = r.tb := by rw [List.getD_eq_getElem?_getD, hi]; rfl
    unfold fOf at h1
    rw [g0, gi, Sto.bg_eq H.nd hr, ← hm] at h1
    exact h1

structure CleanIs (a : Abs) (m : Int) (a' : Abs) : Prop where
  mark : a.MarkIs m
  c1 : a'.c1 = a.c1
  c2 : a'.c2 = a.c2
  c3 : a'.c3 = a.c3
  c4 : a'.c4 = a.c4
  clock : a'.clock = a.clock
  begun : a'.begun = a.begun
  txs : a'.txs = a.txs.filter fun t => !t.old m
  vers : a'.vers.Perm (a.vers.filterMap (dropA m))

theorem cleanup_whole {w : World} {s : Sto} {n : Int} (H : StAt w s) (I : s.abs.Inv n) :
    Calls Tryz.prog 51 #[.pointer (some ⟨s.sb, 2, none⟩)] w fun e w' => e = .returned (.tuple #[]) ∧ ∃ s', Turn s s' w w' ∧ ∃ m, CleanIs s.abs m s'.abs := by
  have B := I.bounds
  refine (cleanup_h H (fun x hx => by have := B.vl x hx; omega)).mono fun e w' ⟨h1, s', h2, V, h3, h4⟩ => ⟨h1, s', h2, s.mark, ?_⟩
  rw [h4]
  refine ⟨mark_is H, rfl, rfl, rfl, rfl, rfl, rfl, ?_, h3⟩
  show (s.recs.filter fun r => !r.old s.mark).map Rec.tx = (s.recs.map Rec.tx).filter fun t => !t.old s.mark
  rw [List.filter_map]; rfl

end Go.Proofs.YthfimgeopciiiaaGreat

/-
  Each call of a store, whole: what it answers and leaves, by its abstraction.
-/
namespace Go.Proofs.YthfimgeopciiiaaGreat
open Go.MapKept Go.ChangeMaps Go.Maps Go.RowKit Go.MuLone

theorem begin_api {w : World} {s : Sto} {n : Int} (H : StAt w s) (h0 : s.mu = 0) (I : s.abs.Inv n) (hn : n < 2305843009213693952) :
    Calls Tryz.prog 26 #[.pointer (some ⟨s.sb, 0, none⟩)] w fun e w' => ∃ s', e = .returned (.tuple #[.int .i64 s.abs.beginR.1.1, .int .i64 s.abs.beginR.1.2]) ∧ Turn s s' w w' ∧ s'.abs = s.abs.beginR.2 := by
  refine (Begin_outer H h0 (fun a c s' _ => a = s.abs.beginR.1.1 ∧ c = s.abs.beginR.1.2 ∧ s'.abs = s.abs.beginR.2) ((begin_whole (s := { s with mu := 1 }) (H.locked h0).2.2 I hn).mono fun e w' ⟨s', h1, h2, h3⟩ => ⟨_, _, s', h1, h2, rfl, rfl, h3⟩)).mono ?_
  rintro e w' ⟨a, c, s', w1, rfl, h2, _, rfl, rfl, h5⟩
  exact ⟨_, rfl, h2, h5⟩

theorem get_api {w : World} {s : Sto} {n : Int} (H : StAt w s) (h0 : s.mu = 0) (I : s.abs.Inv n) (h : Int) (hw : (Lit.int .i64 h).wf = true) (k : ByteArray) :
    Calls Tryz.prog 52 #[.pointer (some ⟨s.sb, 0, none⟩), .int .i64 h, .string k] w fun e w' => ∃ s', e = .returned (.tuple #[.string (s.abs.getR h k).1.1, .bool (s.abs.getR h k).1.2.1, .int .i64 (s.abs.getR h k).1.2.2]) ∧ Turn s s' w w' ∧ s'.abs = (s.abs.getR h k).2 := by
  refine (Get_outer H h0 h k (fun a b c s' _ => a = (s.abs.getR h k).1.1 ∧ b = (s.abs.getR h k).1.2.1 ∧ c = (s.abs.getR h k).1.2.2 ∧ s'.abs = (s.abs.getR h k).2) ((get_whole (s := { s with mu := 1 }) (H.locked h0).2.2 I h hw k).mono fun e w' ⟨s', h1, h2, h3⟩ => ⟨_, _, _, s', h1, h2, rfl, rfl, rfl, h3⟩)).mono ?_
  rintro e w' ⟨a, b, c, s', w1, rfl, h2, _, rfl, rfl, rfl, h5⟩
  exact ⟨_, rfl, h2, h5⟩

theorem scan_api' {w : World} {s : Sto} {n : Int} (H : StAt w s) (h0 : s.mu = 0) (I : s.abs.Inv n) (h : Int) (hw : (Lit.int .i64 h).wf = true) (lo hi : ByteArray) :
    Calls Tryz.prog 41 #[.pointer (some ⟨s.sb, 0, none⟩), .int .i64 h, .string lo, .string hi] w fun e w' => ∃ v s' l, e = .returned (.tuple #[v, .int .i64 (s.abs.scanR h lo hi).1.1]) ∧ Turn s s' w w' ∧ s'.abs = (s.abs.scanR h lo hi).2 ∧ PrSl w.heap.size w' v l ∧ ScanAns s.abs (s.abs.scanR h lo hi) (rangeEnt lo hi) l ∧ ∀ b, v.ownBlock = some b → b ∉ s'.foot := by
  refine (Scan_outer H h0 h lo hi (fun v c s' w1 => c = (s.abs.scanR h lo hi).1.1 ∧ s'.abs = (s.abs.scanR h lo hi).2 ∧ ∃ l, PrSl w.heap.size w1 v l ∧ ScanAns s.abs (s.abs.scanR h lo hi) (rangeEnt lo hi) l ∧ ∀ b, v.ownBlock = some b → b ∉ s'.foot) ((scan_whole (s := { s with mu := 1 }) (H.locked h0).2.2 I h hw lo hi).mono fun e w' ⟨v, s', l, h1, h2, h3, h4, h5, h6⟩ => ⟨v, _, s', h1, h2, rfl, h3, l, by simpa using h4, h5, h6⟩)).mono ?_
  rintro e w' ⟨v, c, s', w1, rfl, h2, rfl, rfl, h4, l, h5, h6, h7⟩
  have hsb : s.sb < w.heap.size := H.lt _ (by simp [Sto.foot])
  exact ⟨v, _, l, rfl, h2, h4, ownsRow_of_block h5 (fun b hb => heap_setCell_other _ _ _ (by have := (h5.lt b hb).1; simp; omega)), h6, h7⟩

theorem scan_api {w : World} {s : Sto} {n : Int} (H : StAt w s) (h0 : s.mu = 0) (I : s.abs.Inv n) (h : Int) (hw : (Lit.int .i64 h).wf = true) (lo hi : ByteArray) :
    Calls Tryz.prog 41 #[.pointer (some ⟨s.sb, 0, none⟩), .int .i64 h, .string lo, .string hi] w fun e w' => ∃ v s' l, e = .returned (.tuple #[v, .int .i64 (s.abs.scanR h lo hi).1.1]) ∧ Turn s s' w w' ∧ s'.abs = (s.abs.scanR h lo hi).2 ∧ PrSl w.heap.size w' v l ∧ ScanAns s.abs (s.abs.scanR h lo hi) (rangeEnt lo hi) l :=
  (scan_api' H h0 I h hw lo hi).mono fun _ _ ⟨v, s', l, h1, h2, h3, h4, h5, _⟩ => ⟨v, s', l, h1, h2, h3, h4, h5⟩

theorem write_api {w : World} {s : Sto} {n : Int} (H : StAt w s) (h0 : s.mu = 0) (I : s.abs.Inv n) (h : Int) (hw : (Lit.int .i64 h).wf = true) (v : Value) (cs : List Chg) (hch : ChAt w v cs) (hap : ∀ b, heldBlock v = some b → b ∉ s.foot) :
    Calls Tryz.prog 27 #[.pointer (some ⟨s.sb, 0, none⟩), .int .i64 h, v] w fun e w' => ∃ s', e = .returned (.int .i64 (s.abs.writeR h cs).1) ∧ Turn s s' w w' ∧ s'.abs = (s.abs.writeR h cs).2 := by
  have hch' := hch.lock (b := s.sb) (fun e => hap _ e (by simp [Sto.foot])) (.int .i32 1)
  refine (Write_outer H h0 h v (fun c s' _ => c = (s.abs.writeR h cs).1 ∧ s'.abs = (s.abs.writeR h cs).2) ((write_whole (s := { s with mu := 1 }) (H.locked h0).2.2 I h hw v cs hch' hap).mono fun e w' ⟨s', h1, h2, h3⟩ => ⟨_, s', h1, h2, rfl, h3⟩)).mono ?_
  rintro e w' ⟨c, s', w1, rfl, h2, _, rfl, h5⟩
  exact ⟨_, rfl, h2, h5⟩

theorem commit_api {w : World} {s : Sto} {n : Int} (H : StAt w s) (h0 : s.mu = 0) (I : s.abs.Inv n) (hn : n < 2305843009213693952) (h : Int) (hw : (Lit.int .i64 h).wf = true) :
    Calls Tryz.prog 25 #[.pointer (some ⟨s.sb, 0, none⟩), .int .i64 h] w fun e w' => ∃ s', e = .returned (.int .i64 (s.abs.commR h).1) ∧ Turn s s' w w' ∧ CommAns s.abs (s.abs.commR h) s'.abs := by
  refine (Commit_outer H h0 h (fun c s' _ => c = (s.abs.commR h).1 ∧ CommAns s.abs (s.abs.commR h) s'.abs) ((commit_whole (s := { s with mu := 1 }) (H.locked h0).2.2 I hn h hw).mono fun e w' ⟨s', h1, h2, h3⟩ => ⟨_, s', h1, h2, rfl, h3⟩)).mono ?_
  rintro e w' ⟨c, s', w1, rfl, h2, _, rfl, h5⟩
  exact ⟨_, rfl, h2, h5⟩

theorem abort_api {w : World} {s : Sto} (H : StAt w s) (h0 : s.mu = 0) (h : Int) (hw : (Lit.int .i64 h).wf = true) :
    Calls Tryz.prog 42 #[.pointer (some ⟨s.sb, 0, none⟩), .int .i64 h] w fun e w' => ∃ s', e = .returned (.int .i64 (s.abs.abortR h).1) ∧ Turn s s' w w' ∧ s'.abs = (s.abs.abortR h).2 := by
  refine (Abort_outer H h0 h (fun c s' _ => c = (s.abs.abortR h).1 ∧ s'.abs = (s.abs.abortR h).2) ((abort_whole (s := { s with mu := 1 }) (H.locked h0).2.2 h hw).mono fun e w' ⟨s', h1, h2, h3⟩ => ⟨_, s', h1, h2, rfl, h3⟩)).mono ?_
  rintro e w' ⟨c, s', w1, rfl, h2, _, rfl, h5⟩
  exact ⟨_, rfl, h2, h5⟩

theorem cleanup_api {w : World} {s : Sto} {n : Int} (H : StAt w s) (h0 : s.mu = 0) (I : s.abs.Inv n) :
    Calls Tryz.prog 20 #[.pointer (some ⟨s.sb, 0, none⟩)] w fun e w' => e = .returned (.tuple #[]) ∧ ∃ s', Turn s s' w w' ∧ ∃ m, CleanIs s.abs m s'.abs := by
  refine (Cleanup_outer H h0 (fun s' => ∃ m, CleanIs s.abs m s'.abs) (cleanup_whole (s := { s with mu := 1 }) (H.locked h0).2.2 I)).mono ?_
  rintro e w' ⟨rfl, s', h2, h3⟩
  exact ⟨rfl, _, h2, h3⟩

/-- what Look tells -/
def Abs.lookR (a : Abs) (h : Int) : (Int × Bool × Bool × Int × Int) × Int :=
  match a.act? h with
  | none => ((0, false, false, 0, 0), 2)
  | some t => ((t.bg, t.i, t.o, t.rd.length, t.wr.length), 0)

theorem look_api {w : World} {s : Sto} (H : StAt w s) (h0 : s.mu = 0) (h : Int) (hw : (Lit.int .i64 h).wf = true) :
    Calls Tryz.prog 23 #[.pointer (some ⟨s.sb, 0, none⟩), .int .i64 h] w fun e w' => e = .returned (.tuple #[.agg #[.int .i64 (s.abs.lookR h).1.1, .bool (s.abs.lookR h).1.2.1, .bool (s.abs.lookR h).1.2.2.1, .int .i64 (s.abs.lookR h).1.2.2.2.1, .int .i64 (s.abs.lookR h).1.2.2.2.2], .int .i64 (s.abs.lookR h).2]) ∧ Turn s s w w' := by
  refine Look_outer H h0 h _ _ _ _ _ _ (fun W HW => ?_)
  unfold Abs.lookR
  rw [abs_act]
  have e : ({ s with mu := 1 } : Sto).act? h = s.act? h := rfl
  cases ha : s.act? h with
  | none => exact look_no HW h hw (e.trans ha)
  | some r => exact look_yes HW h hw (e.trans ha)

/-- what Told tells: clock, records, reads, versions -/
theorem told_api {w : World} {s : Sto} {n : Int} (H : StAt w s) (h0 : s.mu = 0) (I : s.abs.Inv n) :
    Calls Tryz.prog 19 #[.pointer (some ⟨s.sb, 0, none⟩)] w fun e w' => e = .returned (.agg #[.int .i64 s.abs.clock, .int .i64 s.hl.length, .int .i64 ((s.abs.txs.length : Int) - s.hl.length), .int .i64 s.abs.nReads, .int .i64 (totV s.abs.vers : Nat)]) ∧ Turn s s w w' := by
  have B := I.bounds
  have e1 : s.abs.txs.length = s.recs.length := by simp [Sto.abs]
  rw [e1, abs_nReads, totV_abs]
  exact Told_outer H h0 _ _ _ _ _ (fun W HW => told_h (s := { s with mu := 1 }) HW (by show s.nReads ≤ 1000; have := B.reads; omega) (by show s.nVers ≤ 1000; have := B.vers; omega) H.hl_le (by show s.recs.length ≤ 1000; have := B.recs; omega))

end Go.Proofs.YthfimgeopciiiaaGreat
