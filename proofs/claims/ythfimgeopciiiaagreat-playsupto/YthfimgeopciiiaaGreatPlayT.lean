/-
  The document's own store (seriateref), of plain data, beside Abs: who is there, what was written, read, committed. No world, no program.
-/
import Derived.Test.YthfimgeopciiiaaGreatSim
namespace Go.Proofs.YthfimgeopciiiaaGreat
set_option linter.unusedVariables false

/-- a transaction of the document's: st: 0 active, 1 committed, 2 aborted, 3 committed and forgotten -/
structure RTx where
  h : Int
  bg : Int
  cm : Int
  st : Int
  i : Int
  o : Int
  wr : List (ByteArray × Cont)
  rd : List (Ent × Unit)

def RTx.live (r : RTx) : Bool := decide (r.st = 0) || decide (r.st = 1)
def RTx.tx (r : RTx) : Tx := ⟨r.h, r.bg, r.cm, r.wr, r.rd, decide (0 < r.i), decide (0 < r.o)⟩

structure RSt where
  c1 : Int
  c2 : Int
  c3 : Int
  c4 : Int
  clock : Int
  txs : List RTx
  vers : List (ByteArray × Ver)

def RSt.vs (R : RSt) (k : ByteArray) : List Ver := (R.vers.filter fun p => decide (p.1 = k)).map (·.2)

/-- one behind another of the same key is later -/
def VerLt (p q : ByteArray × Ver) : Prop := p.1 = q.1 → p.2.1 < q.2.1

/-- the two tell the same -/
structure RefIs (a : Abs) (R : RSt) : Prop where
  c1 : a.c1 = R.c1
  c2 : a.c2 = R.c2
  c3 : a.c3 = R.c3
  c4 : a.c4 = R.c4
  clock : a.clock = R.clock
  len : a.begun = R.txs.length
  txs : a.txs = (R.txs.filter RTx.live).map RTx.tx
  hs : ∀ (j : Nat) r, R.txs[j]? = some r → r.h = (j : Int) + 1
  st : ∀ r ∈ R.txs, r.st = 0 ∨ r.st = 1 ∨ r.st = 2 ∨ r.st = 3
  st0 : ∀ r ∈ R.txs, r.st = 0 → r.cm = 0
  st1 : ∀ r ∈ R.txs, r.st = 1 ∨ r.st = 3 → 0 < r.cm ∧ r.cm ≤ R.clock
  old : ∀ r ∈ R.txs, r.st = 3 → ∀ x ∈ R.txs, x.st = 0 → r.cm ≤ x.bg
  i0 : ∀ r ∈ R.txs, 0 ≤ r.i ∧ 0 ≤ r.o
  vs : ∀ k, a.vs k = R.vs k
  tot : totV a.vers = R.vers.length
  srt : R.vers.Pairwise VerLt
  stamps : ∀ p ∈ R.vers, 0 < p.2.1 ∧ p.2.1 ≤ R.clock

/-- overlaps the active one -/
def RTx.over (k x : RTx) : Bool := !decide (x.h = k.h) && (decide (x.st = 0) || ((decide (x.st = 1) || decide (x.st = 3)) && decide (k.bg < x.cm)))

section
variable {a : Abs} {R : RSt}

theorem RefIs.mem (E : RefIs a R) {r : RTx} (h : r ∈ R.txs) (hl : r.live = true) : r.tx ∈ a.txs := by rw [E.txs]; exact List.mem_map.2 ⟨r, List.mem_filter.2 ⟨h, hl⟩, rfl⟩

theorem RefIs.of_mem (E : RefIs a R) {t : Tx} (h : t ∈ a.txs) : ∃ r ∈ R.txs, r.live = true ∧ r.tx = t := by
  rw [E.txs] at h
  obtain ⟨r, hr, e⟩ := List.mem_map.1 h
  exact ⟨r, (List.mem_filter.1 hr).1, (List.mem_filter.1 hr).2, e⟩

theorem RefIs.h_inj (E : RefIs a R) {r x : RTx} (hr : r ∈ R.txs) (hx : x ∈ R.txs) (h : r.h = x.h) : r = x := by
  obtain ⟨i, hi⟩ := List.getElem?_of_mem hr
  obtain ⟨j, hj⟩ := List.getElem?_of_mem hx
  have h1 := E.hs i r hi
  have h2 := E.hs j x hj
  have : i = j := by omega
  subst this
  rw [hi] at hj
  exact Option.some.inj hj

theorem RefIs.any (E : RefIs a R) (P : Tx → Bool) (P' : RTx → Bool) (h1 : ∀ r ∈ R.txs, r.live = true → P' r = P r.tx) (h2 : ∀ r ∈ R.txs, r.live = false → P' r = false) : R.txs.any P' = a.txs.any P := by
  rw [E.txs, List.any_map, List.any_filter, Bool.eq_iff_iff, List.any_eq_true, List.any_eq_true]
  constructor
  · rintro ⟨r, hr, hp⟩
    cases hl : r.live with
    | true => exact ⟨r, hr, by simp only [Function.comp, hl, Bool.true_and]; rw [← h1 r hr hl]; exact hp⟩
    | false => rw [h2 r hr hl] at hp; cases hp
  · rintro ⟨r, hr, hp⟩
    simp only [Function.comp, Bool.and_eq_true] at hp
    exact ⟨r, hr, by rw [h1 r hr hp.1]; exact hp.2⟩

/-- an active one of the document's is an active one -/
theorem RefIs.act (E : RefIs a R) {n : Int} (I : a.Inv n) {r : RTx} (hr : r ∈ R.txs) (h0 : r.st = 0) : a.act? r.h = some r.tx := by
  have hm := E.mem hr (by simp [RTx.live, h0])
  have hc : r.tx.cm = 0 := E.st0 r hr h0
  unfold Abs.act?
  have : a.txs.find? (fun t => decide (t.h = r.h)) = some r.tx := by
    cases hf : a.txs.find? (fun t => decide (t.h = r.h)) with
    | none => exact absurd (List.find?_eq_none.1 hf r.tx hm) (by simp [RTx.tx])
    | some u =>
      have hu := List.mem_of_find?_eq_some hf
      have hh : u.h = r.h := by simpa using List.find?_some hf
      obtain ⟨x, hx, hl, rfl⟩ := E.of_mem hu
      rw [E.h_inj hx hr hh]
  rw [this]
  simp [Option.filter, hc]

theorem RefIs.act_none (E : RefIs a R) {h : Int} (hn : ∀ r ∈ R.txs, r.h = h → r.st ≠ 0) : a.act? h = none := by
  cases ha : a.act? h with
  | none => rfl
  | some t =>
    exfalso
    unfold Abs.act? at ha
    rw [Option.filter_eq_some_iff] at ha
    have hm := List.mem_of_find?_eq_some ha.1
    have hh : t.h = h := by simpa using List.find?_some ha.1
    have hc : t.cm = 0 := by simpa using ha.2
    obtain ⟨x, hx, hl, rfl⟩ := E.of_mem hm
    have h0 := hn x hx hh
    have h1 : x.st = 1 := by
      simp [RTx.live] at hl
      rcases hl with h | h
      · exact absurd h h0
      · exact h
    have := (E.st1 x hx (.inl h1)).1
    have hc' : x.cm = 0 := hc
    omega

/-- who is passed -/
theorem RefIs.pass (E : RefIs a R) {k : RTx} (hk : k ∈ R.txs) (h0 : k.st = 0) (G : Tx → Bool) : (∀ r ∈ R.txs, r.live = true → (k.over r && G r.tx) = passB k.tx G r.tx) ∧ ∀ r ∈ R.txs, r.live = false → k.over r = false := by
  constructor
  · intro r hr hl
    have hs : r.st = 0 ∨ r.st = 1 := by simpa [RTx.live] using hl
    unfold passB RTx.over overlapsB
    show _ = (!decide (r.h = k.h) && _)
    rw [Bool.and_assoc]
    congr 1
    show _ = (_ && G r.tx)
    congr 1
    rcases hs with h | h
    · have := E.st0 r hr h
      simp [h, RTx.tx, this]
    · have := (E.st1 r hr (.inl h)).1
      have hne : (r.cm == 0) = false := by simp; omega
      simp [h, RTx.tx, hne]
      rfl
  · intro r hr hl
    have hs : ¬ (r.st = 0 ∨ r.st = 1) := by simpa [RTx.live] using hl
    unfold RTx.over
    rcases E.st r hr with h | h | h | h
    · exact absurd (.inl h) hs
    · exact absurd (.inr h) hs
    · simp [h]
    · have := E.old r hr h k hk h0
      have : ¬ k.bg < r.cm := by omega
      simp [h, this]

theorem mem_map_at {f : RTx → RTx} {l : List RTx} {j : Nat} {r : RTx} (h : (l.map f)[j]? = some r) : ∃ x, l[j]? = some x ∧ r = f x := by
  rw [List.getElem?_map] at h
  cases hx : l[j]? with
  | none => rw [hx] at h; cases h
  | some x => rw [hx] at h; exact ⟨x, rfl, (Option.some.inj h).symm⟩

/-- the records turn, but not who they are -/
theorem RefIs.mapT (E : RefIs a R) (f : Tx → Tx) (f' : RTx → RTx) (hh : ∀ r, (f' r).h = r.h) (hb : ∀ r, (f' r).bg = r.bg) (hc : ∀ r, (f' r).cm = r.cm) (hs : ∀ r, (f' r).st = r.st) (hio : ∀ r ∈ R.txs, 0 ≤ (f' r).i ∧ 0 ≤ (f' r).o)
    (hf : ∀ r ∈ R.txs, r.live = true → (f' r).tx = f r.tx) : RefIs { a with txs := a.txs.map f } { R with txs := R.txs.map f' } where
  c1 := E.c1
  c2 := E.c2
  c3 := E.c3
  c4 := E.c4
  clock := E.clock
  len := by simpa using E.len
  txs := by
    show a.txs.map f = ((R.txs.map f').filter RTx.live).map RTx.tx
    rw [E.txs, List.filter_map, List.map_map, List.map_map]
    have e : (RTx.live ∘ f') = RTx.live := by funext r; simp [RTx.live, hs]
    rw [e]
    exact List.map_congr_left (fun r hr => (hf r (List.mem_filter.1 hr).1 (List.mem_filter.1 hr).2).symm)
  hs := fun j r h => by
    obtain ⟨x, hx, rfl⟩ := mem_map_at h
    rw [hh]; exact E.hs j x hx
  st := fun r h => by obtain ⟨x, hx, rfl⟩ := List.mem_map.1 h; rw [hs]; exact E.st x hx
  st0 := fun r h => by obtain ⟨x, hx, rfl⟩ := List.mem_map.1 h; rw [hs, hc]; exact E.st0 x hx
  st1 := fun r h => by obtain ⟨x, hx, rfl⟩ := List.mem_map.1 h; rw [hs, hc]; exact E.st1 x hx
  old := fun r h h3 y hy h0 => by
    obtain ⟨x, hx, rfl⟩ := List.mem_map.1 h
    obtain ⟨z, hz, rfl⟩ := List.mem_map.1 hy
    rw [hs] at h3 h0
    rw [hc, hb]; exact E.old x hx h3 z hz h0
  i0 := fun r h => by obtain ⟨x, hx, rfl⟩ := List.mem_map.1 h; exact hio x hx
  vs := E.vs
  tot := E.tot
  srt := E.srt
  stamps := E.stamps

/-- it is active no more -/
def abortX (h : Int) (r : RTx) : RTx := if r.h = h then { r with st := 2 } else r
def RSt.abort (R : RSt) (h : Int) : RSt := { R with txs := R.txs.map (abortX h) }
theorem abortX_h (h : Int) (r : RTx) : (abortX h r).h = r.h := by unfold abortX; split <;> rfl
theorem abortX_bg (h : Int) (r : RTx) : (abortX h r).bg = r.bg := by unfold abortX; split <;> rfl
theorem abortX_cm (h : Int) (r : RTx) : (abortX h r).cm = r.cm := by unfold abortX; split <;> rfl
theorem abortX_tx (h : Int) (r : RTx) : (abortX h r).tx = r.tx := by unfold abortX; split <;> rfl
theorem abortX_st (h : Int) (r : RTx) : (abortX h r).st = if r.h = h then 2 else r.st := by unfold abortX; split <;> rfl
theorem abortX_io (h : Int) (r : RTx) : (abortX h r).i = r.i ∧ (abortX h r).o = r.o := by unfold abortX; split <;> exact ⟨rfl, rfl⟩

theorem RefIs.abort (E : RefIs a R) (h : Int) : RefIs (a.without h) (R.abort h) where
  c1 := E.c1
  c2 := E.c2
  c3 := E.c3
  c4 := E.c4
  clock := E.clock
  len := by show a.begun = _; simpa [RSt.abort] using E.len
  txs := by
    show a.txs.filter _ = ((R.txs.map (abortX h)).filter RTx.live).map RTx.tx
    rw [E.txs, List.filter_map, List.filter_map, List.map_map, List.filter_filter]
    have e1 : (RTx.tx ∘ abortX h) = RTx.tx := by funext r; exact abortX_tx h r
    rw [e1]
    congr 1
    refine List.filter_congr (fun r _ => ?_)
    simp only [Function.comp, RTx.live, abortX_st]
    by_cases e : r.h = h
    · simp [e, RTx.tx]
    · simp [e, RTx.tx]
  hs := fun j r hr => by
    obtain ⟨x, hx, rfl⟩ := mem_map_at hr
    rw [abortX_h]; exact E.hs j x hx
  st := fun r hr => by
    obtain ⟨x, hx, rfl⟩ := List.mem_map.1 hr
    rw [abortX_st]; split
    · simp
    · exact E.st x hx
  st0 := fun r hr h0 => by
    obtain ⟨x, hx, rfl⟩ := List.mem_map.1 hr
    rw [abortX_st] at h0
    split at h0
    · simp at h0
    · rw [abortX_cm]; exact E.st0 x hx h0
  st1 := fun r hr h0 => by
    obtain ⟨x, hx, rfl⟩ := List.mem_map.1 hr
    rw [abortX_st] at h0
    split at h0
    · simp at h0
    · rw [abortX_cm]; exact E.st1 x hx h0
  old := fun r hr h3 y hy h0 => by
    obtain ⟨x, hx, rfl⟩ := List.mem_map.1 hr
    obtain ⟨z, hz, rfl⟩ := List.mem_map.1 hy
    rw [abortX_st] at h3 h0
    split at h3
    · simp at h3
    · split at h0
      · simp at h0
      · rw [abortX_cm, abortX_bg]; exact E.old x hx h3 z hz h0
  i0 := fun r hr => by
    obtain ⟨x, hx, rfl⟩ := List.mem_map.1 hr
    rw [(abortX_io h x).1, (abortX_io h x).2]; exact E.i0 x hx
  vs := E.vs
  tot := E.tot
  srt := E.srt
  stamps := E.stamps

/-! ### how many -/

def RSt.nAct (R : RSt) : Nat := (R.txs.filter fun r => decide (r.st = 0)).length
def RSt.nKept (R : RSt) : Nat := (R.txs.filter fun r => decide (r.st = 1)).length
def RSt.nReads (R : RSt) : Nat := sumN (fun r : RTx => r.rd.length) (R.txs.filter RTx.live)

theorem live_len : ∀ (l : List RTx), (l.filter RTx.live).length = (l.filter fun r => decide (r.st = 0)).length + (l.filter fun r => decide (r.st = 1)).length
  | [] => rfl
  | r :: l => by
    have ih := live_len l
    by_cases h0 : r.st = 0
    · simp [RTx.live, h0] at ih ⊢; omega
    · by_cases h1 : r.st = 1
      · simp [RTx.live, h1] at ih ⊢; omega
      · simp [RTx.live, h0, h1] at ih ⊢; omega

theorem RefIs.nTxs (E : RefIs a R) : a.txs.length = R.nAct + R.nKept := by
  rw [E.txs, List.length_map, live_len]; rfl

theorem RefIs.nReads (E : RefIs a R) : a.nReads = R.nReads := by
  unfold Abs.nReads RSt.nReads
  rw [E.txs, sumN_map]; rfl

theorem RefIs.nAct (E : RefIs a R) : (a.txs.filter fun t => decide (t.cm = 0)).length = R.nAct := by
  rw [E.txs, List.filter_map, List.length_map, List.filter_filter]
  unfold RSt.nAct
  congr 1
  refine List.filter_congr (fun r hr => ?_)
  simp only [Function.comp, RTx.live]
  rcases E.st r hr with h | h | h | h
  · have := E.st0 r hr h; simp [h, RTx.tx, this]
  · have := (E.st1 r hr (.inl h)).1
    have : ¬ r.cm = 0 := by omega
    simp [h, RTx.tx, this]
  · simp [h]
  · simp [h]

/-! ### Begin -/

def RSt.begin (R : RSt) : RSt := { R with txs := R.txs ++ [⟨R.txs.length + 1, R.clock, 0, 0, 0, 0, [], []⟩] }

theorem RefIs.begin (E : RefIs a R) (h : (R.nAct + R.nKept : Int) < R.c1) : a.beginR.1 = ((R.txs.length : Int) + 1, 0) ∧ RefIs a.beginR.2 R.begin := by
  have hn := E.nTxs
  have hc : ¬ a.c1 ≤ a.txs.length := by rw [E.c1, hn]; omega
  have e2 : a.beginR.2 = { a with begun := a.begun + 1, txs := a.txs ++ [⟨a.begun + 1, a.clock, 0, [], [], false, false⟩] } := by unfold Abs.beginR; rw [if_neg hc]
  refine ⟨by unfold Abs.beginR; rw [if_neg hc, E.len], ?_⟩
  rw [e2]
  have hm : ∀ r ∈ R.begin.txs, r ∈ R.txs ∨ r = ⟨R.txs.length + 1, R.clock, 0, 0, 0, 0, [], []⟩ := fun r hr => by simpa [RSt.begin] using hr
  refine { c1 := E.c1, c2 := E.c2, c3 := E.c3, c4 := E.c4, clock := E.clock, len := ?_, txs := ?_, hs := fun j r hr => ?_, st := fun r hr => ?_, st0 := fun r hr h0 => ?_, st1 := fun r hr h1 => ?_, old := fun r hr h3 x hx h0 => ?_, i0 := fun r hr => ?_, vs := E.vs, tot := E.tot, srt := E.srt, stamps := E.stamps }
  · show a.begun + 1 = ((R.txs ++ [_]).length : Int)
    rw [E.len]; simp
  · show a.txs ++ [_] = ((R.txs ++ [_]).filter RTx.live).map RTx.tx
    rw [List.filter_append, List.map_append, ← E.txs, E.len, E.clock]
    simp [RTx.live, RTx.tx]
  · have hr' : (R.txs ++ [⟨R.txs.length + 1, R.clock, 0, 0, 0, 0, [], []⟩])[j]? = some r := hr
    rw [List.getElem?_append] at hr'
    split at hr'
    · exact E.hs j r hr'
    · rename_i hj
      have : j = R.txs.length := by
        rcases Nat.lt_or_ge (j - R.txs.length) 1 with h1 | h1
        · omega
        · rw [List.getElem?_eq_none (by simpa using h1)] at hr'; cases hr'
      subst this
      simp at hr'
      rw [← hr']
  · rcases hm r hr with h | rfl
    · exact E.st r h
    · simp
  · rcases hm r hr with h | rfl
    · exact E.st0 r h h0
    · rfl
  · rcases hm r hr with h | rfl
    · exact E.st1 r h h1
    · simp at h1
  · rcases hm r hr with h | rfl
    · rcases hm x hx with h' | rfl
      · exact E.old r h h3 x h' h0
      · exact (E.st1 r h (.inr h3)).2
    · simp at h3
  · rcases hm r hr with h | rfl
    · exact E.i0 r h
    · simp

theorem RefIs.begin_full (E : RefIs a R) (h : ¬ (R.nAct + R.nKept : Int) < R.c1) : a.beginR = ((0, 6), a) := by
  have hn := E.nTxs
  unfold Abs.beginR
  rw [if_pos (by rw [E.c1, hn]; omega)]

end
end Go.Proofs.YthfimgeopciiiaaGreat

/-
  The document's own store beside Abs: reads, Get, Scan's error, Write. No world, no program.
-/
namespace Go.Proofs.YthfimgeopciiiaaGreat
set_option linter.unusedVariables false

def RTx.past (k : RTx) (G : Tx → Bool) (x : RTx) : Bool := k.over x && G x.tx
def RSt.nPast (R : RSt) (k : RTx) (G : Tx → Bool) : Nat := (R.txs.filter (k.past G)).length
def RTx.out (x : RTx) : Bool := !decide (x.st = 0) && decide (0 < x.o)
def RTx.inn (x : RTx) : Bool := !decide (x.st = 0) && decide (0 < x.i)

/-- k reads e: n were passed -/
def readRX (n : Int) (k : RTx) (e : Ent) (x : RTx) : RTx :=
  { x with rd := if x.h = k.h then put x.rd e () else x.rd, i := if k.past (wroteT e) x then x.i + 1 else x.i, o := if x.h = k.h then x.o + n else x.o }
def RSt.readA (R : RSt) (k : RTx) (e : Ent) : RSt := { R with txs := R.txs.map (readRX (R.nPast k (wroteT e)) k e) }
def RSt.room (R : RSt) (k : RTx) (e : Ent) : Bool := (look k.rd e).isSome || decide ((R.nReads : Int) < R.c2)
def RSt.readR (R : RSt) (k : RTx) (e : Ent) : Int × RSt :=
  if R.room k e = false then (6, R) else if R.txs.any (fun x => k.past (wroteT e) x && x.out) = true then (8, R.abort k.h) else (0, R.readA k e)

/-- k writes cs -/
def writeRX (n : Int) (k : RTx) (cs : List Chg) (x : RTx) : RTx :=
  { x with wr := if x.h = k.h then joinW k.wr cs else x.wr, o := if k.past (readT cs) x then x.o + 1 else x.o, i := if x.h = k.h then x.i + n else x.i }
def RSt.writeA (R : RSt) (k : RTx) (cs : List Chg) : RSt := { R with txs := R.txs.map (writeRX (R.nPast k (readT cs)) k cs) }
def RSt.clash (R : RSt) (k : RTx) (key : ByteArray) : Bool :=
  (R.txs.any fun x => !decide (x.h = k.h) && decide (x.st = 0) && (look x.wr key).isSome) || R.vers.any fun p => decide (p.1 = key) && decide (k.bg < p.2.1)
def RSt.writeR (R : RSt) (k : RTx) (cs : List Chg) : Int × RSt :=
  if changesE cs ≠ 0 then (changesE cs, R) else if R.c3 < ((joinW k.wr cs).length : Int) then (6, R) else
    if (cs.any fun c => R.clash k c.1) = true then (7, R.abort k.h) else if R.txs.any (fun x => k.past (readT cs) x && x.inn) = true then (8, R.abort k.h) else (0, R.writeA k cs)

section
variable {a : Abs} {R : RSt} {k : RTx}

theorem RefIs.any_past (E : RefIs a R) (hk : k ∈ R.txs) (h0 : k.st = 0) (G : Tx → Bool) : R.txs.any (k.past G) = a.txs.any (passB k.tx G) := by
  obtain ⟨p1, p2⟩ := E.pass hk h0 G
  exact E.any _ _ (fun r hr hl => p1 r hr hl) (fun r hr hl => by unfold RTx.past; rw [p2 r hr hl]; rfl)

theorem RefIs.com (E : RefIs a R) {r : RTx} (hr : r ∈ R.txs) (hl : r.live = true) (b : Bool) : (!decide (r.st = 0) && b) = comInB r.tx.cm b := by
  have hs : r.st = 0 ∨ r.st = 1 := by simpa [RTx.live] using hl
  unfold comInB
  congr 2
  rcases hs with h | h
  · have : r.tx.cm = 0 := E.st0 r hr h
    simp [h, this]
  · have : 0 < r.tx.cm := (E.st1 r hr (.inl h)).1
    have : ¬ r.tx.cm = 0 := by omega
    simp [h, this]

theorem RefIs.okR (E : RefIs a R) (hk : k ∈ R.txs) (h0 : k.st = 0) (e : Ent) : a.okR k.tx e = !R.txs.any (fun x => k.past (wroteT e) x && x.out) := by
  obtain ⟨p1, p2⟩ := E.pass hk h0 (wroteT e)
  unfold Abs.okR
  congr 1
  refine (E.any _ _ (fun r hr hl => ?_) (fun r hr hl => ?_)).symm
  · show (k.over r && wroteT e r.tx && r.out) = _
    rw [p1 r hr hl]
    unfold RTx.out
    rw [E.com hr hl]; rfl
  · show (k.over r && wroteT e r.tx && r.out) = _
    rw [p2 r hr hl]; rfl

theorem RefIs.okW (E : RefIs a R) (hk : k ∈ R.txs) (h0 : k.st = 0) (cs : List Chg) : a.okW k.tx cs = !R.txs.any (fun x => k.past (readT cs) x && x.inn) := by
  obtain ⟨p1, p2⟩ := E.pass hk h0 (readT cs)
  unfold Abs.okW
  congr 1
  refine (E.any _ _ (fun r hr hl => ?_) (fun r hr hl => ?_)).symm
  · show (k.over r && readT cs r.tx && r.inn) = _
    rw [p1 r hr hl]
    unfold RTx.inn
    rw [E.com hr hl]; rfl
  · show (k.over r && readT cs r.tx && r.inn) = _
    rw [p2 r hr hl]; rfl

theorem RSt.nPast_pos (R : RSt) (k : RTx) (G : Tx → Bool) : decide (0 < (R.nPast k G : Int)) = R.txs.any (k.past G) := by
  unfold RSt.nPast
  rw [Bool.eq_iff_iff, List.any_eq_true]
  simp only [decide_eq_true_eq]
  constructor
  · intro h
    obtain ⟨x, hx⟩ := List.exists_mem_of_length_pos (by omega : 0 < (R.txs.filter (k.past G)).length)
    exact ⟨x, (List.mem_filter.1 hx).1, (List.mem_filter.1 hx).2⟩
  · rintro ⟨x, hx, hp⟩
    have := List.length_pos_of_mem (List.mem_filter.2 ⟨hx, hp⟩)
    omega

theorem pos_add {x n : Int} (hx : 0 ≤ x) (hn : 0 ≤ n) : decide (0 < x + n) = (decide (0 < x) || decide (0 < n)) := by
  rw [Bool.eq_iff_iff]; simp; omega

theorem RefIs.readA (E : RefIs a R) (hk : k ∈ R.txs) (h0 : k.st = 0) (e : Ent) : RefIs (a.readA k.tx e) (R.readA k e) := by
  obtain ⟨p1, p2⟩ := E.pass hk h0 (wroteT e)
  refine E.mapT _ _ (fun _ => rfl) (fun _ => rfl) (fun _ => rfl) (fun _ => rfl) (fun r hr => ?_) (fun r hr hl => ?_)
  · have := E.i0 r hr
    simp only [readRX]
    constructor
    · split <;> omega
    · split <;> omega
  · have hi := E.i0 r hr
    have e1 : k.past (wroteT e) r = passB k.tx (wroteT e) r.tx := p1 r hr hl
    unfold readX readRX RTx.tx
    simp only [Tx.mk.injEq, true_and]
    refine ⟨?_, ?_⟩
    · show decide (0 < if k.past (wroteT e) r = true then r.i + 1 else r.i) = (decide (0 < r.i) || passB k.tx (wroteT e) r.tx)
      rw [e1]
      cases passB k.tx (wroteT e) r.tx with
      | true => simp; omega
      | false => simp
    · show decide (0 < if r.h = k.h then r.o + (R.nPast k (wroteT e) : Int) else r.o) = (decide (0 < r.o) || (decide (r.h = k.h) && a.txs.any (passB k.tx (wroteT e))))
      rw [← E.any_past hk h0 (wroteT e), ← R.nPast_pos]
      by_cases eh : r.h = k.h
      · rw [if_pos eh, pos_add hi.2 (by omega)]; simp [eh]
      · rw [if_neg eh]; simp [eh]

theorem RefIs.room (E : RefIs a R) (k : RTx) (e : Ent) : a.room k.tx e = R.room k e := by
  unfold Abs.room RSt.room
  rw [E.nReads, E.c2]; rfl

theorem RefIs.readR (E : RefIs a R) (hk : k ∈ R.txs) (h0 : k.st = 0) (e : Ent) : (a.readR k.tx e).1 = (R.readR k e).1 ∧ RefIs (a.readR k.tx e).2 (R.readR k e).2 := by
  unfold Abs.readR RSt.readR
  rw [E.room, E.okR hk h0]
  cases R.room k e with
  | false => simp; exact E
  | true =>
    cases R.txs.any (fun x => k.past (wroteT e) x && x.out) with
    | true => simp; exact E.abort _
    | false => simp; exact E.readA hk h0 e

theorem RefIs.writeA (E : RefIs a R) (hk : k ∈ R.txs) (h0 : k.st = 0) (cs : List Chg) : RefIs (a.writeA k.tx cs) (R.writeA k cs) := by
  obtain ⟨p1, p2⟩ := E.pass hk h0 (readT cs)
  refine E.mapT _ _ (fun _ => rfl) (fun _ => rfl) (fun _ => rfl) (fun _ => rfl) (fun r hr => ?_) (fun r hr hl => ?_)
  · have := E.i0 r hr
    simp only [writeRX]
    constructor
    · split <;> omega
    · split <;> omega
  · have hi := E.i0 r hr
    have e1 : k.past (readT cs) r = passB k.tx (readT cs) r.tx := p1 r hr hl
    unfold writeX writeRX RTx.tx
    simp only [Tx.mk.injEq, true_and]
    refine ⟨?_, ?_⟩
    · show decide (0 < if r.h = k.h then r.i + (R.nPast k (readT cs) : Int) else r.i) = (decide (0 < r.i) || (decide (r.h = k.h) && a.txs.any (passB k.tx (readT cs))))
      rw [← E.any_past hk h0 (readT cs), ← R.nPast_pos]
      by_cases eh : r.h = k.h
      · rw [if_pos eh, pos_add hi.1 (by omega)]; simp [eh]
      · rw [if_neg eh]; simp [eh]
    · show decide (0 < if k.past (readT cs) r = true then r.o + 1 else r.o) = (decide (0 < r.o) || passB k.tx (readT cs) r.tx)
      rw [e1]
      cases passB k.tx (readT cs) r.tx with
      | true => simp; omega
      | false => simp

theorem RefIs.held (E : RefIs a R) (key : ByteArray) : a.held k.tx key = R.txs.any fun x => !decide (x.h = k.h) && decide (x.st = 0) && (look x.wr key).isSome := by
  unfold Abs.held
  refine (E.any _ _ (fun r hr hl => ?_) (fun r hr hl => ?_)).symm
  · have hs : r.st = 0 ∨ r.st = 1 := by simpa [RTx.live] using hl
    show _ = ((look r.wr key).isSome && !decide (r.h = k.h) && (r.cm == 0))
    rcases hs with h | h
    · have := E.st0 r hr h
      simp [h, this, Bool.and_comm]
    · have := (E.st1 r hr (.inl h)).1
      have hne : (r.cm == 0) = false := by simp; omega
      simp [h, hne]
  · have hs : ¬ (r.st = 0 ∨ r.st = 1) := by simpa [RTx.live] using hl
    have : ¬ r.st = 0 := fun h => hs (.inl h)
    simp [this]

theorem RefIs.newer (E : RefIs a R) (key : ByteArray) (b : Int) : newerB (a.vs key) b = R.vers.any fun p => decide (p.1 = key) && decide (b < p.2.1) := by
  rw [E.vs]
  unfold newerB RSt.vs
  rw [List.any_map, List.any_filter]; rfl

theorem RefIs.clash (E : RefIs a R) (k : RTx) (cs : List Chg) : a.clash k.tx cs = cs.any fun c => R.clash k c.1 := by
  unfold Abs.clash RSt.clash
  congr 1
  funext c
  rw [E.held, E.newer]; rfl

theorem RefIs.writeR (E : RefIs a R) {n : Int} (I : a.Inv n) (hk : k ∈ R.txs) (h0 : k.st = 0) (cs : List Chg) : (a.writeR k.h cs).1 = (R.writeR k cs).1 ∧ RefIs (a.writeR k.h cs).2 (R.writeR k cs).2 := by
  unfold Abs.writeR RSt.writeR
  rw [E.act I hk h0]
  simp only
  have ek : (k.tx.keysWith cs : Int) = ((joinW k.wr cs).length : Int) := by
    rw [joinW_len]; rfl
  rw [ek, E.c3, E.clash, E.okW hk h0]
  by_cases h1 : changesE cs ≠ 0
  · rw [if_pos h1, if_pos h1]; exact ⟨rfl, E⟩
  rw [if_neg h1, if_neg h1]
  by_cases h2 : R.c3 < ((joinW k.wr cs).length : Int)
  · rw [if_pos h2, if_pos h2]; exact ⟨rfl, E⟩
  rw [if_neg h2, if_neg h2]
  by_cases h3 : (cs.any fun c => R.clash k c.1) = true
  · rw [if_pos h3, if_pos h3]; exact ⟨rfl, E.abort _⟩
  rw [if_neg h3, if_neg h3]
  by_cases h4 : R.txs.any (fun x => k.past (readT cs) x && x.inn) = true
  · rw [if_pos h4, if_pos (by rw [h4]; rfl)]; exact ⟨rfl, E.abort _⟩
  rw [if_neg h4, if_neg (by simpa using h4)]
  exact ⟨rfl, E.writeA hk h0 cs⟩

end
end Go.Proofs.YthfimgeopciiiaaGreat

/-
  The document's own store beside Abs: what is seen, Commit. No world, no program.
-/
namespace Go.Proofs.YthfimgeopciiiaaGreat
set_option linter.unusedVariables false

/-- Sees' loop: the best stamp so far, the value, whether it is there -/
def seesF (key : ByteArray) (b : Int) (s : Int × ByteArray × Bool) (p : ByteArray × Ver) : Int × ByteArray × Bool :=
  if p.1 = key ∧ p.2.1 ≤ b ∧ s.1 < p.2.1 then (p.2.1, p.2.2.1, !p.2.2.2) else s
def RSt.sees (R : RSt) (b : Int) (key : ByteArray) : ByteArray × Bool :=
  if (R.vers.foldl (seesF key b) (0, ⟨#[]⟩, false)).2.2 = true then ((R.vers.foldl (seesF key b) (0, ⟨#[]⟩, false)).2.1, true) else (⟨#[]⟩, false)

theorem seesF_fold (key : ByteArray) (b : Int) : ∀ (l : List (ByteArray × Ver)) (s : Int × ByteArray × Bool), l.Pairwise VerLt → (∀ p ∈ l, p.1 = key → s.1 < p.2.1) →
    (l.foldl (seesF key b) s).2 = ((((l.filter fun p => decide (p.1 = key)).map (·.2)).foldl (snapF b) (s.2.1, !s.2.2)).1, !(((l.filter fun p => decide (p.1 = key)).map (·.2)).foldl (snapF b) (s.2.1, !s.2.2)).2)
  | [], s, _, _ => by simp
  | p :: l, s, hp, hs => by
    obtain ⟨h1, h2⟩ := List.pairwise_cons.1 hp
    rw [List.foldl_cons]
    by_cases e : p.1 = key
    · have hlt := hs p (by simp) e
      rw [List.filter_cons_of_pos (by simpa using e), List.map_cons, List.foldl_cons]
      by_cases hb : p.2.1 ≤ b
      · have e1 : seesF key b s p = (p.2.1, p.2.2.1, !p.2.2.2) := by unfold seesF; rw [if_pos ⟨e, hb, hlt⟩]
        have e2 : snapF b (s.2.1, !s.2.2) p.2 = p.2.2 := by unfold snapF; rw [if_pos hb]
        have ih := seesF_fold key b l (p.2.1, p.2.2.1, !p.2.2.2) h2 (fun q hq eq => h1 q hq (e.trans eq.symm))
        rw [e1, e2, ih]
        simp
      · have e1 : seesF key b s p = s := by unfold seesF; rw [if_neg (fun h => hb h.2.1)]
        have e2 : snapF b (s.2.1, !s.2.2) p.2 = (s.2.1, !s.2.2) := by unfold snapF; rw [if_neg hb]
        rw [e1, e2]
        exact seesF_fold key b l s h2 (fun q hq eq => hs q (by simp [hq]) eq)
    · have e1 : seesF key b s p = s := by unfold seesF; rw [if_neg (fun h => e h.1)]
      rw [e1, List.filter_cons_of_neg (by simpa using e)]
      exact seesF_fold key b l s h2 (fun q hq eq => hs q (by simp [hq]) eq)

theorem snap_gone {vs : List Ver} (hg : ∀ x ∈ vs, x.2.2 = true → x.2.1 = (⟨#[]⟩ : ByteArray)) (b : Int) : (snap vs b).2 = true → (snap vs b).1 = ⟨#[]⟩ := by
  have : ∀ (l : List Ver) (c : Cont), (∀ x ∈ l, x.2.2 = true → x.2.1 = (⟨#[]⟩ : ByteArray)) → (c.2 = true → c.1 = ⟨#[]⟩) → (l.foldl (snapF b) c).2 = true → (l.foldl (snapF b) c).1 = (⟨#[]⟩ : ByteArray) := by
    intro l
    induction l with
    | nil => intro c _ h; exact h
    | cons x l ih =>
      intro c hl hc
      rw [List.foldl_cons]
      refine ih _ (fun y hy => hl y (by simp [hy])) ?_
      unfold snapF
      split
      · exact hl x (by simp)
      · exact hc
  exact this vs _ hg (fun _ => rfl)

section
variable {a : Abs} {R : RSt} {k : RTx}

theorem vs_gone {n : Int} (I : a.Inv n) (key : ByteArray) : ∀ x ∈ a.vs key, x.2.2 = true → x.2.1 = (⟨#[]⟩ : ByteArray) := by
  intro x hx
  unfold Abs.vs at hx
  cases hl : look a.vers key with
  | none => rw [hl] at hx; simp at hx
  | some l =>
    rw [hl] at hx
    exact I.vgone (key, l) (lookup_mem hl) x hx

theorem RefIs.sees (E : RefIs a R) {n : Int} (I : a.Inv n) (b : Int) (key : ByteArray) : R.sees b key = ((snap (a.vs key) b).1, !(snap (a.vs key) b).2) := by
  have h := seesF_fold key b R.vers (0, ⟨#[]⟩, false) E.srt (fun p hp _ => (E.stamps p hp).1)
  have e : (snap (a.vs key) b) = ((R.vers.filter fun p => decide (p.1 = key)).map (·.2)).foldl (snapF b) (⟨#[]⟩, true) := by rw [E.vs]; rfl
  simp only [Bool.not_false] at h
  rw [← e] at h
  have hg := snap_gone (vs_gone I key) b
  unfold RSt.sees
  rw [h]
  cases hc : (snap (a.vs key) b).2 with
  | true => simp [hg hc]
  | false => simp

/-! ### Get -/

def RSt.getR (R : RSt) (k : RTx) (key : ByteArray) : (ByteArray × Bool × Int) × RSt :=
  if keyB key = false then ((⟨#[]⟩, false, 3), R) else
  match look k.wr key with
  | some c => ((if c.2 then ⟨#[]⟩ else c.1, !c.2, 0), R)
  | none => if (R.readR k (keyE key)).1 = 0 then (((R.sees k.bg key).1, (R.sees k.bg key).2, 0), (R.readR k (keyE key)).2) else ((⟨#[]⟩, false, (R.readR k (keyE key)).1), (R.readR k (keyE key)).2)

theorem RefIs.getR (E : RefIs a R) {n : Int} (I : a.Inv n) (hk : k ∈ R.txs) (h0 : k.st = 0) (key : ByteArray) : (a.getR k.h key).1 = (R.getR k key).1 ∧ RefIs (a.getR k.h key).2 (R.getR k key).2 := by
  have ha := E.act I hk h0
  have hm := (act_mem' ha).1
  unfold Abs.getR RSt.getR
  rw [ha]
  simp only
  by_cases hK : keyB key = false
  · rw [if_pos hK, if_pos hK]; exact ⟨rfl, E⟩
  rw [if_neg hK, if_neg hK]
  have ew : look k.tx.wr key = look k.wr key := rfl
  rw [ew]
  cases hl : look k.wr key with
  | some c =>
    refine ⟨?_, E⟩
    simp only
    cases hc : c.2 with
    | true =>
      have := I.gone k.tx hm (key, c) (lookup_mem hl) hc
      simp at this
      simp [this]
    | false => simp
  | none =>
    simp only
    obtain ⟨r1, r2⟩ := E.readR hk h0 (keyE key)
    rw [r1, E.sees I]
    split
    · exact ⟨rfl, r2⟩
    · exact ⟨rfl, r2⟩

/-! ### Commit -/

def commRX (c h : Int) (x : RTx) : RTx := if x.h = h then { x with st := 1, cm := c } else x
def RSt.comm (R : RSt) (k : RTx) : RSt := { R with clock := R.clock + 1, txs := R.txs.map (commRX (R.clock + 1) k.h), vers := R.vers ++ k.wr.map fun p => (p.1, (R.clock + 1, p.2)) }
def RSt.commR (R : RSt) (k : RTx) : Int × RSt :=
  if (decide (0 < k.i) && decide (0 < k.o)) = true then (8, R.abort k.h) else if R.c4 < (R.vers.length : Int) + k.wr.length then (6, R) else (0, R.comm k)

theorem look_filter {β : Type} {key : ByteArray} : ∀ {l : List (ByteArray × β)}, (l.map (·.1)).Nodup → l.filter (fun p => decide (p.1 = key)) = (look l key).toList.map fun v => (key, v)
  | [], _ => rfl
  | p :: l, h => by
    simp only [List.map_cons, List.nodup_cons] at h
    by_cases e : p.1 = key
    · rw [List.filter_cons_of_pos (by simpa using e)]
      have : l.filter (fun p => decide (p.1 = key)) = [] := by
        rw [List.filter_eq_nil_iff]
        intro q hq
        have : q.1 ≠ key := fun eq => h.1 (List.mem_map.2 ⟨q, hq, eq.trans e.symm⟩)
        simpa using this
      rw [this]
      simp [look, e]
      rw [← e]
    · rw [List.filter_cons_of_neg (by simpa using e), look_filter h.2]
      simp [look, e]

theorem commRX_h (c h : Int) (x : RTx) : (commRX c h x).h = x.h := by unfold commRX; split <;> rfl
theorem commRX_bg (c h : Int) (x : RTx) : (commRX c h x).bg = x.bg := by unfold commRX; split <;> rfl

theorem RefIs.comm (E : RefIs a R) {n : Int} (I : a.Inv n) (hk : k ∈ R.txs) (h0 : k.st = 0) {a' : Abs} (C : CommIs a k.tx a') : RefIs a' (R.comm k) := by
  have hm := E.mem hk (by simp [RTx.live, h0])
  have hwn := I.wnd k.tx hm
  have hclk := I.clock.1
  rw [E.clock] at hclk
  have hw : ∀ x ∈ R.txs, x.h = k.h → x = k := fun x hx e => E.h_inj hx hk e
  have hst : ∀ x ∈ R.txs, (commRX (R.clock + 1) k.h x).st = if x.h = k.h then 1 else x.st := fun x _ => by unfold commRX; split <;> rfl
  have hcm : ∀ x ∈ R.txs, (commRX (R.clock + 1) k.h x).cm = if x.h = k.h then R.clock + 1 else x.cm := fun x _ => by unfold commRX; split <;> rfl
  refine { c1 := C.c1.trans E.c1, c2 := C.c2.trans E.c2, c3 := C.c3.trans E.c3, c4 := C.c4.trans E.c4, clock := ?_, len := ?_, txs := ?_, hs := fun j r hr => ?_, st := fun r hr => ?_, st0 := fun r hr h => ?_, st1 := fun r hr h => ?_, old := fun r hr h3 y hy h00 => ?_, i0 := fun r hr => ?_, vs := fun key => ?_, tot := ?_, srt := ?_, stamps := fun p hp => ?_ }
  · rw [C.clock, E.clock]; rfl
  · rw [C.begun, E.len]; simp [RSt.comm]
  · rw [C.txs, commA_txs, E.txs, E.clock]
    show _ = ((R.txs.map (commRX (R.clock + 1) k.h)).filter RTx.live).map RTx.tx
    rw [List.filter_map, List.map_map, List.map_map]
    have e1 : R.txs.filter (RTx.live ∘ commRX (R.clock + 1) k.h) = R.txs.filter RTx.live := by
      refine List.filter_congr (fun x hx => ?_)
      simp only [Function.comp, RTx.live, hst x hx]
      by_cases e : x.h = k.h
      · rw [hw x hx e]; simp [h0]
      · simp [e]
    rw [e1]
    refine List.map_congr_left (fun x hx => ?_)
    simp only [Function.comp, commX, commRX]
    show (if x.h = k.h then _ else _) = _
    by_cases e : x.h = k.h
    · rw [if_pos e, if_pos e]; rfl
    · rw [if_neg e, if_neg e]
  · obtain ⟨x, hx, rfl⟩ := mem_map_at hr
    rw [commRX_h]; exact E.hs j x hx
  · obtain ⟨x, hx, rfl⟩ := List.mem_map.1 hr
    rw [hst x hx]; split
    · simp
    · exact E.st x hx
  · obtain ⟨x, hx, rfl⟩ := List.mem_map.1 hr
    rw [hst x hx] at h
    rw [hcm x hx]
    split at h
    · simp at h
    · rename_i e; rw [if_neg e]; exact E.st0 x hx h
  · obtain ⟨x, hx, rfl⟩ := List.mem_map.1 hr
    rw [hst x hx] at h
    rw [hcm x hx]
    show _ ∧ _ ≤ R.clock + 1
    split
    · omega
    · rename_i e; rw [if_neg e] at h
      have := E.st1 x hx h; omega
  · obtain ⟨x, hx, rfl⟩ := List.mem_map.1 hr
    obtain ⟨z, hz, rfl⟩ := List.mem_map.1 hy
    rw [hst x hx] at h3
    rw [hst z hz] at h00
    split at h3
    · simp at h3
    · rename_i e
      split at h00
      · simp at h00
      · rw [hcm x hx, if_neg e, commRX_bg]; exact E.old x hx h3 z hz h00
  · obtain ⟨x, hx, rfl⟩ := List.mem_map.1 hr
    have : (commRX (R.clock + 1) k.h x).i = x.i ∧ (commRX (R.clock + 1) k.h x).o = x.o := by unfold commRX; split <;> exact ⟨rfl, rfl⟩
    rw [this.1, this.2]; exact E.i0 x hx
  · rw [C.vs_eq hwn key, E.vs, E.clock]
    unfold RSt.vs RSt.comm
    simp only
    rw [List.filter_append, List.map_append, List.filter_map, List.map_map]
    congr 1
    have : ((fun p : ByteArray × Ver => decide (p.1 = key)) ∘ fun p : ByteArray × Cont => (p.1, (R.clock + 1, p.2))) = fun p => decide (p.1 = key) := rfl
    have hwn' : (k.wr.map (·.1)).Nodup := hwn
    rw [this, look_filter hwn', List.map_map]
    rfl
  · obtain ⟨done, hd, hv⟩ := C.vers
    rw [hv, addAll_tot, hd.length_eq, E.tot]
    show _ = (R.vers ++ k.wr.map _).length
    rw [List.length_append, List.length_map]; rfl
  · show (R.vers ++ k.wr.map _).Pairwise VerLt
    rw [List.pairwise_append]
    refine ⟨E.srt, ?_, fun p hp q hq e => ?_⟩
    · rw [List.pairwise_map]
      have h2 : k.wr.Pairwise fun p q => p.1 ≠ q.1 := by
        have := hwn
        rw [List.Nodup, List.pairwise_map] at this
        exact this
      exact h2.imp (fun h e => absurd e h)
    · obtain ⟨x, hx, rfl⟩ := List.mem_map.1 hq
      have := (E.stamps p hp).2
      show p.2.1 < R.clock + 1
      omega
  · show _ ∧ _ ≤ R.clock + 1
    have hp' : p ∈ R.vers ++ k.wr.map fun p => (p.1, (R.clock + 1, p.2)) := hp
    rcases List.mem_append.1 hp' with h | h
    · have := E.stamps p h; omega
    · obtain ⟨x, hx, rfl⟩ := List.mem_map.1 h
      simp; omega

end
end Go.Proofs.YthfimgeopciiiaaGreat

/-
  The document's own store beside Abs: Commit's answer, Cleanup. No world, no program.
-/
namespace Go.Proofs.YthfimgeopciiiaaGreat
set_option linter.unusedVariables false

section
variable {a : Abs} {R : RSt} {k : RTx}

theorem RefIs.commR (E : RefIs a R) {n : Int} (I : a.Inv n) (hk : k ∈ R.txs) (h0 : k.st = 0) :
    (a.commR k.h).1 = (R.commR k).1 ∧ (∀ t, (a.commR k.h).2.2 = some t → t = k.tx ∧ (R.commR k).2 = R.comm k) ∧ ((a.commR k.h).2.2 = none → RefIs (a.commR k.h).2.1 (R.commR k).2) := by
  unfold Abs.commR RSt.commR
  rw [E.act I hk h0]
  simp only
  have e1 : (k.tx.i && k.tx.o) = (decide (0 < k.i) && decide (0 < k.o)) := rfl
  have e2 : (k.tx.wr.length : Int) = k.wr.length := rfl
  rw [e1, e2, E.c4, E.tot]
  by_cases h1 : (decide (0 < k.i) && decide (0 < k.o)) = true
  · rw [if_pos h1, if_pos h1]; exact ⟨rfl, fun t h => by simp at h, fun _ => E.abort _⟩
  rw [if_neg h1, if_neg h1]
  by_cases h2 : R.c4 < (R.vers.length : Int) + k.wr.length
  · rw [if_pos h2, if_pos h2]; exact ⟨rfl, fun t h => by simp at h, fun _ => E⟩
  rw [if_neg h2, if_neg h2]
  exact ⟨rfl, fun t h => by simp at h; exact ⟨h.symm, rfl⟩, fun h => by simp at h⟩

theorem RefIs.abortR (E : RefIs a R) {n : Int} (I : a.Inv n) (hk : k ∈ R.txs) (h0 : k.st = 0) : (a.abortR k.h).1 = 0 ∧ RefIs (a.abortR k.h).2 (R.abort k.h) := by
  unfold Abs.abortR
  rw [E.act I hk h0]
  exact ⟨rfl, E.abort _⟩

end

/-! ### Cleanup -/

/-- what is left of the versions of a key: x up to the mark, the others behind it -/
def dl (m : Int) (x : Ver) : List Ver → List Ver
  | [] => if x.2.2 then [] else [x]
  | y :: r => if m < y.1 then (if x.2.2 then y :: r else x :: y :: r) else dl m y r

theorem firstF_dl (m : Int) : ∀ (l : List Ver) (pre : List Ver) (x : Ver), ((pre ++ [x]) ++ l).drop (firstF m l (pre.length + 1) (if x.2.2 then pre.length + 1 else pre.length)) = dl m x l
  | [], pre, x => by
    simp only [firstF, dl, List.append_nil]
    cases x.2.2 with
    | true => simp
    | false => simp
  | y :: r, pre, x => by
    by_cases h : m < y.1
    · simp only [firstF, dl, h, if_true]
      cases x.2.2 with
      | true => simp [List.drop_append]
      | false => simp
    · simp only [firstF, dl, h, if_false]
      have := firstF_dl m r (pre ++ [x]) y
      simp only [List.length_append, List.length_cons, List.length_nil, Nat.zero_add] at this
      rw [← this]
      simp

theorem dropL_cons (m : Int) (x : Ver) (r : List Ver) : dropL m (x :: r) = if m < x.1 then x :: r else dl m x r := by
  unfold dropL
  by_cases h : m < x.1
  · simp [firstF, h]
  · simp only [firstF, h, if_false]
    have := firstF_dl m r [] x
    simpa using this

/-- is it kept, among these? -/
def keepX (Z : List Ver) (m : Int) (v : Ver) : Bool := decide (m < v.1) || ((Z.all fun u => !(decide (u.1 ≤ m) && decide (v.1 < u.1))) && !v.2.2)

theorem filter_dl (m : Int) : ∀ (l : List Ver) (x : Ver) (Z : List Ver), x.1 ≤ m → (x :: l).Pairwise (fun p q => p.1 < q.1) → (∀ u ∈ Z, u ∈ x :: l ∨ u.1 ≤ x.1) → (∀ u ∈ x :: l, u ∈ Z) → (x :: l).filter (keepX Z m) = dl m x l
  | [], x, Z, hx, hs, h1, h2 => by
    have hk : keepX Z m x = !x.2.2 := by
      unfold keepX
      have : (Z.all fun u => !(decide (u.1 ≤ m) && decide (x.1 < u.1))) = true := by
        rw [List.all_eq_true]
        intro u hu
        rcases h1 u hu with h | h
        · simp at h; subst h; simp
        · have : ¬ x.1 < u.1 := by omega
          simp [this]
      have hn : ¬ m < x.1 := by omega
      rw [this]; simp [hn]
    cases hg : x.2.2 with
    | true => simp [dl, hk, hg]
    | false => simp [dl, hk, hg]
  | y :: r, x, Z, hx, hs, h1, h2 => by
    obtain ⟨s1, s2⟩ := List.pairwise_cons.1 hs
    obtain ⟨t1, t2⟩ := List.pairwise_cons.1 s2
    have hn : ¬ m < x.1 := by omega
    by_cases h : m < y.1
    · have hall : (y :: r).filter (keepX Z m) = y :: r := by
        rw [List.filter_eq_self]
        intro u hu
        have : m < u.1 := by
          rcases List.mem_cons.1 hu with rfl | hu
          · exact h
          · have := t1 u hu; omega
        unfold keepX; simp [this]
      have hk : keepX Z m x = !x.2.2 := by
        unfold keepX
        have : (Z.all fun u => !(decide (u.1 ≤ m) && decide (x.1 < u.1))) = true := by
          rw [List.all_eq_true]
          intro u hu
          rcases h1 u hu with h' | h'
          · rcases List.mem_cons.1 h' with rfl | h'
            · simp
            · have : ¬ u.1 ≤ m := by
                rcases List.mem_cons.1 h' with rfl | h'
                · omega
                · have := t1 u h'; omega
              simp [this]
          · have : ¬ x.1 < u.1 := by omega
            simp [this]
        rw [this]; simp [hn]
      rw [List.filter_cons, hk, hall]
      simp only [dl, h, if_true]
      cases x.2.2 <;> simp
    · have hy : y.1 ≤ m := by omega
      have hxy := s1 y (by simp)
      have hk : keepX Z m x = false := by
        unfold keepX
        have : (Z.all fun u => !(decide (u.1 ≤ m) && decide (x.1 < u.1))) = false := by
          rw [Bool.eq_false_iff]
          intro hc
          have := List.all_eq_true.1 hc y (h2 y (by simp))
          simp [hy] at this
          omega
        rw [this]; simp [hn]
      rw [List.filter_cons, hk]
      simp only [dl, h, if_false]
      refine filter_dl m r y Z hy s2 (fun u hu => ?_) (fun u hu => h2 u (by simp [List.mem_cons.1 hu]))
      rcases h1 u hu with h' | h'
      · rcases List.mem_cons.1 h' with rfl | h'
        · right; omega
        · exact .inl h'
      · right; omega

theorem filter_dropL {m : Int} {xs : List Ver} (hs : xs.Pairwise fun p q => p.1 < q.1) : xs.filter (keepX xs m) = dropL m xs := by
  match xs, hs with
  | [], _ => rfl
  | x :: r, hs =>
    rw [dropL_cons]
    by_cases h : m < x.1
    · rw [if_pos h, List.filter_eq_self]
      intro u hu
      have : m < u.1 := by
        rcases List.mem_cons.1 hu with rfl | hu
        · exact h
        · have := (List.pairwise_cons.1 hs).1 u hu; omega
      unfold keepX; simp [this]
    · rw [if_neg h]
      exact filter_dl m r x (x :: r) (by omega) hs (fun u hu => .inl hu) (fun u hu => hu)

/-- is a version kept, among all? -/
def keepV (L : List (ByteArray × Ver)) (m : Int) (v : ByteArray × Ver) : Bool :=
  decide (m < v.2.1) || ((L.all fun u => !(decide (u.1 = v.1) && decide (u.2.1 ≤ m) && decide (v.2.1 < u.2.1))) && !v.2.2.2)

theorem keepV_key {L : List (ByteArray × Ver)} (hs : L.Pairwise VerLt) (m : Int) (k : ByteArray) :
    ((L.filter (keepV L m)).filter fun p => decide (p.1 = k)).map (·.2) = dropL m ((L.filter fun p => decide (p.1 = k)).map (·.2)) := by
  have hs' : ((L.filter fun p => decide (p.1 = k)).map (·.2)).Pairwise fun p q => p.1 < q.1 := by
    rw [List.pairwise_map]
    refine (hs.filter (fun p => decide (p.1 = k))).imp_of_mem (fun {p q} hp hq h => h ?_)
    have h1 : p.1 = k := by simpa using (List.mem_filter.1 hp).2
    have h2 : q.1 = k := by simpa using (List.mem_filter.1 hq).2
    rw [h1, h2]
  rw [← filter_dropL hs', List.filter_map, List.filter_filter, List.filter_filter]
  congr 1
  refine List.filter_congr (fun p hp => ?_)
  by_cases e : p.1 = k
  · simp only [e, decide_true, Bool.true_and, Bool.and_true, Function.comp]
    unfold keepV keepX
    congr 2
    rw [Bool.eq_iff_iff, List.all_eq_true, List.all_eq_true]
    constructor
    · intro h u hu
      obtain ⟨q, hq, rfl⟩ := List.mem_map.1 hu
      have := h q (List.mem_filter.1 hq).1
      have hqk : q.1 = k := by simpa using (List.mem_filter.1 hq).2
      simpa [hqk, e] using this
    · intro h u hu
      by_cases eu : u.1 = k
      · have := h u.2 (List.mem_map.2 ⟨u, List.mem_filter.2 ⟨hu, by simpa using eu⟩, rfl⟩)
        simpa [eu, e] using this
      · simp [e, eu]
  · simp [e]

theorem totV_flat : ∀ (V : List (ByteArray × List Ver)) (L : List (ByteArray × Ver)), (V.map (·.1)).Nodup → (∀ k, (look V k).getD [] = (L.filter fun p => decide (p.1 = k)).map (·.2)) → totV V = L.length
  | [], L, _, h => by
    cases L with
    | nil => rfl
    | cons p L =>
      have := h p.1
      simp [look] at this
  | (k, l) :: V, L, hn, h => by
    simp only [List.map_cons, List.nodup_cons] at hn
    have hk := h k
    simp only [look, if_true, Option.getD_some] at hk
    have ih := totV_flat V (L.filter fun p => !decide (p.1 = k)) hn.2 (fun j => by
      rw [List.filter_filter]
      by_cases e : j = k
      · subst e
        have : look V j = none := lookup_none_of (fun p hp e => hn.1 (List.mem_map.2 ⟨p, hp, e⟩))
        rw [this]
        symm
        simp
      · have := h j
        have e' : ¬ k = j := fun h => e h.symm
        simp only [look, e', if_false] at this
        rw [this]
        congr 1
        refine List.filter_congr (fun p _ => ?_)
        by_cases ep : p.1 = j
        · have : ¬ p.1 = k := fun h => e (ep.symm.trans h)
          simp [ep, e]
        · simp [ep])
    have hl : L.length = (L.filter fun p => decide (p.1 = k)).length + (L.filter fun p => !decide (p.1 = k)).length := by
      rw [← List.length_append]
      exact (List.filter_append_perm _ L).length_eq.symm
    unfold totV at ih ⊢
    rw [sumN_cons, ih, hl, hk, List.length_map]

end Go.Proofs.YthfimgeopciiiaaGreat

/-
  The document's own store beside Abs: Cleanup, Scan's list, what is told. No world, no program.
-/
namespace Go.Proofs.YthfimgeopciiiaaGreat
set_option linter.unusedVariables false

/-- the mark: the least begin of the active ones, and the clock -/
def markF (m : Int) (r : RTx) : Int := if r.st = 0 ∧ r.bg < m then r.bg else m
def RSt.mark (R : RSt) : Int := R.txs.foldl markF R.clock
def cleanX (m : Int) (r : RTx) : RTx := if r.st = 1 ∧ r.cm ≤ m then { r with st := 3 } else r
def RSt.clean (R : RSt) : RSt := { R with txs := R.txs.map (cleanX R.mark), vers := R.vers.filter (keepV R.vers R.mark) }

theorem markF_fold : ∀ (l : List RTx) (c : Int), l.foldl markF c ≤ c ∧ (∀ r ∈ l, r.st = 0 → l.foldl markF c ≤ r.bg) ∧ (l.foldl markF c = c ∨ ∃ r ∈ l, r.st = 0 ∧ l.foldl markF c = r.bg)
  | [], c => by simp
  | r :: l, c => by
    rw [List.foldl_cons]
    obtain ⟨h1, h2, h3⟩ := markF_fold l (markF c r)
    have hle : markF c r ≤ c := by unfold markF; split <;> omega
    refine ⟨by omega, fun x hx h0 => ?_, ?_⟩
    · rcases List.mem_cons.1 hx with rfl | hx
      · have : markF c x ≤ x.bg := by
          unfold markF
          split
          · omega
          · rename_i h
            have : ¬ x.bg < c := fun hb => h ⟨h0, hb⟩
            omega
        omega
      · exact h2 x hx h0
    · rcases h3 with h3 | ⟨x, hx, h0, h3⟩
      · by_cases h : r.st = 0 ∧ r.bg < c
        · right
          have : markF c r = r.bg := by unfold markF; rw [if_pos h]
          exact ⟨r, by simp, h.1, h3.trans this⟩
        · left
          have : markF c r = c := by unfold markF; rw [if_neg h]
          exact h3.trans this
      · exact .inr ⟨x, by simp [hx], h0, h3⟩

theorem cleanX_h (m : Int) (r : RTx) : (cleanX m r).h = r.h := by unfold cleanX; split <;> rfl
theorem cleanX_bg (m : Int) (r : RTx) : (cleanX m r).bg = r.bg := by unfold cleanX; split <;> rfl
theorem cleanX_cm (m : Int) (r : RTx) : (cleanX m r).cm = r.cm := by unfold cleanX; split <;> rfl
theorem cleanX_tx (m : Int) (r : RTx) : (cleanX m r).tx = r.tx := by unfold cleanX; split <;> rfl
theorem cleanX_io (m : Int) (r : RTx) : (cleanX m r).i = r.i ∧ (cleanX m r).o = r.o := by unfold cleanX; split <;> exact ⟨rfl, rfl⟩
theorem cleanX_st (m : Int) (r : RTx) : (cleanX m r).st = if r.st = 1 ∧ r.cm ≤ m then 3 else r.st := by unfold cleanX; split <;> rfl

section
variable {a : Abs} {R : RSt} {k : RTx}

theorem RefIs.mark (E : RefIs a R) {n : Int} (I : a.Inv n) {m : Int} (M : a.MarkIs m) : R.mark = m := by
  obtain ⟨h1, h2, h3⟩ := markF_fold R.txs R.clock
  have hle : ∀ r ∈ R.txs, r.st = 0 → m ≤ r.bg := fun r hr h0 => M.le r.tx (E.mem hr (by simp [RTx.live, h0])) (E.st0 r hr h0)
  have hmc : m ≤ R.clock := by
    rcases M.is with h | ⟨t, ht, _, h⟩
    · rw [← E.clock]; omega
    · have := (I.bgs t ht).2
      rw [E.clock] at this; omega
  have hg : m ≤ R.mark := by
    rcases h3 with h | ⟨r, hr, h0, h⟩
    · show m ≤ R.txs.foldl markF R.clock
      rw [h]; exact hmc
    · show m ≤ R.txs.foldl markF R.clock
      rw [h]; exact hle r hr h0
  have hl : R.mark ≤ m := by
    rcases M.is with h | ⟨t, ht, hc, h⟩
    · rw [h, E.clock]; exact h1
    · obtain ⟨r, hr, hlv, rfl⟩ := E.of_mem ht
      have h0 : r.st = 0 := by
        have hs : r.st = 0 ∨ r.st = 1 := by simpa [RTx.live] using hlv
        rcases hs with h | h
        · exact h
        · have := (E.st1 r hr (.inl h)).1
          have hc' : r.cm = 0 := hc
          omega
      rw [h]; exact h2 r hr h0
  omega

theorem RefIs.clean (E : RefIs a R) {n : Int} (I : a.Inv n) {m : Int} {a' : Abs} (C : CleanIs a m a') : RefIs a' R.clean := by
  have hmk := E.mark I C.mark
  have hle : ∀ r ∈ R.txs, r.st = 0 → m ≤ r.bg := fun r hr h0 => C.mark.le r.tx (E.mem hr (by simp [RTx.live, h0])) (E.st0 r hr h0)
  have I' := I.clean C
  have hvs : ∀ key, a'.vs key = R.clean.vs key := fun key => by
    rw [C.vs_eq I.vnd, E.vs]
    unfold RSt.vs RSt.clean
    simp only
    rw [keepV_key E.srt, hmk]
  refine { c1 := C.c1.trans E.c1, c2 := C.c2.trans E.c2, c3 := C.c3.trans E.c3, c4 := C.c4.trans E.c4, clock := C.clock.trans E.clock, len := ?_, txs := ?_, hs := fun j r hr => ?_, st := fun r hr => ?_, st0 := fun r hr h => ?_, st1 := fun r hr h => ?_, old := fun r hr h3 y hy h00 => ?_, i0 := fun r hr => ?_, vs := hvs, tot := totV_flat a'.vers R.clean.vers I'.vnd hvs, srt := E.srt.filter _, stamps := fun p hp => E.stamps p (List.mem_filter.1 hp).1 }
  · rw [C.begun, E.len]; simp [RSt.clean]
  · rw [C.txs, E.txs]
    show _ = ((R.txs.map (cleanX R.mark)).filter RTx.live).map RTx.tx
    rw [hmk, List.filter_map, List.filter_map, List.map_map, List.filter_filter]
    have e1 : (RTx.tx ∘ cleanX m) = RTx.tx := by funext r; exact cleanX_tx m r
    rw [e1]
    congr 1
    refine List.filter_congr (fun r hr => ?_)
    simp only [Function.comp, RTx.live, cleanX_st, Tx.old, RTx.tx]
    rcases E.st r hr with h | h | h | h
    · have := E.st0 r hr h
      simp [h, this]
    · have := (E.st1 r hr (.inl h)).1
      have hne : ¬ r.cm = 0 := by omega
      by_cases hc : r.cm ≤ m
      · simp [h, hne, hc]
      · simp [h, hc]
    · simp [h]
    · simp [h]
  · obtain ⟨x, hx, rfl⟩ := mem_map_at hr
    rw [cleanX_h]; exact E.hs j x hx
  · obtain ⟨x, hx, rfl⟩ := List.mem_map.1 hr
    rw [cleanX_st]; split
    · simp
    · exact E.st x hx
  · obtain ⟨x, hx, rfl⟩ := List.mem_map.1 hr
    rw [cleanX_st] at h
    rw [cleanX_cm]
    split at h
    · simp at h
    · exact E.st0 x hx h
  · obtain ⟨x, hx, rfl⟩ := List.mem_map.1 hr
    rw [cleanX_st] at h
    rw [cleanX_cm]
    split at h
    · rename_i e; exact E.st1 x hx (.inl e.1)
    · exact E.st1 x hx h
  · obtain ⟨x, hx, rfl⟩ := List.mem_map.1 hr
    obtain ⟨z, hz, rfl⟩ := List.mem_map.1 hy
    rw [cleanX_st] at h3 h00
    rw [cleanX_cm, cleanX_bg]
    split at h00
    · simp at h00
    · split at h3
      · rename_i e
        have h1 := hle z hz h00
        have h2 := e.2
        rw [hmk] at h2
        omega
      · exact E.old x hx h3 z hz h00
  · obtain ⟨x, hx, rfl⟩ := List.mem_map.1 hr
    rw [(cleanX_io _ x).1, (cleanX_io _ x).2]; exact E.i0 x hx

end
end Go.Proofs.YthfimgeopciiiaaGreat
