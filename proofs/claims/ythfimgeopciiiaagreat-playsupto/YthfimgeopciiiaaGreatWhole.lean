/-
  The calls, of plain data: what a store's abstraction is told, and what becomes of it. No world, no program.
-/
import Derived.Test.YthfimgeopciiiaaGreatWrite
import Derived.Test.YthfimgeopciiiaaGreatClean
import Derived.Test.YthfimgeopciiiaaGreatCommit
import Derived.Test.YthfimgeopciiiaaGreatBeginH
import Derived.Test.YthfimgeopciiiaaGreatTold
namespace Go.Proofs.YthfimgeopciiiaaGreat

def Abs.vs (a : Abs) (k : ByteArray) : List Ver := (look a.vers k).getD []
def Abs.nReads (a : Abs) : Nat := sumN (fun t : Tx => t.rd.length) a.txs
def Abs.act? (a : Abs) (h : Int) : Option Tx := (a.txs.find? fun t => decide (t.h = h)).filter fun t => t.cm == 0
def Abs.without (a : Abs) (h : Int) : Abs := { a with txs := a.txs.filter fun t => decide (t.h ≠ h) }

/-- x is passed by t: another one, that overlaps it, and is meant -/
def passB (t : Tx) (G : Tx → Bool) (x : Tx) : Bool := !decide (x.h = t.h) && (overlapsB t.bg x.cm && G x)
def wroteT (e : Ent) (x : Tx) : Bool := x.wr.any fun p => coversB e p.1
def readT (cs : List Chg) (x : Tx) : Bool := x.rd.any fun p => readF cs p.1

def Abs.okR (a : Abs) (t : Tx) (e : Ent) : Bool := !(a.txs.any fun x => passB t (wroteT e) x && comInB x.cm x.o)
def Abs.okW (a : Abs) (t : Tx) (cs : List Chg) : Bool := !(a.txs.any fun x => passB t (readT cs) x && comInB x.cm x.i)

/-- t reads e: it joins its reads; who wrote it is marked -/
def readX (any : Bool) (t : Tx) (e : Ent) (x : Tx) : Tx :=
  { x with rd := if x.h = t.h then put x.rd e () else x.rd, i := x.i || passB t (wroteT e) x, o := x.o || (decide (x.h = t.h) && any) }
def Abs.readA (a : Abs) (t : Tx) (e : Ent) : Abs := { a with txs := a.txs.map (readX (a.txs.any (passB t (wroteT e))) t e) }

def writeX (any : Bool) (t : Tx) (cs : List Chg) (x : Tx) : Tx :=
  { x with wr := if x.h = t.h then joinW t.wr cs else x.wr, o := x.o || passB t (readT cs) x, i := x.i || (decide (x.h = t.h) && any) }
def Abs.writeA (a : Abs) (t : Tx) (cs : List Chg) : Abs := { a with txs := a.txs.map (writeX (a.txs.any (passB t (readT cs))) t cs) }

def Abs.held (a : Abs) (t : Tx) (k : ByteArray) : Bool := a.txs.any fun x => (look x.wr k).isSome && !decide (x.h = t.h) && (x.cm == 0)
def Abs.clash (a : Abs) (t : Tx) (cs : List Chg) : Bool := cs.any fun c => a.held t c.1 || newerB (a.vs c.1) t.bg

def Abs.room (a : Abs) (t : Tx) (e : Ent) : Bool := (look t.rd e).isSome || decide ((a.nReads : Int) < a.c2)
def Tx.keysWith (t : Tx) (cs : List Chg) : Nat := t.wr.length + (more t.wr cs).length

/-- read: its error, and what is left -/
def Abs.readR (a : Abs) (t : Tx) (e : Ent) : Int × Abs :=
  if a.room t e = false then (6, a) else if a.okR t e = false then (8, a.without t.h) else (0, a.readA t e)

def Abs.getR (a : Abs) (h : Int) (k : ByteArray) : (ByteArray × Bool × Int) × Abs :=
  match a.act? h with
  | none => ((⟨#[]⟩, false, 2), a)
  | some t => if keyB k = false then ((⟨#[]⟩, false, 3), a) else
    match look t.wr k with
    | some c => ((c.1, !c.2, 0), a)
    | none => if (a.readR t (keyE k)).1 = 0 then (((snap (a.vs k) t.bg).1, !(snap (a.vs k) t.bg).2, 0), (a.readR t (keyE k)).2) else ((⟨#[]⟩, false, (a.readR t (keyE k)).1), (a.readR t (keyE k)).2)

def Abs.content (a : Abs) (t : Tx) (k : ByteArray) : Cont := (look t.wr k).getD (snap (a.vs k) t.bg)

/-- the pairs that a scan tells -/
structure ScanIs (a : Abs) (t : Tx) (e : Ent) (l : List (ByteArray × ByteArray)) : Prop where
  sorted : l.Pairwise fun p q => leB p.1 q.1 ∧ p.1 ≠ q.1
  mem : ∀ k v, (k, v) ∈ l ↔ coversB e k = true ∧ a.content t k = (v, false)

def Abs.scanR (a : Abs) (h : Int) (lo hi : ByteArray) : (Int × Option Tx) × Abs :=
  match a.act? h with
  | none => ((2, none), a)
  | some t => if rangeE lo hi ≠ 0 then ((rangeE lo hi, none), a) else
    if (a.readR t (rangeEnt lo hi)).1 = 0 then ((0, some t), (a.readR t (rangeEnt lo hi)).2) else (((a.readR t (rangeEnt lo hi)).1, none), (a.readR t (rangeEnt lo hi)).2)

def Abs.writeR (a : Abs) (h : Int) (cs : List Chg) : Int × Abs :=
  match a.act? h with
  | none => (2, a)
  | some t => if changesE cs ≠ 0 then (changesE cs, a) else if a.c3 < t.keysWith cs then (6, a) else
    if a.clash t cs then (7, a.without h) else if a.okW t cs = false then (8, a.without h) else (0, a.writeA t cs)

/-- commit, but for the versions -/
def Abs.commA (a : Abs) (t : Tx) : Abs := { a with clock := a.clock + 1, txs := a.txs.map fun x => if x.h = t.h then { x with cm := a.clock + 1 } else x }
/-- the same, but for the order of the keys -/
structure Abs.Same (a b : Abs) : Prop where
  c1 : a.c1 = b.c1
  c2 : a.c2 = b.c2
  c3 : a.c3 = b.c3
  c4 : a.c4 = b.c4
  clock : a.clock = b.clock
  begun : a.begun = b.begun
  txs : a.txs = b.txs
  vers : a.vers.Perm b.vers

theorem Abs.Same.refl (a : Abs) : a.Same a := ⟨rfl, rfl, rfl, rfl, rfl, rfl, rfl, List.Perm.refl _⟩

def Abs.commitR (a : Abs) (h : Int) : Int × Abs :=
  match a.act? h with
  | none => (2, a)
  | some t => if (t.i && t.o) = true then (8, a.without h) else if a.c4 < (totV a.vers : Int) + t.wr.length then (6, a) else
    (0, { a.commA t with vers := addAll (a.clock + 1) a.vers t.wr })

def Abs.abortR (a : Abs) (h : Int) : Int × Abs :=
  match a.act? h with
  | none => (2, a)
  | some _ => (0, a.without h)

def Abs.beginR (a : Abs) : (Int × Int) × Abs :=
  if a.c1 ≤ a.txs.length then ((0, 6), a) else ((a.begun + 1, 0), { a with begun := a.begun + 1, txs := a.txs ++ [⟨a.begun + 1, a.clock, 0, [], [], false, false⟩] })

def Tx.old (m : Int) (t : Tx) : Bool := !(t.cm == 0) && decide (t.cm ≤ m)
def Abs.cleanA (a : Abs) (m : Int) : Abs := { a with txs := a.txs.filter (fun t => !t.old m), vers := a.vers.filterMap (dropA m) }

/-- a mark for cleaning up: the least begin of the active ones, or the clock -/
structure Abs.MarkIs (a : Abs) (m : Int) : Prop where
  le : ∀ t ∈ a.txs, t.cm = 0 → m ≤ t.bg
  is : m = a.clock ∨ ∃ t ∈ a.txs, t.cm = 0 ∧ m = t.bg

/-- what a store always is -/
structure Abs.Inv (a : Abs) (n : Int) : Prop where
  cfg : configB a.c1 a.c2 a.c3 a.c4 = true
  txs : (a.txs.length : Int) ≤ a.c1
  reads : (a.nReads : Int) ≤ a.c2
  writes : ∀ t ∈ a.txs, (t.wr.length : Int) ≤ a.c3
  vers : (totV a.vers : Int) ≤ a.c4
  begun : 0 ≤ a.begun ∧ a.begun ≤ n
  clock : 0 ≤ a.clock ∧ a.clock ≤ n
  hs : ∀ t ∈ a.txs, 1 ≤ t.h ∧ t.h ≤ a.begun
  bgs : ∀ t ∈ a.txs, 0 ≤ t.bg ∧ t.bg ≤ a.clock
  nd : (a.txs.map (·.h)).Nodup
  wnd : ∀ t ∈ a.txs, (t.wr.map (·.1)).Nodup
  gone : ∀ t ∈ a.txs, ∀ p ∈ t.wr, p.2.2 = true → p.2.1 = ⟨#[]⟩
  vgone : ∀ p ∈ a.vers, ∀ x ∈ p.2, x.2.2 = true → x.2.1 = ⟨#[]⟩
  vnd : (a.vers.map (·.1)).Nodup
  vne : ∀ p ∈ a.vers, p.2 ≠ []

end Go.Proofs.YthfimgeopciiiaaGreat

/-
  From a store in memory to its abstraction.
-/
namespace Go.Proofs.YthfimgeopciiiaaGreat
open Go.MapKept Go.ChangeMaps Go.Maps Go.RowKit Go.MuLone

theorem find_map_tx (l : List Rec) (h : Int) : (l.map Rec.tx).find? (fun t => decide (t.h = h)) = (l.find? fun r => decide (r.h = h)).map Rec.tx := by
  rw [List.find?_map]; rfl

theorem abs_act (s : Sto) (h : Int) : s.abs.act? h = (s.act? h).map Rec.tx := by
  unfold Abs.act? Sto.act? Sto.rec?
  show Option.filter _ ((s.recs.map Rec.tx).find? _) = _
  rw [find_map_tx]
  cases s.recs.find? fun r => decide (r.h = h) with
  | none => rfl
  | some r => simp only [Option.map_some, Option.filter]; show (if r.cm == 0 then _ else _) = _; split <;> simp_all

theorem abs_vs (s : Sto) (k : ByteArray) : s.abs.vs k = s.vs k := (vs_look s k).symm

theorem abs_nReads (s : Sto) : s.abs.nReads = s.nReads := by
  unfold Abs.nReads Sto.nReads Sto.abs
  rw [sumN_map]; rfl

/-- no block and no handle twice -/
structure Sto.Apart (s : Sto) : Prop where
  nd : s.foot.Nodup
  hs : (s.recs.map (·.h)).Nodup

theorem StAt.apart {w : World} {s : Sto} (H : StAt w s) : s.Apart := ⟨H.nd, H.h_nodup⟩

theorem tb_h {s : Sto} (H : s.Apart) {x r : Rec} (hx : x ∈ s.recs) (hr : r ∈ s.recs) : x.tb = r.tb ↔ x.h = r.h :=
  ⟨fun e => by rw [rec_tb_inj H.nd hx hr e], fun e => by rw [nodup_map_inj H.hs hx hr e]⟩

theorem without_abs {s : Sto} (H : s.Apart) {r : Rec} (hr : r ∈ s.recs) : ({ s.abs with txs := (s.recs.filter fun x => decide (x.tb ≠ r.tb)).map Rec.tx } : Abs) = s.abs.without r.h := by
  have e : (s.recs.filter fun x => decide (x.tb ≠ r.tb)).map Rec.tx = (s.recs.map Rec.tx).filter fun t => decide (t.h ≠ r.h) := by
    rw [List.filter_map]
    congr 1
    refine List.filter_congr (fun x hx => ?_)
    simp only [Function.comp, decide_eq_decide]
    exact not_congr (tb_h H hx hr)
  simp only [Abs.without, Sto.abs, e]

/-- who is passed, by its handle -/
theorem pastT_mem {s : Sto} (H : s.Apart) {r : Rec} (hr : r ∈ s.recs) (G : Rec → Bool) (G' : Tx → Bool) (hG : ∀ x ∈ s.recs, G x = G' x.tx) {x : Rec} (hx : x ∈ s.recs) : x ∈ s.past r G ↔ passB r.tx G' x.tx = true := by
  unfold Sto.past passB
  rw [List.mem_filter, hG x hx]
  have e : (x.tb == r.tb) = decide (x.h = r.h) := by
    rw [Bool.eq_iff_iff]; simp only [beq_iff_eq, decide_eq_true_eq]; exact tb_h H hx hr
  rw [e]
  show _ ↔ (!decide (x.h = r.h) && (overlapsB r.bg x.cm && G' x.tx)) = true
  exact ⟨fun h => h.2, fun h => ⟨hx, h⟩⟩

theorem pastT_any {s : Sto} (H : s.Apart) {r : Rec} (hr : r ∈ s.recs) (G : Rec → Bool) (G' : Tx → Bool) (hG : ∀ x ∈ s.recs, G x = G' x.tx) (f : Rec → Bool) (f' : Tx → Bool) (hf : ∀ x ∈ s.recs, f x = f' x.tx) :
    (s.past r G).any f = s.abs.txs.any fun x => passB r.tx G' x && f' x := by
  rw [Bool.eq_iff_iff]
  simp only [List.any_eq_true, Sto.abs, List.mem_map, Bool.and_eq_true]
  constructor
  · rintro ⟨x, hx, h⟩
    have hxr : x ∈ s.recs := (List.mem_filter.1 hx).1
    exact ⟨x.tx, ⟨x, hxr, rfl⟩, (pastT_mem H hr G G' hG hxr).1 hx, by rw [← hf x hxr]; exact h⟩
  · rintro ⟨_, ⟨x, hx, rfl⟩, h1, h2⟩
    exact ⟨x, (pastT_mem H hr G G' hG hx).2 h1, by rw [hf x hx]; exact h2⟩

theorem past_nil {s : Sto} (H : s.Apart) {r : Rec} (hr : r ∈ s.recs) (G : Rec → Bool) (G' : Tx → Bool) (hG : ∀ x ∈ s.recs, G x = G' x.tx) {L : List Nat} (hL : L.Perm ((s.past r G).map (·.tb))) : (!L.isEmpty) = s.abs.txs.any (passB r.tx G') := by
  have h1 := pastT_any H hr G G' hG (fun _ => true) (fun _ => true) (fun _ _ => rfl)
  simp only [Bool.and_true] at h1
  have e : (s.abs.txs.any (passB r.tx G')) = s.abs.txs.any (fun x => passB r.tx G' x) := rfl
  rw [e, ← h1]
  have hlen := hL.length_eq
  rw [List.length_map] at hlen
  cases hp : s.past r G with
  | nil => rw [hp] at hlen; simp only [List.length_nil] at hlen; rw [List.eq_nil_of_length_eq_zero hlen]; rfl
  | cons a l => rw [hp] at hlen; cases L with | nil => simp at hlen | cons _ _ => simp

theorem past_in {s : Sto} (H : s.Apart) {r : Rec} (hr : r ∈ s.recs) (G : Rec → Bool) (G' : Tx → Bool) (hG : ∀ x ∈ s.recs, G x = G' x.tx) {L : List Nat} (hL : L.Perm ((s.past r G).map (·.tb))) {x : Rec} (hx : x ∈ s.recs) : decide (x.tb ∈ L) = passB r.tx G' x.tx := by
  rw [Bool.eq_iff_iff, decide_eq_true_eq, hL.mem_iff, ← pastT_mem H hr G G' hG hx, List.mem_map]
  constructor
  · rintro ⟨y, hy, e⟩
    have hyr : y ∈ s.recs := (List.mem_filter.1 hy).1
    rw [← rec_tb_inj H.nd hyr hx e]; exact hy
  · exact fun h => ⟨x, h, rfl⟩

theorem joinF_h (t : Nat) (e : Ent) (x : Rec) : (joinF t e x).h = x.h := by unfold joinF; split <;> rfl
theorem joinF_tb (t : Nat) (e : Ent) (x : Rec) : (joinF t e x).tb = x.tb := by unfold joinF; split <;> rfl

theorem joined_apart {s : Sto} (H : s.Apart) (r : Rec) (e : Ent) : (s.joined r e).Apart := by
  refine ⟨?_, ?_⟩
  · have : (s.joined r e).foot = s.foot := (mild_joinF s r.tb e).foot
    rw [this]; exact H.nd
  · show ((s.recs.map (joinF r.tb e)).map (·.h)).Nodup
    rw [List.map_map]
    have : ((·.h) ∘ joinF r.tb e) = (fun x : Rec => x.h) := funext (fun x => joinF_h _ _ _)
    rw [this]; exact H.hs

theorem joinF_self (r : Rec) (e : Ent) : joinF r.tb e r = r.joined e := by unfold joinF; rw [if_pos rfl]; rfl
theorem joined_mem {s : Sto} {r : Rec} (hr : r ∈ s.recs) (e : Ent) : r.joined e ∈ (s.joined r e).recs := List.mem_map.2 ⟨r, hr, joinF_self r e⟩

theorem pass_joined (r x : Rec) (t : Nat) (e e' : Ent) : passB (r.joined e).tx (wroteT e') (joinF t e x).tx = passB r.tx (wroteT e') x.tx := by
  unfold joinF
  split <;> rfl

theorem joined_any (s : Sto) (r : Rec) (e : Ent) (f : Tx → Bool) (hf : ∀ x, f (joinF r.tb e x).tx = f x.tx) : ((s.joined r e).abs.txs.any fun x => passB (r.joined e).tx (wroteT e) x && f x) = s.abs.txs.any fun x => passB r.tx (wroteT e) x && f x := by
  show (((s.recs.map (joinF r.tb e)).map Rec.tx).any _) = ((s.recs.map Rec.tx).any _)
  rw [List.map_map, List.any_map, List.any_map]
  congr 1
  funext x
  simp only [Function.comp]
  rw [pass_joined, hf]

theorem readOk_abs {s : Sto} (H : s.Apart) {r : Rec} (hr : r ∈ s.recs) (e : Ent) : s.readOk r e = s.abs.okR r.tx e := by
  unfold Sto.readOk Sto.mayW Abs.okR
  rw [pastT_any (joined_apart H r e) (joined_mem hr e) (wrote e) (wroteT e) (fun _ _ => rfl) (fun y => comInB y.cm y.o) (fun y => comInB y.cm y.o) (fun _ _ => rfl)]
  rw [joined_any s r e (fun y => comInB y.cm y.o) (fun x => by unfold joinF; split <;> rfl)]

theorem readL_abs {s : Sto} (H : s.Apart) {r : Rec} (hr : r ∈ s.recs) (e : Ent) {L : List Nat} (hL : L.Perm ((s.readP r e).map (·.tb))) : (s.readL r e L).abs = s.abs.readA r.tx e := by
  have hA := joined_apart H r e
  have hm := joined_mem hr e
  have hany : (!L.isEmpty) = s.abs.txs.any (passB r.tx (wroteT e)) := by
    rw [past_nil hA hm (wrote e) (wroteT e) (fun _ _ => rfl) hL]
    have := joined_any s r e (fun _ => true) (fun _ => rfl)
    simpa using this
  have hin : ∀ x ∈ s.recs, decide (x.tb ∈ L) = passB r.tx (wroteT e) x.tx := fun x hx => by
    have := past_in hA hm (wrote e) (wroteT e) (fun _ _ => rfl) hL (x := joinF r.tb e x) (List.mem_map.2 ⟨x, hx, rfl⟩)
    rw [pass_joined, joinF_tb] at this
    exact this
  have e1 : ((s.recs.map (joinF r.tb e)).map (fmW r.tb L)).map Rec.tx = (s.recs.map Rec.tx).map (readX (s.abs.txs.any (passB r.tx (wroteT e))) r.tx e) := by
    simp only [List.map_map]
    refine List.map_congr_left (fun x hx => ?_)
    simp only [Function.comp, fmW, joinF_tb, hin x hx, hany]
    have hd : decide (x.tb = r.tb) = decide (x.h = r.h) := by rw [decide_eq_decide]; exact tb_h H hx hr
    rw [hd]
    unfold joinF readX Rec.tx
    by_cases hh : x.h = r.h
    · have ht := (tb_h H hx hr).2 hh
      simp [ht, hh]
    · have ht : ¬ x.tb = r.tb := fun e => hh ((tb_h H hx hr).1 e)
      simp [ht, hh]
  show ({ s.abs with txs := ((s.recs.map (joinF r.tb e)).map (fmW r.tb L)).map Rec.tx } : Abs) = _
  rw [e1]; rfl

theorem writeOk_abs {s : Sto} (H : s.Apart) {r : Rec} (hr : r ∈ s.recs) (cs : List Chg) : s.writeOk r cs = s.abs.okW r.tx cs := by
  unfold Sto.writeOk Sto.mayR Abs.okW
  rw [pastT_any H hr (readBy cs) (readT cs) (fun _ _ => rfl) (fun y => comInB y.cm y.i) (fun y => comInB y.cm y.i) (fun _ _ => rfl)]

theorem writeL_abs {s : Sto} (H : s.Apart) {r : Rec} (hr : r ∈ s.recs) (cs : List Chg) {L : List Nat} (hL : L.Perm ((s.writeP r cs).map (·.tb))) : (s.writeL r cs L).abs = s.abs.writeA r.tx cs := by
  have hany := past_nil H hr (readBy cs) (readT cs) (fun _ _ => rfl) hL
  have hin : ∀ x ∈ s.recs, decide (x.tb ∈ L) = passB r.tx (readT cs) x.tx := fun x hx => past_in H hr (readBy cs) (readT cs) (fun _ _ => rfl) hL hx
  have e1 : ((s.recs.map (fmR r.tb L)).map (setWr r.tb (joinW r.wr cs))).map Rec.tx = (s.recs.map Rec.tx).map (writeX (s.abs.txs.any (passB r.tx (readT cs))) r.tx cs) := by
    simp only [List.map_map]
    refine List.map_congr_left (fun x hx => ?_)
    simp only [Function.comp, fmR, hin x hx, hany]
    have hd : decide (x.tb = r.tb) = decide (x.h = r.h) := by rw [decide_eq_decide]; exact tb_h H hx hr
    rw [hd]
    unfold setWr writeX Rec.tx
    by_cases hh : x.h = r.h
    · have ht := (tb_h H hx hr).2 hh
      simp [ht, hh]
    · have ht : ¬ x.tb = r.tb := fun e => hh ((tb_h H hx hr).1 e)
      simp [ht, hh]
  show ({ s.abs with txs := ((s.recs.map (fmR r.tb L)).map (setWr r.tb (joinW r.wr cs))).map Rec.tx } : Abs) = _
  rw [e1]; rfl

theorem clash_abs {s : Sto} (H : s.Apart) {r : Rec} (hr : r ∈ s.recs) (cs : List Chg) : (cs.any fun c => conflictF s r c.1) = s.abs.clash r.tx cs := by
  unfold Abs.clash
  congr 1
  funext c
  unfold conflictF heldB Abs.held
  rw [← abs_vs]
  congr 1
  show _ = (s.recs.map Rec.tx).any _
  rw [List.any_map]
  rw [Bool.eq_iff_iff]
  simp only [List.any_eq_true, Function.comp, heldF]
  refine exists_congr (fun x => and_congr_right (fun hx => ?_))
  have hd : (x.tb == r.tb) = decide (x.h = r.h) := by
    rw [Bool.eq_iff_iff]; simp only [beq_iff_eq, decide_eq_true_eq]; exact tb_h H hx hr
  rw [hd]; rfl

theorem setCm_abs {s : Sto} (H : s.Apart) {r : Rec} (hr : r ∈ s.recs) (c : Int) : (s.recs.map (setCm r.tb c)).map Rec.tx = (s.recs.map Rec.tx).map fun x => if x.h = r.h then { x with cm := c } else x := by
  simp only [List.map_map]
  refine List.map_congr_left (fun x hx => ?_)
  simp only [Function.comp]
  unfold setCm
  by_cases hh : x.h = r.h
  · have ht := (tb_h H hx hr).2 hh
    rw [if_pos ht, if_pos (show x.tx.h = r.h from hh)]; rfl
  · have ht : ¬ x.tb = r.tb := fun e => hh ((tb_h H hx hr).1 e)
    rw [if_neg ht, if_neg (show ¬ x.tx.h = r.h from hh)]

end Go.Proofs.YthfimgeopciiiaaGreat

/-
  Each call of a state, whole: what it answers and leaves, by its abstraction.
-/
namespace Go.Proofs.YthfimgeopciiiaaGreat
open Go.MapKept Go.ChangeMaps Go.Maps Go.RowKit Go.MuLone

structure Bounds (s : Sto) : Prop where
  c1 : 1 ≤ s.c1 ∧ s.c1 ≤ 32
  c2 : 1 ≤ s.c2 ∧ s.c2 ≤ 64
  c3 : 1 ≤ s.c3 ∧ s.c3 ≤ 16
  c4 : 1 ≤ s.c4 ∧ s.c4 ≤ 128
  reads : s.nReads ≤ 64
  recs : s.recs.length ≤ 32
  vs : ∀ k, (s.vs k).length ≤ 128
  vers : s.nVers ≤ 128
  wr : ∀ r ∈ s.recs, r.wr.length ≤ 16
  vrs : s.vrs.length ≤ 128
  vl : ∀ x ∈ s.vrs, x.vs.length ≤ 128

theorem config_parts {a b c d : Int} (h : configB a b c d = true) : (1 ≤ a ∧ a ≤ 32) ∧ (1 ≤ b ∧ b ≤ 64) ∧ (1 ≤ c ∧ c ≤ 16) ∧ (1 ≤ d ∧ d ≤ 128) := by
  simp only [configB, withinB, Bool.and_eq_true, decide_eq_true_eq] at h
  exact ⟨h.1.1.1, h.1.1.2, h.1.2, h.2⟩

theorem len_le_totV : ∀ {V : List (ByteArray × List Ver)}, (∀ p ∈ V, p.2 ≠ []) → V.length ≤ totV V
  | [], _ => by simp
  | p :: r, h => by
    have ih := len_le_totV (V := r) (fun q hq => h q (by simp [hq]))
    have hp := List.length_pos_iff.2 (h p (by simp))
    unfold totV at ih ⊢
    rw [sumN_cons]
    simp only [List.length_cons]; omega

theorem mem_totV {V : List (ByteArray × List Ver)} {p : ByteArray × List Ver} (h : p ∈ V) : p.2.length ≤ totV V := by
  induction V with
  | nil => simp at h
  | cons q r ih =>
    unfold totV at ih ⊢
    rw [sumN_cons]
    rcases List.mem_cons.1 h with rfl | h'
    · omega
    · have := ih h'; omega

theorem Abs.Inv.bounds {s : Sto} {n : Int} (I : s.abs.Inv n) : Bounds s := by
  obtain ⟨h1, h2, h3, h4⟩ := config_parts I.cfg
  have e1 : s.abs.nReads = s.nReads := abs_nReads s
  have e2 : totV s.abs.vers = s.nVers := totV_abs s
  have i1 := I.txs; have i2 := I.reads; have i3 := I.vers
  have e3 : s.abs.txs.length = s.recs.length := by simp [Sto.abs]
  have e4 : s.abs.vers.length = s.vrs.length := by simp [Sto.abs]
  rw [e1] at i2; rw [e2] at i3; rw [e3] at i1
  have c1 : s.abs.c1 = s.c1 := rfl
  have c2 : s.abs.c2 = s.c2 := rfl
  have c3 : s.abs.c3 = s.c3 := rfl
  have c4 : s.abs.c4 = s.c4 := rfl
  rw [c1] at h1 i1; rw [c2] at h2 i2; rw [c3] at h3; rw [c4] at h4 i3
  refine ⟨h1, h2, h3, h4, by omega, by omega, fun k => ?_, by omega, fun r hr => ?_, ?_, fun x hx => ?_⟩
  · rw [← abs_vs]
    have := len_totV s.abs.vers k
    unfold Abs.vs; omega
  · have := I.writes r.tx (List.mem_map.2 ⟨r, hr, rfl⟩)
    rw [c3] at this
    have e : r.tx.wr = r.wr := rfl
    rw [e] at this; omega
  · have := len_le_totV I.vne; omega
  · have := mem_totV (p := (x.k, x.vs)) (show (x.k, x.vs) ∈ s.abs.vers from List.mem_map.2 ⟨x, hx, rfl⟩)
    simp only at this; omega

theorem abs_room (s : Sto) (r : Rec) (e : Ent) : s.abs.room r.tx e = true ↔ ((look r.rd e).isSome = true ∨ (s.nReads : Int) < s.c2) := by
  unfold Abs.room
  rw [abs_nReads, Bool.or_eq_true, decide_eq_true_eq]; rfl

theorem get_whole {w : World} {s : Sto} {n : Int} (H : StAt w s) (I : s.abs.Inv n) (h : Int) (hw : (Lit.int .i64 h).wf = true) (k : ByteArray) :
    Calls Tryz.prog 90 #[.pointer (some ⟨s.sb, 2, none⟩), .int .i64 h, .string k] w fun e w' => ∃ s', e = .returned (.tuple #[.string (s.abs.getR h k).1.1, .bool (s.abs.getR h k).1.2.1, .int .i64 (s.abs.getR h k).1.2.2]) ∧ Turn s s' w w' ∧ s'.abs = (s.abs.getR h k).2 := by
  have B := I.bounds
  unfold Abs.getR
  rw [abs_act]
  cases ha : s.act? h with
  | none => exact (get_no H h hw k ha).mono fun e w' ⟨h1, s', h2, h3⟩ => ⟨s', h1, h2, h3⟩
  | some r =>
    obtain ⟨m1, m2, m3⟩ := act_mem ha
    simp only [Option.map_some]
    by_cases hk : keyB k = false
    · rw [if_pos hk]
      exact (get_key H h hw k ha hk).mono fun e w' ⟨h1, s', h2, h3⟩ => ⟨s', h1, h2, h3⟩
    · rw [if_neg hk]
      have hk' : keyB k = true := by simpa using hk
      have ew : r.tx.wr = r.wr := rfl
      rw [ew]
      cases hl : look r.wr k with
      | some c => exact (get_own H h hw k ha hk' hl).mono fun e w' ⟨h1, s', h2, h3⟩ => ⟨s', h1, h2, h3⟩
      | none =>
        have hkl : k.size ≤ maxLen := by have := key_small hk'; simp [maxLen]; omega
        simp only
        unfold Abs.readR
        by_cases hroom : s.abs.room r.tx (keyE k) = false
        · rw [if_pos hroom]
          have hnr : ¬ ((look r.rd (keyE k)).isSome = true ∨ (s.nReads : Int) < s.c2) := fun hh => by rw [(abs_room s r (keyE k)).2 hh] at hroom; cases hroom
          rw [not_or] at hnr
          rw [if_neg (fun h => by cases h)]
          have hin : look r.rd (keyE k) = none := by simpa using hnr.1
          refine (get_refused H h hw k ha hk' hl 6 (by decide) (fun s' => s'.abs = s.abs) (fun W HW => ?_)).mono fun e w' ⟨h1, s', h2, h3⟩ => ⟨s', h1, h2, h3⟩
          exact (read_full HW m1 false k ⟨#[]⟩ ⟨hkl, Nat.zero_le _⟩ (by have := B.reads; omega) hin (by omega)).mono fun e w' ⟨h1, h2⟩ => ⟨h1, s, Turn.quiet HW h2, rfl⟩
        · rw [if_neg hroom]
          have hr' := (abs_room s r (keyE k)).1 (by simpa using hroom)
          rw [← readOk_abs H.apart m1]
          by_cases hok : s.readOk r (keyE k) = false
          · rw [if_pos hok, if_neg (fun h => by cases h)]
            refine (get_refused H h hw k ha hk' hl 8 (by decide) (fun s' => s'.abs = s.abs.without r.h) (fun W HW => ?_)).mono fun e w' ⟨h1, s', h2, h3⟩ => ⟨s', h1, h2, h3⟩
            refine (read_unsafe HW m1 m3 (by rw [m2]; exact hw) false k ⟨#[]⟩ ⟨hkl, Nat.zero_le _⟩ (by have := B.reads; omega) (by have := B.recs; omega) hr' hok).mono fun e w' ⟨h1, s', h2, h3⟩ => ⟨h1, s', h2, ?_⟩
            rw [h3, without_abs H.apart m1]
          · rw [if_neg hok, if_pos rfl, abs_vs]
            refine (get_ok H h hw k ha hk' hl (by have := B.reads; omega) (by have := B.recs; omega) (by have := B.vs k; omega) hr' (by simpa using hok)).mono fun e w' ⟨h1, L, h2, h3⟩ => ⟨_, h1, h3, ?_⟩
            exact readL_abs H.apart m1 (keyE k) h2

theorem look_none_mem {α β : Type} [DecidableEq α] : ∀ {l : List (α × β)} {x : α}, look l x = none → ∀ p ∈ l, p.1 ≠ x
  | [], _, _, _, hp => by simp at hp
  | q :: r, x, h, p, hp => by
    by_cases e : q.1 = x
    · simp [look, e] at h
    · simp only [look, e, if_false] at h
      rcases List.mem_cons.1 hp with rfl | hp'
      · exact e
      · exact look_none_mem h p hp'

/-- a state's scan -/
theorem scanIs_of {s : Sto} {r : Rec} {e : Ent} (hv : (s.vrs.map (·.k)).Nodup) (hwn : (r.wr.map (·.1)).Nodup) {ks : List ByteArray} (hp : ks.Perm (s.keys r e)) (hs : ks.Pairwise leB) : ScanIs s.abs r.tx e (ks.filterMap (s.seen r)) := by
  have hc : ∀ k, s.abs.content r.tx k = s.content r k := fun k => by unfold Abs.content Sto.content; rw [abs_vs]; rfl
  have hkeys : ∀ k, k ∈ s.keys r e → coversB e k = true := fun k hk => by
    unfold Sto.keys keysV keysW newB at hk
    rw [List.mem_append] at hk
    rcases hk with hk | hk
    · obtain ⟨p, hp, rfl⟩ := List.mem_map.1 hk; exact (List.mem_filter.1 hp).2
    · obtain ⟨p, hp, rfl⟩ := List.mem_map.1 hk
      have := (List.mem_filter.1 hp).2
      simp only [Bool.and_eq_true] at this; exact this.2
  have hin : ∀ k, coversB e k = true → (s.content r k).2 = false → k ∈ s.keys r e := fun k hk hg => by
    unfold Sto.keys keysV keysW newB
    rw [List.mem_append]
    by_cases hm : (look s.vmap k).isSome = true
    · obtain ⟨v, hv'⟩ := Option.isSome_iff_exists.1 hm
      exact .inl (List.mem_map.2 ⟨(k, v), List.mem_filter.2 ⟨lookup_mem hv', hk⟩, rfl⟩)
    · right
      cases hl : look r.wr k with
      | some c => exact List.mem_map.2 ⟨(k, c), List.mem_filter.2 ⟨lookup_mem hl, by simp [hm, hk]⟩, rfl⟩
      | none =>
        exfalso
        have hn : s.vs k = [] := by
          rw [← abs_vs]
          unfold Abs.vs
          have : look s.abs.vers k = none := by
            have h0 : look s.vmap k = none := by simpa using hm
            exact lookup_none_of (by
              intro p hp e'
              obtain ⟨x, hx, rfl⟩ := List.mem_map.1 hp
              have := look_none_mem h0 (x.k, (x.a, x.vs.length, x.cap)) (List.mem_map.2 ⟨x, hx, rfl⟩)
              exact this e')
          rw [this]; rfl
        unfold Sto.content at hg
        rw [hl, hn] at hg
        simp [snap] at hg
  have hnd : (s.keys r e).Nodup := by
    unfold Sto.keys keysV keysW
    rw [List.nodup_append]
    refine ⟨?_, ?_, fun a ha b hb e' => ?_⟩
    · have : (s.vmap.map (·.1)).Nodup := by unfold Sto.vmap; rw [List.map_map]; exact hv
      exact this.sublist (List.Sublist.map _ List.filter_sublist)
    · exact hwn.sublist (List.Sublist.map _ List.filter_sublist)
    · subst e'
      obtain ⟨p, hp, rfl⟩ := List.mem_map.1 ha
      obtain ⟨q, hq, e2⟩ := List.mem_map.1 hb
      have h1 := (List.mem_filter.1 hq).2
      unfold newB at h1
      rw [e2] at h1
      simp only [Bool.and_eq_true, Bool.not_eq_true'] at h1
      have h2 : (look s.vmap p.1).isSome = true := by
        cases hl : look s.vmap p.1 with
        | some _ => rfl
        | none => exact absurd rfl (look_none_mem hl p (List.mem_filter.1 hp).1)
      rw [h2] at h1
      exact absurd h1.1 (by simp)
  have hks : ks.Nodup := hp.nodup_iff.2 hnd
  have hkk : ∀ k p, s.seen r k = some p → p.1 = k ∧ s.content r k = (p.2, false) := fun k p hs' => by
    unfold Sto.seen at hs'
    split at hs'
    · cases hs'
    · have := Option.some.inj hs'
      subst this
      exact ⟨rfl, Prod.ext rfl (by simp_all)⟩
  refine ⟨?_, fun k v => ?_⟩
  · rw [List.pairwise_filterMap]
    refine (List.Pairwise.and hs (List.nodup_iff_pairwise_ne.1 hks)).imp ?_
    rintro a b ⟨h1, h2⟩ p hp' q hq'
    rw [(hkk a p hp').1, (hkk b q hq').1]
    exact ⟨h1, h2⟩
  · rw [List.mem_filterMap, hc]
    constructor
    · rintro ⟨a, ha, hsa⟩
      obtain ⟨h1, h2⟩ := hkk a _ hsa
      simp only at h1 h2
      subst h1
      exact ⟨hkeys k (hp.mem_iff.1 ha), h2⟩
    · rintro ⟨h1, h2⟩
      refine ⟨k, hp.mem_iff.2 (hin k h1 (by rw [h2])), ?_⟩
      unfold Sto.seen
      rw [h2]; rfl

end Go.Proofs.YthfimgeopciiiaaGreat
