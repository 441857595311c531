/-
  What a store is in memory: its own block, the map of records, each record with its two maps, the heap, the map of versions with their rows. No two of these share a block.
-/
import Derived.Test.YthfimgeopciiiaaGreatHeapC
namespace Go.Proofs.YthfimgeopciiiaaGreat
open Go.MapKept Go.ChangeMaps Go.Maps Go.RowKit

/-- A transaction's record: its three blocks, and what they hold. -/
structure Rec where
  tb : Nat
  wb : Nat
  rb : Nat
  h : Int
  bg : Int
  cm : Int
  wr : List (ByteArray × Cont)
  rd : List (Ent × Unit)
  i : Bool
  o : Bool
  pl : Int

def Rec.cells (r : Rec) : Array Value := #[.int .i64 r.h, .int .i64 r.bg, .int .i64 r.cm, .map (some r.wb), .map (some r.rb), .bool r.i, .bool r.o, .int .i64 r.pl]

structure RecAt (w : World) (r : Rec) : Prop where
  own : w.heap[r.tb]? = some (.cells r.cells 174)
  wr : MapIs sk contV w r.wb r.wr
  rd : MapIs ek unitV w r.rb r.rd

/-- A key's versions: the slice, and what it holds. -/
structure VRec where
  k : ByteArray
  a : Option Addr
  cap : Nat
  vs : List Ver

def verCells (x : Ver) : List Value := [.int .i64 x.1, .string x.2.1, .bool x.2.2]
def slV (x : Option Addr × Nat × Nat) : Value := .slice x.1 x.2.1 x.2.2
def VRec.v (x : VRec) : Value := .slice x.a x.vs.length x.cap
def VAt (w : World) (x : VRec) : Prop := w.ownsRow 0 233 3 x.v x.vs.length (x.vs.flatMap verCells)

structure Sto where
  sb : Nat
  tm : Nat
  vm : Nat
  mu : Int
  c1 : Int
  c2 : Int
  c3 : Int
  c4 : Int
  clock : Int
  begun : Int
  hv : Value
  hl : List Nat
  recs : List Rec
  vrs : List VRec

def Sto.cells (s : Sto) : Array Value := #[.int .i32 s.mu, .int .u32 0, .int .i64 s.c1, .int .i64 s.c2, .int .i64 s.c3, .int .i64 s.c4, .int .i64 s.clock, .int .i64 s.begun, .map (some s.tm), s.hv, .map (some s.vm)]

def Sto.bg (s : Sto) (t : Nat) : Int := ((s.recs.find? (fun r => r.tb == t)).map (·.bg)).getD 0

def Rec.foot (r : Rec) : List Nat := [r.tb, r.wb, r.rb]
def VRec.foot (x : VRec) : List Nat := x.v.ownBlock.toList
def Sto.foot (s : Sto) : List Nat := s.sb :: s.tm :: s.vm :: (s.hv.ownBlock.toList ++ (s.recs.flatMap Rec.foot ++ s.vrs.flatMap VRec.foot))

structure StAt (w : World) (s : Sto) : Prop where
  own : w.heap[s.sb]? = some (.cells s.cells 136)
  tm : MapIs hk ptrTo w s.tm (s.recs.map fun r => (r.h, r.tb))
  recs : ∀ r ∈ s.recs, RecAt w r
  hsl : PSl w s.hv s.hl
  hnd : s.hl.Nodup
  hrec : ∀ (i t : Nat), s.hl[i]? = some t → ∃ r ∈ s.recs, r.tb = t ∧ r.pl = i ∧ r.cm = 0
  hact : ∀ r ∈ s.recs, r.cm = 0 → r.tb ∈ s.hl
  hlen : s.hl.length ≤ 1000
  ord : Ord (fOf s.bg s.hl) s.hl.length
  vm : MapIs sk slV w s.vm (s.vrs.map fun x => (x.k, (x.a, x.vs.length, x.cap)))
  vers : ∀ x ∈ s.vrs, VAt w x
  nd : s.foot.Nodup

/-! ### Blocks -/

theorem RecAt.of_blocks {w w' : World} {r : Rec} (h : RecAt w r) (hb : ∀ b ∈ r.foot, w'.heap[b]? = w.heap[b]?) : RecAt w' r :=
  ⟨(hb _ (by simp [Rec.foot])).trans h.own, h.wr.of_block (hb _ (by simp [Rec.foot])), h.rd.of_block (hb _ (by simp [Rec.foot]))⟩

theorem RecAt.lt {w : World} {r : Rec} (h : RecAt w r) : ∀ b ∈ r.foot, b < w.heap.size := by
  intro b hb
  simp only [Rec.foot, List.mem_cons, List.not_mem_nil, or_false] at hb
  rcases hb with rfl | rfl | rfl
  · exact lt_of_heap h.own
  · exact h.wr.lt
  · exact h.rd.lt

theorem ownsRow_of_block {w w' : World} {base : Nat} {e : TypeId} {size : Nat} {v : Value} {n : Nat} {xs : List Value} (h : w.ownsRow base e size v n xs) (hb : ∀ b, v.ownBlock = some b → w'.heap[b]? = w.heap[b]?) : w'.ownsRow base e size v n xs := by
  refine ⟨h.1, ?_⟩
  rcases h.2 with hn | ⟨g, cap, cur, rfl, h1, hg, rest⟩
  · exact .inl hn
  · exact .inr ⟨g, cap, cur, rfl, h1, (hb g rfl).trans hg, rest⟩

theorem Sto.mem_rec {s : Sto} {r : Rec} (hr : r ∈ s.recs) {b : Nat} (hb : b ∈ r.foot) : b ∈ s.foot := by
  simp only [Sto.foot, List.mem_cons, List.mem_append, List.mem_flatMap]
  exact .inr (.inr (.inr (.inr (.inl ⟨r, hr, hb⟩))))

theorem Sto.mem_vrec {s : Sto} {x : VRec} (hx : x ∈ s.vrs) {b : Nat} (hb : x.v.ownBlock = some b) : b ∈ s.foot := by
  simp only [Sto.foot, List.mem_cons, List.mem_append, List.mem_flatMap]
  exact .inr (.inr (.inr (.inr (.inr ⟨x, hx, by simp [VRec.foot, hb]⟩))))

theorem Sto.mem_hv {s : Sto} {b : Nat} (hb : s.hv.ownBlock = some b) : b ∈ s.foot := by
  simp [Sto.foot, hb]

theorem StAt.lt {w : World} {s : Sto} (h : StAt w s) : ∀ b ∈ s.foot, b < w.heap.size := by
  intro b hb
  simp only [Sto.foot, List.mem_cons, List.mem_append, List.mem_flatMap] at hb
  rcases hb with rfl | rfl | rfl | hb | ⟨r, hr, hb⟩ | ⟨x, hx, hb⟩
  · exact lt_of_heap h.own
  · exact h.tm.lt
  · exact h.vm.lt
  · exact (h.hsl.lt b (by simpa using hb)).2
  · exact (h.recs r hr).lt b hb
  · exact ((h.vers x hx).lt b (by simpa [VRec.foot] using hb)).2

theorem StAt.of_blocks {w w' : World} {s : Sto} (h : StAt w s) (hb : ∀ b ∈ s.foot, w'.heap[b]? = w.heap[b]?) : StAt w' s where
  own := (hb _ (by simp [Sto.foot])).trans h.own
  tm := h.tm.of_block (hb _ (by simp [Sto.foot]))
  recs := fun r hr => (h.recs r hr).of_blocks (fun b hb' => hb b (Sto.mem_rec hr hb'))
  hsl := ownsRow_of_block h.hsl (fun b hb' => hb b (Sto.mem_hv hb'))
  hnd := h.hnd
  hrec := h.hrec
  hact := h.hact
  hlen := h.hlen
  ord := h.ord
  vm := h.vm.of_block (hb _ (by simp [Sto.foot]))
  vers := fun x hx => ownsRow_of_block (h.vers x hx) (fun b hb' => hb b (Sto.mem_vrec hx hb'))
  nd := h.nd

/-- A store stays what it is while none of its blocks is written. -/
theorem StAt.kept {w w' : World} {S : Nat → Prop} {s : Sto} (h : StAt w s) (k : Keeps S w w') (hs : ∀ b ∈ s.foot, ¬ S b) : StAt w' s :=
  h.of_blocks (fun b hb => k.block b (h.lt b hb) (hs b hb))

theorem StAt.quiet {w w' : World} {s : Sto} (h : StAt w s) (k : Quiet w w') : StAt w' s := h.kept k (fun _ _ => id)

/-! ### Cells -/

theorem RecAt.cell {w : World} {r : Rec} (h : RecAt w r) (i : Nat) : w.cell? ⟨r.tb, i, none⟩ = r.cells[i]? := cell_of_heap h.own
theorem RecAt.frozen {w : World} {r : Rec} (h : RecAt w r) (i : Nat) : w.frozen? ⟨r.tb, i, none⟩ = false := frozen_of_heap h.own
theorem StAt.cell {w : World} {s : Sto} (h : StAt w s) (i : Nat) : w.cell? ⟨s.sb, i, none⟩ = s.cells[i]? := cell_of_heap h.own
theorem StAt.frozen {w : World} {s : Sto} (h : StAt w s) (i : Nat) : w.frozen? ⟨s.sb, i, none⟩ = false := frozen_of_heap h.own

/-! ### Apart -/

theorem nodup_flatMap_apart {α : Type} {f : α → List Nat} : ∀ {l : List α}, (l.flatMap f).Nodup → ∀ {x y : α}, x ∈ l → y ∈ l → ∀ {b : Nat}, b ∈ f x → b ∈ f y → x = y
  | [], _, _, _, hx, _, _, _, _ => by simp at hx
  | a :: r, hn, x, y, hx, hy, b, bx, bY => by
    rw [List.flatMap_cons, List.nodup_append] at hn
    obtain ⟨h1, h2, h3⟩ := hn
    rcases List.mem_cons.1 hx with rfl | hx'
    · rcases List.mem_cons.1 hy with rfl | hy'
      · rfl
      · exact absurd rfl (h3 b bx b (List.mem_flatMap.2 ⟨y, hy', bY⟩))
    · rcases List.mem_cons.1 hy with rfl | hy'
      · exact absurd rfl (h3 b bY b (List.mem_flatMap.2 ⟨x, hx', bx⟩))
      · exact nodup_flatMap_apart h2 hx' hy' bx bY

theorem Sto.nd_parts {s : Sto} (h : s.foot.Nodup) : s.sb ≠ s.tm ∧ s.sb ≠ s.vm ∧ s.tm ≠ s.vm ∧ (∀ b, s.hv.ownBlock = some b → b ≠ s.sb ∧ b ≠ s.tm ∧ b ≠ s.vm) ∧
    (∀ r ∈ s.recs, ∀ b ∈ r.foot, b ≠ s.sb ∧ b ≠ s.tm ∧ b ≠ s.vm ∧ s.hv.ownBlock ≠ some b) ∧
    (∀ x ∈ s.vrs, ∀ b, x.v.ownBlock = some b → b ≠ s.sb ∧ b ≠ s.tm ∧ b ≠ s.vm ∧ s.hv.ownBlock ≠ some b ∧ ∀ r ∈ s.recs, b ∉ r.foot) ∧
    (s.recs.flatMap Rec.foot).Nodup ∧ (s.vrs.flatMap VRec.foot).Nodup := by
  simp only [Sto.foot, List.nodup_cons, List.nodup_append, List.mem_cons, List.mem_append, List.mem_flatMap, not_or, Option.mem_toList] at h
  obtain ⟨⟨h1, h2, h3, h4, h5⟩, ⟨h6, h7, h8, h9⟩, ⟨h10, h11, h12⟩, h13, ⟨h14, h15, h16⟩, h17⟩ := h
  refine ⟨h1, h2, h6, fun b hb => ⟨?_, ?_, ?_⟩, fun r hr b hb => ⟨?_, ?_, ?_, ?_⟩, fun x hx b hb => ⟨?_, ?_, ?_, ?_, ?_⟩, h14, h15⟩
  · exact fun e => h3 (e ▸ hb)
  · exact fun e => h7 (e ▸ hb)
  · exact fun e => h10 (e ▸ hb)
  · exact fun e => h4 ⟨r, hr, e ▸ hb⟩
  · exact fun e => h8 ⟨r, hr, e ▸ hb⟩
  · exact fun e => h11 ⟨r, hr, e ▸ hb⟩
  · exact fun e => h17 b e b (.inl ⟨r, hr, hb⟩) rfl
  · exact fun e => h5 ⟨x, hx, by simp [VRec.foot, ← e, hb]⟩
  · exact fun e => h9 ⟨x, hx, by simp [VRec.foot, ← e, hb]⟩
  · exact fun e => h12 ⟨x, hx, by simp [VRec.foot, ← e, hb]⟩
  · exact fun e => h17 b e b (.inr ⟨x, hx, by simp [VRec.foot, hb]⟩) rfl
  · exact fun r hr hb' => h16 b ⟨r, hr, hb'⟩ b ⟨x, hx, by simp [VRec.foot, hb]⟩ rfl

theorem Sto.bg_eq {s : Sto} (h : s.foot.Nodup) {r : Rec} (hr : r ∈ s.recs) : s.bg r.tb = r.bg := by
  have hn := (Sto.nd_parts h).2.2.2.2.2.2.1
  unfold Sto.bg
  cases hf : s.recs.find? (fun x => x.tb == r.tb) with
  | none =>
    have := List.find?_eq_none.1 hf r hr
    simp at this
  | some x =>
    have h1 := List.mem_of_find?_eq_some hf
    have h2 := List.find?_some hf
    have : x = r := nodup_flatMap_apart hn h1 hr (b := r.tb) (by simp only [Rec.foot]; simp at h2; simp [h2]) (by simp [Rec.foot])
    subst this; rfl

theorem StAt.heap {w : World} {s : Sto} (h : StAt w s) : HeapIs w s.hv s.hl s.bg where
  sl := h.hsl
  nd := h.hnd
  ne := fun t ht => by
    obtain ⟨i, hi⟩ := List.getElem?_of_mem ht
    obtain ⟨r, hr, rfl, _⟩ := h.hrec i t hi
    exact ((Sto.nd_parts h.nd).2.2.2.2.1 r hr r.tb (by simp [Rec.foot])).2.2.2
  tb := fun i t hi => by
    obtain ⟨r, hr, rfl, hp, _⟩ := h.hrec i t hi
    exact ⟨r.cells, (h.recs r hr).own, rfl, by rw [Sto.bg_eq h.nd hr]; rfl, by rw [← hp]; rfl⟩
  len := h.hlen

theorem StAt.hl_ne {w : World} {s : Sto} (h : StAt w s) : s.sb ∉ s.hl := fun hm => by
  obtain ⟨i, hi⟩ := List.getElem?_of_mem hm
  obtain ⟨r, hr, e, _⟩ := h.hrec i _ hi
  exact ((Sto.nd_parts h.nd).2.2.2.2.1 r hr r.tb (by simp [Rec.foot])).1 e

theorem StAt.hv_ne {w : World} {s : Sto} (h : StAt w s) : s.hv.ownBlock ≠ some s.sb := fun e => ((Sto.nd_parts h.nd).2.2.2.1 _ e).1 rfl

/-- A record by its handle. -/
def Sto.rec? (s : Sto) (h : Int) : Option Rec := s.recs.find? (fun r => decide (r.h = h))

theorem lookup_recs : ∀ (l : List Rec) (h : Int), look (l.map fun r => (r.h, r.tb)) h = (l.find? (fun r => decide (r.h = h))).map (·.tb)
  | [], _ => rfl
  | r :: l, h => by
    by_cases e : r.h = h
    · simp [look, e]
    · simp only [List.map_cons, look, e, if_false, List.find?_cons, decide_false]
      exact lookup_recs l h

theorem Sto.rec_mem {s : Sto} {h : Int} {r : Rec} (e : s.rec? h = some r) : r ∈ s.recs ∧ r.h = h :=
  ⟨List.mem_of_find?_eq_some e, by simpa using List.find?_some e⟩

end Go.Proofs.YthfimgeopciiiaaGreat
