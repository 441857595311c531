/-
  Plain facts on worlds, blocks and maps: no program is named here. A map's block holds a list of pairs; an iterator over it holds what is still to come.
-/
import Derived.WalkKit
import Derived.Maps.RangeRun
import Derived.Maps.Keyed
namespace Go.Proofs.YthfimgeopciiiaaGreat
open Go.MapKept Go.ChangeMaps Go.Maps

/-! ### What a step leaves alone -/

/-- All blocks of w but those in S are in w' what they were; new ones may have been made. -/
structure Keeps (S : Nat → Prop) (w w' : World) : Prop where
  os : w'.os = w.os
  tape : w'.tape = w.tape
  output : w'.output = w.output
  size : w.heap.size ≤ w'.heap.size
  block : ∀ b, b < w.heap.size → ¬ S b → w'.heap[b]? = w.heap[b]?

theorem Keeps.refl (S : Nat → Prop) (w : World) : Keeps S w w := ⟨rfl, rfl, rfl, Nat.le_refl _, fun _ _ _ => rfl⟩

theorem Keeps.trans {S S' : Nat → Prop} {a b c : World} (h : Keeps S a b) (k : Keeps S' b c) (hs : ∀ x, S' x → S x ∨ a.heap.size ≤ x) : Keeps S a c :=
  ⟨k.os.trans h.os, k.tape.trans h.tape, k.output.trans h.output, Nat.le_trans h.size k.size, fun x hx hn =>
    (k.block x (Nat.lt_of_lt_of_le hx h.size) (fun hs' => by rcases hs x hs' with h1 | h1; exact hn h1; omega)).trans (h.block x hx hn)⟩

theorem Keeps.mono {S S' : Nat → Prop} {a b : World} (h : Keeps S a b) (hs : ∀ x, S x → S' x ∨ a.heap.size ≤ x) : Keeps S' a b :=
  ⟨h.os, h.tape, h.output, h.size, fun x hx hn => h.block x hx (fun h1 => by rcases hs x h1 with h2 | h2; exact hn h2; omega)⟩

theorem Keeps.drew {S : Nat → Prop} (w : World) : Keeps S w w.drew := ⟨rfl, rfl, rfl, Nat.le_refl _, fun _ _ _ => rfl⟩

theorem Keeps.alloc {S : Nat → Prop} (w : World) (o : Obj) : Keeps S w (w.alloc o) :=
  ⟨rfl, rfl, rfl, by simp, fun _ hx _ => heap_alloc_old w o hx⟩

theorem heap_setCell_other (w : World) (a : Addr) (v : Value) {b : Nat} (h : b ≠ a.block) : (w.setCell a v).heap[b]? = w.heap[b]? := by
  simp [World.setCell, Array.getElem?_modify, Ne.symm h]

theorem heap_setCell_same {w : World} {b i : Nat} {v : Value} {c : Array Value} {t : TypeId} {f : Nat × Nat} (h : w.heap[b]? = some (.cells c t f)) :
    (w.setCell ⟨b, i, none⟩ v).heap[b]? = some (.cells (c.setIfInBounds i v) t f) := by
  simp [World.setCell, Array.getElem?_modify, h]

theorem Keeps.setCell {S : Nat → Prop} (w : World) (a : Addr) (v : Value) (h : S a.block) : Keeps S w (w.setCell a v) :=
  ⟨rfl, rfl, rfl, by simp, fun _ _ hn => heap_setCell_other w a v (fun e => hn (e ▸ h))⟩

theorem heap_setBlock_ne (w : World) (b : Nat) (o : Obj) {i : Nat} (h : i ≠ b) : (setBlock w b o).heap[i]? = w.heap[i]? := by
  simp [setBlock, Ne.symm h]

theorem heap_setBlock_eq {w : World} {b : Nat} (o : Obj) (h : b < w.heap.size) : (setBlock w b o).heap[b]? = some o := by
  simp [setBlock, h]

theorem Keeps.setBlock {S : Nat → Prop} (w : World) (b : Nat) (o : Obj) (h : S b) : Keeps S w (setBlock w b o) :=
  ⟨rfl, rfl, rfl, by simp [ChangeMaps.setBlock], fun _ _ hn => heap_setBlock_ne w b o (fun e => hn (e ▸ h))⟩

theorem Keeps.cell {S : Nat → Prop} {w w' : World} (h : Keeps S w w') {b o : Nat} (hb : b < w.heap.size) (hn : ¬ S b) : w'.cell? ⟨b, o, none⟩ = w.cell? ⟨b, o, none⟩ :=
  World.cell?_of_block (a := ⟨b, o, none⟩) (h.block b hb hn)

theorem Keeps.frozen {S : Nat → Prop} {w w' : World} (h : Keeps S w w') {b o : Nat} (hb : b < w.heap.size) (hn : ¬ S b) : w'.frozen? ⟨b, o, none⟩ = w.frozen? ⟨b, o, none⟩ :=
  World.frozen?_of_block (a := ⟨b, o, none⟩) (h.block b hb hn)

theorem Keeps.below {S : Nat → Prop} {w w' : World} (h : Keeps S w w') {B : Nat} (hB : B ≤ w.heap.size) (hs : ∀ x, S x → B ≤ x) : RowKit.Below B w w' :=
  ⟨h.os, h.tape, h.output, h.size, fun k hk => h.block k (by omega) (fun e => by have := hs k e; omega)⟩

theorem lt_of_heap {w : World} {b : Nat} {o : Obj} (h : w.heap[b]? = some o) : b < w.heap.size := (Array.getElem?_eq_some_iff.1 h).1

theorem cell_of_heap {w : World} {b i : Nat} {c : Array Value} {t : TypeId} {f : Nat × Nat} (h : w.heap[b]? = some (.cells c t f)) : w.cell? ⟨b, i, none⟩ = c[i]? := by
  simp [World.cell?, h]

theorem frozen_of_heap {w : World} {b i : Nat} {c : Array Value} {t : TypeId} (h : w.heap[b]? = some (.cells c t (0, 0))) : w.frozen? ⟨b, i, none⟩ = false := by
  simp [World.frozen?, h]

/-! ### Lists of pairs -/
section
variable {α β : Type} [DecidableEq α]

/-- the list with a key's value: in its place, or behind all -/
def put : List (α × β) → α → β → List (α × β)
  | [], x, v => [(x, v)]
  | p :: r, x, v => if p.1 = x then (x, v) :: r else p :: put r x v

def del (l : List (α × β)) (x : α) : List (α × β) := l.filter (fun p => decide (p.1 ≠ x))

/-- a key's value -/
def look : List (α × β) → α → Option β
  | [], _ => none
  | p :: r, x => if p.1 = x then some p.2 else look r x

theorem lookup_at : ∀ {l : List (α × β)} {j : Nat} {x : α} {v : β}, (l.map (·.1)).Nodup → l[j]? = some (x, v) → look l x = some v
  | [], _, _, _, _, h => by simp at h
  | p :: r, 0, x, v, _, h => by simp at h; subst h; simp [look]
  | p :: r, j + 1, x, v, hn, h => by
    simp at h
    simp only [List.map_cons, List.nodup_cons] at hn
    have hm : (x, v) ∈ r := List.mem_of_getElem? h
    have hne : ¬ p.1 = x := fun e => hn.1 (List.mem_map.2 ⟨(x, v), hm, e.symm⟩)
    simp only [look, hne, if_false]
    exact lookup_at hn.2 h

theorem lookup_none_of : ∀ {l : List (α × β)} {x : α}, (∀ p ∈ l, p.1 ≠ x) → look l x = none
  | [], _, _ => rfl
  | p :: r, x, h => by
    have hne : ¬ p.1 = x := h p (by simp)
    simp only [look, hne, if_false]
    exact lookup_none_of (fun q hq => h q (by simp [hq]))

theorem lookup_mem : ∀ {l : List (α × β)} {x : α} {v : β}, look l x = some v → (x, v) ∈ l
  | [], _, _, h => by simp [look] at h
  | p :: r, x, v, h => by
    by_cases e : p.1 = x
    · subst e; simp [look] at h; subst h; simp
    · simp only [look, e, if_false] at h
      simp [lookup_mem h]

theorem put_none : ∀ {l : List (α × β)} {x : α} (v : β), (∀ p ∈ l, p.1 ≠ x) → put l x v = l ++ [(x, v)]
  | [], _, _, _ => rfl
  | p :: r, x, v, h => by
    simp only [put, h p (by simp), if_false, List.cons_append]
    rw [put_none v (fun q hq => h q (by simp [hq]))]

theorem put_at : ∀ {l : List (α × β)} {j : Nat} {x : α} {u v : β}, (l.map (·.1)).Nodup → l[j]? = some (x, u) → put l x v = l.set j (x, v)
  | [], _, _, _, _, _, h => by simp at h
  | p :: r, 0, x, u, v, _, h => by simp at h; subst h; simp [put]
  | p :: r, j + 1, x, u, v, hn, h => by
    simp at h
    simp only [List.map_cons, List.nodup_cons] at hn
    have hm : (x, u) ∈ r := List.mem_of_getElem? h
    have hne : p.1 ≠ x := fun e => hn.1 (List.mem_map.2 ⟨(x, u), hm, e.symm⟩)
    simp only [put, hne, if_false, List.set_cons_succ]
    rw [put_at hn.2 h]

theorem del_at : ∀ {l : List (α × β)} {j : Nat} {x : α} {u : β}, (l.map (·.1)).Nodup → l[j]? = some (x, u) → del l x = l.eraseIdx j
  | [], _, _, _, _, h => by simp at h
  | p :: r, 0, x, u, hn, h => by
    simp at h; subst h
    simp only [List.map_cons, List.nodup_cons] at hn
    simp only [del, List.eraseIdx_cons_zero]
    rw [List.filter_cons_of_neg (by simp)]
    refine List.filter_eq_self.2 (fun q hq => ?_)
    simp; intro e; exact hn.1 (List.mem_map.2 ⟨q, hq, e⟩)
  | p :: r, j + 1, x, u, hn, h => by
    simp at h
    simp only [List.map_cons, List.nodup_cons] at hn
    have hm : (x, u) ∈ r := List.mem_of_getElem? h
    have hne : p.1 ≠ x := fun e => hn.1 (List.mem_map.2 ⟨(x, u), hm, e.symm⟩)
    simp only [del, List.eraseIdx_cons_succ]
    rw [List.filter_cons_of_pos (by simpa using hne)]
    have := del_at hn.2 h
    simp only [del] at this
    rw [this]

theorem del_none {l : List (α × β)} {x : α} (h : ∀ p ∈ l, p.1 ≠ x) : del l x = l :=
  List.filter_eq_self.2 (fun q hq => by simpa using h q hq)

theorem mem_put {l : List (α × β)} {x : α} {v : β} {p : α × β} (h : p ∈ put l x v) : p ∈ l ∨ p = (x, v) := by
  induction l with
  | nil => simp [put] at h; exact .inr h
  | cons q r ih =>
    simp only [put] at h
    split at h
    · rcases List.mem_cons.1 h with h | h
      · exact .inr h
      · exact .inl (by simp [h])
    · rcases List.mem_cons.1 h with h | h
      · exact .inl (by simp [h])
      · rcases ih h with h | h
        · exact .inl (by simp [h])
        · exact .inr h
end

/-! ### A map's block -/

/-- A kind of keys: how one is a value, and which may be one. -/
structure Kind (α : Type) where
  kf : α → Value
  ok : α → Prop

/-- .. of the key type kt of a program. -/
structure Kind.Good {α : Type} (K : Kind α) (P : Program) (kt : TypeId) : Prop where
  keyed : Keyed P kt
  lit : ∀ x, K.ok x → ∃ l, keyOf P kt (K.kf x) = some l
  inj : ∀ x y, K.kf x = K.kf y → x = y

section
variable {α β : Type} (K : Kind α) (vf : β → Value)

/-- Block b of w is a map of just these pairs. -/
def MapIs (w : World) (b : Nat) (l : List (α × β)) : Prop :=
  ∃ es clock, w.heap[b]? = some (.map es clock) ∧ Stamped es clock ∧ es.toList.map (fun e => (e.key, e.val)) = l.map (fun p => (K.kf p.1, vf p.2)) ∧ ∀ p ∈ l, K.ok p.1

variable {K vf} {w : World} {b : Nat} {l : List (α × β)}

theorem MapIs.lt (h : MapIs K vf w b l) : b < w.heap.size := by
  obtain ⟨es, clock, hb, _⟩ := h; exact lt_of_heap hb

theorem MapIs.of_block {w' : World} (h : MapIs K vf w b l) (e : w'.heap[b]? = w.heap[b]?) : MapIs K vf w' b l := by
  obtain ⟨es, clock, hb, r⟩ := h; exact ⟨es, clock, e.trans hb, r⟩

theorem MapIs.kept {w' : World} {S : Nat → Prop} (h : MapIs K vf w b l) (k : Keeps S w w') (hn : ¬ S b) : MapIs K vf w' b l :=
  h.of_block (k.block b h.lt hn)

theorem MapIs.oks (h : MapIs K vf w b l) : ∀ p ∈ l, K.ok p.1 := by
  obtain ⟨es, clock, hb, _, _, h⟩ := h; exact h

theorem map_entry {es : List MapEntry} {l : List (α × β)} (hm : es.map (fun e => (e.key, e.val)) = l.map (fun p => (K.kf p.1, vf p.2))) {j : Nat} {e : MapEntry} (he : es[j]? = some e) :
    ∃ p, l[j]? = some p ∧ e.key = K.kf p.1 ∧ e.val = vf p.2 := by
  have := congrArg (·[j]?) hm
  simp only [List.getElem?_map, he, Option.map_some] at this
  cases hl : l[j]? with
  | none => rw [hl] at this; simp at this
  | some p => rw [hl] at this; simp at this; exact ⟨p, rfl, this.1, this.2⟩

theorem map_entry' {es : List MapEntry} {l : List (α × β)} (hm : es.map (fun e => (e.key, e.val)) = l.map (fun p => (K.kf p.1, vf p.2))) {j : Nat} {p : α × β} (hp : l[j]? = some p) :
    ∃ e, es[j]? = some e ∧ e.key = K.kf p.1 ∧ e.val = vf p.2 := by
  have := congrArg (·[j]?) hm
  simp only [List.getElem?_map, hp, Option.map_some] at this
  cases hl : es[j]? with
  | none => rw [hl] at this; simp at this
  | some e => rw [hl] at this; simp at this; exact ⟨e, rfl, this.1, this.2⟩

theorem map_key_mem {es : List MapEntry} {l : List (α × β)} (hm : es.map (fun e => (e.key, e.val)) = l.map (fun p => (K.kf p.1, vf p.2))) {e : MapEntry} (he : e ∈ es) :
    ∃ p ∈ l, e.key = K.kf p.1 ∧ e.val = vf p.2 := by
  obtain ⟨j, hj⟩ := List.getElem?_of_mem he
  obtain ⟨p, hp, h1, h2⟩ := map_entry hm hj
  exact ⟨p, List.mem_of_getElem? hp, h1, h2⟩

theorem keys_nodup {es : Array MapEntry} {clock : Nat} (hs : Stamped es clock)
    (hm : es.toList.map (fun e => (e.key, e.val)) = l.map (fun p => (K.kf p.1, vf p.2))) : (l.map (·.1)).Nodup := by
  have h3 := hs.2.2
  have e1 : es.toList.map (·.key) = (l.map (·.1)).map K.kf := by
    have := congrArg (List.map Prod.fst) hm
    simpa [List.map_map, Function.comp_def] using this
  rw [e1] at h3
  exact List.Pairwise.imp (fun h e => h (congrArg K.kf e)) (List.pairwise_map.1 h3)

theorem MapIs.nodup (h : MapIs K vf w b l) : (l.map (·.1)).Nodup := by
  obtain ⟨es, clock, hb, hs, hm, _⟩ := h
  exact keys_nodup hs hm

/-- Where a key is found. -/
theorem find_key {P : Program} {kt : TypeId} (G : K.Good P kt) {es : Array MapEntry} (w : World)
    (hm : es.toList.map (fun e => (e.key, e.val)) = l.map (fun p => (K.kf p.1, vf p.2))) (hok : ∀ p ∈ l, K.ok p.1) {x : α} (hx : K.ok x) :
    ((Instr.findKey kt (K.kf x) es.toList).run P w = .ok none w ∧ (∀ p ∈ l, p.1 ≠ x) ∧ (∀ e ∈ es.toList, e.key ≠ K.kf x)) ∨
    ∃ j v e, (Instr.findKey kt (K.kf x) es.toList).run P w = .ok (some (j, vf v)) w ∧ l[j]? = some (x, v) ∧ es.toList[j]? = some e ∧ e.key = K.kf x ∧ e.val = vf v := by
  obtain ⟨lx, hlx⟩ := G.lit x hx
  rcases G.keyed.find w hlx es.toList (fun e he => by obtain ⟨p, hp, h1, _⟩ := map_key_mem hm he; rw [h1]; exact G.lit _ (hok p hp)) with ⟨h1, h2⟩ | ⟨j, e, h1, h2, h3⟩
  · refine .inl ⟨h1, fun p hp e => ?_, h2⟩
    obtain ⟨j, hj⟩ := List.getElem?_of_mem hp
    obtain ⟨e', he', hk, _⟩ := map_entry' hm hj
    exact h2 e' (List.mem_of_getElem? he') (by rw [hk, e])
  · obtain ⟨p, hp, hk, hv⟩ := map_entry hm h2
    have : p.1 = x := G.inj _ _ (hk.symm.trans h3)
    refine .inr ⟨j, p.2, e, ?_, ?_, h2, h3, hv⟩
    · rw [h1, hv]
    · rw [hp, ← this]

theorem MapIs.len {P : Program} {kt t et ty : TypeId} (ht : P.underlying t = some (.map kt et)) (h : MapIs K vf w b l) :
    (Builtin.len_ #[t] ty #[.map (some b)]).run P w = .ok (.int .i64 l.length) w := by
  obtain ⟨es, clock, hb, hs, hm, hok⟩ := h
  have : es.size = l.length := by have := congrArg List.length hm; simpa using this
  simp [Builtin.len_, run_underlying ht, MapKept.run_getObj_map hb, this, goInt]

variable [DecidableEq α]

theorem MapIs.look {P : Program} {kt t et : TypeId} (G : K.Good P kt) (ht : P.underlying t = some (.map kt et)) (h : MapIs K vf w b l) {z : Value} (hz : ∀ w, (zeroValue et).run P w = .ok z w) {x : α} (hx : K.ok x) (c : Bool) :
    (Instr.lookup t (.map (some b)) (K.kf x) c).run P w = .ok (if c then .tuple #[((look l x).map vf).getD z, .bool (look l x).isSome] else ((look l x).map vf).getD z) w := by
  have hn := h.nodup
  obtain ⟨es, clock, hb, hs, hm, hok⟩ := h
  obtain ⟨lx, hlx⟩ := G.lit x hx
  rcases find_key G w hm hok hx with ⟨h1, h2, _⟩ | ⟨j, v, e, h1, h2, _, _⟩
  · simp [Instr.lookup, run_underlying ht, MapKept.run_getObj_map hb, G.keyed.check w _ hlx, h1, hz, lookup_none_of h2]
  · simp [Instr.lookup, run_underlying ht, MapKept.run_getObj_map hb, G.keyed.check w _ hlx, h1, lookup_at hn h2]

theorem MapIs.update {P : Program} {kt t et : TypeId} (G : K.Good P kt) (ht : P.underlying t = some (.map kt et)) (h : MapIs K vf w b l) {x : α} (hx : K.ok x) (v : β) :
    ∃ o, (Instr.mapUpdate t (.map (some b)) (K.kf x) (vf v)).run P w = .ok () (setBlock w b o) ∧ MapIs K vf (setBlock w b o) b (put l x v) := by
  have hn := h.nodup
  have hlt := h.lt
  obtain ⟨es, clock, hb, hs, hm, hok⟩ := h
  obtain ⟨lx, hlx⟩ := G.lit x hx
  have hok' : ∀ p ∈ put l x v, K.ok p.1 := fun p hp => by
    rcases mem_put hp with h | h
    · exact hok p h
    · subst h; exact hx
  rcases find_key G w hm hok hx with ⟨h1, h2, h3⟩ | ⟨j, u, e, h1, h2, h4, h3, h5⟩
  · refine ⟨.map (es.push { key := K.kf x, val := vf v, born := clock }) (clock + 1), ?_, _, _, heap_setBlock_eq _ hlt, stamped_push hs h3, ?_, hok'⟩
    · simp [Instr.mapUpdate, run_underlying ht, MapKept.run_getObj_map hb, G.keyed.check w _ hlx, h1, MapKept.run_setObj_map _ hb, setBlock]
    · rw [put_none v h2]; simp [hm]
  · have hje : es[j]? = some e := by simpa using h4
    refine ⟨.map (es.modify j fun e => { e with key := K.kf x, val := vf v }) clock, ?_, _, _, heap_setBlock_eq _ hlt, stamped_modify hs j _ (fun _ _ => rfl) (fun e' _ he' => ?_), ?_, hok'⟩
    · have hst : (Instr.keyThatStays (K.kf x) (K.kf x)).run P w = .ok (K.kf x) w := G.keyed.stays w hlx
      simp [Instr.mapUpdate, run_underlying ht, MapKept.run_getObj_map hb, G.keyed.check w _ hlx, h1, MapKept.run_setObj_map _ hb, setBlock, hje, h3, hst]
    · rw [hje] at he'; cases he'; exact h3.symm
    · rw [put_at hn h2]
      apply List.ext_getElem?
      intro i
      have hi := congrArg (·[i]?) hm
      simp only [List.getElem?_map, Array.getElem?_toList, Array.getElem?_modify, List.getElem?_set] at hi ⊢
      have hjl : j < l.length := by rcases List.getElem?_eq_some_iff.1 h2 with ⟨h, _⟩; exact h
      by_cases hij : j = i
      · subst hij; simp [hje, hjl]
      · simp [hij, hi]

theorem MapIs.delete {P : Program} {kt t et ty : TypeId} (G : K.Good P kt) (ht : P.underlying t = some (.map kt et)) (h : MapIs K vf w b l) {x : α} (hx : K.ok x) (ts : TypeId) :
    ∃ o, (Builtin.delete_ #[t, ts] ty #[.map (some b), K.kf x]).run P w = .ok (.tuple #[]) (setBlock w b o) ∧ MapIs K vf (setBlock w b o) b (del l x) := by
  have hn := h.nodup
  have hlt := h.lt
  obtain ⟨es, clock, hb, hs, hm, hok⟩ := h
  obtain ⟨lx, hlx⟩ := G.lit x hx
  have hok' : ∀ p ∈ del l x, K.ok p.1 := fun p hp => hok p (List.mem_filter.1 hp).1
  rcases find_key G w hm hok hx with ⟨h1, h2, h3⟩ | ⟨j, u, e, h1, h2, h4, h3, h5⟩
  · refine ⟨.map es clock, ?_, _, _, heap_setBlock_eq _ hlt, hs, ?_, hok'⟩
    · simp [Builtin.delete_, run_underlying ht, MapKept.run_getObj_map hb, G.keyed.check w _ hlx, h1, MapKept.run_setObj_map _ hb, setBlock]
    · rw [del_none h2]; exact hm
  · refine ⟨.map (es.eraseIdxIfInBounds j) clock, ?_, _, _, heap_setBlock_eq _ hlt, stamped_erase hs j, ?_, hok'⟩
    · simp [Builtin.delete_, run_underlying ht, MapKept.run_getObj_map hb, G.keyed.check w _ hlx, h1, MapKept.run_setObj_map _ hb, setBlock]
    · rw [del_at hn h2]
      have hj : j < es.size := by have := List.getElem?_eq_some_iff.1 h4; simpa using this.1
      simp only [Array.eraseIdxIfInBounds, hj, dif_pos, Array.toList_eraseIdx, map_eraseIdx, hm]
end

/-! ### Going through a map -/
section
variable {α β : Type} (K : Kind α) (vf : β → Value)

/-- Block r is an iterator over the map in block b, whose pairs are l; those in 'left' are still to come. -/
def RangeIs (w : World) (b r : Nat) (l left : List (α × β)) : Prop :=
  ∃ es clock since seen c0, w.heap[b]? = some (.map es clock) ∧ Stamped es clock ∧ es.toList.map (fun e => (e.key, e.val)) = l.map (fun p => (K.kf p.1, vf p.2)) ∧ (∀ p ∈ l, K.ok p.1) ∧
    w.heap[r]? = some (.mapIter (some b) since seen c0) ∧ (∀ x ∈ es.toList, x.born < since) ∧ since ≤ c0 ∧ since ≤ clock ∧
    ((leftOf es seen).toList.map (fun e => (e.key, e.val))).Perm (left.map (fun p => (K.kf p.1, vf p.2))) ∧ ∀ p ∈ left, p ∈ l

variable {K vf} {w : World} {b r : Nat} {l left : List (α × β)}

theorem RangeIs.map (h : RangeIs K vf w b r l left) : MapIs K vf w b l := by
  obtain ⟨es, clock, since, seen, c0, hb, hs, hm, hok, _⟩ := h; exact ⟨es, clock, hb, hs, hm, hok⟩

theorem RangeIs.lt (h : RangeIs K vf w b r l left) : r < w.heap.size := by
  obtain ⟨es, clock, since, seen, c0, hb, hs, hm, hok, hr, _⟩ := h; exact lt_of_heap hr

theorem RangeIs.ne (h : RangeIs K vf w b r l left) : r ≠ b := by
  obtain ⟨es, clock, since, seen, c0, hb, hs, hm, hok, hr, _⟩ := h
  intro e; rw [e, hb] at hr; cases hr

theorem RangeIs.kept {w' : World} {S : Nat → Prop} (h : RangeIs K vf w b r l left) (k : Keeps S w w') (hb' : ¬ S b) (hr' : ¬ S r) : RangeIs K vf w' b r l left := by
  have h1 := h.map.lt
  have h2 := h.lt
  obtain ⟨es, clock, since, seen, c0, hb, hs, hm, hok, hr, rest⟩ := h
  exact ⟨es, clock, since, seen, c0, (k.block b h1 hb').trans hb, hs, hm, hok, (k.block r h2 hr').trans hr, rest⟩

theorem MapIs.range {P : Program} {kt t et : TypeId} (ht : P.underlying t = some (.map kt et)) (h : MapIs K vf w b l) :
    ∃ w', (Instr.range t (.map (some b))).run P w = .ok (.pointer (some ⟨w.heap.size, 0, none⟩)) w' ∧ RangeIs K vf w' b w.heap.size l l ∧ Keeps (fun _ => False) w w' ∧ w'.heap.size = w.heap.size + 1 := by
  have hlt := h.lt
  obtain ⟨es, clock, hb, hs, hm, hok⟩ := h
  refine ⟨_, run_range_map w t kt et b es clock ht hb, ⟨es, clock, clock, #[], clock, (heap_alloc_old w _ hlt).trans hb, hs, hm, hok, heap_alloc_new w _, hs.1, Nat.le_refl _, Nat.le_refl _, ?_, fun _ h => h⟩, Keeps.alloc w _, by simp⟩
  have : (leftOf es #[]).toList = es.toList := by simp [leftOf]
  rw [this, hm]

theorem perm_filter_born {e : MapEntry} : ∀ {L : List MapEntry}, (L.map (·.born)).Nodup → e ∈ L → L.Perm (e :: L.filter (fun x => decide (x.born ≠ e.born)))
  | [], _, h => by simp at h
  | x :: r, hn, h => by
    simp only [List.map_cons, List.nodup_cons] at hn
    rcases List.mem_cons.1 h with h | h
    · subst h
      rw [List.filter_cons_of_neg (by simp), List.filter_eq_self.2 (fun y hy => ?_)]
      simp; intro e'; exact hn.1 (List.mem_map.2 ⟨y, hy, e'⟩)
    · have hne : x.born ≠ e.born := fun e' => hn.1 (List.mem_map.2 ⟨e, h, e'.symm⟩)
      rw [List.filter_cons_of_pos (by simpa using hne)]
      exact ((perm_filter_born hn.2 h).cons x).trans (List.Perm.swap _ _ _)

theorem left_push_perm {es : Array MapEntry} {clock : Nat} {seen : Array Nat} (hs : Stamped es clock) {e : MapEntry} (he : e ∈ (leftOf es seen).toList) :
    (leftOf es seen).toList.Perm (e :: (leftOf es (seen.push e.born)).toList) := by
  have h1 : ((leftOf es seen).toList.map (·.born)).Nodup := by
    simp only [leftOf, Array.toList_filter]
    exact hs.2.1.sublist (List.Sublist.map _ List.filter_sublist)
  have h2 : (leftOf es (seen.push e.born)).toList = (leftOf es seen).toList.filter (fun x => decide (x.born ≠ e.born)) := by
    simp only [leftOf, Array.toList_filter, List.filter_filter, contains_push]
    refine List.filter_congr (fun x _ => ?_)
    by_cases hx : x.born = e.born <;> simp [hx]
  rw [h2]
  exact perm_filter_born h1 he

theorem RangeIs.next {P : Program} (h : RangeIs K vf w b r l left) (ty : TypeId) :
    (left = [] ∧ (Instr.next (.pointer (some ⟨r, 0, none⟩)) false ty).run P w = .ok (.tuple #[.bool false]) w) ∨
    ∃ p left' w', left.Perm (p :: left') ∧ p ∈ l ∧ (Instr.next (.pointer (some ⟨r, 0, none⟩)) false ty).run P w = .ok (.tuple #[.bool true, K.kf p.1, vf p.2]) w' ∧
      RangeIs K vf w' b r l left' ∧ Keeps (fun x => x = r) w w' ∧ w'.heap.size = w.heap.size ∧ (Instr.entry (.pointer (some ⟨r, 0, none⟩))).run P w' = .ok (.tuple #[K.kf p.1, vf p.2]) w' := by
  have hne := h.ne
  have hlt := h.lt
  obtain ⟨es, clock, since, seen, c0, hb, hs, hm, hok, hr, hold, hsc, hsk, hperm, hsub⟩ := h
  rcases run_next_at (P := P) w ty r b since c0 seen es clock hr hb hold hsc with ⟨h0, hrun⟩ | ⟨e, he, w1, hal, hrun⟩
  · left
    refine ⟨?_, hrun⟩
    have e0 : (leftOf es seen).toList = [] := List.eq_nil_of_length_eq_zero (by simpa using h0)
    rw [e0] at hperm
    have := hperm.symm.eq_nil
    simpa using this
  · right
    have hpp := left_push_perm hs he
    have hmem : (e.key, e.val) ∈ left.map (fun p => (K.kf p.1, vf p.2)) := hperm.mem_iff.1 (List.mem_map.2 ⟨e, he, rfl⟩)
    obtain ⟨p, hp, hpe⟩ := List.mem_map.1 hmem
    obtain ⟨s1, s2, rfl⟩ := List.append_of_mem hp
    have hlp : (s1 ++ p :: s2).Perm (p :: (s1 ++ s2)) := List.perm_middle
    simp only [Prod.mk.injEq] at hpe
    have hw1 : w1.heap = w.heap := by rcases hal with rfl | rfl <;> rfl
    have hr1 : r < w1.heap.size := by rw [hw1]; exact hlt
    have hperm' : ((leftOf es (seen.push e.born)).toList.map (fun e => (e.key, e.val))).Perm ((s1 ++ s2).map (fun p => (K.kf p.1, vf p.2))) := by
      have h1 := (hpp.map (fun e : MapEntry => (e.key, e.val))).symm.trans (hperm.trans (hlp.map _))
      simp only [List.map_cons, hpe.1, hpe.2] at h1
      exact h1.cons_inv
    have hbw : (setBlock w1 r (.mapIter (some b) since (seen.push e.born) clock)).heap[b]? = some (.map es clock) := by
      rw [heap_setBlock_ne _ _ _ (Ne.symm hne), hw1, hb]
    refine ⟨p, s1 ++ s2, setBlock w1 r (.mapIter (some b) since (seen.push e.born) clock), hlp, hsub p hp, ?_, ⟨es, clock, since, seen.push e.born, clock, hbw, hs, hm, hok, heap_setBlock_eq _ hr1, hold, hsk, hsk, hperm', ?_⟩, ?_, ?_, ?_⟩
    · rw [hpe.1, hpe.2]; exact hrun
    · intro q hq; exact hsub q (hlp.mem_iff.2 (List.mem_cons_of_mem _ hq))
    · have k1 : Keeps (fun x => x = r) w w1 := by rcases hal with rfl | rfl; exact Keeps.refl _ _; exact Keeps.drew _
      exact k1.trans (Keeps.setBlock (S := fun x => x = r) w1 r _ rfl) (fun x hx => .inl hx)
    · simp [setBlock, hw1]
    · rw [hpe.1, hpe.2]
      exact run_entry_at _ r b since seen es clock e (heap_setBlock_eq _ hr1) hbw (mem_left he).1 hs.2.1

end
end Go.Proofs.YthfimgeopciiiaaGreat
