/-
  A store whose heap is being turned: some active records may not lie in it (E).
-/
import Derived.Test.YthfimgeopciiiaaGreatBegin
namespace Go.Proofs.YthfimgeopciiiaaGreat
open Go.MapKept Go.ChangeMaps Go.Maps Go.RowKit Go.MuLone

structure StAtE (w : World) (s : Sto) (E : Nat → Prop) : Prop where
  own : w.heap[s.sb]? = some (.cells s.cells 136)
  tm : MapIs hk ptrTo w s.tm (s.recs.map fun r => (r.h, r.tb))
  recs : ∀ r ∈ s.recs, RecAt w r
  hsl : PSl w s.hv s.hl
  hnd : s.hl.Nodup
  hrec : ∀ (i t : Nat), s.hl[i]? = some t → ∃ r ∈ s.recs, r.tb = t ∧ r.pl = i ∧ r.cm = 0
  hact : ∀ r ∈ s.recs, r.cm = 0 → ¬ E r.tb → r.tb ∈ s.hl
  hlen : s.hl.length ≤ 1000
  ord : Ord (fOf s.bg s.hl) s.hl.length
  vm : MapIs sk slV w s.vm (s.vrs.map fun x => (x.k, (x.a, x.vs.length, x.cap)))
  vers : ∀ x ∈ s.vrs, VAt w x
  nd : s.foot.Nodup

theorem StAt.e {w : World} {s : Sto} (H : StAt w s) : StAtE w s (fun _ => False) := ⟨H.own, H.tm, H.recs, H.hsl, H.hnd, H.hrec, fun r hr hc _ => H.hact r hr hc, H.hlen, H.ord, H.vm, H.vers, H.nd⟩

theorem StAtE.st {w : World} {s : Sto} {E : Nat → Prop} (H : StAtE w s E) (hE : ∀ r ∈ s.recs, r.cm = 0 → ¬ E r.tb) : StAt w s :=
  ⟨H.own, H.tm, H.recs, H.hsl, H.hnd, H.hrec, fun r hr hc => H.hact r hr hc (hE r hr hc), H.hlen, H.ord, H.vm, H.vers, H.nd⟩

theorem StAtE.lt {w : World} {s : Sto} {E : Nat → Prop} (h : StAtE w s E) : ∀ b ∈ s.foot, b < w.heap.size := by
  intro b hb
  simp only [Sto.foot, List.mem_cons, List.mem_append, List.mem_flatMap] at hb
  rcases hb with rfl | rfl | rfl | hb | ⟨r, hr, hb⟩ | ⟨x, hx, hb⟩
  · exact lt_of_heap h.own
  · exact h.tm.lt
  · exact h.vm.lt
  · exact (h.hsl.lt b (by simpa using hb)).2
  · exact (h.recs r hr).lt b hb
  · exact ((h.vers x hx).lt b (by simpa [VRec.foot] using hb)).2

theorem StAtE.heap {w : World} {s : Sto} {E : Nat → Prop} (h : StAtE w s E) : HeapIs w s.hv s.hl s.bg where
  sl := h.hsl
  nd := h.hnd
  ne := fun t ht => by
    obtain ⟨i, hi⟩ := List.getElem?_of_mem ht
    obtain ⟨r, hr, rfl, _⟩ := h.hrec i t hi
    exact ((Sto.nd_parts h.nd).2.2.2.2.1 r hr r.tb (by simp [Rec.foot])).2.2.2
  tb := fun i t hi => by
    obtain ⟨r, hr, rfl, hp, _⟩ := h.hrec i t hi
    exact ⟨r.cells, (h.recs r hr).own, rfl, by rw [Sto.bg_eq h.nd hr]; rfl, by rw [← hp]; rfl⟩
  len := h.hlen

theorem StAtE.hl_ne {w : World} {s : Sto} {E : Nat → Prop} (h : StAtE w s E) : s.sb ∉ s.hl := fun hm => by
  obtain ⟨i, hi⟩ := List.getElem?_of_mem hm
  obtain ⟨r, hr, e, _⟩ := h.hrec i _ hi
  exact ((Sto.nd_parts h.nd).2.2.2.2.1 r hr r.tb (by simp [Rec.foot])).1 e

theorem StAtE.hv_ne {w : World} {s : Sto} {E : Nat → Prop} (h : StAtE w s E) : s.hv.ownBlock ≠ some s.sb := fun e => ((Sto.nd_parts h.nd).2.2.2.1 _ e).1 rfl

def Sto.heaped (s : Sto) (P : Nat → Int) (T : List Nat) (v' : Value) (hl' : List Nat) : Sto := { s with hv := v', hl := hl', recs := s.recs.map (placed P T) }

theorem heaped_abs (s : Sto) (P : Nat → Int) (T : List Nat) (v' : Value) (hl' : List Nat) : (s.heaped P T v' hl').abs = s.abs := by
  simp only [Sto.heaped, Sto.abs, List.map_map]; rfl

theorem heap_step {w w1 : World} {s : Sto} {E E' : Nat → Prop} (H : StAtE w s E) {v' : Value} {hl' T : List Nat} (hT : HeapTurn s.sb 9 s.hv v' T w w1) (hTs : ∀ t ∈ T, ∃ x ∈ s.recs, x.tb = t) (H1 : HeapIs w1 v' hl' s.bg) (hO : Ord (fOf s.bg hl') hl'.length)
    (hsub : ∀ t ∈ hl', t ∈ T ∧ ∃ x ∈ s.recs, x.tb = t ∧ x.cm = 0) (hact : ∀ x ∈ s.recs, x.cm = 0 → ¬ E' x.tb → x.tb ∈ hl') :
    ∃ P, StAtE w1 (s.heaped P T v' hl') E' ∧ Keeps (fun b => b ∈ s.foot) w w1 ∧ ∀ b ∈ (s.heaped P T v' hl').foot, b ∈ s.foot ∨ w.heap.size ≤ b := by
  obtain ⟨p1, p2, p3, p4, p5, p6, p7, p8⟩ := Sto.nd_parts H.nd
  obtain ⟨P, hP⟩ := turn_recs H.recs p7 hT hTs (fun x hx b hb => ⟨(p5 x hx b hb).1, (p5 x hx b hb).2.2.2⟩)
  have hkw : Keeps (fun b => b ∈ s.foot) w w1 := hT.keeps.mono (fun b hb => .inl (by
    rcases hb with h | h | h
    · exact Sto.mem_hv h
    · obtain ⟨x, hx, e⟩ := hTs b h; exact e ▸ Sto.mem_rec hx (by simp [Rec.foot])
    · rw [h]; simp [Sto.foot]))
  have hvl : v'.ownBlock = s.hv.ownBlock ∨ ∃ g, v'.ownBlock = some g ∧ w.heap.size ≤ g := hT.lies.imp id (fun ⟨g, h1, h2, _⟩ => ⟨g, h1, h2⟩)
  have hrecs : (s.heaped P T v' hl').recs = s.recs.map (placed P T) := rfl
  have hfs : ∀ b ∈ (s.heaped P T v' hl').recs.flatMap Rec.foot, b ∈ s.recs.flatMap Rec.foot := fun b hb => by
    rw [hrecs, placed_foot] at hb; exact hb
  have hnd2 : (s.heaped P T v' hl').foot.Nodup := nd_mk H.nd w.heap.size H.lt rfl rfl rfl rfl hvl (by rw [hrecs, placed_foot]; exact p7) (fun b hb => .inl (hfs b hb))
    (fun g hg hm => by
      obtain ⟨x, hx, hbx⟩ := List.mem_flatMap.1 (hfs g hm)
      rcases hvl with h1 | ⟨g', h1, h2⟩
      · exact (p5 x hx g hbx).2.2.2 (h1 ▸ hg)
      · have e : g = g' := by rw [show (s.heaped P T v' hl').hv = v' from rfl, h1] at hg; cases hg; rfl
        have := (H.recs x hx).lt _ hbx; omega)
  have hbg2 : ∀ t ∈ hl', (s.heaped P T v' hl').bg t = s.bg t := fun t ht => by
    obtain ⟨_, x, hx, rfl, _⟩ := hsub t ht
    have hm : placed P T x ∈ (s.heaped P T v' hl').recs := List.mem_map.2 ⟨x, hx, rfl⟩
    have := Sto.bg_eq hnd2 hm
    rw [show (placed P T x).tb = x.tb from rfl] at this
    rw [this, Sto.bg_eq H.nd hx]; rfl
  have hsame : ∀ b, b < w.heap.size → b ≠ s.sb → s.hv.ownBlock ≠ some b → (∀ x ∈ s.recs, b ∉ x.foot) → w1.heap[b]? = w.heap[b]? := fun b hb h1 h3 h4 => by
    refine hT.keeps.block b hb ?_
    rintro (h | h | h)
    · exact h3 h
    · obtain ⟨x, hx, e⟩ := hTs b h; exact h4 x hx (by rw [← e]; simp [Rec.foot])
    · exact h1 h
  refine ⟨P, ⟨?_, ?_, ?_, H1.sl, H1.nd, ?_, ?_, H1.len, ?_, ?_, ?_, hnd2⟩, hkw, foot_mk w.heap.size rfl rfl rfl rfl hvl (fun b hb => .inl (hfs b hb))⟩
  · show w1.heap[s.sb]? = _
    rw [hT.own _ _ H.own]; rfl
  · rw [hrecs, List.map_map]
    exact H.tm.of_block (hsame s.tm H.tm.lt (Ne.symm p1) (fun e => (p4 _ e).2.1 rfl) (fun x hx hm => (p5 x hx _ hm).2.1 rfl))
  · intro y hy
    obtain ⟨x, hx, rfl⟩ := List.mem_map.1 hy
    exact hP x hx
  · intro j t hj
    have htm' := List.mem_of_getElem? hj
    obtain ⟨htT, x, hx, rfl, hcx⟩ := hsub t htm'
    refine ⟨placed P T x, List.mem_map.2 ⟨x, hx, rfl⟩, rfl, ?_, hcx⟩
    obtain ⟨cs, q1, q2, q3, q4⟩ := H1.tb j x.tb hj
    have q5 := (hP x hx).own
    rw [show (placed P T x).tb = x.tb from rfl] at q5
    rw [q5] at q1; cases q1
    simpa [Rec.cells] using q4
  · intro y hy hcy hE
    obtain ⟨x, hx, rfl⟩ := List.mem_map.1 hy
    exact hact x hx hcy hE
  · intro k k0 kn
    have hB : ∀ j, j < hl'.length → fOf (s.heaped P T v' hl').bg hl' j = fOf s.bg hl' j := fun j hj => by
      have hj' : hl'[j]? = some hl'[j] := List.getElem?_eq_getElem hj
      have e : hl'.getD j 0 = hl'[j] := by simp [List.getD_eq_getElem?_getD, hj']
      unfold fOf
      rw [e]
      exact hbg2 _ (List.mem_of_getElem? hj')
    rw [show (s.heaped P T v' hl').hl = hl' from rfl] at kn ⊢
    rw [hB k kn, hB _ (by omega)]
    exact hO k k0 kn
  · exact H.vm.of_block (hsame s.vm H.vm.lt (Ne.symm p2) (fun e => (p4 _ e).2.2 rfl) (fun x hx hm => (p5 x hx _ hm).2.2.1 rfl))
  · intro x hx
    refine ownsRow_of_block (H.vers x hx) (fun b hb => ?_)
    have q := p6 x hx b hb
    exact hsame b (H.lt b (Sto.mem_vrec (s := s) hx hb)) q.1 q.2.2.2.1 q.2.2.2.2

end Go.Proofs.YthfimgeopciiiaaGreat
