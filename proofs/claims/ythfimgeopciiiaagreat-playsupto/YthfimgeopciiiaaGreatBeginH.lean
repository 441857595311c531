/-
  begin: a new record, in the map and in the heap.
-/
import Derived.Test.YthfimgeopciiiaaGreatOuter
import Derived.Deep.QuietTactic
import Derived.Deep.RegionWith
namespace Go.Proofs.YthfimgeopciiiaaGreat
open Go.MapKept Go.ChangeMaps Go.Maps Go.RowKit Go.MuLone

/-- a new record's cells -/
def newCells (h b : Int) (N : Nat) : Array Value := #[.int .i64 h, .int .i64 b, .int .i64 0, .map (some N), .map (some (N + 1)), .bool false, .bool false, .int .i64 0]

structure NewRec (h b : Int) (N : Nat) (w : World) : Prop where
  size : N + 3 ≤ w.heap.size
  wb : w.heap[N]? = some (.map #[] 0)
  rb : w.heap[N + 1]? = some (.map #[] 0)
  tb : w.heap[N + 2]? = some (.cells (newCells h b N) 174)

set_option maxRecDepth 100000 in
set_option maxHeartbeats 1000000 in
theorem newTxn_h (h b : Int) (w : World) : Calls Tryz.prog 94 #[.int .i64 h, .int .i64 b] w fun e w' => e = .returned (.pointer (some ⟨w.heap.size + 2, 0, none⟩)) ∧ NewRec h b w.heap.size w' ∧ Quiet w w' ∧ w'.heap.size = w.heap.size + 3 := by
  have hmm : ∀ t w, (Instr.makeMap t none).run Tryz.prog w = .ok (.map (some w.heap.size)) (w.alloc (.map #[] 0)) := fun _ _ => rfl
  go_enter Tryz.func94, Tryz.ntmps94
  go_wp2
  go_ret
  refine ⟨by simp, ⟨by simp, ?_, ?_, ?_⟩, Quiet.trans' (Quiet.trans' (Keeps.alloc _ _) (Keeps.alloc _ _)) (Keeps.alloc _ _), by simp⟩
  · rw [heap_alloc_old _ _ (by simp; omega), heap_alloc_old _ _ (by simp), heap_alloc_new]
  · rw [heap_alloc_old _ _ (by simp)]
    have := heap_alloc_new (w.alloc (.map #[] 0)) (.map #[] 0)
    simpa using this
  · have := heap_alloc_new ((w.alloc (.map #[] 0)).alloc (.map #[] 0)) (.cells (newCells h b w.heap.size) 174)
    simpa [newCells] using this

structure BegunAt (w : World) (sb tm : Nat) (h b : Int) (l : List (Int × Nat)) (w3 : World) : Prop where
  new : NewRec h b w.heap.size w3
  size : w3.heap.size = w.heap.size + 3
  keeps : Keeps (fun c => c = tm ∨ c = sb) w w3
  own : ∀ cs ty, w.heap[sb]? = some (.cells cs ty) → w3.heap[sb]? = some (.cells (cs.setIfInBounds 7 (.int .i64 h)) ty)
  tm : MapIs hk ptrTo w3 tm (put l h (w.heap.size + 2))

/-- what begin needs behind its check -/
structure BeginPre (w : World) (sb tm : Nat) (begun clock : Int) (l : List (Int × Nat)) : Prop where
  c7 : w.cell? ⟨sb, 7, none⟩ = some (.int .i64 begun)
  f7 : w.frozen? ⟨sb, 7, none⟩ = false
  d7 : (w.setCell ⟨sb, 7, none⟩ (.int .i64 (begun + 1))).cell? ⟨sb, 7, none⟩ = some (.int .i64 (begun + 1))
  d6 : (w.setCell ⟨sb, 7, none⟩ (.int .i64 (begun + 1))).cell? ⟨sb, 6, none⟩ = some (.int .i64 clock)
  new : Hid (∀ W, Quiet (w.setCell ⟨sb, 7, none⟩ (.int .i64 (begun + 1))) W → W.heap.size = w.heap.size → Calls Tryz.prog 94 #[.int .i64 (begun + 1), .int .i64 clock] W fun e w' => e = .returned (.pointer (some ⟨w.heap.size + 2, 0, none⟩)) ∧
      w'.cell? ⟨sb, 8, none⟩ = some (.map (some tm)) ∧ w'.cell? ⟨w.heap.size + 2, 0, none⟩ = some (.int .i64 (begun + 1)) ∧
      ∃ o, (Instr.mapUpdate 128 (.map (some tm)) (.int .i64 (begun + 1)) (.pointer (some ⟨w.heap.size + 2, 0, none⟩))).run Tryz.prog w'.drew = .ok () (setBlock w'.drew tm o) ∧ BegunAt w sb tm (begun + 1) clock l (setBlock w'.drew tm o))

theorem begin_pre (w : World) (sb tm : Nat) (begun clock : Int) (l : List (Int × Nat)) (cs : Array Value) (ty : TypeId) (hown : w.heap[sb]? = some (.cells cs ty)) (h7 : cs[7]? = some (.int .i64 begun)) (h6 : cs[6]? = some (.int .i64 clock)) (h8 : cs[8]? = some (.map (some tm)))
    (hm : MapIs hk ptrTo w tm l) (hb : -1 ≤ begun ∧ begun < 4611686018427387904) (hne : sb ≠ tm) : BeginPre w sb tm begun clock l := by
  have hsl := lt_of_heap hown
  have hml := hm.lt
  have hs7 : 7 < cs.size := (Array.getElem?_eq_some_iff.1 h7).1
  have hown1 : (w.setCell ⟨sb, 7, none⟩ (.int .i64 (begun + 1))).heap[sb]? = some (.cells (cs.setIfInBounds 7 (.int .i64 (begun + 1))) ty) := heap_setCell_same hown
  refine ⟨by rw [cell_of_heap hown, h7], frozen_of_heap hown, by rw [cell_of_heap hown1]; simp [hs7], by rw [cell_of_heap hown1]; simp [h6], ?_⟩
  refine fun W hW hsz => ?_
  refine (newTxn_h (begun + 1) clock W).mono fun e w' ⟨h1, h2, h3, h4⟩ => ?_
  rw [hsz] at h1 h2 h4
  have hq := Quiet.trans' hW h3
  have hb1 : w'.heap[sb]? = some (.cells (cs.setIfInBounds 7 (.int .i64 (begun + 1))) ty) := (hq.block sb (by simpa using hsl) (by simp)).trans hown1
  have hm1 : MapIs hk ptrTo (w'.drew) tm l := (hm.of_block (heap_setCell_other _ _ _ (Ne.symm hne))).of_block (hq.block tm (by simpa using hml) (by simp))
  obtain ⟨o, hrun, hmap⟩ := hm1.update hk_good Tryz.underlying128 (x := begun + 1) (wf_i64 (by omega) (by omega)) (w.heap.size + 2)
  have hko : ∀ b, b < w.heap.size + 3 → b ≠ tm → (setBlock w'.drew tm o).heap[b]? = w'.heap[b]? := fun b hbl hb => (Keeps.setBlock (S := fun c => c = tm) w'.drew tm o rfl).block b (by simp; omega) hb
  refine ⟨h1, by rw [cell_of_heap hb1]; simp [h8], by rw [cell_of_heap h2.tb]; rfl, o, by simpa [hk, ptrTo] using hrun, ?_⟩
  refine ⟨⟨by simp [setBlock]; omega, (hko _ (by omega) (by omega)).trans h2.wb, (hko _ (by omega) (by omega)).trans h2.rb, (hko _ (by omega) (by omega)).trans h2.tb⟩, by simp [setBlock]; omega, ?_, fun cs' ty' hcs => ?_, hmap⟩
  · have k1 : Keeps (fun c => c = tm ∨ c = sb) w w' := (Keeps.setCell (S := fun c => c = tm ∨ c = sb) w ⟨sb, 7, none⟩ _ (.inr rfl)).trans hq (fun _ h => h.elim)
    have k2 : Keeps (fun c => c = tm ∨ c = sb) w w'.drew := k1.trans (Keeps.drew (S := fun _ => False) w') (fun _ h => h.elim)
    exact k2.trans (Keeps.setBlock (S := fun c => c = tm ∨ c = sb) _ tm o (.inl rfl)) (fun _ h => .inl h)
  · rw [hown] at hcs; cases hcs
    exact (hko _ (by omega) hne).trans hb1

set_option maxRecDepth 100000 in
set_option maxHeartbeats 1000000 in
theorem begin_walk (w : World) (sb tm : Nat) (c1 begun clock : Int) (l : List (Int × Nat)) (cs : Array Value) (ty : TypeId) (hown : w.heap[sb]? = some (.cells cs ty)) (h2 : cs[2]? = some (.int .i64 c1)) (h7 : cs[7]? = some (.int .i64 begun)) (h6 : cs[6]? = some (.int .i64 clock)) (h8 : cs[8]? = some (.map (some tm)))
    (hm : MapIs hk ptrTo w tm l) (hf : (l.length : Int) < c1) (hb : -1 ≤ begun ∧ begun < 4611686018427387904) (hne : sb ≠ tm) (P1 : World → Prop)
    (hadd : ∀ n w3, BegunAt (w.drewN n) sb tm (begun + 1) clock l w3 → Calls Tryz.prog 95 #[.pointer (some ⟨sb, 9, none⟩), .pointer (some ⟨w.heap.size + 2, 0, none⟩)] w3 fun e w' => e = .returned (.tuple #[]) ∧ P1 w' ∧ w'.cell? ⟨w.heap.size + 2, 0, none⟩ = some (.int .i64 (begun + 1))) :
    Calls Tryz.prog 55 #[.pointer (some ⟨sb, 2, none⟩)] w fun e w' => e = .returned (.tuple #[.int .i64 (begun + 1), .int .i64 0]) ∧ P1 w' := by
  have HX : Hid (∀ n, BeginPre (w.drewN n) sb tm begun clock l) := fun n => begin_pre (w.drewN n) sb tm begun clock l cs ty hown h7 h6 h8 (hm.of_block rfl) hb hne
  have hle : ∀ n, (Builtin.len_ #[128] 3 #[.map (some tm)]).run Tryz.prog (w.drewN n) = .ok (.int .i64 l.length) (w.drewN n) := fun n => by
    have := (hm.of_block (w' := w.drewN n) rfl).len (P := Tryz.prog) (ty := 3) Tryz.underlying128
    simpa using this
  have hl0 := hle 0
  have hl1 := hle 1
  have c8 : w.cell? ⟨sb, 8, none⟩ = some (.map (some tm)) := by rw [cell_of_heap hown, h8]
  have c2 : w.cell? ⟨sb, 2, none⟩ = some (.int .i64 c1) := by rw [cell_of_heap hown, h2]
  have hf' : ¬ (c1 : Int) ≤ (l.length : Int) := by omega
  have HA : Hid (∀ n w3, BegunAt (w.drewN n) sb tm (begun + 1) clock l w3 → Calls Tryz.prog 95 #[.pointer (some ⟨sb, 9, none⟩), .pointer (some ⟨w.heap.size + 2, 0, none⟩)] w3 fun e w' => e = .returned (.tuple #[]) ∧ P1 w' ∧ w'.cell? ⟨w.heap.size + 2, 0, none⟩ = some (.int .i64 (begun + 1))) := hadd
  clear hadd hm hown h6 h7 h8 h2
  go_enter Tryz.func55, Tryz.ntmps55
  go_wp2_with fail
  go_quiet (fail)
  obtain ⟨c7, f7, d7, d6, HN⟩ := HX.out nq
  have hsz : (w.drewN nq).heap.size = w.heap.size := rfl
  have HA2 : Hid (∀ w3, BegunAt (w.drewN nq) sb tm (begun + 1) clock l w3 → Calls Tryz.prog 95 #[.pointer (some ⟨sb, 9, none⟩), .pointer (some ⟨w.heap.size + 2, 0, none⟩)] w3 fun e w' => e = .returned (.tuple #[]) ∧ P1 w' ∧ w'.cell? ⟨w.heap.size + 2, 0, none⟩ = some (.int .i64 (begun + 1))) := HA.out nq
  rw [hsz] at HN
  clear HX HA hl0 hl1 hle c8 c2
  generalize hWd : w.drewN nq = W at *
  go_wp2_with fail
  go_region_with (go_at_call 94; refine (HN.out _ (by repeat (first | assumption | exact Keeps.refl _ _ | refine Quiet.trans' ?_ (Keeps.drew _))) (by simp [hsz])).mono ?_; rintro e w2 ⟨rfl, e8, e0, o, hrun, hB⟩)
  all_goals
    go_wp2
    go_region
  all_goals
    go_wp2_with (go_at_call 95; refine (HA2.out _ hB).mono ?_; rintro e w4 ⟨rfl, hP, g0⟩)
    go_ret2
    exact ⟨rfl, hP⟩

end Go.Proofs.YthfimgeopciiiaaGreat

/-
  A store whose heap is being turned: some active records may not lie in it (E).
-/
namespace Go.Proofs.YthfimgeopciiiaaGreat
open Go.MapKept Go.ChangeMaps Go.Maps Go.RowKit Go.MuLone

structure StAtE (w : World) (s : Sto) (E : Nat → Prop) : Prop where
  own : w.heap[s.sb]? = some (.cells s.cells 136)
  tm : MapIs hk ptrTo w s.tm (s.recs.map fun r => (r.h, r.tb))
  recs : ∀ r ∈ s.recs, RecAt w r
  hsl : PSl w s.hv s.hl
  hnd : s.hl.Nodup
  hrec : ∀ (i t : Nat), s.hl[i]? = some t → ∃ r ∈ s.recs, r.tb = t ∧ r.pl = i ∧ r.cm = 0
  hact : ∀ r ∈ s.recs, r.cm = 0 → ¬ E r.tb → r.tb ∈ s.hl
  hlen : s.hl.length ≤ 1000
  ord : Ord (fOf s.bg s.hl) s.hl.length
  vm : MapIs sk slV w s.vm (s.vrs.map fun x => (x.k, (x.a, x.vs.length, x.cap)))
  vers : ∀ x ∈ s.vrs, VAt w x
  nd : s.foot.Nodup

theorem StAt.e {w : World} {s : Sto} (H : StAt w s) : StAtE w s (fun _ => False) := ⟨H.own, H.tm, H.recs, H.hsl, H.hnd, H.hrec, fun r hr hc _ => H.hact r hr hc, H.hlen, H.ord, H.vm, H.vers, H.nd⟩

theorem StAtE.st {w : World} {s : Sto} {E : Nat → Prop} (H : StAtE w s E) (hE : ∀ r ∈ s.recs, r.cm = 0 → ¬ E r.tb) : StAt w s :=
  ⟨H.own, H.tm, H.recs, H.hsl, H.hnd, H.hrec, fun r hr hc => H.hact r hr hc (hE r hr hc), H.hlen, H.ord, H.vm, H.vers, H.nd⟩

theorem StAtE.lt {w : World} {s : Sto} {E : Nat → Prop} (h : StAtE w s E) : ∀ b ∈ s.foot, b < w.heap.size := by
  intro b hb
  simp only [Sto.foot, List.mem_cons, List.mem_append, List.mem_flatMap] at hb
  rcases hb with rfl | rfl | rfl | hb | ⟨r, hr, hb⟩ | ⟨x, hx, hb⟩
  · exact lt_of_heap h.own
  · exact h.tm.lt
  · exact h.vm.lt
  · exact (h.hsl.lt b (by simpa using hb)).2
  · exact (h.recs r hr).lt b hb
  · exact ((h.vers x hx).lt b (by simpa [VRec.foot] using hb)).2

theorem StAtE.heap {w : World} {s : Sto} {E : Nat → Prop} (h : StAtE w s E) : HeapIs w s.hv s.hl s.bg where
  sl := h.hsl
  nd := h.hnd
  ne := fun t ht => by
    obtain ⟨i, hi⟩ := List.getElem?_of_mem ht
    obtain ⟨r, hr, rfl, _⟩ := h.hrec i t hi
    exact ((Sto.nd_parts h.nd).2.2.2.2.1 r hr r.tb (by simp [Rec.foot])).2.2.2
  tb := fun i t hi => by
    obtain ⟨r, hr, rfl, hp, _⟩ := h.hrec i t hi
    exact ⟨r.cells, (h.recs r hr).own, rfl, by rw [Sto.bg_eq h.nd hr]; rfl, by rw [← hp]; rfl⟩
  len := h.hlen

theorem StAtE.hl_ne {w : World} {s : Sto} {E : Nat → Prop} (h : StAtE w s E) : s.sb ∉ s.hl := fun hm => by
  obtain ⟨i, hi⟩ := List.getElem?_of_mem hm
  obtain ⟨r, hr, e, _⟩ := h.hrec i _ hi
  exact ((Sto.nd_parts h.nd).2.2.2.2.1 r hr r.tb (by simp [Rec.foot])).1 e

theorem StAtE.hv_ne {w : World} {s : Sto} {E : Nat → Prop} (h : StAtE w s E) : s.hv.ownBlock ≠ some s.sb := fun e => ((Sto.nd_parts h.nd).2.2.2.1 _ e).1 rfl

def Sto.heaped (s : Sto) (P : Nat → Int) (T : List Nat) (v' : Value) (hl' : List Nat) : Sto := { s with hv := v', hl := hl', recs := s.recs.map (placed P T) }

theorem heaped_abs (s : Sto) (P : Nat → Int) (T : List Nat) (v' : Value) (hl' : List Nat) : (s.heaped P T v' hl').abs = s.abs := by
  simp only [Sto.heaped, Sto.abs, List.map_map]; rfl

theorem heap_step {w w1 : World} {s : Sto} {E E' : Nat → Prop} (H : StAtE w s E) {v' : Value} {hl' T : List Nat} (hT : HeapTurn s.sb 9 s.hv v' T w w1) (hTs : ∀ t ∈ T, ∃ x ∈ s.recs, x.tb = t) (H1 : HeapIs w1 v' hl' s.bg) (hO : Ord (fOf s.bg hl') hl'.length)
    (hsub : ∀ t ∈ hl', t ∈ T ∧ ∃ x ∈ s.recs, x.tb = t ∧ x.cm = 0) (hact : ∀ x ∈ s.recs, x.cm = 0 → ¬ E' x.tb → x.tb ∈ hl') :
    ∃ P, StAtE w1 (s.heaped P T v' hl') E' ∧ Keeps (fun b => b ∈ s.foot) w w1 ∧ ∀ b ∈ (s.heaped P T v' hl').foot, b ∈ s.foot ∨ w.heap.size ≤ b := by
  obtain ⟨p1, p2, p3, p4, p5, p6, p7, p8⟩ := Sto.nd_parts H.nd
  obtain ⟨P, hP⟩ := turn_recs H.recs p7 hT hTs (fun x hx b hb => ⟨(p5 x hx b hb).1, (p5 x hx b hb).2.2.2⟩)
  have hkw : Keeps (fun b => b ∈ s.foot) w w1 := hT.keeps.mono (fun b hb => .inl (by
    rcases hb with h | h | h
    · exact Sto.mem_hv h
    · obtain ⟨x, hx, e⟩ := hTs b h; exact e ▸ Sto.mem_rec hx (by simp [Rec.foot])
    · rw [h]; simp [Sto.foot]))
  have hvl : v'.ownBlock = s.hv.ownBlock ∨ ∃ g, v'.ownBlock = some g ∧ w.heap.size ≤ g := hT.lies.imp id (fun ⟨g, h1, h2, _⟩ => ⟨g, h1, h2⟩)
  have hrecs : (s.heaped P T v' hl').recs = s.recs.map (placed P T) := rfl
  have hfs : ∀ b ∈ (s.heaped P T v' hl').recs.flatMap Rec.foot, b ∈ s.recs.flatMap Rec.foot := fun b hb => by
    rw [hrecs, placed_foot] at hb; exact hb
  have hnd2 : (s.heaped P T v' hl').foot.Nodup := nd_mk H.nd w.heap.size H.lt rfl rfl rfl rfl hvl (by rw [hrecs, placed_foot]; exact p7) (fun b hb => .inl (hfs b hb))
    (fun g hg hm => by
      obtain ⟨x, hx, hbx⟩ := List.mem_flatMap.1 (hfs g hm)
      rcases hvl with h1 | ⟨g', h1, h2⟩
      · exact (p5 x hx g hbx).2.2.2 (h1 ▸ hg)
      · have e : g = g' := by rw [show (s.heaped P T v' hl').hv = v' from rfl, h1] at hg; cases hg; rfl
        have := (H.recs x hx).lt _ hbx; omega)
  have hbg2 : ∀ t ∈ hl', (s.heaped P T v' hl').bg t = s.bg t := fun t ht => by
    obtain ⟨_, x, hx, rfl, _⟩ := hsub t ht
    have hm : placed P T x ∈ (s.heaped P T v' hl').recs := List.mem_map.2 ⟨x, hx, rfl⟩
    have := Sto.bg_eq hnd2 hm
    rw [show (placed P T x).tb = x.tb from rfl] at this
    rw [this, Sto.bg_eq H.nd hx]; rfl
  have hsame : ∀ b, b < w.heap.size → b ≠ s.sb → s.hv.ownBlock ≠ some b → (∀ x ∈ s.recs, b ∉ x.foot) → w1.heap[b]? = w.heap[b]? := fun b hb h1 h3 h4 => by
    refine hT.keeps.block b hb ?_
    rintro (h | h | h)
    · exact h3 h
    · obtain ⟨x, hx, e⟩ := hTs b h; exact h4 x hx (by rw [← e]; simp [Rec.foot])
    · exact h1 h
  refine ⟨P, ⟨?_, ?_, ?_, H1.sl, H1.nd, ?_, ?_, H1.len, ?_, ?_, ?_, hnd2⟩, hkw, foot_mk w.heap.size rfl rfl rfl rfl hvl (fun b hb => .inl (hfs b hb))⟩
  · show w1.heap[s.sb]? = _
    rw [hT.own _ _ H.own]; rfl
  · rw [hrecs, List.map_map]
    exact H.tm.of_block (hsame s.tm H.tm.lt (Ne.symm p1) (fun e => (p4 _ e).2.1 rfl) (fun x hx hm => (p5 x hx _ hm).2.1 rfl))
  · intro y hy
    obtain ⟨x, hx, rfl⟩ := List.mem_map.1 hy
    exact hP x hx
  · intro j t hj
    have htm' := List.mem_of_getElem? hj
    obtain ⟨htT, x, hx, rfl, hcx⟩ := hsub t htm'
    refine ⟨placed P T x, List.mem_map.2 ⟨x, hx, rfl⟩, rfl, ?_, hcx⟩
    obtain ⟨cs, q1, q2, q3, q4⟩ := H1.tb j x.tb hj
    have q5 := (hP x hx).own
    rw [show (placed P T x).tb = x.tb from rfl] at q5
    rw [q5] at q1; cases q1
    simpa [Rec.cells] using q4
  · intro y hy hcy hE
    obtain ⟨x, hx, rfl⟩ := List.mem_map.1 hy
    exact hact x hx hcy hE
  · intro k k0 kn
    have hB : ∀ j, j < hl'.length → fOf (s.heaped P T v' hl').bg hl' j = fOf s.bg hl' j := fun j hj => by
      have hj' : hl'[j]? = some hl'[j] := List.getElem?_eq_getElem hj
      have e : hl'.getD j 0 = hl'[j] := by simp [List.getD_eq_getElem?_getD, hj']
      unfold fOf
      rw [e]
      exact hbg2 _ (List.mem_of_getElem? hj')
    rw [show (s.heaped P T v' hl').hl = hl' from rfl] at kn ⊢
    rw [hB k kn, hB _ (by omega)]
    exact hO k k0 kn
  · exact H.vm.of_block (hsame s.vm H.vm.lt (Ne.symm p2) (fun e => (p4 _ e).2.2 rfl) (fun x hx hm => (p5 x hx _ hm).2.2.1 rfl))
  · intro x hx
    refine ownsRow_of_block (H.vers x hx) (fun b hb => ?_)
    have q := p6 x hx b hb
    exact hsame b (H.lt b (Sto.mem_vrec (s := s) hx hb)) q.1 q.2.2.2.1 q.2.2.2.2

end Go.Proofs.YthfimgeopciiiaaGreat

/-
  begin, whole; Begin under the mutex.
-/
namespace Go.Proofs.YthfimgeopciiiaaGreat
open Go.MapKept Go.ChangeMaps Go.Maps Go.RowKit Go.MuLone

theorem put_new {α β : Type} [DecidableEq α] : ∀ {l : List (α × β)} {x : α} (v : β), (∀ p ∈ l, p.1 ≠ x) → put l x v = l ++ [(x, v)]
  | [], _, _, _ => rfl
  | p :: r, x, v, h => by
    have hp : p.1 ≠ x := h p (by simp)
    simp only [put, hp, if_false, List.cons_append]
    rw [put_new v (fun q hq => h q (by simp [hq]))]

/-- a new record -/
def newRec (h b : Int) (N : Nat) : Rec := ⟨N + 2, N, N + 1, h, b, 0, [], [], false, false, 0⟩
def Sto.plus (s : Sto) (N : Nat) : Sto := { s with begun := s.begun + 1, recs := s.recs ++ [newRec (s.begun + 1) s.clock N] }

theorem begun_at {w w3 : World} {s : Sto} (H : StAt w s) (hfresh : ∀ r ∈ s.recs, r.h ≠ s.begun + 1) (hB : BegunAt w s.sb s.tm (s.begun + 1) s.clock (s.recs.map fun r => (r.h, r.tb)) w3) :
    StAtE w3 (s.plus w.heap.size) (fun t => t = w.heap.size + 2) := by
  obtain ⟨p1, p2, p3, p4, p5, p6, p7, p8⟩ := Sto.nd_parts H.nd
  have hsame : ∀ b, b < w.heap.size → b ≠ s.tm → b ≠ s.sb → w3.heap[b]? = w.heap[b]? := fun b hb h1 h2 => hB.keeps.block b hb (by rintro (h | h); exact h1 h; exact h2 h)
  have hold : ∀ r ∈ s.recs, ∀ b ∈ r.foot, b < w.heap.size := fun r hr b hb => (H.recs r hr).lt b hb
  have hrf : (s.plus w.heap.size).recs.flatMap Rec.foot = s.recs.flatMap Rec.foot ++ [w.heap.size + 2, w.heap.size, w.heap.size + 1] := by
    simp [Sto.plus, List.flatMap_append, Rec.foot, newRec]
  have hnew : ∀ b ∈ (s.plus w.heap.size).recs.flatMap Rec.foot, b ∈ s.recs.flatMap Rec.foot ∨ w.heap.size ≤ b := fun b hb => by
    rw [hrf, List.mem_append] at hb
    refine hb.imp id (fun h => ?_)
    simp at h; omega
  have hfl : ∀ b ∈ s.recs.flatMap Rec.foot, b < w.heap.size := fun b hb => by
    obtain ⟨x, hx, hbx⟩ := List.mem_flatMap.1 hb
    exact hold x hx b hbx
  have hnd2 : (s.plus w.heap.size).foot.Nodup := nd_mk H.nd w.heap.size H.lt rfl rfl rfl rfl (.inl rfl) (by
      rw [hrf, List.nodup_append]
      refine ⟨p7, by simp, fun a ha b hb e => ?_⟩
      have := hfl a ha
      simp at hb; omega) hnew
    (fun g hg hm => by
      rw [hrf, List.mem_append] at hm
      have hgl := (H.hsl.lt g hg).2
      rcases hm with h | h
      · obtain ⟨x, hx, hbx⟩ := List.mem_flatMap.1 h
        exact (p5 x hx g hbx).2.2.2 hg
      · simp at h; omega)
  have hmem : ∀ r ∈ s.recs, r ∈ (s.plus w.heap.size).recs := fun r hr => by simp [Sto.plus, hr]
  refine ⟨?_, ?_, ?_, ?_, H.hnd, ?_, ?_, H.hlen, ?_, ?_, ?_, hnd2⟩
  · exact (hB.own _ _ H.own)
  · have h1 := hB.tm
    rw [put_new _ (fun p hp => by obtain ⟨r, hr, rfl⟩ := List.mem_map.1 hp; exact hfresh r hr)] at h1
    have e : ((s.plus w.heap.size).recs.map fun r => (r.h, r.tb)) = (s.recs.map fun r => (r.h, r.tb)) ++ [(s.begun + 1, w.heap.size + 2)] := by simp [Sto.plus, newRec]
    rw [e]; exact h1
  · intro r hr
    rcases List.mem_append.1 hr with h | h
    · exact (H.recs r h).of_blocks (fun b hb => hsame b (hold r h b hb) (p5 r h b hb).2.1 (p5 r h b hb).1)
    · simp at h; subst h
      exact ⟨hB.new.tb, MapIs.nil _ _ hB.new.wb, MapIs.nil _ _ hB.new.rb⟩
  · exact ownsRow_of_block H.hsl (fun b hb => hsame b (H.hsl.lt b hb).2 (p4 b hb).2.1 (p4 b hb).1)
  · intro i t hi
    obtain ⟨r, hr, h1, h2, h3⟩ := H.hrec i t hi
    exact ⟨r, hmem r hr, h1, h2, h3⟩
  · intro r hr hc hE
    rcases List.mem_append.1 hr with h | h
    · exact H.hact r h hc
    · simp at h; subst h; exact absurd rfl hE
  · intro k k0 kn
    have hBg : ∀ j, j < s.hl.length → fOf (s.plus w.heap.size).bg s.hl j = fOf s.bg s.hl j := fun j hj => by
      have hj' : s.hl[j]? = some s.hl[j] := List.getElem?_eq_getElem hj
      have e : s.hl.getD j 0 = s.hl[j] := by simp [List.getD_eq_getElem?_getD, hj']
      unfold fOf
      rw [e]
      obtain ⟨r, hr, h1, _⟩ := H.hrec j _ hj'
      rw [← h1, Sto.bg_eq hnd2 (hmem r hr), Sto.bg_eq H.nd hr]
    rw [show (s.plus w.heap.size).hl = s.hl from rfl] at kn ⊢
    rw [hBg k kn, hBg _ (by omega)]
    exact H.ord k k0 kn
  · exact H.vm.of_block (hsame s.vm H.vm.lt (Ne.symm p3) (Ne.symm p2))
  · intro x hx
    refine ownsRow_of_block (H.vers x hx) (fun b hb => ?_)
    have q := p6 x hx b hb
    exact hsame b (H.lt b (Sto.mem_vrec (s := s) hx hb)) q.2.1 q.1

theorem plus_foot {s : Sto} (N : Nat) : ∀ b ∈ (s.plus N).foot, b ∈ s.foot ∨ N ≤ b :=
  foot_mk N rfl rfl rfl rfl (.inl rfl) (fun b hb => by
    have : (s.plus N).recs.flatMap Rec.foot = s.recs.flatMap Rec.foot ++ [N + 2, N, N + 1] := by simp [Sto.plus, List.flatMap_append, Rec.foot, newRec]
    rw [this, List.mem_append] at hb
    refine hb.imp id (fun h => ?_)
    simp at h; omega)

theorem begin_ok {w : World} {s : Sto} (H : StAt w s) (hf : (s.recs.length : Int) < s.c1) (hb : -1 ≤ s.begun ∧ s.begun < 4611686018427387904) (hfresh : ∀ r ∈ s.recs, r.h ≠ s.begun + 1) (hlen : s.hl.length < 1000) :
    Calls Tryz.prog 55 #[.pointer (some ⟨s.sb, 2, none⟩)] w fun e w' => e = .returned (.tuple #[.int .i64 (s.begun + 1), .int .i64 0]) ∧ ∃ s', Turn s s' w w' ∧ s'.abs = { s.abs with begun := s.begun + 1, txs := s.abs.txs ++ [⟨s.begun + 1, s.clock, 0, [], [], false, false⟩] } := by
  obtain ⟨p1, p2, p3, p4, p5, p6, p7, p8⟩ := Sto.nd_parts H.nd
  refine begin_walk w s.sb s.tm s.c1 s.begun s.clock (s.recs.map fun r => (r.h, r.tb)) s.cells _ H.own rfl rfl rfl rfl H.tm (by simpa using hf) hb p1
    (fun w' => ∃ s', Turn s s' w w' ∧ s'.abs = { s.abs with begun := s.begun + 1, txs := s.abs.txs ++ [⟨s.begun + 1, s.clock, 0, [], [], false, false⟩] }) ?_
  intro nq w3 hB
  have hq0 : Quiet w (w.drewN nq) := quiet_drewN w nq
  replace H := H.quiet hq0
  have hszq : (w.drewN nq).heap.size = w.heap.size := rfl
  rw [← hszq]
  generalize hWd : w.drewN nq = W at *
  have HE := begun_at H hfresh hB
  have hrn : newRec (s.begun + 1) s.clock W.heap.size ∈ (s.plus W.heap.size).recs := by simp [Sto.plus]
  have hbgN : (s.plus W.heap.size).bg (W.heap.size + 2) = s.clock := Sto.bg_eq HE.nd hrn
  have hhl : ∀ t ∈ s.hl, t < W.heap.size := fun t ht => by
    obtain ⟨i, hi⟩ := List.getElem?_of_mem ht
    obtain ⟨r, hr, e, _⟩ := H.hrec i t hi
    exact e ▸ (H.recs r hr).lt _ (by simp [Rec.foot])
  have hTB : TB w3 (W.heap.size + 2) ((s.plus W.heap.size).bg (W.heap.size + 2)) 0 := ⟨_, hB.new.tb, rfl, by rw [hbgN]; rfl, rfl⟩
  refine (add_h s.sb 9 (W.heap.size + 2) s.hv s.hl (s.plus W.heap.size).bg w3 (s.plus W.heap.size).cells 136 0 HE.own rfl HE.heap HE.ord HE.hl_ne HE.hv_ne hTB (fun h => by have := hhl _ h; omega) (fun e => by have := (H.hsl.lt _ e).2; omega) (by have := lt_of_heap H.own; omega) hlen).mono ?_
  rintro e w' ⟨h1, v', hl', H1, hp, hO, hT⟩
  have hTs : ∀ t ∈ s.hl ++ [W.heap.size + 2], ∃ x ∈ (s.plus W.heap.size).recs, x.tb = t ∧ x.cm = 0 := fun t ht => by
    rcases List.mem_append.1 ht with h | h
    · obtain ⟨i, hi⟩ := List.getElem?_of_mem h
      obtain ⟨r, hr, e, _, hc⟩ := H.hrec i t hi
      exact ⟨r, by simp [Sto.plus, hr], e, hc⟩
    · simp at h; exact ⟨_, hrn, h.symm, rfl⟩
  obtain ⟨P, HS, hK, hF⟩ := heap_step (E' := fun _ => False) HE hT (fun t ht => by obtain ⟨x, hx, e, _⟩ := hTs t ht; exact ⟨x, hx, e⟩) H1 hO (fun t ht => ⟨hp.mem_iff.1 ht, hTs t (hp.mem_iff.1 ht)⟩)
    (fun x hx hc _ => hp.mem_iff.2 (by
      rcases List.mem_append.1 hx with h | h
      · exact List.mem_append.2 (.inl (H.hact x h hc))
      · simp at h; subst h; simp [newRec]))
  have hfin := HS.st (fun _ _ _ h => h)
  have hfoot : ∀ b ∈ ((s.plus W.heap.size).heaped P (s.hl ++ [W.heap.size + 2]) v' hl').foot, b ∈ s.foot ∨ W.heap.size ≤ b := fun b hb => by
    rcases hF b hb with h | h
    · exact plus_foot W.heap.size b h
    · exact .inr (by have := hB.size; omega)
  have hk3 : Keeps (fun b => b ∈ s.foot) W w3 := hB.keeps.mono (fun b hb => .inl (by rcases hb with h | h <;> (rw [h]; simp [Sto.foot])))
  have hT0 : Turn s s w W := ⟨H, rfl, rfl, hq0.mono (fun _ h => h.elim), fun _ h => .inl h⟩
  refine ⟨h1, ⟨_, hT0.trans ⟨hfin, rfl, rfl, hk3.trans hK (fun b hb => plus_foot W.heap.size b hb), hfoot⟩, ?_⟩, ?_⟩
  · rw [heaped_abs]; simp [Sto.plus, Sto.abs, Rec.tx, newRec]
  · have := (HS.recs (placed P (s.hl ++ [W.heap.size + 2]) (newRec (s.begun + 1) s.clock W.heap.size)) (List.mem_map.2 ⟨_, hrn, rfl⟩)).cell 0
    exact this

set_option maxRecDepth 100000 in
set_option maxHeartbeats 1000000 in
theorem begin_full {w : World} {s : Sto} (H : StAt w s) (hf : s.c1 ≤ s.recs.length) :
    Calls Tryz.prog 55 #[.pointer (some ⟨s.sb, 2, none⟩)] w fun e w' => e = .returned (.tuple #[.int .i64 0, .int .i64 6]) ∧ ∃ s', Turn s s' w w' ∧ s'.abs = s.abs := by
  have HQ : Hid (∀ w2, Quiet w w2 → Turn s s w w2) := fun w2 hq => Turn.quiet H hq
  have hle : ∀ n, (Builtin.len_ #[128] 3 #[.map (some s.tm)]).run Tryz.prog (w.drewN n) = .ok (.int .i64 s.recs.length) (w.drewN n) := fun n => by
    have := (H.quiet (quiet_drewN _ n)).tm.len (P := Tryz.prog) (ty := 3) Tryz.underlying128
    simpa using this
  have hl0 := hle 0
  have hl1 := hle 1
  have c8 : w.cell? ⟨s.sb, 8, none⟩ = some (.map (some s.tm)) := H.cell 8
  have c2 : w.cell? ⟨s.sb, 2, none⟩ = some (.int .i64 s.c1) := H.cell 2
  have hf' : (s.c1 : Int) ≤ (s.recs.length : Int) := hf
  clear H
  go_enter Tryz.func55, Tryz.ntmps55
  go_wp2_with fail
  go_quiet (fail)
  go_wp2
  go_ret2
  exact ⟨rfl, _, HQ.out _ (quiet_drewN _ nq), rfl⟩

end Go.Proofs.YthfimgeopciiiaaGreat
