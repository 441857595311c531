/-
  A transaction ends: it leaves the heap and the records.
-/
import Derived.Test.YthfimgeopciiiaaGreatPassW
namespace Go.Proofs.YthfimgeopciiiaaGreat
open Go.MapKept Go.ChangeMaps Go.Maps Go.RowKit

set_option maxRecDepth 100000 in
set_option maxHeartbeats 1000000 in
theorem abort_walk (w : World) (sb tm t : Nat) (h : Int) (l : List (Int × Nat)) (hw : (Lit.int .i64 h).wf = true)
    (P1 : World → Prop) (hrem : Calls Tryz.prog 151 #[.pointer (some ⟨sb, 9, none⟩), .pointer (some ⟨t, 0, none⟩)] w fun e w' => e = .returned (.tuple #[]) ∧ P1 w')
    (hP : ∀ w', P1 w' → w'.cell? ⟨sb, 8, none⟩ = some (.map (some tm)) ∧ w'.cell? ⟨t, 0, none⟩ = some (.int .i64 h) ∧ MapIs hk ptrTo w' tm l) :
    Calls Tryz.prog 92 #[.pointer (some ⟨sb, 2, none⟩), ptrTo t] w fun e w' => e = .returned (.tuple #[]) ∧ ∃ w1, P1 w1 ∧ MapIs hk ptrTo w' tm (del l h) ∧ Keeps (fun b => b = tm) w1 w' ∧ w'.heap.size = w1.heap.size := by
  have HR := hidC hrem
  have HP : Hid (∀ w', P1 w' → w'.cell? ⟨sb, 8, none⟩ = some (.map (some tm)) ∧ w'.cell? ⟨t, 0, none⟩ = some (.int .i64 h) ∧ MapIs hk ptrTo w' tm l) := hP
  clear hrem hP
  try unfold ptrTo
  go_enter Tryz.func92, Tryz.ntmps92
  go_wp2_with (go_at_call 151; refine (HR.out).mono ?_; rintro e w1 ⟨rfl, hp1⟩)
  obtain ⟨c8, c0, hm⟩ := HP.out _ hp1
  obtain ⟨o, hrun, hmap⟩ := MapIs.delete (w := w1.drew) (ty := 0) hk_good Tryz.underlying128 hm hw 3
  simp only [hk] at hrun
  go_region
  all_goals go_end0
  all_goals exact ⟨rfl, w1, hp1, hmap, (Keeps.drew w1).trans (Keeps.setBlock (S := fun b => b = tm) _ _ _ rfl) (fun _ h => .inl h), by simp [setBlock]⟩

def placed (P : Nat → Int) (T : List Nat) (x : Rec) : Rec := { x with pl := if x.tb ∈ T then P x.tb else x.pl }

theorem foot_nodup {l : List Rec} (h : (l.flatMap Rec.foot).Nodup) {x : Rec} (hx : x ∈ l) : x.tb ≠ x.wb ∧ x.tb ≠ x.rb ∧ x.wb ≠ x.rb := by
  obtain ⟨s1, s2, hs⟩ := List.append_of_mem hx
  rw [hs, List.flatMap_append, List.flatMap_cons] at h
  have h1 := (List.nodup_append.1 (List.nodup_append.1 h).2.1).1
  simp only [Rec.foot, List.nodup_cons, List.mem_cons, not_or, List.not_mem_nil, not_false_eq_true] at h1
  exact ⟨h1.1.1, h1.1.2.1, h1.2.1.1⟩

/-- What the heap's turn leaves of the records: their places alone have turned. -/
theorem turn_recs {w w1 : World} {recs : List Rec} {qb qo : Nat} {v v' : Value} {T : List Nat} (hR : ∀ x ∈ recs, RecAt w x) (hnd : (recs.flatMap Rec.foot).Nodup) (hT : HeapTurn qb qo v v' T w w1)
    (hTs : ∀ t ∈ T, ∃ x ∈ recs, x.tb = t) (hq : ∀ x ∈ recs, ∀ b ∈ x.foot, b ≠ qb ∧ v.ownBlock ≠ some b) : ∃ P : Nat → Int, ∀ x ∈ recs, RecAt w1 (placed P T x) := by
  have hex : ∀ t : Nat, ∃ p : Int, t ∈ T → ∀ x ∈ recs, x.tb = t → w1.heap[t]? = some (.cells (x.cells.setIfInBounds 7 (.int .i64 p)) 174) := by
    intro t
    by_cases ht : t ∈ T
    · obtain ⟨x, hx, rfl⟩ := hTs t ht
      obtain ⟨p, hp⟩ := hT.recs x.tb ht x.cells x.pl (hR x hx).own rfl
      refine ⟨p, fun _ y hy hye => ?_⟩
      have := nodup_flatMap_apart hnd hy hx (b := x.tb) (by simp [Rec.foot, hye]) (by simp [Rec.foot])
      subst this; exact hp
    · exact ⟨0, fun h => absurd h ht⟩
  obtain ⟨P, hP⟩ := Classical.axiomOfChoice hex
  refine ⟨P, fun x hx => ?_⟩
  obtain ⟨n1, n2, n3⟩ := foot_nodup hnd hx
  have hno : ∀ b ∈ x.foot, b ≠ x.tb → w1.heap[b]? = w.heap[b]? := fun b hb hne => by
    refine hT.keeps.block b ((hR x hx).lt b hb) (fun hS => ?_)
    rcases hS with h | h | h
    · exact (hq x hx b hb).2 h
    · obtain ⟨y, hy, hye⟩ := hTs b h
      have := nodup_flatMap_apart hnd hx hy (b := b) hb (by simp [Rec.foot, hye])
      subst this; exact hne hye.symm
    · exact (hq x hx b hb).1 h
  refine ⟨?_, (hR x hx).wr.of_block (hno _ (by simp [Rec.foot]) (Ne.symm n1)), (hR x hx).rd.of_block (hno _ (by simp [Rec.foot]) (Ne.symm n2))⟩
  by_cases ht : x.tb ∈ T
  · have := hP x.tb ht x hx rfl
    show w1.heap[x.tb]? = _
    rw [this]
    simp [placed, ht, Rec.cells]
  · show w1.heap[x.tb]? = _
    have hS : ¬ (v.ownBlock = some x.tb ∨ x.tb ∈ T ∨ x.tb = qb) := by
      rintro (h | h | h)
      · exact (hq x hx x.tb (by simp [Rec.foot])).2 h
      · exact ht h
      · exact (hq x hx x.tb (by simp [Rec.foot])).1 h
    rw [hT.keeps.block x.tb ((hR x hx).lt _ (by simp [Rec.foot])) hS, (hR x hx).own]
    simp [placed, ht, Rec.cells]

end Go.Proofs.YthfimgeopciiiaaGreat

/-
  abort: the record is gone, the others are as they were.
-/
namespace Go.Proofs.YthfimgeopciiiaaGreat
open Go.MapKept Go.ChangeMaps Go.Maps Go.RowKit

/-- A transaction as the document has it. -/
structure Tx where
  h : Int
  bg : Int
  cm : Int
  wr : List (ByteArray × Cont)
  rd : List (Ent × Unit)
  i : Bool
  o : Bool

def Rec.tx (r : Rec) : Tx := ⟨r.h, r.bg, r.cm, r.wr, r.rd, r.i, r.o⟩

structure Abs where
  c1 : Int
  c2 : Int
  c3 : Int
  c4 : Int
  clock : Int
  begun : Int
  txs : List Tx
  vers : List (ByteArray × List Ver)

def Sto.abs (s : Sto) : Abs := ⟨s.c1, s.c2, s.c3, s.c4, s.clock, s.begun, s.recs.map Rec.tx, s.vrs.map fun x => (x.k, x.vs)⟩

/-- What a call leaves of a store. -/
structure Turn (s s' : Sto) (w w' : World) : Prop where
  at_ : StAt w' s'
  sb : s'.sb = s.sb
  mu : s'.mu = s.mu
  keeps : Keeps (fun b => b ∈ s.foot) w w'
  foot : ∀ b ∈ s'.foot, b ∈ s.foot ∨ w.heap.size ≤ b

theorem StAt.lock {w : World} {s : Sto} (H : StAt w s) (m : Int) : StAt (w.setCell ⟨s.sb, 0, none⟩ (.int .i32 m)) { s with mu := m } := by
  obtain ⟨p1, p2, p3, p4, p5, p6, p7, p8⟩ := Sto.nd_parts H.nd
  have hb : ∀ b, b ≠ s.sb → (w.setCell ⟨s.sb, 0, none⟩ (.int .i32 m)).heap[b]? = w.heap[b]? := fun b h => heap_setCell_other _ _ _ h
  exact ⟨heap_setCell_same H.own, H.tm.of_block (hb _ (Ne.symm p1)), fun r hr => (H.recs r hr).of_blocks (fun b hb' => hb b (p5 r hr b hb').1), ownsRow_of_block H.hsl (fun b hb' => hb b (p4 b hb').1),
    H.hnd, H.hrec, H.hact, H.hlen, H.ord, H.vm.of_block (hb _ (Ne.symm p2)), fun x hx => ownsRow_of_block (H.vers x hx) (fun b hb' => hb b (p6 x hx b hb').1), H.nd⟩

theorem Turn.refl {w : World} {s : Sto} (H : StAt w s) : Turn s s w w := ⟨H, rfl, rfl, Keeps.refl _ _, fun _ h => .inl h⟩

theorem Turn.quiet {w w' : World} {s : Sto} (H : StAt w s) (k : Quiet w w') : Turn s s w w' := ⟨H.quiet k, rfl, rfl, k.mono (fun _ h => h.elim), fun _ h => .inl h⟩

theorem Turn.trans {s s' s'' : Sto} {a b c : World} (h : Turn s s' a b) (k : Turn s' s'' b c) : Turn s s'' a c :=
  ⟨k.at_, k.sb.trans h.sb, k.mu.trans h.mu, h.keeps.trans k.keeps (fun x hx => h.foot x hx), fun x hx => by
    rcases k.foot x hx with h1 | h1
    · exact h.foot x h1
    · exact .inr (Nat.le_trans h.keeps.size h1)⟩

theorem StAt.h_nodup {w : World} {s : Sto} (H : StAt w s) : (s.recs.map (·.h)).Nodup := by
  have := H.tm.nodup
  simpa [List.map_map, Function.comp_def] using this

theorem nodup_map_inj {α β : Type} {f : α → β} : ∀ {l : List α}, (l.map f).Nodup → ∀ {x y : α}, x ∈ l → y ∈ l → f x = f y → x = y
  | [], _, _, _, hx, _, _ => by simp at hx
  | a :: l, h, x, y, hx, hy, e => by
    simp only [List.map_cons, List.nodup_cons] at h
    rcases List.mem_cons.1 hx with rfl | hx'
    · rcases List.mem_cons.1 hy with rfl | hy'
      · rfl
      · exact absurd (List.mem_map.2 ⟨y, hy', e.symm⟩) h.1
    · rcases List.mem_cons.1 hy with rfl | hy'
      · exact absurd (List.mem_map.2 ⟨x, hx', e⟩) h.1
      · exact nodup_map_inj h.2 hx' hy' e

theorem del_recs {w : World} {s : Sto} (H : StAt w s) {r : Rec} (hr : r ∈ s.recs) : del (s.recs.map fun x => (x.h, x.tb)) r.h = (s.recs.filter fun x => decide (x.tb ≠ r.tb)).map fun x => (x.h, x.tb) := by
  unfold del
  rw [List.filter_map]
  congr 1
  refine List.filter_congr (fun x hx => ?_)
  simp only [Function.comp]
  rw [decide_eq_decide]
  constructor
  · intro h e; exact h (by rw [rec_tb_inj H.nd hx hr e])
  · intro h e; exact h (by rw [nodup_map_inj H.h_nodup hx hr e])

theorem sublist_flatMap {α : Type} {f : α → List Nat} : ∀ {l l' : List α}, l'.Sublist l → (l'.flatMap f).Sublist (l.flatMap f)
  | _, _, .slnil => List.Sublist.refl _
  | _, _, .cons a h => by rw [List.flatMap_cons]; exact (sublist_flatMap h).trans (List.sublist_append_right _ _)
  | _, _, .cons_cons a h => by rw [List.flatMap_cons, List.flatMap_cons]; exact (List.Sublist.refl _).append (sublist_flatMap h)

theorem placed_foot (P : Nat → Int) (T : List Nat) (l : List Rec) : (l.map (placed P T)).flatMap Rec.foot = l.flatMap Rec.foot := by
  rw [List.flatMap_map]; rfl

theorem nd_mk {s s' : Sto} (h : s.foot.Nodup) (N : Nat) (hlt : ∀ b ∈ s.foot, b < N) (e1 : s'.sb = s.sb) (e2 : s'.tm = s.tm) (e3 : s'.vm = s.vm) (e4 : s'.vrs = s.vrs)
    (hv : s'.hv.ownBlock = s.hv.ownBlock ∨ ∃ g, s'.hv.ownBlock = some g ∧ N ≤ g) (hrec : (s'.recs.flatMap Rec.foot).Nodup) (hsub : ∀ b ∈ s'.recs.flatMap Rec.foot, b ∈ s.recs.flatMap Rec.foot ∨ N ≤ b)
    (hvr : ∀ g, s'.hv.ownBlock = some g → g ∉ s'.recs.flatMap Rec.foot) : s'.foot.Nodup := by
  obtain ⟨p1, p2, p3, p4, p5, p6, p7, p8⟩ := Sto.nd_parts h
  have l1 := hlt s.sb (by simp [Sto.foot])
  have l2 := hlt s.tm (by simp [Sto.foot])
  have l3 := hlt s.vm (by simp [Sto.foot])
  have hvb : ∀ g, s'.hv.ownBlock = some g → g ≠ s.sb ∧ g ≠ s.tm ∧ g ≠ s.vm := fun g hg => by
    rcases hv with h1 | ⟨g', h1, h2⟩
    · exact p4 g (h1 ▸ hg)
    · rw [h1] at hg; cases hg; exact ⟨by omega, by omega, by omega⟩
  have hrb : ∀ b ∈ s'.recs.flatMap Rec.foot, b ≠ s.sb ∧ b ≠ s.tm ∧ b ≠ s.vm := fun b hb => by
    rcases hsub b hb with h1 | h1
    · obtain ⟨x, hx, hbx⟩ := List.mem_flatMap.1 h1
      have := p5 x hx b hbx; exact ⟨this.1, this.2.1, this.2.2.1⟩
    · exact ⟨by omega, by omega, by omega⟩
  have hxb : ∀ b ∈ s.vrs.flatMap VRec.foot, b ≠ s.sb ∧ b ≠ s.tm ∧ b ≠ s.vm ∧ s'.hv.ownBlock ≠ some b ∧ b ∉ s'.recs.flatMap Rec.foot := fun b hb => by
    obtain ⟨x, hx, hbx⟩ := List.mem_flatMap.1 hb
    have hbx' : x.v.ownBlock = some b := by simpa [VRec.foot] using hbx
    have q := p6 x hx b hbx'
    have hbl := hlt b (Sto.mem_vrec hx hbx')
    refine ⟨q.1, q.2.1, q.2.2.1, fun hg => ?_, fun hm => ?_⟩
    · rcases hv with h1 | ⟨g', h1, h2⟩
      · exact q.2.2.2.1 (h1 ▸ hg)
      · rw [h1] at hg; cases hg; omega
    · rcases hsub b hm with h1 | h1
      · obtain ⟨y, hy, hby⟩ := List.mem_flatMap.1 h1
        exact q.2.2.2.2 y hy hby
      · omega
  unfold Sto.foot
  rw [e1, e2, e3, e4]
  simp only [List.nodup_cons, List.nodup_append, List.mem_cons, List.mem_append, Option.mem_toList, not_or]
  refine ⟨⟨p1, p2, fun hg => (hvb _ hg).1 rfl, fun hm => (hrb _ hm).1 rfl, fun hm => (hxb _ hm).1 rfl⟩, ⟨p3, fun hg => (hvb _ hg).2.1 rfl, fun hm => (hrb _ hm).2.1 rfl, fun hm => (hxb _ hm).2.1 rfl⟩,
    ⟨fun hg => (hvb _ hg).2.2 rfl, fun hm => (hrb _ hm).2.2 rfl, fun hm => (hxb _ hm).2.2.1 rfl⟩, ?_, ⟨hrec, p8, fun a ha b hb e => (hxb b hb).2.2.2.2 (e ▸ ha)⟩, ?_⟩
  · cases s'.hv.ownBlock <;> simp
  · intro a ha b hb e
    subst e
    rcases hb with hb | hb
    · exact hvr a ha hb
    · exact (hxb a hb).2.2.2.1 ha

theorem foot_mk {s s' : Sto} (N : Nat) (e1 : s'.sb = s.sb) (e2 : s'.tm = s.tm) (e3 : s'.vm = s.vm) (e4 : s'.vrs = s.vrs)
    (hv : s'.hv.ownBlock = s.hv.ownBlock ∨ ∃ g, s'.hv.ownBlock = some g ∧ N ≤ g) (hsub : ∀ b ∈ s'.recs.flatMap Rec.foot, b ∈ s.recs.flatMap Rec.foot ∨ N ≤ b) : ∀ b ∈ s'.foot, b ∈ s.foot ∨ N ≤ b := by
  intro b hb
  unfold Sto.foot at hb ⊢
  rw [e1, e2, e3, e4] at hb
  simp only [List.mem_cons, List.mem_append, Option.mem_toList] at hb ⊢
  rcases hb with h | h | h | h | h | h
  · exact .inl (.inl h)
  · exact .inl (.inr (.inl h))
  · exact .inl (.inr (.inr (.inl h)))
  · rcases hv with h1 | ⟨g, h1, h2⟩
    · exact .inl (.inr (.inr (.inr (.inl (h1 ▸ h)))))
    · rw [h1] at h; cases h; exact .inr h2
  · rcases hsub b h with h1 | h1
    · exact .inl (.inr (.inr (.inr (.inr (.inl h1)))))
    · exact .inr h1
  · exact .inl (.inr (.inr (.inr (.inr (.inr h)))))

set_option maxHeartbeats 1000000 in
theorem abort_h {w : World} {s : Sto} (H : StAt w s) {r : Rec} (hr : r ∈ s.recs) (hc : r.cm = 0) (hwf : (Lit.int .i64 r.h).wf = true) :
    Calls Tryz.prog 92 #[.pointer (some ⟨s.sb, 2, none⟩), ptrTo r.tb] w fun e w' => e = .returned (.tuple #[]) ∧ ∃ s', Turn s s' w w' ∧ s'.abs = { s.abs with txs := (s.recs.filter fun x => decide (x.tb ≠ r.tb)).map Rec.tx } := by
  obtain ⟨i, hi⟩ := List.getElem?_of_mem (H.hact r hr hc)
  obtain ⟨p1, p2, p3, p4, p5, p6, p7, p8⟩ := Sto.nd_parts H.nd
  have hrem := remove_h s.sb 9 r.tb i s.hv s.hl s.bg w s.cells 136 H.own rfl H.heap H.ord H.hl_ne H.hv_ne hi
  refine (abort_walk w s.sb s.tm r.tb r.h (s.recs.map fun x => (x.h, x.tb)) hwf (fun w1 => ∃ v' hl', HeapIs w1 v' hl' s.bg ∧ s.hl.Perm (r.tb :: hl') ∧ Ord (fOf s.bg hl') hl'.length ∧ HeapTurn s.sb 9 s.hv v' s.hl w w1) hrem ?_).mono ?_
  · rintro w1 ⟨v', hl', H1, hp1, hO1, hT1⟩
    have hno : ∀ b, b < w.heap.size → s.hv.ownBlock ≠ some b → b ∉ s.hl → b ≠ s.sb → w1.heap[b]? = w.heap[b]? := fun b hb h1 h2 h3 => hT1.keeps.block b hb (by rintro (h | h | h); exact h1 h; exact h2 h; exact h3 h)
    have htm : s.tm ∉ s.hl := fun hm => by
      obtain ⟨j, hj⟩ := List.getElem?_of_mem hm
      obtain ⟨x, hx, e, _⟩ := H.hrec j _ hj
      exact (p5 x hx x.tb (by simp [Rec.foot])).2.1 e
    refine ⟨?_, ?_, ?_⟩
    · rw [cell_of_heap (hT1.own _ _ H.own)]; rfl
    · obtain ⟨p, hp⟩ := hT1.recs r.tb (H.hact r hr hc) r.cells r.pl (H.recs r hr).own rfl
      rw [cell_of_heap hp]; rfl
    · exact H.tm.of_block (hno s.tm H.tm.lt (fun e => (p4 _ e).2.1 rfl) htm (Ne.symm p1))
  · rintro e w' ⟨rfl, w1, ⟨v', hl', H1, hp1, hO1, hT1⟩, hmap, hk, hsz⟩
    refine ⟨rfl, ?_⟩
    have hTs : ∀ t ∈ s.hl, ∃ x ∈ s.recs, x.tb = t := fun t ht => by
      obtain ⟨j, hj⟩ := List.getElem?_of_mem ht
      obtain ⟨x, hx, e, _⟩ := H.hrec j _ hj
      exact ⟨x, hx, e⟩
    obtain ⟨P, hP⟩ := turn_recs H.recs p7 hT1 hTs (fun x hx b hb => ⟨(p5 x hx b hb).1, (p5 x hx b hb).2.2.2⟩)
    rw [del_recs H hr] at hmap
    have hmem' : ∀ t, t ∈ hl' → t ∈ s.hl := fun t ht => hp1.mem_iff.2 (by simp [ht])
    have hnd' : (r.tb :: hl').Nodup := hp1.nodup_iff.1 H.hnd
    have hbgs : ∀ x ∈ s.recs, s.bg x.tb = x.bg := fun x hx => Sto.bg_eq H.nd hx
    -- the store behind it
    have hkw : Keeps (fun b => b ∈ s.foot) w w' := by
      refine (hT1.keeps.mono (fun b hb => .inl ?_)).trans (hk.mono (S' := fun b => b ∈ s.foot) (fun b hb => .inl (by rw [hb]; simp [Sto.foot]))) (fun _ h => .inl h)
      rcases hb with h | h | h
      · exact Sto.mem_hv h
      · obtain ⟨x, hx, e⟩ := hTs b h; exact e ▸ Sto.mem_rec hx (by simp [Rec.foot])
      · rw [h]; simp [Sto.foot]
    have hvl : v'.ownBlock = s.hv.ownBlock ∨ ∃ g, v'.ownBlock = some g ∧ w.heap.size ≤ g := hT1.lies.imp id (fun ⟨g, h1, h2, _⟩ => ⟨g, h1, h2⟩)
    have hR' : ∀ x ∈ s.recs, RecAt w' (placed P s.hl x) := fun x hx => (hP x hx).of_blocks (fun b hb => hk.block b ((hP x hx).lt b hb) (p5 x hx b hb).2.1)
    obtain ⟨s', hs'⟩ : ∃ s' : Sto, s' = { s with hv := v', hl := hl', recs := (s.recs.filter fun x => decide (x.tb ≠ r.tb)).map (placed P s.hl) } := ⟨_, rfl⟩
    have hrecs : s'.recs = (s.recs.filter fun x => decide (x.tb ≠ r.tb)).map (placed P s.hl) := by rw [hs']
    have hfs : ∀ b ∈ s'.recs.flatMap Rec.foot, b ∈ s.recs.flatMap Rec.foot := fun b hb => by
      rw [hrecs, placed_foot] at hb
      exact (sublist_flatMap List.filter_sublist).mem hb
    have hmem : ∀ y ∈ s'.recs, ∃ x ∈ s.recs, x.tb ≠ r.tb ∧ y = placed P s.hl x := fun y hy => by
      rw [hrecs] at hy
      obtain ⟨x, hx, rfl⟩ := List.mem_map.1 hy
      exact ⟨x, (List.mem_filter.1 hx).1, by simpa using (List.mem_filter.1 hx).2, rfl⟩
    have hmem2 : ∀ x ∈ s.recs, x.tb ≠ r.tb → placed P s.hl x ∈ s'.recs := fun x hx hne => by
      rw [hrecs]; exact List.mem_map.2 ⟨x, List.mem_filter.2 ⟨hx, by simpa using hne⟩, rfl⟩
    have hnd2 : s'.foot.Nodup := nd_mk H.nd w.heap.size H.lt (by rw [hs']) (by rw [hs']) (by rw [hs']) (by rw [hs']) (by rw [hs']; exact hvl)
      (by rw [hrecs, placed_foot]; exact p7.sublist (sublist_flatMap List.filter_sublist)) (fun b hb => .inl (hfs b hb))
      (fun g hg hm => by
        rw [hs'] at hg
        rcases hvl with h1 | ⟨g', h1, h2⟩
        · obtain ⟨x, hx, hbx⟩ := List.mem_flatMap.1 (hfs g hm)
          exact (p5 x hx g hbx).2.2.2 (h1 ▸ hg)
        · rw [h1] at hg; cases hg
          obtain ⟨x, hx, hbx⟩ := List.mem_flatMap.1 (hfs _ hm)
          have := (H.recs x hx).lt _ hbx; omega)
    have hbg2 : ∀ t ∈ hl', s'.bg t = s.bg t := fun t ht => by
      obtain ⟨x, hx, rfl⟩ := hTs t (hmem' t ht)
      have hne : x.tb ≠ r.tb := fun e => by rw [e] at ht; exact (List.nodup_cons.1 hnd').1 ht
      have := Sto.bg_eq hnd2 (hmem2 x hx hne)
      rw [show (placed P s.hl x).tb = x.tb from rfl] at this
      rw [this, hbgs x hx]; rfl
    refine ⟨s', ⟨?_, by rw [hs'], by rw [hs'], hkw, foot_mk w.heap.size (by rw [hs']) (by rw [hs']) (by rw [hs']) (by rw [hs']) (by rw [hs']; exact hvl) (fun b hb => .inl (hfs b hb))⟩, by rw [hs']; simp only [Sto.abs, List.map_map]; rfl⟩
    have hsame : ∀ b, b < w.heap.size → b ≠ s.sb → b ≠ s.tm → s.hv.ownBlock ≠ some b → (∀ x ∈ s.recs, b ∉ x.foot) → w'.heap[b]? = w.heap[b]? := fun b hb h1 h2 h3 h4 => by
      rw [hk.block b (Nat.lt_of_lt_of_le hb hT1.keeps.size) h2]
      refine hT1.keeps.block b hb ?_
      rintro (h | h | h)
      · exact h3 h
      · obtain ⟨x, hx, e⟩ := hTs b h; exact h4 x hx (by rw [← e]; simp [Rec.foot])
      · exact h1 h
    refine ⟨?_, ?_, ?_, ?_, ?_, ?_, ?_, ?_, ?_, ?_, ?_, hnd2⟩
    · rw [hs']
      show w'.heap[s.sb]? = _
      rw [hk.block s.sb (Nat.lt_of_lt_of_le (lt_of_heap H.own) hT1.keeps.size) p1, hT1.own _ _ H.own]
      rfl
    · rw [hrecs, List.map_map, hs']
      exact hmap
    · intro y hy
      obtain ⟨x, hx, _, rfl⟩ := hmem y hy
      exact hR' x hx
    · rw [hs']
      refine ownsRow_of_block H1.sl (fun b hb => hk.block b (H1.sl.lt b hb).2 (fun e => ?_))
      rcases hvl with h1 | ⟨g', h1, h2⟩
      · exact (p4 b (h1 ▸ hb)).2.1 e
      · rw [h1] at hb; cases hb
        have := H.tm.lt; omega
    · rw [hs']; exact H1.nd
    · intro j t hj
      rw [hs'] at hj
      have htm' := List.mem_of_getElem? hj
      obtain ⟨k', hk'⟩ := List.getElem?_of_mem (hmem' t htm')
      obtain ⟨x, hx, rfl, _, hcx⟩ := H.hrec k' t hk'
      have hne : x.tb ≠ r.tb := fun e => by rw [e] at htm'; exact (List.nodup_cons.1 hnd').1 htm'
      refine ⟨placed P s.hl x, hmem2 x hx hne, rfl, ?_, hcx⟩
      obtain ⟨cs, q1, q2, q3, q4⟩ := H1.tb j x.tb hj
      have q5 := (hP x hx).own
      rw [show (placed P s.hl x).tb = x.tb from rfl] at q5
      rw [q5] at q1; cases q1
      simpa [Rec.cells] using q4
    · intro y hy hcy
      obtain ⟨x, hx, hne, rfl⟩ := hmem y hy
      rw [hs']
      have := hp1.mem_iff.1 (H.hact x hx hcy)
      rcases List.mem_cons.1 this with h | h
      · exact absurd h hne
      · exact h
    · rw [hs']; exact H1.len
    · rw [show s'.hl = hl' by rw [hs']]
      intro k k0 kn
      have hB : ∀ j, j < hl'.length → fOf s'.bg hl' j = fOf s.bg hl' j := fun j hj => by
        have hj' : hl'[j]? = some hl'[j] := List.getElem?_eq_getElem hj
        have e : hl'.getD j 0 = hl'[j] := by simp [List.getD_eq_getElem?_getD, hj']
        unfold fOf
        rw [e]
        exact hbg2 _ (List.mem_of_getElem? hj')
      rw [hB k kn, hB _ (by omega)]
      exact hO1 k k0 kn
    · rw [hs']
      exact H.vm.of_block (hsame s.vm H.vm.lt (Ne.symm p2) (Ne.symm p3) (fun e => (p4 _ e).2.2 rfl) (fun x hx hm => (p5 x hx _ hm).2.2.1 rfl))
    · intro x hx
      rw [hs'] at hx
      refine ownsRow_of_block (H.vers x hx) (fun b hb => ?_)
      have q := p6 x hx b hb
      exact hsame b (H.lt b (Sto.mem_vrec (s := s) hx hb)) q.1 q.2.1 q.2.2.2.1 q.2.2.2.2

/-- a struct result's cell, behind what was done -/
theorem newBlock_kept {w w' : World} {o : Obj} (h : Quiet (w.alloc o) w') : w'.heap[w.heap.size]? = some o := (h.block _ (by simp) (by simp)).trans (heap_alloc_new w o)

theorem set3 {w : World} {b : Nat} {x0 x1 x2 : Value} {t : TypeId} (h : w.heap[b]? = some (.cells #[x0, x1, x2] t)) (v0 v1 v2 : Value) :
    (((w.setCell ⟨b, 0, none⟩ v0).setCell ⟨b, 1, none⟩ v1).setCell ⟨b, 2, none⟩ v2).heap[b]? = some (.cells #[v0, v1, v2] t) := by
  rw [heap_setCell_same (heap_setCell_same (heap_setCell_same h))]; rfl

theorem set2 {w : World} {b : Nat} {x0 x1 : Value} {t : TypeId} (h : w.heap[b]? = some (.cells #[x0, x1] t)) (v0 v1 : Value) :
    ((w.setCell ⟨b, 0, none⟩ v0).setCell ⟨b, 1, none⟩ v1).heap[b]? = some (.cells #[v0, v1] t) := by
  rw [heap_setCell_same (heap_setCell_same h)]; rfl

theorem quiet_set3 {w w1 : World} {b : Nat} (h : Quiet w w1) (hb : w.heap.size ≤ b) (v0 v1 v2 : Value) : Quiet w (((w1.setCell ⟨b, 0, none⟩ v0).setCell ⟨b, 1, none⟩ v1).setCell ⟨b, 2, none⟩ v2) :=
  Quiet.of_new (Quiet.of_new (Quiet.of_new h (Keeps.setCell (S := fun c => c = b) _ _ _ rfl) (by simpa using hb)) (Keeps.setCell (S := fun c => c = b) _ _ _ rfl) (by simpa using hb)) (Keeps.setCell (S := fun c => c = b) _ _ _ rfl) (by simpa using hb)

theorem quiet_set2 {w w1 : World} {b : Nat} (h : Quiet w w1) (hb : w.heap.size ≤ b) (v0 v1 : Value) : Quiet w ((w1.setCell ⟨b, 0, none⟩ v0).setCell ⟨b, 1, none⟩ v1) :=
  Quiet.of_new (Quiet.of_new h (Keeps.setCell (S := fun c => c = b) _ _ _ rfl) (by simpa using hb)) (Keeps.setCell (S := fun c => c = b) _ _ _ rfl) (by simpa using hb)

theorem MapIs.nil {α β : Type} (K : Kind α) (vf : β → Value) {w : World} {b : Nat} (h : w.heap[b]? = some (.map #[] 0)) : MapIs K vf w b [] :=
  ⟨#[], 0, h, by simp [Stamped], rfl, by simp⟩

theorem ownsRow_low {w : World} {base base' : Nat} {e : TypeId} {size : Nat} {v : Value} {n : Nat} {xs : List Value} (h : w.ownsRow base e size v n xs) (hb : base' ≤ base) : w.ownsRow base' e size v n xs := by
  refine ⟨h.1, ?_⟩
  rcases h.2 with hn | ⟨g, cap, cur, h1, h2, rest⟩
  · exact .inl hn
  · exact .inr ⟨g, cap, cur, h1, Nat.le_trans hb h2, rest⟩

end Go.Proofs.YthfimgeopciiiaaGreat
