/-
  A store whose versions turn.
-/
import Derived.Test.YthfimgeopciiiaaGreatBeginH
namespace Go.Proofs.YthfimgeopciiiaaGreat
open Go.MapKept Go.ChangeMaps Go.Maps Go.RowKit Go.MuLone

def Sto.setV (s : Sto) (V : List VRec) : Sto := { s with vrs := V }

theorem setV_nd {s : Sto} {V : List VRec} {N : Nat} (hn : s.foot.Nodup) (hlt : ∀ b ∈ s.foot, b < N) (hnd : (V.flatMap VRec.foot).Nodup) (hsub : ∀ b ∈ V.flatMap VRec.foot, b ∈ s.vrs.flatMap VRec.foot ∨ N ≤ b) : (s.setV V).foot.Nodup := by
  have hn' := hn
  unfold Sto.foot at hn' ⊢
  simp only [Sto.setV, List.nodup_cons, List.nodup_append, List.mem_cons, List.mem_append, not_or] at hn' ⊢
  obtain ⟨⟨h1, h2, h3, h4, h5⟩, ⟨h6, h7, h8, h9⟩, ⟨h10, h11, h12⟩, h13, ⟨h14, h15, h16⟩, h17⟩ := hn'
  have hx : ∀ b ∈ s.foot, b ∉ s.vrs.flatMap VRec.foot → b ∉ V.flatMap VRec.foot := fun b hb hno hm => by
    rcases hsub b hm with h | h
    · exact hno h
    · have := hlt b hb; omega
  refine ⟨⟨h1, h2, h3, h4, hx _ (by simp [Sto.foot]) h5⟩, ⟨h6, h7, h8, hx _ (by simp [Sto.foot]) h9⟩, ⟨h10, h11, hx _ (by simp [Sto.foot]) h12⟩, h13, ⟨h14, hnd, fun a ha b hb e => ?_⟩, fun a ha b hb e => ?_⟩
  · subst e
    have hf : a ∈ s.foot := by simp only [Sto.foot, List.mem_cons, List.mem_append]; exact .inr (.inr (.inr (.inr (.inl ha))))
    exact hx a hf (fun h => h16 a ha a h rfl) hb
  · subst e
    have hf : a ∈ s.foot := by simp only [Sto.foot, List.mem_cons, List.mem_append]; exact .inr (.inr (.inr (.inl ha)))
    rcases hb with hb | hb
    · exact h17 a ha a (.inl hb) rfl
    · exact hx a hf (fun h => h17 a ha a (.inr h) rfl) hb

theorem StAt.setV {w w' : World} {s : Sto} {V : List VRec} (H : StAt w s) (hm : MapIs sk slV w' s.vm (V.map fun x => (x.k, (x.a, x.vs.length, x.cap)))) (hv : ∀ x ∈ V, VAt w' x)
    (hk : Keeps (fun b => b = s.vm ∨ b ∈ s.vrs.flatMap VRec.foot) w w') (hnd : (V.flatMap VRec.foot).Nodup) (hsub : ∀ b ∈ V.flatMap VRec.foot, b ∈ s.vrs.flatMap VRec.foot ∨ w.heap.size ≤ b) :
    Turn s (s.setV V) w w' := by
  obtain ⟨p1, p2, p3, p4, p5, p6, p7, p8⟩ := Sto.nd_parts H.nd
  have hvb : ∀ b ∈ s.vrs.flatMap VRec.foot, b ≠ s.sb ∧ b ≠ s.tm ∧ s.hv.ownBlock ≠ some b ∧ ∀ r ∈ s.recs, b ∉ r.foot := fun b hb => by
    obtain ⟨x, hx, hbx⟩ := List.mem_flatMap.1 hb
    have q := p6 x hx b (by simpa [VRec.foot] using hbx)
    exact ⟨q.1, q.2.1, q.2.2.2.1, q.2.2.2.2⟩
  have hsame : ∀ b, b < w.heap.size → b ≠ s.vm → b ∉ s.vrs.flatMap VRec.foot → w'.heap[b]? = w.heap[b]? := fun b hb h1 h2 => hk.block b hb (by rintro (h | h); exact h1 h; exact h2 h)
  refine ⟨⟨?_, ?_, ?_, ?_, H.hnd, H.hrec, H.hact, H.hlen, H.ord, hm, hv, setV_nd H.nd H.lt hnd hsub⟩, rfl, rfl, ?_, ?_⟩
  · exact (hsame s.sb (lt_of_heap H.own) p2 (fun h => (hvb _ h).1 rfl)).trans H.own
  · exact H.tm.of_block (hsame s.tm H.tm.lt p3 (fun h => (hvb _ h).2.1 rfl))
  · exact fun r hr => (H.recs r hr).of_blocks (fun b hb => hsame b ((H.recs r hr).lt b hb) (p5 r hr b hb).2.2.1 (fun h => (hvb b h).2.2.2 r hr hb))
  · exact ownsRow_of_block H.hsl (fun b hb => hsame b (H.hsl.lt b hb).2 (p4 b hb).2.2 (fun h => (hvb b h).2.2.1 hb))
  · refine hk.mono (fun b hb => .inl ?_)
    rcases hb with h | h
    · rw [h]; simp [Sto.foot]
    · simp only [Sto.foot, List.mem_cons, List.mem_append]; exact .inr (.inr (.inr (.inr (.inr h))))
  · intro b hb
    simp only [Sto.foot, Sto.setV, List.mem_cons, List.mem_append] at hb ⊢
    rcases hb with h | h | h | h | h | h
    · exact .inl (.inl h)
    · exact .inl (.inr (.inl h))
    · exact .inl (.inr (.inr (.inl h)))
    · exact .inl (.inr (.inr (.inr (.inl h))))
    · exact .inl (.inr (.inr (.inr (.inr (.inl h)))))
    · rcases hsub b h with h1 | h1
      · exact .inl (.inr (.inr (.inr (.inr (.inr h1)))))
      · exact .inr h1

/-- a key's versions, put in the place of the elder ones -/
def putV : List VRec → VRec → List VRec
  | [], y => [y]
  | x :: r, y => if x.k = y.k then y :: r else x :: putV r y

theorem putV_map : ∀ (V : List VRec) (y : VRec), (putV V y).map (fun x => (x.k, (x.a, x.vs.length, x.cap))) = put (V.map fun x => (x.k, (x.a, x.vs.length, x.cap))) y.k (y.a, y.vs.length, y.cap)
  | [], _ => rfl
  | x :: r, y => by
    by_cases e : x.k = y.k
    · simp [putV, put, e]
    · simp only [putV, put, List.map_cons, e, if_false, putV_map r y]

theorem putV_mem : ∀ {V : List VRec} {y x : VRec}, (V.map (·.k)).Nodup → x ∈ putV V y → x = y ∨ (x ∈ V ∧ x.k ≠ y.k)
  | [], y, x, _, h => by simp [putV] at h; exact .inl h
  | z :: r, y, x, hn, h => by
    simp only [List.map_cons, List.nodup_cons] at hn
    by_cases e : z.k = y.k
    · simp only [putV, e, if_true, List.mem_cons] at h
      rcases h with h | h
      · exact .inl h
      · exact .inr ⟨by simp [h], fun e' => hn.1 (List.mem_map.2 ⟨x, h, by rw [e', e]⟩)⟩
    · simp only [putV, e, if_false, List.mem_cons] at h
      rcases h with h | h
      · exact .inr ⟨by simp [h], by rw [h]; exact e⟩
      · exact (putV_mem hn.2 h).imp id (fun h => ⟨by simp [h.1], h.2⟩)

theorem putV_nd : ∀ {V : List VRec} {y : VRec}, (V.flatMap VRec.foot).Nodup → (∀ x ∈ V, x.k ≠ y.k → ∀ b ∈ x.foot, b ∉ y.foot) → (V.map (·.k)).Nodup → ((putV V y).flatMap VRec.foot).Nodup
  | [], y, _, _, _ => by
    simp only [putV, List.flatMap_cons, List.flatMap_nil, List.append_nil, VRec.foot]
    cases y.v.ownBlock <;> simp
  | z :: r, y, hn, hy, hk => by
    simp only [List.map_cons, List.nodup_cons] at hk
    rw [List.flatMap_cons, List.nodup_append] at hn
    by_cases e : z.k = y.k
    · simp only [putV, e, if_true, List.flatMap_cons]
      rw [List.nodup_append]
      refine ⟨by unfold VRec.foot; cases y.v.ownBlock <;> simp, hn.2.1, fun a ha b hb he => ?_⟩
      subst he
      obtain ⟨x, hx, hbx⟩ := List.mem_flatMap.1 hb
      exact hy x (by simp [hx]) (fun e' => hk.1 (List.mem_map.2 ⟨x, hx, by rw [e', e]⟩)) a hbx ha
    · simp only [putV, e, if_false, List.flatMap_cons]
      rw [List.nodup_append]
      refine ⟨hn.1, putV_nd hn.2.1 (fun x hx => hy x (by simp [hx])) hk.2, fun a ha b hb he => ?_⟩
      subst he
      obtain ⟨x, hx, hbx⟩ := List.mem_flatMap.1 hb
      rcases putV_mem hk.2 hx with rfl | ⟨hx', _⟩
      · exact hy z (by simp) e a ha hbx
      · exact hn.2.2 a ha a (List.mem_flatMap.2 ⟨x, hx', hbx⟩) rfl

theorem StAt.keys_nd {w : World} {s : Sto} (H : StAt w s) : (s.vrs.map (·.k)).Nodup := by
  have := H.vm.nodup
  simpa [List.map_map, Function.comp_def] using this

/-- One key's versions turn: its row is the elder one, or new. -/
theorem StAt.addV {w w' : World} {s : Sto} (H : StAt w s) (y : VRec) (hm : MapIs sk slV w' s.vm (put (s.vrs.map fun x => (x.k, (x.a, x.vs.length, x.cap))) y.k (y.a, y.vs.length, y.cap))) (hy : VAt w' y)
    (hown : ∀ b, y.v.ownBlock = some b → (∃ x ∈ s.vrs, x.k = y.k ∧ x.v.ownBlock = some b) ∨ w.heap.size ≤ b)
    (hk : Keeps (fun b => b = s.vm ∨ ∃ x ∈ s.vrs, x.k = y.k ∧ x.v.ownBlock = some b) w w') : Turn s (s.setV (putV s.vrs y)) w w' := by
  obtain ⟨p1, p2, p3, p4, p5, p6, p7, p8⟩ := Sto.nd_parts H.nd
  have hkn := H.keys_nd
  have hapart : ∀ x ∈ s.vrs, x.k ≠ y.k → ∀ b, x.v.ownBlock = some b → ¬ ∃ z ∈ s.vrs, z.k = y.k ∧ z.v.ownBlock = some b := fun x hx hne b hb ⟨z, hz, hzk, hzb⟩ => by
    have := nodup_flatMap_apart p8 hx hz (b := b) (by simp [VRec.foot, hb]) (by simp [VRec.foot, hzb])
    subst this; exact hne hzk
  refine H.setV (by rw [putV_map]; exact hm) (fun x hx => ?_) (hk.mono (fun b hb => .inl ?_)) (putV_nd p8 (fun x hx hne b hb hb' => ?_) hkn) (fun b hb => ?_)
  · rcases putV_mem hkn hx with rfl | ⟨hx', hne⟩
    · exact hy
    · refine ownsRow_of_block (H.vers x hx') (fun b hb => hk.block b (H.lt b (Sto.mem_vrec hx' hb)) ?_)
      rintro (h | h)
      · exact (p6 x hx' b hb).2.2.1 h
      · exact hapart x hx' hne b hb h
  · rcases hb with h | ⟨x, hx, _, hb⟩
    · exact .inl h
    · exact .inr (List.mem_flatMap.2 ⟨x, hx, by simp [VRec.foot, hb]⟩)
  · have hb1 : x.v.ownBlock = some b := by simpa [VRec.foot] using hb
    rcases hown b (by simpa [VRec.foot] using hb') with h | h
    · exact hapart x hx hne b hb1 h
    · have := H.lt b (Sto.mem_vrec hx hb1); omega
  · obtain ⟨x, hx, hbx⟩ := List.mem_flatMap.1 hb
    have hb1 : x.v.ownBlock = some b := by simpa [VRec.foot] using hbx
    rcases putV_mem hkn hx with rfl | ⟨hx', _⟩
    · rcases hown b hb1 with ⟨z, hz, _, hzb⟩ | h
      · exact .inl (List.mem_flatMap.2 ⟨z, hz, by simp [VRec.foot, hzb]⟩)
      · exact .inr h
    · exact .inl (List.mem_flatMap.2 ⟨x, hx', hbx⟩)

end Go.Proofs.YthfimgeopciiiaaGreat

/-
  A record that is committed: the clock, its commit.
-/
namespace Go.Proofs.YthfimgeopciiiaaGreat
open Go.MapKept Go.ChangeMaps Go.Maps Go.RowKit Go.MuLone

def setCm (t : Nat) (c : Int) (x : Rec) : Rec := if x.tb = t then { x with cm := c } else x
def Sto.committed (s : Sto) (t : Nat) (c : Int) : Sto := { s with clock := c, recs := s.recs.map (setCm t c) }

theorem setCm_tb (t : Nat) (c : Int) (x : Rec) : (setCm t c x).tb = x.tb := by unfold setCm; split <;> rfl
theorem setCm_h (t : Nat) (c : Int) (x : Rec) : (setCm t c x).h = x.h := by unfold setCm; split <;> rfl
theorem setCm_bg (t : Nat) (c : Int) (x : Rec) : (setCm t c x).bg = x.bg := by unfold setCm; split <;> rfl
theorem setCm_foot (t : Nat) (c : Int) (x : Rec) : (setCm t c x).foot = x.foot := by unfold setCm; split <;> rfl

theorem committed_foot (s : Sto) (t : Nat) (c : Int) : (s.committed t c).foot = s.foot := by
  have : (s.recs.map (setCm t c)).flatMap Rec.foot = s.recs.flatMap Rec.foot := by
    rw [List.flatMap_map]; exact flatMap_congr' (fun x _ => setCm_foot t c x)
  simp only [Sto.foot, Sto.committed, this]

theorem StAtE.committed {w : World} {s : Sto} {r : Rec} (H : StAtE w s (fun t => t = r.tb)) (hr : r ∈ s.recs) (hno : r.tb ∉ s.hl) {c : Int} (hc : c ≠ 0) :
    StAt ((w.setCell ⟨s.sb, 6, none⟩ (.int .i64 c)).setCell ⟨r.tb, 2, none⟩ (.int .i64 c)) (s.committed r.tb c) := by
  obtain ⟨p1, p2, p3, p4, p5, p6, p7, p8⟩ := Sto.nd_parts H.nd
  have hrs := p5 r hr r.tb (by simp [Rec.foot])
  have hb : ∀ b, b ≠ s.sb → b ≠ r.tb → ((w.setCell ⟨s.sb, 6, none⟩ (.int .i64 c)).setCell ⟨r.tb, 2, none⟩ (.int .i64 c)).heap[b]? = w.heap[b]? := fun b h1 h2 => (heap_setCell_other _ _ _ h2).trans (heap_setCell_other _ _ _ h1)
  have hnd2 : (s.committed r.tb c).foot.Nodup := by rw [committed_foot]; exact H.nd
  have hmem : ∀ x ∈ s.recs, setCm r.tb c x ∈ (s.committed r.tb c).recs := fun x hx => List.mem_map.2 ⟨x, hx, rfl⟩
  refine ⟨?_, ?_, ?_, ?_, H.hnd, ?_, ?_, H.hlen, ?_, ?_, ?_, hnd2⟩
  · refine (heap_setCell_other _ _ _ (Ne.symm hrs.1)).trans ?_
    show (w.setCell ⟨s.sb, 6, none⟩ (.int .i64 c)).heap[s.sb]? = _
    rw [heap_setCell_same H.own]; rfl
  · have e : ((s.committed r.tb c).recs.map fun x => (x.h, x.tb)) = s.recs.map fun x => (x.h, x.tb) := by
      simp only [Sto.committed, List.map_map]
      exact List.map_congr_left (fun x _ => by simp [setCm_h, setCm_tb])
    rw [e]
    exact H.tm.of_block (hb _ (Ne.symm p1) (Ne.symm hrs.2.1))
  · intro y hy
    obtain ⟨x, hx, rfl⟩ := List.mem_map.1 hy
    have R := H.recs x hx
    by_cases e : x.tb = r.tb
    · have := nodup_flatMap_apart p7 hx hr (b := r.tb) (by simp [Rec.foot, e]) (by simp [Rec.foot])
      subst this
      obtain ⟨n1, n2, n3⟩ := foot_nodup p7 hx
      have hw := p5 x hx x.wb (by simp [Rec.foot])
      have hd := p5 x hx x.rb (by simp [Rec.foot])
      rw [setCm, if_pos rfl]
      refine ⟨?_, R.wr.of_block (hb _ hw.1 (Ne.symm n1)), R.rd.of_block (hb _ hd.1 (Ne.symm n2))⟩
      show ((w.setCell ⟨s.sb, 6, none⟩ (.int .i64 c)).setCell ⟨x.tb, 2, none⟩ (.int .i64 c)).heap[x.tb]? = _
      rw [heap_setCell_same ((heap_setCell_other _ _ _ hrs.1).trans R.own)]; rfl
    · rw [setCm, if_neg e]
      refine R.of_blocks (fun b hb' => hb b (p5 x hx b hb').1 (fun e' => e ?_))
      rw [nodup_flatMap_apart p7 hx hr hb' (by rw [e']; simp [Rec.foot])]
  · exact ownsRow_of_block H.hsl (fun b hb' => hb b (p4 b hb').1 (fun e => by rw [e] at hb'; exact hrs.2.2.2 hb'))
  · intro i t hi
    obtain ⟨x, hx, h1, h2, h3⟩ := H.hrec i t hi
    have hne : x.tb ≠ r.tb := fun e => hno (by rw [← e, h1]; exact List.mem_of_getElem? hi)
    exact ⟨x, List.mem_map.2 ⟨x, hx, by simp [setCm, hne]⟩, h1, h2, h3⟩
  · intro y hy hcy
    obtain ⟨x, hx, rfl⟩ := List.mem_map.1 hy
    by_cases e : x.tb = r.tb
    · rw [setCm, if_pos e] at hcy; exact absurd hcy hc
    · rw [setCm, if_neg e] at hcy ⊢
      exact H.hact x hx hcy e
  · intro k k0 kn
    have hB : ∀ j, j < s.hl.length → fOf (s.committed r.tb c).bg s.hl j = fOf s.bg s.hl j := fun j hj => by
      have hj' : s.hl[j]? = some s.hl[j] := List.getElem?_eq_getElem hj
      have e : s.hl.getD j 0 = s.hl[j] := by simp [List.getD_eq_getElem?_getD, hj']
      unfold fOf
      rw [e]
      obtain ⟨x, hx, h1, _⟩ := H.hrec j _ hj'
      have := Sto.bg_eq hnd2 (hmem x hx)
      rw [setCm_tb, setCm_bg] at this
      rw [← h1, this, Sto.bg_eq H.nd hx]
    rw [show (s.committed r.tb c).hl = s.hl from rfl] at kn ⊢
    rw [hB k kn, hB _ (by omega)]
    exact H.ord k k0 kn
  · exact H.vm.of_block (hb _ (Ne.symm p2) (fun e => hrs.2.2.1 e.symm))
  · intro x hx
    refine ownsRow_of_block (H.vers x hx) (fun b hb' => ?_)
    have q := p6 x hx b hb'
    exact hb b q.1 (fun e => q.2.2.2.2 r hr (by rw [e]; simp [Rec.foot]))

end Go.Proofs.YthfimgeopciiiaaGreat
