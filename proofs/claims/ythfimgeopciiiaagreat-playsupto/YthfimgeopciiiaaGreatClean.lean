/-
  slices.Clone of versions.
-/
import Derived.Test.YthfimgeopciiiaaGreatForget
import Derived.Maps.AppendAt
import Derived.Test.YthfimgeopciiiaaGreatPubW
namespace Go.Proofs.YthfimgeopciiiaaGreat
open Go.MapKept Go.ChangeMaps Go.Maps Go.RowKit Go.MuLone

theorem info_verC : (Tryz.prog.info? 233).map (fun i => (i.zero, i.size, i.bytes)) = some (some (.agg #[.int .i64 0, .string ⟨#[]⟩, .bool false]), 3, 32) := by kernel_rfl

theorem verCells_one : ∀ (vs : List Ver), ∀ u ∈ vs.flatMap verCells, u.oneCell' = true := fun vs u hu => by
  obtain ⟨x, _, hx⟩ := List.mem_flatMap.1 hu
  simp only [verCells, List.mem_cons, List.not_mem_nil, or_false] at hx
  rcases hx with rfl | rfl | rfl <;> rfl

theorem verCells_length (vs : List Ver) : (vs.flatMap verCells).length = vs.length * 3 := by
  induction vs with
  | nil => rfl
  | cons x r ih => simp [List.flatMap_cons, ih, verCells]; omega

set_option maxRecDepth 100000 in
set_option maxHeartbeats 1000000 in
theorem cloneV_h (w : World) (g off cap : Nat) (vs : List Ver) (hb : vs.length ≤ 1000) (hg : g < w.heap.size) (hc : ∀ j u, (vs.flatMap verCells)[j]? = some u → w.cell? ⟨g, off + j, none⟩ = some u) :
    Calls Tryz.prog 146 #[.slice (some ⟨g, off, none⟩) vs.length cap] w fun e w' => ∃ v', e = .returned v' ∧ w'.ownsRow w.heap.size 233 3 v' vs.length (vs.flatMap verCells) ∧ Quiet w w' := by
  obtain ⟨i0, hi0, hz0, hz1, hz2⟩ := info_parts info_verC
  have hown0 : (w.alloc (.cells #[] 233)).ownsRow w.heap.size 233 3 (.slice (some ⟨w.heap.size, 0, none⟩) 0 0) 0 [] := ⟨rfl, .inr ⟨w.heap.size, 0, #[], rfl, Nat.le_refl _, heap_alloc_new w _, Nat.le_refl _, Nat.zero_le _, rfl, rfl⟩⟩
  have hnews : Hid (∀ j u, (vs.flatMap verCells)[j]? = some u → (w.alloc (.cells #[] 233)).cell? ((⟨g, off, none⟩ : Addr).add j) = some u) := fun j u hj => by
    have : (⟨g, off, none⟩ : Addr).add j = ⟨g, off + j, none⟩ := by cases j <;> simp [Addr.add]
    rw [this, World.cell?_alloc_lt _ _ _ hg]
    exact hc j u hj
  have hneq : ∀ W, (binOp .eql 224 (.slice (some ⟨g, off, none⟩) vs.length cap) (.slice none 0 0)).run Tryz.prog W = .ok (.bool false) W := fun W => by kernel_rfl
  clear hc
  go_enter Tryz.func146, Tryz.ntmps146
  go_wp2_with (first
    | (at_builtin; refine wpList_append_own_at _ rfl _ _ 224 rfl w.heap.size 233 i0 (.agg #[.int .i64 0, .string ⟨#[]⟩, .bool false]) 3 32 Tryz.underlying224 hi0 hz0 hz1 hz2 rfl (by decide) _ _ _ rfl hown0 ⟨g, off, none⟩ vs.length cap (vs.flatMap verCells) rfl (verCells_length vs) hnews.out (verCells_one vs) ?_ ?_ ?_ ?_)
    | go_in)
  · unfold maxLen; omega
  · omega
  · simp
  intro v' w4 hown4 hgrow hnil hloc
  have hq : Quiet w w4 := Quiet.of_new (Keeps.alloc _ _) (keeps_of_grown hgrow) (fun b hb => by simp [Value.ownBlock] at hb; omega)
  have hown5 : w4.ownsRow w.heap.size 233 3 v' vs.length (vs.flatMap verCells) := by simpa using hown4
  clear hown4 hnil hloc hgrow hown0 hnews
  go_wp2
  go_ret
  exact ⟨v', rfl, hown5, hq⟩

end Go.Proofs.YthfimgeopciiiaaGreat

/-
  dropVersions: a new map of what is still seen.
-/
namespace Go.Proofs.YthfimgeopciiiaaGreat
open Go.MapKept Go.ChangeMaps Go.Maps Go.RowKit Go.MuLone

theorem ownsRow_low' {w : World} {base base' : Nat} {e : TypeId} {size : Nat} {v : Value} {n : Nat} {xs : List Value} (h : w.ownsRow base e size v n xs) (hb : base' ≤ base) : w.ownsRow base' e size v n xs := by
  refine ⟨h.1, ?_⟩
  rcases h.2 with hn | ⟨g, cap, cur, h1, h2, rest⟩
  · exact .inl hn
  · exact .inr ⟨g, cap, cur, h1, Nat.le_trans hb h2, rest⟩

/-- what is left of a key's versions -/
def dropL (m : Int) (vs : List Ver) : List Ver := vs.drop (firstF m vs 0 0)
def dropA (m : Int) (p : ByteArray × List Ver) : Option (ByteArray × List Ver) := if dropL m p.2 = [] then none else some (p.1, dropL m p.2)

def VRec.pr (x : VRec) : ByteArray × (Option Addr × Nat × Nat) := (x.k, (x.a, x.vs.length, x.cap))
def VRec.kv (x : VRec) : ByteArray × List Ver := (x.k, x.vs)

/-- those that were met -/
def metV (L : List VRec) (left : List (ByteArray × (Option Addr × Nat × Nat))) : List VRec := L.filter fun x => !(left.any fun p => decide (p.1 = x.k))

theorem any_key (left : List (ByteArray × (Option Addr × Nat × Nat))) (k : ByteArray) : (left.any fun p => decide (p.1 = k)) = true ↔ k ∈ left.map (·.1) := by
  simp only [List.any_eq_true, decide_eq_true_eq, List.mem_map]

theorem mem_metV {L : List VRec} {left : List (ByteArray × (Option Addr × Nat × Nat))} {z : VRec} : z ∈ metV L left ↔ z ∈ L ∧ z.k ∉ left.map (·.1) := by
  unfold metV
  rw [List.mem_filter, Bool.not_eq_true', ← Bool.not_eq_true, any_key]

theorem metV_all (L : List VRec) : metV L (L.map VRec.pr) = [] := by
  refine List.eq_nil_iff_forall_not_mem.2 (fun x hx => ?_)
  obtain ⟨h1, h2⟩ := mem_metV.1 hx
  exact h2 (by rw [List.map_map]; exact List.mem_map.2 ⟨x, h1, rfl⟩)

theorem metV_nil (L : List VRec) : metV L [] = L := List.filter_eq_self.2 (fun x _ => by simp)

theorem nodup_of_map {α β : Type} {f : α → β} : ∀ {l : List α}, (l.map f).Nodup → l.Nodup
  | [], _ => List.nodup_nil
  | a :: l, h => by
    simp only [List.map_cons, List.nodup_cons] at h ⊢
    exact ⟨fun hm => h.1 (List.mem_map.2 ⟨a, hm, rfl⟩), nodup_of_map h.2⟩

theorem metV_step {L : List VRec} (hn : (L.map (·.k)).Nodup) {left left' : List (ByteArray × (Option Addr × Nat × Nat))} {x : VRec} (hx : x ∈ L) {y : Option Addr × Nat × Nat} (hp : left.Perm ((x.k, y) :: left')) (hnl : (left.map (·.1)).Nodup) : (metV L left').Perm (x :: metV L left) := by
  have hL := nodup_of_map hn
  have h2 := (hp.map (·.1)).nodup_iff.1 hnl
  simp only [List.map_cons, List.nodup_cons] at h2
  have hmem : ∀ k, k ∈ left.map (·.1) ↔ k = x.k ∨ k ∈ left'.map (·.1) := fun k => by rw [(hp.map (·.1)).mem_iff]; simp
  have hxn : x ∉ metV L left := fun h => (mem_metV.1 h).2 ((hmem _).2 (.inl rfl))
  refine (List.perm_ext_iff_of_nodup (hL.sublist List.filter_sublist) (List.nodup_cons.2 ⟨hxn, hL.sublist List.filter_sublist⟩)).2 (fun z => ?_)
  rw [show (z ∈ List.filter (fun x => !left'.any fun p => decide (p.1 = x.k)) L) = (z ∈ metV L left') from rfl, List.mem_cons, mem_metV, mem_metV, hmem, not_or]
  constructor
  · rintro ⟨h1, h3⟩
    by_cases e : z.k = x.k
    · exact .inl (nodup_map_inj hn h1 hx e)
    · exact .inr ⟨h1, e, h3⟩
  · rintro (rfl | ⟨h1, h3, h4⟩)
    · exact ⟨hx, h2.1⟩
    · exact ⟨h1, h4⟩

theorem putV_new : ∀ {V : List VRec} {y : VRec}, y.k ∉ V.map (·.k) → putV V y = V ++ [y]
  | [], _, _ => rfl
  | x :: r, y, h => by
    have h1 : x.k ≠ y.k := fun e => h (by simp [e])
    simp only [putV, h1, if_false, List.cons_append]
    rw [putV_new (fun hm => h (by simp at hm ⊢; exact .inr hm))]

/-- what holds at the head of dropVersions' loop -/
structure DropI (s : Sto) (m : Int) (w : World) (N : Nat) (wr : World) (left : List (ByteArray × (Option Addr × Nat × Nat))) (V : List VRec) : Prop where
  quiet : Quiet w wr
  map : MapIs sk slV wr N (V.map VRec.pr)
  vers : ∀ x ∈ V, wr.ownsRow (N + 2) 233 3 x.v x.vs.length (x.vs.flatMap verCells)
  nd : (V.flatMap VRec.foot).Nodup
  nl : (left.map (·.1)).Nodup
  kvs : (V.map VRec.kv).Perm (((metV s.vrs left).map VRec.kv).filterMap (dropA m))

theorem DropI.keys {s : Sto} {m : Int} {w wr : World} {N : Nat} {left : List (ByteArray × (Option Addr × Nat × Nat))} {V : List VRec} (I : DropI s m w N wr left V) {k : ByteArray} (hk : k ∈ left.map (·.1)) : k ∉ V.map (·.k) := fun hm => by
  obtain ⟨x, hx, rfl⟩ := List.mem_map.1 hm
  have h1 := I.kvs.mem_iff.1 (List.mem_map.2 ⟨x, hx, rfl⟩)
  obtain ⟨p, hp, hpe⟩ := List.mem_filterMap.1 h1
  obtain ⟨z, hz, rfl⟩ := List.mem_map.1 hp
  have hzk : z.k = x.k := by
    unfold dropA at hpe
    split at hpe
    · cases hpe
    · have := Option.some.inj hpe
      exact congrArg Prod.fst this
  have := (mem_metV.1 hz).2
  rw [hzk] at this
  exact this hk

/-- a key whose versions are gone -/
theorem DropI.skip {s : Sto} {m : Int} {w wr w' : World} {N : Nat} {left left' : List (ByteArray × (Option Addr × Nat × Nat))} {V : List VRec} (I : DropI s m w N wr left V) (hn : (s.vrs.map (·.k)).Nodup) {x : VRec} (hx : x ∈ s.vrs) {y : Option Addr × Nat × Nat} (hp : left.Perm ((x.k, y) :: left'))
    (h0 : dropL m x.vs = []) (hk : Keeps (fun b => b = N + 1) wr w') (hN : w.heap.size ≤ N) : DropI s m w N w' left' V := by
  have h2 := (hp.map (·.1)).nodup_iff.1 I.nl
  simp only [List.map_cons, List.nodup_cons] at h2
  refine ⟨Quiet.of_new I.quiet hk (fun b hb => by omega), I.map.of_block (hk.block N I.map.lt (by omega)), fun z hz => ownsRow_of_block (I.vers z hz) (fun b hb => hk.block b ((I.vers z hz).lt b hb).2 (by have := ((I.vers z hz).lt b hb).1; omega)), I.nd, h2.2, I.kvs.trans ?_⟩
  have := ((metV_step hn hx hp I.nl).map VRec.kv).filterMap (dropA m)
  refine List.Perm.trans ?_ this.symm
  have hd : dropA m x.kv = none := if_pos h0
  rw [List.map_cons, List.filterMap_cons_none hd]

/-- a key whose versions are kept -/
theorem DropI.keep {s : Sto} {m : Int} {w wr w' : World} {N : Nat} {left left' : List (ByteArray × (Option Addr × Nat × Nat))} {V : List VRec} (I : DropI s m w N wr left V) (hn : (s.vrs.map (·.k)).Nodup) {x : VRec} (hx : x ∈ s.vrs) {y : Option Addr × Nat × Nat} (hp : left.Perm ((x.k, y) :: left'))
    (h0 : dropL m x.vs ≠ []) (hN : w.heap.size ≤ N) (z : VRec) (hzk : z.k = x.k) (hzv : z.vs = dropL m x.vs) (wb : Nat) (hwb : wr.heap.size ≤ wb) (hNr : N + 2 ≤ wr.heap.size) (hz : w'.ownsRow wb 233 3 z.v z.vs.length (z.vs.flatMap verCells))
    (hm : MapIs sk slV w' N (put (V.map VRec.pr) z.k (z.a, z.vs.length, z.cap))) (hk : Keeps (fun b => b = N + 1 ∨ b = N) wr w') : DropI s m w N w' left' (V ++ [z]) := by
  have h2 := (hp.map (·.1)).nodup_iff.1 I.nl
  simp only [List.map_cons, List.nodup_cons] at h2
  have hkl : x.k ∈ left.map (·.1) := (hp.map (·.1)).mem_iff.2 (by simp)
  have hzn : z.k ∉ V.map (·.k) := by rw [hzk]; exact I.keys hkl
  refine ⟨Quiet.of_new I.quiet hk (fun b hb => by omega), ?_, fun u hu => ?_, ?_, h2.2, ?_⟩
  · have e : (V ++ [z]).map VRec.pr = put (V.map VRec.pr) z.k (z.a, z.vs.length, z.cap) := by
      rw [← putV_new hzn]; exact putV_map V z
    rw [e]; exact hm
  · rcases List.mem_append.1 hu with h | h
    · exact ownsRow_of_block (I.vers u h) (fun b hb => hk.block b ((I.vers u h).lt b hb).2 (by have := ((I.vers u h).lt b hb).1; omega))
    · simp at h; subst h
      exact ownsRow_low' hz (by omega)
  · rw [List.flatMap_append, List.nodup_append]
    refine ⟨I.nd, ?_, fun a ha b hb e => ?_⟩
    · simp only [List.flatMap_cons, List.flatMap_nil, List.append_nil, VRec.foot]
      cases z.v.ownBlock <;> simp
    · subst e
      obtain ⟨u, hu, hau⟩ := List.mem_flatMap.1 ha
      have h3 := ((I.vers u hu).lt a (by simpa [VRec.foot] using hau)).2
      simp only [List.flatMap_cons, List.flatMap_nil, List.append_nil] at hb
      have h4 := (hz.lt a (by simpa [VRec.foot] using hb)).1
      omega
  · have h5 := ((metV_step hn hx hp I.nl).map VRec.kv).filterMap (dropA m)
    have hd : dropA m x.kv = some (x.k, dropL m x.vs) := if_neg h0
    rw [List.map_cons, List.filterMap_cons_some hd] at h5
    refine List.Perm.trans ?_ h5.symm
    rw [List.map_append]
    refine List.perm_append_comm.trans ?_
    have e1 : z.kv = (x.k, dropL m x.vs) := by simp [VRec.kv, hzk, hzv]
    simp only [List.map_cons, List.map_nil, List.cons_append, List.nil_append, e1]
    exact I.kvs.cons _

end Go.Proofs.YthfimgeopciiiaaGreat

/-
  dropVersions: the walk.
-/
namespace Go.Proofs.YthfimgeopciiiaaGreat
open Go.MapKept Go.ChangeMaps Go.Maps Go.RowKit Go.MuLone

/-- a key's versions as a slice -/
theorem vat_cases {w : World} {x : VRec} (h : VAt w x) : (x.a = none ∧ x.vs = [] ∧ x.cap = 0) ∨ ∃ g, x.a = some ⟨g, 0, none⟩ ∧ g < w.heap.size ∧ x.vs.length ≤ x.cap ∧ x.cap ≤ maxLen ∧ ∀ j u, (x.vs.flatMap verCells)[j]? = some u → w.cell? ⟨g, j, none⟩ = some u := by
  rcases h.2 with ⟨e, h0⟩ | ⟨g, cap, cur, e, _, hg, h1, h2, h3, h4⟩
  · simp only [VRec.v, Value.slice.injEq] at e
    exact .inl ⟨e.1, List.eq_nil_of_length_eq_zero h0, e.2.2⟩
  · simp only [VRec.v, Value.slice.injEq] at e
    obtain ⟨e1, -, e3⟩ := e
    refine .inr ⟨g, e1, lt_of_heap hg, by rw [e3]; exact h1, by rw [e3]; exact h2, fun j u hj => ?_⟩
    rw [cell_of_heap hg]
    have hl := (List.getElem?_eq_some_iff.1 hj).1
    rw [verCells_length] at hl
    rw [← h4, List.getElem?_take, if_pos hl] at hj
    simpa using hj

theorem drop_cells (vs : List Ver) (f : Nat) : (vs.drop f).flatMap verCells = (vs.flatMap verCells).drop (f * 3) := by
  induction f generalizing vs with
  | zero => simp
  | succ n ih =>
    cases vs with
    | nil => simp
    | cons x r =>
      rw [List.drop_succ_cons, ih, List.flatMap_cons, show (n + 1) * 3 = 3 + n * 3 by omega, ← List.drop_drop]
      rfl

set_option maxRecDepth 100000 in
set_option maxHeartbeats 4000000 in
theorem dropVersions_walk (w : World) (s : Sto) (H : StAt w s) (m : Int) (hb : ∀ x ∈ s.vrs, x.vs.length ≤ 1000) :
    Calls Tryz.prog 89 #[.pointer (some ⟨s.sb, 2, none⟩), .int .i64 m] w fun e w' => e = .returned (.tuple #[]) ∧ ∃ wr V, DropI s m w w.heap.size wr [] V ∧ w.heap.size + 2 ≤ wr.heap.size ∧ w' = wr.setCell ⟨s.sb, 10, none⟩ (.map (some w.heap.size)) := by
  have hkn := H.keys_nd
  have hqA : Quiet w (w.alloc (.map #[] 0)) := Keeps.alloc _ _
  have HA := H.quiet hqA
  have c10 := HA.cell 10
  have d10 := H.cell 10
  simp [Sto.cells] at c10 d10
  have hmap : MapIs sk slV (w.alloc (.map #[] 0)) s.vm (s.vrs.map VRec.pr) := HA.vm
  have hnew : MapIs sk slV (w.alloc (.map #[] 0)) w.heap.size ([] : List (ByteArray × (Option Addr × Nat × Nat))) := MapIs.nil _ _ (heap_alloc_new w _)
  have hsbl : s.sb < w.heap.size := H.lt s.sb (by simp [Sto.foot])
  have hvl := H.vm.lt
  have hsn : s.sb ≠ w.heap.size := by omega
  have hszA : (w.alloc (.map #[] 0)).heap.size = w.heap.size + 1 := by simp
  have hmm : ∀ t w, (Instr.makeMap t none).run Tryz.prog w = .ok (.map (some w.heap.size)) (w.alloc (.map #[] 0)) := fun _ _ => rfl
  have HX : Hid (StAt w s) := H
  have HM : Hid (∀ p ∈ s.vrs.map VRec.pr, ∃ x ∈ s.vrs, x.pr = p) := fun p hp => List.mem_map.1 hp
  have hown := H.own
  have HB : Hid (∀ x ∈ s.vrs, x.vs.length ≤ 1000) := hb
  clear H HA hb
  go_enter Tryz.func89, Tryz.ntmps89
  go_wp2_with (first
    | (at_range; refine wpList_range_is _ rfl _ 132 rfl 9 224 Tryz.underlying132 s.vm _ rfl hmap ?_; intro w0 hrg0 hk0 hs0)
    | go_in)
  rw [hszA] at hrg0 hs0 ⊢
  have I0 : DropI s m w w.heap.size w0 (s.vrs.map VRec.pr) [] := ⟨Quiet.trans' hqA hk0, hnew.of_block (hk0.block _ (by simp) (by simp)), fun x hx => by simp at hx, by simp, hmap.nodup, by rw [metV_all]; exact List.Perm.refl _⟩
  clear hqA hmap hnew hk0 c10
  generalize hml : s.vrs.map VRec.pr = ml at *
  go_frame
  go_loopw [] (fun wr => ∃ left V, RangeIs sk slV wr s.vm (w.heap.size + 1) ml left ∧ Hid (DropI s m w w.heap.size wr left V) ∧ w.heap.size + 2 ≤ wr.heap.size)
    (fun wr => wr.rangeLeft s.vm (w.heap.size + 1))
  case atStart => exact ⟨_, [], hrg0, I0, by omega⟩
  case round =>
    obtain ⟨left, V, hrg, HI, hsz⟩ := hrel
    clear hrg0 I0 hs0
    go_wp2_with (first
      | (at_next; refine wpList_next_is _ rfl _ rfl s.vm (w.heap.size + 1) ml left rfl hrg ?_ ?_)
      | go_in)
    · refine ⟨fun h0 => ?_⟩
      subst h0
      have hq := HI.out.quiet
      have hownr : wr.heap[s.sb]? = some (.cells s.cells 136) := (hq.block _ hsbl (by simp)).trans hown
      have r10 := cell_of_heap (i := 10) hownr
      have f10 := frozen_of_heap (i := 10) hownr
      simp [Sto.cells] at r10
      go_wp2
      go_end0
      exact ⟨rfl, wr, V, HI.out, hsz, rfl⟩
    · refine ⟨?_⟩
      rintro ⟨k⟩ ⟨⟨a, n, cap⟩⟩ left' wn hperm hmem hrgn hkn' hsn' hent
      simp only [sk, slV] at hent ⊢
      obtain ⟨x, hx, hxe⟩ := HM.out _ hmem
      simp only [VRec.pr, Prod.mk.injEq] at hxe
      obtain ⟨rfl, rfl, rfl, rfl⟩ := hxe
      have hqn : Quiet w wn := Quiet.of_new HI.out.quiet hkn' (fun b hb => by omega)
      have hvx : VAt wn x := (HX.out.quiet hqn).vers x hx
      have hbx := HB.out x hx
      have hlen := hperm.length_eq
      have hkok : x.k.size ≤ maxLen := hrg.map.oks _ hmem
      have HF : Hid (Calls Tryz.prog 145 #[.slice x.a x.vs.length x.cap, .int .i64 m] wn fun e w' => e = .returned (.int .i64 (firstF m x.vs 0 0 : Nat)) ∧ Quiet wn w') := firstSeen_h wn x hvx m hbx
      have hfl : firstF m x.vs 0 0 ≤ x.vs.length := by have := firstF_le m x.vs 0 0 (Nat.le_refl _); omega
      have hszn : Hid (wn.heap.size = wr.heap.size) := hsn'
      clear hsn'
      rcases vat_cases hvx with ⟨ha, hv0, hc0⟩ | ⟨g, ha, hg, hlc, hcm, hcell⟩
      · have hf0 : firstF m x.vs 0 0 = 0 := by rw [hv0]; rfl
        have hd0 : dropL m x.vs = [] := by unfold dropL; rw [hv0]; simp
        rw [Hid, hf0] at HF
        rw [ha, hv0, hc0] at hent HF ⊢
        have HF2 : Hid (Calls Tryz.prog 145 #[.slice none 0 0, .int .i64 m] wn fun e w' => e = .returned (.int .i64 0) ∧ Quiet wn w') := HF
        simp only [List.length_nil] at hent ⊢
        clear HF
        go_wp2_with (go_at_call 145; refine (HF2.out).mono ?_; rintro e w2 ⟨rfl, hq2⟩)
        have hk2 : Keeps (fun b => b = w.heap.size + 1) wr w2 := hkn'.trans hq2 (fun _ h => h.elim)
        have I2 := HI.out.skip hkn hx hperm hd0 hk2 (Nat.le_refl _)
        have hrg2 := hrgn.kept hq2 (by simp) (by simp)
        exact ⟨⟨left', V, hrg2, I2, Nat.le_trans hsz hk2.size⟩, by rw [hrg2.left_eq, hrg.left_eq, hlen]; simp⟩
      · generalize hfd : firstF m x.vs 0 0 = f at *
        have hdl : dropL m x.vs = x.vs.drop f := by unfold dropL; rw [hfd]
        have HF2 : Hid (Calls Tryz.prog 145 #[.slice (some ⟨g, 0, none⟩) x.vs.length x.cap, .int .i64 m] wn fun e w' => e = .returned (.int .i64 (f : Nat)) ∧ Quiet wn w') := by rw [Hid, ha] at HF; exact HF
        have HC : Hid (∀ w2, Quiet wn w2 → Calls Tryz.prog 146 #[.slice (some ⟨g, f * 3, none⟩) (x.vs.length - f) (x.cap - f)] w2 fun e w' => ∃ (v' : Value) (z : VRec), e = .returned v' ∧ z.v = v' ∧ z.k = x.k ∧ z.vs = dropL m x.vs ∧ w'.ownsRow w2.heap.size 233 3 z.v z.vs.length (z.vs.flatMap verCells) ∧ Quiet w2 w' ∧
            ∀ V', MapIs sk slV w' w.heap.size V' → ∃ o, (Instr.mapUpdate 132 (.map (some w.heap.size)) (.string x.k) v').run Tryz.prog w' = .ok () (setBlock w' w.heap.size o) ∧ MapIs sk slV (setBlock w' w.heap.size o) w.heap.size (put V' z.k (z.a, z.vs.length, z.cap))) := fun w2 hq => by
          have hcl := cloneV_h w2 g (f * 3) (x.cap - f) (x.vs.drop f) (by simp; omega) (Nat.lt_of_lt_of_le hg hq.size) (fun j u hj => by
            rw [drop_cells, List.getElem?_drop] at hj
            rw [hq.cell hg (by simp)]
            exact hcell _ u hj)
          rw [List.length_drop] at hcl
          refine hcl.mono ?_
          rintro e w' ⟨v', rfl, hown', hq'⟩
          obtain ⟨z, hzk, hzv, hzs⟩ : ∃ z : VRec, z.k = x.k ∧ z.vs = dropL m x.vs ∧ z.v = v' := by
            rcases hown'.2 with ⟨e, h0⟩ | ⟨g', cap', cur, e, _⟩
            · exact ⟨⟨x.k, none, 0, dropL m x.vs⟩, rfl, rfl, by simp [VRec.v, e, hdl, h0]⟩
            · exact ⟨⟨x.k, some ⟨g', 0, none⟩, cap', dropL m x.vs⟩, rfl, rfl, by simp [VRec.v, e, hdl]⟩
          refine ⟨v', z, rfl, hzs, hzk, hzv, ?_, hq', fun V' hV' => ?_⟩
          · rw [hzs, hzv, hdl, List.length_drop]; exact hown'
          · obtain ⟨o, h1, h2⟩ := hV'.update sk_good Tryz.underlying132 (x := x.k) hkok (z.a, z.vs.length, z.cap)
            have hsl : slV (z.a, z.vs.length, z.cap) = v' := by rw [← hzs]; rfl
            rw [hsl] at h1
            exact ⟨o, h1, by rw [hzk]; exact h2⟩
        rw [ha] at hent ⊢
        clear HF hcell hcm
        go_wp2_with (first
          | (go_at_call 145; refine (HF2.out).mono ?_; rintro e w2 ⟨rfl, hq2⟩)
          | (go_at_call 146; refine (HC.out _ hq2).mono ?_; rintro e w3 ⟨v', z, rfl, hzs, hzk, hzv, hown3, hq3, hup⟩; obtain ⟨o, hrun, hmap3⟩ := hup _ (HI.out.map.of_block ((hkn'.trans (Quiet.trans' hq2 hq3) (fun _ h => h.elim)).block _ HI.out.map.lt (by omega))); clear hup))
        · have hk3 : Keeps (fun b => b = w.heap.size + 1) wr w3 := (hkn'.trans hq2 (fun _ h => h.elim)).trans hq3 (fun _ h => h.elim)
          have hk4 : Keeps (fun b => b = w.heap.size + 1 ∨ b = w.heap.size) wr (setBlock w3 w.heap.size o) := (hk3.mono (fun _ h => .inl (.inl h))).trans (Keeps.setBlock (S := fun b => b = w.heap.size + 1 ∨ b = w.heap.size) w3 w.heap.size o (.inr rfl)) (fun _ h => .inl h)
          have hne0 : dropL m x.vs ≠ [] := fun e => by
            rw [hdl] at e
            have := congrArg List.length e
            simp at this; omega
          have hw2 : wr.heap.size ≤ w2.heap.size := (hkn'.trans hq2 (fun _ h => h.elim)).size
          have I2 := HI.out.keep hkn hx hperm hne0 (Nat.le_refl _) z hzk hzv w2.heap.size hw2 hsz (ownsRow_of_block hown3 (fun b hb => heap_setBlock_ne _ _ _ (by have := (hown3.lt b hb).1; omega))) hmap3 hk4
          have hrg2 := ((hrgn.kept hq2 (by simp) (by simp)).kept hq3 (by simp) (by simp)).kept (Keeps.setBlock (S := fun b => b = w.heap.size) w3 w.heap.size o rfl) (by omega) (by omega)
          exact ⟨⟨left', V ++ [z], hrg2, I2, Nat.le_trans hsz hk4.size⟩, by rw [hrg2.left_eq, hrg.left_eq, hlen]; simp⟩
        · have hk2 : Keeps (fun b => b = w.heap.size + 1) wr w2 := hkn'.trans hq2 (fun _ h => h.elim)
          have hd0 : dropL m x.vs = [] := by rw [hdl]; exact List.drop_eq_nil_of_le (by omega)
          have I2 := HI.out.skip hkn hx hperm hd0 hk2 (Nat.le_refl _)
          have hrg2 := hrgn.kept hq2 (by simp) (by simp)
          exact ⟨⟨left', V, hrg2, I2, Nat.le_trans hsz hk2.size⟩, by rw [hrg2.left_eq, hrg.left_eq, hlen]; simp⟩

end Go.Proofs.YthfimgeopciiiaaGreat

/-
  dropVersions, whole; cleanup.
-/
namespace Go.Proofs.YthfimgeopciiiaaGreat
open Go.MapKept Go.ChangeMaps Go.Maps Go.RowKit Go.MuLone

def Sto.dropped (s : Sto) (N : Nat) (V : List VRec) : Sto := { s with vm := N, vrs := V }

theorem dropVersions_h {w : World} {s : Sto} (H : StAt w s) (m : Int) (hb : ∀ x ∈ s.vrs, x.vs.length ≤ 1000) :
    Calls Tryz.prog 89 #[.pointer (some ⟨s.sb, 2, none⟩), .int .i64 m] w fun e w' => e = .returned (.tuple #[]) ∧
      ∃ s', Turn s s' w w' ∧ ∃ V, V.Perm (s.abs.vers.filterMap (dropA m)) ∧ s'.abs = { s.abs with vers := V } := by
  refine (dropVersions_walk w s H m hb).mono ?_
  rintro e w' ⟨rfl, wr, V, I, hsz, rfl⟩
  obtain ⟨p1, p2, p3, p4, p5, p6, p7, p8⟩ := Sto.nd_parts H.nd
  have hq := I.quiet
  have Hr := H.quiet hq
  have hsl := lt_of_heap Hr.own
  have hsbw : s.sb < w.heap.size := lt_of_heap H.own
  have hVb : ∀ b ∈ V.flatMap VRec.foot, w.heap.size + 2 ≤ b ∧ b < wr.heap.size := fun b hbm => by
    obtain ⟨x, hx, hbx⟩ := List.mem_flatMap.1 hbm
    exact (I.vers x hx).lt b (by simpa [VRec.foot] using hbx)
  have hsame : ∀ b, b ≠ s.sb → (wr.setCell ⟨s.sb, 10, none⟩ (.map (some w.heap.size))).heap[b]? = wr.heap[b]? := fun b hne => heap_setCell_other _ _ _ hne
  have hold : ∀ b ∈ s.foot, b < w.heap.size := H.lt
  have hnd2 : (s.dropped w.heap.size V).foot.Nodup := by
    have hn := H.nd
    unfold Sto.foot at hn ⊢
    simp only [Sto.dropped, List.nodup_cons, List.nodup_append, List.mem_cons, List.mem_append, not_or] at hn ⊢
    obtain ⟨⟨h1, h2, h3, h4, h5⟩, ⟨h6, h7, h8, h9⟩, ⟨h10, h11, h12⟩, h13, ⟨h14, h15, h16⟩, h17⟩ := hn
    have hlt : ∀ b, b ∈ s.hv.ownBlock.toList ∨ b ∈ s.recs.flatMap Rec.foot → b < w.heap.size := fun b hb' => by
      refine hold b ?_
      simp only [Sto.foot, List.mem_cons, List.mem_append]
      rcases hb' with h | h
      · exact .inr (.inr (.inr (.inl h)))
      · exact .inr (.inr (.inr (.inr (.inl h))))
    have hsb' : s.sb ∉ V.flatMap VRec.foot := fun h => by have := (hVb _ h).1; omega
    have htm' : s.tm ∉ V.flatMap VRec.foot := fun h => by have := (hVb _ h).1; have := H.tm.lt; omega
    refine ⟨⟨h1, fun e => by omega, h3, h4, hsb'⟩, ⟨fun e => by have := H.tm.lt; omega, h7, h8, htm'⟩, ⟨fun h => by have := hlt _ (.inl h); omega, fun h => by have := hlt _ (.inr h); omega, fun h => by have := (hVb _ h).1; omega⟩, h13, ⟨h14, I.nd, fun a ha b hb' e => ?_⟩, fun a ha b hb' e => ?_⟩
    · subst e; have := hlt a (.inr ha); have := (hVb a hb').1; omega
    · subst e
      rcases hb' with h | h
      · exact h17 a ha a (.inl h) rfl
      · have := hlt a (.inl ha); have := (hVb a h).1; omega
  have hR : ∀ r ∈ s.recs, ∀ b ∈ r.foot, (wr.setCell ⟨s.sb, 10, none⟩ (.map (some w.heap.size))).heap[b]? = wr.heap[b]? := fun r hr b hb' => hsame b (p5 r hr b hb').1
  refine ⟨rfl, s.dropped w.heap.size V, ⟨⟨?_, ?_, ?_, ?_, H.hnd, H.hrec, H.hact, H.hlen, H.ord, ?_, ?_, hnd2⟩, rfl, rfl, ?_, ?_⟩, V.map VRec.kv, ?_, rfl⟩
  · show (wr.setCell ⟨s.sb, 10, none⟩ (.map (some w.heap.size))).heap[s.sb]? = _
    rw [heap_setCell_same Hr.own]; rfl
  · exact Hr.tm.of_block (hsame _ (Ne.symm p1))
  · exact fun r hr => (Hr.recs r hr).of_blocks (hR r hr)
  · exact ownsRow_of_block Hr.hsl (fun b hb' => hsame b (p4 b hb').1)
  · exact I.map.of_block (hsame _ (by omega))
  · intro x hx
    exact ownsRow_low' (ownsRow_of_block (I.vers x hx) (fun b hb' => hsame b (by have := ((I.vers x hx).lt b hb').1; omega))) (Nat.zero_le _)
  · exact (hq.mono (fun _ h => h.elim)).trans (Keeps.setCell (S := fun b => b ∈ s.foot) wr ⟨s.sb, 10, none⟩ _ (by simp [Sto.foot])) (fun _ h => .inl h)
  · intro b hb'
    simp only [Sto.foot, Sto.dropped, List.mem_cons, List.mem_append] at hb' ⊢
    rcases hb' with h | h | h | h | h | h
    · exact .inl (.inl h)
    · exact .inl (.inr (.inl h))
    · exact .inr (by omega)
    · exact .inl (.inr (.inr (.inr (.inl h))))
    · exact .inl (.inr (.inr (.inr (.inr (.inl h)))))
    · have := (hVb b h).1; exact .inr (by omega)
  · have := I.kvs
    rw [metV_nil] at this
    exact this

set_option maxRecDepth 100000 in
set_option maxHeartbeats 1000000 in
theorem cleanup_h {w : World} {s : Sto} (H : StAt w s) (hb : ∀ x ∈ s.vrs, x.vs.length ≤ 1000) :
    Calls Tryz.prog 51 #[.pointer (some ⟨s.sb, 2, none⟩)] w fun e w' => e = .returned (.tuple #[]) ∧
      ∃ s', Turn s s' w w' ∧ ∃ V, V.Perm (s.abs.vers.filterMap (dropA s.mark)) ∧ s'.abs = { s.abs with txs := (s.recs.filter fun r => !r.old s.mark).map Rec.tx, vers := V } := by
  have HM := hidC (mark_h H)
  have HF := hidC (forgetRecords_h H s.mark)
  have HD : Hid (∀ w2, Turn s { s with recs := s.recs.filter fun r => !r.old s.mark } w w2 → Calls Tryz.prog 89 #[.pointer (some ⟨s.sb, 2, none⟩), .int .i64 s.mark] w2 fun e w' => e = .returned (.tuple #[]) ∧
      ∃ s', Turn s s' w w' ∧ ∃ V, V.Perm (s.abs.vers.filterMap (dropA s.mark)) ∧ s'.abs = { s.abs with txs := (s.recs.filter fun r => !r.old s.mark).map Rec.tx, vers := V }) := fun w2 h2 =>
    (dropVersions_h h2.at_ s.mark hb).mono fun e w' ⟨h3, s', h4, V, h5, h6⟩ => ⟨h3, s', h2.trans h4, V, h5, h6⟩
  clear H
  generalize s.mark = mk at *
  go_enter Tryz.func51, Tryz.ntmps51
  go_wp2_with (first
    | (go_at_call 87; refine (HM.out).mono ?_; rintro e w1 ⟨rfl, rfl⟩)
    | (go_at_call 88; refine (HF.out).mono ?_; rintro e w2 ⟨rfl, ht2⟩)
    | (go_at_call 89; refine (HD.out _ ht2).mono ?_; rintro e w3 ⟨rfl, hR3⟩))
  go_end0
  exact ⟨rfl, hR3⟩

end Go.Proofs.YthfimgeopciiiaaGreat
