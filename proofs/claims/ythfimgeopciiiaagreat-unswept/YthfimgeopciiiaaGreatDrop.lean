/-
  dropVersions: a new map of what is still seen.
-/
import Derived.Test.YthfimgeopciiiaaGreatCloneV
import Derived.Test.YthfimgeopciiiaaGreatPubW
namespace Go.Proofs.YthfimgeopciiiaaGreat
open Go.MapKept Go.ChangeMaps Go.Maps Go.RowKit Go.MuLone

theorem ownsRow_low' {w : World} {base base' : Nat} {e : TypeId} {size : Nat} {v : Value} {n : Nat} {xs : List Value} (h : w.ownsRow base e size v n xs) (hb : base' ≤ base) : w.ownsRow base' e size v n xs := by
  refine ⟨h.1, ?_⟩
  rcases h.2 with hn | ⟨g, cap, cur, h1, h2, rest⟩
  · exact .inl hn
  · exact .inr ⟨g, cap, cur, h1, Nat.le_trans hb h2, rest⟩

/-- what is left of a key's versions -/
def dropL (m : Int) (vs : List Ver) : List Ver := vs.drop (firstF m vs 0 0)
def dropA (m : Int) (p : ByteArray × List Ver) : Option (ByteArray × List Ver) := if dropL m p.2 = [] then none else some (p.1, dropL m p.2)

def VRec.pr (x : VRec) : ByteArray × (Option Addr × Nat × Nat) := (x.k, (x.a, x.vs.length, x.cap))
def VRec.kv (x : VRec) : ByteArray × List Ver := (x.k, x.vs)

/-- those that were met -/
def metV (L : List VRec) (left : List (ByteArray × (Option Addr × Nat × Nat))) : List VRec := L.filter fun x => !(left.any fun p => decide (p.1 = x.k))

theorem any_key (left : List (ByteArray × (Option Addr × Nat × Nat))) (k : ByteArray) : (left.any fun p => decide (p.1 = k)) = true ↔ k ∈ left.map (·.1) := by
  simp only [List.any_eq_true, decide_eq_true_eq, List.mem_map]

theorem mem_metV {L : List VRec} {left : List (ByteArray × (Option Addr × Nat × Nat))} {z : VRec} : z ∈ metV L left ↔ z ∈ L ∧ z.k ∉ left.map (·.1) := by
  unfold metV
  rw [List.mem_filter, Bool.not_eq_true', ← Bool.not_eq_true, any_key]

theorem metV_all (L : List VRec) : metV L (L.map VRec.pr) = [] := by
  refine List.eq_nil_iff_forall_not_mem.2 (fun x hx => ?_)
  obtain ⟨h1, h2⟩ := mem_metV.1 hx
  exact h2 (by rw [List.map_map]; exact List.mem_map.2 ⟨x, h1, rfl⟩)

theorem metV_nil (L : List VRec) : metV L [] = L := List.filter_eq_self.2 (fun x _ => by simp)

theorem nodup_of_map {α β : Type} {f : α → β} : ∀ {l : List α}, (l.map f).Nodup → l.Nodup
  | [], _ => List.nodup_nil
  | a :: l, h => by
    simp only [List.map_cons, List.nodup_cons] at h ⊢
    exact ⟨fun hm => h.1 (List.mem_map.2 ⟨a, hm, rfl⟩), nodup_of_map h.2⟩

theorem metV_step {L : List VRec} (hn : (L.map (·.k)).Nodup) {left left' : List (ByteArray × (Option Addr × Nat × Nat))} {x : VRec} (hx : x ∈ L) {y : Option Addr × Nat × Nat} (hp : left.Perm ((x.k, y) :: left')) (hnl : (left.map (·.1)).Nodup) : (metV L left').Perm (x :: metV L left) := by
  have hL := nodup_of_map hn
  have h2 := (hp.map (·.1)).nodup_iff.1 hnl
  simp only [List.map_cons, List.nodup_cons] at h2
  have hmem : ∀ k, k ∈ left.map (·.1) ↔ k = x.k ∨ k ∈ left'.map (·.1) := fun k => by rw [(hp.map (·.1)).mem_iff]; simp
  have hxn : x ∉ metV L left := fun h => (mem_metV.1 h).2 ((hmem _).2 (.inl rfl))
  refine (List.perm_ext_iff_of_nodup (hL.sublist List.filter_sublist) (List.nodup_cons.2 ⟨hxn, hL.sublist List.filter_sublist⟩)).2 (fun z => ?_)
  rw [show (z ∈ List.filter (fun x => !left'.any fun p => decide (p.1 = x.k)) L) = (z ∈ metV L left') from rfl, List.mem_cons, mem_metV, mem_metV, hmem, not_or]
  constructor
  · rintro ⟨h1, h3⟩
    by_cases e : z.k = x.k
    · exact .inl (nodup_map_inj hn h1 hx e)
    · exact .inr ⟨h1, e, h3⟩
  · rintro (rfl | ⟨h1, h3, h4⟩)
    · exact ⟨hx, h2.1⟩
    · exact ⟨h1, h4⟩

theorem putV_new : ∀ {V : List VRec} {y : VRec}, y.k ∉ V.map (·.k) → putV V y = V ++ [y]
  | [], _, _ => rfl
  | x :: r, y, h => by
    have h1 : x.k ≠ y.k := fun e => h (by simp [e])
    simp only [putV, h1, if_false, List.cons_append]
    rw [putV_new (fun hm => h (by simp at hm ⊢; exact .inr hm))]

/-- what holds at the head of dropVersions' loop -/
structure DropI (s : Sto) (m : Int) (w : World) (N : Nat) (wr : World) (left : List (ByteArray × (Option Addr × Nat × Nat))) (V : List VRec) : Prop where
  quiet : Quiet w wr
  map : MapIs sk slV wr N (V.map VRec.pr)
  vers : ∀ x ∈ V, wr.ownsRow (N + 2) 233 3 x.v x.vs.length (x.vs.flatMap verCells)
  nd : (V.flatMap VRec.foot).Nodup
  nl : (left.map (·.1)).Nodup
  kvs : (V.map VRec.kv).Perm (((metV s.vrs left).map VRec.kv).filterMap (dropA m))

theorem DropI.keys {s : Sto} {m : Int} {w wr : World} {N : Nat} {left : List (ByteArray × (Option Addr × Nat × Nat))} {V : List VRec} (I : DropI s m w N wr left V) {k : ByteArray} (hk : k ∈ left.map (·.1)) : k ∉ V.map (·.k) := fun hm => by
  obtain ⟨x, hx, rfl⟩ := List.mem_map.1 hm
  have h1 := I.kvs.mem_iff.1 (List.mem_map.2 ⟨x, hx, rfl⟩)
  obtain ⟨p, hp, hpe⟩ := List.mem_filterMap.1 h1
  obtain ⟨z, hz, rfl⟩ := List.mem_map.1 hp
  have hzk : z.k = x.k := by
    unfold dropA at hpe
    split at hpe
    · cases hpe
    · have := Option.some.inj hpe
      exact congrArg Prod.fst this
  have := (mem_metV.1 hz).2
  rw [hzk] at this
  exact this hk

/-- a key whose versions are gone -/
theorem DropI.skip {s : Sto} {m : Int} {w wr w' : World} {N : Nat} {left left' : List (ByteArray × (Option Addr × Nat × Nat))} {V : List VRec} (I : DropI s m w N wr left V) (hn : (s.vrs.map (·.k)).Nodup) {x : VRec} (hx : x ∈ s.vrs) {y : Option Addr × Nat × Nat} (hp : left.Perm ((x.k, y) :: left'))
    (h0 : dropL m x.vs = []) (hk : Keeps (fun b => b = N + 1) wr w') (hN : w.heap.size ≤ N) : DropI s m w N w' left' V := by
  have h2 := (hp.map (·.1)).nodup_iff.1 I.nl
  simp only [List.map_cons, List.nodup_cons] at h2
  refine ⟨Quiet.of_new I.quiet hk (fun b hb => by omega), I.map.of_block (hk.block N I.map.lt (by omega)), fun z hz => ownsRow_of_block (I.vers z hz) (fun b hb => hk.block b ((I.vers z hz).lt b hb).2 (by have := ((I.vers z hz).lt b hb).1; omega)), I.nd, h2.2, I.kvs.trans ?_⟩
  have := ((metV_step hn hx hp I.nl).map VRec.kv).filterMap (dropA m)
  refine List.Perm.trans ?_ this.symm
  have hd : dropA m x.kv = none := if_pos h0
  rw [List.map_cons, List.filterMap_cons_none hd]

/-- a key whose versions are kept -/
theorem DropI.keep {s : Sto} {m : Int} {w wr w' : World} {N : Nat} {left left' : List (ByteArray × (Option Addr × Nat × Nat))} {V : List VRec} (I : DropI s m w N wr left V) (hn : (s.vrs.map (·.k)).Nodup) {x : VRec} (hx : x ∈ s.vrs) {y : Option Addr × Nat × Nat} (hp : left.Perm ((x.k, y) :: left'))
    (h0 : dropL m x.vs ≠ []) (hN : w.heap.size ≤ N) (z : VRec) (hzk : z.k = x.k) (hzv : z.vs = dropL m x.vs) (wb : Nat) (hwb : wr.heap.size ≤ wb) (hNr : N + 2 ≤ wr.heap.size) (hz : w'.ownsRow wb 233 3 z.v z.vs.length (z.vs.flatMap verCells))
    (hm : MapIs sk slV w' N (put (V.map VRec.pr) z.k (z.a, z.vs.length, z.cap))) (hk : Keeps (fun b => b = N + 1 ∨ b = N) wr w') : DropI s m w N w' left' (V ++ [z]) := by
  have h2 := (hp.map (·.1)).nodup_iff.1 I.nl
  simp only [List.map_cons, List.nodup_cons] at h2
  have hkl : x.k ∈ left.map (·.1) := (hp.map (·.1)).mem_iff.2 (by simp)
  have hzn : z.k ∉ V.map (·.k) := by rw [hzk]; exact I.keys hkl
  refine ⟨Quiet.of_new I.quiet hk (fun b hb => by omega), ?_, fun u hu => ?_, ?_, h2.2, ?_⟩
  · have e : (V ++ [z]).map VRec.pr = put (V.map VRec.pr) z.k (z.a, z.vs.length, z.cap) := by
      rw [← putV_new hzn]; exact putV_map V z
    rw [e]; exact hm
  · rcases List.mem_append.1 hu with h | h
    · exact ownsRow_of_block (I.vers u h) (fun b hb => hk.block b ((I.vers u h).lt b hb).2 (by have := ((I.vers u h).lt b hb).1; omega))
    · simp at h; subst h
      exact ownsRow_low' hz (by omega)
  · rw [List.flatMap_append, List.nodup_append]
    refine ⟨I.nd, ?_, fun a ha b hb e => ?_⟩
    · simp only [List.flatMap_cons, List.flatMap_nil, List.append_nil, VRec.foot]
      cases z.v.ownBlock <;> simp
    · subst e
      obtain ⟨u, hu, hau⟩ := List.mem_flatMap.1 ha
      have h3 := ((I.vers u hu).lt a (by simpa [VRec.foot] using hau)).2
      simp only [List.flatMap_cons, List.flatMap_nil, List.append_nil] at hb
      have h4 := (hz.lt a (by simpa [VRec.foot] using hb)).1
      omega
  · have h5 := ((metV_step hn hx hp I.nl).map VRec.kv).filterMap (dropA m)
    have hd : dropA m x.kv = some (x.k, dropL m x.vs) := if_neg h0
    rw [List.map_cons, List.filterMap_cons_some hd] at h5
    refine List.Perm.trans ?_ h5.symm
    rw [List.map_append]
    refine List.perm_append_comm.trans ?_
    have e1 : z.kv = (x.k, dropL m x.vs) := by simp [VRec.kv, hzk, hzv]
    simp only [List.map_cons, List.map_nil, List.cons_append, List.nil_append, e1]
    exact I.kvs.cons _

end Go.Proofs.YthfimgeopciiiaaGreat
