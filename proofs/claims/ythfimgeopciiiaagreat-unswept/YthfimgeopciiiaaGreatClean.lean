/-
  dropVersions, whole; cleanup.
-/
import Derived.Test.YthfimgeopciiiaaGreatDropW
namespace Go.Proofs.YthfimgeopciiiaaGreat
open Go.MapKept Go.ChangeMaps Go.Maps Go.RowKit Go.MuLone

def Sto.dropped (s : Sto) (N : Nat) (V : List VRec) : Sto := { s with vm := N, vrs := V }

theorem dropVersions_h {w : World} {s : Sto} (H : StAt w s) (m : Int) (hb : ∀ x ∈ s.vrs, x.vs.length ≤ 1000) :
    Calls Tryz.prog 89 #[.pointer (some ⟨s.sb, 2, none⟩), .int .i64 m] w fun e w' => e = .returned (.tuple #[]) ∧
      ∃ s', Turn s s' w w' ∧ ∃ V, V.Perm (s.abs.vers.filterMap (dropA m)) ∧ s'.abs = { s.abs with vers := V } := by
  refine (dropVersions_walk w s H m hb).mono ?_
  rintro e w' ⟨rfl, wr, V, I, hsz, rfl⟩
  obtain ⟨p1, p2, p3, p4, p5, p6, p7, p8⟩ := Sto.nd_parts H.nd
  have hq := I.quiet
  have Hr := H.quiet hq
  have hsl := lt_of_heap Hr.own
  have hsbw : s.sb < w.heap.size := lt_of_heap H.own
  have hVb : ∀ b ∈ V.flatMap VRec.foot, w.heap.size + 2 ≤ b ∧ b < wr.heap.size := fun b hbm => by
    obtain ⟨x, hx, hbx⟩ := List.mem_flatMap.1 hbm
    exact (I.vers x hx).lt b (by simpa [VRec.foot] using hbx)
  have hsame : ∀ b, b ≠ s.sb → (wr.setCell ⟨s.sb, 10, none⟩ (.map (some w.heap.size))).heap[b]? = wr.heap[b]? := fun b hne => heap_setCell_other _ _ _ hne
  have hold : ∀ b ∈ s.foot, b < w.heap.size := H.lt
  have hnd2 : (s.dropped w.heap.size V).foot.Nodup := by
    have hn := H.nd
    unfold Sto.foot at hn ⊢
    simp only [Sto.dropped, List.nodup_cons, List.nodup_append, List.mem_cons, List.mem_append, not_or] at hn ⊢
    obtain ⟨⟨h1, h2, h3, h4, h5⟩, ⟨h6, h7, h8, h9⟩, ⟨h10, h11, h12⟩, h13, ⟨h14, h15, h16⟩, h17⟩ := hn
    have hlt : ∀ b, b ∈ s.hv.ownBlock.toList ∨ b ∈ s.recs.flatMap Rec.foot → b < w.heap.size := fun b hb' => by
      refine hold b ?_
      simp only [Sto.foot, List.mem_cons, List.mem_append]
      rcases hb' with h | h
      · exact .inr (.inr (.inr (.inl h)))
      · exact .inr (.inr (.inr (.inr (.inl h))))
    have hsb' : s.sb ∉ V.flatMap VRec.foot := fun h => by have := (hVb _ h).1; omega
    have htm' : s.tm ∉ V.flatMap VRec.foot := fun h => by have := (hVb _ h).1; have := H.tm.lt; omega
    refine ⟨⟨h1, fun e => by omega, h3, h4, hsb'⟩, ⟨fun e => by have := H.tm.lt; omega, h7, h8, htm'⟩, ⟨fun h => by have := hlt _ (.inl h); omega, fun h => by have := hlt _ (.inr h); omega, fun h => by have := (hVb _ h).1; omega⟩, h13, ⟨h14, I.nd, fun a ha b hb' e => ?_⟩, fun a ha b hb' e => ?_⟩
    · subst e; have := hlt a (.inr ha); have := (hVb a hb').1; omega
    · subst e
      rcases hb' with h | h
      · exact h17 a ha a (.inl h) rfl
      · have := hlt a (.inl ha); have := (hVb a h).1; omega
  have hR : ∀ r ∈ s.recs, ∀ b ∈ r.foot, (wr.setCell ⟨s.sb, 10, none⟩ (.map (some w.heap.size))).heap[b]? = wr.heap[b]? := fun r hr b hb' => hsame b (p5 r hr b hb').1
  refine ⟨rfl, s.dropped w.heap.size V, ⟨⟨?_, ?_, ?_, ?_, H.hnd, H.hrec, H.hact, H.hlen, H.ord, ?_, ?_, hnd2⟩, rfl, rfl, ?_, ?_⟩, V.map VRec.kv, ?_, rfl⟩
  · show (wr.setCell ⟨s.sb, 10, none⟩ (.map (some w.heap.size))).heap[s.sb]? = _
    rw [heap_setCell_same Hr.own]; rfl
  · exact Hr.tm.of_block (hsame _ (Ne.symm p1))
  · exact fun r hr => (Hr.recs r hr).of_blocks (hR r hr)
  · exact ownsRow_of_block Hr.hsl (fun b hb' => hsame b (p4 b hb').1)
  · exact I.map.of_block (hsame _ (by omega))
  · intro x hx
    exact ownsRow_low' (ownsRow_of_block (I.vers x hx) (fun b hb' => hsame b (by have := ((I.vers x hx).lt b hb').1; omega))) (Nat.zero_le _)
  · exact (hq.mono (fun _ h => h.elim)).trans (Keeps.setCell (S := fun b => b ∈ s.foot) wr ⟨s.sb, 10, none⟩ _ (by simp [Sto.foot])) (fun _ h => .inl h)
  · intro b hb'
    simp only [Sto.foot, Sto.dropped, List.mem_cons, List.mem_append] at hb' ⊢
    rcases hb' with h | h | h | h | h | h
    · exact .inl (.inl h)
    · exact .inl (.inr (.inl h))
    · exact .inr (by omega)
    · exact .inl (.inr (.inr (.inr (.inl h))))
    · exact .inl (.inr (.inr (.inr (.inr (.inl h)))))
    · have := (hVb b h).1; exact .inr (by omega)
  · have := I.kvs
    rw [metV_nil] at this
    exact this

set_option maxRecDepth 100000 in
set_option maxHeartbeats 1000000 in
theorem cleanup_h {w : World} {s : Sto} (H : StAt w s) (hb : ∀ x ∈ s.vrs, x.vs.length ≤ 1000) :
    Calls Tryz.prog 51 #[.pointer (some ⟨s.sb, 2, none⟩)] w fun e w' => e = .returned (.tuple #[]) ∧
      ∃ s', Turn s s' w w' ∧ ∃ V, V.Perm (s.abs.vers.filterMap (dropA s.mark)) ∧ s'.abs = { s.abs with txs := (s.recs.filter fun r => !r.old s.mark).map Rec.tx, vers := V } := by
  have HM := hidC (mark_h H)
  have HF := hidC (forgetRecords_h H s.mark)
  have HD : Hid (∀ w2, Turn s { s with recs := s.recs.filter fun r => !r.old s.mark } w w2 → Calls Tryz.prog 89 #[.pointer (some ⟨s.sb, 2, none⟩), .int .i64 s.mark] w2 fun e w' => e = .returned (.tuple #[]) ∧
      ∃ s', Turn s s' w w' ∧ ∃ V, V.Perm (s.abs.vers.filterMap (dropA s.mark)) ∧ s'.abs = { s.abs with txs := (s.recs.filter fun r => !r.old s.mark).map Rec.tx, vers := V }) := fun w2 h2 =>
    (dropVersions_h h2.at_ s.mark hb).mono fun e w' ⟨h3, s', h4, V, h5, h6⟩ => ⟨h3, s', h2.trans h4, V, h5, h6⟩
  clear H
  generalize s.mark = mk at *
  go_enter Tryz.func51, Tryz.ntmps51
  go_wp2_with (first
    | (go_at_call 87; refine (HM.out).mono ?_; rintro e w1 ⟨rfl, rfl⟩)
    | (go_at_call 88; refine (HF.out).mono ?_; rintro e w2 ⟨rfl, ht2⟩)
    | (go_at_call 89; refine (HD.out _ ht2).mono ?_; rintro e w3 ⟨rfl, hR3⟩))
  go_end0
  exact ⟨rfl, hR3⟩

end Go.Proofs.YthfimgeopciiiaaGreat
