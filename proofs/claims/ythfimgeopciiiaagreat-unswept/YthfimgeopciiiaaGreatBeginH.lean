/-
  begin, whole; Begin under the mutex.
-/
import Derived.Test.YthfimgeopciiiaaGreatStep
namespace Go.Proofs.YthfimgeopciiiaaGreat
open Go.MapKept Go.ChangeMaps Go.Maps Go.RowKit Go.MuLone

theorem put_new {α β : Type} [DecidableEq α] : ∀ {l : List (α × β)} {x : α} (v : β), (∀ p ∈ l, p.1 ≠ x) → put l x v = l ++ [(x, v)]
  | [], _, _, _ => rfl
  | p :: r, x, v, h => by
    have hp : p.1 ≠ x := h p (by simp)
    simp only [put, hp, if_false, List.cons_append]
    rw [put_new v (fun q hq => h q (by simp [hq]))]

/-- a new record -/
def newRec (h b : Int) (N : Nat) : Rec := ⟨N + 2, N, N + 1, h, b, 0, [], [], false, false, 0⟩
def Sto.plus (s : Sto) (N : Nat) : Sto := { s with begun := s.begun + 1, recs := s.recs ++ [newRec (s.begun + 1) s.clock N] }

theorem begun_at {w w3 : World} {s : Sto} (H : StAt w s) (hfresh : ∀ r ∈ s.recs, r.h ≠ s.begun + 1) (hB : BegunAt w s.sb s.tm (s.begun + 1) s.clock (s.recs.map fun r => (r.h, r.tb)) w3) :
    StAtE w3 (s.plus w.heap.size) (fun t => t = w.heap.size + 2) := by
  obtain ⟨p1, p2, p3, p4, p5, p6, p7, p8⟩ := Sto.nd_parts H.nd
  have hsame : ∀ b, b < w.heap.size → b ≠ s.tm → b ≠ s.sb → w3.heap[b]? = w.heap[b]? := fun b hb h1 h2 => hB.keeps.block b hb (by rintro (h | h); exact h1 h; exact h2 h)
  have hold : ∀ r ∈ s.recs, ∀ b ∈ r.foot, b < w.heap.size := fun r hr b hb => (H.recs r hr).lt b hb
  have hrf : (s.plus w.heap.size).recs.flatMap Rec.foot = s.recs.flatMap Rec.foot ++ [w.heap.size + 2, w.heap.size, w.heap.size + 1] := by
    simp [Sto.plus, List.flatMap_append, Rec.foot, newRec]
  have hnew : ∀ b ∈ (s.plus w.heap.size).recs.flatMap Rec.foot, b ∈ s.recs.flatMap Rec.foot ∨ w.heap.size ≤ b := fun b hb => by
    rw [hrf, List.mem_append] at hb
    refine hb.imp id (fun h => ?_)
    simp at h; omega
  have hfl : ∀ b ∈ s.recs.flatMap Rec.foot, b < w.heap.size := fun b hb => by
    obtain ⟨x, hx, hbx⟩ := List.mem_flatMap.1 hb
    exact hold x hx b hbx
  have hnd2 : (s.plus w.heap.size).foot.Nodup := nd_mk H.nd w.heap.size H.lt rfl rfl rfl rfl (.inl rfl) (by
      rw [hrf, List.nodup_append]
      refine ⟨p7, by simp, fun a ha b hb e => ?_⟩
      have := hfl a ha
      simp at hb; omega) hnew
    (fun g hg hm => by
      rw [hrf, List.mem_append] at hm
      have hgl := (H.hsl.lt g hg).2
      rcases hm with h | h
      · obtain ⟨x, hx, hbx⟩ := List.mem_flatMap.1 h
        exact (p5 x hx g hbx).2.2.2 hg
      · simp at h; omega)
  have hmem : ∀ r ∈ s.recs, r ∈ (s.plus w.heap.size).recs := fun r hr => by simp [Sto.plus, hr]
  refine ⟨?_, ?_, ?_, ?_, H.hnd, ?_, ?_, H.hlen, ?_, ?_, ?_, hnd2⟩
  · exact (hB.own _ _ H.own)
  · have h1 := hB.tm
    rw [put_new _ (fun p hp => by obtain ⟨r, hr, rfl⟩ := List.mem_map.1 hp; exact hfresh r hr)] at h1
    have e : ((s.plus w.heap.size).recs.map fun r => (r.h, r.tb)) = (s.recs.map fun r => (r.h, r.tb)) ++ [(s.begun + 1, w.heap.size + 2)] := by simp [Sto.plus, newRec]
    rw [e]; exact h1
  · intro r hr
    rcases List.mem_append.1 hr with h | h
    · exact (H.recs r h).of_blocks (fun b hb => hsame b (hold r h b hb) (p5 r h b hb).2.1 (p5 r h b hb).1)
    · simp at h; subst h
      exact ⟨hB.new.tb, MapIs.nil _ _ hB.new.wb, MapIs.nil _ _ hB.new.rb⟩
  · exact ownsRow_of_block H.hsl (fun b hb => hsame b (H.hsl.lt b hb).2 (p4 b hb).2.1 (p4 b hb).1)
  · intro i t hi
    obtain ⟨r, hr, h1, h2, h3⟩ := H.hrec i t hi
    exact ⟨r, hmem r hr, h1, h2, h3⟩
  · intro r hr hc hE
    rcases List.mem_append.1 hr with h | h
    · exact H.hact r h hc
    · simp at h; subst h; exact absurd rfl hE
  · intro k k0 kn
    have hBg : ∀ j, j < s.hl.length → fOf (s.plus w.heap.size).bg s.hl j = fOf s.bg s.hl j := fun j hj => by
      have hj' : s.hl[j]? = some s.hl[j] := List.getElem?_eq_getElem hj
      have e : s.hl.getD j 0 = s.hl[j] := by simp [List.getD_eq_getElem?_getD, hj']
      unfold fOf
      rw [e]
      obtain ⟨r, hr, h1, _⟩ := H.hrec j _ hj'
      rw [← h1, Sto.bg_eq hnd2 (hmem r hr), Sto.bg_eq H.nd hr]
    rw [show (s.plus w.heap.size).hl = s.hl from rfl] at kn ⊢
    rw [hBg k kn, hBg _ (by omega)]
    exact H.ord k k0 kn
  · exact H.vm.of_block (hsame s.vm H.vm.lt (Ne.symm p3) (Ne.symm p2))
  · intro x hx
    refine ownsRow_of_block (H.vers x hx) (fun b hb => ?_)
    have q := p6 x hx b hb
    exact hsame b (H.lt b (Sto.mem_vrec (s := s) hx hb)) q.2.1 q.1

theorem plus_foot {s : Sto} (N : Nat) : ∀ b ∈ (s.plus N).foot, b ∈ s.foot ∨ N ≤ b :=
  foot_mk N rfl rfl rfl rfl (.inl rfl) (fun b hb => by
    have : (s.plus N).recs.flatMap Rec.foot = s.recs.flatMap Rec.foot ++ [N + 2, N, N + 1] := by simp [Sto.plus, List.flatMap_append, Rec.foot, newRec]
    rw [this, List.mem_append] at hb
    refine hb.imp id (fun h => ?_)
    simp at h; omega)

theorem begin_ok {w : World} {s : Sto} (H : StAt w s) (hf : (s.recs.length : Int) < s.c1) (hb : -1 ≤ s.begun ∧ s.begun < 4611686018427387904) (hfresh : ∀ r ∈ s.recs, r.h ≠ s.begun + 1) (hlen : s.hl.length < 1000) :
    Calls Tryz.prog 55 #[.pointer (some ⟨s.sb, 2, none⟩)] w fun e w' => e = .returned (.tuple #[.int .i64 (s.begun + 1), .int .i64 0]) ∧ ∃ s', Turn s s' w w' ∧ s'.abs = { s.abs with begun := s.begun + 1, txs := s.abs.txs ++ [⟨s.begun + 1, s.clock, 0, [], [], false, false⟩] } := by
  obtain ⟨p1, p2, p3, p4, p5, p6, p7, p8⟩ := Sto.nd_parts H.nd
  refine begin_walk w s.sb s.tm s.c1 s.begun s.clock (s.recs.map fun r => (r.h, r.tb)) s.cells _ H.own rfl rfl rfl rfl H.tm (by simpa using hf) hb p1
    (fun w' => ∃ s', Turn s s' w w' ∧ s'.abs = { s.abs with begun := s.begun + 1, txs := s.abs.txs ++ [⟨s.begun + 1, s.clock, 0, [], [], false, false⟩] }) ?_
  intro nq w3 hB
  have hq0 : Quiet w (w.drewN nq) := quiet_drewN w nq
  replace H := H.quiet hq0
  have hszq : (w.drewN nq).heap.size = w.heap.size := rfl
  rw [← hszq]
  generalize hWd : w.drewN nq = W at *
  have HE := begun_at H hfresh hB
  have hrn : newRec (s.begun + 1) s.clock W.heap.size ∈ (s.plus W.heap.size).recs := by simp [Sto.plus]
  have hbgN : (s.plus W.heap.size).bg (W.heap.size + 2) = s.clock := Sto.bg_eq HE.nd hrn
  have hhl : ∀ t ∈ s.hl, t < W.heap.size := fun t ht => by
    obtain ⟨i, hi⟩ := List.getElem?_of_mem ht
    obtain ⟨r, hr, e, _⟩ := H.hrec i t hi
    exact e ▸ (H.recs r hr).lt _ (by simp [Rec.foot])
  have hTB : TB w3 (W.heap.size + 2) ((s.plus W.heap.size).bg (W.heap.size + 2)) 0 := ⟨_, hB.new.tb, rfl, by rw [hbgN]; rfl, rfl⟩
  refine (add_h s.sb 9 (W.heap.size + 2) s.hv s.hl (s.plus W.heap.size).bg w3 (s.plus W.heap.size).cells 136 0 HE.own rfl HE.heap HE.ord HE.hl_ne HE.hv_ne hTB (fun h => by have := hhl _ h; omega) (fun e => by have := (H.hsl.lt _ e).2; omega) (by have := lt_of_heap H.own; omega) hlen).mono ?_
  rintro e w' ⟨h1, v', hl', H1, hp, hO, hT⟩
  have hTs : ∀ t ∈ s.hl ++ [W.heap.size + 2], ∃ x ∈ (s.plus W.heap.size).recs, x.tb = t ∧ x.cm = 0 := fun t ht => by
    rcases List.mem_append.1 ht with h | h
    · obtain ⟨i, hi⟩ := List.getElem?_of_mem h
      obtain ⟨r, hr, e, _, hc⟩ := H.hrec i t hi
      exact ⟨r, by simp [Sto.plus, hr], e, hc⟩
    · simp at h; exact ⟨_, hrn, h.symm, rfl⟩
  obtain ⟨P, HS, hK, hF⟩ := heap_step (E' := fun _ => False) HE hT (fun t ht => by obtain ⟨x, hx, e, _⟩ := hTs t ht; exact ⟨x, hx, e⟩) H1 hO (fun t ht => ⟨hp.mem_iff.1 ht, hTs t (hp.mem_iff.1 ht)⟩)
    (fun x hx hc _ => hp.mem_iff.2 (by
      rcases List.mem_append.1 hx with h | h
      · exact List.mem_append.2 (.inl (H.hact x h hc))
      · simp at h; subst h; simp [newRec]))
  have hfin := HS.st (fun _ _ _ h => h)
  have hfoot : ∀ b ∈ ((s.plus W.heap.size).heaped P (s.hl ++ [W.heap.size + 2]) v' hl').foot, b ∈ s.foot ∨ W.heap.size ≤ b := fun b hb => by
    rcases hF b hb with h | h
    · exact plus_foot W.heap.size b h
    · exact .inr (by have := hB.size; omega)
  have hk3 : Keeps (fun b => b ∈ s.foot) W w3 := hB.keeps.mono (fun b hb => .inl (by rcases hb with h | h <;> (rw [h]; simp [Sto.foot])))
  have hT0 : Turn s s w W := ⟨H, rfl, rfl, hq0.mono (fun _ h => h.elim), fun _ h => .inl h⟩
  refine ⟨h1, ⟨_, hT0.trans ⟨hfin, rfl, rfl, hk3.trans hK (fun b hb => plus_foot W.heap.size b hb), hfoot⟩, ?_⟩, ?_⟩
  · rw [heaped_abs]; simp [Sto.plus, Sto.abs, Rec.tx, newRec]
  · have := (HS.recs (placed P (s.hl ++ [W.heap.size + 2]) (newRec (s.begun + 1) s.clock W.heap.size)) (List.mem_map.2 ⟨_, hrn, rfl⟩)).cell 0
    exact this

set_option maxRecDepth 100000 in
set_option maxHeartbeats 1000000 in
theorem begin_full {w : World} {s : Sto} (H : StAt w s) (hf : s.c1 ≤ s.recs.length) :
    Calls Tryz.prog 55 #[.pointer (some ⟨s.sb, 2, none⟩)] w fun e w' => e = .returned (.tuple #[.int .i64 0, .int .i64 6]) ∧ ∃ s', Turn s s' w w' ∧ s'.abs = s.abs := by
  have HQ : Hid (∀ w2, Quiet w w2 → Turn s s w w2) := fun w2 hq => Turn.quiet H hq
  have hle : ∀ n, (Builtin.len_ #[128] 3 #[.map (some s.tm)]).run Tryz.prog (w.drewN n) = .ok (.int .i64 s.recs.length) (w.drewN n) := fun n => by
    have := (H.quiet (quiet_drewN _ n)).tm.len (P := Tryz.prog) (ty := 3) Tryz.underlying128
    simpa using this
  have hl0 := hle 0
  have hl1 := hle 1
  have c8 : w.cell? ⟨s.sb, 8, none⟩ = some (.map (some s.tm)) := H.cell 8
  have c2 : w.cell? ⟨s.sb, 2, none⟩ = some (.int .i64 s.c1) := H.cell 2
  have hf' : (s.c1 : Int) ≤ (s.recs.length : Int) := hf
  clear H
  go_enter Tryz.func55, Tryz.ntmps55
  go_wp2_with fail
  go_quiet (fail)
  go_wp2
  go_ret2
  exact ⟨rfl, _, HQ.out _ (quiet_drewN _ nq), rfl⟩

end Go.Proofs.YthfimgeopciiiaaGreat
