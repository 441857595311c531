/-
  pairs: the keys of a range that are there for a transaction, with their values.
-/
import Derived.Test.YthfimgeopciiiaaGreatKeys
namespace Go.Proofs.YthfimgeopciiiaaGreat
open Go.MapKept Go.ChangeMaps Go.Maps Go.RowKit Go.Sort

def pairCells (p : ByteArray × ByteArray) : List Value := [.string p.1, .string p.2]
/-- a slice of pairs in a row that is new since 'base' -/
abbrev PrSl (base : Nat) (w : World) (v : Value) (l : List (ByteArray × ByteArray)) : Prop := w.ownsRow base 113 2 v l.length (l.flatMap pairCells)

theorem info_pair : (Tryz.prog.info? 113).map (fun i => (i.zero, i.size, i.bytes)) = some (some (.agg #[.string ⟨#[]⟩, .string ⟨#[]⟩]), 2, 32) := by kernel_rfl

/-- what a transaction sees of a key -/
def Sto.content (s : Sto) (r : Rec) (k : ByteArray) : Cont := (look r.wr k).getD (snap (s.vs k) r.bg)
def Sto.seen (s : Sto) (r : Rec) (k : ByteArray) : Option (ByteArray × ByteArray) := if (s.content r k).2 then none else some (k, (s.content r k).1)
def Sto.vmap (s : Sto) : List (ByteArray × (Option Addr × Nat × Nat)) := s.vrs.map fun x => (x.k, (x.a, x.vs.length, x.cap))
/-- the keys of a range that have versions, or that were written -/
def Sto.keys (s : Sto) (r : Rec) (e : Ent) : List ByteArray := keysV s.vmap e ++ keysW s.vmap r.wr e

theorem SSl.cells {base : Nat} {w : World} {v : Value} {l : List ByteArray} (h : SSl base w v l) : ∃ a cap, v = .slice a l.length cap ∧ (l = [] ∨ ∃ g, a = some ⟨g, 0, none⟩ ∧ base ≤ g ∧ g < w.heap.size ∧ ∀ (i : Nat) (t : ByteArray), l[i]? = some t → w.cell? ⟨g, i, none⟩ = some (.string t)) := by
  rcases h.2 with ⟨e, h0⟩ | ⟨g, cap, cur, e, hb, hg, h1, h2, h3, h4⟩
  · exact ⟨none, 0, by rw [e, h0], .inl (List.eq_nil_of_length_eq_zero h0)⟩
  · refine ⟨_, cap, e, .inr ⟨g, rfl, hb, lt_of_heap hg, fun i t hi => ?_⟩⟩
    have hil : i < l.length := (List.getElem?_eq_some_iff.1 hi).1
    have : (l.map Value.string)[i]? = some (.string t) := by rw [List.getElem?_map, hi]; rfl
    rw [← h4, List.getElem?_take, if_pos (by omega)] at this
    rw [cell_of_heap hg]
    simpa using this

theorem cell_twoNew (w : World) (x y : Value) (t : TypeId) : ∀ j u, [x, y][j]? = some u → (w.alloc (.cells #[x, y] t)).cell? ((⟨w.heap.size, 0, none⟩ : Addr).add j) = some u := by
  intro j u h
  match j, h with
  | 0, h => simp at h; subst h; simp [Addr.add]
  | 1, h => simp at h; subst h; simp [Addr.add]
  | j + 2, h => simp at h

theorem PrSl.snoc {base : Nat} {w : World} {v : Value} {l : List (ByteArray × ByteArray)} {a b : ByteArray} (h : w.ownsRow base 113 2 v (l.length + 1) (l.flatMap pairCells ++ [.string a, .string b])) : PrSl base w v (l ++ [(a, b)]) := by
  have e1 : (l ++ [(a, b)]).length = l.length + 1 := by simp
  have e2 : (l ++ [(a, b)]).flatMap pairCells = l.flatMap pairCells ++ [.string a, .string b] := by simp [pairCells]
  rw [PrSl, e1, e2]; exact h

theorem filterMap_take {α β : Type} {f : α → Option β} {l : List α} {n : Nat} {x : α} (h : l[n]? = some x) : (l.take (n + 1)).filterMap f = (l.take n).filterMap f ++ (f x).toList := by
  rw [take_succ_of h, List.filterMap_append]
  cases hf : f x <;> simp [List.filterMap, hf]

theorem StAt.key_ok {w : World} {s : Sto} (H : StAt w s) {r : Rec} (hr : r ∈ s.recs) {e : Ent} {k : ByteArray} (hk : k ∈ s.keys r e) : k.size ≤ maxLen := by
  rcases List.mem_append.1 hk with h | h
  · obtain ⟨p, hp, rfl⟩ := List.mem_map.1 h
    exact H.vm.ok p (List.mem_filter.1 hp).1
  · obtain ⟨p, hp, rfl⟩ := List.mem_map.1 h
    exact (H.recs r hr).wr.ok p (List.mem_filter.1 hp).1

theorem hidC' {p : Prop} (h : p) : Hid p := h

set_option maxRecDepth 100000 in
set_option maxHeartbeats 2000000 in
theorem pairs_h {w : World} {s : Sto} (H : StAt w s) {r : Rec} (hr : r ∈ s.recs) (x : Bool) (lo hi : ByteArray) (hsz : s.vrs.length + r.wr.length ≤ 2000) (hvs : ∀ k, (s.vs k).length ≤ 1000) :
    Calls Tryz.prog 132 #[.pointer (some ⟨s.sb, 2, none⟩), .pointer (some ⟨r.tb, 0, none⟩), .agg #[.bool x, .string lo, .string hi]] w fun e w' =>
      ∃ v, ∃ ks : List ByteArray, e = .returned v ∧ PrSl w.heap.size w' v (ks.filterMap (s.seen r)) ∧ ks.Perm (s.keys r (x, lo, hi)) ∧ ks.Pairwise leB ∧ Quiet w w' := by
  obtain ⟨i0, hi0, hz0, hz1, hz2⟩ := info_parts info_pair
  have HKI : Hid (∀ o, Calls Tryz.prog 192 #[.pointer (some ⟨s.sb, 2, none⟩), .pointer (some ⟨r.tb, 0, none⟩), .agg #[.bool x, .string lo, .string hi]] (w.alloc o) fun e w' =>
      ∃ v l, e = .returned v ∧ SSl (w.heap.size + 1) w' v l ∧ l.Perm (s.keys r (x, lo, hi)) ∧ l.Pairwise leB ∧ Quiet w w') := fun o => by
    have HA := H.quiet (Keeps.alloc (S := fun _ => False) w o)
    refine (keysIn_walk (w.alloc o) s.sb s.vm r.tb r.wb s.vmap r.wr x lo hi (HA.cell 10) ((HA.recs r hr).cell 3) (HA.lt _ (by simp [Sto.foot])) ((HA.recs r hr).lt _ (by simp [Rec.foot])) HA.vm (HA.recs r hr).wr (by simpa [Sto.vmap] using hsz)).mono fun e w' ⟨v, l, h1, h2, h3, h4, h5⟩ => ⟨v, l, h1, ?_, h3, h4, Quiet.trans' (Keeps.alloc _ _) h5⟩
    simpa using h2
  have HSn : Hid (∀ k ∈ s.keys r (x, lo, hi), ∀ W, Quiet w W → Calls Tryz.prog 150 #[.pointer (some ⟨s.sb, 2, none⟩), .pointer (some ⟨r.tb, 0, none⟩), .string k] W fun e w' => e = .returned (.agg #[.string (snap (s.vs k) r.bg).1, .bool (snap (s.vs k) r.bg).2]) ∧ Quiet W w') :=
    fun k hk W hW => snapshot_h (H.quiet hW) hr k (H.key_ok hr hk) (hvs k)
  have HOw : Hid (∀ k ∈ s.keys r (x, lo, hi), ∀ W, Quiet w W → (Instr.lookup 171 (.map (some r.wb)) (.string k) true).run Tryz.prog W = .ok (.tuple #[.agg #[.string ((look r.wr k).getD (⟨#[]⟩, false)).1, .bool ((look r.wr k).getD (⟨#[]⟩, false)).2], .bool (look r.wr k).isSome]) W) :=
    fun k hk W hW => own_look ((H.quiet hW).recs r hr) k (H.key_ok hr hk)
  have HTo : Hid (∀ v g W, Calls Tryz.prog 148 #[.agg #[.string v, .bool g]] W fun e w' => e = .returned (.tuple #[.string v, .bool (!g)]) ∧ Quiet W w') := fun v g W => told_any v g W
  have t3 : w.cell? ⟨r.tb, 3, none⟩ = some (.map (some r.wb)) := (H.recs r hr).cell 3
  have hlt := (H.recs r hr).lt r.tb (by simp [Rec.foot])
  have hklen : (s.keys r (x, lo, hi)).length ≤ 2000 := by
    have h1 : (keysV s.vmap (x, lo, hi)).length ≤ s.vrs.length := by rw [keysV, List.length_map]; exact Nat.le_trans (List.length_filter_le _ _) (by simp [Sto.vmap])
    have h2 : (keysW s.vmap r.wr (x, lo, hi)).length ≤ r.wr.length := by rw [keysW, List.length_map]; exact List.length_filter_le _ _
    rw [Sto.keys, List.length_append]; omega
  clear H
  go_enter Tryz.func132, Tryz.ntmps132
  go_wp2_with (go_at_call 192; refine (HKI.out _).mono ?_; rintro e w1 ⟨v, ks, rfl, hks, hkp, hso, hq1⟩; obtain ⟨a, cap, rfl, hcl⟩ := hks.cells)
  have hkl : ks.length ≤ 2000 := by rw [hkp.length_eq]; exact hklen
  have hw1 := hq1.size
  clear HKI hks
  go_loopw [7, 19] (fun l i wr => ∃ n : Nat, i = .int .i64 n ∧ n ≤ ks.length ∧ Quiet w1 wr ∧ PrSl w1.heap.size wr l ((ks.take n).filterMap (s.seen r))) (fun _ i _ => ks.length - (intOf i).toNat)
  case atStart => exact ⟨0, rfl, Nat.zero_le _, Keeps.refl _ _, World.ownsRow_nil _ _ _ _⟩
  case round =>
    obtain ⟨n, rfl, hn, hkp', hown⟩ := hrel
    by_cases hlt' : n < ks.length
    · have hlt'' : (n : Int) < (ks.length : Int) := by omega
      rcases hcl with h0 | ⟨g, rfl, hg1, hg2, hcell⟩
      · rw [h0] at hlt'; simp at hlt'
      obtain ⟨k, hk⟩ : ∃ k, ks[n]? = some k := ⟨_, List.getElem?_eq_getElem hlt'⟩
      have hkm : k ∈ s.keys r (x, lo, hi) := hkp.mem_iff.1 (List.mem_of_getElem? hk)
      have hgc : wr.cell? ⟨g, n, none⟩ = some (.string k) := (hkp'.cell hg2 (by simp)).trans (hcell n k hk)
      have hq : Quiet w wr := Quiet.trans' hq1 hkp'
      have t3r : wr.cell? ⟨r.tb, 3, none⟩ = some (.map (some r.wb)) := (hq.cell hlt (by simp)).trans t3
      have hlk := HOw.out k hkm wr hq
      have HTF : Hid ((ks.take (n + 1)).filterMap (s.seen r) = (ks.take n).filterMap (s.seen r) ++ (s.seen r k).toList) := filterMap_take hk
      have hfl : ((ks.take n).filterMap (s.seen r)).length ≤ 2000 := Nat.le_trans (List.length_filterMap_le _ _) (by simp; omega)
      have hgl : g < wr.heap.size := Nat.lt_of_lt_of_le hg2 hkp'.size
      have hsz1 := hkp'.size
      have HSk := hidC' (HSn.out k hkm)
      clear hcell HSn HOw hk t3
      cases hlook : look r.wr k with
      | some c =>
        simp only [hlook, Option.getD_some, Option.isSome_some] at hlk
        have hcon : s.content r k = c := by simp [Sto.content, hlook]
        have HTk : Hid (∀ W, Calls Tryz.prog 148 #[.agg #[.string c.1, .bool c.2]] W fun e w' => e = .returned (.tuple #[.string c.1, .bool (!c.2)]) ∧ Quiet W w') := fun W => HTo.out c.1 c.2 W
        have hqa : ∀ o, Quiet wr (wr.alloc o) := fun o => Keeps.alloc _ _
        clear HTo HSk
        cases hg : c.2 with
        | false =>
          rw [hg] at hlk HTk
          simp only [Bool.not_false] at HTk
          rw [Hid, Sto.seen, hcon, hg] at HTF
          simp only [Bool.false_eq_true, if_false, Option.toList_some] at HTF
          have HTF : Hid ((ks.take (n + 1)).filterMap (s.seen r) = (ks.take n).filterMap (s.seen r) ++ [(k, c.1)]) := HTF
          clear hlook hcon hg
          go_wp2_with (first
            | (go_at_call 148; refine (HTk.out _).mono ?_; rintro e w4 ⟨rfl, hq4⟩; have hown4 : PrSl w1.heap.size w4 _ ((ks.take n).filterMap (s.seen r)) := ownsRow_of_block hown (fun b hb => (Quiet.trans' (hqa _) hq4).block b (hown.lt b hb).2 (by simp)))
            | (at_builtin; refine wpList_append_own_at _ rfl _ _ 34 rfl w1.heap.size 113 i0 (.agg #[.string ⟨#[]⟩, .string ⟨#[]⟩]) 2 32 Tryz.underlying34 hi0 hz0 hz1 hz2 rfl (by decide) _ _ _ (by simp [go_sem]) (hown4.alloc _) ⟨w4.heap.size, 0, none⟩ 1 1 [.string k, .string c.1] (by simp [go_sem]) rfl ?_ ?_ ?_ ?_ ?_ ?_)
            | fail)
          · exact cell_twoNew w4 (.string k) (.string c.1) 113
          · intro u hu; simp only [List.mem_cons, List.not_mem_nil, or_false] at hu; rcases hu with rfl | rfl <;> rfl
          · unfold maxLen; omega
          · omega
          · have := (Quiet.trans' (hqa _) hq4).size; simp; omega
          intro v' w5 hown5 hgrow hnil hloc
          have k5 := keeps_of_grown hgrow
          have hlo4 := hown4.lt
          have hq5 : Quiet w1 w5 := Quiet.of_new (Quiet.trans' (Quiet.trans' hkp' (Quiet.trans' (hqa _) hq4)) (Keeps.alloc _ _)) k5 (fun b hb => (hlo4 b hb).1)
          have hown6 := PrSl.snoc hown5
          clear hown5 hgrow hnil hloc k5 hown4
          go_wp2
          go_roundw
          case rel => exact ⟨n + 1, by go_num, by omega, hq5, by rw [HTF.out]; exact hown6⟩
          case measure => simp [intOf]; omega
        | true =>
          rw [hg] at hlk HTk
          simp only [Bool.not_true] at HTk
          rw [Hid, Sto.seen, hcon, hg] at HTF
          simp only [if_true, Option.toList_none] at HTF
          have HTF : Hid ((ks.take (n + 1)).filterMap (s.seen r) = (ks.take n).filterMap (s.seen r) ++ []) := HTF
          clear hlook hcon hg
          go_wp2_with (first | (go_at_call 148; refine (HTk.out _).mono ?_; rintro e w4 ⟨rfl, hq4⟩) | fail)
          have hown4 : PrSl w1.heap.size w4 _ ((ks.take n).filterMap (s.seen r)) := ownsRow_of_block hown (fun b hb => (Quiet.trans' (hqa _) hq4).block b (hown.lt b hb).2 (by simp))
          go_roundw
          case rel => exact ⟨n + 1, by go_num, by omega, Quiet.trans' hkp' (Quiet.trans' (hqa _) hq4), by rw [HTF.out, List.append_nil]; exact hown4⟩
          case measure => simp [intOf]; omega
      | none =>
        simp only [hlook, Option.getD_none, Option.isSome_none] at hlk
        have hcon : s.content r k = snap (s.vs k) r.bg := by simp [Sto.content, hlook]
        rw [Hid] at HSk
        generalize snap (s.vs k) r.bg = c at *
        have HSk2 : Hid (∀ W, Quiet w W → Calls Tryz.prog 150 #[.pointer (some ⟨s.sb, 2, none⟩), .pointer (some ⟨r.tb, 0, none⟩), .string k] W fun e w' => e = .returned (.agg #[.string c.1, .bool c.2]) ∧ Quiet W w') := HSk
        have HTk : Hid (∀ W, Calls Tryz.prog 148 #[.agg #[.string c.1, .bool c.2]] W fun e w' => e = .returned (.tuple #[.string c.1, .bool (!c.2)]) ∧ Quiet W w') := fun W => HTo.out c.1 c.2 W
        have hqo : ∀ o, Quiet w (wr.alloc o) := fun o => Quiet.trans' hq (Keeps.alloc _ _)
        clear HTo HSk
        cases hg : c.2 with
        | false =>
          rw [hg] at HSk2 HTk
          simp only [Bool.not_false] at HTk
          rw [Hid, Sto.seen, hcon, hg] at HTF
          simp only [Bool.false_eq_true, if_false, Option.toList_some] at HTF
          have HTF : Hid ((ks.take (n + 1)).filterMap (s.seen r) = (ks.take n).filterMap (s.seen r) ++ [(k, c.1)]) := HTF
          clear hlook hcon hg
          go_wp2_with (first
            | (go_at_call 150; refine (HSk2.out _ (hqo _)).mono ?_; rintro e w3 ⟨rfl, hq3⟩; have hb := newBlock_kept hq3; have c0 := cell_of_heap (i := 0) hb; have c1 := cell_of_heap (i := 1) hb; have f0 := frozen_of_heap (i := 0) hb; have f1 := frozen_of_heap (i := 1) hb; simp at c0 c1; have es := set2 hb (.string c.1) (.bool false); have e0 := cell_of_heap (i := 0) es; have e1 := cell_of_heap (i := 1) es; simp at e0 e1; have hqs := quiet_set2 (Quiet.trans' (Keeps.alloc _ _) hq3) (Nat.le_refl wr.heap.size) (.string c.1) (.bool false))
            | (go_at_call 148; refine (HTk.out _).mono ?_; rintro e w4 ⟨rfl, hq4⟩; have hown4 : PrSl w1.heap.size w4 _ ((ks.take n).filterMap (s.seen r)) := ownsRow_of_block hown (fun b hb => (Quiet.trans' hqs hq4).block b (hown.lt b hb).2 (by simp)))
            | (at_builtin; refine wpList_append_own_at _ rfl _ _ 34 rfl w1.heap.size 113 i0 (.agg #[.string ⟨#[]⟩, .string ⟨#[]⟩]) 2 32 Tryz.underlying34 hi0 hz0 hz1 hz2 rfl (by decide) _ _ _ (by simp [go_sem]) (hown4.alloc _) ⟨w4.heap.size, 0, none⟩ 1 1 [.string k, .string c.1] (by simp [go_sem]) rfl ?_ ?_ ?_ ?_ ?_ ?_)
            | fail)
          · exact cell_twoNew w4 (.string k) (.string c.1) 113
          · intro u hu; simp only [List.mem_cons, List.not_mem_nil, or_false] at hu; rcases hu with rfl | rfl <;> rfl
          · unfold maxLen; omega
          · omega
          · have := (Quiet.trans' hqs hq4).size; simp; omega
          intro v' w5 hown5 hgrow hnil hloc
          have k5 := keeps_of_grown hgrow
          have hlo4 := hown4.lt
          have hq5 : Quiet w1 w5 := Quiet.of_new (Quiet.trans' (Quiet.trans' hkp' (Quiet.trans' hqs hq4)) (Keeps.alloc _ _)) k5 (fun b hb => (hlo4 b hb).1)
          have hown6 := PrSl.snoc hown5
          clear hown5 hgrow hnil hloc k5 hown4
          go_wp2
          go_roundw
          case rel => exact ⟨n + 1, by go_num, by omega, hq5, by rw [HTF.out]; exact hown6⟩
          case measure => simp [intOf]; omega
        | true =>
          rw [hg] at HSk2 HTk
          simp only [Bool.not_true] at HTk
          rw [Hid, Sto.seen, hcon, hg] at HTF
          simp only [if_true, Option.toList_none] at HTF
          have HTF : Hid ((ks.take (n + 1)).filterMap (s.seen r) = (ks.take n).filterMap (s.seen r) ++ []) := HTF
          clear hlook hcon hg
          go_wp2_with (first | (go_at_call 150; refine (HSk2.out _ (hqo _)).mono ?_; rintro e w3 ⟨rfl, hq3⟩; have hb := newBlock_kept hq3; have c0 := cell_of_heap (i := 0) hb; have c1 := cell_of_heap (i := 1) hb; have f0 := frozen_of_heap (i := 0) hb; have f1 := frozen_of_heap (i := 1) hb; simp at c0 c1; have es := set2 hb (.string c.1) (.bool true); have e0 := cell_of_heap (i := 0) es; have e1 := cell_of_heap (i := 1) es; simp at e0 e1; have hqs := quiet_set2 (Quiet.trans' (Keeps.alloc _ _) hq3) (Nat.le_refl wr.heap.size) (.string c.1) (.bool true)) | (go_at_call 148; refine (HTk.out _).mono ?_; rintro e w4 ⟨rfl, hq4⟩) | fail)
          have hown4 : PrSl w1.heap.size w4 _ ((ks.take n).filterMap (s.seen r)) := ownsRow_of_block hown (fun b hb => (Quiet.trans' hqs hq4).block b (hown.lt b hb).2 (by simp))
          go_roundw
          case rel => exact ⟨n + 1, by go_num, by omega, Quiet.trans' hkp' (Quiet.trans' hqs hq4), by rw [HTF.out, List.append_nil]; exact hown4⟩
          case measure => simp [intOf]; omega
    · have hge : ¬ (n : Int) < (ks.length : Int) := by omega
      have hT : ks.take n = ks := List.take_of_length_le (by omega)
      rw [hT] at hown
      clear HSn HOw HTo hcl
      go_wp2
      go_ret
      exact ⟨_, rfl, ks, ownsRow_low hown hw1, hkp, hso, Quiet.trans' hq1 hkp'⟩

end Go.Proofs.YthfimgeopciiiaaGreat
