/-
  Going through a map while what was met is deleted.
-/
import Derived.Test.YthfimgeopciiiaaGreatFirst
namespace Go.Proofs.YthfimgeopciiiaaGreat
open Go.MapKept Go.ChangeMaps Go.Maps Go.RowKit Go.MuLone

section
variable {α β : Type} {K : Kind α} {vf : β → Value} {w : World} {b r : Nat} {l left : List (α × β)} [DecidableEq α]

theorem leftOf_erase {es : Array MapEntry} {seen : Array Nat} {j : Nat} {e : MapEntry} (hj : es.toList[j]? = some e) (hs : e ∉ (leftOf es seen).toList) :
    (leftOf (es.eraseIdxIfInBounds j) seen).toList = (leftOf es seen).toList := by
  have hjl : j < es.size := by have := List.getElem?_eq_some_iff.1 hj; simpa using this.1
  simp only [leftOf, Array.toList_filter, Array.eraseIdxIfInBounds, hjl, dif_pos, Array.toList_eraseIdx] at hs ⊢
  have hsp : es.toList = es.toList.take j ++ e :: es.toList.drop (j + 1) := by
    have h1 := List.take_append_drop j es.toList
    rw [List.drop_eq_getElem_cons (by simpa using hjl)] at h1
    have : es.toList[j]'(by simpa using hjl) = e := by
      have := List.getElem?_eq_some_iff.1 hj
      exact this.2
    rw [this] at h1
    exact h1.symm
  rw [List.eraseIdx_eq_take_drop_succ]
  conv => rhs; rw [hsp]
  rw [List.filter_append, List.filter_append]
  congr 1
  rw [List.filter_cons_of_neg]
  intro hp
  exact hs (List.mem_filter.2 ⟨List.mem_of_getElem? hj, hp⟩)

theorem RangeIs.delete {P : Program} {kt t et ty : TypeId} (G : K.Good P kt) (ht : P.underlying t = some (.map kt et)) (h : RangeIs K vf w b r l left) {x : α} (hx : K.ok x) (hno : ∀ p ∈ left, p.1 ≠ x) (ts : TypeId) :
    ∃ o, (Builtin.delete_ #[t, ts] ty #[.map (some b), K.kf x]).run P w = .ok (.tuple #[]) (setBlock w b o) ∧ RangeIs K vf (setBlock w b o) b r (del l x) left := by
  have hn := h.map.nodup
  have hlt := h.map.lt
  have hne := h.ne
  obtain ⟨es, clock, since, seen, c0, hb, hs, hm, hok, hr, hold, hsc, hsk, hperm, hsub⟩ := h
  obtain ⟨lx, hlx⟩ := G.lit x hx
  have hok' : ∀ p ∈ del l x, K.ok p.1 := fun p hp => hok p (List.mem_filter.1 hp).1
  have hsub' : ∀ p ∈ left, p ∈ del l x := fun p hp => List.mem_filter.2 ⟨hsub p hp, by simpa using hno p hp⟩
  have hr' : ∀ o, (setBlock w b o).heap[r]? = some (.mapIter (some b) since seen c0) := fun o => by rw [heap_setBlock_ne _ _ _ hne, hr]
  rcases find_key G w hm hok hx with ⟨h1, h2, h3⟩ | ⟨j, u, e, h1, h2, h4, h3, h5⟩
  · refine ⟨.map es clock, ?_, es, clock, since, seen, c0, heap_setBlock_eq _ hlt, hs, ?_, hok', hr' _, hold, hsc, hsk, hperm, hsub'⟩
    · simp [Builtin.delete_, run_underlying ht, MapKept.run_getObj_map hb, G.keyed.check w _ hlx, h1, MapKept.run_setObj_map _ hb, setBlock]
    · rw [del_none h2]; exact hm
  · have hj : j < es.size := by have := List.getElem?_eq_some_iff.1 h4; simpa using this.1
    have hes : e ∉ (leftOf es seen).toList := fun hm' => by
      have := hperm.mem_iff.1 (List.mem_map.2 ⟨e, hm', rfl⟩)
      obtain ⟨p, hp, hpe⟩ := List.mem_map.1 this
      simp only [Prod.mk.injEq] at hpe
      exact hno p hp (G.inj _ _ (hpe.1.trans h3))
    refine ⟨.map (es.eraseIdxIfInBounds j) clock, ?_, es.eraseIdxIfInBounds j, clock, since, seen, c0, heap_setBlock_eq _ hlt, stamped_erase hs j, ?_, hok', hr' _, fun y hy => hold y ?_, hsc, hsk, ?_, hsub'⟩
    · simp [Builtin.delete_, run_underlying ht, MapKept.run_getObj_map hb, G.keyed.check w _ hlx, h1, MapKept.run_setObj_map _ hb, setBlock]
    · rw [del_at hn h2]
      simp only [Array.eraseIdxIfInBounds, hj, dif_pos, Array.toList_eraseIdx, map_eraseIdx, hm]
    · simp only [Array.eraseIdxIfInBounds, hj, dif_pos, Array.toList_eraseIdx] at hy
      exact (List.eraseIdx_sublist _ _).mem hy
    · rw [leftOf_erase h4 hes]; exact hperm

end

section
variable {α β : Type} {K : Kind α} {vf : β → Value} {P : Program} (w : World) {ops : Array Oper} {rest : List Oper} {o : Oper} {a : Act} {Q : Exit → Act → World → Prop} [DecidableEq α]

theorem wpList_delete_met (hg : o.guard = none) (m x : Operand) (t kt : TypeId) (hop : o.op = Op.call { callee := Callee.builtin Builtin.delete, args := #[m, x], argTypes := #[t, kt] }) (et : TypeId) (G : K.Good P kt) (ht : P.underlying t = some (.map kt et)) (b r : Nat) (l left : List (α × β))
    (hm : a.eval m = .map (some b)) (h : RangeIs K vf w b r l left) (kx : α) (hx : a.eval x = K.kf kx) (hok : K.ok kx) (hno : ∀ p ∈ left, p.1 ≠ kx)
    (hK : ∀ w', RangeIs K vf w' b r (del l kx) left → Keeps (fun x => x = b) w w' → w'.heap.size = w.heap.size → wpList P ops Q rest (a.put o.dst (.tuple #[])) w') :
    wpList P ops Q (o :: rest) a w := by
  refine wpList_plain hg fun K' hK' => ?_
  obtain ⟨ob, hrun, r1⟩ := h.delete G ht hok hno kt (ty := o.type)
  unfold Oper.wp
  simp [execOp, hop, resolve, invoke, builtin, hm, hx, hrun, Result.andThen]
  exact hK' _ _ (hK _ r1 (Keeps.setBlock (S := fun x => x = b) w b ob rfl) (by simp [setBlock]))

end
end Go.Proofs.YthfimgeopciiiaaGreat

/-
  maps.DeleteFunc over the records, and forgetRecords.
-/
namespace Go.Proofs.YthfimgeopciiiaaGreat
open Go.MapKept Go.ChangeMaps Go.Maps Go.RowKit Go.MuLone

theorem enter_forget1 (W : World) (x y z : Value) : (callFunc 143 #[x, y, z]).run Tryz.prog W = .ok (.enter 143 #[x, y, z]) W := by kernel_rfl

/-- what is there in the midst of it: what is still to come, and what is kept -/
def midst (kp : Nat → Bool) (l left : List (Int × Nat)) : List (Int × Nat) := l.filter fun p => decide (p.1 ∈ left.map (·.1)) || kp p.2

theorem midst_all (kp : Nat → Bool) (l : List (Int × Nat)) : midst kp l l = l :=
  List.filter_eq_self.2 (fun p hp => by simp only [Bool.or_eq_true, decide_eq_true_eq]; exact .inl (List.mem_map.2 ⟨p, hp, rfl⟩))

theorem midst_nil (kp : Nat → Bool) (l : List (Int × Nat)) : midst kp l [] = l.filter fun p => kp p.2 :=
  List.filter_congr (fun p _ => by simp)

theorem midst_keep {kp : Nat → Bool} {l left left' : List (Int × Nat)} {x : Int} {y : Nat} (hn : (l.map (·.1)).Nodup) (hp : left.Perm ((x, y) :: left')) (hm : (x, y) ∈ l) (hk : kp y = true) : midst kp l left = midst kp l left' := by
  refine List.filter_congr (fun p hpl => ?_)
  have h1 : p.1 ∈ left.map (·.1) ↔ p.1 = x ∨ p.1 ∈ left'.map (·.1) := by
    rw [(hp.map (·.1)).mem_iff]; simp
  by_cases e : p.1 = x
  · have : p = (x, y) := nodup_map_inj hn hpl hm e
    subst this
    simp [hk]
  · simp only [h1, e, false_or]

theorem midst_drop {kp : Nat → Bool} {l left left' : List (Int × Nat)} {x : Int} {y : Nat} (hn : (l.map (·.1)).Nodup) (hnl : (left.map (·.1)).Nodup) (hp : left.Perm ((x, y) :: left')) (hm : (x, y) ∈ l) (hk : kp y = false) : del (midst kp l left) x = midst kp l left' := by
  unfold del midst
  rw [List.filter_filter]
  refine List.filter_congr (fun p hpl => ?_)
  have h1 : p.1 ∈ left.map (·.1) ↔ p.1 = x ∨ p.1 ∈ left'.map (·.1) := by
    rw [(hp.map (·.1)).mem_iff]; simp
  have h2 := (hp.map (·.1)).nodup_iff.1 hnl
  simp only [List.map_cons, List.nodup_cons] at h2
  by_cases e : p.1 = x
  · have : p = (x, y) := nodup_map_inj hn hpl hm e
    subst this
    simp only [hk, Bool.or_false, ne_eq, not_true, decide_false, Bool.false_and]
    exact (decide_eq_false h2.1).symm
  · simp only [h1, e, false_or, ne_eq, not_false_eq_true, decide_true, Bool.true_and]

set_option maxRecDepth 100000 in
set_option maxHeartbeats 2000000 in
theorem deleteFunc_walk (w : World) (tm cb : Nat) (l : List (Int × Nat)) (kp : Nat → Bool) (hm : MapIs hk ptrTo w tm l)
    (hf : ∀ p ∈ l, ∀ W, Keeps (fun b => b = tm) w W → Calls Tryz.prog 143 #[.int .i64 p.1, .pointer (some ⟨p.2, 0, none⟩), .pointer (some ⟨cb, 0, none⟩)] W fun e w' => e = .returned (.bool (!kp p.2)) ∧ Quiet W w') :
    Calls Tryz.prog 142 #[.map (some tm), .func (.func 143) #[] #[.pointer (some ⟨cb, 0, none⟩)]] w fun e w' => e = .returned (.tuple #[]) ∧ MapIs hk ptrTo w' tm (l.filter fun p => kp p.2) ∧ Keeps (fun b => b = tm) w w' := by
  have HFn : Hid (∀ p ∈ l, ∀ W, Keeps (fun b => b = tm) w W → Calls Tryz.prog 143 #[.int .i64 p.1, .pointer (some ⟨p.2, 0, none⟩), .pointer (some ⟨cb, 0, none⟩)] W fun e w' => e = .returned (.bool (!kp p.2)) ∧ Quiet W w') := hf
  have hml := hm.lt
  have hnd := hm.nodup
  have hfn := enter_forget1
  clear hf
  go_enter Tryz.func142, Tryz.ntmps142
  go_wp2_with (first
    | (at_range; refine wpList_range_is _ rfl _ 128 rfl 3 168 Tryz.underlying128 tm _ rfl hm ?_; intro w0 hrg0 hk0 hs0)
    | go_in)
  go_frame
  go_loopw [] (fun wr => ∃ left, RangeIs hk ptrTo wr tm w.heap.size (midst kp l left) left ∧ Keeps (fun b => b = tm) w wr ∧ Hid ((left.map (·.1)).Nodup))
    (fun wr => wr.rangeLeft tm w.heap.size)
  case atStart => exact ⟨l, by rw [midst_all]; exact hrg0, hk0.mono (fun _ h => h.elim), hnd⟩
  case round =>
    obtain ⟨left, hrg, hkp, hnl⟩ := hrel
    clear hrg0 hk0 hs0
    go_wp2_with (first
      | (at_next; refine wpList_next_is _ rfl _ rfl tm w.heap.size (midst kp l left) left rfl hrg ?_ ?_)
      | go_in)
    · refine ⟨fun h0 => ?_⟩
      subst h0
      have hfin := hrg.map
      rw [midst_nil] at hfin
      go_wp2
      go_end0
      exact ⟨rfl, hfin, hkp⟩
    · refine ⟨?_⟩
      rintro ⟨x⟩ ⟨y⟩ left' wn hperm hmem hrgn hkn hsn hent
      simp only [hk, ptrTo] at hent ⊢
      have hml' : (x, y) ∈ l := (List.mem_filter.1 hmem).1
      have hokx : (Lit.int .i64 x).wf = true := hrg.map.oks _ hmem
      have hkpn : Keeps (fun b => b = tm) w wn := hkp.trans hkn (fun b hb => .inr (by rw [hb]; exact Nat.le_refl _))
      have HFy : Hid (∀ W, Keeps (fun b => b = tm) w W → Calls Tryz.prog 143 #[.int .i64 x, .pointer (some ⟨y, 0, none⟩), .pointer (some ⟨cb, 0, none⟩)] W fun e w' => e = .returned (.bool (!kp y)) ∧ Quiet W w') := HFn.out _ hml'
      have hnl' : (left'.map (·.1)).Nodup ∧ ∀ p ∈ left', p.1 ≠ x := by
        have h2 := (hperm.map (·.1)).nodup_iff.1 hnl.out
        simp only [List.map_cons, List.nodup_cons] at h2
        exact ⟨h2.2, fun p hp e => h2.1 (List.mem_map.2 ⟨p, hp, e⟩)⟩
      have hlen := hperm.length_eq
      cases hky : kp y with
      | true =>
        have HM : Hid (midst kp l left = midst kp l left') := midst_keep hnd hperm hml' hky
        rw [Hid, hky] at HFy
        have HFz : Hid (∀ W, Keeps (fun b => b = tm) w W → Calls Tryz.prog 143 #[.int .i64 x, .pointer (some ⟨y, 0, none⟩), .pointer (some ⟨cb, 0, none⟩)] W fun e w' => e = .returned (.bool false) ∧ Quiet W w') := HFy
        clear HFy HFn hsn hm hmem hky
        go_wp2_with (go_at_call 143; refine (HFz.out _ hkpn).mono ?_; rintro e w2 ⟨rfl, hq2⟩)
        go_roundw
        case rel => exact ⟨left', by rw [← HM.out]; exact hrgn.kept hq2 (by simp) (by simp), hkpn.trans hq2 (fun _ h => h.elim), hnl'.1⟩
        case measure => rw [(hrgn.kept hq2 (by simp) (by simp)).left_eq, hrg.left_eq, hlen]; simp
      | false =>
        have HM : Hid (del (midst kp l left) x = midst kp l left') := midst_drop hnd hnl.out hperm hml' hky
        rw [Hid, hky] at HFy
        have HFz : Hid (∀ W, Keeps (fun b => b = tm) w W → Calls Tryz.prog 143 #[.int .i64 x, .pointer (some ⟨y, 0, none⟩), .pointer (some ⟨cb, 0, none⟩)] W fun e w' => e = .returned (.bool true) ∧ Quiet W w') := HFy
        clear HFy HFn hsn hm hmem hky
        go_wp2_with (go_at_call 143; refine (HFz.out _ hkpn).mono ?_; rintro e w2 ⟨rfl, hq2⟩; obtain ⟨o3, hrun3, hrg3⟩ := (hrgn.kept hq2 (by simp) (by simp)).delete (P := Tryz.prog) (ty := 0) hk_good Tryz.underlying128 hokx hnl'.2 3; simp only [hk] at hrun3)
        rw [HM.out] at hrg3
        have hk3 : Keeps (fun b => b = tm) w2 (setBlock w2 tm o3) := Keeps.setBlock (S := fun b => b = tm) _ _ _ rfl
        have hk23 := (hkpn.trans hq2 (fun _ h => h.elim)).trans hk3 (fun _ h => .inl h)
        go_roundw
        case rel => exact ⟨left', hrg3, hk23, hnl'.1⟩
        case measure => rw [hrg3.left_eq, hrg.left_eq, hlen]; simp

theorem filter_foot_sub {l : List Rec} (f : Rec → Bool) : ∀ b ∈ (l.filter f).flatMap Rec.foot, b ∈ l.flatMap Rec.foot := fun _ hb => (sublist_flatMap List.filter_sublist).mem hb

/-- some records are gone that are not in the heap -/
theorem StAt.less {w w' : World} {s : Sto} (H : StAt w s) (f : Rec → Bool) (hf : ∀ r ∈ s.recs, r.cm = 0 → f r = true) (hm : MapIs hk ptrTo w' s.tm ((s.recs.filter f).map fun r => (r.h, r.tb))) (hk : Keeps (fun b => b = s.tm) w w') :
    Turn s { s with recs := s.recs.filter f } w w' := by
  obtain ⟨p1, p2, p3, p4, p5, p6, p7, p8⟩ := Sto.nd_parts H.nd
  have hsame : ∀ b ∈ s.foot, b ≠ s.tm → w'.heap[b]? = w.heap[b]? := fun b hb hne => hk.block b (H.lt b hb) hne
  have hmem : ∀ r ∈ s.recs.filter f, r ∈ s.recs := fun r hr => (List.mem_filter.1 hr).1
  have hnd2 : ({ s with recs := s.recs.filter f } : Sto).foot.Nodup := nd_mk H.nd w.heap.size H.lt rfl rfl rfl rfl (.inl rfl) (p7.sublist (sublist_flatMap List.filter_sublist)) (fun b hb => .inl (filter_foot_sub f b hb))
    (fun g hg hmm => by
      obtain ⟨x, hx, hbx⟩ := List.mem_flatMap.1 (filter_foot_sub f g hmm)
      exact (p5 x hx g hbx).2.2.2 hg)
  refine ⟨⟨?_, hm, ?_, ?_, H.hnd, ?_, ?_, H.hlen, ?_, ?_, ?_, hnd2⟩, rfl, rfl, hk.mono (fun b hb => .inl (by rw [hb]; simp [Sto.foot])), foot_mk w.heap.size rfl rfl rfl rfl (.inl rfl) (fun b hb => .inl (filter_foot_sub f b hb))⟩
  · exact (hsame s.sb (by simp [Sto.foot]) p1).trans H.own
  · exact fun r hr => (H.recs r (hmem r hr)).of_blocks (fun b hb => hsame b (Sto.mem_rec (hmem r hr) hb) (p5 r (hmem r hr) b hb).2.1)
  · exact ownsRow_of_block H.hsl (fun b hb => hsame b (Sto.mem_hv hb) (p4 b hb).2.1)
  · intro i t hi
    obtain ⟨r, hr, h1, h2, h3⟩ := H.hrec i t hi
    exact ⟨r, List.mem_filter.2 ⟨hr, hf r hr h3⟩, h1, h2, h3⟩
  · intro r hr hc
    exact H.hact r (hmem r hr) hc
  · intro k k0 kn
    have hB : ∀ j, j < s.hl.length → fOf ({ s with recs := s.recs.filter f } : Sto).bg s.hl j = fOf s.bg s.hl j := fun j hj => by
      have hj' : s.hl[j]? = some s.hl[j] := List.getElem?_eq_getElem hj
      have e : s.hl.getD j 0 = s.hl[j] := by simp [List.getD_eq_getElem?_getD, hj']
      unfold fOf
      rw [e]
      obtain ⟨x, hx, h1, _, h3⟩ := H.hrec j _ hj'
      have := Sto.bg_eq hnd2 (r := x) (List.mem_filter.2 ⟨hx, hf x hx h3⟩)
      rw [← h1, this, Sto.bg_eq H.nd hx]
    rw [show ({ s with recs := s.recs.filter f } : Sto).hl = s.hl from rfl] at kn ⊢
    rw [hB k kn, hB _ (by omega)]
    exact H.ord k k0 kn
  · exact H.vm.of_block (hsame s.vm (by simp [Sto.foot]) (Ne.symm p3))
  · intro x hx
    exact ownsRow_of_block (H.vers x hx) (fun b hb => hsame b (Sto.mem_vrec (s := s) hx hb) (p6 x hx b hb).2.1)

set_option maxRecDepth 100000 in
set_option maxHeartbeats 1000000 in
theorem forgetRecords_h {w : World} {s : Sto} (H : StAt w s) (m : Int) :
    Calls Tryz.prog 88 #[.pointer (some ⟨s.sb, 2, none⟩), .int .i64 m] w fun e w' => e = .returned (.tuple #[]) ∧ Turn s { s with recs := s.recs.filter fun r => !r.old m } w w' := by
  have hq1 : Quiet w (w.alloc (.cells #[.int .i64 m] 3)) := Keeps.alloc _ _
  have H1 := H.quiet hq1
  have hb1 : (w.alloc (.cells #[.int .i64 m] 3)).heap[w.heap.size]? = some (.cells #[.int .i64 m] 3) := heap_alloc_new w _
  have c8 : (w.alloc (.cells #[.int .i64 m] 3)).cell? ⟨s.sb, 8, none⟩ = some (.map (some s.tm)) := H1.cell 8
  have htl : s.tm < w.heap.size := H.tm.lt
  have hcell : w.cell? ⟨s.sb, 8, none⟩ = some (.map (some s.tm)) := H.cell 8
  have hsn : s.sb ≠ w.heap.size := by have := H.lt s.sb (by simp [Sto.foot]); omega
  obtain ⟨p1, p2, p3, p4, p5, p6, p7, p8⟩ := Sto.nd_parts H.nd
  have hT := Turn.quiet H hq1
  have hkey : ∀ r ∈ s.recs, (s.byTb r.tb) = r := fun r hr => Sto.byTb_eq H.nd hr
  have HD : Hid (Calls Tryz.prog 142 #[.map (some s.tm), .func (.func 143) #[] #[.pointer (some ⟨w.heap.size, 0, none⟩)]] (w.alloc (.cells #[.int .i64 m] 3)) fun e w' => e = .returned (.tuple #[]) ∧ Turn s { s with recs := s.recs.filter fun r => !r.old m } w w') := by
    refine (deleteFunc_walk _ s.tm w.heap.size (s.recs.map fun r => (r.h, r.tb)) (fun t => !(s.byTb t).old m) H1.tm (fun p hp W hW => ?_)).mono fun e w' ⟨h1, h2, h3⟩ => ⟨h1, hT.trans ?_⟩
    · obtain ⟨r, hr, rfl⟩ := List.mem_map.1 hp
      simp only [hkey r hr, Bool.not_not]
      have R : RecAt W r := (H1.recs r hr).of_blocks (fun b hb => hW.block b ((H1.recs r hr).lt b hb) (p5 r hr b hb).2.1)
      exact forget1_h W r R _ _ m (by rw [cell_of_heap ((hW.block _ (by simp) (by omega)).trans hb1)]; rfl)
    · refine H1.less (fun r => !r.old m) (fun r _ hc => by simp [Rec.old, hc]) ?_ h3
      have e : (s.recs.map fun r => (r.h, r.tb)).filter (fun p => !(s.byTb p.2).old m) = (s.recs.filter fun r => !r.old m).map fun r => (r.h, r.tb) := by
        rw [List.filter_map]
        congr 1
        exact List.filter_congr (fun r hr => by simp [hkey r hr])
      rw [← e]; exact h2
  clear H H1 hT hkey p4 p5 p6 p7 p8
  go_enter Tryz.func88, Tryz.ntmps88
  go_wp2_with (go_at_call 142; refine (HD.out).mono ?_; rintro e w2 ⟨rfl, ht2⟩)
  go_end0
  exact ⟨rfl, ht2⟩

end Go.Proofs.YthfimgeopciiiaaGreat
