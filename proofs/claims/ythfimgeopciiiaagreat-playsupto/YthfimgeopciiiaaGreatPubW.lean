/-
  publish: the walk.
-/
import Derived.Test.YthfimgeopciiiaaGreatPub
namespace Go.Proofs.YthfimgeopciiiaaGreat
open Go.MapKept Go.ChangeMaps Go.Maps Go.RowKit Go.MuLone

/-- a version joins a key's -/
def addVers (V : List (ByteArray × List Ver)) (k : ByteArray) (x : Ver) : List (ByteArray × List Ver) := put V k ((look V k).getD [] ++ [x])
def addAll (c : Int) (V : List (ByteArray × List Ver)) (l : List (ByteArray × Cont)) : List (ByteArray × List Ver) := l.foldl (fun V p => addVers V p.1 (c, p.2)) V
def totV (V : List (ByteArray × List Ver)) : Nat := sumN (fun p => p.2.length) V

theorem totV_put : ∀ (V : List (ByteArray × List Ver)) (k : ByteArray) (l : List Ver), totV (put V k l) + ((look V k).getD []).length = totV V + l.length
  | [], k, l => by simp [put, look, totV, sumN]
  | p :: r, k, l => by
    have ih := totV_put r k l
    unfold totV at ih ⊢
    by_cases e : p.1 = k
    · simp [put, look, e, sumN]; omega
    · simp only [put, look, e, if_false, sumN_cons]; omega

theorem totV_add (V : List (ByteArray × List Ver)) (k : ByteArray) (x : Ver) : totV (addVers V k x) = totV V + 1 := by
  have := totV_put V k ((look V k).getD [] ++ [x])
  simp only [List.length_append, List.length_cons, List.length_nil] at this
  unfold addVers; omega

theorem len_totV : ∀ (V : List (ByteArray × List Ver)) (k : ByteArray), ((look V k).getD []).length ≤ totV V
  | [], k => by simp [look]
  | p :: r, k => by
    have ih := len_totV r k
    unfold totV at ih ⊢
    by_cases e : p.1 = k
    · simp [look, e, sumN]
    · simp only [look, e, if_false, sumN_cons]; omega

theorem vs_look (s : Sto) (k : ByteArray) : s.vs k = (look s.abs.vers k).getD [] := by
  unfold Sto.vs Sto.vrec? Sto.abs
  simp only
  generalize s.vrs = V
  induction V with
  | nil => rfl
  | cons x r ih =>
    by_cases e : x.k = k
    · simp [look, e]
    · simp only [List.find?_cons, e, decide_false, List.map_cons, look, if_false]; exact ih

theorem putV_vers : ∀ (V : List VRec) (y : VRec), (putV V y).map (fun x => (x.k, x.vs)) = put (V.map fun x => (x.k, x.vs)) y.k y.vs
  | [], _ => rfl
  | x :: r, y => by
    by_cases e : x.k = y.k
    · simp [putV, put, e]
    · simp only [putV, put, List.map_cons, e, if_false, putV_vers r y]

theorem setV_abs {s : Sto} {y : VRec} {k : ByteArray} {x : Ver} (hk : y.k = k) (hv : y.vs = s.vs k ++ [x]) : (s.setV (putV s.vrs y)).abs = { s.abs with vers := addVers s.abs.vers k x } := by
  unfold addVers
  rw [← vs_look, ← hv, ← hk]
  simp only [Sto.abs, Sto.setV, putV_vers]

/-- append, kept shut: the walk meets it by its run alone -/
def heldAppend (ats : Array TypeId) (ty : TypeId) (args : Array Value) : Sem Value := Builtin.append_ ats ty args
theorem append_held (ats : Array TypeId) (ty : TypeId) (cs : Array Bool) (args : Array Value) : builtin .append ats ty cs args = (do pure (.value (← heldAppend ats ty args))) := rfl
theorem append_eq (ats : Array TypeId) (ty : TypeId) (args : Array Value) : Builtin.append_ ats ty args = heldAppend ats ty args := rfl
attribute [local go_sem ↓ high] append_held append_eq

/-- what holds at the head of publish's loop -/
structure PubI (s3 : Sto) (W3 : World) (it : Nat) (c : Int) (wl : List (ByteArray × Cont)) (wr : World) (left : List (ByteArray × Cont)) (s4 : Sto) : Prop where
  at_ : StAt wr s4
  sb : s4.sb = s3.sb
  mu : s4.mu = s3.mu
  keeps : Keeps (fun b => b ∈ s3.foot) W3 wr
  foot : ∀ b ∈ s4.foot, b ∈ s3.foot ∨ W3.heap.size ≤ b
  itl : W3.heap.size ≤ it
  itr : it < wr.heap.size
  itn : it ∉ s4.foot
  vm : s4.vm = s3.vm
  recs : s4.recs = s3.recs
  abs : ∃ done, (done ++ left).Perm wl ∧ s4.abs = { s3.abs with vers := addAll c s3.abs.vers done } ∧ totV s4.abs.vers = totV s3.abs.vers + done.length

/-- what stands behind the record's commit, ahead of the loop -/
def PubPre (s : Sto) (r : Rec) (c : Int) (W : World) (Q : Sto → World → Prop) : Prop :=
  ∃ s3 r3, StAt W s3 ∧ s3.sb = s.sb ∧ r3 ∈ s3.recs ∧ r3.tb = r.tb ∧ r3.wb = r.wb ∧ r3.wr = r.wr ∧ r3.cm = c ∧ totV s3.abs.vers ≤ 400 ∧ ∀ s4 it wr, PubI s3 W it c r.wr wr [] s4 → Q s4 wr

/-- one round -/
theorem PubI.step {s3 s4 : Sto} {W3 wr wn W : World} {it : Nat} {c : Int} {wl left left' : List (ByteArray × Cont)} {k : ByteArray} {ct : Cont} (I : PubI s3 W3 it c wl wr left s4) (hl : left.Perm ((k, ct) :: left')) (hkn : Keeps (fun x => x = it) wr wn) (hq : Quiet wn W) {v v' : Value} {w5 : World} {o : Obj}
    (hP : PubAt s4 k (c, ct) W v v' w5 o) : ∃ s5, PubI s3 W3 it c wl (setBlock w5 s4.vm o) left' s5 := by
  obtain ⟨y, hyk, hyv, hT⟩ := hP.turn
  obtain ⟨done, hp, habs, htot⟩ := I.abs
  have hsz : wr.heap.size ≤ W.heap.size := Nat.le_trans hkn.size hq.size
  have hrw : W3.heap.size ≤ W.heap.size := Nat.le_trans I.keeps.size hsz
  have k1 : Keeps (fun b => b ∈ s3.foot) W3 wn := I.keeps.trans hkn (fun b hb => .inr (by rw [hb]; exact I.itl))
  have k2 : Keeps (fun b => b ∈ s3.foot) W3 W := k1.trans hq (fun _ h => h.elim)
  refine ⟨_, hT.at_, hT.sb.trans I.sb, hT.mu.trans I.mu, k2.trans hT.keeps (fun b hb => I.foot b hb), fun b hb => ?_, I.itl, ?_, fun hm => ?_, I.vm, I.recs, done ++ [(k, ct)], ?_, ?_, ?_⟩
  · rcases hT.foot b hb with h | h
    · exact I.foot b h
    · exact .inr (by omega)
  · have := I.itr; have := hT.keeps.size; omega
  · rcases hT.foot _ hm with h | h
    · exact I.itn h
    · have := I.itr; omega
  · refine List.Perm.trans ?_ hp
    rw [List.append_assoc]
    exact (List.Perm.append_left done hl.symm)
  · rw [setV_abs hyk hyv, habs]
    simp only [addAll, List.foldl_append, List.foldl_cons, List.foldl_nil]
  · rw [setV_abs hyk hyv]
    simp only [totV_add, htot, List.length_append, List.length_cons, List.length_nil]
    omega

set_option maxRecDepth 100000 in
set_option maxHeartbeats 4000000 in
theorem publish_walk (w : World) (s : Sto) (r : Rec) (c : Int) (hc : s.clock + 1 = c) (hcr : -9223372036854775808 ≤ c ∧ c ≤ 9223372036854775807) (hwl : r.wr.length ≤ 500)
    (Q : Sto → World → Prop)
    (hrem : Calls Tryz.prog 151 #[.pointer (some ⟨s.sb, 9, none⟩), .pointer (some ⟨r.tb, 0, none⟩)] w fun e w1 => e = .returned (.tuple #[]) ∧
      w1.cell? ⟨s.sb, 6, none⟩ = some (.int .i64 s.clock) ∧ w1.frozen? ⟨s.sb, 6, none⟩ = false ∧ (w1.setCell ⟨s.sb, 6, none⟩ (.int .i64 c)).cell? ⟨s.sb, 6, none⟩ = some (.int .i64 c) ∧
      (∃ x, (w1.setCell ⟨s.sb, 6, none⟩ (.int .i64 c)).cell? ⟨r.tb, 2, none⟩ = some (.int .i64 x)) ∧ (w1.setCell ⟨s.sb, 6, none⟩ (.int .i64 c)).frozen? ⟨r.tb, 2, none⟩ = false ∧
      ((w1.setCell ⟨s.sb, 6, none⟩ (.int .i64 c)).setCell ⟨r.tb, 2, none⟩ (.int .i64 c)).cell? ⟨r.tb, 3, none⟩ = some (.map (some r.wb)) ∧
      MapIs sk contV ((w1.setCell ⟨s.sb, 6, none⟩ (.int .i64 c)).setCell ⟨r.tb, 2, none⟩ (.int .i64 c)) r.wb r.wr ∧
      Hid (PubPre s r c ((w1.setCell ⟨s.sb, 6, none⟩ (.int .i64 c)).setCell ⟨r.tb, 2, none⟩ (.int .i64 c)) Q)) :
    Calls Tryz.prog 93 #[.pointer (some ⟨s.sb, 2, none⟩), .pointer (some ⟨r.tb, 0, none⟩)] w fun e w' => e = .returned (.tuple #[]) ∧ ∃ s4, Q s4 w' := by
  have HR := hidC hrem
  clear hrem
  go_enter Tryz.func93, Tryz.ntmps93
  go_wp2_with (first
    | (go_at_call 151; refine (HR.out).mono ?_; rintro e w1 ⟨rfl, c6, f6, d6, ⟨x2, c2⟩, f2, c3, hmap, HPre⟩)
    | (at_range; refine wpList_range_is _ rfl _ 171 rfl 9 231 Tryz.underlying171 r.wb _ rfl hmap ?_; intro w4 hrg4 hk4 hs4)
    | go_in)
  clear HR c6 f6 d6 c2 f2 c3
  generalize hW3 : (w1.setCell ⟨s.sb, 6, none⟩ (.int .i64 c)).setCell ⟨r.tb, 2, none⟩ (.int .i64 c) = W3 at *
  obtain ⟨s3, r3, H3, hsb3, hr3, htb3, hwb3, hwr3, hcm3, htot3, hQ⟩ := HPre.out
  have hnd3 := Sto.nd_parts H3.nd
  have hwb : r.wb < W3.heap.size := hmap.lt
  have HQ4 : Hid (∀ s4 it wr, PubI s3 W3 it c r.wr wr [] s4 → Q s4 wr) := hQ
  have I0 : PubI s3 W3 W3.heap.size c r.wr w4 r.wr s3 := ⟨H3.quiet hk4, rfl, rfl, hk4.mono (fun _ h => h.elim), fun _ h => .inl h, Nat.le_refl _, by omega, fun hm => by have := H3.lt _ hm; omega, rfl, rfl, [], List.Perm.refl _, rfl, rfl⟩
  have HA : Hid (∀ s4 it wr left, PubI s3 W3 it c r.wr wr left s4 → s4.sb = s.sb ∧ r3 ∈ s4.recs ∧ ∀ k, (s4.vs k).length ≤ 1000) := fun s4 it wr left hI => by
    refine ⟨hI.sb.trans hsb3, by rw [hI.recs]; exact hr3, fun k => ?_⟩
    obtain ⟨done, hp, _, ht⟩ := hI.abs
    have h1 := hp.length_eq
    rw [List.length_append] at h1
    rw [vs_look]
    have := len_totV s4.abs.vers k
    omega
  clear hQ HPre hmap hk4 hnd3 H3
  generalize hit : W3.heap.size = it at *
  go_frame
  go_loopw [] (fun wr => ∃ left s4, RangeIs sk contV wr r.wb it r.wr left ∧ Hid (PubI s3 W3 it c r.wr wr left s4))
    (fun wr => wr.rangeLeft r.wb it)
  case atStart => exact ⟨r.wr, s3, hrg4, I0⟩
  case round =>
    obtain ⟨left, s4, hrg, HI⟩ := hrel
    clear I0 hrg4 hs4
    go_wp2_with (first
      | (at_next; refine wpList_next_is _ rfl _ rfl r.wb it r.wr left rfl hrg ?_ ?_)
      | go_in)
    · refine ⟨fun h0 => ?_⟩
      subst h0
      go_wp2
      go_end0
      exact ⟨rfl, s4, HQ4.out _ _ _ HI.out⟩
    · refine ⟨?_⟩
      rintro ⟨k⟩ ⟨ct⟩ left' wn hperm hmem hrgn hkn hsn hent
      simp only [sk, contV] at hent ⊢
      obtain ⟨hsb4, hr4, hlen4⟩ := HA.out _ _ _ _ HI.out
      have I := HI.out
      have hkok : k.size ≤ maxLen := hrg.map.oks _ hmem
      have Hn : StAt wn s4 := I.at_.kept hkn (fun b hb e => I.itn (e ▸ hb))
      have hqa : Quiet wn (wn.alloc (.cells #[.string ct.1, .bool ct.2] 231)) := Keeps.alloc _ _
      have HW := Hn.quiet hqa
      obtain ⟨v, v', w5, o, hP⟩ := pub_step HW k hkok (c, ct) (hlen4 k)
      have R4 := HW.recs r3 hr4
      have c10 := HW.cell 10
      rw [hsb4] at c10
      have t2 := R4.cell 2
      rw [htb3] at t2
      simp only [Sto.cells, Rec.cells, hcm3] at c10 t2
      simp at c10 t2
      have hbn : s.sb ≠ wn.heap.size := by rw [← hsb4]; have := Hn.lt s4.sb (by simp [Sto.foot]); omega
      have htn : r.tb ≠ wn.heap.size := by rw [← htb3]; have := (Hn.recs r3 hr4).lt r3.tb (by simp [Rec.foot]); omega
      have HP : Hid (PubAt s4 k (c, ct) (wn.alloc (.cells #[.string ct.1, .bool ct.2] 231)) v v' w5 o) := hP
      obtain ⟨l0, l1, happ, hupd, e10, -, -⟩ := hP
      have HW2 := HW.quiet (Keeps.alloc (S := fun _ => False) _ (.cells #[.int .i64 c, .string ct.1, .bool ct.2] 233))
      have d10 := HW2.cell 10
      have d2 := (HW2.recs r3 hr4).cell 2
      rw [hsb4] at d10 e10
      rw [htb3] at d2
      simp only [Sto.cells, Rec.cells, hcm3] at d10 d2
      simp at d10 d2
      simp only [World.size_alloc] at happ
      change (heldAppend #[224, 224] 224 #[v, .slice (some ⟨wn.heap.size + 1, 0, none⟩) 1 1]).run Tryz.prog _ = _ at happ
      have hmeas : Hid (wn.heap.size = wr.heap.size) := hsn
      clear hsn R4 Hn HW HW2 I
      go_wp2
      go_region
      obtain ⟨s5, I5⟩ := HI.out.step hperm hkn hqa HP.out
      have hrg5 : RangeIs sk contV (setBlock w5 s4.vm o) r.wb it r.wr left' := by
        have hkk := HP.out.keeps
        obtain ⟨q1, q2, q3, q4, q5, q6, q7, q8⟩ := Sto.nd_parts HI.out.at_.nd
        have hwq := q5 r3 hr4 r3.wb (by simp [Rec.foot])
        rw [hwb3] at hwq
        refine (hrgn.kept hqa (by simp) (by simp)).kept hkk ?_ ?_
        · rintro (h | ⟨z, hz, hb⟩)
          · exact hwq.2.2.1 h
          · exact (q6 z hz _ hb).2.2.2.2 r3 hr4 (by rw [← hwb3]; simp [Rec.foot])
        · rintro (h | ⟨z, hz, hb⟩)
          · exact HI.out.itn (by rw [h]; simp [Sto.foot])
          · exact HI.out.itn (Sto.mem_vrec hz hb)
      have hm5 : (setBlock w5 s4.vm o).rangeLeft r.wb it < wr.rangeLeft r.wb it := by
        rw [hrg5.left_eq, hrg.left_eq, hperm.length_eq]; simp
      clear HP HI happ hupd l0 l1
      generalize setBlock w5 s4.vm o = wf at *
      go_wp2
      go_roundw
      case measure => exact hm5
      case rel => exact ⟨left', s5, hrg5, I5⟩

end Go.Proofs.YthfimgeopciiiaaGreat
