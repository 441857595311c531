/-
  What a store always is, stays so.
-/
import Derived.Test.YthfimgeopciiiaaGreatApi
namespace Go.Proofs.YthfimgeopciiiaaGreat

/-- the transaction that begins -/
def Abs.newTx (a : Abs) : Tx := ⟨a.begun + 1, a.clock, 0, [], [], false, false⟩
/-- who commits -/
def commX (c h : Int) (x : Tx) : Tx := if x.h = h then { x with cm := c } else x
theorem commA_txs (a : Abs) (t : Tx) : (a.commA t).txs = a.txs.map (commX (a.clock + 1) t.h) := rfl
theorem commX_h (c h : Int) (x : Tx) : (commX c h x).h = x.h := by unfold commX; split <;> rfl
theorem commX_bg (c h : Int) (x : Tx) : (commX c h x).bg = x.bg := by unfold commX; split <;> rfl
theorem commX_wr (c h : Int) (x : Tx) : (commX c h x).wr = x.wr := by unfold commX; split <;> rfl
theorem commX_rd (c h : Int) (x : Tx) : (commX c h x).rd = x.rd := by unfold commX; split <;> rfl

theorem put_len {α β : Type} [DecidableEq α] : ∀ (l : List (α × β)) (x : α) (v : β), (put l x v).length = l.length + (if (look l x).isSome then 0 else 1)
  | [], x, v => by simp [put, look]
  | q :: r, x, v => by
    by_cases e : q.1 = x
    · simp [put, look, e]
    · simp only [put, look, e, if_false, List.length_cons, put_len r x v]; omega

theorem joinW_len_aux (wr : List (ByteArray × Cont)) : ∀ (cs : List Chg) (W : List (ByteArray × Cont)) (L : List (ByteArray × Unit)), W.length = wr.length + L.length → (∀ k, (look W k).isSome = ((look wr k).isSome || (look L k).isSome)) →
    (cs.foldl (fun l c => put l c.1 (contOf c)) W).length = wr.length + (cs.foldl (moreF wr) L).length
  | [], W, L, h, _ => h
  | c :: cs, W, L, h, hk => by
    rw [List.foldl_cons, List.foldl_cons]
    have hkc := hk c.1
    by_cases hw : (look wr c.1).isSome = true
    · have e : moreF wr L c = L := by unfold moreF; rw [if_pos hw]
      rw [e]
      refine joinW_len_aux wr cs _ L ?_ (fun k => ?_)
      · rw [put_len, hkc, hw]; simpa using h
      · rw [look_put]
        by_cases ek : c.1 = k
        · subst ek; simp [hw]
        · rw [if_neg ek]; exact hk k
    · have e : moreF wr L c = put L c.1 () := by unfold moreF; rw [if_neg hw]
      have hwf : (look wr c.1).isSome = false := Bool.eq_false_iff.2 hw
      rw [e]
      refine joinW_len_aux wr cs _ _ ?_ (fun k => ?_)
      · rw [put_len, put_len, hkc, hwf, Bool.false_or]; omega
      · rw [look_put, look_put]
        by_cases ek : c.1 = k
        · subst ek; simp
        · rw [if_neg ek, if_neg ek]; exact hk k

theorem joinW_len (wr : List (ByteArray × Cont)) (cs : List Chg) : (joinW wr cs).length = wr.length + (more wr cs).length :=
  joinW_len_aux wr cs wr [] (by simp) (fun k => by simp [look])

theorem joinW_nd : ∀ (cs : List Chg) (wr : List (ByteArray × Cont)), (wr.map (·.1)).Nodup → ((joinW wr cs).map (·.1)).Nodup
  | [], _, h => h
  | _ :: cs, _, h => joinW_nd cs _ (put_keys h)

theorem joinW_gone : ∀ (cs : List Chg) (wr : List (ByteArray × Cont)), (wr.map (·.1)).Nodup → (∀ p ∈ wr, p.2.2 = true → p.2.1 = (⟨#[]⟩ : ByteArray)) → ∀ p ∈ joinW wr cs, p.2.2 = true → p.2.1 = ⟨#[]⟩
  | [], _, _, h => h
  | c :: cs, _, hn, h => joinW_gone cs _ (put_keys hn) (fun p hp hg => by
    rcases (put_perm hn p).1 hp with e | ⟨e, _⟩
    · rw [e] at hg ⊢
      unfold contOf at hg ⊢
      split <;> simp_all
    · exact h p e hg)

/-- one record turns, the others do not -/
theorem sumN_one {f : Tx → Nat} {g : Tx → Tx} {t : Tx} {d : Nat} : ∀ {l : List Tx}, (l.map (·.h)).Nodup → t ∈ l → (∀ x ∈ l, x.h ≠ t.h → f (g x) = f x) → f (g t) = f t + d → sumN f (l.map g) = sumN f l + d
  | [], _, h, _, _ => by simp at h
  | x :: l, hn, hm, ho, ht => by
    simp only [List.map_cons, List.nodup_cons] at hn
    rw [List.map_cons, sumN_cons, sumN_cons]
    rcases List.mem_cons.1 hm with rfl | hm'
    · have : sumN f (l.map g) = sumN f l := by
        unfold sumN
        rw [List.map_map]
        congr 1
        exact List.map_congr_left (fun y hy => ho y (by simp [hy]) (fun e => hn.1 (List.mem_map.2 ⟨y, hy, e⟩)))
      rw [this, ht]; omega
    · have ih := sumN_one hn.2 hm' (fun y hy => ho y (by simp [hy])) ht
      have hx : x.h ≠ t.h := fun e => hn.1 (List.mem_map.2 ⟨t, hm', e.symm⟩)
      rw [ih, ho x (by simp) hx]; omega

theorem sumN_sub {f : Tx → Nat} (p : Tx → Bool) : ∀ (l : List Tx), sumN f (l.filter p) ≤ sumN f l
  | [] => by simp
  | x :: l => by
    have ih := sumN_sub (f := f) p l
    rw [List.filter_cons]
    split
    · rw [sumN_cons, sumN_cons]; omega
    · rw [sumN_cons]; omega

theorem act_mem' {a : Abs} {h : Int} {t : Tx} (e : a.act? h = some t) : t ∈ a.txs ∧ t.h = h ∧ t.cm = 0 := by
  unfold Abs.act? at e
  rw [Option.filter_eq_some_iff] at e
  exact ⟨List.mem_of_find?_eq_some e.1, by simpa using List.find?_some e.1, by simpa using e.2⟩

theorem Abs.Inv.mono {a : Abs} {n m : Int} (I : a.Inv n) (h : n ≤ m) : a.Inv m :=
  { I with begun := ⟨I.begun.1, by have := I.begun.2; omega⟩, clock := ⟨I.clock.1, by have := I.clock.2; omega⟩ }

theorem Abs.Inv.sub {a : Abs} {n : Int} (I : a.Inv n) (p : Tx → Bool) : ({ a with txs := a.txs.filter p } : Abs).Inv n := by
  have hm : ∀ t ∈ a.txs.filter p, t ∈ a.txs := fun t ht => (List.mem_filter.1 ht).1
  refine { I with txs := ?_, reads := ?_, writes := fun t ht => I.writes t (hm t ht), hs := fun t ht => I.hs t (hm t ht), bgs := fun t ht => I.bgs t (hm t ht), nd := I.nd.sublist (List.Sublist.map _ List.filter_sublist), wnd := fun t ht => I.wnd t (hm t ht), gone := fun t ht => I.gone t (hm t ht) }
  · have := I.txs
    have h2 := List.length_filter_le p a.txs
    show ((a.txs.filter p).length : Int) ≤ a.c1
    omega
  · have := I.reads
    have h2 := sumN_sub (f := fun t : Tx => t.rd.length) p a.txs
    show ((sumN (fun t : Tx => t.rd.length) (a.txs.filter p) : Nat) : Int) ≤ a.c2
    unfold Abs.nReads at this
    omega

theorem Abs.Inv.without {a : Abs} {n : Int} (I : a.Inv n) (h : Int) : (a.without h).Inv n := I.sub _

theorem Abs.Inv.mapT {a : Abs} {n : Int} (I : a.Inv n) (f : Tx → Tx) (hh : ∀ t, (f t).h = t.h) (hb : ∀ t, (f t).bg = t.bg) (hr : (sumN (fun t : Tx => t.rd.length) (a.txs.map f) : Int) ≤ a.c2)
    (hw : ∀ t ∈ a.txs, ((f t).wr.length : Int) ≤ a.c3 ∧ ((f t).wr.map (·.1)).Nodup ∧ ∀ p ∈ (f t).wr, p.2.2 = true → p.2.1 = (⟨#[]⟩ : ByteArray)) : ({ a with txs := a.txs.map f } : Abs).Inv n := by
  refine { I with txs := ?_, reads := hr, writes := fun t ht => ?_, hs := fun t ht => ?_, bgs := fun t ht => ?_, nd := ?_, wnd := fun t ht => ?_, gone := fun t ht => ?_ }
  · show ((a.txs.map f).length : Int) ≤ a.c1
    rw [List.length_map]; exact I.txs
  · obtain ⟨x, hx, rfl⟩ := List.mem_map.1 ht; exact (hw x hx).1
  · obtain ⟨x, hx, rfl⟩ := List.mem_map.1 ht; rw [hh]; exact I.hs x hx
  · obtain ⟨x, hx, rfl⟩ := List.mem_map.1 ht; rw [hb]; exact I.bgs x hx
  · show ((a.txs.map f).map (·.h)).Nodup
    rw [List.map_map]
    have : ((·.h) ∘ f) = (fun t : Tx => t.h) := funext hh
    rw [this]; exact I.nd
  · obtain ⟨x, hx, rfl⟩ := List.mem_map.1 ht; exact (hw x hx).2.1
  · obtain ⟨x, hx, rfl⟩ := List.mem_map.1 ht; exact (hw x hx).2.2

theorem Abs.Inv.readA {a : Abs} {n : Int} (I : a.Inv n) {t : Tx} (ht : t ∈ a.txs) (e : Ent) (hroom : a.room t e = true) : (a.readA t e).Inv n := by
  refine I.mapT _ (fun x => rfl) (fun x => rfl) ?_ (fun x hx => ⟨I.writes x hx, I.wnd x hx, I.gone x hx⟩)
  have h1 := sumN_one (f := fun t : Tx => t.rd.length) (g := readX (a.txs.any (passB t (wroteT e))) t e) (t := t) (d := if (look t.rd e).isSome then 0 else 1) I.nd ht
    (fun x _ hne => by simp only [readX, hne, if_false]) (by simp only [readX, if_true, put_len])
  rw [h1]
  have h2 := I.reads
  unfold Abs.nReads at h2
  unfold Abs.room at hroom
  unfold Abs.nReads at hroom
  by_cases hs : (look t.rd e).isSome = true
  · rw [if_pos hs]; omega
  · rw [if_neg hs]
    rw [Bool.eq_false_iff.2 hs, Bool.false_or, decide_eq_true_eq] at hroom
    omega

theorem Abs.Inv.readR {a : Abs} {n : Int} (I : a.Inv n) {t : Tx} (ht : t ∈ a.txs) (e : Ent) : (a.readR t e).2.Inv n := by
  unfold Abs.readR
  by_cases h1 : a.room t e = false
  · rw [if_pos h1]; exact I
  · rw [if_neg h1]
    by_cases h2 : a.okR t e = false
    · rw [if_pos h2]; exact I.without _
    · rw [if_neg h2]; exact I.readA ht e (by simpa using h1)

theorem Abs.Inv.getR {a : Abs} {n : Int} (I : a.Inv n) (h : Int) (k : ByteArray) : (a.getR h k).2.Inv n := by
  unfold Abs.getR
  cases ha : a.act? h with
  | none => exact I
  | some t =>
    have hm := (act_mem' ha).1
    simp only
    split
    · exact I
    · cases look t.wr k with
      | some c => exact I
      | none =>
        simp only
        split <;> exact I.readR hm _

theorem Abs.Inv.scanR {a : Abs} {n : Int} (I : a.Inv n) (h : Int) (lo hi : ByteArray) : (a.scanR h lo hi).2.Inv n := by
  unfold Abs.scanR
  cases ha : a.act? h with
  | none => exact I
  | some t =>
    have hm := (act_mem' ha).1
    simp only
    split
    · exact I
    · split <;> exact I.readR hm _

theorem Abs.Inv.writeR {a : Abs} {n : Int} (I : a.Inv n) (h : Int) (cs : List Chg) : (a.writeR h cs).2.Inv n := by
  unfold Abs.writeR
  cases ha : a.act? h with
  | none => exact I
  | some t =>
    have hm := (act_mem' ha).1
    simp only
    split
    · exact I
    · split
      · exact I
      · rename_i hfull
        split
        · exact I.without _
        · split
          · exact I.without _
          · refine I.mapT _ (fun x => rfl) (fun x => rfl) ?_ (fun x hx => ?_)
            · have h2 := I.reads
              have e : sumN (fun t : Tx => t.rd.length) (a.txs.map (writeX (a.txs.any (passB t (readT cs))) t cs)) = a.nReads := by
                unfold Abs.nReads
                rw [sumN_map]; rfl
              rw [e]; exact h2
            · by_cases e : x.h = t.h
              · have e1 : (writeX (a.txs.any (passB t (readT cs))) t cs x).wr = joinW t.wr cs := by simp only [writeX, e, if_true]
                rw [e1, joinW_len]
                unfold Tx.keysWith at hfull
                exact ⟨by omega, joinW_nd _ _ (I.wnd t hm), joinW_gone _ _ (I.wnd t hm) (I.gone t hm)⟩
              · have e1 : (writeX (a.txs.any (passB t (readT cs))) t cs x).wr = x.wr := by simp only [writeX, e, if_false]
                rw [e1]
                exact ⟨I.writes x hx, I.wnd x hx, I.gone x hx⟩

theorem Abs.Inv.abortR {a : Abs} {n : Int} (I : a.Inv n) (h : Int) : (a.abortR h).2.Inv n := by
  unfold Abs.abortR
  cases ha : a.act? h with
  | none => exact I
  | some t => exact I.without _

theorem Abs.Inv.beginR {a : Abs} {n : Int} (I : a.Inv n) : a.beginR.2.Inv (n + 1) := by
  unfold Abs.beginR
  split
  · exact I.mono (by omega)
  · rename_i hf
    obtain ⟨b1, b2⟩ := I.begun
    obtain ⟨c1, c2⟩ := I.clock
    obtain ⟨_, _, hc3, _⟩ := config_parts I.cfg
    have hm : ∀ t ∈ a.txs ++ [a.newTx], t ∈ a.txs ∨ t = a.newTx := fun t ht => by simpa using ht
    refine { I with txs := ?_, reads := ?_, writes := fun t ht => ?_, begun := ⟨by show (0 : Int) ≤ a.begun + 1; omega, by show a.begun + 1 ≤ n + 1; omega⟩, clock := ⟨c1, by show a.clock ≤ n + 1; omega⟩, hs := fun t ht => ?_, bgs := fun t ht => ?_, nd := ?_, wnd := fun t ht => ?_, gone := fun t ht => ?_ }
    · show (((a.txs ++ [a.newTx]).length : Nat) : Int) ≤ a.c1
      rw [List.length_append, List.length_singleton]; omega
    · have := I.reads
      unfold Abs.nReads at this
      show ((sumN (fun t : Tx => t.rd.length) (a.txs ++ [a.newTx]) : Nat) : Int) ≤ a.c2
      have e : sumN (fun t : Tx => t.rd.length) (a.txs ++ [a.newTx]) = sumN (fun t : Tx => t.rd.length) a.txs := by
        unfold sumN; simp [Abs.newTx]
      rw [e]; exact this
    · rcases hm t ht with h | rfl
      · exact I.writes t h
      · show ((0 : Nat) : Int) ≤ a.c3; omega
    · rcases hm t ht with h | rfl
      · have := I.hs t h; exact ⟨this.1, by show t.h ≤ a.begun + 1; omega⟩
      · exact ⟨by show 1 ≤ a.begun + 1; omega, Int.le_refl _⟩
    · rcases hm t ht with h | rfl
      · exact I.bgs t h
      · exact ⟨c1, Int.le_refl _⟩
    · show ((a.txs ++ [a.newTx]).map (·.h)).Nodup
      rw [List.map_append, List.nodup_append]
      refine ⟨I.nd, by simp, fun x hx y hy e => ?_⟩
      obtain ⟨t, ht', rfl⟩ := List.mem_map.1 hx
      simp only [List.map_cons, List.map_nil, List.mem_singleton] at hy
      have := (I.hs t ht').2
      have e2 : a.newTx.h = a.begun + 1 := rfl
      omega
    · rcases hm t ht with h | rfl
      · exact I.wnd t h
      · exact List.nodup_nil
    · rcases hm t ht with h | rfl
      · exact I.gone t h
      · intro p hp; cases hp

theorem Abs.Inv.comm {a a' : Abs} {n : Int} (I : a.Inv n) {t : Tx} (ht : t ∈ a.txs) (hroom : (totV a.vers : Int) + t.wr.length ≤ a.c4) (C : CommIs a t a') : a'.Inv (n + 1) := by
  obtain ⟨done, hd, hv⟩ := C.vers
  obtain ⟨b1, b2⟩ := I.begun
  obtain ⟨k1, k2⟩ := I.clock
  have ht' : ∀ x ∈ a'.txs, ∃ y ∈ a.txs, x.h = y.h ∧ x.bg = y.bg ∧ x.wr = y.wr ∧ x.rd = y.rd := fun x hx => by
    rw [C.txs, commA_txs] at hx
    obtain ⟨y, hy, rfl⟩ := List.mem_map.1 hx
    exact ⟨y, hy, commX_h _ _ _, commX_bg _ _ _, commX_wr _ _ _, commX_rd _ _ _⟩
  have hdn : ∀ p ∈ done, p.2.2 = true → p.2.1 = (⟨#[]⟩ : ByteArray) := fun p hp => I.gone t ht p (hd.mem_iff.1 hp)
  refine { cfg := by rw [C.c1, C.c2, C.c3, C.c4]; exact I.cfg, txs := ?_, reads := ?_, writes := fun x hx => ?_, vers := ?_, begun := ⟨by rw [C.begun]; exact b1, by rw [C.begun]; omega⟩, clock := ⟨by rw [C.clock]; omega, by rw [C.clock]; omega⟩, hs := fun x hx => ?_, bgs := fun x hx => ?_, nd := ?_, wnd := fun x hx => ?_, gone := fun x hx => ?_, vgone := ?_, vnd := ?_, vne := ?_ }
  · rw [C.txs, C.c1, commA_txs, List.length_map]; exact I.txs
  · rw [C.c2]
    have e : a'.nReads = a.nReads := by
      unfold Abs.nReads
      rw [C.txs, commA_txs, sumN_map]
      unfold sumN
      congr 1
      exact List.map_congr_left (fun x _ => by rw [commX_rd])
    rw [e]; exact I.reads
  · obtain ⟨y, hy, _, _, e, _⟩ := ht' x hx; rw [e, C.c3]; exact I.writes y hy
  · rw [hv, addAll_tot, C.c4, hd.length_eq]; omega
  · obtain ⟨y, hy, e, _⟩ := ht' x hx; rw [e, C.begun]; exact I.hs y hy
  · obtain ⟨y, hy, _, e, _⟩ := ht' x hx
    have := I.bgs y hy
    rw [e, C.clock]; omega
  · rw [C.txs, commA_txs, List.map_map]
    have : ((fun x : Tx => x.h) ∘ commX (a.clock + 1) t.h) = (fun t : Tx => t.h) := funext (fun x => commX_h _ _ _)
    rw [this]; exact I.nd
  · obtain ⟨y, hy, _, _, e, _⟩ := ht' x hx; rw [e]; exact I.wnd y hy
  · obtain ⟨y, hy, _, _, e, _⟩ := ht' x hx; rw [e]; exact I.gone y hy
  · rw [hv]; exact addAll_gone _ _ _ I.vnd hdn I.vgone
  · rw [hv]; exact addAll_nd _ _ _ I.vnd
  · rw [hv]; exact addAll_ne _ _ _ I.vnd I.vne

theorem totV_perm {V W : List (ByteArray × List Ver)} (h : V.Perm W) : totV V = totV W := sumN_perm _ h

theorem dropA_some {m : Int} {p q : ByteArray × List Ver} (h : dropA m p = some q) : q.1 = p.1 ∧ q.2 = dropL m p.2 ∧ q.2 ≠ [] := by
  unfold dropA at h
  split at h
  · cases h
  · rename_i hne
    have := Option.some.inj h
    subst this
    exact ⟨rfl, rfl, hne⟩

theorem totV_drop (m : Int) : ∀ (V : List (ByteArray × List Ver)), totV (V.filterMap (dropA m)) ≤ totV V
  | [] => by simp
  | p :: r => by
    have ih := totV_drop m r
    unfold totV at ih ⊢
    cases h : dropA m p with
    | none => rw [List.filterMap_cons_none h, sumN_cons]; omega
    | some q =>
      rw [List.filterMap_cons_some h, sumN_cons, sumN_cons]
      have : q.2.length ≤ p.2.length := by rw [(dropA_some h).2.1]; unfold dropL; rw [List.length_drop]; omega
      omega

theorem drop_keys (m : Int) {V : List (ByteArray × List Ver)} (hn : (V.map (·.1)).Nodup) : ((V.filterMap (dropA m)).map (·.1)).Nodup := by
  induction V with
  | nil => simp
  | cons p r ih =>
    simp only [List.map_cons, List.nodup_cons] at hn
    cases h : dropA m p with
    | none => rw [List.filterMap_cons_none h]; exact ih hn.2
    | some q =>
      rw [List.filterMap_cons_some h, List.map_cons, List.nodup_cons]
      refine ⟨fun hm => ?_, ih hn.2⟩
      obtain ⟨z, hz, e⟩ := List.mem_map.1 hm
      obtain ⟨y, hy, hyz⟩ := List.mem_filterMap.1 hz
      exact hn.1 (List.mem_map.2 ⟨y, hy, by rw [← (dropA_some hyz).1, e, (dropA_some h).1]⟩)

theorem Abs.Inv.clean {a a' : Abs} {n : Int} (I : a.Inv n) {m : Int} (C : CleanIs a m a') : a'.Inv n := by
  have I2 := I.sub (fun t => !t.old m)
  have hmem : ∀ p ∈ a'.vers, ∃ q ∈ a.vers, dropA m q = some p := fun p hp => List.mem_filterMap.1 (C.vers.mem_iff.1 hp)
  refine { cfg := by rw [C.c1, C.c2, C.c3, C.c4]; exact I.cfg, txs := by rw [C.txs, C.c1]; exact I2.txs, reads := ?_, writes := by rw [C.txs, C.c3]; exact I2.writes, vers := ?_, begun := by rw [C.begun]; exact I.begun, clock := by rw [C.clock]; exact I.clock, hs := by rw [C.txs, C.begun]; exact I2.hs, bgs := by rw [C.txs, C.clock]; exact I2.bgs, nd := by rw [C.txs]; exact I2.nd, wnd := by rw [C.txs]; exact I2.wnd, gone := by rw [C.txs]; exact I2.gone, vgone := fun p hp x hx => ?_, vnd := ?_, vne := fun p hp => ?_ }
  · have := I2.reads
    unfold Abs.nReads at this ⊢
    rw [C.txs, C.c2]; exact this
  · have h1 := totV_perm C.vers
    have h2 := totV_drop m a.vers
    have h3 := I.vers
    rw [C.c4]; omega
  · obtain ⟨q, hq, e⟩ := hmem p hp
    rw [(dropA_some e).2.1] at hx
    exact I.vgone q hq x ((List.drop_sublist _ _).mem hx)
  · exact (C.vers.map (·.1)).nodup_iff.2 (drop_keys m I.vnd)
  · obtain ⟨q, hq, e⟩ := hmem p hp
    exact (dropA_some e).2.2

end Go.Proofs.YthfimgeopciiiaaGreat

/-
  Cleaning up is not seen: two stores, of which one is cleaned up.
-/
namespace Go.Proofs.YthfimgeopciiiaaGreat

/-- two lists of versions, alike for all who began at M or behind it -/
def VSim (M : Int) (xs ys : List Ver) : Prop := ∀ b, M ≤ b → snap xs b = snap ys b ∧ newerB xs b = newerB ys b

theorem VSim.refl (M : Int) (xs : List Ver) : VSim M xs xs := fun _ _ => ⟨rfl, rfl⟩
theorem VSim.mono {M M' : Int} {xs ys : List Ver} (h : VSim M xs ys) (hm : M ≤ M') : VSim M' xs ys := fun b hb => h b (by omega)

theorem snap_append (xs zs : List Ver) (b : Int) : snap (xs ++ zs) b = zs.foldl (snapF b) (snap xs b) := by unfold snap; rw [List.foldl_append]
theorem newer_append (xs zs : List Ver) (b : Int) : newerB (xs ++ zs) b = (newerB xs b || newerB zs b) := by unfold newerB; rw [List.any_append]

theorem VSim.append {M : Int} {xs ys : List Ver} (h : VSim M xs ys) (zs : List Ver) : VSim M (xs ++ zs) (ys ++ zs) := fun b hb => by
  rw [snap_append, snap_append, newer_append, newer_append, (h b hb).1, (h b hb).2]
  exact ⟨rfl, rfl⟩

/-- what firstF leaves out: versions at m or ahead of it, of which the last that is left out is gone or has one that is kept behind it -/
theorem firstF_sim (m b : Int) (hb : m ≤ b) : ∀ (l : List Ver) (i f : Nat) (pre : List Ver), pre.length = i → f ≤ i → (∀ x ∈ pre, x.1 ≤ m) → (∀ x ∈ pre ++ l, x.2.2 = true → x.2.1 = (⟨#[]⟩ : ByteArray)) →
    snap ((pre ++ l).drop f) b = snap (pre ++ l) b → newerB ((pre ++ l).drop f) b = newerB (pre ++ l) b →
    snap ((pre ++ l).drop (firstF m l i f)) b = snap (pre ++ l) b ∧ newerB ((pre ++ l).drop (firstF m l i f)) b = newerB (pre ++ l) b
  | [], i, f, pre, _, _, _, _, h1, h2 => by unfold firstF; exact ⟨h1, h2⟩
  | x :: r, i, f, pre, hi, hf, hp, hg, h1, h2 => by
    unfold firstF
    by_cases hx : m < x.1
    · rw [if_pos hx]; exact ⟨h1, h2⟩
    · rw [if_neg hx]
      have hxm : x.1 ≤ m := by omega
      have e : pre ++ x :: r = (pre ++ [x]) ++ r := by simp
      have hp' : ∀ y ∈ pre ++ [x], y.1 ≤ m := fun y hy => by
        rcases List.mem_append.1 hy with h | h
        · exact hp y h
        · simp at h; subst h; exact hxm
      have hnp : newerB pre b = false := by
        unfold newerB
        rw [List.any_eq_false]
        intro y hy
        have := hp y hy
        simp; omega
      have hnx : newerB [x] b = false := by unfold newerB; simp; omega
      have hsx : snap (pre ++ [x]) b = x.2 := by
        rw [snap_append]
        simp only [List.foldl_cons, List.foldl_nil, snapF]
        rw [if_pos (by omega)]
      have hd1 : (pre ++ x :: r).drop i = x :: r := by rw [← hi]; exact List.drop_left
      have hd2 : (pre ++ x :: r).drop (i + 1) = r := by
        rw [← List.drop_drop, hd1]; rfl
      have s1 : snap (x :: r) b = snap (pre ++ x :: r) b := by
        rw [e, snap_append, hsx]
        show (x :: r).foldl (snapF b) _ = _
        rw [List.foldl_cons]
        simp only [snapF]
        rw [if_pos (by omega)]
      have n1 : newerB (x :: r) b = newerB (pre ++ x :: r) b := by
        rw [newer_append, hnp, Bool.false_or]
      rw [e] at hg ⊢
      refine firstF_sim m b hb r (i + 1) (if x.2.2 then i + 1 else i) (pre ++ [x]) (by simp [hi]) (by split <;> omega) hp' hg ?_ ?_
      · rw [← e]
        by_cases hgx : x.2.2 = true
        · rw [if_pos hgx, hd2, ← s1]
          have hx2 : x.2 = (⟨#[]⟩, true) := Prod.ext (hg x (by simp) hgx) hgx
          show r.foldl (snapF b) _ = (x :: r).foldl (snapF b) _
          rw [List.foldl_cons]
          simp only [snapF]
          rw [if_pos (by omega), hx2]
        · rw [if_neg hgx, hd1, s1]
      · rw [← e]
        by_cases hgx : x.2.2 = true
        · rw [if_pos hgx, hd2, ← n1]
          have : newerB (x :: r) b = (newerB [x] b || newerB r b) := newer_append [x] r b
          rw [this, hnx, Bool.false_or]
        · rw [if_neg hgx, hd1, n1]

theorem dropL_sim {m : Int} {vs : List Ver} (hg : ∀ x ∈ vs, x.2.2 = true → x.2.1 = (⟨#[]⟩ : ByteArray)) : VSim m (dropL m vs) vs := fun b hb => by
  have := firstF_sim m b hb vs 0 0 [] rfl (Nat.le_refl _) (by simp) (by simpa using hg) rfl rfl
  simpa [dropL] using this

/-- X is Y, cleaned up here and there -/
structure Sim (X Y : Abs) (M : Int) (F : Int → Bool) : Prop where
  c1 : X.c1 = Y.c1
  c2 : X.c2 = Y.c2
  c3 : X.c3 = Y.c3
  c4 : X.c4 = Y.c4
  clock : X.clock = Y.clock
  begun : X.begun = Y.begun
  txs : X.txs = Y.txs.filter fun t => !F t.h
  old : ∀ t ∈ Y.txs, F t.h = true → t.cm ≠ 0 ∧ t.cm ≤ M
  act : ∀ t ∈ Y.txs, t.cm = 0 → M ≤ t.bg
  clk : M ≤ Y.clock
  fb : ∀ h, F h = true → h ≤ Y.begun
  vs : ∀ k, VSim M (X.vs k) (Y.vs k)
  tot : totV X.vers ≤ totV Y.vers

variable {X Y : Abs} {M : Int} {F : Int → Bool}

theorem Sim.act_eq (S : Sim X Y M F) (h : Int) : X.act? h = Y.act? h := by
  unfold Abs.act?
  rw [S.txs, List.find?_filter]
  cases hf : F h with
  | false =>
    have e : (fun t : Tx => decide ((!F t.h) = true ∧ decide (t.h = h) = true)) = fun t : Tx => decide (t.h = h) := by
      funext t
      by_cases e : t.h = h
      · simp [e, hf]
      · simp [e]
    rw [e]
  | true =>
    have e : Y.txs.find? (fun t : Tx => decide ((!F t.h) = true ∧ decide (t.h = h) = true)) = none := by
      refine List.find?_eq_none.2 (fun t _ => ?_)
      by_cases e : t.h = h
      · simp [e, hf]
      · simp [e]
    rw [e]
    cases hy : Y.txs.find? (fun t => decide (t.h = h)) with
    | none => rfl
    | some t =>
      have h1 := List.mem_of_find?_eq_some hy
      have h2 : t.h = h := by simpa using List.find?_some hy
      have h3 := (S.old t h1 (by rw [h2]; exact hf)).1
      simp [Option.filter, h3]

theorem Sim.any_eq (S : Sim X Y M F) (P : Tx → Bool) (hP : ∀ t ∈ Y.txs, F t.h = true → P t = false) : X.txs.any P = Y.txs.any P := by
  rw [S.txs, Bool.eq_iff_iff]
  simp only [List.any_eq_true, List.mem_filter]
  constructor
  · rintro ⟨t, ⟨h1, _⟩, h2⟩; exact ⟨t, h1, h2⟩
  · rintro ⟨t, h1, h2⟩
    refine ⟨t, ⟨h1, ?_⟩, h2⟩
    cases hf : F t.h with
    | false => rfl
    | true => rw [hP t h1 hf] at h2; cases h2

theorem Sim.pass (S : Sim X Y M F) {t : Tx} (ht : t ∈ Y.txs) (hc : t.cm = 0) (G : Tx → Bool) : ∀ x ∈ Y.txs, F x.h = true → passB t G x = false := fun x hx hf => by
  obtain ⟨h1, h2⟩ := S.old x hx hf
  have h3 := S.act t ht hc
  have : overlapsB t.bg x.cm = false := by
    unfold overlapsB
    simp only [Bool.or_eq_false_iff, beq_eq_false_iff_ne, decide_eq_false_iff_not]
    exact ⟨h1, by omega⟩
  unfold passB
  rw [this]; simp

theorem Sim.okR (S : Sim X Y M F) {t : Tx} (ht : t ∈ Y.txs) (hc : t.cm = 0) (e : Ent) : X.okR t e = Y.okR t e := by
  unfold Abs.okR
  rw [S.any_eq _ (fun x hx hf => by rw [S.pass ht hc _ x hx hf]; rfl)]

theorem Sim.okW (S : Sim X Y M F) {t : Tx} (ht : t ∈ Y.txs) (hc : t.cm = 0) (cs : List Chg) : X.okW t cs = Y.okW t cs := by
  unfold Abs.okW
  rw [S.any_eq _ (fun x hx hf => by rw [S.pass ht hc _ x hx hf]; rfl)]

theorem Sim.clash (S : Sim X Y M F) {t : Tx} (ht : t ∈ Y.txs) (hc : t.cm = 0) (cs : List Chg) : X.clash t cs = Y.clash t cs := by
  unfold Abs.clash
  congr 1
  funext c
  have h1 : X.held t c.1 = Y.held t c.1 := S.any_eq _ (fun x hx hf => by
    have := (S.old x hx hf).1
    have : (x.cm == 0) = false := by simpa using this
    rw [this, Bool.and_false])
  rw [h1, (S.vs c.1 t.bg (S.act t ht hc)).2]

theorem Sim.reads (S : Sim X Y M F) : X.nReads ≤ Y.nReads := by
  unfold Abs.nReads
  rw [S.txs]; exact sumN_sub _ _

theorem Sim.mapT (S : Sim X Y M F) (f : Tx → Tx) (hh : ∀ t, (f t).h = t.h) (hc : ∀ t, (f t).cm = t.cm) (hb : ∀ t, (f t).bg = t.bg) : Sim { X with txs := X.txs.map f } { Y with txs := Y.txs.map f } M F := by
  refine { S with txs := ?_, old := fun t ht hf => ?_, act := fun t ht hc' => ?_ }
  · show X.txs.map f = (Y.txs.map f).filter _
    rw [S.txs, List.filter_map]
    congr 1
    exact List.filter_congr (fun t _ => by simp only [Function.comp, hh])
  · obtain ⟨x, hx, rfl⟩ := List.mem_map.1 ht
    rw [hc]; exact S.old x hx (by rw [← hh]; exact hf)
  · obtain ⟨x, hx, rfl⟩ := List.mem_map.1 ht
    rw [hb]; exact S.act x hx (by rw [← hc]; exact hc')

theorem Sim.without (S : Sim X Y M F) (h : Int) : Sim (X.without h) (Y.without h) M F := by
  refine { S with txs := ?_, old := fun t ht => S.old t (List.mem_filter.1 ht).1, act := fun t ht => S.act t (List.mem_filter.1 ht).1 }
  show X.txs.filter _ = (Y.txs.filter _).filter _
  rw [S.txs, List.filter_filter, List.filter_filter]
  exact List.filter_congr (fun t _ => Bool.and_comm _ _)

theorem Sim.readR (S : Sim X Y M F) {t : Tx} (ht : t ∈ Y.txs) (hc : t.cm = 0) (e : Ent) (hroom : (Y.nReads : Int) < Y.c2) : (X.readR t e).1 = (Y.readR t e).1 ∧ Sim (X.readR t e).2 (Y.readR t e).2 M F := by
  have r1 : Y.room t e = true := by unfold Abs.room; rw [Bool.or_eq_true]; exact .inr (by simpa using hroom)
  have r2 : X.room t e = true := by
    unfold Abs.room
    rw [Bool.or_eq_true]
    have := S.reads
    exact .inr (by rw [S.c2]; simp only [decide_eq_true_eq]; omega)
  unfold Abs.readR
  have n1 : ¬ Y.room t e = false := by rw [r1]; simp
  have n2 : ¬ X.room t e = false := by rw [r2]; simp
  simp only [n1, n2]
  rw [S.okR ht hc e]
  by_cases hok : Y.okR t e = false
  · rw [if_pos hok, if_pos hok]; exact ⟨rfl, S.without _⟩
  · rw [if_neg hok, if_neg hok]
    refine ⟨rfl, ?_⟩
    have e1 : X.txs.any (passB t (wroteT e)) = Y.txs.any (passB t (wroteT e)) := S.any_eq _ (S.pass ht hc _)
    show Sim { X with txs := X.txs.map (readX (X.txs.any (passB t (wroteT e))) t e) } _ M F
    rw [e1]
    exact S.mapT _ (fun _ => rfl) (fun _ => rfl) (fun _ => rfl)

theorem Sim.getR (S : Sim X Y M F) (h : Int) (k : ByteArray) (hroom : (Y.nReads : Int) < Y.c2) : (X.getR h k).1 = (Y.getR h k).1 ∧ Sim (X.getR h k).2 (Y.getR h k).2 M F := by
  unfold Abs.getR
  rw [S.act_eq h]
  cases ha : Y.act? h with
  | none => exact ⟨rfl, S⟩
  | some t =>
    obtain ⟨m1, m2, m3⟩ := act_mem' ha
    simp only
    by_cases hk : keyB k = false
    · rw [if_pos hk, if_pos hk]; exact ⟨rfl, S⟩
    · rw [if_neg hk, if_neg hk]
      cases look t.wr k with
      | some c => exact ⟨rfl, S⟩
      | none =>
        obtain ⟨h1, h2⟩ := S.readR m1 m3 (keyE k) hroom
        simp only
        rw [h1, (S.vs k t.bg (S.act t m1 m3)).1]
        by_cases h0 : (Y.readR t (keyE k)).1 = 0
        · rw [if_pos h0, if_pos h0]; exact ⟨rfl, h2⟩
        · rw [if_neg h0, if_neg h0]; exact ⟨rfl, h2⟩

theorem Sim.scanR (S : Sim X Y M F) (h : Int) (lo hi : ByteArray) (hroom : (Y.nReads : Int) < Y.c2) : (X.scanR h lo hi).1 = (Y.scanR h lo hi).1 ∧ Sim (X.scanR h lo hi).2 (Y.scanR h lo hi).2 M F := by
  unfold Abs.scanR
  rw [S.act_eq h]
  cases ha : Y.act? h with
  | none => exact ⟨rfl, S⟩
  | some t =>
    obtain ⟨m1, m2, m3⟩ := act_mem' ha
    simp only
    by_cases hk : rangeE lo hi ≠ 0
    · rw [if_pos hk, if_pos hk]; exact ⟨rfl, S⟩
    · rw [if_neg hk, if_neg hk]
      obtain ⟨h1, h2⟩ := S.readR m1 m3 (rangeEnt lo hi) hroom
      rw [h1]
      by_cases h0 : (Y.readR t (rangeEnt lo hi)).1 = 0
      · rw [if_pos h0, if_pos h0]; exact ⟨rfl, h2⟩
      · rw [if_neg h0, if_neg h0]; exact ⟨rfl, h2⟩

theorem bytes_eq {a b : ByteArray} (h : a.data.toList = b.data.toList) : a = b := by
  cases a with | mk a => cases b with | mk b => simp at h; rw [h]

theorem leB_antisymm {a b : ByteArray} (h1 : leB a b) (h2 : leB b a) : a = b := bytes_eq (List.le_antisymm h1 h2)

/-- what two scans tell that see the same -/
theorem ScanIs.eq {a b : Abs} {t u : Tx} {e : Ent} {l m : List (ByteArray × ByteArray)} (h1 : ScanIs a t e l) (h2 : ScanIs b u e m) (hc : ∀ k, a.content t k = b.content u k) : l = m := by
  have hn : ∀ {l : List (ByteArray × ByteArray)}, (l.Pairwise fun p q => leB p.1 q.1 ∧ p.1 ≠ q.1) → l.Nodup := fun h => List.nodup_iff_pairwise_ne.2 (h.imp (fun ⟨_, h⟩ e => h (by rw [e])))
  have hp : l.Perm m := (List.perm_ext_iff_of_nodup (hn h1.sorted) (hn h2.sorted)).2 (fun p => by
    obtain ⟨k, v⟩ := p
    rw [h1.mem, h2.mem, hc])
  refine hp.eq_of_pairwise (le := fun p q => leB p.1 q.1 ∧ p.1 ≠ q.1) ?_ h1.sorted h2.sorted
  rintro p q _ _ ⟨a1, a2⟩ ⟨b1, _⟩
  exact absurd (leB_antisymm a1 b1) a2

theorem Sim.scan_eq (S : Sim X Y M F) {h : Int} {lo hi : ByteArray} (hroom : (Y.nReads : Int) < Y.c2) {l m : List (ByteArray × ByteArray)} (h1 : ScanAns X (X.scanR h lo hi) (rangeEnt lo hi) l) (h2 : ScanAns Y (Y.scanR h lo hi) (rangeEnt lo hi) m) : l = m := by
  have he := (S.scanR h lo hi hroom).1
  cases hs : (Y.scanR h lo hi).1.2 with
  | none => rw [h1.no (by rw [he]; exact hs), h2.no hs]
  | some t =>
    have hx := h1.yes t (by rw [he]; exact hs)
    have hy := h2.yes t hs
    have hact : Y.act? h = some t := by
      unfold Abs.scanR at hs
      cases ha : Y.act? h with
      | none => rw [ha] at hs; cases hs
      | some u =>
        rw [ha] at hs
        simp only at hs
        split at hs
        · cases hs
        · split at hs
          · exact hs
          · cases hs
    obtain ⟨m1, m2, m3⟩ := act_mem' hact
    refine hx.eq hy (fun k => ?_)
    unfold Abs.content
    rw [(S.vs k t.bg (S.act t m1 m3)).1]

theorem Sim.writeR (S : Sim X Y M F) (h : Int) (cs : List Chg) : (X.writeR h cs).1 = (Y.writeR h cs).1 ∧ Sim (X.writeR h cs).2 (Y.writeR h cs).2 M F := by
  unfold Abs.writeR
  rw [S.act_eq h, S.c3]
  cases ha : Y.act? h with
  | none => exact ⟨rfl, S⟩
  | some t =>
    obtain ⟨m1, m2, m3⟩ := act_mem' ha
    simp only
    by_cases h1 : changesE cs ≠ 0
    · rw [if_pos h1, if_pos h1]; exact ⟨rfl, S⟩
    · rw [if_neg h1, if_neg h1]
      by_cases h2 : Y.c3 < (t.keysWith cs : Int)
      · rw [if_pos h2, if_pos h2]; exact ⟨rfl, S⟩
      · rw [if_neg h2, if_neg h2, S.clash m1 m3 cs, S.okW m1 m3 cs]
        by_cases h3 : Y.clash t cs = true
        · rw [if_pos h3, if_pos h3]; exact ⟨rfl, S.without _⟩
        · rw [if_neg h3, if_neg h3]
          by_cases h4 : Y.okW t cs = false
          · rw [if_pos h4, if_pos h4]; exact ⟨rfl, S.without _⟩
          · rw [if_neg h4, if_neg h4]
            refine ⟨rfl, ?_⟩
            have e1 : X.txs.any (passB t (readT cs)) = Y.txs.any (passB t (readT cs)) := S.any_eq _ (S.pass m1 m3 _)
            show Sim { X with txs := X.txs.map (writeX (X.txs.any (passB t (readT cs))) t cs) } _ M F
            rw [e1]
            exact S.mapT _ (fun _ => rfl) (fun _ => rfl) (fun _ => rfl)

theorem Sim.abortR (S : Sim X Y M F) (h : Int) : (X.abortR h).1 = (Y.abortR h).1 ∧ Sim (X.abortR h).2 (Y.abortR h).2 M F := by
  unfold Abs.abortR
  rw [S.act_eq h]
  cases ha : Y.act? h with
  | none => exact ⟨rfl, S⟩
  | some t => exact ⟨rfl, S.without _⟩

theorem Sim.beginR (S : Sim X Y M F) (hroom : (Y.txs.length : Int) < Y.c1) : X.beginR.1 = Y.beginR.1 ∧ Y.beginR.1.2 = 0 ∧ Sim X.beginR.2 Y.beginR.2 M F := by
  have hl : X.txs.length ≤ Y.txs.length := by rw [S.txs]; exact List.length_filter_le _ _
  unfold Abs.beginR
  rw [if_neg (by rw [S.c1]; omega), if_neg (by omega), S.begun, S.clock]
  refine ⟨rfl, rfl, { S with begun := rfl, clock := rfl, txs := ?_, old := fun t ht hf => ?_, act := fun t ht hc => ?_, fb := fun h hf => ?_ }⟩
  · show X.txs ++ [_] = (Y.txs ++ [_]).filter _
    rw [List.filter_append, S.txs]
    congr 1
    have : F (Y.begun + 1) = false := by
      cases hf : F (Y.begun + 1) with
      | false => rfl
      | true => have := S.fb _ hf; omega
    simp [this]
  · have ht' : t ∈ Y.txs ++ [⟨Y.begun + 1, Y.clock, 0, [], [], false, false⟩] := ht
    rcases List.mem_append.1 ht' with h | h
    · exact S.old t h hf
    · simp at h; subst h
      have := S.fb _ hf
      simp only at this; omega
  · have ht' : t ∈ Y.txs ++ [⟨Y.begun + 1, Y.clock, 0, [], [], false, false⟩] := ht
    rcases List.mem_append.1 ht' with h | h
    · exact S.act t h hc
    · simp at h; subst h; exact S.clk
  · have := S.fb h hf
    show h ≤ Y.begun + 1
    omega

theorem look_perm {β : Type} {l m : List (ByteArray × β)} (hp : l.Perm m) (hn : (m.map (·.1)).Nodup) (k : ByteArray) : look l k = look m k := by
  have hnl : (l.map (·.1)).Nodup := (hp.map (·.1)).nodup_iff.2 hn
  cases h : look m k with
  | none => exact lookup_none_of (fun p hpm => look_none_mem h p (hp.mem_iff.1 hpm))
  | some v =>
    obtain ⟨j, hj⟩ := List.getElem?_of_mem (hp.mem_iff.2 (lookup_mem h))
    exact lookup_at hnl hj

theorem CommIs.vs_eq {a a' : Abs} {t : Tx} (C : CommIs a t a') (hn : (t.wr.map (·.1)).Nodup) (k : ByteArray) : a'.vs k = a.vs k ++ ((look t.wr k).toList.map fun ct => (a.clock + 1, ct)) := by
  obtain ⟨done, hd, hv⟩ := C.vers
  unfold Abs.vs
  rw [hv, addAll_look _ _ _ _ ((hd.map (·.1)).nodup_iff.2 hn), look_perm hd hn]

theorem Sim.comm (S : Sim X Y M F) {X' Y' : Abs} {t : Tx} (hn : (t.wr.map (·.1)).Nodup) (hc0 : 0 ≤ Y.clock) (CX : CommIs X t X') (CY : CommIs Y t Y') (hF : F t.h = false) : Sim X' Y' M F := by
  obtain ⟨dx, px, vx⟩ := CX.vers
  obtain ⟨dy, py, vy⟩ := CY.vers
  refine ⟨by rw [CX.c1, CY.c1, S.c1], by rw [CX.c2, CY.c2, S.c2], by rw [CX.c3, CY.c3, S.c3], by rw [CX.c4, CY.c4, S.c4], by rw [CX.clock, CY.clock, S.clock], by rw [CX.begun, CY.begun, S.begun], ?_, fun x hx hf => ?_, fun x hx hc => ?_, ?_, fun h hf => by rw [CY.begun]; exact S.fb h hf, fun k => ?_, ?_⟩
  · rw [CX.txs, CY.txs, commA_txs, commA_txs, S.txs, S.clock, List.filter_map]
    congr 1
    exact List.filter_congr (fun x _ => by simp only [Function.comp, commX_h])
  · rw [CY.txs, commA_txs] at hx
    obtain ⟨y, hy, rfl⟩ := List.mem_map.1 hx
    rw [commX_h] at hf
    have hne : y.h ≠ t.h := fun e => by rw [e, hF] at hf; cases hf
    have e : commX (Y.clock + 1) t.h y = y := by unfold commX; rw [if_neg hne]
    rw [e]; exact S.old y hy hf
  · rw [CY.txs, commA_txs] at hx
    obtain ⟨y, hy, rfl⟩ := List.mem_map.1 hx
    rw [commX_bg]
    by_cases e : y.h = t.h
    · unfold commX at hc
      rw [if_pos e] at hc
      simp only at hc; omega
    · unfold commX at hc
      rw [if_neg e] at hc
      exact S.act y hy hc
  · rw [CY.clock]; have := S.clk; omega
  · rw [CX.vs_eq hn, CY.vs_eq hn, S.clock]
    exact (S.vs k).append _
  · rw [vx, vy, addAll_tot, addAll_tot, px.length_eq, py.length_eq]
    have := S.tot; omega

theorem dropA_look {m : Int} : ∀ {V : List (ByteArray × List Ver)} (k : ByteArray), (V.map (·.1)).Nodup → (look (V.filterMap (dropA m)) k).getD [] = dropL m ((look V k).getD [])
  | [], k, _ => by simp [look, dropL]
  | p :: r, k, hn => by
    simp only [List.map_cons, List.nodup_cons] at hn
    have ih := dropA_look (m := m) (V := r) k hn.2
    cases h : dropA m p with
    | none =>
      rw [List.filterMap_cons_none h]
      have hd : dropL m p.2 = [] := by
        unfold dropA at h
        split at h
        · assumption
        · cases h
      by_cases e : p.1 = k
      · have hno : look r k = none := lookup_none_of (fun q hq e' => hn.1 (List.mem_map.2 ⟨q, hq, by rw [e', e]⟩))
        rw [ih, hno]
        simp only [look, e, if_true, Option.getD_some, Option.getD_none, hd]
        simp [dropL]
      · rw [ih]; simp only [look, e, if_false]
    | some q =>
      obtain ⟨h1, h2, _⟩ := dropA_some h
      rw [List.filterMap_cons_some h]
      by_cases e : p.1 = k
      · simp only [look, h1, e, if_true, Option.getD_some, h2]
      · have e' : ¬ q.1 = k := by rw [h1]; exact e
        simp only [look, e, e', if_false]; exact ih

theorem CleanIs.vs_eq {a a' : Abs} {m : Int} (C : CleanIs a m a') (hn : (a.vers.map (·.1)).Nodup) (k : ByteArray) : a'.vs k = dropL m (a.vs k) := by
  unfold Abs.vs
  rw [look_perm C.vers (drop_keys m hn), dropA_look k hn]

theorem Sim.clean (S : Sim X Y M F) {X' : Abs} {m n : Int} (I : X.Inv n) (C : CleanIs X m X') : ∃ F', Sim X' Y m F' := by
  have hMm : M ≤ m := by
    rcases C.mark.is with h | ⟨t, ht, hc, h⟩
    · rw [h, S.clock]; exact S.clk
    · rw [S.txs] at ht
      rw [h]; exact S.act t (List.mem_filter.1 ht).1 hc
  have hmc : m ≤ X.clock := by
    rcases C.mark.is with h | ⟨t, ht, hc, h⟩
    · omega
    · rw [h]; exact (I.bgs t ht).2
  refine ⟨fun h => F h || (X.txs.any fun t => decide (t.h = h) && t.old m), ?_⟩
  have hold : ∀ t ∈ X.txs, ∀ x ∈ X.txs, x.h = t.h → x = t := fun t ht x hx e => nodup_map_inj I.nd hx ht e
  refine ⟨by rw [C.c1, S.c1], by rw [C.c2, S.c2], by rw [C.c3, S.c3], by rw [C.c4, S.c4], by rw [C.clock, S.clock], by rw [C.begun, S.begun], ?_, fun t ht hf => ?_, fun t ht hc => ?_, by rw [← S.clock]; exact hmc, fun h hf => ?_, fun k => ?_, ?_⟩
  · rw [C.txs]
    have e : ∀ t ∈ X.txs, (X.txs.any fun u => decide (u.h = t.h) && u.old m) = t.old m := fun t ht => by
      rw [Bool.eq_iff_iff, List.any_eq_true]
      constructor
      · rintro ⟨u, hu, h1⟩
        simp only [Bool.and_eq_true, decide_eq_true_eq] at h1
        rw [← hold t ht u hu h1.1]; exact h1.2
      · intro h1; exact ⟨t, ht, by simp [h1]⟩
    have e2 : X.txs.filter (fun t => !t.old m) = X.txs.filter (fun t => !(X.txs.any fun u => decide (u.h = t.h) && u.old m)) := List.filter_congr (fun t ht => by rw [e t ht])
    rw [e2]
    have e3 : ∀ g : Tx → Bool, X.txs.filter (fun t => !g t) = Y.txs.filter (fun t => !(F t.h || g t)) := fun g => by
      rw [S.txs, List.filter_filter]
      refine List.filter_congr (fun t _ => ?_)
      rw [Bool.not_or]
      exact Bool.and_comm _ _
    exact e3 (fun t => X.txs.any fun u => decide (u.h = t.h) && u.old m)
  · simp only [Bool.or_eq_true] at hf
    rcases hf with h | h
    · have := S.old t ht h; exact ⟨this.1, by omega⟩
    · obtain ⟨u, hu, h1⟩ := List.any_eq_true.1 h
      simp only [Bool.and_eq_true, decide_eq_true_eq] at h1
      by_cases hft : F t.h = true
      · have := S.old t ht hft; exact ⟨this.1, by omega⟩
      · have htx : t ∈ X.txs := by rw [S.txs]; exact List.mem_filter.2 ⟨ht, by simp [hft]⟩
        have : u = t := hold t htx u hu h1.1
        subst this
        have h2 := h1.2
        unfold Tx.old at h2
        simp only [Bool.and_eq_true, Bool.not_eq_true', beq_eq_false_iff_ne, decide_eq_true_eq] at h2
        exact h2
  · have hft : F t.h = false := by
      cases hf : F t.h with
      | false => rfl
      | true => exact absurd hc (S.old t ht hf).1
    have htx : t ∈ X.txs := by rw [S.txs]; exact List.mem_filter.2 ⟨ht, by simp [hft]⟩
    exact C.mark.le t htx hc
  · simp only [Bool.or_eq_true] at hf
    rcases hf with h1 | h1
    · exact S.fb h h1
    · obtain ⟨u, hu, h2⟩ := List.any_eq_true.1 h1
      simp only [Bool.and_eq_true, decide_eq_true_eq] at h2
      have := (I.hs u hu).2
      rw [← h2.1, ← S.begun]; exact this
  · rw [C.vs_eq I.vnd]
    have hg : ∀ x ∈ X.vs k, x.2.2 = true → x.2.1 = (⟨#[]⟩ : ByteArray) := fun x hx => by
      unfold Abs.vs at hx
      cases hl : look X.vers k with
      | none => rw [hl] at hx; simp at hx
      | some vs => rw [hl] at hx; exact I.vgone _ (lookup_mem hl) x hx
    intro b hb
    have h1 := dropL_sim hg b hb
    have h2 := S.vs k b (by omega)
    exact ⟨h1.1.trans h2.1, h1.2.trans h2.2⟩
  · have h1 := totV_perm C.vers
    have h2 := totV_drop m X.vers
    have := S.tot; omega

end Go.Proofs.YthfimgeopciiiaaGreat
