/-
  The book, of plain data, beside a store's abstraction. No world, no program.
-/
import Derived.Test.YthfimgeopciiiaaGreatSim
import Derived.Test.YthfimgeopciiiaaGreatBookT
namespace Go.Proofs.YthfimgeopciiiaaGreat
set_option linter.unusedVariables false

/-- what is seen of a content -/
def seen (c : Cont) : Option ByteArray := if c.2 then none else some c.1

/-! ### the book -/

structure Deal where
  active : Bool
  bg : Int
  now : Tab
  keys : List ByteArray

structure Bk where
  deals : List Deal
  t : Tab
  commits : List (List ByteArray)

def laterB (cs : List (List ByteArray)) (b : Int) (k : ByteArray) : Bool := (cs.drop b.toNat).any fun l => hasB l k

structure DealIs (a : Abs) (t : Tx) (d : Deal) : Prop where
  active : d.active = true
  bg : d.bg = t.bg
  sorted : SortedT d.now
  now : ∀ k, look d.now k = seen (a.content t k)
  keys : ∀ k, hasB d.keys k = (look t.wr k).isSome

structure BkIs (a : Abs) (B : Bk) (M : Int) : Prop where
  len : (B.deals.length : Int) = a.begun
  clk : (B.commits.length : Int) = a.clock
  act : ∀ t ∈ a.txs, t.cm = 0 → ∃ d, B.deals[(t.h - 1).toNat]? = some d ∧ DealIs a t d
  idle : ∀ (i : Nat) d, B.deals[i]? = some d → d.active = true → ∃ t ∈ a.txs, t.cm = 0 ∧ t.h = (i : Int) + 1
  sorted : SortedT B.t
  tab : ∀ k, look B.t k = seen (snap (a.vs k) a.clock)
  M0 : 0 ≤ M
  Mc : M ≤ a.clock
  Ma : ∀ t ∈ a.txs, t.cm = 0 → M ≤ t.bg
  newer : ∀ k b, M ≤ b → newerB (a.vs k) b = laterB B.commits b k
  disj : ∀ t ∈ a.txs, ∀ u ∈ a.txs, t.cm = 0 → u.cm = 0 → t.h ≠ u.h → ∀ k, (look t.wr k).isSome = true → look u.wr k = none
  fresh : ∀ t ∈ a.txs, t.cm = 0 → ∀ k, (look t.wr k).isSome = true → newerB (a.vs k) t.bg = false

theorem uniq_h : ∀ {l : List Tx}, (l.map (·.h)).Nodup → ∀ {x y : Tx}, x ∈ l → y ∈ l → x.h = y.h → x = y
  | p :: r, hn, x, y, hx, hy, e => by
    rw [List.map_cons, List.nodup_cons] at hn
    rcases List.mem_cons.1 hx with ex | hx'
    · rcases List.mem_cons.1 hy with ey | hy'
      · rw [ex, ey]
      · exact (hn.1 (by rw [← ex, e]; exact List.mem_map_of_mem (f := fun t : Tx => t.h) hy')).elim
    · rcases List.mem_cons.1 hy with ey | hy'
      · exact (hn.1 (by rw [← ey, ← e]; exact List.mem_map_of_mem (f := fun t : Tx => t.h) hx')).elim
      · exact uniq_h hn.2 hx' hy' e

end Go.Proofs.YthfimgeopciiiaaGreat

/-
  The book is kept by every call of the store. No world, no program.
-/
namespace Go.Proofs.YthfimgeopciiiaaGreat
set_option linter.unusedVariables false

theorem modify_at {α : Type} (l : List α) (i j : Nat) (f : α → α) : (l.modify i f)[j]? = if i = j then (l[j]?).map f else l[j]? := by
  rw [List.getElem?_modify]
  by_cases h : i = j
  · simp [h]
  · simp [h]

theorem newer_false {vs : List Ver} {b : Int} (h : newerB vs b = false) : ∀ x ∈ vs, x.1 ≤ b := fun x hx => by
  unfold newerB at h
  rw [List.any_eq_false] at h
  have := h x hx
  simp at this
  exact this

theorem snap_stamps : ∀ {vs : List Ver} {b c : Int}, (∀ x ∈ vs, x.1 ≤ b) → b ≤ c → snap vs c = snap vs b := by
  intro vs b c h hbc
  unfold snap
  generalize ((⟨#[]⟩, true) : Cont) = z
  induction vs generalizing z with
  | nil => rfl
  | cons x r ih =>
    simp only [List.foldl_cons]
    have hx := h x (by simp)
    have e : snapF c z x = snapF b z x := by unfold snapF; rw [if_pos (by omega), if_pos hx]
    rw [e]
    exact ih (fun y hy => h y (by simp [hy])) _

theorem snap_new (vs : List Ver) (n : Int) (c : Cont) (b : Int) : snap (vs ++ [(n, c)]) b = if n ≤ b then c else snap vs b := by
  rw [snap_append]
  simp [snapF]

theorem later_end {cs : List (List ByteArray)} {b : Int} (h : (cs.length : Int) ≤ b) (k : ByteArray) : laterB cs b k = false := by
  unfold laterB
  rw [List.drop_eq_nil_of_le (by omega)]
  rfl

theorem BkIs.stamps {a : Abs} {B : Bk} {M : Int} (h : BkIs a B M) (k : ByteArray) : ∀ x ∈ a.vs k, x.1 ≤ a.clock :=
  newer_false ((h.newer k a.clock h.Mc).trans (later_end (by rw [h.clk]; exact Int.le_refl _) k))

theorem BkIs.begin {a : Abs} {B : Bk} {M n : Int} (h : BkIs a B M) (I : a.Inv n) (hroom : ¬ a.c1 ≤ a.txs.length) :
    BkIs a.beginR.2 ⟨B.deals ++ [⟨true, B.commits.length, B.t, []⟩], B.t, B.commits⟩ M := by
  have e : a.beginR.2 = { a with begun := a.begun + 1, txs := a.txs ++ [a.newTx] } := by unfold Abs.beginR; rw [if_neg hroom]; rfl
  rw [e]
  have hb := I.begun
  have hmem : ∀ t, t ∈ a.txs ++ [a.newTx] → t ∈ a.txs ∨ t = a.newTx := fun t ht => by simpa using ht
  refine ⟨?_, h.clk, ?_, ?_, h.sorted, h.tab, h.M0, h.Mc, ?_, h.newer, ?_, ?_⟩
  · show ((B.deals ++ [_]).length : Int) = a.begun + 1
    rw [List.length_append, ← h.len]; simp
  · intro t ht hc
    rcases hmem t ht with ht | rfl
    · obtain ⟨d, hd, hD⟩ := h.act t ht hc
      refine ⟨d, ?_, ⟨hD.active, hD.bg, hD.sorted, hD.now, hD.keys⟩⟩
      rw [List.getElem?_append_left ((List.getElem?_eq_some_iff.1 hd).1)]
      exact hd
    · refine ⟨⟨true, B.commits.length, B.t, []⟩, ?_, ⟨rfl, ?_, h.sorted, ?_, fun k => rfl⟩⟩
      · show (B.deals ++ [_])[(a.begun + 1 - 1).toNat]? = _
        rw [← h.len, show ((B.deals.length : Int) + 1 - 1).toNat = B.deals.length by omega]
        simp
      · exact h.clk
      · exact fun k => h.tab k
  · intro i d hd ha
    by_cases hi : i < B.deals.length
    · rw [List.getElem?_append_left hi] at hd
      obtain ⟨t, ht, h1, h2⟩ := h.idle i d hd ha
      exact ⟨t, by simp [ht], h1, h2⟩
    · have hi' : i = B.deals.length := by
        have := (List.getElem?_eq_some_iff.1 hd).1
        simp at this; omega
      exact ⟨a.newTx, by simp, rfl, by show a.begun + 1 = _; rw [hi', h.len]⟩
  · intro t ht hc
    rcases hmem t ht with ht | rfl
    · exact h.Ma t ht hc
    · exact h.Mc
  · intro t ht u hu hct hcu hne k hk
    rcases hmem t ht with ht | rfl
    · rcases hmem u hu with hu | rfl
      · exact h.disj t ht u hu hct hcu hne k hk
      · rfl
    · simp [Abs.newTx, look] at hk
  · intro t ht hc k hk
    rcases hmem t ht with ht | rfl
    · exact h.fresh t ht hc k hk
    · simp [Abs.newTx, look] at hk

/-- the transactions turn, but not in what the book knows of them -/
theorem BkIs.mapT {a : Abs} {B : Bk} {M : Int} (h : BkIs a B M) (f : Tx → Tx) (hh : ∀ t, (f t).h = t.h) (hb : ∀ t, (f t).bg = t.bg) (hc : ∀ t, (f t).cm = t.cm) (hw : ∀ t ∈ a.txs, (f t).wr = t.wr) :
    BkIs { a with txs := a.txs.map f } B M := by
  have hm : ∀ t, t ∈ a.txs.map f → ∃ u ∈ a.txs, t = f u := fun t ht => by obtain ⟨u, hu, e⟩ := List.mem_map.1 ht; exact ⟨u, hu, e.symm⟩
  refine ⟨h.len, h.clk, ?_, ?_, h.sorted, h.tab, h.M0, h.Mc, ?_, h.newer, ?_, ?_⟩
  · intro t ht hc'
    obtain ⟨u, hu, rfl⟩ := hm t ht
    obtain ⟨d, hd, hD⟩ := h.act u hu (by rw [← hc]; exact hc')
    refine ⟨d, by rw [hh]; exact hd, ⟨hD.active, by rw [hb]; exact hD.bg, hD.sorted, fun k => ?_, fun k => by rw [hw u hu]; exact hD.keys k⟩⟩
    have := hD.now k
    unfold Abs.content at this ⊢
    rw [hw u hu, hb]
    exact this
  · intro i d hd ha
    obtain ⟨t, ht, h1, h2⟩ := h.idle i d hd ha
    exact ⟨f t, List.mem_map.2 ⟨t, ht, rfl⟩, by rw [hc]; exact h1, by rw [hh]; exact h2⟩
  · intro t ht hc'
    obtain ⟨u, hu, rfl⟩ := hm t ht
    rw [hb]; exact h.Ma u hu (by rw [← hc]; exact hc')
  · intro t ht u hu hct hcu hne k hk
    obtain ⟨x, hx, rfl⟩ := hm t ht
    obtain ⟨y, hy, rfl⟩ := hm u hu
    rw [hw x hx] at hk
    rw [hw y hy]
    exact h.disj x hx y hy (by rw [← hc]; exact hct) (by rw [← hc]; exact hcu) (by rw [← hh x, ← hh y]; exact hne) k hk
  · intro t ht hc' k hk
    obtain ⟨u, hu, rfl⟩ := hm t ht
    rw [hw u hu] at hk
    rw [hb]
    exact h.fresh u hu (by rw [← hc]; exact hc') k hk

def Bk.off (B : Bk) (h : Int) : Bk := { B with deals := B.deals.modify (h - 1).toNat fun d => { d with active := false } }

/-- one is gone -/
theorem BkIs.without {a : Abs} {B : Bk} {M n : Int} (h : BkIs a B M) (I : a.Inv n) (j : Int) (hj : 1 ≤ j) : BkIs (a.without j) (B.off j) M := by
  have hm : ∀ t, t ∈ (a.without j).txs → t ∈ a.txs ∧ t.h ≠ j := fun t ht => by
    have := List.mem_filter.1 ht
    exact ⟨this.1, by simpa using this.2⟩
  refine ⟨?_, h.clk, ?_, ?_, h.sorted, h.tab, h.M0, h.Mc, fun t ht => h.Ma t (hm t ht).1, h.newer, ?_, fun t ht => h.fresh t (hm t ht).1⟩
  · show ((B.deals.modify _ _).length : Int) = a.begun
    rw [List.length_modify]; exact h.len
  · intro t ht hc
    obtain ⟨ht, hne⟩ := hm t ht
    obtain ⟨d, hd, hD⟩ := h.act t ht hc
    have h1 := (I.hs t ht).1
    refine ⟨d, ?_, ⟨hD.active, hD.bg, hD.sorted, hD.now, hD.keys⟩⟩
    show (B.deals.modify (j - 1).toNat _)[(t.h - 1).toNat]? = some d
    rw [modify_at, hd, if_neg (by omega)]
  · intro i d hd ha
    have hd' : (B.deals.modify (j - 1).toNat fun d => { d with active := false })[i]? = some d := hd
    rw [modify_at] at hd'
    by_cases hi : (j - 1).toNat = i
    · rw [if_pos hi] at hd'
      cases hb : B.deals[i]? with
      | none => rw [hb] at hd'; cases hd'
      | some d0 =>
        rw [hb] at hd'
        have := Option.some.inj hd'
        subst this
        cases ha
    · rw [if_neg hi] at hd'
      have hd2 : B.deals[i]? = some d := by
        cases hb : B.deals[i]? with
        | none => rw [hb] at hd'; cases hd'
        | some d0 => rw [hb] at hd'; exact hd'
      obtain ⟨t, ht, h1, h2⟩ := h.idle i d hd2 ha
      exact ⟨t, List.mem_filter.2 ⟨ht, by simp; omega⟩, h1, h2⟩
  · intro t ht u hu
    exact h.disj t (hm t ht).1 u (hm u hu).1

/-- cleaned up -/
theorem BkIs.clean {a a' : Abs} {B : Bk} {M n m : Int} (h : BkIs a B M) (I : a.Inv n) (C : CleanIs a m a') : BkIs a' B m := by
  have hMm : M ≤ m := by
    rcases C.mark.is with e | ⟨t, ht, hc, e⟩
    · rw [e]; exact h.Mc
    · rw [e]; exact h.Ma t ht hc
  have hmc : m ≤ a.clock := by
    rcases C.mark.is with e | ⟨t, ht, hc, e⟩
    · omega
    · rw [e]; exact (I.bgs t ht).2
  have hv : ∀ k, VSim m (a'.vs k) (a.vs k) := fun k => by
    rw [C.vs_eq I.vnd k]
    refine dropL_sim fun x hx hg => ?_
    unfold Abs.vs at hx
    cases hl : look a.vers k with
    | none => rw [hl] at hx; simp at hx
    | some vs =>
      rw [hl] at hx
      exact I.vgone (k, vs) (lookup_mem hl) x hx hg
  have hm : ∀ t, t ∈ a'.txs → t ∈ a.txs := fun t ht => by rw [C.txs] at ht; exact (List.mem_filter.1 ht).1
  refine ⟨by rw [C.begun]; exact h.len, by rw [C.clock]; exact h.clk, ?_, ?_, h.sorted, ?_, by have := h.M0; omega, by rw [C.clock]; exact hmc, fun t ht hc => C.mark.le t (hm t ht) hc, ?_, fun t ht u hu => h.disj t (hm t ht) u (hm u hu), ?_⟩
  · intro t ht hc
    obtain ⟨d, hd, hD⟩ := h.act t (hm t ht) hc
    refine ⟨d, hd, ⟨hD.active, hD.bg, hD.sorted, fun k => ?_, hD.keys⟩⟩
    rw [hD.now k]
    unfold Abs.content
    rw [(hv k t.bg (C.mark.le t (hm t ht) hc)).1]
  · intro i d hd ha
    obtain ⟨t, ht, h1, h2⟩ := h.idle i d hd ha
    exact ⟨t, by rw [C.txs]; exact List.mem_filter.2 ⟨ht, by simp [Tx.old, h1]⟩, h1, h2⟩
  · intro k
    rw [h.tab k, C.clock, (hv k a.clock hmc).1]
  · intro k b hb
    rw [(hv k b hb).2]
    exact h.newer k b (by omega)
  · intro t ht hc k hk
    rw [(hv k t.bg (C.mark.le t (hm t ht) hc)).2]
    exact h.fresh t (hm t ht) hc k hk

/-- one change to a table -/
def applyC (t : Tab) (c : Chg) : Tab := if c.2.2 then tdrop t c.1 else tput t c.1 c.2.1

theorem applyC_look (t : Tab) (c : Chg) (k : ByteArray) : look (applyC t c) k = if k = c.1 then seen (contOf c) else look t k := by
  unfold applyC contOf seen
  cases hg : c.2.2
  · simp [tput_look]
  · simp [tdrop_look]

theorem applyC_sorted {t : Tab} (h : SortedT t) (c : Chg) : SortedT (applyC t c) := by
  unfold applyC
  split
  · exact tdrop_sorted h _
  · exact tput_sorted h _ _

theorem apply_all {z : ByteArray → Cont} : ∀ (cs : List Chg) (wr : List (ByteArray × Cont)) (t : Tab), SortedT t → (∀ k, look t k = seen ((look wr k).getD (z k))) →
    SortedT (cs.foldl applyC t) ∧ ∀ k, look (cs.foldl applyC t) k = seen ((look (joinW wr cs) k).getD (z k))
  | [], _, _, hs, h => ⟨hs, h⟩
  | c :: r, wr, t, hs, h => by
    refine apply_all r (put wr c.1 (contOf c)) (applyC t c) (applyC_sorted hs c) fun k => ?_
    rw [applyC_look, look_put]
    by_cases hk : k = c.1
    · subst hk; simp
    · have : ¬ c.1 = k := fun e => hk e.symm
      simp [hk, this, h k]

theorem joinW_some : ∀ (cs : List Chg) (wr : List (ByteArray × Cont)) (k : ByteArray), (look (joinW wr cs) k).isSome = ((look wr k).isSome || hasB (cs.map (·.1)) k)
  | [], wr, k => by simp [joinW, hasB]
  | c :: r, wr, k => by
    have := joinW_some r (put wr c.1 (contOf c)) k
    have e : joinW wr (c :: r) = joinW (put wr c.1 (contOf c)) r := rfl
    rw [e, this, look_put]
    by_cases hk : c.1 = k <;> simp [hasB, hk]

theorem hasB_append (l m : List ByteArray) (k : ByteArray) : hasB (l ++ m) k = (hasB l k || hasB m k) := by simp [hasB]

def Bk.wrote (B : Bk) (h : Int) (cs : List Chg) : Bk := { B with deals := B.deals.modify (h - 1).toNat fun d => { d with now := cs.foldl applyC d.now, keys := d.keys ++ cs.map (·.1) } }

/-- what it wrote is its own -/
theorem BkIs.wrote {a : Abs} {B : Bk} {M n : Int} (h : BkIs a B M) (I : a.Inv n) {t : Tx} (ht : t ∈ a.txs) (hc : t.cm = 0) (cs : List Chg) (hcl : a.clash t cs = false) : BkIs (a.writeA t cs) (B.wrote t.h cs) M := by
  unfold Abs.writeA
  generalize a.txs.any (passB t (readT cs)) = any
  have h1 := (I.hs t ht).1
  have hwr : ∀ x ∈ a.txs, (writeX any t cs x).wr = if x.h = t.h then joinW t.wr cs else x.wr := fun x _ => rfl
  have hm : ∀ x, x ∈ a.txs.map (writeX any t cs) → ∃ u ∈ a.txs, x = writeX any t cs u := fun x hx => by obtain ⟨u, hu, e⟩ := List.mem_map.1 hx; exact ⟨u, hu, e.symm⟩
  have huniq : ∀ x ∈ a.txs, x.h = t.h → x = t := fun x hx e => uniq_h I.nd hx ht e
  rw [Abs.clash, List.any_eq_false] at hcl
  have hcl' : ∀ k, hasB (cs.map (·.1)) k = true → a.held t k = false ∧ newerB (a.vs k) t.bg = false := fun k hk => by
    simp only [hasB, List.any_map, List.any_eq_true, Function.comp, decide_eq_true_eq] at hk
    obtain ⟨c, hc, rfl⟩ := hk
    have := hcl c hc
    simpa using this
  have hheld : ∀ k, a.held t k = false → ∀ x ∈ a.txs, x.h ≠ t.h → x.cm = 0 → look x.wr k = none := fun k hk x hx hne hx0 => by
    rw [Abs.held, List.any_eq_false] at hk
    have := hk x hx
    simp [hne, hx0] at this
    exact this
  refine ⟨?_, h.clk, ?_, ?_, h.sorted, h.tab, h.M0, h.Mc, ?_, h.newer, ?_, ?_⟩
  · show ((B.deals.modify _ _).length : Int) = a.begun
    rw [List.length_modify]; exact h.len
  · intro x hx hx0
    obtain ⟨u, hu, rfl⟩ := hm x hx
    obtain ⟨d, hd, hD⟩ := h.act u hu hx0
    have hu1 := (I.hs u hu).1
    by_cases e : u.h = t.h
    · obtain rfl := huniq u hu e
      obtain ⟨g1, g2⟩ := apply_all (z := fun k => snap (a.vs k) u.bg) cs u.wr d.now hD.sorted hD.now
      refine ⟨{ d with now := cs.foldl applyC d.now, keys := d.keys ++ cs.map (·.1) }, ?_, ⟨hD.active, hD.bg, g1, fun k => ?_, fun k => ?_⟩⟩
      · show (B.deals.modify (u.h - 1).toNat _)[(u.h - 1).toNat]? = _
        rw [modify_at, hd, if_pos rfl]
        rfl
      · rw [g2 k]
        unfold Abs.content
        rw [hwr u hu, if_pos rfl]
        rfl
      · rw [hwr u hu, if_pos rfl, joinW_some, hasB_append, hD.keys]
    · refine ⟨d, ?_, ⟨hD.active, hD.bg, hD.sorted, fun k => ?_, fun k => ?_⟩⟩
      · show (B.deals.modify (t.h - 1).toNat _)[(u.h - 1).toNat]? = _
        rw [modify_at, hd, if_neg (by omega)]
      · rw [hD.now k]
        unfold Abs.content
        rw [hwr u hu, if_neg e]
        rfl
      · rw [hwr u hu, if_neg e]
        exact hD.keys k
  · intro i d hd ha
    have hd' : (B.deals.modify (t.h - 1).toNat fun d => { d with now := cs.foldl applyC d.now, keys := d.keys ++ cs.map (·.1) })[i]? = some d := hd
    rw [modify_at] at hd'
    cases hb : B.deals[i]? with
    | none => rw [hb] at hd'; simp at hd'
    | some d0 =>
      rw [hb] at hd'
      have ha0 : d0.active = true := by
        split at hd'
        · have := Option.some.inj hd'
          rw [← this] at ha
          exact ha
        · have := Option.some.inj hd'
          rw [← this] at ha
          exact ha
      obtain ⟨x, hx, g1, g2⟩ := h.idle i d0 hb ha0
      exact ⟨_, List.mem_map.2 ⟨x, hx, rfl⟩, g1, g2⟩
  · intro x hx hx0
    obtain ⟨u, hu, rfl⟩ := hm x hx
    exact h.Ma u hu hx0
  · intro x hx y hy hx0 hy0 hne k hk
    obtain ⟨u, hu, rfl⟩ := hm x hx
    obtain ⟨v, hv, rfl⟩ := hm y hy
    have hne' : u.h ≠ v.h := hne
    have hu0 : u.cm = 0 := hx0
    have hv0 : v.cm = 0 := hy0
    rw [hwr u hu] at hk
    rw [hwr v hv]
    by_cases eu : u.h = t.h
    · obtain rfl := huniq u hu eu
      rw [if_pos rfl, joinW_some, Bool.or_eq_true] at hk
      rw [if_neg (fun e => hne' e.symm)]
      rcases hk with hk | hk
      · exact h.disj u hu v hv hu0 hv0 hne' k hk
      · exact hheld k (hcl' k hk).1 v hv (fun e => hne' e.symm) hv0
    · rw [if_neg eu] at hk
      by_cases ev : v.h = t.h
      · obtain rfl := huniq v hv ev
        rw [if_pos rfl]
        cases hj : look (joinW v.wr cs) k with
        | none => rfl
        | some c =>
          exfalso
          have := joinW_some cs v.wr k
          rw [hj] at this
          have h2 : ((look v.wr k).isSome || hasB (cs.map (·.1)) k) = true := this.symm
          rw [Bool.or_eq_true] at h2
          rcases h2 with h2 | h2
          · have := h.disj v hv u hu hv0 hu0 (fun e => hne' e.symm) k h2
            rw [this] at hk; cases hk
          · have := hheld k (hcl' k h2).1 u hu hne' hu0
            rw [this] at hk; cases hk
      · rw [if_neg ev]
        exact h.disj u hu v hv hu0 hv0 hne' k hk
  · intro x hx hx0 k hk
    obtain ⟨u, hu, rfl⟩ := hm x hx
    rw [hwr u hu] at hk
    show newerB (a.vs k) u.bg = false
    by_cases eu : u.h = t.h
    · obtain rfl := huniq u hu eu
      rw [if_pos rfl, joinW_some, Bool.or_eq_true] at hk
      rcases hk with hk | hk
      · exact h.fresh u hu hx0 k hk
      · exact (hcl' k hk).2
    · rw [if_neg eu] at hk
      exact h.fresh u hu hx0 k hk

/-- what is committed of a key -/
def settle (now : Tab) (T : Tab) (k : ByteArray) : Tab := match look now k with | some v => tput T k v | none => tdrop T k

theorem settle_look (now T : Tab) (k x : ByteArray) : look (settle now T k) x = if x = k then look now k else look T x := by
  unfold settle
  cases hl : look now k with
  | none => rw [tdrop_look]
  | some v => rw [tput_look]

theorem settle_sorted {T : Tab} (now : Tab) (h : SortedT T) (k : ByteArray) : SortedT (settle now T k) := by
  unfold settle
  split
  · exact tput_sorted h _ _
  · exact tdrop_sorted h _

theorem settle_all (now : Tab) : ∀ (ks : List ByteArray) (T : Tab), SortedT T → SortedT (ks.foldl (settle now) T) ∧ ∀ x, look (ks.foldl (settle now) T) x = if hasB ks x then look now x else look T x
  | [], T, hs => ⟨hs, fun x => by simp [hasB]⟩
  | k :: r, T, hs => by
    obtain ⟨g1, g2⟩ := settle_all now r (settle now T k) (settle_sorted now hs k)
    refine ⟨g1, fun x => ?_⟩
    have e : hasB (k :: r) x = (decide (k = x) || hasB r x) := rfl
    rw [List.foldl_cons, g2 x, settle_look, e]
    by_cases hk : x = k
    · subst hk; simp
    · have : ¬ k = x := fun e => hk e.symm
      simp [hk, this]

def Bk.done (B : Bk) (h : Int) (d : Deal) : Bk := ⟨(B.off h).deals, d.keys.foldl (settle d.now) B.t, B.commits ++ [d.keys]⟩

/-- it is committed -/
theorem BkIs.comm {a a' : Abs} {B : Bk} {M n : Int} (h : BkIs a B M) (I : a.Inv n) {t : Tx} (ht : t ∈ a.txs) (hc : t.cm = 0) {d : Deal} (hd : B.deals[(t.h - 1).toNat]? = some d) (hD : DealIs a t d) (C : CommIs a t a') :
    BkIs a' (B.done t.h d) M := by
  have h1 := (I.hs t ht).1
  have hcl := I.clock
  have hvs := C.vs_eq (I.wnd t ht)
  have hm : ∀ x, x ∈ a'.txs → x.cm = 0 → x ∈ a.txs ∧ x.h ≠ t.h := fun x hx hx0 => by
    rw [C.txs, commA_txs] at hx
    obtain ⟨u, hu, rfl⟩ := List.mem_map.1 hx
    by_cases e : u.h = t.h
    · unfold commX at hx0
      rw [if_pos e] at hx0
      simp at hx0
      omega
    · have e2 : commX (a.clock + 1) t.h u = u := by unfold commX; rw [if_neg e]
      rw [e2]
      exact ⟨hu, e⟩
  have hsn : ∀ k b, b ≤ a.clock → snap (a'.vs k) b = snap (a.vs k) b := fun k b hb => by
    rw [hvs k]
    cases look t.wr k with
    | none => simp
    | some c => simp only [Option.toList_some, List.map_cons, List.map_nil, snap_new]; rw [if_neg (by omega)]
  obtain ⟨g1, g2⟩ := settle_all d.now d.keys B.t h.sorted
  refine ⟨?_, ?_, ?_, ?_, g1, ?_, h.M0, by rw [C.clock]; have := h.Mc; omega, fun x hx hx0 => h.Ma x (hm x hx hx0).1 hx0, ?_, ?_, ?_⟩
  · show ((B.deals.modify _ _).length : Int) = a'.begun
    rw [List.length_modify, C.begun]; exact h.len
  · show ((B.commits ++ [d.keys]).length : Int) = a'.clock
    rw [List.length_append, C.clock, ← h.clk]; rfl
  · intro x hx hx0
    obtain ⟨hx, hne⟩ := hm x hx hx0
    obtain ⟨e, he, hE⟩ := h.act x hx hx0
    have hx1 := (I.hs x hx).1
    refine ⟨e, ?_, ⟨hE.active, hE.bg, hE.sorted, fun k => ?_, hE.keys⟩⟩
    · show (B.deals.modify (t.h - 1).toNat _)[(x.h - 1).toNat]? = some e
      rw [modify_at, he, if_neg (by omega)]
    · rw [hE.now k]
      unfold Abs.content
      rw [hsn k x.bg (I.bgs x hx).2]
  · intro i e he ha
    have he' : (B.deals.modify (t.h - 1).toNat fun d => { d with active := false })[i]? = some e := he
    rw [modify_at] at he'
    by_cases hi : (t.h - 1).toNat = i
    · rw [if_pos hi] at he'
      cases hb : B.deals[i]? with
      | none => rw [hb] at he'; cases he'
      | some d0 =>
        rw [hb] at he'
        have := Option.some.inj he'
        subst this
        cases ha
    · rw [if_neg hi] at he'
      have he2 : B.deals[i]? = some e := by
        cases hb : B.deals[i]? with
        | none => rw [hb] at he'; cases he'
        | some d0 => rw [hb] at he'; exact he'
      obtain ⟨x, hx, k1, k2⟩ := h.idle i e he2 ha
      refine ⟨x, ?_, k1, k2⟩
      rw [C.txs, commA_txs]
      refine List.mem_map.2 ⟨x, hx, ?_⟩
      unfold commX
      rw [if_neg (by omega)]
  · intro k
    show look (d.keys.foldl (settle d.now) B.t) k = _
    rw [g2 k, hD.keys k, C.clock, hvs k]
    cases hl : look t.wr k with
    | none =>
      simp only [Option.isSome_none, Option.toList_none, List.map_nil, List.append_nil]
      rw [h.tab k, snap_stamps (h.stamps k) (by omega : a.clock ≤ a.clock + 1)]
      rfl
    | some c =>
      simp only [Option.isSome_some, if_true, Option.toList_some, List.map_cons, List.map_nil, snap_new]
      rw [if_pos (Int.le_refl _), hD.now k]
      unfold Abs.content
      rw [hl]
      rfl
  · intro k b hb
    have hb0 := h.M0
    have hnew := h.newer k b hb
    show newerB (a'.vs k) b = laterB (B.commits ++ [d.keys]) b k
    rw [hvs k, newer_append, hnew]
    by_cases hbc : b ≤ a.clock
    · have e : laterB (B.commits ++ [d.keys]) b k = (laterB B.commits b k || hasB d.keys k) := by
        unfold laterB
        rw [List.drop_append_of_le_length (by have := h.clk; omega), List.any_append]
        simp
      rw [e, hD.keys k]
      congr 1
      cases look t.wr k with
      | none => rfl
      | some c => simp [newerB]; omega
    · rw [later_end (by have := h.clk; omega), later_end (cs := B.commits ++ [d.keys]) (by rw [List.length_append]; have := h.clk; simp; omega)]
      cases look t.wr k with
      | none => rfl
      | some c => simp [newerB]; omega
  · intro x hx y hy hx0 hy0
    exact h.disj x (hm x hx hx0).1 y (hm y hy hy0).1 hx0 hy0
  · intro x hx hx0 k hk
    obtain ⟨hx, hne⟩ := hm x hx hx0
    rw [hvs k, newer_append, h.fresh x hx hx0 k hk, h.disj x hx t ht hx0 hc hne k hk]
    rfl

end Go.Proofs.YthfimgeopciiiaaGreat

/-
  The law's book, as it lies in memory.
-/
namespace Go.Proofs.YthfimgeopciiiaaGreat
open Go.MapKept Go.ChangeMaps Go.Maps Go.RowKit
set_option linter.unusedVariables false

theorem ownsRow_set {w : World} {base : Nat} {e : TypeId} {size : Nat} {v : Value} {n : Nat} {xs : List Value} (h : w.ownsRow base e size v n xs) {g : Nat} (hg : v.ownBlock = some g) (j : Nat) (u : Value) :
    (w.setCell ⟨g, j, none⟩ u).ownsRow base e size v n (xs.set j u) := by
  refine ⟨by rw [List.length_set]; exact h.1, ?_⟩
  rcases h.2 with ⟨rfl, _⟩ | ⟨g', cap, cur, rfl, hb, hgg, h1, h2, h3, h4⟩
  · simp [Value.ownBlock] at hg
  · simp [Value.ownBlock] at hg
    subst hg
    refine .inr ⟨g', cap, cur.setIfInBounds j u, rfl, hb, heap_setCell_same hgg, h1, h2, by simp [h3], ?_⟩
    rw [Array.toList_setIfInBounds, List.take_set, h4]

theorem flat_set {α : Type} (c : α → List Value) (k : Nat) (hc : ∀ x, (c x).length = k) : ∀ (l : List α) (i j : Nat) (x x' : α) (u : Value), l[i]? = some x → j < k → c x' = (c x).set j u → (l.set i x').flatMap c = (l.flatMap c).set (i * k + j) u
  | [], i, j, x, x', u, h, _, _ => by simp at h
  | y :: l, 0, j, x, x', u, h, hj, e => by
    simp at h; subst h
    simp only [List.set_cons_zero, List.flatMap_cons, e, Nat.zero_mul, Nat.zero_add]
    rw [List.set_append_left _ _ (by rw [hc]; exact hj)]
  | y :: l, i + 1, j, x, x', u, h, hj, e => by
    have h' : l[i]? = some x := by simpa using h
    have e1 : (i + 1) * k + j = k + (i * k + j) := by rw [Nat.succ_mul]; omega
    simp only [List.set_cons_succ, List.flatMap_cons]
    rw [flat_set c k hc l i j x x' u h' hj e, List.set_append_right _ _ (by rw [hc, e1]; omega), hc, e1, Nat.add_sub_cancel_left]

theorem flat_at {α : Type} (c : α → List Value) (k : Nat) (hc : ∀ x, (c x).length = k) : ∀ (l : List α) (i j : Nat) (x : α), l[i]? = some x → j < k → (l.flatMap c)[i * k + j]? = (c x)[j]?
  | [], i, j, x, h, _ => by simp at h
  | y :: l, 0, j, x, h, hj => by
    simp at h; subst h
    simp only [List.flatMap_cons, Nat.zero_mul, Nat.zero_add]
    rw [List.getElem?_append_left (by rw [hc]; exact hj)]
  | y :: l, i + 1, j, x, h, hj => by
    have h' : l[i]? = some x := by simpa using h
    have e1 : (i + 1) * k + j = k + (i * k + j) := by rw [Nat.succ_mul]; omega
    simp only [List.flatMap_cons]
    rw [List.getElem?_append_right (by rw [hc, e1]; omega), hc, e1, Nat.add_sub_cancel_left]
    exact flat_at c k hc l i j x h' hj

/-- a deal, and where its table and its keys lie -/
structure MDeal where
  d : Deal
  nv : Value
  kv : Value

/-- the book, and where its parts lie -/
structure MBk where
  bb : Nat
  sb : Nat
  dv : Value
  tv : Value
  cv : Value
  deals : List MDeal
  t : Tab
  commits : List (List ByteArray × Value)

def MDeal.cells (x : MDeal) : List Value := [.bool x.d.active, .int .i64 x.d.bg, x.nv, x.kv]
def MBk.bk (m : MBk) : Bk := ⟨m.deals.map (·.d), m.t, m.commits.map (·.1)⟩

theorem MDeal.cells_len (x : MDeal) : x.cells.length = 4 := rfl

/-- its blocks -/
def MBk.has (m : MBk) (b : Nat) : Prop := b = m.bb ∨ m.dv.ownBlock = some b ∨ m.cv.ownBlock = some b ∨ m.tv.ownBlock = some b ∨ ∃ (i : Nat) (x : MDeal), m.deals[i]? = some x ∧ (x.nv.ownBlock = some b ∨ x.kv.ownBlock = some b)

/-- in memory; each block has its part: 0 the book, 1 the deals, 2 the commits, 3 tables, 4 others', 5 + i the keys of deal i -/
structure BookAt (w : World) (base : Nat) (tag : Nat → Nat) (m : MBk) : Prop where
  own : w.heap[m.bb]? = some (.cells #[.pointer (some ⟨m.sb, 0, none⟩), m.dv, m.tv, m.cv] 38)
  hb : base ≤ m.bb
  dl : w.ownsRow base 117 4 m.dv m.deals.length (m.deals.flatMap MDeal.cells)
  tb : PrSl base w m.tv m.t
  cm : w.ownsRow base 115 1 m.cv m.commits.length (m.commits.map (·.2))
  now : ∀ (i : Nat) (x : MDeal), m.deals[i]? = some x → PrSl base w x.nv x.d.now
  keys : ∀ (i : Nat) (x : MDeal), m.deals[i]? = some x → SSl base w x.kv x.d.keys
  ck : ∀ c ∈ m.commits, ∃ (i : Nat) (x : MDeal), m.deals[i]? = some x ∧ x.d.active = false ∧ x.kv = c.2 ∧ x.d.keys = c.1
  gb : tag m.bb = 0
  gd : ∀ b, m.dv.ownBlock = some b → tag b = 1
  gc : ∀ b, m.cv.ownBlock = some b → tag b = 2
  gt : ∀ b, m.tv.ownBlock = some b → tag b = 3
  gn : ∀ (i : Nat) (x : MDeal), m.deals[i]? = some x → ∀ b, x.nv.ownBlock = some b → tag b = 3
  gk : ∀ (i : Nat) (x : MDeal), m.deals[i]? = some x → ∀ b, x.kv.ownBlock = some b → tag b = 5 + i

section
variable {w w' : World} {base : Nat} {tag : Nat → Nat} {m : MBk}

theorem BookAt.lt (h : BookAt w base tag m) {b : Nat} (hb : m.has b) : base ≤ b ∧ b < w.heap.size := by
  rcases hb with rfl | hb | hb | hb | ⟨i, x, hx, hb | hb⟩
  · exact ⟨h.hb, lt_of_heap h.own⟩
  · exact h.dl.lt b hb
  · exact h.cm.lt b hb
  · exact h.tb.lt b hb
  · exact (h.now i x hx).lt b hb
  · exact (h.keys i x hx).lt b hb

theorem BookAt.tag4 (h : BookAt w base tag m) {b : Nat} (hb : m.has b) : tag b ≠ 4 := by
  rcases hb with rfl | hb | hb | hb | ⟨i, x, hx, hb | hb⟩
  · rw [h.gb]; omega
  · rw [h.gd b hb]; omega
  · rw [h.gc b hb]; omega
  · rw [h.gt b hb]; omega
  · rw [h.gn i x hx b hb]; omega
  · rw [h.gk i x hx b hb]; omega

theorem BookAt.frame (h : BookAt w base tag m) (hb : ∀ b, m.has b → w'.heap[b]? = w.heap[b]?) : BookAt w' base tag m :=
  { h with
    own := (hb _ (.inl rfl)).trans h.own
    dl := ownsRow_of_block h.dl (fun b e => hb b (.inr (.inl e)))
    tb := ownsRow_of_block h.tb (fun b e => hb b (.inr (.inr (.inr (.inl e)))))
    cm := ownsRow_of_block h.cm (fun b e => hb b (.inr (.inr (.inl e))))
    now := fun i x hx => ownsRow_of_block (h.now i x hx) (fun b e => hb b (.inr (.inr (.inr (.inr ⟨i, x, hx, .inl e⟩)))))
    keys := fun i x hx => ownsRow_of_block (h.keys i x hx) (fun b e => hb b (.inr (.inr (.inr (.inr ⟨i, x, hx, .inr e⟩))))) }

theorem BookAt.kept {S : Nat → Prop} (h : BookAt w base tag m) (k : Keeps S w w') (hs : ∀ b, m.has b → ¬ S b) : BookAt w' base tag m :=
  h.frame (fun b hb => k.block b (h.lt hb).2 (hs b hb))

theorem BookAt.quiet (h : BookAt w base tag m) (k : Quiet w w') : BookAt w' base tag m := h.kept k (fun _ _ => id)

theorem BookAt.retag {tag' : Nat → Nat} (h : BookAt w base tag m) (ht : ∀ b, m.has b → tag' b = tag b) : BookAt w base tag' m :=
  { h with
    gb := (ht _ (.inl rfl)).trans h.gb
    gd := fun b e => (ht b (.inr (.inl e))).trans (h.gd b e)
    gc := fun b e => (ht b (.inr (.inr (.inl e)))).trans (h.gc b e)
    gt := fun b e => (ht b (.inr (.inr (.inr (.inl e))))).trans (h.gt b e)
    gn := fun i x hx b e => (ht b (.inr (.inr (.inr (.inr ⟨i, x, hx, .inl e⟩))))).trans (h.gn i x hx b e)
    gk := fun i x hx b e => (ht b (.inr (.inr (.inr (.inr ⟨i, x, hx, .inr e⟩))))).trans (h.gk i x hx b e) }

/-- new blocks take a part -/
def tagNew (n k : Nat) (tag : Nat → Nat) (b : Nat) : Nat := if b < n then tag b else k

theorem tagNew_old {n k b : Nat} {tag : Nat → Nat} (h : b < n) : tagNew n k tag b = tag b := if_pos h
theorem tagNew_new {n k b : Nat} {tag : Nat → Nat} (h : n ≤ b) : tagNew n k tag b = k := if_neg (by omega)

theorem BookAt.tagNew (h : BookAt w base tag m) (k : Nat) : BookAt w base (tagNew w.heap.size k tag) m :=
  h.retag (fun b hb => tagNew_old (h.lt hb).2)

theorem BookAt.cell (h : BookAt w base tag m) : w.cell? ⟨m.bb, 0, none⟩ = some (.pointer (some ⟨m.sb, 0, none⟩)) ∧ w.cell? ⟨m.bb, 1, none⟩ = some m.dv ∧ w.cell? ⟨m.bb, 2, none⟩ = some m.tv ∧ w.cell? ⟨m.bb, 3, none⟩ = some m.cv :=
  ⟨by rw [cell_of_heap h.own]; rfl, by rw [cell_of_heap h.own]; rfl, by rw [cell_of_heap h.own]; rfl, by rw [cell_of_heap h.own]; rfl⟩

theorem BookAt.frz (h : BookAt w base tag m) (i : Nat) : w.frozen? ⟨m.bb, i, none⟩ = false := frozen_of_heap h.own

/-- the deals' row -/
theorem BookAt.dealsAt (h : BookAt w base tag m) : ∃ a cap, m.dv = .slice a m.deals.length cap ∧ (m.deals = [] ∨ ∃ g, a = some ⟨g, 0, none⟩ ∧ m.dv.ownBlock = some g ∧ base ≤ g ∧ g < w.heap.size ∧ (∀ i, w.frozen? ⟨g, i, none⟩ = false) ∧
    ∀ (i : Nat) (x : MDeal), m.deals[i]? = some x → w.cell? ⟨g, i * 4, none⟩ = some (.bool x.d.active) ∧ w.cell? ⟨g, i * 4 + 1, none⟩ = some (.int .i64 x.d.bg) ∧ w.cell? ⟨g, i * 4 + 2, none⟩ = some x.nv ∧ w.cell? ⟨g, i * 4 + 3, none⟩ = some x.kv) := by
  rcases h.dl.2 with ⟨e, h0⟩ | ⟨g, cap, cur, e, hb, hg, h1, h2, h3, h4⟩
  · exact ⟨none, 0, by rw [e, h0], .inl (List.eq_nil_of_length_eq_zero h0)⟩
  · refine ⟨_, cap, e, .inr ⟨g, rfl, by rw [e]; rfl, hb, lt_of_heap hg, fun i => frozen_of_heap hg, fun i x hx => ?_⟩⟩
    have hi : i < m.deals.length := (List.getElem?_eq_some_iff.1 hx).1
    have at_ : ∀ j, j < 4 → w.cell? ⟨g, i * 4 + j, none⟩ = x.cells[j]? := fun j hj => by
      rw [cell_of_heap hg, ← flat_at MDeal.cells 4 MDeal.cells_len m.deals i j x hx hj, ← h4, List.getElem?_take, if_pos (by omega)]
      simp
    exact ⟨at_ 0 (by omega), at_ 1 (by omega), at_ 2 (by omega), at_ 3 (by omega)⟩

/-- the commits' row -/
theorem BookAt.commitsAt (h : BookAt w base tag m) : ∃ a cap, m.cv = .slice a m.commits.length cap ∧ (m.commits = [] ∨ ∃ g, a = some ⟨g, 0, none⟩ ∧ g < w.heap.size ∧ ∀ (i : Nat) (c : List ByteArray × Value), m.commits[i]? = some c → w.cell? ⟨g, i, none⟩ = some c.2) := by
  rcases h.cm.2 with ⟨e, h0⟩ | ⟨g, cap, cur, e, hb, hg, h1, h2, h3, h4⟩
  · exact ⟨none, 0, by rw [e, h0], .inl (List.eq_nil_of_length_eq_zero h0)⟩
  · refine ⟨_, cap, e, .inr ⟨g, rfl, lt_of_heap hg, fun i c hc => ?_⟩⟩
    have hi : i < m.commits.length := (List.getElem?_eq_some_iff.1 hc).1
    have : (m.commits.map (·.2))[i]? = some c.2 := by rw [List.getElem?_map, hc]; rfl
    rw [← h4, List.getElem?_take, if_pos (by omega)] at this
    rw [cell_of_heap hg]
    simpa using this

theorem BookAt.commitKeys (h : BookAt w base tag m) {c : List ByteArray × Value} (hc : c ∈ m.commits) : SSl base w c.2 c.1 := by
  obtain ⟨i, x, hx, _, e1, e2⟩ := h.ck c hc
  have := h.keys i x hx
  rw [e1, e2] at this
  exact this

/-- one deal turns, in one cell -/
theorem BookAt.setDeal (h : BookAt w base tag m) {i j g : Nat} {x x' : MDeal} {u : Value} (hx : m.deals[i]? = some x) (hg : m.dv.ownBlock = some g) (hj : j < 4) (hc : x'.cells = x.cells.set j u) (hact : x.d.active = true)
    (now' : PrSl base w x'.nv x'.d.now) (keys' : SSl base w x'.kv x'.d.keys) (gn' : ∀ b, x'.nv.ownBlock = some b → tag b = 3) (gk' : ∀ b, x'.kv.ownBlock = some b → tag b = 5 + i) :
    BookAt (w.setCell ⟨g, i * 4 + j, none⟩ u) base tag { m with deals := m.deals.set i x' } := by
  have hi : i < m.deals.length := (List.getElem?_eq_some_iff.1 hx).1
  have tg := h.gd g hg
  have ob : ∀ b, tag b ≠ 1 → (w.setCell ⟨g, i * 4 + j, none⟩ u).heap[b]? = w.heap[b]? := fun b hb => heap_setCell_other _ _ _ (fun e => by rw [e] at hb; exact hb tg)
  have hm : ∀ k y, (m.deals.set i x')[k]? = some y → (k = i ∧ y = x') ∨ (k ≠ i ∧ m.deals[k]? = some y) := fun k y hy => by
    rw [List.getElem?_set] at hy
    by_cases e : i = k
    · rw [if_pos e, if_pos (by omega)] at hy
      exact .inl ⟨e.symm, (Option.some.inj hy).symm⟩
    · rw [if_neg e] at hy
      exact .inr ⟨fun e' => e e'.symm, hy⟩
  refine { h with own := ?_, dl := ?_, tb := ?_, cm := ?_, now := ?_, keys := ?_, ck := ?_, gn := ?_, gk := ?_ }
  · exact (ob _ (by rw [h.gb]; omega)).trans h.own
  · show (w.setCell _ u).ownsRow base _ 4 m.dv (m.deals.set i x').length ((m.deals.set i x').flatMap MDeal.cells)
    rw [List.length_set, flat_set MDeal.cells 4 MDeal.cells_len m.deals i j x x' u hx hj hc]
    exact ownsRow_set h.dl hg _ u
  · exact ownsRow_of_block h.tb (fun b e => ob b (by rw [h.gt b e]; omega))
  · exact ownsRow_of_block h.cm (fun b e => ob b (by rw [h.gc b e]; omega))
  · intro k y hy
    rcases hm k y hy with ⟨rfl, rfl⟩ | ⟨_, hy⟩
    · exact ownsRow_of_block now' (fun b e => ob b (by rw [gn' b e]; omega))
    · exact ownsRow_of_block (h.now k y hy) (fun b e => ob b (by rw [h.gn k y hy b e]; omega))
  · intro k y hy
    rcases hm k y hy with ⟨rfl, rfl⟩ | ⟨_, hy⟩
    · exact ownsRow_of_block keys' (fun b e => ob b (by rw [gk' b e]; omega))
    · exact ownsRow_of_block (h.keys k y hy) (fun b e => ob b (by rw [h.gk k y hy b e]; omega))
  · intro c hc
    obtain ⟨k, y, hy, ha, e1, e2⟩ := h.ck c hc
    refine ⟨k, y, ?_, ha, e1, e2⟩
    show (m.deals.set i x')[k]? = some y
    rw [List.getElem?_set, if_neg]
    · exact hy
    · intro e; rw [← e, hx] at hy; rw [← Option.some.inj hy, hact] at ha; cases ha
  · intro k y hy b e
    rcases hm k y hy with ⟨rfl, rfl⟩ | ⟨_, hy⟩
    · exact gn' b e
    · exact h.gn k y hy b e
  · intro k y hy b e
    rcases hm k y hy with ⟨rfl, rfl⟩ | ⟨_, hy⟩
    · exact gk' b e
    · exact h.gk k y hy b e

def MDeal.off (x : MDeal) : MDeal := { x with d := { x.d with active := false } }

/-- it is active no more -/
theorem BookAt.off (h : BookAt w base tag m) {i g : Nat} {x : MDeal} (hx : m.deals[i]? = some x) (hg : m.dv.ownBlock = some g) (hact : x.d.active = true) :
    BookAt (w.setCell ⟨g, i * 4, none⟩ (.bool false)) base tag { m with deals := m.deals.set i x.off } :=
  h.setDeal (j := 0) (x' := x.off) hx hg (by omega) rfl hact (h.now i x hx) (h.keys i x hx) (h.gn i x hx) (h.gk i x hx)

/-- its table turns -/
theorem BookAt.setNow (h : BookAt w base tag m) {i g : Nat} {x : MDeal} (hx : m.deals[i]? = some x) (hg : m.dv.ownBlock = some g) (hact : x.d.active = true) {v : Value} {t : Tab} (hv : PrSl base w v t) (hn : ∀ b, v.ownBlock = some b → tag b = 3) :
    BookAt (w.setCell ⟨g, i * 4 + 2, none⟩ v) base tag { m with deals := m.deals.set i ⟨{ x.d with now := t }, v, x.kv⟩ } :=
  h.setDeal (j := 2) (x' := ⟨{ x.d with now := t }, v, x.kv⟩) hx hg (by omega) rfl hact hv (h.keys i x hx) hn (h.gk i x hx)

/-- its keys grow -/
theorem BookAt.setKeys (h : BookAt w base tag m) {i g : Nat} {x : MDeal} (hx : m.deals[i]? = some x) (hg : m.dv.ownBlock = some g) (hact : x.d.active = true) {w5 : World} {v : Value} {ks : List ByteArray}
    (hgr : w.grownBy w5 x.kv.ownBlock) (hv : SSl base w5 v ks) (hloc : ∀ b, v.ownBlock = some b → x.kv.ownBlock = some b ∨ w.heap.size ≤ b) :
    BookAt (w5.setCell ⟨g, i * 4 + 3, none⟩ v) base (_root_.Go.Proofs.YthfimgeopciiiaaGreat.tagNew w.heap.size (5 + i) tag) { m with deals := m.deals.set i ⟨{ x.d with keys := ks }, x.nv, v⟩ } := by
  have hi : i < m.deals.length := (List.getElem?_eq_some_iff.1 hx).1
  have h1 := h.tagNew (5 + i)
  generalize ht : _root_.Go.Proofs.YthfimgeopciiiaaGreat.tagNew w.heap.size (5 + i) tag = tag1 at *
  have tg := h1.gd g hg
  have kb : ∀ b, x.kv.ownBlock = some b → tag1 b = 5 + i := h1.gk i x hx
  have vb : ∀ b, v.ownBlock = some b → tag1 b = 5 + i := fun b e => by
    rcases hloc b e with h2 | h2
    · exact kb b h2
    · rw [← ht]; exact tagNew_new h2
  have same : ∀ b, b < w.heap.size → tag1 b ≠ 5 + i → w5.heap[b]? = w.heap[b]? := fun b hb hn => hgr.block b hb (fun e => hn (kb b e.symm))
  have ob : ∀ b, tag1 b ≠ 1 → (w5.setCell ⟨g, i * 4 + 3, none⟩ v).heap[b]? = w5.heap[b]? := fun b hb => heap_setCell_other _ _ _ (fun e => by rw [e] at hb; exact hb tg)
  have both : ∀ b, b < w.heap.size → tag1 b ≠ 5 + i → tag1 b ≠ 1 → (w5.setCell ⟨g, i * 4 + 3, none⟩ v).heap[b]? = w.heap[b]? := fun b hb e1 e2 => (ob b e2).trans (same b hb e1)
  have hm : ∀ k y, (m.deals.set i ⟨{ x.d with keys := ks }, x.nv, v⟩)[k]? = some y → (k = i ∧ y = ⟨{ x.d with keys := ks }, x.nv, v⟩) ∨ (k ≠ i ∧ m.deals[k]? = some y) := fun k y hy => by
    rw [List.getElem?_set] at hy
    by_cases e : i = k
    · rw [if_pos e, if_pos (by omega)] at hy
      exact .inl ⟨e.symm, (Option.some.inj hy).symm⟩
    · rw [if_neg e] at hy
      exact .inr ⟨fun e' => e e'.symm, hy⟩
  refine { h1 with own := ?_, dl := ?_, tb := ?_, cm := ?_, now := ?_, keys := ?_, ck := ?_, gn := ?_, gk := ?_ }
  · exact (both _ (lt_of_heap h.own) (by rw [h1.gb]; omega) (by rw [h1.gb]; omega)).trans h.own
  · show (w5.setCell _ v).ownsRow base _ 4 m.dv (m.deals.set i _).length ((m.deals.set i _).flatMap MDeal.cells)
    rw [List.length_set, flat_set MDeal.cells 4 MDeal.cells_len m.deals i 3 x _ v hx (by omega) rfl]
    exact ownsRow_set (ownsRow_of_block h.dl (fun b e => same b (h.dl.lt b e).2 (by rw [h1.gd b e]; omega))) hg _ v
  · exact ownsRow_of_block h.tb (fun b e => both b (h.tb.lt b e).2 (by rw [h1.gt b e]; omega) (by rw [h1.gt b e]; omega))
  · exact ownsRow_of_block h.cm (fun b e => both b (h.cm.lt b e).2 (by rw [h1.gc b e]; omega) (by rw [h1.gc b e]; omega))
  · intro k y hy
    rcases hm k y hy with ⟨rfl, rfl⟩ | ⟨_, hy⟩
    · exact ownsRow_of_block (h.now _ x hx) (fun b e => both b ((h.now _ x hx).lt b e).2 (by rw [h1.gn _ x hx b e]; omega) (by rw [h1.gn _ x hx b e]; omega))
    · exact ownsRow_of_block (h.now k y hy) (fun b e => both b ((h.now k y hy).lt b e).2 (by rw [h1.gn k y hy b e]; omega) (by rw [h1.gn k y hy b e]; omega))
  · intro k y hy
    rcases hm k y hy with ⟨rfl, rfl⟩ | ⟨hk, hy⟩
    · exact ownsRow_of_block hv (fun b e => ob b (by rw [vb b e]; omega))
    · exact ownsRow_of_block (h.keys k y hy) (fun b e => both b ((h.keys k y hy).lt b e).2 (by rw [h1.gk k y hy b e]; omega) (by rw [h1.gk k y hy b e]; omega))
  · intro c hc
    obtain ⟨k, y, hy, ha, e1, e2⟩ := h.ck c hc
    refine ⟨k, y, ?_, ha, e1, e2⟩
    show (m.deals.set i _)[k]? = some y
    rw [List.getElem?_set, if_neg]
    · exact hy
    · intro e; rw [← e, hx] at hy; rw [← Option.some.inj hy, hact] at ha; cases ha
  · intro k y hy b e
    rcases hm k y hy with ⟨rfl, rfl⟩ | ⟨_, hy⟩
    · exact h1.gn _ x hx b e
    · exact h1.gn k y hy b e
  · intro k y hy b e
    rcases hm k y hy with ⟨rfl, rfl⟩ | ⟨_, hy⟩
    · exact vb b e
    · exact h1.gk k y hy b e

/-- one more has begun -/
theorem BookAt.push (h : BookAt w base tag m) {w5 : World} {v : Value} {bg : Int} (hgr : w.grownBy w5 m.dv.ownBlock)
    (hv : w5.ownsRow base 117 4 v (m.deals.length + 1) (m.deals.flatMap MDeal.cells ++ [.bool true, .int .i64 bg, m.tv, .slice none 0 0])) (hloc : ∀ b, v.ownBlock = some b → m.dv.ownBlock = some b ∨ w.heap.size ≤ b) :
    BookAt (w5.setCell ⟨m.bb, 1, none⟩ v) base (_root_.Go.Proofs.YthfimgeopciiiaaGreat.tagNew w.heap.size 1 tag) { m with dv := v, deals := m.deals ++ [⟨⟨true, bg, m.t, []⟩, m.tv, .slice none 0 0⟩] } := by
  have h1 := h.tagNew 1
  generalize ht : _root_.Go.Proofs.YthfimgeopciiiaaGreat.tagNew w.heap.size 1 tag = tag1 at *
  have vb : ∀ b, v.ownBlock = some b → tag1 b = 1 := fun b e => by
    rcases hloc b e with h2 | h2
    · exact h1.gd b h2
    · rw [← ht]; exact tagNew_new h2
  have same : ∀ b, b < w.heap.size → tag1 b ≠ 1 → w5.heap[b]? = w.heap[b]? := fun b hb hn => hgr.block b hb (fun e => hn (h1.gd b e.symm))
  have ob : ∀ b, tag1 b ≠ 0 → (w5.setCell ⟨m.bb, 1, none⟩ v).heap[b]? = w5.heap[b]? := fun b hb => heap_setCell_other _ _ _ (fun e => by rw [e] at hb; exact hb h1.gb)
  have both : ∀ b, b < w.heap.size → tag1 b ≠ 0 → tag1 b ≠ 1 → (w5.setCell ⟨m.bb, 1, none⟩ v).heap[b]? = w.heap[b]? := fun b hb e1 e2 => (ob b e1).trans (same b hb e2)
  have hm : ∀ (k : Nat) (y : MDeal), (m.deals ++ [⟨⟨true, bg, m.t, []⟩, m.tv, .slice none 0 0⟩])[k]? = some y → (y = ⟨⟨true, bg, m.t, []⟩, m.tv, .slice none 0 0⟩) ∨ m.deals[k]? = some y := fun k y hy => by
    rw [List.getElem?_append] at hy
    split at hy
    · exact .inr hy
    · rename_i hk
      have hz : k - m.deals.length = 0 := by have := (List.getElem?_eq_some_iff.1 hy).1; simp at this; omega
      rw [hz] at hy
      exact .inl (Option.some.inj hy).symm
  have own5 : w5.heap[m.bb]? = some (.cells #[.pointer (some ⟨m.sb, 0, none⟩), m.dv, m.tv, m.cv] 38) := (same _ (lt_of_heap h.own) (by rw [h1.gb]; omega)).trans h.own
  refine { h1 with own := ?_, dl := ?_, tb := ?_, cm := ?_, now := ?_, keys := ?_, ck := ?_, gd := vb, gn := ?_, gk := ?_ }
  · exact (heap_setCell_same own5).trans rfl
  · show (w5.setCell _ v).ownsRow base _ 4 v (m.deals ++ [_]).length ((m.deals ++ [_]).flatMap MDeal.cells)
    rw [List.length_append, List.flatMap_append]
    exact ownsRow_of_block hv (fun b e => ob b (by rw [vb b e]; omega))
  · exact ownsRow_of_block h.tb (fun b e => both b (h.tb.lt b e).2 (by rw [h1.gt b e]; omega) (by rw [h1.gt b e]; omega))
  · exact ownsRow_of_block h.cm (fun b e => both b (h.cm.lt b e).2 (by rw [h1.gc b e]; omega) (by rw [h1.gc b e]; omega))
  · intro k y hy
    rcases hm k y hy with rfl | hy
    · exact ownsRow_of_block h.tb (fun b e => both b (h.tb.lt b e).2 (by rw [h1.gt b e]; omega) (by rw [h1.gt b e]; omega))
    · exact ownsRow_of_block (h.now k y hy) (fun b e => both b ((h.now k y hy).lt b e).2 (by rw [h1.gn k y hy b e]; omega) (by rw [h1.gn k y hy b e]; omega))
  · intro k y hy
    rcases hm k y hy with rfl | hy
    · exact World.ownsRow_nil _ _ _ _
    · exact ownsRow_of_block (h.keys k y hy) (fun b e => both b ((h.keys k y hy).lt b e).2 (by rw [h1.gk k y hy b e]; omega) (by rw [h1.gk k y hy b e]; omega))
  · intro c hc
    obtain ⟨k, y, hy, ha, e1, e2⟩ := h.ck c hc
    exact ⟨k, y, by show (m.deals ++ [_])[k]? = some y; rw [List.getElem?_append_left ((List.getElem?_eq_some_iff.1 hy).1)]; exact hy, ha, e1, e2⟩
  · intro k y hy b e
    rcases hm k y hy with rfl | hy
    · exact h1.gt b e
    · exact h1.gn k y hy b e
  · intro k y hy b e
    rcases hm k y hy with rfl | hy
    · simp [Value.ownBlock] at e
    · exact h1.gk k y hy b e

/-- what is committed turns -/
theorem BookAt.setT (h : BookAt w base tag m) {v : Value} {t : Tab} (hv : PrSl base w v t) (hn : ∀ b, v.ownBlock = some b → tag b = 3) :
    BookAt (w.setCell ⟨m.bb, 2, none⟩ v) base tag { m with tv := v, t := t } := by
  have ob : ∀ b, tag b ≠ 0 → (w.setCell ⟨m.bb, 2, none⟩ v).heap[b]? = w.heap[b]? := fun b hb => heap_setCell_other _ _ _ (fun e => by rw [e] at hb; exact hb h.gb)
  exact { h with
    own := (heap_setCell_same h.own).trans rfl
    dl := ownsRow_of_block h.dl (fun b e => ob b (by rw [h.gd b e]; omega))
    tb := ownsRow_of_block hv (fun b e => ob b (by rw [hn b e]; omega))
    cm := ownsRow_of_block h.cm (fun b e => ob b (by rw [h.gc b e]; omega))
    now := fun i x hx => ownsRow_of_block (h.now i x hx) (fun b e => ob b (by rw [h.gn i x hx b e]; omega))
    keys := fun i x hx => ownsRow_of_block (h.keys i x hx) (fun b e => ob b (by rw [h.gk i x hx b e]; omega))
    gt := hn }

/-- one has committed -/
theorem BookAt.done (h : BookAt w base tag m) {i g : Nat} {x : MDeal} (hx : m.deals[i]? = some x) (hg : m.dv.ownBlock = some g) (hact : x.d.active = true) {w5 : World} {v : Value} (hgr : w.grownBy w5 m.cv.ownBlock)
    (hv : w5.ownsRow base 115 1 v (m.commits.length + 1) (m.commits.map (·.2) ++ [x.kv])) (hloc : ∀ b, v.ownBlock = some b → m.cv.ownBlock = some b ∨ w.heap.size ≤ b) :
    BookAt ((w5.setCell ⟨m.bb, 3, none⟩ v).setCell ⟨g, i * 4, none⟩ (.bool false)) base (_root_.Go.Proofs.YthfimgeopciiiaaGreat.tagNew w.heap.size 2 tag) { m with cv := v, deals := m.deals.set i x.off, commits := m.commits ++ [(x.d.keys, x.kv)] } := by
  have hi : i < m.deals.length := (List.getElem?_eq_some_iff.1 hx).1
  have h1 := h.tagNew 2
  generalize ht : _root_.Go.Proofs.YthfimgeopciiiaaGreat.tagNew w.heap.size 2 tag = tag1 at *
  have tg := h1.gd g hg
  have vb : ∀ b, v.ownBlock = some b → tag1 b = 2 := fun b e => by
    rcases hloc b e with h2 | h2
    · exact h1.gc b h2
    · rw [← ht]; exact tagNew_new h2
  have same : ∀ b, b < w.heap.size → tag1 b ≠ 2 → w5.heap[b]? = w.heap[b]? := fun b hb hn => hgr.block b hb (fun e => hn (h1.gc b e.symm))
  have o1 : ∀ b, tag1 b ≠ 0 → (w5.setCell ⟨m.bb, 3, none⟩ v).heap[b]? = w5.heap[b]? := fun b hb => heap_setCell_other _ _ _ (fun e => by rw [e] at hb; exact hb h1.gb)
  have o2 : ∀ b, tag1 b ≠ 1 → ((w5.setCell ⟨m.bb, 3, none⟩ v).setCell ⟨g, i * 4, none⟩ (.bool false)).heap[b]? = (w5.setCell ⟨m.bb, 3, none⟩ v).heap[b]? := fun b hb => heap_setCell_other _ _ _ (fun e => by rw [e] at hb; exact hb tg)
  have both : ∀ b, b < w.heap.size → tag1 b ≠ 0 → tag1 b ≠ 1 → tag1 b ≠ 2 → ((w5.setCell ⟨m.bb, 3, none⟩ v).setCell ⟨g, i * 4, none⟩ (.bool false)).heap[b]? = w.heap[b]? := fun b hb e0 e1 e2 => (o2 b e1).trans ((o1 b e0).trans (same b hb e2))
  have hm : ∀ k y, (m.deals.set i x.off)[k]? = some y → (k = i ∧ y = x.off) ∨ (k ≠ i ∧ m.deals[k]? = some y) := fun k y hy => by
    rw [List.getElem?_set] at hy
    by_cases e : i = k
    · rw [if_pos e, if_pos (by omega)] at hy
      exact .inl ⟨e.symm, (Option.some.inj hy).symm⟩
    · rw [if_neg e] at hy
      exact .inr ⟨fun e' => e e'.symm, hy⟩
  have own5 : w5.heap[m.bb]? = some (.cells #[.pointer (some ⟨m.sb, 0, none⟩), m.dv, m.tv, m.cv] 38) := (same _ (lt_of_heap h.own) (by rw [h1.gb]; omega)).trans h.own
  refine { h1 with own := ?_, dl := ?_, tb := ?_, cm := ?_, now := ?_, keys := ?_, ck := ?_, gc := vb, gn := ?_, gk := ?_ }
  · exact (o2 _ (by rw [h1.gb]; omega)).trans ((heap_setCell_same own5).trans rfl)
  · show World.ownsRow _ base _ 4 m.dv (m.deals.set i _).length ((m.deals.set i _).flatMap MDeal.cells)
    rw [List.length_set, flat_set MDeal.cells 4 MDeal.cells_len m.deals i 0 x x.off (.bool false) hx (by omega) rfl]
    exact ownsRow_set (ownsRow_of_block h.dl (fun b e => (o1 b (by rw [h1.gd b e]; omega)).trans (same b (h.dl.lt b e).2 (by rw [h1.gd b e]; omega)))) hg _ _
  · exact ownsRow_of_block h.tb (fun b e => both b (h.tb.lt b e).2 (by rw [h1.gt b e]; omega) (by rw [h1.gt b e]; omega) (by rw [h1.gt b e]; omega))
  · show World.ownsRow _ base _ 1 v (m.commits ++ [(x.d.keys, x.kv)]).length ((m.commits ++ [(x.d.keys, x.kv)]).map (·.2))
    rw [List.length_append, List.map_append]
    exact ownsRow_of_block hv (fun b e => (o2 b (by rw [vb b e]; omega)).trans (o1 b (by rw [vb b e]; omega)))
  · intro k y hy
    rcases hm k y hy with ⟨rfl, rfl⟩ | ⟨_, hy⟩
    · exact ownsRow_of_block (h.now _ x hx) (fun b e => both b ((h.now _ x hx).lt b e).2 (by rw [h1.gn _ x hx b e]; omega) (by rw [h1.gn _ x hx b e]; omega) (by rw [h1.gn _ x hx b e]; omega))
    · exact ownsRow_of_block (h.now k y hy) (fun b e => both b ((h.now k y hy).lt b e).2 (by rw [h1.gn k y hy b e]; omega) (by rw [h1.gn k y hy b e]; omega) (by rw [h1.gn k y hy b e]; omega))
  · intro k y hy
    rcases hm k y hy with ⟨rfl, rfl⟩ | ⟨_, hy⟩
    · exact ownsRow_of_block (h.keys _ x hx) (fun b e => both b ((h.keys _ x hx).lt b e).2 (by rw [h1.gk _ x hx b e]; omega) (by rw [h1.gk _ x hx b e]; omega) (by rw [h1.gk _ x hx b e]; omega))
    · exact ownsRow_of_block (h.keys k y hy) (fun b e => both b ((h.keys k y hy).lt b e).2 (by rw [h1.gk k y hy b e]; omega) (by rw [h1.gk k y hy b e]; omega) (by rw [h1.gk k y hy b e]; omega))
  · intro c hc
    rcases List.mem_append.1 hc with hc | hc
    · obtain ⟨k, y, hy, ha, e1, e2⟩ := h.ck c hc
      refine ⟨k, y, ?_, ha, e1, e2⟩
      show (m.deals.set i _)[k]? = some y
      rw [List.getElem?_set, if_neg]
      · exact hy
      · intro e; rw [← e, hx] at hy; rw [← Option.some.inj hy, hact] at ha; cases ha
    · obtain rfl : c = (x.d.keys, x.kv) := by simpa using hc
      refine ⟨i, x.off, ?_, rfl, rfl, rfl⟩
      show (m.deals.set i _)[i]? = some _
      rw [List.getElem?_set, if_pos rfl, if_pos hi]
  · intro k y hy b e
    rcases hm k y hy with ⟨rfl, rfl⟩ | ⟨_, hy⟩
    · exact h1.gn _ x hx b e
    · exact h1.gn k y hy b e
  · intro k y hy b e
    rcases hm k y hy with ⟨rfl, rfl⟩ | ⟨_, hy⟩
    · exact h1.gk _ x hx b e
    · exact h1.gk k y hy b e

end
end Go.Proofs.YthfimgeopciiiaaGreat

/-
  A store and the law's book of it, in a call's own memory.
-/
namespace Go.Proofs.YthfimgeopciiiaaGreat
open Go.MapKept Go.ChangeMaps Go.Maps Go.RowKit
set_option linter.unusedVariables false

/-- in memory -/
structure Mem (w W : World) (s : Sto) (m : MBk) : Prop where
  quiet : Quiet w W
  st : StAt W s
  mu : s.mu = 0
  bk : ∃ tag, BookAt W w.heap.size tag m ∧ ∀ b ∈ s.foot, tag b = 4
  low : ∀ b ∈ s.foot, w.heap.size ≤ b
  sb : m.sb = s.sb

/-- what has turned -/
structure Nx (W W' : World) (s s' : Sto) (m m' : MBk) : Prop where
  keeps : Keeps (fun b => m.has b ∨ b ∈ s.foot) W W'
  fresh : ∀ b, m'.has b ∨ b ∈ s'.foot → (m.has b ∨ b ∈ s.foot) ∨ W.heap.size ≤ b
  bb : m'.bb = m.bb
  sb : s'.sb = s.sb

theorem Nx.refl (W : World) (s : Sto) (m : MBk) : Nx W W s s m m := ⟨Keeps.refl _ _, fun b h => .inl h, rfl, rfl⟩
theorem Nx.quiet {W W' : World} (s : Sto) (m : MBk) (k : Quiet W W') : Nx W W' s s m m := ⟨k.mono (fun _ h => h.elim), fun b h => .inl h, rfl, rfl⟩
theorem Nx.trans {W W1 W2 : World} {s s1 s2 : Sto} {m m1 m2 : MBk} (h : Nx W W1 s s1 m m1) (k : Nx W1 W2 s1 s2 m1 m2) : Nx W W2 s s2 m m2 :=
  ⟨h.keeps.trans k.keeps (fun b hb => h.fresh b hb), fun b hb => by
    rcases k.fresh b hb with h1 | h1
    · exact h.fresh b h1
    · exact .inr (Nat.le_trans h.keeps.size h1), k.bb.trans h.bb, k.sb.trans h.sb⟩

section
variable {w W W' : World} {s s' : Sto} {m : MBk}

theorem Mem.lt (M : Mem w W s m) {b : Nat} (h : m.has b ∨ b ∈ s.foot) : w.heap.size ≤ b ∧ b < W.heap.size := by
  obtain ⟨tag, B, _⟩ := M.bk
  rcases h with h | h
  · exact B.lt h
  · exact ⟨M.low b h, M.st.lt b h⟩

theorem Mem.still (M : Mem w W s m) (k : Quiet W W') : Mem w W' s m := by
  obtain ⟨tag, B, h4⟩ := M.bk
  exact ⟨Quiet.trans' M.quiet k, M.st.quiet k, M.mu, ⟨tag, B.quiet k, h4⟩, M.low, M.sb⟩

theorem Mem.turn (M : Mem w W s m) (t : Turn s s' W W') : Mem w W' s' m ∧ Nx W W' s s' m m := by
  obtain ⟨tag, B, h4⟩ := M.bk
  have hs := M.quiet.size
  refine ⟨⟨Quiet.of_new M.quiet t.keeps M.low, t.at_, t.mu.trans M.mu, ⟨tagNew W.heap.size 4 tag, ?_, fun b hb => ?_⟩, fun b hb => ?_, M.sb.trans t.sb.symm⟩, ⟨t.keeps.mono (fun b hb => .inl (.inr hb)), fun b hb => ?_, rfl, t.sb⟩⟩
  · exact (B.kept t.keeps (fun b hb hf => B.tag4 hb (h4 b hf))).retag (fun b hb => tagNew_old (B.lt hb).2)
  · rcases t.foot b hb with h | h
    · rw [tagNew_old (M.st.lt b h)]; exact h4 b h
    · exact tagNew_new h
  · rcases t.foot b hb with h | h
    · exact M.low b h
    · omega
  · rcases hb with h | h
    · exact .inl (.inl h)
    · rcases t.foot b h with h | h
      · exact .inl (.inr h)
      · exact .inr h

theorem own_not_foot {w : World} {base : Nat} {tag : Nat → Nat} {m : MBk} {s : Sto} (B : BookAt w base tag m) (h4 : ∀ b ∈ s.foot, tag b = 4) : ∀ b ∈ s.foot, ¬ m.has b := fun b hb hh => B.tag4 hh (h4 b hb)

/-- a cell of the book's own blocks turns -/
theorem Mem.setCell {m' : MBk} (M : Mem w W s m) {a : Addr} {v : Value} (ha : m.has a.block) (hB : ∀ tag, BookAt W w.heap.size tag m → BookAt (W.setCell a v) w.heap.size tag m') (hh : ∀ b, m'.has b → m.has b ∨ W.heap.size ≤ b) (hbb : m'.bb = m.bb) (hsb : m'.sb = m.sb) :
    Mem w (W.setCell a v) s m' ∧ Nx W (W.setCell a v) s s m m' := by
  obtain ⟨tag, B, h4⟩ := M.bk
  have k : Keeps (fun b => m.has b) W (W.setCell a v) := Keeps.setCell _ _ _ ha
  refine ⟨⟨Quiet.of_new M.quiet k (fun b hb => (B.lt hb).1), M.st.kept k (own_not_foot B h4), M.mu, ⟨tag, hB tag B, h4⟩, M.low, hsb.trans M.sb⟩, ⟨k.mono (fun b hb => .inl (.inl hb)), fun b hb => ?_, hbb, rfl⟩⟩
  rcases hb with h | h
  · rcases hh b h with h | h
    · exact .inl (.inl h)
    · exact .inr h
  · exact .inl (.inr h)

theorem has_set {m : MBk} {i : Nat} {x x' : MDeal} (hx : m.deals[i]? = some x) {b : Nat} (h : ({ m with deals := m.deals.set i x' } : MBk).has b) : m.has b ∨ x'.nv.ownBlock = some b ∨ x'.kv.ownBlock = some b := by
  rcases h with h | h | h | h | ⟨k, y, hy, h⟩
  · exact .inl (.inl h)
  · exact .inl (.inr (.inl h))
  · exact .inl (.inr (.inr (.inl h)))
  · exact .inl (.inr (.inr (.inr (.inl h))))
  · have hy' : (m.deals.set i x')[k]? = some y := hy
    rw [List.getElem?_set] at hy'
    by_cases e : i = k
    · have hi : i < m.deals.length := (List.getElem?_eq_some_iff.1 hx).1
      rw [if_pos e, if_pos (by omega)] at hy'
      obtain rfl := Option.some.inj hy'
      exact .inr h
    · rw [if_neg e] at hy'
      exact .inl (.inr (.inr (.inr (.inr ⟨k, y, hy', h⟩))))

theorem has_nv {m : MBk} {i : Nat} {x : MDeal} (hx : m.deals[i]? = some x) {b : Nat} (h : x.nv.ownBlock = some b) : m.has b := .inr (.inr (.inr (.inr ⟨i, x, hx, .inl h⟩)))
theorem has_kv {m : MBk} {i : Nat} {x : MDeal} (hx : m.deals[i]? = some x) {b : Nat} (h : x.kv.ownBlock = some b) : m.has b := .inr (.inr (.inr (.inr ⟨i, x, hx, .inr h⟩)))

def MBk.off (m : MBk) (i : Nat) (x : MDeal) : MBk := { m with deals := m.deals.set i x.off }

theorem map_set_off {l : List MDeal} {i : Nat} {x : MDeal} (hx : l[i]? = some x) : (l.set i x.off).map (·.d) = (l.map (·.d)).modify i fun d => { d with active := false } := by
  apply List.ext_getElem?
  intro k
  rw [List.getElem?_map, List.getElem?_set, modify_at, List.getElem?_map]
  by_cases e : i = k
  · subst e
    rw [if_pos rfl, if_pos (List.getElem?_eq_some_iff.1 hx).1, hx, if_pos rfl]
    rfl
  · rw [if_neg e, if_neg e]

theorem MBk.off_bk {m : MBk} {i : Nat} {x : MDeal} (hx : m.deals[i]? = some x) : (m.off i x).bk = m.bk.off ((i : Int) + 1) := by
  unfold MBk.off MBk.bk Bk.off
  rw [show ((i : Int) + 1 - 1).toNat = i by omega]
  simp only [Bk.mk.injEq, and_true]
  exact map_set_off hx

theorem Mem.off (M : Mem w W s m) {i g : Nat} {x : MDeal} (hx : m.deals[i]? = some x) (hg : m.dv.ownBlock = some g) (hact : x.d.active = true) :
    Mem w (W.setCell ⟨g, i * 4, none⟩ (.bool false)) s (m.off i x) ∧ Nx W (W.setCell ⟨g, i * 4, none⟩ (.bool false)) s s m (m.off i x) :=
  M.setCell (.inr (.inl hg)) (fun tag B => B.off hx hg hact) (fun b hb => by
    rcases has_set hx hb with h | h | h
    · exact .inl h
    · exact .inl (has_nv hx h)
    · exact .inl (has_kv hx h)) rfl rfl

/-- a table is made, and laid into a deal -/
theorem Mem.setNow (M : Mem w W s m) {i g : Nat} {x : MDeal} (hx : m.deals[i]? = some x) (hg : m.dv.ownBlock = some g) (hact : x.d.active = true) {W1 : World} (k : Quiet W W1) {v : Value} {t : Tab} (hv : PrSl W.heap.size W1 v t) :
    Mem w (W1.setCell ⟨g, i * 4 + 2, none⟩ v) s { m with deals := m.deals.set i ⟨{ x.d with now := t }, v, x.kv⟩ } ∧ Nx W (W1.setCell ⟨g, i * 4 + 2, none⟩ v) s s m { m with deals := m.deals.set i ⟨{ x.d with now := t }, v, x.kv⟩ } := by
  obtain ⟨tag, B, h4⟩ := M.bk
  have hs := M.quiet.size
  have B1 : BookAt W1 w.heap.size (tagNew W.heap.size 3 tag) m := (B.tagNew 3).quiet k
  have hh : ∀ b, ({ m with deals := m.deals.set i ⟨{ x.d with now := t }, v, x.kv⟩ } : MBk).has b → m.has b ∨ W.heap.size ≤ b := fun b hb => by
    rcases has_set hx hb with h | h | h
    · exact .inl h
    · exact .inr (hv.lt b h).1
    · exact .inl (has_kv hx h)
  have k1 : Keeps (fun b => m.has b) W1 (W1.setCell ⟨g, i * 4 + 2, none⟩ v) := Keeps.setCell _ _ _ (.inr (.inl hg))
  have k2 : Keeps (fun b => m.has b) W (W1.setCell ⟨g, i * 4 + 2, none⟩ v) := (k.mono (fun _ h => h.elim)).trans k1 (fun b hb => .inl hb)
  have h4' : ∀ b ∈ s.foot, tagNew W.heap.size 3 tag b = 4 := fun b hb => by rw [tagNew_old (M.st.lt b hb)]; exact h4 b hb
  refine ⟨⟨Quiet.of_new M.quiet k2 (fun b hb => (B.lt hb).1), M.st.kept k2 (own_not_foot B h4), M.mu, ⟨_, B1.setNow hx hg hact (ownsRow_low hv hs) (fun b hb => tagNew_new (hv.lt b hb).1), h4'⟩, M.low, M.sb⟩, ⟨k2.mono (fun b hb => .inl (.inl hb)), fun b hb => ?_, rfl, rfl⟩⟩
  rcases hb with h | h
  · rcases hh b h with h | h
    · exact .inl (.inl h)
    · exact .inr h
  · exact .inl (.inr h)

/-- its keys grow -/
theorem Mem.setKeys (M : Mem w W s m) {i g : Nat} {x : MDeal} (hx : m.deals[i]? = some x) (hg : m.dv.ownBlock = some g) (hact : x.d.active = true) {W1 W5 : World} (k : Quiet W W1) {v : Value} {ks : List ByteArray}
    (hgr : W1.grownBy W5 x.kv.ownBlock) (hv : SSl w.heap.size W5 v ks) (hloc : ∀ b, v.ownBlock = some b → x.kv.ownBlock = some b ∨ W1.heap.size ≤ b) :
    Mem w (W5.setCell ⟨g, i * 4 + 3, none⟩ v) s { m with deals := m.deals.set i ⟨{ x.d with keys := ks }, x.nv, v⟩ } ∧ Nx W (W5.setCell ⟨g, i * 4 + 3, none⟩ v) s s m { m with deals := m.deals.set i ⟨{ x.d with keys := ks }, x.nv, v⟩ } := by
  have M1 := M.still k
  obtain ⟨tag, B, h4⟩ := M1.bk
  have hs := M.quiet.size
  have hh : ∀ b, ({ m with deals := m.deals.set i ⟨{ x.d with keys := ks }, x.nv, v⟩ } : MBk).has b → m.has b ∨ W.heap.size ≤ b := fun b hb => by
    rcases has_set hx hb with h | h | h
    · exact .inl h
    · exact .inl (has_nv hx h)
    · rcases hloc b h with h | h
      · exact .inl (has_kv hx h)
      · exact .inr (Nat.le_trans k.size h)
  have kg : Keeps (fun b => m.has b) W1 W5 := (keeps_of_grown hgr).mono (fun b hb => .inl (has_kv hx hb))
  have k1 : Keeps (fun b => m.has b) W1 (W5.setCell ⟨g, i * 4 + 3, none⟩ v) := kg.trans (Keeps.setCell _ _ _ (.inr (.inl hg))) (fun b hb => .inl hb)
  have k2 : Keeps (fun b => m.has b) W (W5.setCell ⟨g, i * 4 + 3, none⟩ v) := (k.mono (fun _ h => h.elim)).trans k1 (fun b hb => .inl hb)
  have h4' : ∀ b ∈ s.foot, tagNew W1.heap.size (5 + i) tag b = 4 := fun b hb => by rw [tagNew_old (M1.st.lt b hb)]; exact h4 b hb
  refine ⟨⟨Quiet.of_new M1.quiet k1 (fun b hb => (B.lt hb).1), M1.st.kept k1 (own_not_foot B h4), M.mu, ⟨_, B.setKeys hx hg hact hgr hv hloc, h4'⟩, M.low, M.sb⟩, ⟨k2.mono (fun b hb => .inl (.inl hb)), fun b hb => ?_, rfl, rfl⟩⟩
  rcases hb with h | h
  · rcases hh b h with h | h
    · exact .inl (.inl h)
    · exact .inr h
  · exact .inl (.inr h)

def MBk.push (m : MBk) (v : Value) (bg : Int) : MBk := { m with dv := v, deals := m.deals ++ [⟨⟨true, bg, m.t, []⟩, m.tv, .slice none 0 0⟩] }

/-- one more has begun -/
theorem Mem.push (M : Mem w W s m) {W1 W5 : World} (k : Quiet W W1) {v : Value} {bg : Int} (hgr : W1.grownBy W5 m.dv.ownBlock)
    (hv : W5.ownsRow w.heap.size 117 4 v (m.deals.length + 1) (m.deals.flatMap MDeal.cells ++ [.bool true, .int .i64 bg, m.tv, .slice none 0 0])) (hloc : ∀ b, v.ownBlock = some b → m.dv.ownBlock = some b ∨ W1.heap.size ≤ b) :
    Mem w (W5.setCell ⟨m.bb, 1, none⟩ v) s (m.push v bg) ∧ Nx W (W5.setCell ⟨m.bb, 1, none⟩ v) s s m (m.push v bg) := by
  have M1 := M.still k
  obtain ⟨tag, B, h4⟩ := M1.bk
  have hh : ∀ b, (m.push v bg).has b → m.has b ∨ W.heap.size ≤ b := fun b hb => by
    rcases hb with h | h | h | h | ⟨k', y, hy, h⟩
    · exact .inl (.inl h)
    · rcases hloc b h with h | h
      · exact .inl (.inr (.inl h))
      · exact .inr (Nat.le_trans k.size h)
    · exact .inl (.inr (.inr (.inl h)))
    · exact .inl (.inr (.inr (.inr (.inl h))))
    · have hy' : (m.deals ++ [⟨⟨true, bg, m.t, []⟩, m.tv, .slice none 0 0⟩])[k']? = some y := hy
      rw [List.getElem?_append] at hy'
      split at hy'
      · exact .inl (.inr (.inr (.inr (.inr ⟨k', y, hy', h⟩))))
      · have hz : k' - m.deals.length = 0 := by have := (List.getElem?_eq_some_iff.1 hy').1; simp at this; omega
        rw [hz] at hy'
        obtain rfl := Option.some.inj hy'
        rcases h with h | h
        · exact .inl (.inr (.inr (.inr (.inl h))))
        · simp [Value.ownBlock] at h
  have kg : Keeps (fun b => m.has b) W1 W5 := (keeps_of_grown hgr).mono (fun b hb => .inl (.inr (.inl hb)))
  have k1 : Keeps (fun b => m.has b) W1 (W5.setCell ⟨m.bb, 1, none⟩ v) := kg.trans (Keeps.setCell _ _ _ (.inl rfl)) (fun b hb => .inl hb)
  have k2 : Keeps (fun b => m.has b) W (W5.setCell ⟨m.bb, 1, none⟩ v) := (k.mono (fun _ h => h.elim)).trans k1 (fun b hb => .inl hb)
  have h4' : ∀ b ∈ s.foot, tagNew W1.heap.size 1 tag b = 4 := fun b hb => by rw [tagNew_old (M1.st.lt b hb)]; exact h4 b hb
  refine ⟨⟨Quiet.of_new M1.quiet k1 (fun b hb => (B.lt hb).1), M1.st.kept k1 (own_not_foot B h4), M.mu, ⟨_, B.push hgr hv hloc, h4'⟩, M.low, M.sb⟩, ⟨k2.mono (fun b hb => .inl (.inl hb)), fun b hb => ?_, rfl, rfl⟩⟩
  rcases hb with h | h
  · rcases hh b h with h | h
    · exact .inl (.inl h)
    · exact .inr h
  · exact .inl (.inr h)

/-- a table is made, and what is committed is that -/
theorem Mem.setT (M : Mem w W s m) {W1 : World} (k : Quiet W W1) {v : Value} {t : Tab} (hv : PrSl W.heap.size W1 v t) :
    Mem w (W1.setCell ⟨m.bb, 2, none⟩ v) s { m with tv := v, t := t } ∧ Nx W (W1.setCell ⟨m.bb, 2, none⟩ v) s s m { m with tv := v, t := t } := by
  obtain ⟨tag, B, h4⟩ := M.bk
  have hs := M.quiet.size
  have B1 : BookAt W1 w.heap.size (tagNew W.heap.size 3 tag) m := (B.tagNew 3).quiet k
  have hh : ∀ b, ({ m with tv := v, t := t } : MBk).has b → m.has b ∨ W.heap.size ≤ b := fun b hb => by
    rcases hb with h | h | h | h | h
    · exact .inl (.inl h)
    · exact .inl (.inr (.inl h))
    · exact .inl (.inr (.inr (.inl h)))
    · exact .inr (hv.lt b h).1
    · exact .inl (.inr (.inr (.inr (.inr h))))
  have k1 : Keeps (fun b => m.has b) W1 (W1.setCell ⟨m.bb, 2, none⟩ v) := Keeps.setCell _ _ _ (.inl rfl)
  have k2 : Keeps (fun b => m.has b) W (W1.setCell ⟨m.bb, 2, none⟩ v) := (k.mono (fun _ h => h.elim)).trans k1 (fun b hb => .inl hb)
  have h4' : ∀ b ∈ s.foot, tagNew W.heap.size 3 tag b = 4 := fun b hb => by rw [tagNew_old (M.st.lt b hb)]; exact h4 b hb
  refine ⟨⟨Quiet.of_new M.quiet k2 (fun b hb => (B.lt hb).1), M.st.kept k2 (own_not_foot B h4), M.mu, ⟨_, B1.setT (ownsRow_low hv hs) (fun b hb => tagNew_new (hv.lt b hb).1), h4'⟩, M.low, M.sb⟩, ⟨k2.mono (fun b hb => .inl (.inl hb)), fun b hb => ?_, rfl, rfl⟩⟩
  rcases hb with h | h
  · rcases hh b h with h | h
    · exact .inl (.inl h)
    · exact .inr h
  · exact .inl (.inr h)

def MBk.done (m : MBk) (i : Nat) (x : MDeal) (v : Value) : MBk := { m with cv := v, deals := m.deals.set i x.off, commits := m.commits ++ [(x.d.keys, x.kv)] }

/-- one has committed -/
theorem Mem.done (M : Mem w W s m) {i g : Nat} {x : MDeal} (hx : m.deals[i]? = some x) (hg : m.dv.ownBlock = some g) (hact : x.d.active = true) {W1 W5 : World} (k : Quiet W W1) {v : Value} (hgr : W1.grownBy W5 m.cv.ownBlock)
    (hv : W5.ownsRow w.heap.size 115 1 v (m.commits.length + 1) (m.commits.map (·.2) ++ [x.kv])) (hloc : ∀ b, v.ownBlock = some b → m.cv.ownBlock = some b ∨ W1.heap.size ≤ b) :
    Mem w ((W5.setCell ⟨m.bb, 3, none⟩ v).setCell ⟨g, i * 4, none⟩ (.bool false)) s (m.done i x v) ∧ Nx W ((W5.setCell ⟨m.bb, 3, none⟩ v).setCell ⟨g, i * 4, none⟩ (.bool false)) s s m (m.done i x v) := by
  have M1 := M.still k
  obtain ⟨tag, B, h4⟩ := M1.bk
  have hh : ∀ b, (m.done i x v).has b → m.has b ∨ W.heap.size ≤ b := fun b hb => by
    rcases hb with h | h | h | h | h
    · exact .inl (.inl h)
    · exact .inl (.inr (.inl h))
    · rcases hloc b h with h | h
      · exact .inl (.inr (.inr (.inl h)))
      · exact .inr (Nat.le_trans k.size h)
    · exact .inl (.inr (.inr (.inr (.inl h))))
    · rcases has_set (x' := x.off) hx (b := b) (.inr (.inr (.inr (.inr h)))) with h | h | h
      · exact .inl h
      · exact .inl (has_nv hx h)
      · exact .inl (has_kv hx h)
  have kg : Keeps (fun b => m.has b) W1 W5 := (keeps_of_grown hgr).mono (fun b hb => .inl (.inr (.inr (.inl hb))))
  have k0 : Keeps (fun b => m.has b) W1 (W5.setCell ⟨m.bb, 3, none⟩ v) := kg.trans (Keeps.setCell _ _ _ (.inl rfl)) (fun b hb => .inl hb)
  have k1 : Keeps (fun b => m.has b) W1 ((W5.setCell ⟨m.bb, 3, none⟩ v).setCell ⟨g, i * 4, none⟩ (.bool false)) := k0.trans (Keeps.setCell _ _ _ (.inr (.inl hg))) (fun b hb => .inl hb)
  have k2 : Keeps (fun b => m.has b) W ((W5.setCell ⟨m.bb, 3, none⟩ v).setCell ⟨g, i * 4, none⟩ (.bool false)) := (k.mono (fun _ h => h.elim)).trans k1 (fun b hb => .inl hb)
  have h4' : ∀ b ∈ s.foot, tagNew W1.heap.size 2 tag b = 4 := fun b hb => by rw [tagNew_old (M1.st.lt b hb)]; exact h4 b hb
  refine ⟨⟨Quiet.of_new M1.quiet k1 (fun b hb => (B.lt hb).1), M1.st.kept k1 (own_not_foot B h4), M.mu, ⟨_, B.done hx hg hact hgr hv hloc, h4'⟩, M.low, M.sb⟩, ⟨k2.mono (fun b hb => .inl (.inl hb)), fun b hb => ?_, rfl, rfl⟩⟩
  rcases hb with h | h
  · rcases hh b h with h | h
    · exact .inl (.inl h)
    · exact .inr h
  · exact .inl (.inr h)

end
end Go.Proofs.YthfimgeopciiiaaGreat

/-
  What the store answers is what the book says. No world, no program.
-/
namespace Go.Proofs.YthfimgeopciiiaaGreat
set_option linter.unusedVariables false

theorem act_of_mem {a : Abs} {n : Int} (I : a.Inv n) {t : Tx} (ht : t ∈ a.txs) (hc : t.cm = 0) : a.act? t.h = some t := by
  unfold Abs.act?
  have : a.txs.find? (fun x => decide (x.h = t.h)) = some t := by
    cases hf : a.txs.find? (fun x => decide (x.h = t.h)) with
    | none =>
      have := List.find?_eq_none.1 hf t ht
      simp at this
    | some x =>
      have h1 := List.mem_of_find?_eq_some hf
      have h2 : x.h = t.h := by simpa using List.find?_some hf
      rw [uniq_h I.nd h1 ht h2]
  rw [this]
  simp [Option.filter, hc]

section
variable {a : Abs} {B : Bk} {M n : Int}

theorem BkIs.act_some (h : BkIs a B M) (I : a.Inv n) {j : Int} {t : Tx} (e : a.act? j = some t) :
    t ∈ a.txs ∧ t.cm = 0 ∧ t.h = j ∧ 1 ≤ j ∧ j ≤ B.deals.length ∧ ∃ d, B.deals[(j - 1).toNat]? = some d ∧ DealIs a t d := by
  obtain ⟨h1, h2, h3⟩ := act_mem' e
  obtain ⟨d, hd, hD⟩ := h.act t h1 h3
  have hh := I.hs t h1
  rw [h2] at hd hh
  exact ⟨h1, h3, h2, hh.1, by rw [h.len]; exact hh.2, d, hd, hD⟩

def actB (B : Bk) (h : Int) : Bool := decide (1 ≤ h) && ((B.deals[(h - 1).toNat]?).map (·.active)).getD false

theorem BkIs.actB (h : BkIs a B M) (I : a.Inv n) (j : Int) : actB B j = (a.act? j).isSome := by
  unfold Go.Proofs.YthfimgeopciiiaaGreat.actB
  cases e : a.act? j with
  | some t =>
    obtain ⟨_, _, _, h1, _, d, hd, hD⟩ := h.act_some I e
    rw [hd]
    simp [h1, hD.active]
  | none =>
    by_cases hj : 1 ≤ j
    · cases hd : B.deals[(j - 1).toNat]? with
      | none => simp
      | some d =>
        cases ha : d.active with
        | false => simp [ha]
        | true =>
          obtain ⟨t, ht, hc, hh⟩ := h.idle _ d hd ha
          have : t.h = j := by rw [hh]; omega
          rw [← this, act_of_mem I ht hc] at e
          cases e
    · simp [hj]

theorem snap_gone {vs : List Ver} (hv : ∀ x ∈ vs, x.2.2 = true → x.2.1 = (⟨#[]⟩ : ByteArray)) (b : Int) : (snap vs b).2 = true → (snap vs b).1 = ⟨#[]⟩ := by
  unfold snap
  have : ∀ (vs : List Ver) (z : Cont), (∀ x ∈ vs, x.2.2 = true → x.2.1 = (⟨#[]⟩ : ByteArray)) → (z.2 = true → z.1 = (⟨#[]⟩ : ByteArray)) → (vs.foldl (snapF b) z).2 = true → (vs.foldl (snapF b) z).1 = ⟨#[]⟩ := by
    intro vs
    induction vs with
    | nil => intro z _ hz; exact hz
    | cons x r ih =>
      intro z hx hz
      rw [List.foldl_cons]
      refine ih _ (fun y hy => hx y (by simp [hy])) ?_
      unfold snapF
      split
      · exact hx x (by simp)
      · exact hz
  exact this vs _ hv (fun _ => rfl)

theorem Abs.Inv.vs_gone (I : a.Inv n) (k : ByteArray) : ∀ x ∈ a.vs k, x.2.2 = true → x.2.1 = (⟨#[]⟩ : ByteArray) := fun x hx hg => by
  unfold Abs.vs at hx
  cases hl : look a.vers k with
  | none => rw [hl] at hx; simp at hx
  | some vs =>
    rw [hl] at hx
    exact I.vgone (k, vs) (lookup_mem hl) x hx hg

theorem content_gone (I : a.Inv n) {t : Tx} (ht : t ∈ a.txs) (k : ByteArray) : (a.content t k).2 = true → (a.content t k).1 = ⟨#[]⟩ := by
  unfold Abs.content
  cases hl : look t.wr k with
  | some c => exact I.gone t ht (k, c) (lookup_mem hl)
  | none => exact snap_gone (I.vs_gone k) _

theorem seen_val {c : Cont} (hg : c.2 = true → c.1 = ⟨#[]⟩) : c.1 = (seen c).getD ⟨#[]⟩ ∧ (!c.2) = (seen c).isSome := by
  unfold seen
  cases h : c.2 with
  | true => exact ⟨hg h, rfl⟩
  | false => exact ⟨rfl, rfl⟩

/-- what Get tells is what the book says -/
theorem book_get (h : BkIs a B M) (I : a.Inv n) {j : Int} {k : ByteArray} {t : Tx} (ht : a.act? j = some t) {d : Deal} (D : DealIs a t d) (hk : keyB k = true) (h0 : (a.getR j k).1.2.2 = 0) :
    (a.getR j k).1.1 = (look d.now k).getD ⟨#[]⟩ ∧ (a.getR j k).1.2.1 = (look d.now k).isSome := by
  have hm := (act_mem' ht).1
  have hc := seen_val (content_gone I hm k)
  rw [D.now k]
  unfold Abs.getR at h0 ⊢
  rw [ht] at h0 ⊢
  simp only [hk, Bool.true_eq_false, if_false] at h0 ⊢
  unfold Abs.content at hc ⊢
  cases hl : look t.wr k with
  | some c =>
    rw [hl] at hc
    exact hc
  | none =>
    rw [hl] at hc h0
    simp only at h0 ⊢
    by_cases hr : (a.readR t (keyE k)).1 = 0
    · rw [if_pos hr]; exact hc
    · rw [if_neg hr] at h0; exact absurd h0 hr

theorem readR_err (a : Abs) (t : Tx) (e : Ent) : (a.readR t e).1 = 0 ∨ (a.readR t e).1 = 6 ∨ (a.readR t e).1 = 8 := by
  unfold Abs.readR
  split
  · exact .inr (.inl rfl)
  · split
    · exact .inr (.inr rfl)
    · exact .inl rfl

/-- what becomes of the book -/
def Bk.after (B : Bk) (h : Int) (e : Int) : Bk := if e = 8 then B.off h else B

theorem BkIs.readR (h : BkIs a B M) (I : a.Inv n) {t : Tx} (ht : t ∈ a.txs) (e : Ent) : BkIs (a.readR t e).2 (B.after t.h (a.readR t e).1) M := by
  unfold Abs.readR Bk.after
  by_cases h1 : a.room t e = false
  · rw [if_pos h1]; exact h
  · rw [if_neg h1]
    by_cases h2 : a.okR t e = false
    · rw [if_pos h2]; exact h.without I t.h (I.hs t ht).1
    · rw [if_neg h2]
      exact h.mapT _ (fun _ => rfl) (fun _ => rfl) (fun _ => rfl) (fun _ _ => rfl)

theorem BkIs.getR (h : BkIs a B M) (I : a.Inv n) (j : Int) (k : ByteArray) : BkIs (a.getR j k).2 (B.after j (a.getR j k).1.2.2) M := by
  unfold Abs.getR
  cases ha : a.act? j with
  | none => simp only [Bk.after]; exact h
  | some t =>
    obtain ⟨hm, hj, _⟩ := act_mem' ha
    simp only
    by_cases hk : keyB k = false
    · rw [if_pos hk]; exact h
    · rw [if_neg hk]
      cases look t.wr k with
      | some c => exact h
      | none =>
        simp only
        have := h.readR I hm (keyE k)
        rw [hj] at this
        by_cases hr : (a.readR t (keyE k)).1 = 0
        · rw [if_pos hr]
          rw [hr] at this
          exact this
        · rw [if_neg hr]; exact this

theorem BkIs.scanR (h : BkIs a B M) (I : a.Inv n) (j : Int) (lo hi : ByteArray) : BkIs (a.scanR j lo hi).2 (B.after j (a.scanR j lo hi).1.1) M := by
  unfold Abs.scanR
  cases ha : a.act? j with
  | none => simp only [Bk.after]; exact h
  | some t =>
    obtain ⟨hm, hj, _⟩ := act_mem' ha
    simp only
    by_cases hk : rangeE lo hi ≠ 0
    · rw [if_pos hk]
      have : rangeE lo hi ≠ 8 := by unfold rangeE; split <;> (try split) <;> decide
      simp only [Bk.after, this, if_false]
      exact h
    · rw [if_neg hk]
      have := h.readR I hm (rangeEnt lo hi)
      rw [hj] at this
      by_cases hr : (a.readR t (rangeEnt lo hi)).1 = 0
      · rw [if_pos hr]
        rw [hr] at this
        exact this
      · rw [if_neg hr]; exact this

/-! ### sorted tables -/

theorem sorted_ext : ∀ {l m : Tab}, SortedT l → SortedT m → (∀ x, x ∈ l ↔ x ∈ m) → l = m
  | [], [], _, _, _ => rfl
  | [], q :: m, _, _, h => by have := (h q).2 (by simp); simp at this
  | p :: l, [], _, _, h => by have := (h p).1 (by simp); simp at this
  | p :: l, q :: m, hl, hm, h => by
    have hl' := List.pairwise_cons.1 hl
    have hm' := List.pairwise_cons.1 hm
    have e : p = q := by
      rcases List.mem_cons.1 ((h p).1 (by simp)) with e | hp
      · exact e
      · rcases List.mem_cons.1 ((h q).2 (by simp)) with e | hq
        · exact e.symm
        · have h1 := hl'.1 q hq
          have h2 := hm'.1 p hp
          exact absurd (leB_antisymm h1.1 h2.1) h1.2
    subst e
    have : l = m := by
      refine sorted_ext hl'.2 hm'.2 (fun x => ?_)
      constructor
      · intro hx
        rcases List.mem_cons.1 ((h x).1 (by simp [hx])) with e | hx'
        · exact absurd (by rw [e]) (hl'.1 x hx).2
        · exact hx'
      · intro hx
        rcases List.mem_cons.1 ((h x).2 (by simp [hx])) with e | hx'
        · exact absurd (by rw [e]) (hm'.1 x hx).2
        · exact hx'
    rw [this]

theorem mem_look {t : Tab} (h : SortedT t) (k v : ByteArray) : (k, v) ∈ t ↔ look t k = some v := by
  constructor
  · intro hm
    obtain ⟨i, hi, e⟩ := List.mem_iff_getElem.1 hm
    exact lookup_at h.nd (by rw [List.getElem?_eq_getElem hi, e])
  · exact lookup_mem

theorem seen_some {c : Cont} {v : ByteArray} : seen c = some v ↔ c = (v, false) := by
  unfold seen
  obtain ⟨x, g⟩ := c
  cases g <;> simp

/-- what Scan tells is what the book says -/
theorem book_scan {t : Tx} {d : Deal} (D : DealIs a t d) {lo hi : ByteArray} {l : Tab} (S : ScanIs a t (rangeEnt lo hi) l) : l = tpart d.now lo hi := by
  refine sorted_ext S.sorted (List.Pairwise.filter _ D.sorted) (fun x => ?_)
  obtain ⟨k, v⟩ := x
  rw [S.mem k v]
  unfold tpart
  rw [List.mem_filter, mem_look D.sorted, D.now k, seen_some]
  exact and_comm

/-! ### how many -/

theorem nodup_le_len {α : Type} : ∀ (l m : List α), l.Nodup → (∀ x ∈ l, x ∈ m) → l.length ≤ m.length
  | [], m, _, _ => Nat.zero_le _
  | x :: l, m, hn, hs => by
    obtain ⟨m1, m2, rfl⟩ := List.append_of_mem (hs x (by simp))
    have hn' := List.nodup_cons.1 hn
    have := nodup_le_len l (m1 ++ m2) hn'.2 (fun y hy => by
      have := hs y (by simp [hy])
      simp only [List.mem_append, List.mem_cons] at this ⊢
      rcases this with h | h | h
      · exact .inl h
      · subst h; exact absurd hy hn'.1
      · exact .inr h)
    simp at this ⊢
    omega

theorem look_key {α β : Type} [DecidableEq α] {l : List (α × β)} {k : α} (h : (look l k).isSome = true) : k ∈ l.map (·.1) := by
  cases e : look l k with
  | none => rw [e] at h; cases h
  | some v => exact List.mem_map.2 ⟨(k, v), lookup_mem e, rfl⟩

theorem snap_nil (b : Int) : (snap [] b).2 = true := rfl

theorem seen_vs {k : ByteArray} {b : Int} {v : ByteArray} (h : seen (snap (a.vs k) b) = some v) : k ∈ a.vers.map (·.1) := by
  cases hl : look a.vers k with
  | some vs => exact look_key (by rw [hl]; rfl)
  | none =>
    have : a.vs k = [] := by unfold Abs.vs; rw [hl]; rfl
    rw [this] at h
    cases h

theorem vers_len (I : a.Inv n) : a.vers.length ≤ totV a.vers := by
  have := I.vne
  unfold totV
  generalize a.vers = V at *
  clear I
  induction V with
  | nil => simp
  | cons p r ih =>
    rw [sumN_cons]
    have h1 : p.2 ≠ [] := this p (by simp)
    have h2 := ih (fun q hq => this q (by simp [hq]))
    have : 0 < p.2.length := List.length_pos_iff.2 h1
    simp; omega

theorem BkIs.t_len (h : BkIs a B M) (I : a.Inv n) : B.t.length ≤ 128 := by
  have h1 := nodup_le_len (B.t.map (·.1)) (a.vers.map (·.1)) h.sorted.nd (fun k hk => by
    obtain ⟨p, hp, rfl⟩ := List.mem_map.1 hk
    have := (mem_look h.sorted p.1 p.2).1 hp
    rw [h.tab p.1] at this
    exact seen_vs this)
  simp at h1
  have h2 := vers_len I
  have h3 := I.vers
  have h4 := (config_parts I.cfg).2.2.2
  omega

theorem DealIs.len {t : Tx} {d : Deal} (D : DealIs a t d) (I : a.Inv n) (ht : t ∈ a.txs) : d.now.length ≤ 144 := by
  have h1 := nodup_le_len (d.now.map (·.1)) (t.wr.map (·.1) ++ a.vers.map (·.1)) D.sorted.nd (fun k hk => by
    obtain ⟨p, hp, rfl⟩ := List.mem_map.1 hk
    have := (mem_look D.sorted p.1 p.2).1 hp
    rw [D.now p.1] at this
    rw [List.mem_append]
    unfold Abs.content at this
    cases hl : look t.wr p.1 with
    | some c => exact .inl (look_key (by rw [hl]; rfl))
    | none =>
      rw [hl] at this
      exact .inr (seen_vs this))
  simp at h1
  have h2 := vers_len I
  have h3 := I.vers
  have h4 := config_parts I.cfg
  have h5 := I.writes t ht
  omega

/-! ### Write -/

/-- is a key taken? -/
def takenK (B : Bk) (h : Int) (bg : Int) (k : ByteArray) : Bool :=
  ((List.range B.deals.length).any fun i => decide ((i : Int) ≠ h - 1) && ((B.deals[i]?).map fun d => d.active && hasB d.keys k).getD false) || laterB B.commits bg k

theorem BkIs.takenK (h : BkIs a B M) (I : a.Inv n) {t : Tx} (ht : t ∈ a.txs) (hc : t.cm = 0) (k : ByteArray) : takenK B t.h t.bg k = (a.held t k || newerB (a.vs k) t.bg) := by
  unfold Go.Proofs.YthfimgeopciiiaaGreat.takenK
  rw [h.newer k t.bg (h.Ma t ht hc)]
  congr 1
  rw [Bool.eq_iff_iff]
  unfold Abs.held
  simp only [List.any_eq_true, List.mem_range, Bool.and_eq_true, decide_eq_true_eq, Bool.not_eq_true', decide_eq_false_iff_not, beq_iff_eq]
  constructor
  · rintro ⟨i, hi, hne, hd⟩
    cases hb : B.deals[i]? with
    | none => rw [hb] at hd; cases hd
    | some d =>
      rw [hb] at hd
      simp only [Option.map_some, Option.getD_some, Bool.and_eq_true] at hd
      obtain ⟨x, hx, hx0, hxh⟩ := h.idle i d hb hd.1
      obtain ⟨d', hd', hD⟩ := h.act x hx hx0
      have e : (x.h - 1).toNat = i := by omega
      rw [e, hb] at hd'
      obtain rfl := Option.some.inj hd'
      exact ⟨x, hx, ⟨by rw [← hD.keys k]; exact hd.2, by omega⟩, hx0⟩
  · rintro ⟨x, hx, ⟨hk, hne⟩, hx0⟩
    obtain ⟨d, hd, hD⟩ := h.act x hx hx0
    have h1 := (I.hs x hx).1
    refine ⟨(x.h - 1).toNat, (List.getElem?_eq_some_iff.1 hd).1, by omega, ?_⟩
    rw [hd]
    simp only [Option.map_some, Option.getD_some, Bool.and_eq_true]
    exact ⟨hD.active, by rw [hD.keys k]; exact hk⟩

def takenB (B : Bk) (h : Int) (bg : Int) (cs : List Chg) : Bool := cs.any fun c => takenK B h bg c.1

theorem BkIs.takenB (h : BkIs a B M) (I : a.Inv n) {t : Tx} (ht : t ∈ a.txs) (hc : t.cm = 0) (cs : List Chg) : takenB B t.h t.bg cs = a.clash t cs := by
  unfold Go.Proofs.YthfimgeopciiiaaGreat.takenB Abs.clash
  congr 1
  funext c
  exact h.takenK I ht hc c.1

/-- what becomes of the book behind a Write -/
def Bk.afterW (B : Bk) (h : Int) (e : Int) (cs : List Chg) : Bk := if e = 7 then B.off h else if e = 8 then B.off h else if e = 0 then B.wrote h cs else B

theorem changesE_ne (cs : List Chg) : changesE cs = 0 ∨ changesE cs = 3 ∨ changesE cs = 4 := by
  induction cs with
  | nil => exact .inl rfl
  | cons c r ih =>
    unfold changesE
    split
    · exact .inr (.inl rfl)
    · split
      · exact .inr (.inr rfl)
      · exact ih

theorem BkIs.writeR (h : BkIs a B M) (I : a.Inv n) (j : Int) (cs : List Chg) : BkIs (a.writeR j cs).2 (B.afterW j (a.writeR j cs).1 cs) M := by
  unfold Abs.writeR
  cases ha : a.act? j with
  | none => simp only [Bk.afterW]; exact h
  | some t =>
    obtain ⟨hm, hj, hc⟩ := act_mem' ha
    have h1 := (I.hs t hm).1
    simp only
    by_cases e1 : changesE cs ≠ 0
    · rw [if_pos e1]
      have : changesE cs ≠ 7 ∧ changesE cs ≠ 8 := by rcases changesE_ne cs with h | h | h <;> rw [h] <;> decide
      simp only [Bk.afterW, this.1, this.2, e1, if_false]
      exact h
    · rw [if_neg e1]
      by_cases e2 : a.c3 < t.keysWith cs
      · rw [if_pos e2]; exact h
      · rw [if_neg e2]
        by_cases e3 : a.clash t cs = true
        · rw [if_pos e3]; exact h.without I j (by rw [← hj]; exact h1)
        · rw [if_neg e3]
          by_cases e4 : a.okW t cs = false
          · rw [if_pos e4]; exact h.without I j (by rw [← hj]; exact h1)
          · rw [if_neg e4]
            have := h.wrote I hm hc cs (by simpa using e3)
            rw [hj] at this
            exact this

end
end Go.Proofs.YthfimgeopciiiaaGreat
