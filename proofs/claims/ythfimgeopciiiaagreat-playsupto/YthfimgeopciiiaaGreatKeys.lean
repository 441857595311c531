/-
  The keys of a range that have versions or that a transaction has written, sorted.
-/
import Derived.Test.YthfimgeopciiiaaGreatGet
import Derived.Sort.OwnSorted
namespace Go.Proofs.YthfimgeopciiiaaGreat
open Go.MapKept Go.ChangeMaps Go.Maps Go.RowKit Go.Sort

/-- a slice of texts in a row that is new since 'base' -/
abbrev SSl (base : Nat) (w : World) (v : Value) (l : List ByteArray) : Prop := w.ownsRow base 9 1 v l.length (l.map .string)

theorem enc_toList (l : List ByteArray) : (l.map (·.data.toList)).map encStr = l.map Value.string := by
  rw [List.map_map]; exact List.map_congr_left (fun x _ => rfl)

theorem enc_back (l : List (List UInt8)) : (l.map fun x => (⟨x.toArray⟩ : ByteArray)).map Value.string = l.map encStr := by
  rw [List.map_map]; exact List.map_congr_left (fun x _ => rfl)

def leB (a b : ByteArray) : Prop := a.data.toList ≤ b.data.toList

theorem Sort_h {w : World} {base : Nat} {v : Value} {l : List ByteArray} (h : SSl base w v l) (hl : l.length ≤ 100000) :
    Calls Tryz.prog 219 #[v] w fun e w' => e = .returned (.tuple #[]) ∧ (∃ l', l'.Perm l ∧ l'.Pairwise leB ∧ SSl base w' v l') ∧ Keeps (fun b => v.ownBlock = some b) w w' := by
  rcases h.2 with ⟨hn, h0⟩ | ⟨g, cap, cur, rfl, hb, hg, h1, h2, h3, h4⟩
  · have hl0 : l = [] := List.eq_nil_of_length_eq_zero h0
    subst hl0
    subst hn
    exact (Tryz.slices_Sort_string_none none 0 w).mono fun e w' ⟨h5, h6⟩ => ⟨h5, ⟨[], List.Perm.refl _, List.Pairwise.nil, by rw [h6]; exact World.ownsRow_nil _ _ _ _⟩, by rw [h6]; exact Keeps.refl _ _⟩
  · have hH : Holds encStr w g 0 (l.map (·.data.toList)).toArray := holds_of_block hg (by rw [enc_toList]; simpa using h4)
    have hc := Tryz.slices_Sort_string g 0 cap (l.map (·.data.toList)) w hH (lt_of_heap hg) (by simp; omega)
    simp only [List.length_map] at hc
    refine hc.mono fun e w' ⟨h5, n, os, h6⟩ => ⟨h5, ?_, ?_⟩
    · refine ⟨((l.map (·.data.toList)).mergeSort fun x y => decide (x ≤ y)).map fun x => (⟨x.toArray⟩ : ByteArray), ?_, ?_, ?_⟩
      · have := (List.mergeSort_perm (l.map (·.data.toList)) fun x y => decide (x ≤ y)).map fun x => (⟨x.toArray⟩ : ByteArray)
        refine this.trans ?_
        rw [List.map_map]
        exact List.Perm.of_eq ((List.map_congr_left (fun x _ => rfl)).trans (List.map_id l))
      · rw [List.pairwise_map]
        have := List.pairwise_mergeSort (le := fun x y : List UInt8 => decide (x ≤ y)) (fun a b c => by simpa using List.le_trans) (fun a b => by simpa using List.le_total a b) (l.map (·.data.toList))
        exact this.imp (fun h => by simpa [leB] using h)
      · have hlen : (((l.map (·.data.toList)).mergeSort fun x y => decide (x ≤ y)).map fun x => (⟨x.toArray⟩ : ByteArray)).length = l.length := by simp
        rw [SSl, hlen, enc_back, h6]
        have := ownsRow_sorted (w := w) (n := n) (os := os) (ss := l.map (·.data.toList)) (ts := (l.map (·.data.toList)).mergeSort fun x y => decide (x ≤ y)) (by simp) hb hg (by simpa using h1) h2 h3
        simpa using this
    · rw [h6]; exact (keeps_of_grown (grownBy_sorted _)).mono (fun b hb => .inl (by simpa [Value.ownBlock] using hb))

theorem info_string : (Tryz.prog.info? 9).map (fun i => (i.zero, i.size, i.bytes)) = some (some (.string ⟨#[]⟩), 1, 16) := by kernel_rfl

/-- the keys of the range, as they are met -/
def keysV (V : List (ByteArray × (Option Addr × Nat × Nat))) (e : Ent) : List ByteArray := (V.filter fun p => coversB e p.1).map (·.1)
def newB (V : List (ByteArray × (Option Addr × Nat × Nat))) (e : Ent) (k : ByteArray) : Bool := !(look V k).isSome && coversB e k
def keysW (V : List (ByteArray × (Option Addr × Nat × Nat))) (W : List (ByteArray × Cont)) (e : Ent) : List ByteArray := (W.filter fun p => newB V e p.1).map (·.1)

theorem filterKeys_step {β : Type} {f : ByteArray → Bool} {left left' : List (ByteArray × β)} {x : ByteArray} {y : β} (h : left.Perm ((x, y) :: left')) (l : List ByteArray) {T : List ByteArray} (hp : (l ++ (left.filter fun p => f p.1).map (·.1)).Perm T) :
    (l ++ (if f x then x :: (left'.filter fun p => f p.1).map (·.1) else (left'.filter fun p => f p.1).map (·.1))).Perm T := by
  have h1 := (filter_perm_step (f := fun p : ByteArray × β => f p.1) h).map (·.1)
  refine List.Perm.trans (List.Perm.append_left l ?_) hp
  refine List.Perm.trans ?_ h1.symm
  simp only
  split <;> simp

theorem MapIs.ok {α β : Type} {K : Kind α} {vf : β → Value} {w : World} {b : Nat} {l : List (α × β)} (h : MapIs K vf w b l) : ∀ p ∈ l, K.ok p.1 := by
  obtain ⟨es, clock, hb, hs, hm, hok⟩ := h
  exact hok

theorem SSl.snoc {base : Nat} {w : World} {v : Value} {l : List ByteArray} {y : ByteArray} (h : w.ownsRow base 9 1 v (l.length + 1) (l.map .string ++ [.string y])) : SSl base w v (l ++ [y]) := by
  have e1 : (l ++ [y]).length = l.length + 1 := by simp
  have e2 : (l ++ [y]).map Value.string = l.map Value.string ++ [Value.string y] := by simp
  rw [SSl, e1, e2]; exact h

set_option maxRecDepth 100000 in
set_option maxHeartbeats 2000000 in
theorem keysIn_walk (w : World) (sb vm t wb : Nat) (V : List (ByteArray × (Option Addr × Nat × Nat))) (W : List (ByteArray × Cont)) (x : Bool) (lo hi : ByteArray)
    (c10 : w.cell? ⟨sb, 10, none⟩ = some (.map (some vm))) (t3 : w.cell? ⟨t, 3, none⟩ = some (.map (some wb))) (hsb : sb < w.heap.size) (htb : t < w.heap.size) (hV : MapIs sk slV w vm V) (hW : MapIs sk contV w wb W) (hsz : V.length + W.length ≤ 2000) :
    Calls Tryz.prog 192 #[.pointer (some ⟨sb, 2, none⟩), .pointer (some ⟨t, 0, none⟩), .agg #[.bool x, .string lo, .string hi]] w fun e w' =>
      ∃ v l, e = .returned v ∧ SSl w.heap.size w' v l ∧ l.Perm (keysV V (x, lo, hi) ++ keysW V W (x, lo, hi)) ∧ l.Pairwise leB ∧ Quiet w w' := by
  obtain ⟨i0, hi0, hz0, hz1, hz2⟩ := info_parts info_string
  have hvl := hV.lt
  have hwl := hW.lt
  have HCo : Hid (∀ k W, Calls Tryz.prog 204 #[.agg #[.bool x, .string lo, .string hi], .string k] W fun e w' => e = .returned (.bool (coversB (x, lo, hi) k)) ∧ Quiet W w') := fun k W => covers_any x lo hi k W
  have hqA : Quiet w (w.alloc (.cells #[.bool x, .string lo, .string hi] 213)) := Keeps.alloc _ _
  have hVA : MapIs sk slV (w.alloc (.cells #[.bool x, .string lo, .string hi] 213)) vm V := hV.of_block (hqA.block _ hvl (by simp))
  have hbx0 : (w.alloc (.cells #[.bool x, .string lo, .string hi] 213)).heap[w.heap.size]? = some (.cells #[.bool x, .string lo, .string hi] 213) := heap_alloc_new w _
  have hszA : (w.alloc (.cells #[.bool x, .string lo, .string hi] 213)).heap.size = w.heap.size + 1 := by simp
  go_enter Tryz.func192, Tryz.ntmps192
  go_wp2_with (first
    | (at_range; refine wpList_range_is _ rfl _ 132 rfl 9 224 Tryz.underlying132 vm _ rfl hVA ?_; intro w0 hrg0 hk0 hs0)
    | go_in)
  rw [hszA] at hrg0 hs0 ⊢
  have hq0 : Quiet w w0 := Quiet.trans' hqA hk0
  have hbx1 : w0.heap[w.heap.size]? = some (.cells #[.bool x, .string lo, .string hi] 213) := (hk0.block _ (by simp) (by simp)).trans hbx0
  clear hbx0 hVA hqA hk0
  go_frame
  go_loopw [7] (fun v wr => ∃ left l, RangeIs sk slV wr vm (w.heap.size + 1) V left ∧ Quiet w wr ∧ wr.heap[w.heap.size]? = some (.cells #[.bool x, .string lo, .string hi] 213) ∧ SSl (w.heap.size + 2) wr v l ∧ left.length + l.length ≤ V.length ∧
      (l ++ keysV left (x, lo, hi)).Perm (keysV V (x, lo, hi)))
    (fun _ wr => wr.rangeLeft vm (w.heap.size + 1))
  case atStart => exact ⟨V, [], hrg0, hq0, hbx1, World.ownsRow_nil _ _ _ _, by simp, List.Perm.refl _⟩
  case round =>
    obtain ⟨left, l, hrg, hkp, hbx, hown, hll, hperm⟩ := hrel
    have HP : Hid ((l ++ keysV left (x, lo, hi)).Perm (keysV V (x, lo, hi))) := hperm
    clear hperm hrg0 hbx1 hq0 hs0
    go_wp2_with (first
      | (at_next; refine wpList_next_is _ rfl _ rfl vm (w.heap.size + 1) V left rfl hrg ?_ ?_)
      | go_in)
    · refine ⟨fun h0 => ?_⟩
      subst h0
      have HP0 : Hid (l.Perm (keysV V (x, lo, hi))) := by have := HP.out; rw [Hid]; simpa [keysV] using this
      have hWr : MapIs sk contV wr wb W := hW.of_block (hkp.block _ hwl (by simp))
      have t3r : wr.cell? ⟨t, 3, none⟩ = some (.map (some wb)) := (hkp.cell htb (by simp)).trans t3
      have hllV : l.length ≤ V.length := by simpa using hll
      have hrgl := hrg.lt
      clear HP hW t3 hll hrg
      go_wp2_with (first
        | (at_range; refine wpList_range_is _ rfl _ 171 rfl 9 231 Tryz.underlying171 wb _ rfl hWr ?_; intro w5 hrg5 hk5 hs5)
        | go_in)
      have hq5 : Quiet w w5 := Quiet.trans' hkp hk5
      have hbx5 : w5.heap[w.heap.size]? = some (.cells #[.bool x, .string lo, .string hi] 213) := (hk5.block _ (by omega) (by simp)).trans hbx
      have hown5 : SSl (w.heap.size + 2) w5 _ l := ownsRow_of_block hown (fun b hb => hk5.block b (hown.lt b hb).2 (by simp))
      have hne5 : ∀ b, _ = some b → b < wr.heap.size := fun b hb => (hown.lt b hb).2
      generalize hit : wr.heap.size = it at *
      have hitl : w.heap.size + 2 ≤ it := by omega
      clear hbx hkp hWr t3r hk5 hrgl
      go_frame
      go_loopw [7] (fun v wq => ∃ left m, RangeIs sk contV wq wb it W left ∧ Quiet w wq ∧ wq.heap[w.heap.size]? = some (.cells #[.bool x, .string lo, .string hi] 213) ∧ SSl (w.heap.size + 2) wq v m ∧ v.ownBlock ≠ some it ∧ left.length + m.length ≤ V.length + W.length ∧
          (m ++ keysW V left (x, lo, hi)).Perm (keysV V (x, lo, hi) ++ keysW V W (x, lo, hi)))
        (fun _ wq => wq.rangeLeft wb it)
      case atStart => exact ⟨W, l, hrg5, hq5, hbx5, hown5, fun e => by have := hne5 _ e; omega, by omega, HP0.out.append_right _⟩
      case round =>
        obtain ⟨left, m, hrg, hkp, hbx, hown, hvr, hll, hperm⟩ := hrel
        have HP : Hid ((m ++ keysW V left (x, lo, hi)).Perm (keysV V (x, lo, hi) ++ keysW V W (x, lo, hi))) := hperm
        clear hperm hrg5 hq5 hbx5 hown5 hne5 HP0 hs5
        go_wp2_with (first
          | (at_next; refine wpList_next_is _ rfl _ rfl wb it W left rfl hrg ?_ ?_)
          | go_in)
        · refine ⟨fun h0 => ?_⟩
          subst h0
          have HP1 : Hid (m.Perm (keysV V (x, lo, hi) ++ keysW V W (x, lo, hi))) := by have := HP.out; rw [Hid]; simpa [keysW] using this
          have hml : m.length ≤ 100000 := by simp at hll; omega
          have HS := hidC (Sort_h hown hml)
          have hlo := hown.lt
          clear HP hrg hbx c10 HCo
          go_wp2_with (go_at_call 219; refine (HS.out).mono ?_; rintro e w9 ⟨rfl, ⟨l', hp', hso, hown9⟩, hk9⟩)
          go_ret
          exact ⟨_, l', rfl, ownsRow_low hown9 (by omega), hp'.trans HP1.out, hso, Quiet.of_new hkp hk9 (fun b hb => by have := (hlo b hb).1; omega)⟩
        · refine ⟨fun ⟨k⟩ ⟨y⟩ left' w1 hp hmem hrg1 hk1 hs1 hen => ?_⟩
          have hkp1 : Quiet w w1 := Keeps.trans hkp hk1 (fun b hb => .inr (by omega))
          have HB := filterKeys_step (f := newB V (x, lo, hi)) hp m HP.out
          have hlen := hp.length_eq
          have hlo := hown.lt
          have hbl := lt_of_heap hbx
          have hown1 : SSl (w.heap.size + 2) w1 _ m := ownsRow_of_block hown (fun b hb => hk1.block b (hown.lt b hb).2 (fun e => hvr (by rw [hb, e])))
          have hbx1 : w1.heap[w.heap.size]? = some (.cells #[.bool x, .string lo, .string hi] 213) := (hk1.block _ hbl (by omega)).trans hbx
          have b0 := cell_of_heap (i := 0) hbx1
          have b1 := cell_of_heap (i := 1) hbx1
          have b2 := cell_of_heap (i := 2) hbx1
          simp at b0 b1 b2
          have hk1l : w.heap.size < w1.heap.size := by omega
          have hV1 : MapIs sk slV w1 vm V := hV.of_block (hkp1.block _ hvl (by simp))
          have hlk := hV1.look sk_good Tryz.underlying132 zero_vers (x := k) (hrg.map.ok _ hmem) true
          have d10 : w1.cell? ⟨sb, 10, none⟩ = some (.map (some vm)) := (hkp1.cell hsb (by simp)).trans c10
          simp only [sk, contV] at hen
          simp only [sk, if_true] at hlk
          clear hV1 HP c10 hown
          cases hlook : look V k with
          | some z =>
            simp only [hlook, Option.map_some, Option.getD_some, Option.isSome_some, slV] at hlk
            have hf : newB V (x, lo, hi) k = false := by simp [newB, hlook]
            rw [if_neg (by rw [hf]; simp)] at HB
            have HC : Hid ((m ++ keysW V left' (x, lo, hi)).Perm (keysV V (x, lo, hi) ++ keysW V W (x, lo, hi))) := HB
            clear HB hf hlook HCo
            go_wp2
            go_roundw
            case rel => exact ⟨left', m, hrg1, hkp1, hbx1, hown1, hvr, by simp at hlen ⊢; omega, HC.out⟩
            case measure => rw [hrg1.left_eq, hrg.left_eq, hlen]; simp
          | none =>
            simp only [hlook, Option.map_none, Option.getD_none, Option.isSome_none] at hlk
            have hf : newB V (x, lo, hi) k = coversB (x, lo, hi) k := by simp [newB, hlook]
            rw [hf] at HB
            clear hf hlook
            by_cases hc : coversB (x, lo, hi) k = true
            · have HCk : Hid (∀ W, Calls Tryz.prog 204 #[.agg #[.bool x, .string lo, .string hi], .string k] W fun e w' => e = .returned (.bool true) ∧ Quiet W w') := fun W => by rw [← hc]; exact HCo.out k W
              rw [if_pos hc] at HB
              have HC : Hid ((m ++ [k] ++ keysW V left' (x, lo, hi)).Perm (keysV V (x, lo, hi) ++ keysW V W (x, lo, hi))) := by rw [Hid, List.append_assoc]; exact HB
              clear HB hc HCo
              go_wp2_with (first
                | (go_at_call 204; refine (HCk.out _).mono ?_; rintro e w3 ⟨rfl, hq3⟩; have hown3 : SSl (w.heap.size + 2) w3 _ m := ownsRow_of_block hown1 (fun b hb => hq3.block b (hown1.lt b hb).2 (by simp)))
                | (at_builtin; refine wpList_append_own_at _ rfl _ _ 115 rfl (w.heap.size + 2) 9 i0 (.string ⟨#[]⟩) 1 16 Tryz.underlying115 hi0 hz0 hz1 hz2 rfl (by decide) _ _ _ (by simp [go_sem]) (hown3.alloc _) ⟨w3.heap.size, 0, none⟩ 1 1 [.string k] (by simp [go_sem]) rfl ?_ ?_ ?_ ?_ ?_ ?_)
                | fail)
              · exact cell_oneNew w3 (.string k) 9
              · intro u hu; simp only [List.mem_singleton] at hu; subst hu; rfl
              · unfold maxLen; omega
              · omega
              · have := hq3.size; have := hrg1.lt; simp; omega
              intro v' w4 hown4 hgrow hnil hloc
              have k4 := keeps_of_grown hgrow
              have hlo3 := hown3.lt
              have hrg3 := hrg1.kept hq3 (by simp) (by simp)
              have hrl3 := hrg3.lt
              have hbx3 : w3.heap[w.heap.size]? = some (.cells #[.bool x, .string lo, .string hi] 213) := (hq3.block _ hk1l (by simp)).trans hbx1
              have hq4 : Quiet w w4 := Quiet.of_new (Quiet.trans' (Quiet.trans' hkp1 hq3) (Keeps.alloc _ _)) k4 (fun b hb => by have := (hlo3 b hb).1; omega)
              have hrg4 : RangeIs sk contV w4 wb it W left' := (hrg3.kept (Keeps.alloc (S := fun _ => False) _ _) (by simp) (by simp)).kept k4 (fun hb => by have := (hlo3 _ hb).1; omega) (fun hb => hvr hb)
              have hown5 := SSl.snoc hown4
              have hbx4 : w4.heap[w.heap.size]? = some (.cells #[.bool x, .string lo, .string hi] 213) := (k4.block _ (by simp; omega) (fun hb => by have := (hlo3 _ hb).1; omega)).trans ((heap_alloc_old w3 _ (by omega)).trans hbx3)
              have hvr4 : v'.ownBlock ≠ some it := fun e => by
                rcases hloc with h | h
                · exact hvr (h ▸ e)
                · rw [h] at e; simp at e; omega
              clear hown4 hgrow hnil hloc k4 hown3
              go_wp2
              go_roundw
              case rel => exact ⟨left', m ++ [k], hrg4, hq4, hbx4, hown5, hvr4, by simp at hlen ⊢; omega, HC.out⟩
              case measure => rw [hrg4.left_eq, hrg.left_eq, hlen]; simp
            · have hc' : coversB (x, lo, hi) k = false := by simpa using hc
              have HCk : Hid (∀ W, Calls Tryz.prog 204 #[.agg #[.bool x, .string lo, .string hi], .string k] W fun e w' => e = .returned (.bool false) ∧ Quiet W w') := fun W => by rw [← hc']; exact HCo.out k W
              rw [if_neg hc] at HB
              have HC : Hid ((m ++ keysW V left' (x, lo, hi)).Perm (keysV V (x, lo, hi) ++ keysW V W (x, lo, hi))) := HB
              clear HB hc hc' HCo
              go_wp2_with (first | (go_at_call 204; refine (HCk.out _).mono ?_; rintro e w3 ⟨rfl, hq3⟩) | fail)
              have hown3 : SSl (w.heap.size + 2) w3 _ m := ownsRow_of_block hown1 (fun b hb => hq3.block b (hown1.lt b hb).2 (by simp))
              have hrg3 := hrg1.kept hq3 (by simp) (by simp)
              have hbx3 : w3.heap[w.heap.size]? = some (.cells #[.bool x, .string lo, .string hi] 213) := (hq3.block _ hk1l (by simp)).trans hbx1
              go_roundw
              case rel => exact ⟨left', m, hrg3, Quiet.trans' hkp1 hq3, hbx3, hown3, hvr, by simp at hlen ⊢; omega, HC.out⟩
              case measure => rw [hrg3.left_eq, hrg.left_eq, hlen]; simp
    · refine ⟨fun ⟨k⟩ ⟨y⟩ left' w1 hp hmem hrg1 hk1 hs1 hen => ?_⟩
      have hkp1 : Quiet w w1 := Keeps.trans hkp hk1 (fun b hb => .inr (by omega))
      have HB := filterKeys_step (f := coversB (x, lo, hi)) hp l HP.out
      have hlen := hp.length_eq
      have hlo := hown.lt
      have hbxw : wr.heap.size ≤ w1.heap.size := by omega
      have hbl := lt_of_heap hbx
      have hown1 : SSl (w.heap.size + 2) w1 _ l := ownsRow_of_block hown (fun b hb => hk1.block b (hown.lt b hb).2 (fun e => by have := (hlo b hb).1; omega))
      have hbx1 : w1.heap[w.heap.size]? = some (.cells #[.bool x, .string lo, .string hi] 213) := (hk1.block _ hbl (by omega)).trans hbx
      have b0 := cell_of_heap (i := 0) hbx1
      have b1 := cell_of_heap (i := 1) hbx1
      have b2 := cell_of_heap (i := 2) hbx1
      simp only [sk] at hen
      simp at b0 b1 b2
      have hk1l : w.heap.size < w1.heap.size := by omega
      by_cases hc : coversB (x, lo, hi) k = true
      · have HCk : Hid (∀ W, Calls Tryz.prog 204 #[.agg #[.bool x, .string lo, .string hi], .string k] W fun e w' => e = .returned (.bool true) ∧ Quiet W w') := fun W => by rw [← hc]; exact HCo.out k W
        rw [if_pos hc] at HB
        have HC : Hid ((l ++ [k] ++ keysV left' (x, lo, hi)).Perm (keysV V (x, lo, hi))) := by rw [Hid, List.append_assoc]; exact HB
        clear HB hc HP HCo c10 t3 hown
        go_wp2_with (first
          | (go_at_call 204; refine (HCk.out _).mono ?_; rintro e w3 ⟨rfl, hq3⟩; have hown3 : SSl (w.heap.size + 2) w3 _ l := ownsRow_of_block hown1 (fun b hb => hq3.block b (hown1.lt b hb).2 (by simp)))
          | (at_builtin; refine wpList_append_own_at _ rfl _ _ 115 rfl (w.heap.size + 2) 9 i0 (.string ⟨#[]⟩) 1 16 Tryz.underlying115 hi0 hz0 hz1 hz2 rfl (by decide) _ _ _ (by simp [go_sem]) (hown3.alloc _) ⟨w3.heap.size, 0, none⟩ 1 1 [.string k] (by simp [go_sem]) rfl ?_ ?_ ?_ ?_ ?_ ?_)
          | fail)
        · exact cell_oneNew w3 (.string k) 9
        · intro u hu; simp only [List.mem_singleton] at hu; subst hu; rfl
        · unfold maxLen; omega
        · omega
        · have := hq3.size; have := hrg1.lt; simp; omega
        intro v' w4 hown4 hgrow hnil hloc
        have k4 := keeps_of_grown hgrow
        have hlo3 := hown3.lt
        have hrg3 := hrg1.kept hq3 (by simp) (by simp)
        have hrl3 := hrg3.lt
        have hbx3 : w3.heap[w.heap.size]? = some (.cells #[.bool x, .string lo, .string hi] 213) := (hq3.block _ hk1l (by simp)).trans hbx1
        have hq4 : Quiet w w4 := Quiet.of_new (Quiet.trans' (Quiet.trans' hkp1 hq3) (Keeps.alloc _ _)) k4 (fun b hb => by have := (hlo3 b hb).1; omega)
        have hrg4 : RangeIs sk slV w4 vm (w.heap.size + 1) V left' := (hrg3.kept (Keeps.alloc (S := fun _ => False) _ _) (by simp) (by simp)).kept k4 (fun hb => by have := (hlo3 _ hb).1; omega) (fun hb => by have := (hlo3 _ hb).1; omega)
        have hown5 := SSl.snoc hown4
        have hbx4 : w4.heap[w.heap.size]? = some (.cells #[.bool x, .string lo, .string hi] 213) := (k4.block _ (by simp; omega) (fun hb => by have := (hlo3 _ hb).1; omega)).trans ((heap_alloc_old w3 _ (by omega)).trans hbx3)
        clear hown4 hgrow hnil hloc k4 hown3
        go_wp2
        go_roundw
        case rel => exact ⟨left', l ++ [k], hrg4, hq4, hbx4, hown5, by simp at hlen ⊢; omega, HC.out⟩
        case measure => rw [hrg4.left_eq, hrg.left_eq, hlen]; simp
      · have hc' : coversB (x, lo, hi) k = false := by simpa using hc
        have HCk : Hid (∀ W, Calls Tryz.prog 204 #[.agg #[.bool x, .string lo, .string hi], .string k] W fun e w' => e = .returned (.bool false) ∧ Quiet W w') := fun W => by rw [← hc']; exact HCo.out k W
        rw [if_neg hc] at HB
        have HC : Hid ((l ++ keysV left' (x, lo, hi)).Perm (keysV V (x, lo, hi))) := HB
        clear HB hc hc' HP HCo c10 t3 hown
        go_wp2_with (first | (go_at_call 204; refine (HCk.out _).mono ?_; rintro e w3 ⟨rfl, hq3⟩) | fail)
        have hown3 : SSl (w.heap.size + 2) w3 _ l := ownsRow_of_block hown1 (fun b hb => hq3.block b (hown1.lt b hb).2 (by simp))
        have hrg3 := hrg1.kept hq3 (by simp) (by simp)
        have hbx3 : w3.heap[w.heap.size]? = some (.cells #[.bool x, .string lo, .string hi] 213) := (hq3.block _ hk1l (by simp)).trans hbx1
        go_roundw
        case rel => exact ⟨left', l, hrg3, Quiet.trans' hkp1 hq3, hbx3, hown3, by simp at hlen ⊢; omega, HC.out⟩
        case measure => rw [hrg3.left_eq, hrg.left_eq, hlen]; simp

end Go.Proofs.YthfimgeopciiiaaGreat
