/-
  The laws' own helpers: whole, proper, opened.
-/
import Derived.Test.YthfimgeopciiiaaGreatSim
import Derived.Test.YthfimgeopciiiaaGreatPlayD
import Derived.Laws.IdiomStrings
import Derived.Laws.OwnMore
namespace Go.Proofs.YthfimgeopciiiaaGreat
open Go.MapKept Go.ChangeMaps Go.Maps Go.RowKit Go.MuLone

set_option maxRecDepth 100000 in
set_option maxHeartbeats 1000000 in
theorem whole_h (w : World) : Calls Tryz.prog 21 #[] w fun e w' => e = .returned (.agg #[.int .i64 32, .int .i64 64, .int .i64 16, .int .i64 128]) ∧ Quiet w w' := by
  go_enter Tryz.func21, Tryz.ntmps21
  go_wp2
  have hq : Quiet w (w.alloc (.cells #[.int .i64 32, .int .i64 64, .int .i64 16, .int .i64 128] 23)) := Keeps.alloc _ _
  have eb : (w.alloc (.cells #[.int .i64 32, .int .i64 64, .int .i64 16, .int .i64 128] 23)).heap[w.heap.size]? = some (.cells #[.int .i64 32, .int .i64 64, .int .i64 16, .int .i64 128] 23) := heap_alloc_new w _
  generalize w.alloc (.cells #[.int .i64 32, .int .i64 64, .int .i64 16, .int .i64 128] 23) = Y at *
  have e0 := cell_of_heap (i := 0) eb
  have e1 := cell_of_heap (i := 1) eb
  have e2 := cell_of_heap (i := 2) eb
  have e3 := cell_of_heap (i := 3) eb
  simp at e0 e1 e2 e3
  exact bodyPost_ret (v := .agg #[.int .i64 32, .int .i64 64, .int .i64 16, .int .i64 128]) (by simp [results, Tryz.results21, go_sem, e0, e1, e2, e3]) rfl ⟨rfl, hq⟩

set_option maxRecDepth 100000 in
set_option maxHeartbeats 4000000 in
theorem proper_any (a b c d : Int) (w : World) :
    Calls Tryz.prog 40 #[.agg #[.int .i64 a, .int .i64 b, .int .i64 c, .int .i64 d]] w fun e w' => e = .returned (.bool (configB a b c d)) ∧ Quiet w w' := by
  have eq : configB a b c d = decide ((1 ≤ a ∧ a ≤ 32) ∧ (1 ≤ b ∧ b ≤ 64) ∧ (1 ≤ c ∧ c ≤ 16) ∧ (1 ≤ d ∧ d ≤ 128)) := by
    rw [Bool.eq_iff_iff]; simp [configB, withinB]; omega
  have H : Hid (configB a b c d = decide ((1 ≤ a ∧ a ≤ 32) ∧ (1 ≤ b ∧ b ≤ 64) ∧ (1 ≤ c ∧ c ≤ 16) ∧ (1 ≤ d ∧ d ≤ 128))) := eq
  clear eq
  go_enter Tryz.func40, Tryz.ntmps40
  go_wp2
  all_goals go_ret
  all_goals refine ⟨ret_bool ?_, Keeps.alloc _ _⟩
  all_goals rw [H.out]
  all_goals first | (rw [decide_eq_decide]; omega) | (symm; rw [decide_eq_false_iff_not]; omega)

set_option maxRecDepth 100000 in
set_option maxHeartbeats 1000000 in
theorem opened_ok (a b c d : Int) (w : World) (h : configB a b c d = true) :
    Calls Tryz.prog 13 #[.agg #[.int .i64 a, .int .i64 b, .int .i64 c, .int .i64 d]] w fun e w' => ∃ N, e = .returned (.tuple #[.pointer (some ⟨N + 2, 0, none⟩), .bool true]) ∧ w.heap.size ≤ N ∧ StAt w' (newSto a b c d N (N + 2)) ∧ Quiet w w' := by
  have HN : Hid (∀ o, Calls Tryz.prog 35 #[.agg #[.int .i64 a, .int .i64 b, .int .i64 c, .int .i64 d]] (w.alloc o) fun e w' => ∃ N, e = .returned (.tuple #[.pointer (some ⟨N + 2, 0, none⟩), .int .i64 0]) ∧ w.heap.size ≤ N ∧ StAt w' (newSto a b c d N (N + 2)) ∧ Quiet w w' ∧ w'.heap[w.heap.size]? = some o) := fun o => by
    refine (New_ok a b c d (w.alloc o) h).mono fun e w' ⟨N, h1, h2, h3, h4⟩ => ⟨N, h1, by simp at h2; omega, h3, Quiet.trans' (Keeps.alloc _ _) h4, newBlock_kept h4⟩
  have HP : Hid (∀ W, Calls Tryz.prog 40 #[.agg #[.int .i64 a, .int .i64 b, .int .i64 c, .int .i64 d]] W fun e w' => e = .returned (.bool true) ∧ Quiet W w') := fun W => by rw [← h]; exact proper_any a b c d W
  have hneq : ∀ (g : Nat) (W : World), (binOp .neq 29 (.pointer (some ⟨g, 0, none⟩)) (.pointer none)).run Tryz.prog W = .ok (.bool true) W := fun g W => by kernel_rfl
  go_enter Tryz.func13, Tryz.ntmps13
  go_wp2_with (first
    | (go_at_call 35; refine (HN.out _).mono ?_; rintro e w2 ⟨N, rfl, hN, hS, hq2, hb⟩; have b0 := cell_of_heap (i := 0) hb; have b1 := cell_of_heap (i := 1) hb; have b2 := cell_of_heap (i := 2) hb; have b3 := cell_of_heap (i := 3) hb; simp at b0 b1 b2 b3)
    | (go_at_call 40; refine (HP.out _).mono ?_; rintro e w3 ⟨rfl, hq3⟩))
  go_ret2
  exact ⟨N, rfl, hN, hS.quiet hq3, Quiet.trans' hq2 hq3⟩

set_option maxRecDepth 100000 in
set_option maxHeartbeats 1000000 in
theorem opened_bad (a b c d : Int) (w : World) (h : configB a b c d = false) :
    Calls Tryz.prog 13 #[.agg #[.int .i64 a, .int .i64 b, .int .i64 c, .int .i64 d]] w fun e w' => e = .returned (.tuple #[.pointer none, .bool true]) ∧ Quiet w w' := by
  have HN : Hid (∀ o, Calls Tryz.prog 35 #[.agg #[.int .i64 a, .int .i64 b, .int .i64 c, .int .i64 d]] (w.alloc o) fun e w' => e = .returned (.tuple #[.pointer none, .int .i64 1]) ∧ Quiet w w' ∧ w'.heap[w.heap.size]? = some o) := fun o => by
    refine (New_bad a b c d (w.alloc o) h).mono fun e w' ⟨h1, h4⟩ => ⟨h1, Quiet.trans' (Keeps.alloc _ _) h4, newBlock_kept h4⟩
  have HP : Hid (∀ W, Calls Tryz.prog 40 #[.agg #[.int .i64 a, .int .i64 b, .int .i64 c, .int .i64 d]] W fun e w' => e = .returned (.bool false) ∧ Quiet W w') := fun W => by rw [← h]; exact proper_any a b c d W
  have hneq : ∀ (W : World), (binOp .eql 29 (.pointer none) (.pointer none)).run Tryz.prog W = .ok (.bool true) W := fun W => by kernel_rfl
  go_enter Tryz.func13, Tryz.ntmps13
  go_wp2_with (first
    | (go_at_call 35; refine (HN.out _).mono ?_; rintro e w2 ⟨rfl, hq2, hb⟩; have b0 := cell_of_heap (i := 0) hb; have b1 := cell_of_heap (i := 1) hb; have b2 := cell_of_heap (i := 2) hb; have b3 := cell_of_heap (i := 3) hb; simp at b0 b1 b2 b3)
    | (go_at_call 40; refine (HP.out _).mono ?_; rintro e w3 ⟨rfl, hq3⟩))
  go_ret2
  exact ⟨rfl, Quiet.trans' hq2 hq3⟩

/-- two tables, as they lie in memory -/
def PrAt (w : World) (v : Value) (l : List (ByteArray × ByteArray)) : Prop :=
  ∃ a cap, v = .slice a l.length cap ∧ (l = [] ∨ ∃ g o, a = some ⟨g, o, none⟩ ∧ g < w.heap.size ∧ ∀ i p, l[i]? = some p → w.cell? ⟨g, o + i * 2, none⟩ = some (.string p.1) ∧ w.cell? ⟨g, o + i * 2 + 1, none⟩ = some (.string p.2))

theorem getElem_pairCells : ∀ (l : List (ByteArray × ByteArray)) (i : Nat) (p : ByteArray × ByteArray), l[i]? = some p → (l.flatMap pairCells)[i * 2]? = some (.string p.1) ∧ (l.flatMap pairCells)[i * 2 + 1]? = some (.string p.2)
  | [], i, x, h => by simp at h
  | y :: l, 0, x, h => by simp at h; subst h; simp [pairCells]
  | y :: l, i + 1, x, h => by
    have h' : l[i]? = some x := by simpa using h
    have := getElem_pairCells l i x h'
    rw [show (i + 1) * 2 + 1 = (i * 2 + 1) + 2 by omega, show (i + 1) * 2 = i * 2 + 2 by omega]
    simp only [List.flatMap_cons, pairCells, List.cons_append, List.nil_append, List.getElem?_cons_succ]
    exact this

theorem PrAt.of_sl {w : World} {N : Nat} {v : Value} {l : List (ByteArray × ByteArray)} (h : PrSl N w v l) : PrAt w v l := by
  rcases h.2 with ⟨e, h0⟩ | ⟨g, cap, cur, e, _, hg, h1, h2, h3, h4⟩
  · exact ⟨none, 0, by rw [e, h0], .inl (List.eq_nil_of_length_eq_zero h0)⟩
  · refine ⟨_, cap, e, .inr ⟨g, 0, rfl, lt_of_heap hg, fun i p hp => ?_⟩⟩
    have hi : i < l.length := (List.getElem?_eq_some_iff.1 hp).1
    obtain ⟨p1, p2⟩ := getElem_pairCells l i p hp
    rw [← h4] at p1 p2
    rw [List.getElem?_take, if_pos (by omega)] at p1 p2
    simp only [cell_of_heap hg, Nat.zero_add]
    exact ⟨by simpa using p1, by simpa using p2⟩

theorem PrAt.quiet {w w' : World} {v : Value} {l : List (ByteArray × ByteArray)} (h : PrAt w v l) (k : Quiet w w') : PrAt w' v l := by
  obtain ⟨a, cap, e, hc⟩ := h
  refine ⟨a, cap, e, ?_⟩
  rcases hc with h0 | ⟨g, o, ea, hg, hcell⟩
  · exact .inl h0
  · exact .inr ⟨g, o, ea, Nat.lt_of_lt_of_le hg k.size, fun i p hp => by simp only [k.cell hg (by simp)]; exact hcell i p hp⟩

set_option maxRecDepth 100000 in
set_option maxHeartbeats 4000000 in
/-- a table is the same as itself -/
theorem same_self (w : World) (v u : Value) (l : List (ByteArray × ByteArray)) (hv : PrAt w v l) (hu : PrAt w u l) (hl : l.length ≤ 9223372036854775807) :
    Calls Tryz.prog 17 #[v, u] w fun e w' => e = .returned (.bool true) ∧ Quiet w w' := by
  obtain ⟨a, cap, rfl, hc⟩ := hv
  obtain ⟨a2, cap2, rfl, hc2⟩ := hu
  go_enter Tryz.func17, Tryz.ntmps17
  go_wp2
  go_loopw [5] (fun i wr => ∃ n : Nat, i = .int .i64 n ∧ n ≤ l.length ∧ Quiet w wr) (fun i _ => l.length - (intOf i).toNat)
  case atStart => exact ⟨0, rfl, Nat.zero_le _, Keeps.refl _ _⟩
  case round =>
    obtain ⟨n, rfl, hn, hq⟩ := hrel
    by_cases hlt : n < l.length
    · have hlt' : (n : Int) < (l.length : Int) := by omega
      rcases hc with h0 | ⟨g, o, rfl, hg, hcell⟩
      · rw [h0] at hlt; simp at hlt
      rcases hc2 with h0 | ⟨g2, o2, rfl, hg2, hcell2⟩
      · rw [h0] at hlt; simp at hlt
      obtain ⟨p, hp⟩ : ∃ p, l[n]? = some p := ⟨_, List.getElem?_eq_getElem hlt⟩
      obtain ⟨p1, p2⟩ := hcell n p hp
      obtain ⟨q1, q2⟩ := hcell2 n p hp
      rw [← hq.cell hg (by simp)] at p1 p2
      rw [← hq.cell hg2 (by simp)] at q1 q2
      clear hcell hcell2 hp
      go_wp2
      go_quiet (fail)
      go_wp2
      exact ⟨⟨n + 1, by go_num, by omega, Quiet.trans' hq (quiet_drewN _ nq)⟩, by simp [intOf]; omega⟩
    · have hge : ¬ (n : Int) < (l.length : Int) := by omega
      clear hc hc2
      go_wp2
      go_ret
      exact ⟨rfl, hq⟩

end Go.Proofs.YthfimgeopciiiaaGreat

/-
  The law's world: marks and their texts.
-/
namespace Go.Proofs.YthfimgeopciiiaaGreat
open Go.MapKept Go.ChangeMaps Go.Maps Go.RowKit Go.MuLone
set_option linter.unusedVariables false

def digitB (n : Nat) : ByteArray := ⟨#[UInt8.ofNat (48 + n % 10)]⟩

def textN : Nat → ByteArray → ByteArray
  | 0, s => s
  | n + 1, s => textN ((n + 1) / 10) (s ++ digitB (n + 1))
  termination_by n => n
  decreasing_by omega

def textB (m : Int) : ByteArray := textN (-m).toNat ⟨#[]⟩

set_option maxRecDepth 100000 in
set_option maxHeartbeats 1000000 in
theorem text_h (w : World) (m : Int) (hm : -1099511627776 ≤ m ∧ m ≤ 0) :
    Calls Tryz.prog 75 #[.int .i64 m] w fun e w' => e = .returned (.string (textB m)) ∧ Quiet w w' := by
  obtain ⟨N, hN⟩ : ∃ N : Nat, m = -(N : Int) := ⟨(-m).toNat, by omega⟩
  subst hN
  have hNl : N ≤ 1099511627776 := by omega
  have HT : Hid (textB (-(N : Int)) = textN N ⟨#[]⟩) := hidC' (by unfold textB; congr 1; omega)
  clear hm
  go_enter Tryz.func75, Tryz.ntmps75
  go_wp2
  go_loopw [3, 4] (fun sv nv wr => ∃ (n : Nat) (s : ByteArray), sv = .string s ∧ nv = .int .i64 n ∧ s.size + n ≤ N ∧ Quiet w wr ∧ Hid (textN N ⟨#[]⟩ = textN n s)) (fun _ nv _ => (intOf nv).toNat)
  case atStart => exact ⟨N, ⟨#[]⟩, rfl, by simp, by show 0 + N ≤ N; omega, Keeps.refl _ _, rfl⟩
  case round =>
    obtain ⟨n, s, rfl, rfl, hn, hq, HE⟩ := hrel
    by_cases h0 : 0 < n
    · have h0' : (0 : Int) < (n : Int) := by omega
      have hcv : (convert 210 9 (.slice (some ⟨wr.heap.size, 0, none⟩) 1 1)).run Tryz.prog (wr.alloc (.cells #[.int .u8 (48 + (n : Int) % 10)] 5)) = .ok (.string (digitB n)) (wr.alloc (.cells #[.int .u8 (48 + (n : Int) % 10)] 5)) := by
        refine run_convert_bytes_back (P := Tryz.prog) (wr.alloc (.cells #[.int .u8 (48 + (n : Int) % 10)] 5)) 210 9 5 ⟨wr.heap.size, 0, none⟩ 1 [UInt8.ofNat (48 + n % 10)] (by kernel_rfl) (by kernel_rfl) (by kernel_rfl) (fun j hj => ?_)
        have hj0 : j = 0 := by simp at hj; omega
        subst hj0
        rw [show (⟨wr.heap.size, 0, none⟩ : Addr).add 0 = ⟨wr.heap.size, 0, none⟩ by simp [Addr.add], cell_of_heap (heap_alloc_new _ _)]
        have e : (([UInt8.ofNat (48 + n % 10)] : List UInt8)[0].toNat : Int) = 48 + (n : Int) % 10 := by
          simp
          omega
        rw [e]
        rfl
      have HN : Hid (textN N ⟨#[]⟩ = textN (n / 10) (s ++ digitB n)) := hidC' (by
        rw [HE.out]
        obtain ⟨n', rfl⟩ : ∃ n', n = n' + 1 := ⟨n - 1, by omega⟩
        rw [textN])
      have hsz : (s ++ digitB n).size = s.size + 1 := by rw [ByteArray.size_append]; rfl
      have hd : (s ++ digitB n).size + n / 10 ≤ N := by rw [hsz]; omega
      have hdz : (digitB n).size = 1 := rfl
      clear HT HE
      go_wp2
      exact ⟨⟨n / 10, s ++ digitB n, rfl, by go_num, hd, Quiet.trans' hq (Keeps.alloc _ _), HN⟩, by simp [intOf]; omega⟩
    · have h0' : ¬ (0 : Int) < (n : Int) := by omega
      have HZ : Hid (textB (-(N : Int)) = s) := hidC' (by rw [HT.out, HE.out, show n = 0 by omega]; unfold textN; rfl)
      go_wp2
      go_ret
      exact ⟨by rw [HZ.out]; rfl, hq⟩

def markB : ByteArray := ⟨#[109, 97, 114, 107]⟩
def turnB : ByteArray := ⟨#[116, 117, 114, 110]⟩

/-- the law's world, and where its parts lie -/
structure MW where
  wb : Nat
  sv : Value
  pv : Value
  qv : Value
  cv : Value
  prs : List (Value × Nat × Int)
  mks : List Int
  chs : List (Value × Nat)
  last : Int

def MW.cells (M : MW) : Array Value := #[M.sv, M.pv, M.qv, .slice none 0 0, .slice none 0 0, .slice none 0 0, .slice none 0 0, M.cv, .slice none 0 0, .slice none 0 0, .int .i64 M.last]

/-- its own blocks, and those of the lists that it keeps -/
def MW.has (M : MW) (b : Nat) : Prop := b = M.wb ∨ M.pv.ownBlock = some b ∨ M.qv.ownBlock = some b ∨ M.cv.ownBlock = some b ∨ (∃ p ∈ M.prs, p.1.ownBlock = some b) ∨ ∃ c ∈ M.chs, c.1.ownBlock = some b

def KeptP (w : World) (p : Value × Nat × Int) : Prop := PrAt w p.1 (List.replicate p.2.1 (markB, textB p.2.2)) ∧ (p.1.ownBlock = none ∨ 0 < p.2.1 ∨ True)
def KeptC (w : World) (c : Value × Nat) : Prop := ChAt w c.1 (List.replicate c.2 (turnB, ⟨#[]⟩, true))

/-- in memory: 0 its own block, 1 pairs, 2 marks, 3 changes, 4 what is kept -/
structure WAt (w : World) (base : Nat) (tag : Nat → Nat) (M : MW) : Prop where
  own : w.heap[M.wb]? = some (.cells M.cells 96)
  hb : base ≤ M.wb
  pr : w.ownsRow base 34 1 M.pv M.prs.length (M.prs.map (·.1))
  mq : w.ownsRow base 3 1 M.qv M.mks.length (M.mks.map fun n => Value.int .i64 n)
  ch : w.ownsRow base 46 1 M.cv M.chs.length (M.chs.map (·.1))
  kp : ∀ p ∈ M.prs, PrAt w p.1 (List.replicate p.2.1 (markB, textB p.2.2)) ∧ (-1099511627776 ≤ p.2.2 ∧ p.2.2 ≤ 0) ∧ p.2.1 ≤ 1099511627776 ∧ ∀ b, p.1.ownBlock = some b → base ≤ b ∧ b < w.heap.size
  kc : ∀ c ∈ M.chs, ChAt w c.1 (List.replicate c.2 (turnB, ⟨#[]⟩, true)) ∧ c.2 ≤ 1099511627776 ∧ ∀ b, c.1.ownBlock = some b → base ≤ b ∧ b < w.heap.size
  gw : tag M.wb = 0
  gp : ∀ b, M.pv.ownBlock = some b → tag b = 1
  gq : ∀ b, M.qv.ownBlock = some b → tag b = 2
  gc : ∀ b, M.cv.ownBlock = some b → tag b = 3
  gk : ∀ p ∈ M.prs, ∀ b, p.1.ownBlock = some b → tag b = 4
  gl : ∀ c ∈ M.chs, ∀ b, c.1.ownBlock = some b → tag b = 4

theorem PrAt.frame {w w' : World} {v : Value} {l : List (ByteArray × ByteArray)} (h : PrAt w v l) (hb : ∀ b, v.ownBlock = some b → b < w.heap.size → w'.heap[b]? = w.heap[b]?) (hs : w.heap.size ≤ w'.heap.size) : PrAt w' v l := by
  obtain ⟨a, cap, e, hc⟩ := h
  refine ⟨a, cap, e, ?_⟩
  rcases hc with h0 | ⟨g, o, ea, hg, hcell⟩
  · exact .inl h0
  · refine .inr ⟨g, o, ea, Nat.lt_of_lt_of_le hg hs, fun i p hp => ?_⟩
    have hbl := hb g (by rw [e, ea]; rfl) hg
    have h1 := World.cell?_of_block (a := ⟨g, o + i * 2, none⟩) hbl
    have h2 := World.cell?_of_block (a := ⟨g, o + i * 2 + 1, none⟩) hbl
    exact ⟨h1.trans (hcell i p hp).1, h2.trans (hcell i p hp).2⟩

theorem ChAt.frame {w w' : World} {v : Value} {l : List Chg} (h : ChAt w v l) (hb : ∀ b, v.ownBlock = some b → b < w.heap.size → w'.heap[b]? = w.heap[b]?) (hs : w.heap.size ≤ w'.heap.size) : ChAt w' v l := by
  obtain ⟨⟨a, cap, e, hc⟩, hl⟩ := h
  refine ⟨⟨a, cap, e, ?_⟩, hl⟩
  rcases hc with h0 | ⟨g, o, ea, hg, hcell⟩
  · exact .inl h0
  · refine .inr ⟨g, o, ea, Nat.lt_of_lt_of_le hg hs, fun i p hp => ?_⟩
    have hbl := hb g (by rw [e, ea]; rfl) hg
    have h1 := World.cell?_of_block (a := ⟨g, o + i * 3, none⟩) hbl
    have h2 := World.cell?_of_block (a := ⟨g, o + i * 3 + 1, none⟩) hbl
    have h3 := World.cell?_of_block (a := ⟨g, o + i * 3 + 2, none⟩) hbl
    obtain ⟨c1, c2, c3⟩ := hcell i p hp
    exact ⟨h1.trans c1, h2.trans c2, h3.trans c3⟩

section
variable {w w' : World} {base : Nat} {tag : Nat → Nat} {M : MW}

theorem WAt.lt (h : WAt w base tag M) {b : Nat} (hb : M.has b) : base ≤ b ∧ b < w.heap.size := by
  rcases hb with rfl | hb | hb | hb | ⟨p, hp, hb⟩ | ⟨c, hc, hb⟩
  · exact ⟨h.hb, lt_of_heap h.own⟩
  · exact h.pr.lt b hb
  · exact h.mq.lt b hb
  · exact h.ch.lt b hb
  · exact (h.kp p hp).2.2.2 b hb
  · exact (h.kc c hc).2.2 b hb

theorem WAt.frame (h : WAt w base tag M) (hb : ∀ b, M.has b → w'.heap[b]? = w.heap[b]?) (hs : w.heap.size ≤ w'.heap.size) : WAt w' base tag M :=
  { h with
    own := (hb _ (.inl rfl)).trans h.own
    pr := ownsRow_of_block h.pr (fun b e => hb b (.inr (.inl e)))
    mq := ownsRow_of_block h.mq (fun b e => hb b (.inr (.inr (.inl e))))
    ch := ownsRow_of_block h.ch (fun b e => hb b (.inr (.inr (.inr (.inl e)))))
    kp := fun p hp => ⟨(h.kp p hp).1.frame (fun b e _ => hb b (.inr (.inr (.inr (.inr (.inl ⟨p, hp, e⟩)))))) hs, (h.kp p hp).2.1, (h.kp p hp).2.2.1, fun b e => ⟨((h.kp p hp).2.2.2 b e).1, Nat.lt_of_lt_of_le ((h.kp p hp).2.2.2 b e).2 hs⟩⟩
    kc := fun c hc => ⟨(h.kc c hc).1.frame (fun b e _ => hb b (.inr (.inr (.inr (.inr (.inr ⟨c, hc, e⟩)))))) hs, (h.kc c hc).2.1, fun b e => ⟨((h.kc c hc).2.2 b e).1, Nat.lt_of_lt_of_le ((h.kc c hc).2.2 b e).2 hs⟩⟩ }

theorem WAt.kept {S : Nat → Prop} (h : WAt w base tag M) (k : Keeps S w w') (hs : ∀ b, M.has b → ¬ S b) : WAt w' base tag M :=
  h.frame (fun b hb => k.block b (h.lt hb).2 (hs b hb)) k.size

theorem WAt.quiet (h : WAt w base tag M) (k : Quiet w w') : WAt w' base tag M := h.kept k (fun _ _ => id)

theorem WAt.retag {tag' : Nat → Nat} (h : WAt w base tag M) (ht : ∀ b, M.has b → tag' b = tag b) : WAt w base tag' M :=
  { h with
    gw := (ht _ (.inl rfl)).trans h.gw
    gp := fun b e => (ht b (.inr (.inl e))).trans (h.gp b e)
    gq := fun b e => (ht b (.inr (.inr (.inl e)))).trans (h.gq b e)
    gc := fun b e => (ht b (.inr (.inr (.inr (.inl e))))).trans (h.gc b e)
    gk := fun p hp b e => (ht b (.inr (.inr (.inr (.inr (.inl ⟨p, hp, e⟩)))))).trans (h.gk p hp b e)
    gl := fun c hc b e => (ht b (.inr (.inr (.inr (.inr (.inr ⟨c, hc, e⟩)))))).trans (h.gl c hc b e) }

theorem WAt.tagNew (h : WAt w base tag M) (k : Nat) : WAt w base (tagNew w.heap.size k tag) M := h.retag (fun b hb => tagNew_old (h.lt hb).2)

theorem WAt.frz (h : WAt w base tag M) (i : Nat) : w.frozen? ⟨M.wb, i, none⟩ = false := frozen_of_heap h.own

def WIn (w : World) (base : Nat) (M : MW) : Prop := ∃ tag, WAt w base tag M

theorem WIn.quiet (h : WIn w base M) (k : Quiet w w') : WIn w' base M := h.imp fun _ h => h.quiet k
theorem WIn.kept {S : Nat → Prop} (h : WIn w base M) (k : Keeps S w w') (hs : ∀ b, M.has b → ¬ S b) : WIn w' base M := h.imp fun _ h => h.kept k hs
theorem WIn.lt (h : WIn w base M) {b : Nat} (hb : M.has b) : base ≤ b ∧ b < w.heap.size := by obtain ⟨_, h⟩ := h; exact h.lt hb

/-- what the law's world has turned -/
structure WTurn (w w' : World) (M M' : MW) : Prop where
  keeps : Keeps M.has w w'
  fresh : ∀ b, M'.has b → M.has b ∨ w.heap.size ≤ b
  wb : M'.wb = M.wb
  sv : M'.sv = M.sv

end

set_option maxRecDepth 100000 in
set_option maxHeartbeats 1000000 in
theorem lmark_h {w : World} {base : Nat} {M : MW} (H : WIn w base M) (hl : -1099511627776 ≤ M.last ∧ M.last ≤ 0) :
    Calls Tryz.prog 184 #[.pointer (some ⟨M.wb, 0, none⟩)] w fun e w' => e = .returned (.int .i64 (M.last - 1)) ∧ WIn w' base { M with last := M.last - 1 } ∧ WTurn w w' M { M with last := M.last - 1 } := by
  obtain ⟨tag, H⟩ := H
  have c10 : w.cell? ⟨M.wb, 10, none⟩ = some (.int .i64 M.last) := by rw [cell_of_heap H.own]; rfl
  have f10 := H.frz 10
  have ob : ∀ b, tag b ≠ 0 → (w.setCell ⟨M.wb, 10, none⟩ (.int .i64 (M.last - 1))).heap[b]? = w.heap[b]? := fun b hb => heap_setCell_other _ _ _ (fun e => by rw [e] at hb; exact hb H.gw)
  have HW : Hid (WIn (w.setCell ⟨M.wb, 10, none⟩ (.int .i64 (M.last - 1))) base { M with last := M.last - 1 } ∧ WTurn w (w.setCell ⟨M.wb, 10, none⟩ (.int .i64 (M.last - 1))) M { M with last := M.last - 1 }) := by
    have k : Keeps M.has w (w.setCell ⟨M.wb, 10, none⟩ (.int .i64 (M.last - 1))) := Keeps.setCell _ _ _ (.inl rfl)
    refine ⟨⟨tag, { H with own := (heap_setCell_same H.own).trans rfl, pr := ?_, mq := ?_, ch := ?_, kp := fun p hp => ⟨(H.kp p hp).1.frame (fun b e _ => ob b (by rw [H.gk p hp b e]; omega)) k.size, (H.kp p hp).2.1, (H.kp p hp).2.2.1, fun b e => ⟨((H.kp p hp).2.2.2 b e).1, Nat.lt_of_lt_of_le ((H.kp p hp).2.2.2 b e).2 k.size⟩⟩, kc := fun c hc => ⟨(H.kc c hc).1.frame (fun b e _ => ob b (by rw [H.gl c hc b e]; omega)) k.size, (H.kc c hc).2.1, fun b e => ⟨((H.kc c hc).2.2 b e).1, Nat.lt_of_lt_of_le ((H.kc c hc).2.2 b e).2 k.size⟩⟩ }⟩, k, fun b hb => .inl hb, rfl, rfl⟩
    · exact ownsRow_of_block H.pr (fun b e => ob b (by rw [H.gp b e]; omega))
    · exact ownsRow_of_block H.mq (fun b e => ob b (by rw [H.gq b e]; omega))
    · exact ownsRow_of_block H.ch (fun b e => ob b (by rw [H.gc b e]; omega))
  clear H ob
  go_enter Tryz.func184, Tryz.ntmps184
  go_wp2
  go_ret
  exact ⟨rfl, HW.out⟩

end Go.Proofs.YthfimgeopciiiaaGreat

/-
  The law's world: what was kept is looked at.
-/
namespace Go.Proofs.YthfimgeopciiiaaGreat
open Go.MapKept Go.ChangeMaps Go.Maps Go.RowKit Go.MuLone
set_option linter.unusedVariables false

theorem row1_at {w : World} {base : Nat} {e : TypeId} {v : Value} {n : Nat} {xs : List Value} (h : w.ownsRow base e 1 v n xs) : ∃ a cap, v = .slice a n cap ∧ (n = 0 ∨ ∃ g, a = some ⟨g, 0, none⟩ ∧ v.ownBlock = some g ∧ base ≤ g ∧ g < w.heap.size ∧ (∀ i, w.frozen? ⟨g, i, none⟩ = false) ∧ ∀ (i : Nat) (x : Value), xs[i]? = some x → w.cell? ⟨g, i, none⟩ = some x) := by
  rcases h.2 with ⟨e, h0⟩ | ⟨g, cap, cur, e, hb, hg, h1, h2, h3, h4⟩
  · exact ⟨none, 0, by rw [e, h0], .inl h0⟩
  · refine ⟨_, cap, e, .inr ⟨g, rfl, by rw [e]; rfl, hb, lt_of_heap hg, fun i => frozen_of_heap hg, fun i x hx => ?_⟩⟩
    have hi : i < xs.length := (List.getElem?_eq_some_iff.1 hx).1
    have hl := h.1
    rw [← h4, List.getElem?_take, if_pos (by omega)] at hx
    rw [cell_of_heap hg]
    simpa using hx

/-- the world's own cells -/
structure WView (w : World) (M : MW) (pa : Option Addr) (pc : Nat) (qa : Option Addr) (qc : Nat) (ca : Option Addr) (cc : Nat) : Prop where
  hw : M.wb < w.heap.size
  c1 : w.cell? ⟨M.wb, 1, none⟩ = some (.slice pa M.prs.length pc)
  c2 : w.cell? ⟨M.wb, 2, none⟩ = some (.slice qa M.mks.length qc)
  c3 : w.cell? ⟨M.wb, 3, none⟩ = some (.slice none 0 0)
  c5 : w.cell? ⟨M.wb, 5, none⟩ = some (.slice none 0 0)
  c7 : w.cell? ⟨M.wb, 7, none⟩ = some (.slice ca M.chs.length cc)
  c8 : w.cell? ⟨M.wb, 8, none⟩ = some (.slice none 0 0)
  c9 : w.cell? ⟨M.wb, 9, none⟩ = some (.slice none 0 0)
  pr : ∀ (i : Nat) (p : Value × Nat × Int), M.prs[i]? = some p → ∃ g, pa = some ⟨g, 0, none⟩ ∧ g < w.heap.size ∧ w.cell? ⟨g, i, none⟩ = some p.1
  mq : ∀ (i : Nat) (n : Int), M.mks[i]? = some n → ∃ g, qa = some ⟨g, 0, none⟩ ∧ g < w.heap.size ∧ w.cell? ⟨g, i, none⟩ = some (.int .i64 n)
  ch : ∀ (i : Nat) (c : Value × Nat), M.chs[i]? = some c → ∃ g, ca = some ⟨g, 0, none⟩ ∧ g < w.heap.size ∧ w.cell? ⟨g, i, none⟩ = some c.1
  pv : M.pv = .slice pa M.prs.length pc
  qv : M.qv = .slice qa M.mks.length qc
  cv : M.cv = .slice ca M.chs.length cc

theorem WIn.view {w : World} {base : Nat} {M : MW} (H : WIn w base M) : ∃ pa pc qa qc ca cc, WView w M pa pc qa qc ca cc := by
  obtain ⟨tag, H⟩ := H
  obtain ⟨pa, pc, ep, hp⟩ := row1_at H.pr
  obtain ⟨qa, qc, eq, hq⟩ := row1_at H.mq
  obtain ⟨ca, cc, ec, hc⟩ := row1_at H.ch
  refine ⟨pa, pc, qa, qc, ca, cc, ⟨lt_of_heap H.own, ?_, ?_, ?_, ?_, ?_, ?_, ?_, fun i p hi => ?_, fun i p hi => ?_, fun i c hi => ?_, ep, eq, ec⟩⟩
  · rw [cell_of_heap H.own, ← ep]; rfl
  · rw [cell_of_heap H.own, ← eq]; rfl
  · rw [cell_of_heap H.own]; rfl
  · rw [cell_of_heap H.own]; rfl
  · rw [cell_of_heap H.own, ← ec]; rfl
  · rw [cell_of_heap H.own]; rfl
  · rw [cell_of_heap H.own]; rfl
  · rcases hp with h0 | ⟨g, rfl, -, -, hg, -, hcell⟩
    · have := (List.getElem?_eq_some_iff.1 hi).1; omega
    · exact ⟨g, rfl, hg, hcell i p.1 (by rw [List.getElem?_map, hi]; rfl)⟩
  · rcases hq with h0 | ⟨g, rfl, -, -, hg, -, hcell⟩
    · have := (List.getElem?_eq_some_iff.1 hi).1; omega
    · exact ⟨g, rfl, hg, hcell i _ (by rw [List.getElem?_map, hi]; rfl)⟩
  · rcases hc with h0 | ⟨g, rfl, -, -, hg, -, hcell⟩
    · have := (List.getElem?_eq_some_iff.1 hi).1; omega
    · exact ⟨g, rfl, hg, hcell i c.1 (by rw [List.getElem?_map, hi]; rfl)⟩

set_option maxRecDepth 100000 in
set_option maxHeartbeats 4000000 in
theorem handed_h {w : World} {base : Nat} {M : MW} (H : WIn w base M) (hcl : M.chs.length ≤ 1099511627776) :
    Calls Tryz.prog 76 #[.pointer (some ⟨M.wb, 0, none⟩)] w fun e w' => e = .returned (.bool true) ∧ Quiet w w' := by
  obtain ⟨pa, pc, qa, qc, ca, cc, V⟩ := H.view
  have HV : Hid (∀ wr, Quiet w wr → wr.cell? ⟨M.wb, 7, none⟩ = some (.slice ca M.chs.length cc) ∧ wr.cell? ⟨M.wb, 8, none⟩ = some (.slice none 0 0) ∧ wr.cell? ⟨M.wb, 9, none⟩ = some (.slice none 0 0) ∧ ∀ (i : Nat) (c : Value × Nat), M.chs[i]? = some c → ∃ g a cap, ca = some ⟨g, 0, none⟩ ∧ g < wr.heap.size ∧ wr.cell? ⟨g, i, none⟩ = some (.slice a c.2 cap) ∧ c.2 ≤ 1099511627776 ∧ ∀ k : Nat, k < c.2 → ∃ gc o, a = some ⟨gc, o, none⟩ ∧ gc < wr.heap.size ∧ wr.cell? ⟨gc, o + k * 3, none⟩ = some (.string ⟨#[116, 117, 114, 110]⟩) ∧ wr.cell? ⟨gc, o + k * 3 + 1, none⟩ = some (.string ⟨#[]⟩) ∧ wr.cell? ⟨gc, o + k * 3 + 2, none⟩ = some (.bool true)) := fun wr q => by
    refine ⟨(q.cell V.hw (by simp)).trans V.c7, (q.cell V.hw (by simp)).trans V.c8, (q.cell V.hw (by simp)).trans V.c9, fun i c hc => ?_⟩
    obtain ⟨g, e1, hg, e2⟩ := V.ch i c hc
    obtain ⟨tag, H1⟩ := H.quiet q
    obtain ⟨⟨⟨a, cap, e3, hcell⟩, -⟩, hl, -⟩ := H1.kc c (List.mem_of_getElem? hc)
    rw [List.length_replicate] at e3
    refine ⟨g, a, cap, e1, Nat.lt_of_lt_of_le hg q.size, by rw [← e3]; exact (q.cell hg (by simp)).trans e2, hl, fun k hk => ?_⟩
    rcases hcell with h0 | ⟨gc, o, e4, hgc, hcell⟩
    · have := congrArg List.length h0; simp at this; omega
    · obtain ⟨x1, x2, x3⟩ := hcell k (turnB, ⟨#[]⟩, true) (by rw [List.getElem?_replicate, if_pos hk])
      exact ⟨gc, o, e4, hgc, x1, x2, x3⟩
  have hwb := V.hw
  clear H V
  go_enter Tryz.func76, Tryz.ntmps76
  go_wp2
  go_loopw [3] (fun i wr => ∃ n : Nat, i = .int .i64 n ∧ n ≤ M.chs.length ∧ Quiet w wr) (fun i _ => M.chs.length - (intOf i).toNat)
  case atStart => exact ⟨0, rfl, Nat.zero_le _, Keeps.refl _ _⟩
  case round =>
    obtain ⟨n, rfl, hn, hq⟩ := hrel
    obtain ⟨c7, c8, c9, hch⟩ := HV.out wr hq
    by_cases hlt : n < M.chs.length
    · have hlt' : (n : Int) < (M.chs.length : Int) := by omega
      obtain ⟨c, hc⟩ : ∃ c, M.chs[n]? = some c := ⟨_, List.getElem?_eq_getElem hlt⟩
      obtain ⟨W1, hW1⟩ : ∃ W1, W1 = wr := ⟨wr, rfl⟩
      subst hW1
      clear hch
      go_wp2
      go_loopw [4] (fun kk wr' => ∃ k : Nat, kk = .int .i64 k ∧ k ≤ c.2 ∧ Quiet W1 wr') (fun kk _ => c.2 - (intOf kk).toNat)
      case atStart => exact ⟨0, rfl, Nat.zero_le _, Keeps.refl _ _⟩
      case round =>
        obtain ⟨k, rfl, hk, hq2⟩ := hrel
        have hqw := Quiet.trans' hq hq2
        obtain ⟨d7, -, -, hch⟩ := HV.out _ hqw
        obtain ⟨g, a, cap, rfl, hg, e2, hl, hcell⟩ := hch n c hc
        have hwb' := Nat.ne_of_lt (Nat.lt_of_lt_of_le hwb hqw.size)
        by_cases hkl : k < c.2
        · have hkl' : (k : Int) < (c.2 : Int) := by omega
          obtain ⟨gc, o, rfl, hgc, x1, x2, x3⟩ := hcell k hkl
          have hqa : Hid (∀ ob, Quiet W1 (wr.alloc ob)) := fun ob => Quiet.trans' hq2 (Keeps.alloc _ _)
          clear hcell hch HV
          go_wp2
          exact ⟨⟨k + 1, by go_num, by omega, hqa.out _⟩, by simp [intOf]; omega⟩
        · have hkge : ¬ (k : Int) < (c.2 : Int) := by omega
          clear hcell hch HV
          go_wp2
          exact ⟨⟨n + 1, by go_num, by omega, hqw⟩, by simp [intOf]; omega⟩
    · have hge : ¬ (n : Int) < (M.chs.length : Int) := by omega
      clear hch HV
      go_wp2
      obtain ⟨W2, hW2⟩ : ∃ W2, W2 = wr := ⟨wr, rfl⟩
      subst hW2
      go_loopw [6] (fun i wr' => i = .int .i64 0 ∧ wr' = W2) (fun _ _ => 0)
      case atStart => exact ⟨rfl, rfl⟩
      case round =>
        obtain ⟨rfl, hw⟩ := hrel
        have hw := hw.symm
        subst hw
        go_wp2
        go_loopw [9] (fun i wr' => i = .int .i64 0 ∧ wr' = W2) (fun _ _ => 0)
        case atStart => exact ⟨rfl, rfl⟩
        case round =>
          obtain ⟨rfl, hw⟩ := hrel
          have hw := hw.symm
          subst hw
          go_wp2
          go_ret
          exact ⟨rfl, hq⟩

set_option maxRecDepth 100000 in
set_option maxHeartbeats 4000000 in
theorem kept_h {w : World} {base : Nat} {M : MW} (H : WIn w base M) (hcl : M.chs.length ≤ 1099511627776) (hpl : M.prs.length ≤ 1099511627776) (hmk : M.mks = M.prs.map (·.2.2)) :
    Calls Tryz.prog 38 #[.pointer (some ⟨M.wb, 0, none⟩)] w fun e w' => e = .returned (.bool true) ∧ Quiet w w' := by
  obtain ⟨pa, pc, qa, qc, ca, cc, V⟩ := H.view
  have hml : M.mks.length = M.prs.length := by rw [hmk, List.length_map]
  have HV : Hid (∀ wr, Quiet w wr → wr.cell? ⟨M.wb, 1, none⟩ = some (.slice pa M.prs.length pc) ∧ wr.cell? ⟨M.wb, 2, none⟩ = some (.slice qa M.prs.length qc) ∧ wr.cell? ⟨M.wb, 3, none⟩ = some (.slice none 0 0) ∧ wr.cell? ⟨M.wb, 5, none⟩ = some (.slice none 0 0) ∧ ∀ (i : Nat) (c : Value × Nat × Int), M.prs[i]? = some c → ∃ g gq a cap, pa = some ⟨g, 0, none⟩ ∧ qa = some ⟨gq, 0, none⟩ ∧ wr.cell? ⟨g, i, none⟩ = some (.slice a c.2.1 cap) ∧ wr.cell? ⟨gq, i, none⟩ = some (.int .i64 c.2.2) ∧ c.2.1 ≤ 1099511627776 ∧ (-1099511627776 ≤ c.2.2 ∧ c.2.2 ≤ 0) ∧ ∀ k : Nat, k < c.2.1 → ∃ gc o, a = some ⟨gc, o, none⟩ ∧ wr.cell? ⟨gc, o + k * 2, none⟩ = some (.string ⟨#[109, 97, 114, 107]⟩) ∧ wr.cell? ⟨gc, o + k * 2 + 1, none⟩ = some (.string (textB c.2.2))) := fun wr q => by
    refine ⟨(q.cell V.hw (by simp)).trans V.c1, by rw [← hml]; exact (q.cell V.hw (by simp)).trans V.c2, (q.cell V.hw (by simp)).trans V.c3, (q.cell V.hw (by simp)).trans V.c5, fun i c hc => ?_⟩
    obtain ⟨g, e1, hg, e2⟩ := V.pr i c hc
    obtain ⟨gq, f1, hgq, f2⟩ := V.mq i c.2.2 (by rw [hmk, List.getElem?_map, hc]; rfl)
    obtain ⟨tag, H1⟩ := H.quiet q
    obtain ⟨⟨a, cap, e3, hcell⟩, hb, hl, -⟩ := H1.kp c (List.mem_of_getElem? hc)
    rw [List.length_replicate] at e3
    refine ⟨g, gq, a, cap, e1, f1, by rw [← e3]; exact (q.cell hg (by simp)).trans e2, (q.cell hgq (by simp)).trans f2, hl, hb, fun k hk => ?_⟩
    rcases hcell with h0 | ⟨gc, o, e4, hgc, hcell⟩
    · have := congrArg List.length h0; simp at this; omega
    · obtain ⟨x1, x2⟩ := hcell k (markB, textB c.2.2) (by rw [List.getElem?_replicate, if_pos hk])
      exact ⟨gc, o, e4, x1, x2⟩
  have HHa : Hid (∀ wr, Quiet w wr → Calls Tryz.prog 76 #[.pointer (some ⟨M.wb, 0, none⟩)] wr fun e w' => e = .returned (.bool true) ∧ Quiet wr w') := fun wr q => handed_h (H.quiet q) hcl
  clear H V
  go_enter Tryz.func38, Tryz.ntmps38
  go_wp2
  go_loopw [3] (fun i wr => ∃ n : Nat, i = .int .i64 n ∧ n ≤ M.prs.length ∧ Quiet w wr) (fun i _ => M.prs.length - (intOf i).toNat)
  case atStart => exact ⟨0, rfl, Nat.zero_le _, Keeps.refl _ _⟩
  case round =>
    obtain ⟨n, rfl, hn, hq⟩ := hrel
    obtain ⟨c1, c2, c3, c5, hpr⟩ := HV.out wr hq
    by_cases hlt : n < M.prs.length
    · have hlt' : (n : Int) < (M.prs.length : Int) := by omega
      obtain ⟨c, hc⟩ : ∃ c, M.prs[n]? = some c := ⟨_, List.getElem?_eq_getElem hlt⟩
      obtain ⟨g, gq, a, cap, rfl, rfl, e2, f2, hl, hb, -⟩ := hpr n c hc
      have HTx := hidC (text_h wr c.2.2 hb)
      clear hpr hb
      go_wp2_with (go_at_call 75; refine HTx.out.mono ?_; rintro e w1 ⟨rfl, hq1⟩)
      go_loopw [5] (fun kk wr' => ∃ k : Nat, kk = .int .i64 k ∧ k ≤ c.2.1 ∧ Quiet w1 wr') (fun kk _ => c.2.1 - (intOf kk).toNat)
      case atStart => exact ⟨0, rfl, Nat.zero_le _, Keeps.refl _ _⟩
      case round =>
        obtain ⟨k, rfl, hk, hq2⟩ := hrel
        have hqw := Quiet.trans' (Quiet.trans' hq hq1) hq2
        obtain ⟨d1, -, -, -, hpr⟩ := HV.out _ hqw
        obtain ⟨g', gq', a', cap', eg, -, x2, -, -, -, hcell⟩ := hpr n c hc
        obtain rfl : g = g' := by simpa using eg
        by_cases hkl : k < c.2.1
        · have hkl' : (k : Int) < (c.2.1 : Int) := by omega
          obtain ⟨gc, o, rfl, y1, y2⟩ := hcell k hkl
          clear hcell hpr HV HHa HTx c1 c2 c3 c5 e2 f2
          generalize textB c.2.2 = TX at *
          go_wp2
          exact ⟨⟨k + 1, by go_num, by omega, hq2⟩, by simp [intOf]; omega⟩
        · have hkge : ¬ (k : Int) < (c.2.1 : Int) := by omega
          clear hcell hpr HV HHa HTx c1 c2 c3 c5 e2 f2
          go_wp2
          exact ⟨⟨n + 1, by go_num, by omega, hqw⟩, by simp [intOf]; omega⟩
    · have hge : ¬ (n : Int) < (M.prs.length : Int) := by omega
      have HHb := hidC (HHa.out _ hq)
      clear hpr HV HHa
      go_wp2
      obtain ⟨W2, hW2⟩ : ∃ W2, W2 = wr := ⟨wr, rfl⟩
      subst hW2
      go_loopw [6] (fun i wr' => i = .int .i64 0 ∧ wr' = W2) (fun _ _ => 0)
      case atStart => exact ⟨rfl, rfl⟩
      case round =>
        obtain ⟨rfl, hw⟩ := hrel
        have hw := hw.symm
        subst hw
        go_wp2
        go_loopw [9] (fun i wr' => i = .int .i64 0 ∧ wr' = W2) (fun _ _ => 0)
        case atStart => exact ⟨rfl, rfl⟩
        case round =>
          obtain ⟨rfl, hw⟩ := hrel
          have hw := hw.symm
          subst hw
          go_wp2_with (go_at_call 76; refine HHb.out.mono ?_; rintro e w5 ⟨rfl, hq5⟩)
          go_ret
          exact ⟨rfl, Quiet.trans' hq hq5⟩

set_option maxRecDepth 100000 in
set_option maxHeartbeats 4000000 in
/-- a list of pairs is the same as itself -/
theorem samePairs_h (w : World) (v u : Value) (l : List (ByteArray × ByteArray)) (hv : PrAt w v l) (hu : PrAt w u l) (hl : l.length ≤ 1099511627776) :
    Calls Tryz.prog 119 #[v, u] w fun e w' => e = .returned (.bool true) ∧ Quiet w w' := by
  obtain ⟨a, cap, rfl, hc⟩ := hv
  obtain ⟨a2, cap2, rfl, hc2⟩ := hu
  go_enter Tryz.func119, Tryz.ntmps119
  go_wp2
  go_loopw [5] (fun i wr => ∃ n : Nat, i = .int .i64 n ∧ n ≤ l.length ∧ Quiet w wr) (fun i _ => l.length - (intOf i).toNat)
  case atStart => exact ⟨0, rfl, Nat.zero_le _, Keeps.refl _ _⟩
  case round =>
    obtain ⟨n, rfl, hn, hq⟩ := hrel
    by_cases hlt : n < l.length
    · have hlt' : (n : Int) < (l.length : Int) := by omega
      rcases hc with h0 | ⟨g, o, rfl, hg, hcell⟩
      · rw [h0] at hlt; simp at hlt
      rcases hc2 with h0 | ⟨g2, o2, rfl, hg2, hcell2⟩
      · rw [h0] at hlt; simp at hlt
      obtain ⟨p, hp⟩ : ∃ p, l[n]? = some p := ⟨_, List.getElem?_eq_getElem hlt⟩
      obtain ⟨p1, p2⟩ := hcell n p hp
      obtain ⟨q1, q2⟩ := hcell2 n p hp
      rw [← hq.cell hg (by simp)] at p1 p2
      rw [← hq.cell hg2 (by simp)] at q1 q2
      clear hcell hcell2 hp
      go_wp2
      go_quiet (fail)
      go_wp2
      exact ⟨⟨n + 1, by go_num, by omega, Quiet.trans' hq (quiet_drewN _ nq)⟩, by simp [intOf]; omega⟩
    · have hge : ¬ (n : Int) < (l.length : Int) := by omega
      clear hc hc2
      go_wp2
      go_ret
      exact ⟨rfl, hq⟩

end Go.Proofs.YthfimgeopciiiaaGreat

/-
  The law's world: a list is kept.
-/
namespace Go.Proofs.YthfimgeopciiiaaGreat
open Go.MapKept Go.ChangeMaps Go.Maps Go.RowKit Go.MuLone
set_option linter.unusedVariables false

/-- a row grows by one, with no draw ahead; its block, or another: then none of the old has turned -/
structure GrowQ {α : Type} (c : α → List Value) (e t : TypeId) (k base : Nat) (w : World) (v : Value) (l : List α) (x : α) (a5 : Option Addr) (c5 : Nat) (W5 : World) : Prop where
  app : (Builtin.append_ #[t, t] t #[v, .slice (some ⟨w.heap.size, 0, none⟩) 1 1]).run Tryz.prog (w.alloc (.cells (c x).toArray e)) = .ok (.slice a5 (l.length + 1) c5) W5
  row : W5.ownsRow base e k (.slice a5 (l.length + 1) c5) (l ++ [x]).length ((l ++ [x]).flatMap c)
  gr : Keeps (fun b => v.ownBlock = some b) w W5
  loc : ∀ b, (Value.slice a5 (l.length + 1) c5).ownBlock = some b → v.ownBlock = some b ∨ w.heap.size < b
  two : (Value.slice a5 (l.length + 1) c5).ownBlock = v.ownBlock ∨ ∀ b, b < w.heap.size → W5.heap[b]? = w.heap[b]?

theorem grow_rowQ {α : Type} (c : α → List Value) {e t : TypeId} {k bytes base : Nat} (hc : ∀ x, (c x).length = k) (hk : 0 < k) {i0 : TypeInfo} {z : Value} (hu : Tryz.prog.underlying t = some (.slice e)) (hi0 : Tryz.prog.info? e = some i0) (hz0 : i0.zero = some z) (hz1 : i0.size = k) (hz2 : i0.bytes = bytes) (hzs : z.cells.size = k)
    {w : World} {v : Value} {l : List α} (h : w.ownsRow base e k v l.length (l.flatMap c)) (x : α) (hone : ∀ u ∈ c x, u.oneCell' = true) (hb : base ≤ w.heap.size) (hl : l.length ≤ 1099511627776) (hby : bytes ≤ 100) : ∃ a5 c5 W5, GrowQ c e t k base w v l x a5 c5 W5 := by
  have hq2 : Quiet w (w.alloc (.cells (c x).toArray e)) := Keeps.alloc _ _
  have hnew : (w.alloc (.cells (c x).toArray e)).heap[w.heap.size]? = some (.cells (c x).toArray e) := heap_alloc_new w _
  have hsz : (w.alloc (.cells (c x).toArray e)).heap.size = w.heap.size + 1 := by simp
  generalize hw2 : w.alloc (.cells (c x).toArray e) = w2 at *
  have hown : w2.ownsRow base e k v l.length (l.flatMap c) := ownsRow_of_block h (fun b hb' => hq2.block b (h.lt b hb').2 (fun e => e.elim))
  have hnews : ∀ j u, (c x)[j]? = some u → w2.cell? ((⟨w.heap.size, 0, none⟩ : Addr).add j) = some u := fun j u hj => by
    rw [show (⟨w.heap.size, 0, none⟩ : Addr).add j = ⟨w.heap.size, j, none⟩ by cases j <;> simp [Addr.add], cell_of_heap hnew]
    simpa using hj
  have hbytes : (l.length + 1) * bytes ≤ 140737488355328 := Nat.le_trans (Nat.mul_le_mul (show l.length + 1 ≤ 1099511627777 by omega) hby) (by omega)
  obtain ⟨v', w5, happ, hown', hgrow, hnil, hat⟩ := run_append_own_at (P := Tryz.prog) w2 base t t e i0 z k bytes hu hi0 hz0 hz1 hz2 hzs hk v _ _ hown
    ⟨w.heap.size, 0, none⟩ 1 1 (c x) (by rw [hc]; omega) hnews hone (by unfold maxLen; omega) hbytes (by omega)
  have htwo : v'.ownBlock = v.ownBlock ∨ ∀ b, b < w2.heap.size → w5.heap[b]? = w2.heap[b]? := by
    rcases hown.2 with ⟨rfl, _⟩ | ⟨g, cap, cur, rfl, hb', hg, h1, h2, h3, h4⟩
    · exact .inr (fun b hb => hgrow.block b hb (by simp [Value.ownBlock]))
    · by_cases hroom : l.length + 1 ≤ cap
      · obtain ⟨w6, hr, -, -⟩ := run_append_fits (P := Tryz.prog) w2 base t t e i0 k hu hi0 hz1 g l.length cap _ hown ⟨w.heap.size, 0, none⟩ 1 1 (c x) (by rw [hc]; omega) hnews hone hroom
        rw [happ] at hr
        have e1 : v' = .slice (some ⟨g, 0, none⟩) (l.length + 1) cap := (Result.ok.inj hr).1
        exact .inl (by rw [e1]; rfl)
      · have holds : ∀ j u, (l.flatMap c)[j]? = some u → w2.cell? ((⟨g, 0, none⟩ : Addr).add j) = some u := hown.cells (g := g) rfl
        have hr := run_append_grow (P := Tryz.prog) w2 t t e i0 z hu hi0 hz0 ⟨g, 0, none⟩ l.length cap (l.flatMap c) (by rw [hz1]; exact hown.1) holds ⟨w.heap.size, 0, none⟩ 1 1 (c x) (by rw [hc, hz1]; omega) hnews (by omega) (by omega) (growslice_fits (by omega) (by rw [hz2]; exact hbytes))
        rw [happ] at hr
        refine .inr (fun b hb => ?_)
        have e2 := (Result.ok.inj hr).2
        rw [e2]
        exact heap_alloc_old _ _ hb
  obtain ⟨a5, c5, hv5⟩ : ∃ a5 c5, v' = .slice a5 (l.length + 1) c5 := by
    rcases hown'.2 with ⟨_, h0⟩ | ⟨g, cap, cur, e, _⟩
    · omega
    · exact ⟨_, cap, e⟩
  subst hv5
  refine ⟨a5, c5, w5, ⟨by rw [hw2]; exact happ, ?_, ?_, fun b hb' => ?_, ?_⟩⟩
  · rw [List.length_append, List.flatMap_append, List.flatMap_cons, List.flatMap_nil, List.append_nil]
    exact hown'
  · exact (hq2.mono (S' := fun b => v.ownBlock = some b) (fun _ h => h.elim)).trans (keeps_of_grown hgrow) (fun b hb => .inl hb)
  · rcases hat with h' | h'
    · exact .inl (by rw [← h']; exact hb')
    · rw [h'] at hb'; exact .inr (by have := Option.some.inj hb'; omega)
  · rcases htwo with h' | h'
    · exact .inl h'
    · exact .inr (fun b hb => (h' b (by omega)).trans (hq2.block b hb id))

section
variable {w w' w5 : World} {base : Nat} {tag : Nat → Nat} {M : MW}

/-- kept things stand where their blocks stand -/
theorem WAt.kp_frame (h : WAt w base tag M) (hb : ∀ b, tag b = 4 → b < w.heap.size → w'.heap[b]? = w.heap[b]?) (hs : w.heap.size ≤ w'.heap.size) :
    (∀ p ∈ M.prs, PrAt w' p.1 (List.replicate p.2.1 (markB, textB p.2.2)) ∧ (-1099511627776 ≤ p.2.2 ∧ p.2.2 ≤ 0) ∧ p.2.1 ≤ 1099511627776 ∧ ∀ b, p.1.ownBlock = some b → base ≤ b ∧ b < w'.heap.size) ∧
    (∀ c ∈ M.chs, ChAt w' c.1 (List.replicate c.2 (turnB, ⟨#[]⟩, true)) ∧ c.2 ≤ 1099511627776 ∧ ∀ b, c.1.ownBlock = some b → base ≤ b ∧ b < w'.heap.size) :=
  ⟨fun p hp => ⟨(h.kp p hp).1.frame (fun b e hb' => hb b (h.gk p hp b e) hb') hs, (h.kp p hp).2.1, (h.kp p hp).2.2.1, fun b e => ⟨((h.kp p hp).2.2.2 b e).1, Nat.lt_of_lt_of_le ((h.kp p hp).2.2.2 b e).2 hs⟩⟩,
   fun c hc => ⟨(h.kc c hc).1.frame (fun b e hb' => hb b (h.gl c hc b e) hb') hs, (h.kc c hc).2.1, fun b e => ⟨((h.kc c hc).2.2 b e).1, Nat.lt_of_lt_of_le ((h.kc c hc).2.2 b e).2 hs⟩⟩⟩

/-- a list joins those kept -/
theorem WAt.pushP (h : WAt w base tag M) {v : Value} {x : Value × Nat × Int} (hgr : Keeps (fun b => M.pv.ownBlock = some b) w w5)
    (hv : w5.ownsRow base 34 1 v (M.prs ++ [x]).length ((M.prs ++ [x]).map (·.1))) (hloc : ∀ b, v.ownBlock = some b → M.pv.ownBlock = some b ∨ w.heap.size ≤ b)
    (hx : PrAt w x.1 (List.replicate x.2.1 (markB, textB x.2.2)) ∧ (-1099511627776 ≤ x.2.2 ∧ x.2.2 ≤ 0) ∧ x.2.1 ≤ 1099511627776 ∧ ∀ b, x.1.ownBlock = some b → base ≤ b ∧ b < w.heap.size) (hxt : ∀ b, x.1.ownBlock = some b → tag b = 4) :
    WAt (w5.setCell ⟨M.wb, 1, none⟩ v) base (_root_.Go.Proofs.YthfimgeopciiiaaGreat.tagNew w.heap.size 1 tag) { M with pv := v, prs := M.prs ++ [x] } ∧ Keeps M.has w (w5.setCell ⟨M.wb, 1, none⟩ v) ∧ ∀ b, ({ M with pv := v, prs := M.prs ++ [x] } : MW).has b → M.has b ∨ x.1.ownBlock = some b ∨ w.heap.size ≤ b := by
  have h1 := h.tagNew 1
  have hxt1 : ∀ b, x.1.ownBlock = some b → _root_.Go.Proofs.YthfimgeopciiiaaGreat.tagNew w.heap.size 1 tag b = 4 := fun b e => by rw [tagNew_old (hx.2.2.2 b e).2]; exact hxt b e
  generalize ht : _root_.Go.Proofs.YthfimgeopciiiaaGreat.tagNew w.heap.size 1 tag = tag1 at *
  have vb : ∀ b, v.ownBlock = some b → tag1 b = 1 := fun b e => by
    rcases hloc b e with h2 | h2
    · exact h1.gp b h2
    · rw [← ht]; exact tagNew_new h2
  have same : ∀ b, b < w.heap.size → tag1 b ≠ 1 → w5.heap[b]? = w.heap[b]? := fun b hb hn => hgr.block b hb (fun e => hn (h1.gp b e))
  have ob : ∀ b, tag1 b ≠ 0 → (w5.setCell ⟨M.wb, 1, none⟩ v).heap[b]? = w5.heap[b]? := fun b hb => heap_setCell_other _ _ _ (fun e => by rw [e] at hb; exact hb h1.gw)
  have both : ∀ b, b < w.heap.size → tag1 b ≠ 0 → tag1 b ≠ 1 → (w5.setCell ⟨M.wb, 1, none⟩ v).heap[b]? = w.heap[b]? := fun b hb e1 e2 => (ob b e1).trans (same b hb e2)
  have own5 := (same _ (lt_of_heap h.own) (by rw [h1.gw]; omega)).trans h.own
  have hs : w.heap.size ≤ (w5.setCell ⟨M.wb, 1, none⟩ v).heap.size := by simpa using hgr.size
  obtain ⟨kp, kc⟩ := h1.kp_frame (w' := w5.setCell ⟨M.wb, 1, none⟩ v) (fun b e hb => both b hb (by omega) (by omega)) hs
  refine ⟨{ h1 with own := (heap_setCell_same own5).trans rfl, pr := ?_, mq := ?_, ch := ?_, kp := fun p hp => ?_, kc := kc, gp := vb, gk := fun p hp b e => ?_ }, ?_, fun b hb => ?_⟩
  · exact ownsRow_of_block hv (fun b e => ob b (by rw [vb b e]; omega))
  · exact ownsRow_of_block h.mq (fun b e => both b (h.mq.lt b e).2 (by rw [h1.gq b e]; omega) (by rw [h1.gq b e]; omega))
  · exact ownsRow_of_block h.ch (fun b e => both b (h.ch.lt b e).2 (by rw [h1.gc b e]; omega) (by rw [h1.gc b e]; omega))
  · rcases List.mem_append.1 hp with hp | hp
    · exact kp p hp
    · simp at hp; subst hp
      exact ⟨hx.1.frame (fun b e hb => both b hb (by rw [hxt1 b e]; omega) (by rw [hxt1 b e]; omega)) hs, hx.2.1, hx.2.2.1, fun b e => ⟨(hx.2.2.2 b e).1, Nat.lt_of_lt_of_le (hx.2.2.2 b e).2 hs⟩⟩
  · rcases List.mem_append.1 hp with hp | hp
    · exact h1.gk p hp b e
    · simp at hp; subst hp; exact hxt1 b e
  · exact (hgr.mono (S' := M.has) (fun b hb => .inl (.inr (.inl hb)))).trans (Keeps.setCell _ _ _ (.inl rfl)) (fun b hb => .inl hb)
  · rcases hb with h | h | h | h | ⟨p, hp, h⟩ | h
    · exact .inl (.inl h)
    · rcases hloc b h with h | h
      · exact .inl (.inr (.inl h))
      · exact .inr (.inr h)
    · exact .inl (.inr (.inr (.inl h)))
    · exact .inl (.inr (.inr (.inr (.inl h))))
    · rcases List.mem_append.1 hp with hp | hp
      · exact .inl (.inr (.inr (.inr (.inr (.inl ⟨p, hp, h⟩)))))
      · simp at hp; subst hp; exact .inr (.inl h)
    · exact .inl (.inr (.inr (.inr (.inr (.inr h)))))

/-- a mark joins those kept -/
theorem WAt.pushQ (h : WAt w base tag M) {v : Value} {x : Int} (hgr : Keeps (fun b => M.qv.ownBlock = some b) w w5)
    (hv : w5.ownsRow base 3 1 v (M.mks ++ [x]).length ((M.mks ++ [x]).map fun n => Value.int .i64 n)) (hloc : ∀ b, v.ownBlock = some b → M.qv.ownBlock = some b ∨ w.heap.size ≤ b) :
    WAt (w5.setCell ⟨M.wb, 2, none⟩ v) base (_root_.Go.Proofs.YthfimgeopciiiaaGreat.tagNew w.heap.size 2 tag) { M with qv := v, mks := M.mks ++ [x] } ∧ Keeps M.has w (w5.setCell ⟨M.wb, 2, none⟩ v) ∧ ∀ b, ({ M with qv := v, mks := M.mks ++ [x] } : MW).has b → M.has b ∨ w.heap.size ≤ b := by
  have h1 := h.tagNew 2
  generalize ht : _root_.Go.Proofs.YthfimgeopciiiaaGreat.tagNew w.heap.size 2 tag = tag1 at *
  have vb : ∀ b, v.ownBlock = some b → tag1 b = 2 := fun b e => by
    rcases hloc b e with h2 | h2
    · exact h1.gq b h2
    · rw [← ht]; exact tagNew_new h2
  have same : ∀ b, b < w.heap.size → tag1 b ≠ 2 → w5.heap[b]? = w.heap[b]? := fun b hb hn => hgr.block b hb (fun e => hn (h1.gq b e))
  have ob : ∀ b, tag1 b ≠ 0 → (w5.setCell ⟨M.wb, 2, none⟩ v).heap[b]? = w5.heap[b]? := fun b hb => heap_setCell_other _ _ _ (fun e => by rw [e] at hb; exact hb h1.gw)
  have both : ∀ b, b < w.heap.size → tag1 b ≠ 0 → tag1 b ≠ 2 → (w5.setCell ⟨M.wb, 2, none⟩ v).heap[b]? = w.heap[b]? := fun b hb e1 e2 => (ob b e1).trans (same b hb e2)
  have own5 := (same _ (lt_of_heap h.own) (by rw [h1.gw]; omega)).trans h.own
  have hs : w.heap.size ≤ (w5.setCell ⟨M.wb, 2, none⟩ v).heap.size := by simpa using hgr.size
  obtain ⟨kp, kc⟩ := h1.kp_frame (w' := w5.setCell ⟨M.wb, 2, none⟩ v) (fun b e hb => both b hb (by omega) (by omega)) hs
  refine ⟨{ h1 with own := (heap_setCell_same own5).trans rfl, pr := ?_, mq := ?_, ch := ?_, kp := kp, kc := kc, gq := vb }, ?_, fun b hb => ?_⟩
  · exact ownsRow_of_block h.pr (fun b e => both b (h.pr.lt b e).2 (by rw [h1.gp b e]; omega) (by rw [h1.gp b e]; omega))
  · exact ownsRow_of_block hv (fun b e => ob b (by rw [vb b e]; omega))
  · exact ownsRow_of_block h.ch (fun b e => both b (h.ch.lt b e).2 (by rw [h1.gc b e]; omega) (by rw [h1.gc b e]; omega))
  · exact (hgr.mono (S' := M.has) (fun b hb => .inl (.inr (.inr (.inl hb))))).trans (Keeps.setCell _ _ _ (.inl rfl)) (fun b hb => .inl hb)
  · rcases hb with h | h | h | h | h | h
    · exact .inl (.inl h)
    · exact .inl (.inr (.inl h))
    · rcases hloc b h with h | h
      · exact .inl (.inr (.inr (.inl h)))
      · exact .inr h
    · exact .inl (.inr (.inr (.inr (.inl h))))
    · exact .inl (.inr (.inr (.inr (.inr (.inl h)))))
    · exact .inl (.inr (.inr (.inr (.inr (.inr h)))))

/-- a list that was handed in joins those kept -/
theorem WAt.pushC (h : WAt w base tag M) {v : Value} {x : Value × Nat} (hgr : Keeps (fun b => M.cv.ownBlock = some b) w w5)
    (hv : w5.ownsRow base 46 1 v (M.chs ++ [x]).length ((M.chs ++ [x]).map (·.1))) (hloc : ∀ b, v.ownBlock = some b → M.cv.ownBlock = some b ∨ w.heap.size ≤ b)
    (hx : ChAt w x.1 (List.replicate x.2 (turnB, ⟨#[]⟩, true)) ∧ x.2 ≤ 1099511627776 ∧ ∀ b, x.1.ownBlock = some b → base ≤ b ∧ b < w.heap.size) (hxt : ∀ b, x.1.ownBlock = some b → tag b = 4) :
    WAt (w5.setCell ⟨M.wb, 7, none⟩ v) base (_root_.Go.Proofs.YthfimgeopciiiaaGreat.tagNew w.heap.size 3 tag) { M with cv := v, chs := M.chs ++ [x] } ∧ Keeps M.has w (w5.setCell ⟨M.wb, 7, none⟩ v) ∧ ∀ b, ({ M with cv := v, chs := M.chs ++ [x] } : MW).has b → M.has b ∨ x.1.ownBlock = some b ∨ w.heap.size ≤ b := by
  have h1 := h.tagNew 3
  have hxt1 : ∀ b, x.1.ownBlock = some b → _root_.Go.Proofs.YthfimgeopciiiaaGreat.tagNew w.heap.size 3 tag b = 4 := fun b e => by rw [tagNew_old (hx.2.2 b e).2]; exact hxt b e
  generalize ht : _root_.Go.Proofs.YthfimgeopciiiaaGreat.tagNew w.heap.size 3 tag = tag1 at *
  have vb : ∀ b, v.ownBlock = some b → tag1 b = 3 := fun b e => by
    rcases hloc b e with h2 | h2
    · exact h1.gc b h2
    · rw [← ht]; exact tagNew_new h2
  have same : ∀ b, b < w.heap.size → tag1 b ≠ 3 → w5.heap[b]? = w.heap[b]? := fun b hb hn => hgr.block b hb (fun e => hn (h1.gc b e))
  have ob : ∀ b, tag1 b ≠ 0 → (w5.setCell ⟨M.wb, 7, none⟩ v).heap[b]? = w5.heap[b]? := fun b hb => heap_setCell_other _ _ _ (fun e => by rw [e] at hb; exact hb h1.gw)
  have both : ∀ b, b < w.heap.size → tag1 b ≠ 0 → tag1 b ≠ 3 → (w5.setCell ⟨M.wb, 7, none⟩ v).heap[b]? = w.heap[b]? := fun b hb e1 e2 => (ob b e1).trans (same b hb e2)
  have own5 := (same _ (lt_of_heap h.own) (by rw [h1.gw]; omega)).trans h.own
  have hs : w.heap.size ≤ (w5.setCell ⟨M.wb, 7, none⟩ v).heap.size := by simpa using hgr.size
  obtain ⟨kp, kc⟩ := h1.kp_frame (w' := w5.setCell ⟨M.wb, 7, none⟩ v) (fun b e hb => both b hb (by omega) (by omega)) hs
  refine ⟨{ h1 with own := (heap_setCell_same own5).trans rfl, pr := ?_, mq := ?_, ch := ?_, kp := kp, kc := fun c hc => ?_, gc := vb, gl := fun c hc b e => ?_ }, ?_, fun b hb => ?_⟩
  · exact ownsRow_of_block h.pr (fun b e => both b (h.pr.lt b e).2 (by rw [h1.gp b e]; omega) (by rw [h1.gp b e]; omega))
  · exact ownsRow_of_block h.mq (fun b e => both b (h.mq.lt b e).2 (by rw [h1.gq b e]; omega) (by rw [h1.gq b e]; omega))
  · exact ownsRow_of_block hv (fun b e => ob b (by rw [vb b e]; omega))
  · rcases List.mem_append.1 hc with hc | hc
    · exact kc c hc
    · simp at hc; subst hc
      exact ⟨hx.1.frame (fun b e hb => both b hb (by rw [hxt1 b e]; omega) (by rw [hxt1 b e]; omega)) hs, hx.2.1, fun b e => ⟨(hx.2.2 b e).1, Nat.lt_of_lt_of_le (hx.2.2 b e).2 hs⟩⟩
  · rcases List.mem_append.1 hc with hc | hc
    · exact h1.gl c hc b e
    · simp at hc; subst hc; exact hxt1 b e
  · exact (hgr.mono (S' := M.has) (fun b hb => .inl (.inr (.inr (.inr (.inl hb)))))).trans (Keeps.setCell _ _ _ (.inl rfl)) (fun b hb => .inl hb)
  · rcases hb with h | h | h | h | h | ⟨c, hc, h⟩
    · exact .inl (.inl h)
    · exact .inl (.inr (.inl h))
    · exact .inl (.inr (.inr (.inl h)))
    · rcases hloc b h with h | h
      · exact .inl (.inr (.inr (.inr (.inl h))))
      · exact .inr (.inr h)
    · exact .inl (.inr (.inr (.inr (.inr (.inl h)))))
    · rcases List.mem_append.1 hc with hc | hc
      · exact .inl (.inr (.inr (.inr (.inr (.inr ⟨c, hc, h⟩)))))
      · simp at hc; subst hc; exact .inr (.inl h)

end
end Go.Proofs.YthfimgeopciiiaaGreat

/-
  The law's world: keepPairs.
-/
namespace Go.Proofs.YthfimgeopciiiaaGreat
open Go.MapKept Go.ChangeMaps Go.Maps Go.RowKit Go.MuLone
set_option linter.unusedVariables false
attribute [local go_sem ↓ high] append_heldR append_eqR

abbrev mkL (n : Nat) (mk : Int) : Tab := List.replicate n (markB, textB mk)

theorem pairCells_len (x : ByteArray × ByteArray) : (pairCells x).length = 2 := rfl

/-- the list in hand grows: what is kept stands -/
theorem WAt.growV {w W5 : World} {base : Nat} {tag : Nat → Nat} {M : MW} (h : WAt w base tag M) {v : Value} {N : Nat} {mk : Int} {a5 : Option Addr} {c5 : Nat}
    (G : GrowQ pairCells 113 34 2 base w v (mkL N mk) (markB, textB mk) a5 c5 W5)
    (ht : ∀ b, v.ownBlock = some b → tag b = 4) (shr : ∀ p ∈ M.prs, ∀ b, p.1.ownBlock = some b → v.ownBlock = some b → p.2.2 = mk ∧ p.2.1 ≤ N ∧ ∃ cap, p.1 = .slice (some ⟨b, 0, none⟩) p.2.1 cap) (shc : ∀ c ∈ M.chs, ∀ b, c.1.ownBlock = some b → v.ownBlock ≠ some b) :
    WAt W5 base tag M := by
  have hs := G.gr.size
  have ne : ∀ b, b < w.heap.size → tag b ≠ 4 → W5.heap[b]? = w.heap[b]? := fun b hb hn => G.gr.block b hb (fun e => hn (ht b e))
  refine { h with own := ?_, pr := ?_, mq := ?_, ch := ?_, kp := fun p hp => ?_, kc := fun c hc => ?_ }
  · exact (ne _ (lt_of_heap h.own) (by rw [h.gw]; omega)).trans h.own
  · exact ownsRow_of_block h.pr (fun b e => ne b (h.pr.lt b e).2 (by rw [h.gp b e]; omega))
  · exact ownsRow_of_block h.mq (fun b e => ne b (h.mq.lt b e).2 (by rw [h.gq b e]; omega))
  · exact ownsRow_of_block h.ch (fun b e => ne b (h.ch.lt b e).2 (by rw [h.gc b e]; omega))
  · obtain ⟨k1, k2, k3, k4⟩ := h.kp p hp
    refine ⟨?_, k2, k3, fun b e => ⟨(k4 b e).1, Nat.lt_of_lt_of_le (k4 b e).2 hs⟩⟩
    by_cases hsh : ∃ b, p.1.ownBlock = some b ∧ v.ownBlock = some b
    · obtain ⟨b, e1, e2⟩ := hsh
      rcases G.two with hb | hb
      · obtain ⟨f1, f2, cap, f3⟩ := shr p hp b e1 e2
        have hrow := G.row
        obtain ⟨a', cap', e', hcell⟩ := row_at pairCells pairCells_len (l := mkL N mk ++ [(markB, textB mk)]) hrow
        rcases hcell with h0 | ⟨g, e3, ho, -, hg, -, hcell⟩
        · have := congrArg List.length h0; simp at this
        · obtain rfl : g = b := by
            have : (Value.slice a5 ((mkL N mk).length + 1) c5).ownBlock = some g := ho
            rw [hb, e2] at this
            exact (Option.some.inj this).symm
          refine ⟨some ⟨g, 0, none⟩, cap, by rw [List.length_replicate]; exact f3, .inr ⟨g, 0, rfl, hg, fun i q hq => ?_⟩⟩
          rw [List.getElem?_replicate] at hq
          split at hq
          · rename_i hi
            obtain rfl := Option.some.inj hq
            have hat : (mkL N mk ++ [(markB, textB mk)])[i]? = some (markB, textB mk) := by
              have : mkL N mk ++ [(markB, textB mk)] = List.replicate (N + 1) (markB, textB mk) := by rw [List.replicate_succ']
              rw [this, List.getElem?_replicate, if_pos (by omega)]
            have c0 := hcell i _ hat 0 (by omega)
            have c1 := hcell i _ hat 1 (by omega)
            rw [Nat.zero_add, f1]
            exact ⟨c0, c1⟩
          · cases hq
      · exact k1.frame (fun b' e hb' => hb b' hb') hs
    · exact k1.frame (fun b' e hb' => G.gr.block b' hb' (fun e2 => hsh ⟨b', e, e2⟩)) hs
  · obtain ⟨k1, k2, k3⟩ := h.kc c hc
    exact ⟨k1.frame (fun b' e hb' => G.gr.block b' hb' (fun e2 => shc c hc b' e e2)) hs, k2, fun b e => ⟨(k3 b e).1, Nat.lt_of_lt_of_le (k3 b e).2 hs⟩⟩

/-- behind some of the rounds -/
structure KPI (W0 wr : World) (base : Nat) (M : MW) (v0 : Value) (n : Nat) (mk : Int) (j : Nat) (vj : Value) (Mj : MW) : Prop where
  wat : ∃ tag, WAt wr base tag Mj ∧ ∀ b, vj.ownBlock = some b → tag b = 4
  row : PrSl base wr vj (mkL (n + j) mk)
  shr : ∀ p ∈ Mj.prs, ∀ b, p.1.ownBlock = some b → vj.ownBlock = some b → p.2.2 = mk ∧ p.2.1 ≤ n + j ∧ ∃ cap, p.1 = .slice (some ⟨b, 0, none⟩) p.2.1 cap
  shc : ∀ c ∈ Mj.chs, ∀ b, c.1.ownBlock = some b → vj.ownBlock ≠ some b
  keeps : Keeps (fun b => M.has b ∨ v0.ownBlock = some b) W0 wr
  fresh : ∀ b, Mj.has b ∨ vj.ownBlock = some b → M.has b ∨ v0.ownBlock = some b ∨ W0.heap.size ≤ b
  wb : Mj.wb = M.wb
  sv : Mj.sv = M.sv
  chs : Mj.chs = M.chs
  last : Mj.last = M.last
  len : Mj.prs.length = M.prs.length + j
  mks : Mj.mks = Mj.prs.map (·.2.2)

/-- a round, whole -/
structure KPS (W0 wr : World) (base : Nat) (M : MW) (v0 : Value) (n : Nat) (mk : Int) (j : Nat) (ja : Option Addr) (jc : Nat) (pb : Nat) (pa : Option Addr) (pc : Nat) (a5 : Option Addr) (c5 : Nat) (W5 : World) (qa : Option Addr) (qc : Nat) (a6 : Option Addr) (c6 : Nat) (W6 : World) (a7 : Option Addr) (c7 : Nat) (W7 : World) (Mj' : MW) : Prop where
  hw : M.wb < wr.heap.size
  x1 : wr.cell? ⟨M.wb, 1, none⟩ = some (.slice pa (M.prs.length + j) pc)
  e1 : (heldAppendR #[90, 90] 90 #[.slice pa (M.prs.length + j) pc, .slice (some ⟨wr.heap.size, 0, none⟩) 1 1]).run Tryz.prog (wr.alloc (.cells #[.slice ja (n + j) jc] 34)) = .ok (.slice a5 (M.prs.length + j + 1) c5) W5
  y1 : W5.cell? ⟨M.wb, 1, none⟩ = some (.slice pa (M.prs.length + j) pc)
  f1 : W5.frozen? ⟨M.wb, 1, none⟩ = false
  hw2 : M.wb < (W5.setCell ⟨M.wb, 1, none⟩ (.slice a5 (M.prs.length + j + 1) c5)).heap.size
  x2 : (W5.setCell ⟨M.wb, 1, none⟩ (.slice a5 (M.prs.length + j + 1) c5)).cell? ⟨M.wb, 2, none⟩ = some (.slice qa (M.prs.length + j) qc)
  e2 : (heldAppendR #[75, 75] 75 #[.slice qa (M.prs.length + j) qc, .slice (some ⟨(W5.setCell ⟨M.wb, 1, none⟩ (.slice a5 (M.prs.length + j + 1) c5)).heap.size, 0, none⟩) 1 1]).run Tryz.prog ((W5.setCell ⟨M.wb, 1, none⟩ (.slice a5 (M.prs.length + j + 1) c5)).alloc (.cells #[.int .i64 mk] 3)) = .ok (.slice a6 (M.prs.length + j + 1) c6) W6
  y2 : W6.cell? ⟨M.wb, 2, none⟩ = some (.slice qa (M.prs.length + j) qc)
  f2 : W6.frozen? ⟨M.wb, 2, none⟩ = false
  z0 : (W6.setCell ⟨M.wb, 2, none⟩ (.slice a6 (M.prs.length + j + 1) c6)).cell? ⟨pb, 0, none⟩ = some (.string markB)
  z1 : (W6.setCell ⟨M.wb, 2, none⟩ (.slice a6 (M.prs.length + j + 1) c6)).cell? ⟨pb, 1, none⟩ = some (.string (textB mk))
  e3 : (heldAppendR #[34, 34] 34 #[.slice ja (n + j) jc, .slice (some ⟨(W6.setCell ⟨M.wb, 2, none⟩ (.slice a6 (M.prs.length + j + 1) c6)).heap.size, 0, none⟩) 1 1]).run Tryz.prog ((W6.setCell ⟨M.wb, 2, none⟩ (.slice a6 (M.prs.length + j + 1) c6)).alloc (.cells #[.string markB, .string (textB mk)] 113)) = .ok (.slice a7 (n + j + 1) c7) W7
  next : KPI W0 W7 base M v0 n mk (j + 1) (.slice a7 (n + j + 1) c7) Mj'

theorem info_prs : (Tryz.prog.info? 34).map (fun i => (i.zero, i.size, i.bytes)) = some (some (.slice none 0 0), 1, 24) := by kernel_rfl
theorem info_lint : (Tryz.prog.info? 3).map (fun i => (i.zero, i.size, i.bytes)) = some (some (.int .i64 0), 1, 8) := by kernel_rfl

theorem flat_one {α : Type} (f : α → Value) (l : List α) : l.flatMap (fun x => [f x]) = l.map f := by
  induction l with
  | nil => rfl
  | cons x r ih => simp [List.flatMap_cons, ih]

set_option maxRecDepth 100000 in
theorem KPI.step {W0 wr : World} {base : Nat} {M : MW} {v0 : Value} {n : Nat} {mk : Int} {j : Nat} {ja : Option Addr} {jc : Nat} {Mj : MW} {pb : Nat} (K : KPI W0 wr base M v0 n mk j (.slice ja (n + j) jc) Mj)
    (hb0 : base ≤ wr.heap.size) (hn : n + j ≤ 1048600) (hp : M.prs.length + j ≤ 1099511627776) (hmk : -1099511627776 ≤ mk ∧ mk ≤ 0) (hpb : pb < W0.heap.size) (hpm : ¬ M.has pb) (hpv : v0.ownBlock ≠ some pb) (hp0 : W0.cell? ⟨pb, 0, none⟩ = some (.string markB)) (hp1 : W0.cell? ⟨pb, 1, none⟩ = some (.string (textB mk))) :
    ∃ pa pc a5 c5 W5 qa qc a6 c6 W6 a7 c7 W7 Mj', KPS W0 wr base M v0 n mk j ja jc pb pa pc a5 c5 W5 qa qc a6 c6 W6 a7 c7 W7 Mj' := by
  obtain ⟨tag, hW, htv⟩ := K.wat
  obtain ⟨ip, hip, hip0, hip1, hip2⟩ := info_parts info_prs
  obtain ⟨iq, hiq, hiq0, hiq1, hiq2⟩ := info_parts info_lint
  obtain ⟨ir, hir, hir0, hir1, hir2⟩ := info_parts info_pair
  have hwb := K.wb
  have hlen := K.len
  have hml : Mj.mks.length = M.prs.length + j := by rw [K.mks, List.length_map, hlen]
  -- the list joins
  have hpr : wr.ownsRow base 34 1 Mj.pv Mj.prs.length (Mj.prs.flatMap fun p => [p.1]) := by rw [flat_one]; exact hW.pr
  obtain ⟨a5, c5, W5, G5⟩ := grow_rowQ (fun p : Value × Nat × Int => [p.1]) (t := 90) (k := 1) (fun _ => rfl) (by omega) Tryz.underlying90 hip hip0 hip1 hip2 (by kernel_rfl) hpr (Value.slice ja (n + j) jc, n + j, mk) (by simp [Value.oneCell']) hb0 (by rw [hlen]; exact hp) (by omega)
  obtain ⟨pa, pc, epv, -⟩ := row1_at hW.pr
  have hvx : PrAt wr (Value.slice ja (n + j) jc) (mkL (n + j) mk) := PrAt.of_sl K.row
  obtain ⟨hW1, k1, n1⟩ := hW.pushP (x := (Value.slice ja (n + j) jc, n + j, mk)) G5.gr (by have := G5.row; rw [flat_one] at this; exact this) (fun b hb => by rcases G5.loc b hb with h | h; exact .inl h; exact .inr (Nat.le_of_lt h)) ⟨hvx, hmk, by show n + j ≤ _; omega, fun b e => K.row.lt b e⟩ (fun b e => htv b e)
  have hwlt : Mj.wb < wr.heap.size := lt_of_heap hW.own
  have same1 : ∀ b, tag b = 4 → b < wr.heap.size → (W5.setCell ⟨Mj.wb, 1, none⟩ (.slice a5 (Mj.prs.length + 1) c5)).heap[b]? = wr.heap[b]? := fun b ht hb =>
    (heap_setCell_other _ _ _ (fun e => by rw [e, hW.gw] at ht; omega)).trans (G5.gr.block b hb (fun e => by have := hW.gp b e; omega))
  have hblk5 : W5.heap[Mj.wb]? = wr.heap[Mj.wb]? := G5.gr.block _ hwlt (fun e => by have h1 := hW.gp _ e; have h2 := hW.gw; omega)
  have hs1 : wr.heap.size ≤ (W5.setCell ⟨Mj.wb, 1, none⟩ (.slice a5 (Mj.prs.length + 1) c5)).heap.size := k1.size
  -- the mark joins
  generalize hWp : W5.setCell ⟨Mj.wb, 1, none⟩ (.slice a5 (Mj.prs.length + 1) c5) = W1 at *
  have hmq : W1.ownsRow base 3 1 Mj.qv Mj.mks.length (Mj.mks.flatMap fun z => [Value.int .i64 z]) := by rw [flat_one]; exact hW1.mq
  obtain ⟨a6, c6, W6, G6⟩ := grow_rowQ (fun z : Int => [Value.int .i64 z]) (t := 75) (k := 1) (fun _ => rfl) (by omega) Tryz.underlying75 hiq hiq0 hiq1 hiq2 (by kernel_rfl) hmq mk (by simp [Value.oneCell']) (by omega) (by rw [hml]; exact hp) (by omega)
  obtain ⟨qa, qc, eqv, -⟩ := row1_at hW.mq
  obtain ⟨hW2, k2, n2⟩ := hW1.pushQ (x := mk) G6.gr (by have := G6.row; rw [flat_one] at this; exact this) (fun b hb => by rcases G6.loc b hb with h | h; exact .inl h; exact .inr (Nat.le_of_lt h))
  have same2 : ∀ b, tag b = 4 → b < wr.heap.size → (W6.setCell ⟨Mj.wb, 2, none⟩ (.slice a6 (Mj.mks.length + 1) c6)).heap[b]? = wr.heap[b]? := fun b ht hb =>
    ((heap_setCell_other _ _ _ (fun e => by rw [e, hW.gw] at ht; omega)).trans (G6.gr.block b (by omega) (fun e => by have := hW.gq b e; omega))).trans (same1 b ht hb)
  have hblk6 : W6.heap[Mj.wb]? = W1.heap[Mj.wb]? := G6.gr.block _ (by omega) (fun e => by have h1 := hW.gq _ e; have h2 := hW.gw; omega)
  have hs2 : W1.heap.size ≤ (W6.setCell ⟨Mj.wb, 2, none⟩ (.slice a6 (Mj.mks.length + 1) c6)).heap.size := k2.size
  have own1 := hW1.own
  generalize hWq : W6.setCell ⟨Mj.wb, 2, none⟩ (.slice a6 (Mj.mks.length + 1) c6) = W2 at *
  -- the list grows
  have hrl := K.row.lt
  have hrow2 : PrSl base W2 (.slice ja (n + j) jc) (mkL (n + j) mk) := ownsRow_of_block K.row (fun b e => same2 b (htv b e) (hrl b e).2)
  have hrow2' : W2.ownsRow base 113 2 (.slice ja (n + j) jc) (mkL (n + j) mk).length ((mkL (n + j) mk).flatMap pairCells) := hrow2
  obtain ⟨a7, c7, W7, G7⟩ := grow_rowQ pairCells (t := 34) pairCells_len (by omega) Tryz.underlying34 hir hir0 hir1 hir2 (by kernel_rfl) hrow2' (markB, textB mk) (by simp [pairCells, Value.oneCell']) (by omega) (by rw [List.length_replicate]; omega) (by omega)
  have htv2 : ∀ b, (Value.slice ja (n + j) jc).ownBlock = some b → tagNew W1.heap.size 2 (tagNew wr.heap.size 1 tag) b = 4 := fun b e => by
    have := (hrl b e).2
    rw [tagNew_old (by omega), tagNew_old this]; exact htv b e
  have hsl : ∀ b, (Value.slice ja (n + j) jc).ownBlock = some b → ja = some ⟨b, 0, none⟩ := fun b e => by
    rcases K.row.2 with ⟨e1, _⟩ | ⟨g, cap, cur, e1, _⟩
    · rw [e1] at e; simp [Value.ownBlock] at e
    · have e2 : ja = some ⟨g, 0, none⟩ := (Value.slice.inj e1).1
      rw [e2] at e ⊢
      simp [Value.ownBlock] at e
      rw [e]
  have shr2 : ∀ p ∈ Mj.prs ++ [(Value.slice ja (n + j) jc, n + j, mk)], ∀ b, p.1.ownBlock = some b → (Value.slice ja (n + j) jc).ownBlock = some b → p.2.2 = mk ∧ p.2.1 ≤ n + j ∧ ∃ cap, p.1 = .slice (some ⟨b, 0, none⟩) p.2.1 cap := fun p hp b e1 e2 => by
    rcases List.mem_append.1 hp with hp | hp
    · exact K.shr p hp b e1 e2
    · simp at hp; subst hp
      exact ⟨rfl, Nat.le_refl _, jc, by rw [hsl b e2]⟩
  have hW3 := hW2.growV G7 htv2 shr2 K.shc
  have hl2 : ∀ b, ({ Mj with pv := .slice a5 (Mj.prs.length + 1) c5, prs := Mj.prs ++ [(Value.slice ja (n + j) jc, n + j, mk)], qv := .slice a6 (Mj.mks.length + 1) c6, mks := Mj.mks ++ [mk] } : MW).has b → b < W2.heap.size := fun b hb => (hW2.lt hb).2
  have hpbk : ¬ Mj.has pb ∧ (Value.slice ja (n + j) jc).ownBlock ≠ some pb := by
    refine ⟨fun h => ?_, fun h => ?_⟩
    · rcases K.fresh pb (.inl h) with h | h | h
      · exact hpm h
      · exact hpv h
      · omega
    · rcases K.fresh pb (.inr h) with h | h | h
      · exact hpm h
      · exact hpv h
      · omega
  have hpbl : pb < wr.heap.size := Nat.lt_of_lt_of_le hpb K.keeps.size
  have hpb1 : ¬ ({ Mj with pv := .slice a5 (Mj.prs.length + 1) c5, prs := Mj.prs ++ [(Value.slice ja (n + j) jc, n + j, mk)] } : MW).has pb := fun h => by
    rcases n1 pb h with h | h | h
    · exact hpbk.1 h
    · exact hpbk.2 h
    · omega
  have hpbW : W2.heap[pb]? = W0.heap[pb]? := ((k2.block pb (by omega) hpb1).trans (k1.block pb hpbl hpbk.1)).trans (K.keeps.block pb hpb (fun h => h.elim hpm hpv))
  have c5b := hW.own
  have hEq : Mj.prs.length = M.prs.length + j := hlen
  have hml' : Mj.mks.length = Mj.prs.length := by rw [hml, hlen]
  have ex1 : wr.cell? ⟨Mj.wb, 1, none⟩ = some (.slice pa Mj.prs.length pc) := by rw [← epv, cell_of_heap hW.own]; rfl
  have ex2 : W1.cell? ⟨Mj.wb, 2, none⟩ = some (.slice qa Mj.prs.length qc) := by rw [← hml', ← eqv, cell_of_heap own1]; rfl
  have ea1 := G5.app
  have ea2 := G6.app
  have ea3 := G7.app
  rw [epv] at ea1
  rw [eqv] at ea2
  rw [List.length_replicate] at ea3
  rw [hml'] at ea2 hWq
  have hnx : KPI W0 W7 base M v0 n mk (j + 1) (.slice a7 (n + j + 1) c7) { Mj with pv := .slice a5 (Mj.prs.length + 1) c5, prs := Mj.prs ++ [(Value.slice ja (n + j) jc, n + j, mk)], qv := .slice a6 (Mj.mks.length + 1) c6, mks := Mj.mks ++ [mk] } := by
    have hloc7 : ∀ b, (Value.slice a7 (n + j + 1) c7).ownBlock = some b → (Value.slice ja (n + j) jc).ownBlock = some b ∨ W2.heap.size < b := fun b e => by
      have := G7.loc b
      rw [List.length_replicate] at this
      exact this e
    have hrl2 : ∀ b, (Value.slice ja (n + j) jc).ownBlock = some b → b < W2.heap.size := fun b e => by have := (hrl b e).2; omega
    refine ⟨⟨tagNew W2.heap.size 4 (tagNew W1.heap.size 2 (tagNew wr.heap.size 1 tag)), hW3.retag (fun b hb => tagNew_old (hl2 b hb)), fun b e => ?_⟩, ?_, fun p hp b e1 e2 => ?_, fun c hc b e1 e2 => ?_, ?_, fun b hb => ?_, hwb, K.sv, K.chs, K.last, ?_, ?_⟩
    · rcases hloc7 b e with h | h
      · rw [tagNew_old (hrl2 b h)]; exact htv2 b h
      · exact tagNew_new (Nat.le_of_lt h)
    · have := G7.row
      rw [List.length_replicate] at this
      have e8 : mkL (n + (j + 1)) mk = mkL (n + j) mk ++ [(markB, textB mk)] := by unfold mkL; rw [show n + (j + 1) = (n + j) + 1 by omega, List.replicate_succ']
      unfold PrSl
      rw [e8]
      exact this
    · rcases hloc7 b e2 with h | h
      · obtain ⟨y1, y2, y3⟩ := shr2 p hp b e1 h
        exact ⟨y1, by omega, y3⟩
      · have := hl2 b (.inr (.inr (.inr (.inr (.inl ⟨p, hp, e1⟩))))); omega
    · rcases hloc7 b e2 with h | h
      · exact K.shc c hc b e1 h
      · have := hl2 b (.inr (.inr (.inr (.inr (.inr ⟨c, hc, e1⟩))))); omega
    · have hs0 := K.keeps.size
      refine ((K.keeps.trans k1 (fun b hb => ?_)).trans k2 (fun b hb => ?_)).trans G7.gr (fun b hb => ?_)
      · rcases K.fresh b (.inl hb) with h | h | h
        · exact .inl (.inl h)
        · exact .inl (.inr h)
        · exact .inr h
      · rcases n1 b hb with h | h | h
        · rcases K.fresh b (.inl h) with h | h | h
          · exact .inl (.inl h)
          · exact .inl (.inr h)
          · exact .inr h
        · rcases K.fresh b (.inr h) with h | h | h
          · exact .inl (.inl h)
          · exact .inl (.inr h)
          · exact .inr h
        · exact .inr (by omega)
      · rcases K.fresh b (.inr hb) with h | h | h
        · exact .inl (.inl h)
        · exact .inl (.inr h)
        · exact .inr h
    · have hs0 := K.keeps.size
      rcases hb with hb | hb
      · rcases n2 b hb with h | h
        · rcases n1 b h with h | h | h
          · exact K.fresh b (.inl h)
          · exact K.fresh b (.inr h)
          · exact .inr (.inr (by omega))
        · exact .inr (.inr (by omega))
      · rcases hloc7 b hb with h | h
        · exact K.fresh b (.inr h)
        · exact .inr (.inr (by omega))
    · show (Mj.prs ++ [_]).length = _
      rw [List.length_append, hlen]; rfl
    · show Mj.mks ++ [mk] = (Mj.prs ++ [_]).map _
      rw [List.map_append, K.mks]; rfl
  refine ⟨pa, pc, a5, c5, W5, qa, qc, a6, c6, W6, a7, c7, W7, _, ⟨?_, ?_, ?_, ?_, ?_, ?_, ?_, ?_, ?_, ?_, ?_, ?_, ?_, hnx⟩⟩
  · rw [← hwb]; exact hwlt
  · rw [← hwb, ← hlen]; exact ex1
  · rw [← hlen]; exact ea1
  · rw [← hwb, ← hlen]; exact (World.cell?_of_block (a := ⟨Mj.wb, 1, none⟩) hblk5).trans ex1
  · rw [← hwb]; exact (World.frozen?_of_block (a := ⟨Mj.wb, 1, none⟩) hblk5).trans (hW.frz 1)
  · rw [← hwb, ← hlen, hWp]; omega
  · rw [← hwb, ← hlen, hWp]; exact ex2
  · rw [← hwb, ← hlen, hWp]; exact ea2
  · rw [← hwb, ← hlen]; exact (World.cell?_of_block (a := ⟨Mj.wb, 2, none⟩) hblk6).trans ex2
  · rw [← hwb]; exact (World.frozen?_of_block (a := ⟨Mj.wb, 2, none⟩) hblk6).trans (hW1.frz 2)
  · rw [← hwb, ← hlen, hWq]; exact (World.cell?_of_block (a := ⟨pb, 0, none⟩) hpbW).trans hp0
  · rw [← hwb, ← hlen, hWq]; exact (World.cell?_of_block (a := ⟨pb, 1, none⟩) hpbW).trans hp1
  · rw [← hwb, ← hlen, hWq]; exact ea3

end Go.Proofs.YthfimgeopciiiaaGreat

/-
  The law's world: keepPairs, walked.
-/
namespace Go.Proofs.YthfimgeopciiiaaGreat
open Go.MapKept Go.ChangeMaps Go.Maps Go.RowKit Go.MuLone
set_option linter.unusedVariables false
attribute [local go_sem ↓ high] append_heldR append_eqR

/-- one pair of a row turns -/
theorem PrSl.set {w : World} {base : Nat} {v : Value} {l : Tab} (h : PrSl base w v l) {j g : Nat} {p : ByteArray × ByteArray} (hp : l[j]? = some p) (hg : v.ownBlock = some g) (q : ByteArray × ByteArray) :
    PrSl base ((w.setCell ⟨g, j * 2, none⟩ (.string q.1)).setCell ⟨g, j * 2 + 1, none⟩ (.string q.2)) v (l.set j q) := by
  have hj : j < l.length := (List.getElem?_eq_some_iff.1 hp).1
  have h0 : w.ownsRow base 113 2 v l.length (l.flatMap pairCells) := h
  have h1 := ownsRow_set h0 hg (j * 2 + 0) (.string q.1)
  rw [← flat_set pairCells 2 pairCells_len l j 0 p (q.1, p.2) _ hp (by omega) rfl] at h1
  have h2 := ownsRow_set h1 hg (j * 2 + 1) (.string q.2)
  rw [← flat_set pairCells 2 pairCells_len (l.set j (q.1, p.2)) j 1 (q.1, p.2) q _ (by rw [List.getElem?_set, if_pos rfl, if_pos hj]) (by omega) rfl, List.set_set] at h2
  unfold PrSl
  rw [List.length_set]
  exact h2

theorem mk_set {l : Tab} {n : Nat} {mk : Int} (hn : n < l.length) : (mkL n mk ++ l.drop n).set n (markB, textB mk) = mkL (n + 1) mk ++ l.drop (n + 1) := by
  have e1 : l.drop n = l[n] :: l.drop (n + 1) := List.drop_eq_getElem_cons hn
  rw [e1, List.set_append_right _ _ (by rw [List.length_replicate]; omega), List.length_replicate, Nat.sub_self, List.set_cons_zero]
  unfold mkL
  rw [List.replicate_succ', List.append_assoc]; rfl

theorem size_set' (w : World) (a : Addr) (v : Value) : (w.setCell a v).heap.size = w.heap.size := by simp

/-- what keepPairs leaves -/
structure KeptOut (w w' : World) (base : Nat) (M : MW) (v : Value) (M' : MW) : Prop where
  is : WIn w' base M'
  keeps : Keeps (fun b => M.has b ∨ v.ownBlock = some b) w w'
  fresh : ∀ b, M'.has b → M.has b ∨ v.ownBlock = some b ∨ w.heap.size ≤ b
  wb : M'.wb = M.wb
  sv : M'.sv = M.sv
  chs : M'.chs = M.chs
  last : M'.last = M.last - 1
  len : M'.prs.length = M.prs.length + 4
  mks : M'.mks = M'.prs.map (·.2.2)

set_option maxRecDepth 100000 in
set_option maxHeartbeats 4000000 in
theorem keepPairs_h {w : World} {base : Nat} {M : MW} {v : Value} {l : Tab} (H : WIn w base M) (hv : PrSl base w v l) (hfree : ∀ b, v.ownBlock = some b → ¬ M.has b) (hmk : M.mks = M.prs.map (·.2.2)) (hlast : -1099511627775 ≤ M.last ∧ M.last ≤ 0) (hll : l.length ≤ 1048592) (hpl : M.prs.length ≤ 549755813888) :
    Calls Tryz.prog 120 #[.pointer (some ⟨M.wb, 0, none⟩), v] w fun e w' => e = .returned (.tuple #[]) ∧ ∃ M', KeptOut w w' base M v M' := by
  have hb0 : base ≤ w.heap.size := by obtain ⟨tag, H1⟩ := H; exact Nat.le_of_lt (Nat.lt_of_le_of_lt H1.hb (lt_of_heap H1.own))
  have HMk := hidC (lmark_h H (by omega))
  have HTx : Hid (∀ W, Calls Tryz.prog 75 #[.int .i64 (M.last - 1)] W fun e w' => e = .returned (.string (textB (M.last - 1))) ∧ Quiet W w') := fun W => text_h W _ (by omega)
  have hvl := hv.lt
  have HS : Hid (∀ w1 w2, WIn w1 base { M with last := M.last - 1 } → WTurn w w1 M { M with last := M.last - 1 } → Quiet w1 w2 → PrSl base w2 v l ∧ WIn w2 base { M with last := M.last - 1 } ∧ Keeps M.has w w2 ∧ w.heap.size ≤ w2.heap.size) := hidC' (fun w1 w2 h1 h2 q => by
    refine ⟨?_, h1.quiet q, h2.keeps.trans (q.mono (S' := M.has) (fun _ h => h.elim)) (fun b hb => .inl hb), Nat.le_trans h2.keeps.size q.size⟩
    exact ownsRow_of_block hv (fun b hb => (q.block b (Nat.lt_of_lt_of_le (hvl b hb).2 h2.keeps.size) id).trans (h2.keeps.block b (hvl b hb).2 (hfree b hb))))
  obtain ⟨a, cap, rfl, -⟩ := hv.at
  clear H
  generalize hm1 : M.last - 1 = mk at *
  go_enter Tryz.func120, Tryz.ntmps120
  go_wp2_with (first
    | (go_at_call 184; refine HMk.out.mono ?_; rintro e w1 ⟨rfl, hI1, hT1⟩)
    | (go_at_call 75; refine (HTx.out _).mono ?_; rintro e w2 ⟨rfl, hq2⟩))
  obtain ⟨hP2, hI2, hK2, hs2⟩ := HS.out _ _ hI1 hT1 hq2
  clear HS HMk HTx hI1 hT1 hq2
  have hqa : Quiet w2 (w2.alloc (.cells #[.string ⟨#[109, 97, 114, 107]⟩, .string (textB mk)] 113)) := Keeps.alloc _ _
  have hba : (w2.alloc (.cells #[.string ⟨#[109, 97, 114, 107]⟩, .string (textB mk)] 113)).heap[w2.heap.size]? = some (.cells #[.string ⟨#[109, 97, 114, 107]⟩, .string (textB mk)] 113) := heap_alloc_new _ _
  generalize w2.alloc (.cells #[.string ⟨#[109, 97, 114, 107]⟩, .string (textB mk)] 113) = WB at *
  have hsB := lt_of_heap hba
  have hvb : ∀ b, (Value.slice a l.length cap).ownBlock = some b → b < w2.heap.size := fun b hb => Nat.lt_of_lt_of_le (hvl b hb).2 hs2
  have HPB : Hid (∀ wx, Keeps (fun b => (Value.slice a l.length cap).ownBlock = some b) WB wx → w2.heap.size < wx.heap.size ∧ wx.cell? ⟨w2.heap.size, 0, none⟩ = some (.string ⟨#[109, 97, 114, 107]⟩) ∧ wx.cell? ⟨w2.heap.size, 1, none⟩ = some (.string (textB mk))) := fun wx q => by
    have hne : ¬ (Value.slice a l.length cap).ownBlock = some w2.heap.size := fun e => by have := hvb _ e; omega
    have hx := (q.block _ hsB hne).trans hba
    exact ⟨lt_of_heap hx, by rw [cell_of_heap hx]; rfl, by rw [cell_of_heap hx]; rfl⟩
  have hPB : PrSl base WB (.slice a l.length cap) l := ownsRow_of_block hP2 (fun b hb => hqa.block b (hvb b hb) id)
  have HP0 := hidC' hPB
  go_loopw [6] (fun i wr => ∃ n : Nat, i = .int .i64 n ∧ n ≤ l.length ∧ Keeps (fun b => (Value.slice a l.length cap).ownBlock = some b) WB wr ∧ Hid (PrSl base wr (.slice a l.length cap) (mkL n mk ++ l.drop n))) (fun i _ => l.length - (intOf i).toNat)
  case atStart => exact ⟨0, rfl, Nat.zero_le _, Keeps.refl _ _, HP0⟩
  case round =>
    obtain ⟨n, rfl, hn, hk, HP⟩ := hrel
    obtain ⟨hpl', b0, b1⟩ := HPB.out _ hk
    by_cases hlt : n < l.length
    · have hlt' : (n : Int) < (l.length : Int) := by omega
      have hnl : n < (mkL n mk ++ l.drop n).length := by rw [List.length_append, List.length_replicate, List.length_drop]; omega
      obtain ⟨p, hp⟩ : ∃ p, (mkL n mk ++ l.drop n)[n]? = some p := ⟨_, List.getElem?_eq_getElem hnl⟩
      obtain ⟨a', cap', e', hrow⟩ := row_at pairCells pairCells_len (l := mkL n mk ++ l.drop n) HP.out
      have ea : a = a' := (Value.slice.inj e').1
      rcases hrow with h0 | ⟨g, rfl, ho, hbg, hg, hf, hcell⟩
      · rw [h0] at hnl; simp at hnl
      subst ea
      have r0 : wr.cell? ⟨g, n * 2, none⟩ = some (.string p.1) := hcell n p hp 0 (by omega)
      have r1 : wr.cell? ⟨g, n * 2 + 1, none⟩ = some (.string p.2) := hcell n p hp 1 (by omega)
      have f0 := hf (n * 2)
      have f1 := hf (n * 2 + 1)
      have HN : Hid (PrSl base ((wr.setCell ⟨g, n * 2, none⟩ (.string ⟨#[109, 97, 114, 107]⟩)).setCell ⟨g, n * 2 + 1, none⟩ (.string (textB mk))) (.slice (some ⟨g, 0, none⟩) l.length cap) (mkL (n + 1) mk ++ l.drop (n + 1))) := hidC' (by
        rw [← mk_set hlt]
        exact PrSl.set HP.out hp rfl (markB, textB mk))
      have HK : Hid (Keeps (fun b => (Value.slice (some ⟨g, 0, none⟩) l.length cap).ownBlock = some b) WB ((wr.setCell ⟨g, n * 2, none⟩ (.string ⟨#[109, 97, 114, 107]⟩)).setCell ⟨g, n * 2 + 1, none⟩ (.string (textB mk)))) := hidC' ((hk.trans (Keeps.setCell (S := fun b => (Value.slice (some ⟨g, 0, none⟩) l.length cap).ownBlock = some b) wr ⟨g, n * 2, none⟩ (.string ⟨#[109, 97, 114, 107]⟩) rfl) (fun _ h => .inl h)).trans (Keeps.setCell (S := fun b => (Value.slice (some ⟨g, 0, none⟩) l.length cap).ownBlock = some b) _ ⟨g, n * 2 + 1, none⟩ (.string (textB mk)) rfl) (fun _ h => .inl h))
      clear hcell hf hp HP e' hPB HP0 HPB
      go_wp2
      exact ⟨⟨n + 1, by go_num, by omega, HK.out, HN⟩, by simp [intOf]; omega⟩
    · have hge : ¬ (n : Int) < (l.length : Int) := by omega
      have hne : n = l.length := by omega
      subst hne
      have hP3 : PrSl base wr (.slice a l.length cap) (mkL (l.length + 0) mk) := by have h := HP.out; rw [List.drop_length, List.append_nil] at h; exact h
      obtain ⟨W3, hW3⟩ : ∃ W3, W3 = wr := ⟨wr, rfl⟩
      subst hW3
      have hI3 : WIn W3 base { M with last := mk } := (hI2.quiet hqa).kept hk (fun b hb e => hfree b e hb)
      have HI0 : Hid (KPI W3 W3 base { M with last := mk } (.slice a l.length cap) l.length mk 0 (.slice a l.length cap) { M with last := mk }) := hidC' (by
        obtain ⟨tag, h3⟩ := hI3
        refine ⟨⟨fun b => if (Value.slice a l.length cap).ownBlock = some b then 4 else tag b, h3.retag (fun b hb => if_neg (fun e => hfree b e hb)), fun b e => if_pos e⟩, hP3, fun p hp b e1 e2 => ?_, fun c hc b e1 e2 => ?_, Keeps.refl _ _, fun b hb => ?_, rfl, rfl, rfl, rfl, rfl, hmk⟩
        · exact absurd (.inr (.inr (.inr (.inr (.inl ⟨p, hp, e1⟩))))) (hfree b e2)
        · exact absurd (.inr (.inr (.inr (.inr (.inr ⟨c, hc, e1⟩))))) (hfree b e2)
        · rcases hb with h | h
          · exact .inl h
          · exact .inr (.inl h))
      have hKa : Keeps (fun b => M.has b ∨ (Value.slice a l.length cap).ownBlock = some b) w W3 := ((hK2.mono (S' := fun b => M.has b ∨ (Value.slice a l.length cap).ownBlock = some b) (fun b h => .inl (.inl h))).trans (hqa.mono (S' := fun b => M.has b ∨ (Value.slice a l.length cap).ownBlock = some b) (fun _ h => h.elim)) (fun b h => .inl h)).trans hk (fun b h => .inl (.inr h))
      have hs3 := hKa.size
      have HSt : Hid (∀ wr j ja jc Mj, KPI W3 wr base { M with last := mk } (.slice a l.length cap) l.length mk j (.slice ja (l.length + j) jc) Mj → j < 4 → ∃ pa pc a5 c5 W5 qa qc a6 c6 W6 a7 c7 W7 Mj', KPS W3 wr base { M with last := mk } (.slice a l.length cap) l.length mk j ja jc w2.heap.size pa pc a5 c5 W5 qa qc a6 c6 W6 a7 c7 W7 Mj') := hidC' (fun wr j ja jc Mj K hj => K.step (by have := K.keeps.size; omega) (by omega) (by show M.prs.length + j ≤ _; omega) (by omega) hpl' (fun h => by have := (hI2.lt h).2; omega) (fun e => by have := hvb _ e; omega) b0 b1)
      have HFin : Hid (∀ wr vj Mj, KPI W3 wr base { M with last := mk } (.slice a l.length cap) l.length mk 4 vj Mj → KeptOut w wr base M (.slice a l.length cap) Mj) := hidC' (fun wr vj Mj K => by
        obtain ⟨tag, h4, -⟩ := K.wat
        refine ⟨⟨tag, h4⟩, hKa.trans K.keeps (fun b h => .inl h), fun b hb => ?_, K.wb, K.sv, K.chs, by rw [K.last, hm1], K.len, K.mks⟩
        rcases K.fresh b (.inl hb) with h | h | h
        · exact .inl h
        · exact .inr (.inl h)
        · exact .inr (.inr (by omega)))
      clear hI3 hP3 HP hI2 hPB HP0 HPB hKa hk hqa hba b0 b1 hK2 hP2
      go_wp2
      go_loopw [1, 7] (fun vv i wr => ∃ (j : Nat) (Mj : MW), i = .int .i64 j ∧ j ≤ 4 ∧ Hid (KPI W3 wr base { M with last := mk } (.slice a l.length cap) l.length mk j vv Mj)) (fun _ i _ => 4 - (intOf i).toNat)
      case atStart => exact ⟨0, _, rfl, by omega, HI0⟩
      case round =>
        obtain ⟨j, Mj, rfl, hj, HI⟩ := hrel
        obtain ⟨ja, jc, hvj, -⟩ := HI.out.row.at
        rw [List.length_replicate] at hvj
        subst hvj
        by_cases hjl : j < 4
        · have hjl' : (j : Int) < 4 := by omega
          obtain ⟨pa, pc, a5, c5, W5, qa, qc, a6, c6, W6, a7, c7, W7, Mj', S⟩ := HSt.out _ _ _ _ _ HI.out hjl
          have x1 := S.x1
          have e1 := S.e1
          have y1 := S.y1
          have f1 := S.f1
          have x2 := S.x2
          have e2 := S.e2
          have y2 := S.y2
          have f2 := S.f2
          have z0 := S.z0
          have z1 := S.z1
          have e3 := S.e3
          have hw1 := Nat.ne_of_lt S.hw
          have hw2 := Nat.ne_of_lt S.hw2
          have HN := hidC' S.next
          unfold markB at z0 e3
          dsimp only at x1 e1 y1 f1 x2 e2 y2 f2 z0 z1 e3 hw1 hw2
          rw [size_set'] at e2 e3 hw2
          clear S HI HSt HFin HI0
          generalize hMP : M.prs.length + j = MP at *
          generalize hNJ : l.length + j = NJ at *
          generalize textB mk = TX at *
          go_wp2
          exact ⟨⟨j + 1, Mj', by go_num, by omega, HN⟩, by simp [intOf]; omega⟩
        · have hjge : ¬ (j : Int) < 4 := by omega
          have hj4 : j = 4 := by omega
          subst hj4
          have HO := hidC' (HFin.out _ _ _ HI.out)
          clear HI HSt HFin HI0
          go_wp2
          go_end0
          exact ⟨rfl, _, HO.out⟩

end Go.Proofs.YthfimgeopciiiaaGreat
