/-
  The document's own store: Told.
-/
import Derived.Test.YthfimgeopciiiaaGreatPlayN
import Derived.Test.YthfimgeopciiiaaGreatTold
namespace Go.Proofs.YthfimgeopciiiaaGreat
open Go.MapKept Go.ChangeMaps Go.Maps Go.RowKit Go.MuLone
set_option linter.unusedVariables false

section
variable {w w' : World} {base : Nat} {tag : Nat → Nat} {m : MRef}

def cA (l : List MRTx) (n : Nat) : Nat := ((l.drop n).filter fun x => decide (x.r.st = 0)).length
def cK (l : List MRTx) (n : Nat) : Nat := ((l.drop n).filter fun x => decide (x.r.st = 1)).length
def cR (l : List MRTx) (n : Nat) : Nat := sumN (fun x : MRTx => x.r.rd.length) ((l.drop n).filter fun x => x.r.live)

theorem c_step {l : List MRTx} {n : Nat} {x : MRTx} (h : l[n]? = some x) : cA l n = (if x.r.st = 0 then 1 else 0) + cA l (n + 1) ∧ cK l n = (if x.r.st = 1 then 1 else 0) + cK l (n + 1) ∧ cR l n = (if x.r.st = 0 ∨ x.r.st = 1 then x.r.rd.length else 0) + cR l (n + 1) := by
  obtain ⟨hn, e⟩ := List.getElem?_eq_some_iff.1 h
  unfold cA cK cR
  rw [List.drop_eq_getElem_cons hn, e]
  refine ⟨?_, ?_, ?_⟩
  · by_cases h0 : x.r.st = 0 <;> simp [h0]; omega
  · by_cases h0 : x.r.st = 1 <;> simp [h0]; omega
  · by_cases h0 : x.r.st = 0 ∨ x.r.st = 1
    · have hl : x.r.live = true := by simpa [RTx.live] using h0
      simp only [List.filter_cons, hl, if_true, sumN_cons, if_pos h0]
    · have hl : x.r.live = false := by simpa [RTx.live] using h0
      simp only [List.filter_cons, hl, if_neg h0]
      simp

theorem c_all (m : MRef) : m.rs.nAct = cA m.txs 0 ∧ m.rs.nKept = cK m.txs 0 ∧ m.rs.nReads = cR m.txs 0 := by
  refine ⟨?_, ?_, ?_⟩
  · unfold RSt.nAct MRef.rs cA; simp only; rw [List.filter_map, List.length_map, List.drop_zero]; rfl
  · unfold RSt.nKept MRef.rs cK; simp only; rw [List.filter_map, List.length_map, List.drop_zero]; rfl
  · unfold RSt.nReads MRef.rs cR; simp only; rw [List.filter_map, sumN_map, List.drop_zero]; rfl

theorem c_len (l : List MRTx) (n : Nat) : cA l n ≤ l.length ∧ cK l n ≤ l.length := by
  unfold cA cK
  have h1 := List.length_filter_le (fun x : MRTx => decide (x.r.st = 0)) (l.drop n)
  have h2 := List.length_filter_le (fun x : MRTx => decide (x.r.st = 1)) (l.drop n)
  rw [List.length_drop] at h1 h2
  omega

theorem c_end (l : List MRTx) : cA l l.length = 0 ∧ cK l l.length = 0 ∧ cR l l.length = 0 := by
  unfold cA cK cR; simp [sumN]

/-- what has been counted -/
structure ToldI (w W0 wr : World) (nb : Nat) (m : MRef) (n : Nat) (V : Int) (A K RD : Nat) : Prop where
  keeps : Keeps (fun b => b = nb) W0 wr
  blk : wr.heap[nb]? = some (.cells #[.int .i64 m.clock, .int .i64 A, .int .i64 K, .int .i64 RD, .int .i64 V] 50)
  ca : A + cA m.txs n = m.rs.nAct
  ck : K + cK m.txs n = m.rs.nKept
  cr : RD + cR m.txs n = m.rs.nReads

theorem ToldI.step0 {w W0 wr : World} {nb : Nat} {n : Nat} {V : Int} {A K RD : Nat} (T : ToldI w W0 wr nb m n V A K RD) {x : MRTx} (hx : m.txs[n]? = some x) (s0 : x.r.st = 0) (ob : Obj) :
    ToldI w W0 (((wr.setCell ⟨nb, 1, none⟩ (.int .i64 ((A : Int) + 1))).setCell ⟨nb, 3, none⟩ (.int .i64 ((RD : Int) + x.r.rd.length))).alloc ob) nb m (n + 1) V (A + 1) K (RD + x.r.rd.length) := by
  obtain ⟨e1, e2, e3⟩ := c_step hx
  rw [if_pos s0] at e1
  rw [if_neg (by omega)] at e2
  rw [if_pos (.inl s0)] at e3
  have h1 := T.ca
  have h2 := T.ck
  have h3 := T.cr
  have hlt := lt_of_heap T.blk
  refine ⟨((T.keeps.trans (Keeps.setCell (S := fun b => b = nb) _ _ _ rfl) (fun _ h => .inl h)).trans (Keeps.setCell (S := fun b => b = nb) _ _ _ rfl) (fun _ h => .inl h)).trans (Keeps.alloc (S := fun b => b = nb) _ _) (fun _ h => .inl h), ?_, by omega, by omega, by omega⟩
  refine (heap_alloc_old _ _ (by simpa using hlt)).trans ?_
  have b2 := heap_setCell_same (i := 3) (v := .int .i64 ((RD : Int) + x.r.rd.length)) (heap_setCell_same (i := 1) (v := .int .i64 ((A : Int) + 1)) T.blk)
  rw [b2]
  simp

theorem ToldI.step1 {w W0 wr : World} {nb : Nat} {n : Nat} {V : Int} {A K RD : Nat} (T : ToldI w W0 wr nb m n V A K RD) {x : MRTx} (hx : m.txs[n]? = some x) (s0 : x.r.st = 1) (ob : Obj) :
    ToldI w W0 (((wr.setCell ⟨nb, 2, none⟩ (.int .i64 ((K : Int) + 1))).setCell ⟨nb, 3, none⟩ (.int .i64 ((RD : Int) + x.r.rd.length))).alloc ob) nb m (n + 1) V A (K + 1) (RD + x.r.rd.length) := by
  obtain ⟨e1, e2, e3⟩ := c_step hx
  rw [if_neg (by omega)] at e1
  rw [if_pos s0] at e2
  rw [if_pos (.inr s0)] at e3
  have h1 := T.ca
  have h2 := T.ck
  have h3 := T.cr
  have hlt := lt_of_heap T.blk
  refine ⟨((T.keeps.trans (Keeps.setCell (S := fun b => b = nb) _ _ _ rfl) (fun _ h => .inl h)).trans (Keeps.setCell (S := fun b => b = nb) _ _ _ rfl) (fun _ h => .inl h)).trans (Keeps.alloc (S := fun b => b = nb) _ _) (fun _ h => .inl h), ?_, by omega, by omega, by omega⟩
  refine (heap_alloc_old _ _ (by simpa using hlt)).trans ?_
  have b2 := heap_setCell_same (i := 3) (v := .int .i64 ((RD : Int) + x.r.rd.length)) (heap_setCell_same (i := 2) (v := .int .i64 ((K : Int) + 1)) T.blk)
  rw [b2]
  simp

theorem ToldI.step2 {w W0 wr : World} {nb : Nat} {n : Nat} {V : Int} {A K RD : Nat} (T : ToldI w W0 wr nb m n V A K RD) {x : MRTx} (hx : m.txs[n]? = some x) (s0 : x.r.st ≠ 0) (s1 : x.r.st ≠ 1) (ob : Obj) :
    ToldI w W0 (wr.alloc ob) nb m (n + 1) V A K RD := by
  obtain ⟨e1, e2, e3⟩ := c_step hx
  rw [if_neg s0] at e1
  rw [if_neg s1] at e2
  rw [if_neg (fun h => h.elim s0 s1)] at e3
  have h1 := T.ca
  have h2 := T.ck
  have h3 := T.cr
  exact ⟨T.keeps.trans (Keeps.alloc (S := fun b => b = nb) _ _) (fun _ h => .inl h), (heap_alloc_old _ _ (lt_of_heap T.blk)).trans T.blk, by omega, by omega, by omega⟩

set_option maxRecDepth 100000 in
set_option maxHeartbeats 4000000 in
theorem rtold_h (H : RefAt w base tag m) (hlen : m.txs.length ≤ 1099511627776) (hv : m.vers.length ≤ 1099511627776) (hrd : m.rs.nReads ≤ 1099511627776) :
    Calls Tryz.prog 113 #[.pointer (some ⟨m.sb, 0, none⟩)] w fun e w' => e = .returned (.agg #[.int .i64 m.clock, .int .i64 m.rs.nAct, .int .i64 m.rs.nKept, .int .i64 m.rs.nReads, .int .i64 m.vers.length]) ∧ Quiet w w' := by
  obtain ⟨-, -, -, -, c4, c5, c6⟩ := H.cell
  have hsb := lt_of_heap H.own
  obtain ⟨a, cap, ev, hrow⟩ := H.txsAt
  obtain ⟨va, vcap, evv, -⟩ := H.versAt
  have HW : Hid (∀ (i : Nat) (x : MRTx), m.txs[i]? = some x → (∃ wa wc, x.wv = .slice wa x.r.wr.length wc) ∧ ∃ ra rc, x.rv = .slice ra x.r.rd.length rc) := fun i x hx => by
    obtain ⟨wa, wc, ew, -⟩ := row_at chgCells chgCells_len (H.wr i x hx)
    obtain ⟨ra, rc, er, -⟩ := row_at spanCells spanCells_len (H.rd i x hx)
    exact ⟨⟨wa, wc, ew⟩, ra, rc, er⟩
  rw [ev] at c5
  rw [evv] at c6
  go_enter Tryz.func113, Tryz.ntmps113
  go_wp2
  go_region
  generalize hW0 : ((w.alloc (.cells #[.int .i64 0, .int .i64 0, .int .i64 0, .int .i64 0, .int .i64 0] 50)).alloc (.cells #[.int .i64 m.clock, .int .i64 0, .int .i64 0, .int .i64 0, .int .i64 m.vers.length] 50)).drew = W0 at *
  have hq0 : Quiet w W0 := by rw [← hW0]; exact Quiet.trans' (Quiet.trans' (Keeps.alloc _ _) (Keeps.alloc _ _)) (Keeps.drew _)
  have HT0 : Hid (ToldI w W0 W0 (w.heap.size + 1) m 0 m.vers.length 0 0 0) := by
    obtain ⟨e1, e2, e3⟩ := c_all m
    refine ⟨Keeps.refl _ _, ?_, by omega, by omega, by omega⟩
    rw [← hW0]
    have e : w.heap.size + 1 = (w.alloc (.cells #[.int .i64 0, .int .i64 0, .int .i64 0, .int .i64 0, .int .i64 0] 50)).heap.size := by simp
    rw [e]
    exact heap_alloc_new _ _
  have hz0 : W0.heap[w.heap.size]? = some (.cells #[.int .i64 0, .int .i64 0, .int .i64 0, .int .i64 0, .int .i64 0] 50) := by
    rw [← hW0]
    exact (heap_alloc_old _ _ (by simp)).trans (heap_alloc_new w _)
  have hnb : w.heap.size + 1 < W0.heap.size := lt_of_heap HT0.out.blk
  have HC : Hid (∀ wr, Keeps (fun b => b = w.heap.size + 1) W0 wr → wr.cell? ⟨m.sb, 5, none⟩ = some (.slice a m.txs.length cap) ∧ w.heap.size + 1 < wr.heap.size ∧ m.sb < wr.heap.size ∧ wr.heap[w.heap.size]? = some (.cells #[.int .i64 0, .int .i64 0, .int .i64 0, .int .i64 0, .int .i64 0] 50) ∧ ∀ (i : Nat) (x : MRTx), m.txs[i]? = some x → ∃ g, a = some ⟨g, 0, none⟩ ∧ g < wr.heap.size ∧ ∀ j, j < 7 → wr.cell? ⟨g, i * 7 + j, none⟩ = x.cells[j]?) := fun wr K => by
    have h0 := hq0.size
    have h1 := K.size
    refine ⟨?_, by omega, by omega, (K.block _ (by omega) (by omega)).trans hz0, fun i x hx => ?_⟩
    · rw [K.cell (by omega) (by show ¬ m.sb = _; omega), hq0.cell hsb (by simp)]; exact c5
    · rcases hrow with h | ⟨g, rfl, -, -, hgl, -, hcell⟩
      · rw [h] at hx; simp at hx
      · refine ⟨g, rfl, by omega, fun j hj => ?_⟩
        rw [K.cell (by omega) (by show ¬ g = _; omega), hq0.cell hgl (by simp)]; exact hcell i x hx j hj
  clear hrow c4 c5 c6 H ev evv hW0 hz0
  go_wp2
  go_loopw [4] (fun i wr => ∃ (n A K RD : Nat), i = .int .i64 n ∧ n ≤ m.txs.length ∧ Hid (ToldI w W0 wr (w.heap.size + 1) m n m.vers.length A K RD)) (fun i _ => m.txs.length - (intOf i).toNat)
  case atStart => exact ⟨0, 0, 0, 0, rfl, Nat.zero_le _, HT0⟩
  case round =>
    obtain ⟨n, A, K, RD, rfl, hn, HT⟩ := hrel
    obtain ⟨c5, hnw, hsw, hzw, hrw⟩ := HC.out wr HT.out.keeps
    have hA : A ≤ 1099511627776 ∧ K ≤ 1099511627776 := by
      have h1 := HT.out.ca
      have h2 := HT.out.ck
      obtain ⟨e1, e2, -⟩ := c_all m
      have := c_len m.txs 0
      omega
    have hR : RD ≤ 1099511627776 := by have := HT.out.cr; omega
    have z1 : wr.cell? ⟨w.heap.size + 1, 1, none⟩ = some (.int .i64 A) := by rw [cell_of_heap HT.out.blk]; rfl
    have z2 : wr.cell? ⟨w.heap.size + 1, 2, none⟩ = some (.int .i64 K) := by rw [cell_of_heap HT.out.blk]; rfl
    have z3 : wr.cell? ⟨w.heap.size + 1, 3, none⟩ = some (.int .i64 RD) := by rw [cell_of_heap HT.out.blk]; rfl
    by_cases hlt : n < m.txs.length
    · have hlt' : (n : Int) < (m.txs.length : Int) := by omega
      obtain ⟨x, hx⟩ : ∃ x, m.txs[n]? = some x := ⟨_, List.getElem?_eq_getElem hlt⟩
      obtain ⟨g, rfl, hgw, hcell⟩ := hrw n x hx
      obtain ⟨⟨wa, wc, ew⟩, ra, rc, er⟩ := HW.out n x hx
      have p0 : wr.cell? ⟨g, n * 7, none⟩ = some (.int .i64 x.r.bg) := hcell 0 (by omega)
      have p1 : wr.cell? ⟨g, n * 7 + 1, none⟩ = some (.int .i64 x.r.cm) := hcell 1 (by omega)
      have p2 : wr.cell? ⟨g, n * 7 + 2, none⟩ = some (.int .i64 x.r.st) := hcell 2 (by omega)
      have p3 : wr.cell? ⟨g, n * 7 + 3, none⟩ = some (.int .i64 x.r.i) := hcell 3 (by omega)
      have p4 : wr.cell? ⟨g, n * 7 + 4, none⟩ = some (.int .i64 x.r.o) := hcell 4 (by omega)
      have p5 : wr.cell? ⟨g, n * 7 + 5, none⟩ = some x.wv := hcell 5 (by omega)
      have p6 : wr.cell? ⟨g, n * 7 + 6, none⟩ = some x.rv := hcell 6 (by omega)
      rw [ew] at p5
      rw [er] at p6
      have HX := hidC' hx
      have HS := hidC' (c_step hx)
      have hfz : ∀ i, wr.frozen? ⟨w.heap.size + 1, i, none⟩ = false := fun i => frozen_of_heap HT.out.blk
      have f1 := hfz 1
      have f2 := hfz 2
      have f3 := hfz 3
      clear hcell hrw HC HW hx hfz
      by_cases s0 : x.r.st = 0
      · have p2' := p2
        rw [s0] at p2'
        clear p2
        have hr1 : RD + x.r.rd.length ≤ 1099511627776 := by have := HT.out.cr; have := HS.out.2.2; rw [if_pos (.inl s0)] at this; omega
        have HT1 : Hid (∀ ob, ToldI w W0 (((wr.setCell ⟨w.heap.size + 1, 1, none⟩ (.int .i64 ((A : Int) + 1))).setCell ⟨w.heap.size + 1, 3, none⟩ (.int .i64 ((RD : Int) + x.r.rd.length))).alloc ob) (w.heap.size + 1) m (n + 1) m.vers.length (A + 1) K (RD + x.r.rd.length)) := fun ob => HT.out.step0 HX.out s0 ob
        clear HS s0 HT HX
        go_wp2
        exact ⟨⟨n + 1, A + 1, K, RD + x.r.rd.length, by go_num, by omega, HT1.out _⟩, by simp [intOf]; omega⟩
      have s0' : (x.r.st == 0) = false := by simpa using s0
      by_cases s1 : x.r.st = 1
      · have p2' := p2
        rw [s1] at p2'
        clear p2
        have hr1 : RD + x.r.rd.length ≤ 1099511627776 := by have := HT.out.cr; have := HS.out.2.2; rw [if_pos (.inr s1)] at this; omega
        have HT1 : Hid (∀ ob, ToldI w W0 (((wr.setCell ⟨w.heap.size + 1, 2, none⟩ (.int .i64 ((K : Int) + 1))).setCell ⟨w.heap.size + 1, 3, none⟩ (.int .i64 ((RD : Int) + x.r.rd.length))).alloc ob) (w.heap.size + 1) m (n + 1) m.vers.length A (K + 1) (RD + x.r.rd.length)) := fun ob => HT.out.step1 HX.out s1 ob
        clear HS s0 s0' s1 HT HX
        go_wp2
        exact ⟨⟨n + 1, A, K + 1, RD + x.r.rd.length, by go_num, by omega, HT1.out _⟩, by simp [intOf]; omega⟩
      have s1' : (x.r.st == 1) = false := by simpa using s1
      have HT1 : Hid (∀ ob, ToldI w W0 (wr.alloc ob) (w.heap.size + 1) m (n + 1) m.vers.length A K RD) := fun ob => HT.out.step2 HX.out s0 s1 ob
      clear HS HT HX
      go_wp2
      exact ⟨⟨n + 1, A, K, RD, by go_num, by omega, HT1.out _⟩, by simp [intOf]; omega⟩
    · have hge : ¬ (n : Int) < (m.txs.length : Int) := by omega
      have z0 : wr.cell? ⟨w.heap.size + 1, 0, none⟩ = some (.int .i64 m.clock) := by rw [cell_of_heap HT.out.blk]; rfl
      have z4 : wr.cell? ⟨w.heap.size + 1, 4, none⟩ = some (.int .i64 m.vers.length) := by rw [cell_of_heap HT.out.blk]; rfl
      have fz : ∀ i, wr.frozen? ⟨w.heap.size, i, none⟩ = false := fun i => frozen_of_heap hzw
      have y0 : wr.cell? ⟨w.heap.size, 0, none⟩ = some (.int .i64 0) := by rw [cell_of_heap hzw]; rfl
      have y1 : wr.cell? ⟨w.heap.size, 1, none⟩ = some (.int .i64 0) := by rw [cell_of_heap hzw]; rfl
      have y2 : wr.cell? ⟨w.heap.size, 2, none⟩ = some (.int .i64 0) := by rw [cell_of_heap hzw]; rfl
      have y3 : wr.cell? ⟨w.heap.size, 3, none⟩ = some (.int .i64 0) := by rw [cell_of_heap hzw]; rfl
      have y4 : wr.cell? ⟨w.heap.size, 4, none⟩ = some (.int .i64 0) := by rw [cell_of_heap hzw]; rfl
      have g0 := fz 0
      have g1 := fz 1
      have g2 := fz 2
      have g3 := fz 3
      have g4 := fz 4
      have HE : Hid (m.rs.nAct = A ∧ m.rs.nKept = K ∧ m.rs.nReads = RD) := by
        have hnn : n = m.txs.length := by omega
        have h1 := HT.out.ca
        have h2 := HT.out.ck
        have h3 := HT.out.cr
        obtain ⟨e1, e2, e3⟩ := c_end m.txs
        rw [hnn] at h1 h2 h3
        exact ⟨by omega, by omega, by omega⟩
      have HQ : Hid (Quiet w wr) := Quiet.of_new hq0 HT.out.keeps (fun x h => by omega)
      have HZ := hidC' (set5 hzw (.int .i64 m.clock) (.int .i64 A) (.int .i64 K) (.int .i64 RD) (.int .i64 m.vers.length))
      clear hrw HC HW fz HT HT0 hzw
      go_wp2
      obtain ⟨eA, eK, eR⟩ := HE.out
      rw [eA, eK, eR]
      have es := HZ.out
      have hqs := quiet_set5 (b := w.heap.size) HQ.out (Nat.le_refl _) (.int .i64 m.clock) (.int .i64 A) (.int .i64 K) (.int .i64 RD) (.int .i64 m.vers.length)
      clear y0 y1 y2 y3 y4 z0 z1 z2 z3 z4 g0 g1 g2 g3 g4 HZ HQ HE c5
      generalize ((((wr.setCell ⟨w.heap.size, 0, none⟩ (.int .i64 m.clock)).setCell ⟨w.heap.size, 1, none⟩ (.int .i64 A)).setCell ⟨w.heap.size, 2, none⟩ (.int .i64 K)).setCell ⟨w.heap.size, 3, none⟩ (.int .i64 RD)).setCell ⟨w.heap.size, 4, none⟩ (.int .i64 m.vers.length) = WZ at *
      have e0 : WZ.cell? ⟨w.heap.size, 0, none⟩ = some (.int .i64 m.clock) := by rw [cell_of_heap es]; rfl
      have e1 : WZ.cell? ⟨w.heap.size, 1, none⟩ = some (.int .i64 A) := by rw [cell_of_heap es]; rfl
      have e2 : WZ.cell? ⟨w.heap.size, 2, none⟩ = some (.int .i64 K) := by rw [cell_of_heap es]; rfl
      have e3 : WZ.cell? ⟨w.heap.size, 3, none⟩ = some (.int .i64 RD) := by rw [cell_of_heap es]; rfl
      have e4 : WZ.cell? ⟨w.heap.size, 4, none⟩ = some (.int .i64 m.vers.length) := by rw [cell_of_heap es]; rfl
      exact bodyPost_ret (v := .agg #[.int .i64 m.clock, .int .i64 A, .int .i64 K, .int .i64 RD, .int .i64 m.vers.length]) (by simp [results, Tryz.results113, go_sem, e0, e1, e2, e3, e4]) rfl ⟨rfl, hqs⟩

end
end Go.Proofs.YthfimgeopciiiaaGreat

/-
  The document's own store: Sees.
-/
namespace Go.Proofs.YthfimgeopciiiaaGreat
open Go.MapKept Go.ChangeMaps Go.Maps Go.RowKit Go.MuLone
set_option linter.unusedVariables false

section
variable {w w' : World} {base : Nat} {tag : Nat → Nat} {m : MRef}

set_option maxRecDepth 100000 in
set_option maxHeartbeats 3000000 in
theorem rsees_h (H : RefAt w base tag m) (hv : m.vers.length ≤ 1099511627776) (b : Int) (key : ByteArray) :
    Calls Tryz.prog 117 #[.pointer (some ⟨m.sb, 0, none⟩), .int .i64 b, .string key] w fun e w' => e = .returned (.tuple #[.string (m.rs.sees b key).1, .bool (m.rs.sees b key).2]) ∧ Quiet w w' := by
  obtain ⟨-, -, -, -, -, -, c6⟩ := H.cell
  have hsb := lt_of_heap H.own
  obtain ⟨a, cap, evv, hrow⟩ := H.versAt
  rw [evv] at c6
  have HC : Hid (∀ wr, Quiet w wr → wr.cell? ⟨m.sb, 6, none⟩ = some (.slice a m.vers.length cap) ∧ ∀ (i : Nat) (x : ByteArray × Ver), m.vers[i]? = some x → ∃ g, a = some ⟨g, 0, none⟩ ∧ ∀ j, j < 4 → wr.cell? ⟨g, i * 4 + j, none⟩ = (rverCells x)[j]?) := fun wr K => by
    refine ⟨?_, fun i x hx => ?_⟩
    · rw [K.cell hsb (by simp)]; exact c6
    · rcases hrow with h | ⟨g, rfl, -, -, hgl, -, hcell⟩
      · rw [h] at hx; simp at hx
      · refine ⟨g, rfl, fun j hj => ?_⟩
        rw [K.cell hgl (by simp)]; exact hcell i x hx j hj
  generalize hr : m.rs.sees b key = r
  have HR : Hid (m.rs.sees b key = r) := hr
  clear hr hrow c6 H evv
  go_enter Tryz.func117, Tryz.ntmps117
  go_wp2
  go_loopw [8, 9, 10, 11] (fun bs vl fd i wr => ∃ (n : Nat) (B : Int) (V : ByteArray) (F : Bool), bs = .int .i64 B ∧ vl = .string V ∧ fd = .bool F ∧ i = .int .i64 n ∧ n ≤ m.vers.length ∧ Quiet w wr ∧ Hid ((m.vers.take n).foldl (seesF key b) (0, ⟨#[]⟩, false) = (B, V, F))) (fun _ _ _ i _ => m.vers.length - (intOf i).toNat)
  case atStart => exact ⟨0, 0, ⟨#[]⟩, false, rfl, rfl, rfl, rfl, Nat.zero_le _, Keeps.refl _ _, rfl⟩
  case round =>
    obtain ⟨n, B, V, F, rfl, rfl, rfl, rfl, hn, hq, HF⟩ := hrel
    obtain ⟨c6, hrw⟩ := HC.out wr hq
    by_cases hlt : n < m.vers.length
    · have hlt' : (n : Int) < (m.vers.length : Int) := by omega
      obtain ⟨x, hx⟩ : ∃ x, m.vers[n]? = some x := ⟨_, List.getElem?_eq_getElem hlt⟩
      obtain ⟨g, rfl, hcell⟩ := hrw n x hx
      have p0 : wr.cell? ⟨g, n * 4, none⟩ = some (.int .i64 x.2.1) := hcell 0 (by omega)
      have p1 : wr.cell? ⟨g, n * 4 + 1, none⟩ = some (.string x.1) := hcell 1 (by omega)
      have p2 : wr.cell? ⟨g, n * 4 + 2, none⟩ = some (.string x.2.2.1) := hcell 2 (by omega)
      have p3 : wr.cell? ⟨g, n * 4 + 3, none⟩ = some (.bool x.2.2.2) := hcell 3 (by omega)
      have HS : Hid ((m.vers.take (n + 1)).foldl (seesF key b) (0, ⟨#[]⟩, false) = seesF key b (B, V, F) x) := by
        show _ = _
        rw [take_succ_of hx, List.foldl_append, HF.out]; rfl
      have hqa : Hid (∀ ob, Quiet w (wr.alloc ob)) := fun ob => Quiet.trans' hq (Keeps.alloc _ _)
      clear hcell hrw HC hx HF HR
      by_cases hc : x.1 = key ∧ x.2.1 ≤ b ∧ B < x.2.1
      · have HN : Hid ((m.vers.take (n + 1)).foldl (seesF key b) (0, ⟨#[]⟩, false) = (x.2.1, x.2.2.1, !x.2.2.2)) := HS.out.trans (by unfold seesF; rw [if_pos hc])
        obtain ⟨k1, k2, k3⟩ := hc
        have k1' := str_eq k1
        clear HS k1
        go_wp2
        exact ⟨⟨n + 1, _, _, _, rfl, rfl, rfl, by go_num, by omega, hqa.out _, HN⟩, by simp [intOf]; omega⟩
      · have HN : Hid ((m.vers.take (n + 1)).foldl (seesF key b) (0, ⟨#[]⟩, false) = (B, V, F)) := HS.out.trans (by unfold seesF; rw [if_neg hc])
        clear HS
        by_cases k1 : x.1 = key
        · have k1' := str_eq k1
          by_cases k2 : x.2.1 ≤ b
          · have k3 : ¬ B < x.2.1 := fun h => hc ⟨k1, k2, h⟩
            clear hc k1
            go_wp2
            exact ⟨⟨n + 1, _, _, _, rfl, rfl, rfl, by go_num, by omega, hqa.out _, HN⟩, by simp [intOf]; omega⟩
          · clear hc k1
            go_wp2
            exact ⟨⟨n + 1, _, _, _, rfl, rfl, rfl, by go_num, by omega, hqa.out _, HN⟩, by simp [intOf]; omega⟩
        · have k1' := str_ne k1
          clear hc k1
          go_wp2
          exact ⟨⟨n + 1, _, _, _, rfl, rfl, rfl, by go_num, by omega, hqa.out _, HN⟩, by simp [intOf]; omega⟩
    · have hge : ¬ (n : Int) < (m.vers.length : Int) := by omega
      have HE : Hid (r = if F = true then (V, true) else (⟨#[]⟩, false)) := by
        have h1 := HF.out
        rw [List.take_of_length_le (by omega)] at h1
        have h2 := HR.out
        unfold RSt.sees at h2
        rw [← h2]
        show (if (m.vers.foldl (seesF key b) (0, ⟨#[]⟩, false)).2.2 = true then _ else _) = _
        show (if (m.vers.foldl (seesF key b) (0, ⟨#[]⟩, false)).2.2 = true then ((m.vers.foldl (seesF key b) (0, ⟨#[]⟩, false)).2.1, true) else _) = _
        rw [h1]
      clear hrw HC HF HR
      cases F with
      | true =>
        have he : r = (V, true) := HE.out
        subst he
        clear HE
        go_wp2
        go_ret2
        exact ⟨rfl, hq⟩
      | false =>
        have he : r = (⟨#[]⟩, false) := HE.out
        subst he
        clear HE
        go_wp2
        go_ret2
        exact ⟨rfl, hq⟩

end
end Go.Proofs.YthfimgeopciiiaaGreat

/-
  The document's own store: what a call leaves; rows that grow; parts that turn.
-/
namespace Go.Proofs.YthfimgeopciiiaaGreat
open Go.MapKept Go.ChangeMaps Go.Maps Go.RowKit Go.MuLone
set_option linter.unusedVariables false

/-! ### a row grows by one -/

structure GrowR {α : Type} (c : α → List Value) (e t : TypeId) (k base : Nat) (w : World) (v : Value) (l : List α) (x : α) (a5 : Option Addr) (c5 : Nat) (W5 : World) : Prop where
  app : (Builtin.append_ #[t, t] t #[v, .slice (some ⟨w.heap.size, 0, none⟩) 1 1]).run Tryz.prog (w.alloc (.cells (c x).toArray e)).drew = .ok (.slice a5 (l.length + 1) c5) W5
  row : W5.ownsRow base e k (.slice a5 (l.length + 1) c5) (l ++ [x]).length ((l ++ [x]).flatMap c)
  gr : ((w.alloc (.cells (c x).toArray e)).drew).grownBy W5 v.ownBlock
  loc : ∀ b, (Value.slice a5 (l.length + 1) c5).ownBlock = some b → v.ownBlock = some b ∨ w.heap.size < b

theorem grow_row {α : Type} (c : α → List Value) {e t : TypeId} {k bytes base : Nat} (hc : ∀ x, (c x).length = k) (hk : 0 < k) {i0 : TypeInfo} {z : Value} (hu : Tryz.prog.underlying t = some (.slice e)) (hi0 : Tryz.prog.info? e = some i0) (hz0 : i0.zero = some z) (hz1 : i0.size = k) (hz2 : i0.bytes = bytes) (hzs : z.cells.size = k)
    {w : World} {v : Value} {l : List α} (h : w.ownsRow base e k v l.length (l.flatMap c)) (x : α) (hone : ∀ u ∈ c x, u.oneCell' = true) (hb : base ≤ w.heap.size) (hl : l.length ≤ 1099511627776) (hby : bytes ≤ 100) : ∃ a5 c5 W5, GrowR c e t k base w v l x a5 c5 W5 := by
  have hq2 : Quiet w ((w.alloc (.cells (c x).toArray e)).drew) := Quiet.trans' (Keeps.alloc _ _) (Keeps.drew _)
  have hnew : (w.alloc (.cells (c x).toArray e)).drew.heap[w.heap.size]? = some (.cells (c x).toArray e) := heap_alloc_new w _
  have hsz : ((w.alloc (.cells (c x).toArray e)).drew).heap.size = w.heap.size + 1 := by simp
  generalize hw2 : (w.alloc (.cells (c x).toArray e)).drew = w2 at *
  have hown : w2.ownsRow base e k v l.length (l.flatMap c) := ownsRow_of_block h (fun b hb' => hq2.block b (h.lt b hb').2 (fun e => e.elim))
  have hnews : ∀ j u, (c x)[j]? = some u → w2.cell? ((⟨w.heap.size, 0, none⟩ : Addr).add j) = some u := fun j u hj => by
    rw [show (⟨w.heap.size, 0, none⟩ : Addr).add j = ⟨w.heap.size, j, none⟩ by cases j <;> simp [Addr.add], cell_of_heap hnew]
    simpa using hj
  have hbytes : (l.length + 1) * bytes ≤ 140737488355328 := Nat.le_trans (Nat.mul_le_mul (show l.length + 1 ≤ 1099511627777 by omega) hby) (by omega)
  obtain ⟨v', w5, happ, hown', hgrow, hnil, hat⟩ := run_append_own_at (P := Tryz.prog) w2 base t t e i0 z k bytes hu hi0 hz0 hz1 hz2 hzs hk v _ _ hown
    ⟨w.heap.size, 0, none⟩ 1 1 (c x) (by rw [hc]; omega) hnews hone (by unfold maxLen; omega) hbytes (by omega)
  obtain ⟨a5, c5, hv5⟩ : ∃ a5 c5, v' = .slice a5 (l.length + 1) c5 := by
    rcases hown'.2 with ⟨_, h0⟩ | ⟨g, cap, cur, e, _⟩
    · omega
    · exact ⟨_, cap, e⟩
  subst hv5
  refine ⟨a5, c5, w5, ⟨by rw [hw2]; exact happ, ?_, by rw [hw2]; exact hgrow, fun b hb' => ?_⟩⟩
  · rw [List.length_append, List.flatMap_append, List.flatMap_cons, List.flatMap_nil, List.append_nil]
    exact hown'
  · rcases hat with h' | h'
    · exact .inl (by rw [← h']; exact hb')
    · rw [h'] at hb'; exact .inr (by have := Option.some.inj hb'; omega)

theorem info_rtxn : (Tryz.prog.info? 197).map (fun i => (i.zero, i.size, i.bytes)) = some (some (.agg #[.int .i64 0, .int .i64 0, .int .i64 0, .int .i64 0, .int .i64 0, .slice none 0 0, .slice none 0 0]), 7, 88) := by kernel_rfl
theorem info_span : (Tryz.prog.info? 201).map (fun i => (i.zero, i.size, i.bytes)) = some (some (.agg #[.string ⟨#[]⟩, .string ⟨#[]⟩, .bool false]), 3, 40) := by kernel_rfl
theorem info_rver : (Tryz.prog.info? 209).map (fun i => (i.zero, i.size, i.bytes)) = some (some (.agg #[.int .i64 0, .string ⟨#[]⟩, .string ⟨#[]⟩, .bool false]), 4, 48) := by kernel_rfl

/-! ### what a call leaves -/

def RefIn (w : World) (base : Nat) (m : MRef) : Prop := ∃ tag, RefAt w base tag m

section
variable {w w' w1 w2 : World} {base : Nat} {tag : Nat → Nat} {m m1 m2 : MRef}

theorem RTurn.refl (w : World) (m : MRef) : RTurn w w m m := ⟨Keeps.refl _ _, fun b h => .inl h, rfl⟩
theorem RTurn.trans (h : RTurn w w1 m m1) (k : RTurn w1 w2 m1 m2) : RTurn w w2 m m2 :=
  ⟨h.keeps.trans k.keeps (fun b hb => h.fresh b hb), fun b hb => by
    rcases k.fresh b hb with h1 | h1
    · exact h.fresh b h1
    · exact .inr (Nat.le_trans h.keeps.size h1), k.sb.trans h.sb⟩
theorem RTurn.quiet (m : MRef) (k : Quiet w w') : RTurn w w' m m := ⟨k.mono (fun _ h => h.elim), fun b h => .inl h, rfl⟩

/-- the store behind a call -/
def RLeft (w w' : World) (base : Nat) (m : MRef) (R : RSt) : Prop := ∃ m', RefIn w' base m' ∧ RTurn w w' m m' ∧ m'.rs = R

theorem RefIn.quiet (h : RefIn w base m) (k : Quiet w w') : RefIn w' base m := h.imp fun _ h => h.quiet k
theorem RefIn.kept {S : Nat → Prop} (h : RefIn w base m) (k : Keeps S w w') (hs : ∀ b, m.has b → ¬ S b) : RefIn w' base m := h.imp fun _ h => h.kept k hs
theorem RefIn.lt (h : RefIn w base m) {b : Nat} (hb : m.has b) : base ≤ b ∧ b < w.heap.size := by obtain ⟨_, h⟩ := h; exact h.lt hb
theorem RefIn.left (h : RefIn w base m) (k : Quiet w w') : RLeft w w' base m m.rs := ⟨m, h.quiet k, RTurn.quiet m k, rfl⟩
theorem RLeft.trans {R R' : RSt} (h : RLeft w w1 base m R) (k : ∀ m1, RefIn w1 base m1 → m1.rs = R → m1.sb = m.sb → RLeft w1 w2 base m1 R') : RLeft w w2 base m R' := by
  obtain ⟨m1, h1, h2, h3⟩ := h
  obtain ⟨m2, k1, k2, k3⟩ := k m1 h1 h3 h2.sb
  exact ⟨m2, k1, h2.trans k2, k3⟩
theorem RLeft.quiet {R : RSt} (h : RLeft w w1 base m R) (k : Quiet w1 w2) : RLeft w w2 base m R := h.trans fun m1 h1 e _ => e ▸ h1.left k
theorem RLeft.before {R : RSt} (k : Quiet w w1) (h : RLeft w1 w2 base m R) : RLeft w w2 base m R := by
  obtain ⟨m1, h1, h2, h3⟩ := h
  exact ⟨m1, h1, (RTurn.quiet m k).trans h2, h3⟩

def RSt.hsOk (R : RSt) : Prop := ∀ (j : Nat) (r : RTx), R.txs[j]? = some r → r.h = (j : Int) + 1

theorem hsOk_iff (h : m.rs.hsOk) : m.hsOk := fun j x hx => h j x.r (by show (m.txs.map (·.r))[j]? = _; rw [List.getElem?_map, hx]; rfl)
theorem RSt.hsOk.map {R : RSt} (h : R.hsOk) (f : RTx → RTx) (hf : ∀ x, (f x).h = x.h) : ({ R with txs := R.txs.map f } : RSt).hsOk := fun j r hr => by
  have hr' : (R.txs.map f)[j]? = some r := hr
  rw [List.getElem?_map] at hr'
  cases hx : R.txs[j]? with
  | none => rw [hx] at hr'; cases hr'
  | some x =>
    rw [hx] at hr'
    obtain rfl := Option.some.inj hr'
    rw [hf]; exact h j x hx

theorem rs_at {i : Nat} {r : RTx} (h : m.rs.txs[i]? = some r) : ∃ x, m.txs[i]? = some x ∧ x.r = r := by
  have h' : (m.txs.map (·.r))[i]? = some r := h
  rw [List.getElem?_map] at h'
  cases hx : m.txs[i]? with
  | none => rw [hx] at h'; cases h'
  | some x => rw [hx] at h'; exact ⟨x, rfl, Option.some.inj h'⟩

theorem rs_len : m.rs.txs.length = m.txs.length := by show (m.txs.map _).length = _; rw [List.length_map]

theorem chAt_of_row {base : Nat} {v : Value} {l : List (ByteArray × Cont)} (h : w.ownsRow base 66 3 v l.length (l.flatMap chgCells)) (hl : l.length ≤ 4611686018427387904) : ChAt w v (l.map chgOf) := by
  obtain ⟨a, cap, e, hc⟩ := row_at chgCells chgCells_len h
  refine ⟨⟨a, cap, by rw [List.length_map]; exact e, ?_⟩, by rw [List.length_map]; exact hl⟩
  rcases hc with h0 | ⟨g, rfl, ho, hb, hg, hf, hcell⟩
  · exact .inl (by rw [h0]; rfl)
  · refine .inr ⟨g, 0, rfl, hg, fun i x hx => ?_⟩
    rw [List.getElem?_map] at hx
    cases hy : l[i]? with
    | none => rw [hy] at hx; cases hx
    | some y =>
      rw [hy] at hx
      obtain rfl := Option.some.inj hx
      have p0 : w.cell? ⟨g, i * 3, none⟩ = some (.string y.1) := hcell i y hy 0 (by omega)
      have p1 : w.cell? ⟨g, i * 3 + 1, none⟩ = some (.string y.2.1) := hcell i y hy 1 (by omega)
      have p2 : w.cell? ⟨g, i * 3 + 2, none⟩ = some (.bool y.2.2) := hcell i y hy 2 (by omega)
      rw [Nat.zero_add]
      exact ⟨p0, p1, p2⟩

/-- one transaction, read -/
structure TxAt (w : World) (m : MRef) (i : Nat) (r : RTx) (g cap : Nat) (wa : Option Addr) (wc : Nat) (ra : Option Addr) (rc : Nat) : Prop where
  at_ : m.txs[i]? = some ⟨r, .slice wa r.wr.length wc, .slice ra r.rd.length rc⟩
  ho : m.tv.ownBlock = some g
  hg : g < w.heap.size
  hi : i < m.txs.length
  tv : m.tv = .slice (some ⟨g, 0, none⟩) m.txs.length cap
  hsb : m.sb < w.heap.size
  c5 : w.cell? ⟨m.sb, 5, none⟩ = some (.slice (some ⟨g, 0, none⟩) m.txs.length cap)
  p0 : w.cell? ⟨g, i * 7, none⟩ = some (.int .i64 r.bg)
  p1 : w.cell? ⟨g, i * 7 + 1, none⟩ = some (.int .i64 r.cm)
  p2 : w.cell? ⟨g, i * 7 + 2, none⟩ = some (.int .i64 r.st)
  p3 : w.cell? ⟨g, i * 7 + 3, none⟩ = some (.int .i64 r.i)
  p4 : w.cell? ⟨g, i * 7 + 4, none⟩ = some (.int .i64 r.o)
  p5 : w.cell? ⟨g, i * 7 + 5, none⟩ = some (.slice wa r.wr.length wc)
  p6 : w.cell? ⟨g, i * 7 + 6, none⟩ = some (.slice ra r.rd.length rc)
  fz : ∀ j, w.frozen? ⟨g, j, none⟩ = false

theorem RefIn.tx (h : RefIn w base m) {i : Nat} {r : RTx} (hr : m.rs.txs[i]? = some r) : ∃ g cap wa wc ra rc, TxAt w m i r g cap wa wc ra rc := by
  obtain ⟨tag, H⟩ := h
  obtain ⟨x, hx, rfl⟩ := rs_at hr
  have hi : i < m.txs.length := (List.getElem?_eq_some_iff.1 hx).1
  obtain ⟨a, cap, ev, hrow⟩ := H.txsAt
  obtain ⟨wa, wc, ew, -⟩ := row_at chgCells chgCells_len (H.wr i x hx)
  obtain ⟨ra, rc, er, -⟩ := row_at spanCells spanCells_len (H.rd i x hx)
  rcases hrow with h0 | ⟨g, rfl, ho, -, hg, hf, hcell⟩
  · rw [h0] at hi; simp at hi
  have c5 := H.cell.2.2.2.2.2.1
  have q5 : w.cell? ⟨g, i * 7 + 5, none⟩ = some x.wv := hcell i x hx 5 (by omega)
  have q6 : w.cell? ⟨g, i * 7 + 6, none⟩ = some x.rv := hcell i x hx 6 (by omega)
  exact ⟨g, cap, wa, wc, ra, rc, ⟨by rw [hx, ← ew, ← er], ho, hg, hi, ev, lt_of_heap H.own, by rw [c5, ev], hcell i x hx 0 (by omega), hcell i x hx 1 (by omega), hcell i x hx 2 (by omega), hcell i x hx 3 (by omega), hcell i x hx 4 (by omega), by rw [q5, ew], by rw [q6, er], hf⟩⟩

section
variable {i j g cap : Nat} {r : RTx} {wa : Option Addr} {wc : Nat} {ra : Option Addr} {rc : Nat}

theorem TxAt.quiet (T : TxAt w m i r g cap wa wc ra rc) (k : Quiet w w') : TxAt w' m i r g cap wa wc ra rc :=
  { T with
    hg := Nat.lt_of_lt_of_le T.hg k.size
    hsb := Nat.lt_of_lt_of_le T.hsb k.size
    c5 := (k.cell T.hsb (by simp)).trans T.c5
    p0 := (k.cell T.hg (by simp)).trans T.p0
    p1 := (k.cell T.hg (by simp)).trans T.p1
    p2 := (k.cell T.hg (by simp)).trans T.p2
    p3 := (k.cell T.hg (by simp)).trans T.p3
    p4 := (k.cell T.hg (by simp)).trans T.p4
    p5 := (k.cell T.hg (by simp)).trans T.p5
    p6 := (k.cell T.hg (by simp)).trans T.p6
    fz := fun j => (k.frozen T.hg (by simp)).trans (T.fz j) }

theorem RefIn.tx' (h : RefIn w base m) {w0 : World} (T : TxAt w0 m i r g cap wa wc ra rc) {j : Nat} {x : RTx} (hx : m.rs.txs[j]? = some x) : ∃ wa wc ra rc, TxAt w m j x g cap wa wc ra rc := by
  obtain ⟨g', cap', wa', wc', ra', rc', T'⟩ := h.tx hx
  have e := T'.tv.symm.trans T.tv
  obtain ⟨e1, -, rfl⟩ : some (⟨g', 0, none⟩ : Addr) = some ⟨g, 0, none⟩ ∧ True ∧ cap' = cap := by simpa using e
  obtain rfl : g' = g := by simpa using e1
  exact ⟨wa', wc', ra', rc', T'⟩

theorem RefIn.wrow (h : RefIn w base m) (T : TxAt w m i r g cap wa wc ra rc) {n : Nat} {p : ByteArray × Cont} (hp : r.wr[n]? = some p) : ∃ gw, wa = some ⟨gw, 0, none⟩ ∧ gw < w.heap.size ∧ w.cell? ⟨gw, n * 3, none⟩ = some (.string p.1) ∧ w.cell? ⟨gw, n * 3 + 1, none⟩ = some (.string p.2.1) ∧ w.cell? ⟨gw, n * 3 + 2, none⟩ = some (.bool p.2.2) := by
  obtain ⟨tag, H⟩ := h
  obtain ⟨a, cap, e, hrow⟩ := row_at chgCells chgCells_len (H.wr i _ T.at_)
  have e2 : wa = a := by have e' : Value.slice wa r.wr.length wc = .slice a r.wr.length cap := e; simpa using (Value.slice.inj e').1
  rcases hrow with h0 | ⟨gw, rfl, -, -, hgl, -, hcell⟩
  · have h0' : r.wr = [] := h0
    rw [h0'] at hp; simp at hp
  · exact ⟨gw, e2, hgl, hcell n p hp 0 (by omega), hcell n p hp 1 (by omega), hcell n p hp 2 (by omega)⟩

theorem RefIn.rrow (h : RefIn w base m) (T : TxAt w m i r g cap wa wc ra rc) {n : Nat} {p : Ent × Unit} (hp : r.rd[n]? = some p) : ∃ gw, ra = some ⟨gw, 0, none⟩ ∧ gw < w.heap.size ∧ w.cell? ⟨gw, n * 3, none⟩ = some (.string p.1.2.1) ∧ w.cell? ⟨gw, n * 3 + 1, none⟩ = some (.string p.1.2.2) ∧ w.cell? ⟨gw, n * 3 + 2, none⟩ = some (.bool (!p.1.1)) := by
  obtain ⟨tag, H⟩ := h
  obtain ⟨a, cap, e, hrow⟩ := row_at spanCells spanCells_len (H.rd i _ T.at_)
  have e2 : ra = a := by have e' : Value.slice ra r.rd.length rc = .slice a r.rd.length cap := e; simpa using (Value.slice.inj e').1
  rcases hrow with h0 | ⟨gw, rfl, -, -, hgl, -, hcell⟩
  · have h0' : r.rd = [] := h0
    rw [h0'] at hp; simp at hp
  · exact ⟨gw, e2, hgl, hcell n p hp 0 (by omega), hcell n p hp 1 (by omega), hcell n p hp 2 (by omega)⟩

theorem RefIn.chAt (h : RefIn w base m) (T : TxAt w m i r g cap wa wc ra rc) (hl : r.wr.length ≤ 4611686018427387904) : ChAt w (.slice wa r.wr.length wc) (r.wr.map chgOf) := by
  obtain ⟨tag, H⟩ := h
  exact chAt_of_row (H.wr i _ T.at_) hl
end

/-- one of its numbers turns -/
theorem RefIn.set (H : RefIn w base m) (hh : m.rs.hsOk) {i j g : Nat} {x : MRTx} {u : Value} (hx : m.txs[i]? = some x) (hg : m.tv.ownBlock = some g) (hj : j < 7) (r' : RTx) (hc : (⟨r', x.wv, x.rv⟩ : MRTx).cells = x.cells.set j u) (hw : r'.wr = x.r.wr) (hr : r'.rd = x.r.rd) (f : RTx → RTx) (hf : f x.r = r') (ho : ∀ y : RTx, y.h ≠ (i : Int) + 1 → f y = y) :
    RLeft w (w.setCell ⟨g, i * 7 + j, none⟩ u) base m { m.rs with txs := m.rs.txs.map f } := by
  obtain ⟨tag, H⟩ := H
  refine ⟨{ m with txs := m.txs.set i ⟨r', x.wv, x.rv⟩ }, ⟨tag, H.setTx (x' := ⟨r', x.wv, x.rv⟩) hx hg hj hc (by show w.ownsRow base _ 3 x.wv r'.wr.length (r'.wr.flatMap chgCells); rw [hw]; exact H.wr i x hx) (by show w.ownsRow base _ 3 x.rv r'.rd.length (r'.rd.flatMap spanCells); rw [hr]; exact H.rd i x hx) (H.gw i x hx) (H.gr i x hx)⟩, ⟨Keeps.setCell _ _ _ (.inr (.inl hg)), fun b hb => .inl (has_setTx (m := m) (x' := ⟨r', x.wv, x.rv⟩) hx rfl rfl hb), rfl⟩, ?_⟩
  unfold MRef.rs
  simp only
  congr 1
  exact map_set_if (fun x : MRTx => x.r) f (fun _ => True) m.txs i x _ hx hf.symm (fun j z hz hne => ho _ (by rw [hsOk_iff hh j z hz]; omega))

/-- who has begun -/
def newTx (n : Nat) (bg : Int) : MRTx := ⟨⟨n + 1, bg, 0, 0, 0, 0, [], []⟩, .slice none 0 0, .slice none 0 0⟩

theorem snoc_at {α : Type} {l : List α} {z y : α} {k : Nat} (hy : (l ++ [z])[k]? = some y) : (k = l.length ∧ y = z) ∨ l[k]? = some y := by
  rw [List.getElem?_append] at hy
  split at hy
  · exact .inr hy
  · rename_i hk
    have hz : k - l.length = 0 := by have := (List.getElem?_eq_some_iff.1 hy).1; simp at this; omega
    rw [hz] at hy
    exact .inl ⟨by omega, (Option.some.inj hy).symm⟩

theorem RefAt.push (h : RefAt w base tag m) {w5 : World} {v : Value} (hgr : w.grownBy w5 m.tv.ownBlock)
    (hv : w5.ownsRow base 197 7 v (m.txs ++ [newTx m.txs.length m.clock]).length ((m.txs ++ [newTx m.txs.length m.clock]).flatMap MRTx.cells)) (hloc : ∀ b, v.ownBlock = some b → m.tv.ownBlock = some b ∨ w.heap.size ≤ b) :
    RefAt (w5.setCell ⟨m.sb, 5, none⟩ v) base (_root_.Go.Proofs.YthfimgeopciiiaaGreat.tagNew w.heap.size 1 tag) { m with tv := v, txs := m.txs ++ [newTx m.txs.length m.clock] } := by
  have h1 := h.tagNew 1
  generalize ht : _root_.Go.Proofs.YthfimgeopciiiaaGreat.tagNew w.heap.size 1 tag = tag1 at *
  have vb : ∀ b, v.ownBlock = some b → tag1 b = 1 := fun b e => by
    rcases hloc b e with h2 | h2
    · exact h1.gt b h2
    · rw [← ht]; exact tagNew_new h2
  have same : ∀ b, b < w.heap.size → tag1 b ≠ 1 → w5.heap[b]? = w.heap[b]? := fun b hb hn => hgr.block b hb (fun e => hn (h1.gt b e.symm))
  have ob : ∀ b, tag1 b ≠ 0 → (w5.setCell ⟨m.sb, 5, none⟩ v).heap[b]? = w5.heap[b]? := fun b hb => heap_setCell_other _ _ _ (fun e => by rw [e] at hb; exact hb h1.gb)
  have both : ∀ b, b < w.heap.size → tag1 b ≠ 0 → tag1 b ≠ 1 → (w5.setCell ⟨m.sb, 5, none⟩ v).heap[b]? = w.heap[b]? := fun b hb e1 e2 => (ob b e1).trans (same b hb e2)
  have own5 := (same _ (lt_of_heap h.own) (by rw [h1.gb]; omega)).trans h.own
  refine { h1 with own := ?_, tx := ?_, vr := ?_, wr := ?_, rd := ?_, gt := vb, gw := ?_, gr := ?_ }
  · exact (heap_setCell_same own5).trans rfl
  · exact ownsRow_of_block hv (fun b e => ob b (by rw [vb b e]; omega))
  · exact ownsRow_of_block h.vr (fun b e => both b (h.vr.lt b e).2 (by rw [h1.gv b e]; omega) (by rw [h1.gv b e]; omega))
  · intro k y hy
    rcases snoc_at hy with ⟨_, rfl⟩ | hy
    · exact World.ownsRow_nil _ _ _ _
    · exact ownsRow_of_block (h.wr k y hy) (fun b e => both b ((h.wr k y hy).lt b e).2 (by rw [h1.gw k y hy b e]; omega) (by rw [h1.gw k y hy b e]; omega))
  · intro k y hy
    rcases snoc_at hy with ⟨_, rfl⟩ | hy
    · exact World.ownsRow_nil _ _ _ _
    · exact ownsRow_of_block (h.rd k y hy) (fun b e => both b ((h.rd k y hy).lt b e).2 (by rw [h1.gr k y hy b e]; omega) (by rw [h1.gr k y hy b e]; omega))
  · intro k y hy b e
    rcases snoc_at hy with ⟨_, rfl⟩ | hy
    · simp [newTx, Value.ownBlock] at e
    · exact h1.gw k y hy b e
  · intro k y hy b e
    rcases snoc_at hy with ⟨_, rfl⟩ | hy
    · simp [newTx, Value.ownBlock] at e
    · exact h1.gr k y hy b e

theorem keeps_grow {k : Nat} {α : Type} {c : α → List Value} {e t : TypeId} {v : Value} {l : List α} {x : α} {a5 : Option Addr} {c5 : Nat} {W5 : World} (G : GrowR c e t k base w v l x a5 c5 W5) : Keeps (fun b => v.ownBlock = some b) w W5 :=
  (Quiet.trans' (Keeps.alloc w (.cells (c x).toArray e)) (Keeps.drew _) : Quiet w _).mono (fun _ h => h.elim) |>.trans (keeps_of_grown G.gr) (fun b hb => .inl hb)

/-- one more, whole -/
structure PushT (w : World) (base : Nat) (m : MRef) (a : Option Addr) (cap : Nat) (a5 : Option Addr) (c5 : Nat) (W5 : World) : Prop where
  q5 : w.cell? ⟨m.sb, 5, none⟩ = some (.slice a m.txs.length cap)
  app : (Builtin.append_ #[155, 155] 155 #[.slice a m.txs.length cap, .slice (some ⟨w.heap.size, 0, none⟩) 1 1]).run Tryz.prog (w.alloc (.cells #[.int .i64 m.clock, .int .i64 0, .int .i64 0, .int .i64 0, .int .i64 0, .slice none 0 0, .slice none 0 0] 197)).drew = .ok (.slice a5 (m.txs.length + 1) c5) W5
  cell : W5.cell? ⟨m.sb, 5, none⟩ = some (.slice a m.txs.length cap)
  frz : W5.frozen? ⟨m.sb, 5, none⟩ = false
  cell1 : (W5.setCell ⟨m.sb, 5, none⟩ (.slice a5 (m.txs.length + 1) c5)).cell? ⟨m.sb, 5, none⟩ = some (.slice a5 (m.txs.length + 1) c5)
  left : RLeft w (W5.setCell ⟨m.sb, 5, none⟩ (.slice a5 (m.txs.length + 1) c5)) base m m.rs.begin

set_option maxRecDepth 100000 in
theorem RefIn.push (H : RefIn w base m) (hl : m.txs.length ≤ 1099511627776) : ∃ a cap a5 c5 W5, PushT w base m a cap a5 c5 W5 := by
  obtain ⟨tag, H⟩ := H
  obtain ⟨i0, hi0, hz0, hz1, hz2⟩ := info_parts info_rtxn
  obtain ⟨a5, c5, W5, G⟩ := grow_row MRTx.cells (t := 155) MRTx.cells_len (by omega) Tryz.underlying155 hi0 hz0 hz1 hz2 (by kernel_rfl) H.tx (newTx m.txs.length m.clock) (by simp [newTx, MRTx.cells, Value.oneCell']) (Nat.le_of_lt (Nat.lt_of_le_of_lt H.hb (lt_of_heap H.own))) hl (by omega)
  obtain ⟨a, cap, ev, -⟩ := H.txsAt
  have q5 := H.cell.2.2.2.2.2.1
  have hq2 : Quiet w ((w.alloc (.cells (newTx m.txs.length m.clock).cells.toArray 197)).drew) := Quiet.trans' (Keeps.alloc _ _) (Keeps.drew _)
  have hK := keeps_grow G
  have hne : ¬ m.tv.ownBlock = some m.sb := fun e => by have h1 := H.gt _ e; have h2 := H.gb; omega
  have hown5 := (hK.block m.sb (lt_of_heap H.own) hne).trans H.own
  have hs5 := heap_setCell_same (i := 5) (v := Value.slice a5 (m.txs.length + 1) c5) hown5
  have hsz : ((w.alloc (.cells (newTx m.txs.length m.clock).cells.toArray 197)).drew).heap.size = w.heap.size + 1 := by simp
  have R5 := (H.quiet hq2).push G.gr G.row (fun b hb => by rw [hsz]; exact G.loc b hb)
  refine ⟨a, cap, a5, c5, W5, ⟨by rw [q5, ev], by have := G.app; rw [ev] at this; exact this, ?_, frozen_of_heap hown5, ?_, ⟨_, ⟨_, R5⟩, ⟨?_, fun b hb => ?_, rfl⟩, ?_⟩⟩⟩
  · rw [cell_of_heap hown5, ← ev]; rfl
  · rw [cell_of_heap hs5]; rfl
  · exact (hK.mono (S' := m.has) (fun b hb => .inl (.inr (.inl hb)))).trans (Keeps.setCell _ _ _ (.inl rfl)) (fun b hb => .inl hb)
  · rcases hb with h | h | h | ⟨k', y, hy, h⟩
    · exact .inl (.inl h)
    · rcases G.loc b h with h | h
      · exact .inl (.inr (.inl h))
      · exact .inr (Nat.le_of_lt h)
    · exact .inl (.inr (.inr (.inl h)))
    · rcases snoc_at hy with ⟨_, rfl⟩ | hy
      · simp [newTx, Value.ownBlock] at h
      · exact .inl (.inr (.inr (.inr ⟨k', y, hy, h⟩)))
  · unfold MRef.rs RSt.begin
    simp [newTx]

end

def heldAppendR (ats : Array TypeId) (ty : TypeId) (args : Array Value) : Sem Value := Builtin.append_ ats ty args
theorem append_heldR (ats : Array TypeId) (ty : TypeId) (cs : Array Bool) (args : Array Value) : builtin .append ats ty cs args = (do pure (.value (← heldAppendR ats ty args))) := rfl
theorem append_eqR (ats : Array TypeId) (ty : TypeId) (args : Array Value) : Builtin.append_ ats ty args = heldAppendR ats ty args := rfl

section
variable {w w' : World} {base : Nat} {m : MRef}
attribute [local go_sem ↓ high] append_heldR append_eqR

def RSt.beginR (R : RSt) : (Int × Int) × RSt := if (R.nAct + R.nKept : Int) < R.c1 then (((R.txs.length : Int) + 1, 0), R.begin) else ((0, 6), R)

set_option maxRecDepth 100000 in
set_option maxHeartbeats 2000000 in
theorem rbegin_h (H : RefIn w base m) (hlen : m.txs.length ≤ 1099511627776) (hv : m.vers.length ≤ 1099511627776) (hrd : m.rs.nReads ≤ 1099511627776) :
    Calls Tryz.prog 68 #[.pointer (some ⟨m.sb, 0, none⟩)] w fun e w' => e = .returned (.tuple #[.int .i64 m.rs.beginR.1.1, .int .i64 m.rs.beginR.1.2]) ∧ RLeft w w' base m m.rs.beginR.2 := by
  have hA : m.rs.nAct ≤ 1099511627776 ∧ m.rs.nKept ≤ 1099511627776 := by
    obtain ⟨e1, e2, -⟩ := c_all m
    have := c_len m.txs 0
    omega
  have HT : Hid (Calls Tryz.prog 113 #[.pointer (some ⟨m.sb, 0, none⟩)] w fun e w' => e = .returned (.agg #[.int .i64 m.clock, .int .i64 m.rs.nAct, .int .i64 m.rs.nKept, .int .i64 m.rs.nReads, .int .i64 m.vers.length]) ∧ Quiet w w') := by obtain ⟨tag, H⟩ := H; exact rtold_h H hlen hv hrd
  have HP : Hid (∀ w', Quiet w w' → ∃ a cap a5 c5 W5, PushT w' base m a cap a5 c5 W5) := fun w' k => (H.quiet k).push hlen
  have HC : Hid (∀ w', Quiet w w' → w'.cell? ⟨m.sb, 0, none⟩ = some (.int .i64 m.c1) ∧ w'.cell? ⟨m.sb, 4, none⟩ = some (.int .i64 m.clock) ∧ m.sb < w'.heap.size ∧ RLeft w w' base m m.rs) := fun w' k => by
    obtain ⟨tag, H1⟩ := H.quiet k
    exact ⟨H1.cell.1, H1.cell.2.2.2.2.1, lt_of_heap H1.own, H.left k⟩
  clear H
  by_cases hroom : (m.rs.nAct + m.rs.nKept : Int) < m.c1
  · have er : m.rs.beginR = (((m.txs.length : Int) + 1, 0), m.rs.begin) := by unfold RSt.beginR; rw [if_pos (show (m.rs.nAct + m.rs.nKept : Int) < m.rs.c1 from hroom), rs_len]
    rw [er]
    generalize m.rs.nAct = NA at *
    generalize m.rs.nKept = NK at *
    generalize m.rs.nReads = NR at *
    generalize hRB : m.rs.begin = RB at *
    have hroom' : ¬ m.c1 ≤ (NA : Int) + NK := by omega
    clear er
    go_enter Tryz.func68, Tryz.ntmps68
    go_wp2_with (go_at_call 113; refine HT.out.mono ?_; rintro e w1 ⟨rfl, hq1⟩; have hqb : Quiet w (w1.alloc (.cells #[.int .i64 m.clock, .int .i64 NA, .int .i64 NK, .int .i64 NR, .int .i64 m.vers.length] 50)) := Quiet.trans' hq1 (Keeps.alloc _ _); obtain ⟨c0, c4, hsb, -⟩ := HC.out _ hqb)
    generalize hWB : w1.alloc (.cells #[.int .i64 m.clock, .int .i64 NA, .int .i64 NK, .int .i64 NR, .int .i64 m.vers.length] 50) = WB at *
    have hbB : WB.heap[w1.heap.size]? = some (.cells #[.int .i64 m.clock, .int .i64 NA, .int .i64 NK, .int .i64 NR, .int .i64 m.vers.length] 50) := by rw [← hWB]; exact heap_alloc_new _ _
    have b1 : WB.cell? ⟨w1.heap.size, 1, none⟩ = some (.int .i64 NA) := by rw [cell_of_heap hbB]; rfl
    have b2 : WB.cell? ⟨w1.heap.size, 2, none⟩ = some (.int .i64 NK) := by rw [cell_of_heap hbB]; rfl
    clear hWB hbB
    go_quiet (fail)
    go_wp2
    have hqn : Quiet w (WB.drewN nq) := Quiet.trans' hqb (quiet_drewN _ _)
    obtain ⟨a, cap, a5, c5, W5, P⟩ := HP.out _ hqn
    obtain ⟨-, d4, hsb2, -⟩ := HC.out _ hqn
    have d5 := P.q5
    have happ := P.app
    have hcl := P.cell
    have hfz := P.frz
    have hc1 := P.cell1
    have HL := hidC' (RLeft.before hqn P.left)
    change (heldAppendR _ _ _).run _ _ = _ at happ
    clear P HP HC c0 c4 hsb
    generalize WB.drewN nq = WC at *
    have hne : m.sb ≠ WC.heap.size := by omega
    go_region
    go_wp2
    go_ret2
    exact ⟨rfl, hRB ▸ HL.out⟩
  · have er : m.rs.beginR = ((0, 6), m.rs) := by unfold RSt.beginR; rw [if_neg (show ¬ (m.rs.nAct + m.rs.nKept : Int) < m.rs.c1 from hroom)]
    rw [er]
    generalize m.rs.nAct = NA at *
    generalize m.rs.nKept = NK at *
    generalize m.rs.nReads = NR at *
    clear er HP
    have hroom' : m.c1 ≤ (NA : Int) + NK := by omega
    go_enter Tryz.func68, Tryz.ntmps68
    go_wp2_with (go_at_call 113; refine HT.out.mono ?_; rintro e w1 ⟨rfl, hq1⟩; have hqb : Quiet w (w1.alloc (.cells #[.int .i64 m.clock, .int .i64 NA, .int .i64 NK, .int .i64 NR, .int .i64 m.vers.length] 50)) := Quiet.trans' hq1 (Keeps.alloc _ _); obtain ⟨c0, c4, hsb, -⟩ := HC.out _ hqb)
    have HL := hidC' (HC.out _ hqb).2.2.2
    generalize hWB : w1.alloc (.cells #[.int .i64 m.clock, .int .i64 NA, .int .i64 NK, .int .i64 NR, .int .i64 m.vers.length] 50) = WB at *
    have hbB : WB.heap[w1.heap.size]? = some (.cells #[.int .i64 m.clock, .int .i64 NA, .int .i64 NK, .int .i64 NR, .int .i64 m.vers.length] 50) := by rw [← hWB]; exact heap_alloc_new _ _
    have b1 : WB.cell? ⟨w1.heap.size, 1, none⟩ = some (.int .i64 NA) := by rw [cell_of_heap hbB]; rfl
    have b2 : WB.cell? ⟨w1.heap.size, 2, none⟩ = some (.int .i64 NK) := by rw [cell_of_heap hbB]; rfl
    clear hWB hbB HC
    go_quiet (fail)
    go_wp2
    go_ret2
    exact ⟨rfl, HL.out.quiet (quiet_drewN _ _)⟩

end
end Go.Proofs.YthfimgeopciiiaaGreat

/-
  The document's own store: who is passed, as its loops find it; reads that grow.
-/
namespace Go.Proofs.YthfimgeopciiiaaGreat
open Go.MapKept Go.ChangeMaps Go.Maps Go.RowKit Go.MuLone
set_option linter.unusedVariables false

/-! ### the places of those passed -/

def pidx (l : List RTx) (P : RTx → Bool) : Nat → List Nat
  | 0 => []
  | n + 1 => pidx l P n ++ (if (l[n]?.any P) = true then [n] else [])

theorem pidx_mem {l : List RTx} {P : RTx → Bool} {i : Nat} : ∀ {n : Nat}, i ∈ pidx l P n ↔ i < n ∧ ∃ x, l[i]? = some x ∧ P x = true
  | 0 => by simp [pidx]
  | n + 1 => by
    rw [pidx, List.mem_append, pidx_mem (n := n)]
    constructor
    · rintro (⟨h1, h2⟩ | h)
      · exact ⟨by omega, h2⟩
      · split at h
        · rename_i hp
          simp at h
          subst h
          cases hx : l[i]? with
          | none => rw [hx] at hp; simp at hp
          | some x => rw [hx] at hp; exact ⟨by omega, x, rfl, by simpa using hp⟩
        · simp at h
    · rintro ⟨h1, x, hx, hp⟩
      rcases Nat.lt_or_ge i n with h | h
      · exact .inl ⟨h, x, hx, hp⟩
      · have : i = n := by omega
        subst this
        exact .inr (by rw [hx]; simp [hp])

theorem pidx_nd {l : List RTx} {P : RTx → Bool} : ∀ (n : Nat), (pidx l P n).Nodup
  | 0 => by simp [pidx]
  | n + 1 => by
    rw [pidx, List.nodup_append]
    refine ⟨pidx_nd n, by split <;> simp, fun a ha b hb => ?_⟩
    have h1 := (pidx_mem.1 ha).1
    split at hb <;> simp at hb
    omega

theorem pidx_len {l : List RTx} {P : RTx → Bool} : ∀ (n : Nat), (pidx l P n).length ≤ n
  | 0 => by simp [pidx]
  | n + 1 => by
    have := pidx_len (l := l) (P := P) n
    rw [pidx, List.length_append]
    split <;> simp <;> omega

theorem pidx_hs {R : RSt} (hh : R.hsOk) {P : RTx → Bool} : ∀ (n : Nat), n ≤ R.txs.length → (pidx R.txs P n).map (fun i : Nat => (i : Int) + 1) = ((R.txs.take n).filter P).map (·.h)
  | 0, _ => by simp [pidx]
  | n + 1, h => by
    obtain ⟨x, hx⟩ : ∃ x, R.txs[n]? = some x := ⟨_, List.getElem?_eq_getElem (by omega)⟩
    rw [pidx, List.map_append, pidx_hs hh n (by omega), take_succ_of hx, List.filter_append, List.map_append, hx]
    congr 1
    cases hp : P x with
    | true => simp [hp, hh n x hx]
    | false => simp [hp]

def hsOf (PI : List Nat) : List Int := PI.map fun i : Nat => (i : Int) + 1

theorem hsOf_mem {R : RSt} (hh : R.hsOk) {P : RTx → Bool} {x : RTx} (hx : x ∈ R.txs) : x.h ∈ hsOf (pidx R.txs P R.txs.length) ↔ P x = true := by
  unfold hsOf
  rw [pidx_hs hh _ (Nat.le_refl _), List.take_length, List.mem_map]
  constructor
  · rintro ⟨y, hy, e⟩
    obtain ⟨h1, h2⟩ := List.mem_filter.1 hy
    obtain ⟨i, hi⟩ := List.getElem?_of_mem hx
    obtain ⟨j, hj⟩ := List.getElem?_of_mem h1
    have a1 := hh i x hi
    have a2 := hh j y hj
    have : i = j := by omega
    subst this
    rw [hi] at hj
    rw [Option.some.inj hj]; exact h2
  · intro hp
    exact ⟨x, List.mem_filter.2 ⟨hx, hp⟩, rfl⟩

theorem hsOf_len {R : RSt} (hh : R.hsOk) {k : RTx} {G : Tx → Bool} : (pidx R.txs (k.past G) R.txs.length).length = R.nPast k G := by
  have := congrArg List.length (pidx_hs hh (P := k.past G) _ (Nat.le_refl _))
  rw [List.length_map, List.length_map, List.take_length] at this
  exact this

/-! ### the marks, one by one -/

def bumpO (h : Int) (x : RTx) : RTx := if x.h = h then { x with o := x.o + 1 } else x
def bumpI (h : Int) (x : RTx) : RTx := if x.h = h then { x with i := x.i + 1 } else x
def addRd (h : Int) (e : Ent) (x : RTx) : RTx := if x.h = h then { x with rd := x.rd ++ [(e, ())] } else x
def setWrs (h : Int) (l : List (ByteArray × Cont)) (x : RTx) : RTx := if x.h = h then { x with wr := l } else x

theorem bumpO_h (h : Int) (x : RTx) : (bumpO h x).h = x.h := by unfold bumpO; split <;> rfl
theorem bumpI_h (h : Int) (x : RTx) : (bumpI h x).h = x.h := by unfold bumpI; split <;> rfl
theorem addRd_h (h : Int) (e : Ent) (x : RTx) : (addRd h e x).h = x.h := by unfold addRd; split <;> rfl
theorem setWrs_h (h : Int) (l : List (ByteArray × Cont)) (x : RTx) : (setWrs h l x).h = x.h := by unfold setWrs; split <;> rfl

/-- behind some of a read's marks -/
def markR (kh : Int) (L : List Int) (x : RTx) : RTx := { x with o := if x.h = kh then x.o + L.length else x.o, i := if x.h ∈ L then x.i + 1 else x.i }
/-- behind some of a write's marks -/
def markW (kh : Int) (L : List Int) (x : RTx) : RTx := { x with i := if x.h = kh then x.i + L.length else x.i, o := if x.h ∈ L then x.o + 1 else x.o }

theorem markR_nil (kh : Int) (x : RTx) : markR kh [] x = x := by unfold markR; simp
theorem markW_nil (kh : Int) (x : RTx) : markW kh [] x = x := by unfold markW; simp

theorem markR_snoc {kh p : Int} {L : List Int} (h1 : p ∉ L) (h2 : p ≠ kh) (x : RTx) : bumpI p (bumpO kh (markR kh L x)) = markR kh (L ++ [p]) x := by
  unfold bumpI bumpO markR
  by_cases e1 : x.h = kh
  · have e2 : ¬ x.h = p := fun e => h2 (e.symm.trans e1)
    simp only [e1, if_true, List.length_append, List.mem_append, List.mem_singleton]
    have e3 : ¬ kh = p := fun e => h2 e.symm
    simp [e3]
    omega
  · by_cases e2 : x.h = p
    · subst e2
      simp [e1, h1]
    · simp [e1, e2]

theorem markW_snoc {kh p : Int} {L : List Int} (h1 : p ∉ L) (h2 : p ≠ kh) (x : RTx) : bumpI kh (bumpO p (markW kh L x)) = markW kh (L ++ [p]) x := by
  unfold bumpI bumpO markW
  by_cases e1 : x.h = kh
  · have e3 : ¬ kh = p := fun e => h2 e.symm
    simp only [e1, if_true, List.length_append, List.mem_append, List.mem_singleton]
    simp [e3]
    omega
  · by_cases e2 : x.h = p
    · subst e2
      simp [e1, h1]
    · simp [e1, e2]

theorem put_unit {α : Type} [DecidableEq α] : ∀ {l : List (α × Unit)} {e : α}, (look l e).isSome = true → put l e () = l
  | [], e, h => by simp [look] at h
  | p :: r, e, h => by
    unfold put
    split
    · rename_i hp; rw [← hp]
    · rename_i hp
      rw [put_unit]
      simpa [look, hp] using h

theorem put_ahead {α β : Type} [DecidableEq α] : ∀ {l : List (α × β)} {e : α} {v : β}, look l e = none → put l e v = l ++ [(e, v)]
  | [], e, v, _ => rfl
  | p :: r, e, v, h => by
    unfold look at h
    split at h
    · cases h
    · rename_i hp
      unfold put
      rw [if_neg hp, put_ahead h, List.cons_append]

section
variable {R : RSt} {k : RTx}

theorem over_self (k : RTx) : k.over k = false := by unfold RTx.over; simp

/-- all marks of a read, and what it has read -/
theorem readA_marks (hh : R.hsOk) (hk : k ∈ R.txs) (e : Ent) (R1 : RSt) (h1 : ((look k.rd e).isSome = true ∧ R1 = R) ∨ (look k.rd e = none ∧ R1 = { R with txs := R.txs.map (addRd k.h e) })) :
    { R1 with txs := R1.txs.map (markR k.h (hsOf (pidx R.txs (k.past (wroteT e)) R.txs.length))) } = R.readA k e := by
  have hl : (hsOf (pidx R.txs (k.past (wroteT e)) R.txs.length)).length = R.nPast k (wroteT e) := by unfold hsOf; rw [List.length_map, hsOf_len hh]
  have hkk : ∀ x ∈ R.txs, x.h = k.h → x = k := fun x hx e' => by
    obtain ⟨i, hi⟩ := List.getElem?_of_mem hx
    obtain ⟨j, hj⟩ := List.getElem?_of_mem hk
    have a1 := hh i x hi
    have a2 := hh j k hj
    have : i = j := by omega
    subst this
    rw [hi] at hj
    exact Option.some.inj hj
  unfold RSt.readA
  rcases h1 with ⟨h0, rfl⟩ | ⟨h0, rfl⟩
  · congr 1
    refine List.map_congr_left fun x hx => ?_
    unfold markR readRX
    rw [hl]
    have hm := hsOf_mem hh (P := k.past (wroteT e)) hx
    by_cases e1 : x.h = k.h
    · obtain rfl := hkk x hx e1
      simp only [if_true, hm, put_unit h0]
    · simp only [e1, if_false, hm]
  · simp only
    rw [List.map_map]
    congr 1
    refine List.map_congr_left fun x hx => ?_
    simp only [Function.comp]
    unfold markR readRX
    rw [hl, addRd_h]
    have hm := hsOf_mem hh (P := k.past (wroteT e)) hx
    by_cases e1 : x.h = k.h
    · obtain rfl := hkk x hx e1
      simp only [addRd, if_true, hm, put_ahead h0]
    · simp only [addRd, e1, if_false, hm]

/-- all marks of a write, and what it has written -/
theorem writeA_marks (hh : R.hsOk) (hk : k ∈ R.txs) (cs : List Chg) :
    { R with txs := (R.txs.map (markW k.h (hsOf (pidx R.txs (k.past (readT cs)) R.txs.length)))).map (setWrs k.h (joinW k.wr cs)) } = R.writeA k cs := by
  have hl : (hsOf (pidx R.txs (k.past (readT cs)) R.txs.length)).length = R.nPast k (readT cs) := by unfold hsOf; rw [List.length_map, hsOf_len hh]
  unfold RSt.writeA
  congr 1
  rw [List.map_map]
  refine List.map_congr_left fun x hx => ?_
  simp only [Function.comp]
  have hm := hsOf_mem hh (P := k.past (readT cs)) hx
  unfold setWrs writeRX markW
  rw [hl]
  by_cases e1 : x.h = k.h
  · simp only [e1, if_true]
    rw [← e1]
    simp only [hm]
  · simp only [e1, if_false, hm]
end

section
variable {w w' : World} {base : Nat} {tag : Nat → Nat} {m : MRef}

/-- its reads grow -/
theorem RefAt.setRd (h : RefAt w base tag m) {i g : Nat} {x : MRTx} (hx : m.txs[i]? = some x) (hg : m.tv.ownBlock = some g) {w5 : World} {v : Value} {rd' : List (Ent × Unit)}
    (hgr : w.grownBy w5 x.rv.ownBlock) (hv : w5.ownsRow base 201 3 v rd'.length (rd'.flatMap spanCells)) (hloc : ∀ b, v.ownBlock = some b → x.rv.ownBlock = some b ∨ w.heap.size ≤ b) :
    RefAt (w5.setCell ⟨g, i * 7 + 6, none⟩ v) base (_root_.Go.Proofs.YthfimgeopciiiaaGreat.tagNew w.heap.size (5 + i) tag) { m with txs := m.txs.set i ⟨{ x.r with rd := rd' }, x.wv, v⟩ } := by
  have hi : i < m.txs.length := (List.getElem?_eq_some_iff.1 hx).1
  have h1 := h.tagNew (5 + i)
  generalize ht : _root_.Go.Proofs.YthfimgeopciiiaaGreat.tagNew w.heap.size (5 + i) tag = tag1 at *
  have tg := h1.gt g hg
  have kb : ∀ b, x.rv.ownBlock = some b → tag1 b = 5 + i := h1.gr i x hx
  have vb : ∀ b, v.ownBlock = some b → tag1 b = 5 + i := fun b e => by
    rcases hloc b e with h2 | h2
    · exact kb b h2
    · rw [← ht]; exact tagNew_new h2
  have same : ∀ b, b < w.heap.size → tag1 b ≠ 5 + i → w5.heap[b]? = w.heap[b]? := fun b hb hn => hgr.block b hb (fun e => hn (kb b e.symm))
  have ob : ∀ b, tag1 b ≠ 1 → (w5.setCell ⟨g, i * 7 + 6, none⟩ v).heap[b]? = w5.heap[b]? := fun b hb => heap_setCell_other _ _ _ (fun e => by rw [e] at hb; exact hb tg)
  have both : ∀ b, b < w.heap.size → tag1 b ≠ 5 + i → tag1 b ≠ 1 → (w5.setCell ⟨g, i * 7 + 6, none⟩ v).heap[b]? = w.heap[b]? := fun b hb e1 e2 => (ob b e2).trans (same b hb e1)
  have hm : ∀ k y, (m.txs.set i ⟨{ x.r with rd := rd' }, x.wv, v⟩)[k]? = some y → (k = i ∧ y = ⟨{ x.r with rd := rd' }, x.wv, v⟩) ∨ (k ≠ i ∧ m.txs[k]? = some y) := fun k y hy => by
    rw [List.getElem?_set] at hy
    by_cases e : i = k
    · rw [if_pos e, if_pos (by omega)] at hy
      exact .inl ⟨e.symm, (Option.some.inj hy).symm⟩
    · rw [if_neg e] at hy
      exact .inr ⟨fun e' => e e'.symm, hy⟩
  refine { h1 with own := ?_, tx := ?_, vr := ?_, wr := ?_, rd := ?_, gw := ?_, gr := ?_ }
  · exact (both _ (lt_of_heap h.own) (by rw [h1.gb]; omega) (by rw [h1.gb]; omega)).trans h.own
  · show (w5.setCell _ v).ownsRow base _ 7 m.tv (m.txs.set i _).length ((m.txs.set i _).flatMap MRTx.cells)
    rw [List.length_set, flat_set MRTx.cells 7 MRTx.cells_len m.txs i 6 x _ v hx (by omega) rfl]
    exact ownsRow_set (ownsRow_of_block h.tx (fun b e => same b (h.tx.lt b e).2 (by rw [h1.gt b e]; omega))) hg _ v
  · exact ownsRow_of_block h.vr (fun b e => both b (h.vr.lt b e).2 (by rw [h1.gv b e]; omega) (by rw [h1.gv b e]; omega))
  · intro k y hy
    rcases hm k y hy with ⟨rfl, rfl⟩ | ⟨_, hy⟩
    · exact ownsRow_of_block (h.wr _ x hx) (fun b e => both b ((h.wr _ x hx).lt b e).2 (by rw [h1.gw _ x hx b e]; omega) (by rw [h1.gw _ x hx b e]; omega))
    · exact ownsRow_of_block (h.wr k y hy) (fun b e => both b ((h.wr k y hy).lt b e).2 (by rw [h1.gw k y hy b e]; omega) (by rw [h1.gw k y hy b e]; omega))
  · intro k y hy
    rcases hm k y hy with ⟨rfl, rfl⟩ | ⟨hk, hy⟩
    · exact ownsRow_of_block hv (fun b e => ob b (by rw [vb b e]; omega))
    · exact ownsRow_of_block (h.rd k y hy) (fun b e => both b ((h.rd k y hy).lt b e).2 (by rw [h1.gr k y hy b e]; omega) (by rw [h1.gr k y hy b e]; omega))
  · intro k y hy b e
    rcases hm k y hy with ⟨rfl, rfl⟩ | ⟨_, hy⟩
    · exact h1.gw _ x hx b e
    · exact h1.gw k y hy b e
  · intro k y hy b e
    rcases hm k y hy with ⟨rfl, rfl⟩ | ⟨_, hy⟩
    · exact vb b e
    · exact h1.gr k y hy b e

/-- one read more, whole -/
structure PushR (w : World) (base : Nat) (m : MRef) (i g : Nat) (r : RTx) (ra : Option Addr) (rc : Nat) (lo hi : ByteArray) (x : Bool) (a5 : Option Addr) (c5 : Nat) (W5 : World) : Prop where
  app : (Builtin.append_ #[195, 195] 195 #[.slice ra r.rd.length rc, .slice (some ⟨w.heap.size, 0, none⟩) 1 1]).run Tryz.prog (w.alloc (.cells #[.string lo, .string hi, .bool (!x)] 201)).drew = .ok (.slice a5 (r.rd.length + 1) c5) W5
  cell : W5.cell? ⟨g, i * 7 + 6, none⟩ = some (.slice ra r.rd.length rc)
  frz : W5.frozen? ⟨g, i * 7 + 6, none⟩ = false
  old5 : W5.cell? ⟨m.sb, 5, none⟩ = w.cell? ⟨m.sb, 5, none⟩
  left : RLeft w (W5.setCell ⟨g, i * 7 + 6, none⟩ (.slice a5 (r.rd.length + 1) c5)) base m { m.rs with txs := m.rs.txs.map (addRd ((i : Int) + 1) (x, lo, hi)) }

set_option maxRecDepth 100000 in
theorem RefIn.pushR (H : RefIn w base m) (hh : m.rs.hsOk) {i g cap : Nat} {r : RTx} {wa : Option Addr} {wc : Nat} {ra : Option Addr} {rc : Nat} (T : TxAt w m i r g cap wa wc ra rc) (lo hi : ByteArray) (x : Bool) (hl : r.rd.length ≤ 1099511627776) :
    ∃ a5 c5 W5, PushR w base m i g r ra rc lo hi x a5 c5 W5 := by
  obtain ⟨tag, H⟩ := H
  obtain ⟨i0, hi0, hz0, hz1, hz2⟩ := info_parts info_span
  have hx := T.at_
  have hrow := H.rd i _ hx
  obtain ⟨a5, c5, W5, G⟩ := grow_row spanCells (t := 195) spanCells_len (by omega) Tryz.underlying195 hi0 hz0 hz1 hz2 (by kernel_rfl) hrow ((x, lo, hi), ()) (by simp [spanCells, Value.oneCell']) (Nat.le_of_lt (Nat.lt_of_le_of_lt H.hb (lt_of_heap H.own))) hl (by omega)
  have hq2 : Quiet w ((w.alloc (.cells (spanCells ((x, lo, hi), ())).toArray 201)).drew) := Quiet.trans' (Keeps.alloc _ _) (Keeps.drew _)
  have hK := keeps_grow G
  have hgb : ¬ (Value.slice ra r.rd.length rc).ownBlock = some g := fun e => by have h1 := H.gr i _ hx g e; have h2 := H.gt g T.ho; omega
  have hblk : W5.heap[g]? = w.heap[g]? := hK.block g T.hg hgb
  have hsz : ((w.alloc (.cells (spanCells ((x, lo, hi), ())).toArray 201)).drew).heap.size = w.heap.size + 1 := by simp
  have R5 := (H.quiet hq2).setRd hx T.ho G.gr G.row (fun b hb => by rw [hsz]; exact G.loc b hb)
  refine ⟨a5, c5, W5, ⟨G.app, (World.cell?_of_block (a := ⟨g, i * 7 + 6, none⟩) hblk).trans T.p6, (World.frozen?_of_block (a := ⟨g, i * 7 + 6, none⟩) hblk).trans (T.fz _), World.cell?_of_block (a := ⟨m.sb, 5, none⟩) (hK.block m.sb T.hsb (fun e => by have h1 := H.gr i _ hx m.sb e; have h2 := H.gb; omega)), ⟨_, ⟨_, R5⟩, ⟨?_, fun b hb => ?_, rfl⟩, ?_⟩⟩⟩
  · exact (hK.mono (S' := m.has) (fun b hb => .inl (.inr (.inr (.inr ⟨i, _, hx, .inr hb⟩))))).trans (Keeps.setCell _ _ _ (.inr (.inl T.ho))) (fun b hb => .inl hb)
  · rcases hb with h | h | h | ⟨k', y, hy, h⟩
    · exact .inl (.inl h)
    · exact .inl (.inr (.inl h))
    · exact .inl (.inr (.inr (.inl h)))
    · have hy' : (m.txs.set i _)[k']? = some y := hy
      rw [List.getElem?_set] at hy'
      split at hy'
      · split at hy'
        · obtain rfl := Option.some.inj hy'
          rcases h with h | h
          · exact .inl (.inr (.inr (.inr ⟨i, _, hx, .inl h⟩)))
          · rcases G.loc b h with h | h
            · exact .inl (.inr (.inr (.inr ⟨i, _, hx, .inr h⟩)))
            · exact .inr (Nat.le_of_lt h)
        · cases hy'
      · exact .inl (.inr (.inr (.inr ⟨k', y, hy', h⟩)))
  · unfold MRef.rs
    simp only
    congr 1
    refine map_set_if (fun x : MRTx => x.r) (addRd ((i : Int) + 1) (x, lo, hi)) (fun _ => True) m.txs i _ _ hx ?_ (fun j z hz hne => ?_)
    · unfold addRd; rw [if_pos (hsOk_iff hh i _ hx)]
    · unfold addRd; rw [if_neg (by rw [hsOk_iff hh j z hz]; omega)]

end
end Go.Proofs.YthfimgeopciiiaaGreat

/-
  The document's own store: what its numbers stay below; no key is empty.
-/
namespace Go.Proofs.YthfimgeopciiiaaGreat
set_option linter.unusedVariables false

structure RBd (R : RSt) (B : Int) : Prop where
  hs : R.hsOk
  wl : ∀ r ∈ R.txs, r.wr.length ≤ 16
  rl : ∀ r ∈ R.txs, r.rd.length ≤ 64
  wk : ∀ r ∈ R.txs, ∀ p ∈ r.wr, p.1 ≠ ⟨#[]⟩
  vk : ∀ p ∈ R.vers, p.1 ≠ ⟨#[]⟩
  io : ∀ r ∈ R.txs, (0 ≤ r.i ∧ r.i ≤ B) ∧ (0 ≤ r.o ∧ r.o ≤ B)

section
variable {R : RSt} {B B' : Int} {k : RTx}

theorem RBd.mono (h : RBd R B) (hb : B ≤ B') : RBd R B' := { h with io := fun r hr => by have := h.io r hr; omega }

theorem RBd.mapT (h : RBd R B) (f : RTx → RTx) (hf : ∀ r, (f r).h = r.h) (hw : ∀ r ∈ R.txs, (f r).wr.length ≤ 16 ∧ ∀ p ∈ (f r).wr, p.1 ≠ ⟨#[]⟩) (hr : ∀ r ∈ R.txs, (f r).rd.length ≤ 64) (hio : ∀ r ∈ R.txs, (0 ≤ (f r).i ∧ (f r).i ≤ B') ∧ (0 ≤ (f r).o ∧ (f r).o ≤ B')) : RBd { R with txs := R.txs.map f } B' := by
  have hm : ∀ r ∈ R.txs.map f, ∃ y ∈ R.txs, f y = r := fun r hr => List.mem_map.1 hr
  refine ⟨h.hs.map f hf, fun r hr' => ?_, fun r hr' => ?_, fun r hr' => ?_, h.vk, fun r hr' => ?_⟩
  all_goals obtain ⟨y, hy, rfl⟩ := hm r hr'
  · exact (hw y hy).1
  · exact hr y hy
  · exact (hw y hy).2
  · exact hio y hy

theorem RBd.begin (h : RBd R B) (hb : 0 ≤ B) : RBd R.begin B := by
  have hm : ∀ r ∈ R.begin.txs, r ∈ R.txs ∨ r = ⟨R.txs.length + 1, R.clock, 0, 0, 0, 0, [], []⟩ := fun r hr => by simpa [RSt.begin] using hr
  refine ⟨fun j r hr => ?_, fun r hr => ?_, fun r hr => ?_, fun r hr => ?_, h.vk, fun r hr => ?_⟩
  · rcases snoc_at hr with ⟨rfl, rfl⟩ | hr
    · rfl
    · exact h.hs j r hr
  · rcases hm r hr with h' | rfl
    · exact h.wl r h'
    · simp
  · rcases hm r hr with h' | rfl
    · exact h.rl r h'
    · simp
  · rcases hm r hr with h' | rfl
    · exact h.wk r h'
    · simp
  · rcases hm r hr with h' | rfl
    · exact h.io r h'
    · simp [hb]

theorem RBd.abort (h : RBd R B) (n : Int) : RBd (R.abort n) B := by
  have hf : ∀ r, (abortX n r).wr = r.wr ∧ (abortX n r).rd = r.rd := fun r => by unfold abortX; split <;> exact ⟨rfl, rfl⟩
  refine h.mapT (abortX n) (abortX_h n) (fun r hr => ?_) (fun r hr => ?_) (fun r hr => ?_)
  · rw [(hf r).1]; exact ⟨h.wl r hr, h.wk r hr⟩
  · rw [(hf r).2]; exact h.rl r hr
  · rw [(abortX_io n r).1, (abortX_io n r).2]; exact h.io r hr

theorem sumN_mem {α : Type} (f : α → Nat) : ∀ {l : List α} {x : α}, x ∈ l → f x ≤ sumN f l
  | y :: l, x, h => by
    rw [sumN_cons]
    rcases List.mem_cons.1 h with rfl | h
    · omega
    · have := sumN_mem f h; omega

theorem nPast_le (R : RSt) (k : RTx) (G : Tx → Bool) : R.nPast k G ≤ R.txs.length := List.length_filter_le _ _

theorem put_len_le {α β : Type} [DecidableEq α] : ∀ (l : List (α × β)) (x : α) (v : β), (put l x v).length ≤ l.length + 1
  | [], x, v => by simp [put]
  | p :: r, x, v => by
    unfold put
    split
    · simp
    · have := put_len_le r x v
      simp only [List.length_cons]; omega

theorem hs_inj (hh : R.hsOk) {x y : RTx} (hx : x ∈ R.txs) (hy : y ∈ R.txs) (e : x.h = y.h) : x = y := by
  obtain ⟨i, hi⟩ := List.getElem?_of_mem hx
  obtain ⟨j, hj⟩ := List.getElem?_of_mem hy
  have a1 := hh i x hi
  have a2 := hh j y hj
  have : i = j := by omega
  subst this
  rw [hi] at hj
  exact Option.some.inj hj

theorem RBd.readA (h : RBd R B) (hk : k ∈ R.txs) (h0 : k.st = 0) (hc : R.c2 ≤ 64) (e : Ent) (hroom : R.room k e = true) : RBd (R.readA k e) (B + R.txs.length + 1) := by
  have hl := nPast_le R k (wroteT e)
  unfold RSt.readA
  refine h.mapT _ (fun r => rfl) (fun r hr => ⟨h.wl r hr, h.wk r hr⟩) (fun r hr => ?_) (fun r hr => ?_)
  · show (if r.h = k.h then put r.rd e () else r.rd).length ≤ 64
    split
    · rename_i e1
      obtain rfl := hs_inj h.hs hr hk e1
      unfold RSt.room at hroom
      cases hlk : look r.rd e with
      | some u => rw [put_unit (by rw [hlk]; rfl)]; exact h.rl r hr
      | none =>
        rw [hlk] at hroom
        have h1 : (R.nReads : Int) < R.c2 := by simpa using hroom
        have h2 : r.rd.length ≤ R.nReads := sumN_mem (fun r : RTx => r.rd.length) (List.mem_filter.2 ⟨hr, by simp [RTx.live, h0]⟩)
        have h3 := put_len_le r.rd e ()
        omega
    · exact h.rl r hr
  · have hio := h.io r hr
    show (0 ≤ (if k.past (wroteT e) r = true then r.i + 1 else r.i) ∧ (if k.past (wroteT e) r = true then r.i + 1 else r.i) ≤ _) ∧ (0 ≤ (if r.h = k.h then r.o + (R.nPast k (wroteT e) : Int) else r.o) ∧ (if r.h = k.h then r.o + (R.nPast k (wroteT e) : Int) else r.o) ≤ _)
    split <;> split <;> omega

theorem RBd.readR (h : RBd R B) (hk : k ∈ R.txs) (h0 : k.st = 0) (hc : R.c2 ≤ 64) (e : Ent) : RBd (R.readR k e).2 (B + R.txs.length + 1) := by
  unfold RSt.readR
  split
  · exact h.mono (by omega)
  · rename_i hr
    split
    · exact (h.abort _).mono (by omega)
    · exact h.readA hk h0 hc e (by simpa using hr)

theorem RBd.getR (h : RBd R B) (hk : k ∈ R.txs) (h0 : k.st = 0) (hc : R.c2 ≤ 64) (key : ByteArray) : RBd (R.getR k key).2 (B + R.txs.length + 1) := by
  unfold RSt.getR
  split
  · exact h.mono (by omega)
  · cases look k.wr key with
    | some c => exact h.mono (by omega)
    | none =>
      simp only
      split <;> exact h.readR hk h0 hc _

theorem joinW_keys : ∀ (cs : List Chg) (wr : List (ByteArray × Cont)), (∀ p ∈ wr, p.1 ≠ (⟨#[]⟩ : ByteArray)) → (∀ c ∈ cs, c.1 ≠ (⟨#[]⟩ : ByteArray)) → ∀ p ∈ joinW wr cs, p.1 ≠ (⟨#[]⟩ : ByteArray)
  | [], wr, h, _ => h
  | c :: cs, wr, h, hc => by
    show ∀ p ∈ joinW (put wr c.1 (contOf c)) cs, _
    refine joinW_keys cs _ (fun p hp => ?_) (fun d hd => hc d (List.mem_cons_of_mem _ hd))
    rcases mem_put hp with hp | rfl
    · exact h p hp
    · exact hc c (List.mem_cons_self ..)

theorem keyB_ne {k : ByteArray} (h : keyB k = true) : k ≠ ⟨#[]⟩ := by
  rintro rfl
  simp [keyB, ByteArray.size] at h

theorem RBd.writeA (h : RBd R B) (hk : k ∈ R.txs) (hc : R.c3 ≤ 16) (cs : List Chg) (hE : changesE cs = 0) (hl : ¬ R.c3 < ((joinW k.wr cs).length : Int)) : RBd (R.writeA k cs) (B + R.txs.length + 1) := by
  have hn := nPast_le R k (readT cs)
  unfold RSt.writeA
  refine h.mapT _ (fun r => rfl) (fun r hr => ?_) (fun r hr => h.rl r hr) (fun r hr => ?_)
  · show (if r.h = k.h then joinW k.wr cs else r.wr).length ≤ 16 ∧ ∀ p ∈ (if r.h = k.h then joinW k.wr cs else r.wr), p.1 ≠ ⟨#[]⟩
    split
    · exact ⟨by omega, joinW_keys cs k.wr (h.wk k hk) (fun c hc => keyB_ne (chg_ok hE c hc).1)⟩
    · exact ⟨h.wl r hr, h.wk r hr⟩
  · have hio := h.io r hr
    show (0 ≤ (if r.h = k.h then r.i + (R.nPast k (readT cs) : Int) else r.i) ∧ (if r.h = k.h then r.i + (R.nPast k (readT cs) : Int) else r.i) ≤ _) ∧ (0 ≤ (if k.past (readT cs) r = true then r.o + 1 else r.o) ∧ (if k.past (readT cs) r = true then r.o + 1 else r.o) ≤ _)
    split <;> split <;> omega

theorem RBd.writeR (h : RBd R B) (hk : k ∈ R.txs) (hc : R.c3 ≤ 16) (cs : List Chg) : RBd (R.writeR k cs).2 (B + R.txs.length + 1) := by
  unfold RSt.writeR
  split
  · exact h.mono (by omega)
  · rename_i hE
    split
    · exact h.mono (by omega)
    · rename_i hl
      split
      · exact (h.abort _).mono (by omega)
      · split
        · exact (h.abort _).mono (by omega)
        · exact h.writeA hk hc cs (by simpa using hE) hl

theorem RBd.comm (h : RBd R B) (hk : k ∈ R.txs) : RBd (R.comm k) B := by
  have hf : ∀ c n r, (commRX c n r).wr = r.wr ∧ (commRX c n r).rd = r.rd ∧ (commRX c n r).i = r.i ∧ (commRX c n r).o = r.o := fun c n r => by unfold commRX; split <;> exact ⟨rfl, rfl, rfl, rfl⟩
  have h1 : RBd { R with txs := R.txs.map (commRX (R.clock + 1) k.h) } B := h.mapT _ (commRX_h _ _) (fun r hr => by rw [(hf _ _ r).1]; exact ⟨h.wl r hr, h.wk r hr⟩) (fun r hr => by rw [(hf _ _ r).2.1]; exact h.rl r hr) (fun r hr => by rw [(hf _ _ r).2.2.1, (hf _ _ r).2.2.2]; exact h.io r hr)
  refine ⟨h1.hs, h1.wl, h1.rl, h1.wk, fun p hp => ?_, h1.io⟩
  rcases List.mem_append.1 (show p ∈ R.vers ++ _ from hp) with hp | hp
  · exact h.vk p hp
  · obtain ⟨q, hq, rfl⟩ := List.mem_map.1 hp
    exact h.wk k hk q hq

theorem RBd.commR (h : RBd R B) (hk : k ∈ R.txs) : RBd (R.commR k).2 B := by
  unfold RSt.commR
  split
  · exact h.abort _
  · split
    · exact h
    · exact h.comm hk

theorem RBd.clean (h : RBd R B) : RBd R.clean B := by
  have hf : ∀ n r, (cleanX n r).wr = r.wr ∧ (cleanX n r).rd = r.rd := fun n r => by unfold cleanX; split <;> exact ⟨rfl, rfl⟩
  have h1 : RBd { R with txs := R.txs.map (cleanX R.mark) } B := h.mapT _ (cleanX_h _) (fun r hr => by rw [(hf _ r).1]; exact ⟨h.wl r hr, h.wk r hr⟩) (fun r hr => by rw [(hf _ r).2]; exact h.rl r hr) (fun r hr => by rw [(cleanX_io _ r).1, (cleanX_io _ r).2]; exact h.io r hr)
  exact ⟨h1.hs, h1.wl, h1.rl, h1.wk, fun p hp => h.vk p (List.mem_filter.1 (show p ∈ R.vers.filter _ from hp)).1, h1.io⟩

end
end Go.Proofs.YthfimgeopciiiaaGreat

/-
  The document's own store: clock, versions, writes: parts that turn.
-/
namespace Go.Proofs.YthfimgeopciiiaaGreat
open Go.MapKept Go.ChangeMaps Go.Maps Go.RowKit Go.MuLone
set_option linter.unusedVariables false

section
variable {w w' : World} {base : Nat} {tag : Nat → Nat} {m : MRef}

/-- the clock -/
theorem RefIn.setClock (H : RefIn w base m) (c : Int) : RLeft w (w.setCell ⟨m.sb, 4, none⟩ (.int .i64 c)) base m { m.rs with clock := c } := by
  obtain ⟨tag, h⟩ := H
  have ob : ∀ b, tag b ≠ 0 → (w.setCell ⟨m.sb, 4, none⟩ (.int .i64 c)).heap[b]? = w.heap[b]? := fun b hb => heap_setCell_other _ _ _ (fun e => by rw [e] at hb; exact hb h.gb)
  refine ⟨{ m with clock := c }, ⟨tag, { h with own := ?_, tx := ?_, vr := ?_, wr := ?_, rd := ?_ }⟩, ⟨Keeps.setCell _ _ _ (.inl rfl), fun b hb => .inl hb, rfl⟩, rfl⟩
  · exact (heap_setCell_same h.own).trans rfl
  · exact ownsRow_of_block h.tx (fun b e => ob b (by rw [h.gt b e]; omega))
  · exact ownsRow_of_block h.vr (fun b e => ob b (by rw [h.gv b e]; omega))
  · exact fun i x hx => ownsRow_of_block (h.wr i x hx) (fun b e => ob b (by rw [h.gw i x hx b e]; omega))
  · exact fun i x hx => ownsRow_of_block (h.rd i x hx) (fun b e => ob b (by rw [h.gr i x hx b e]; omega))

/-- the clock, in memory -/
theorem RefIn.setClockM (H : RefIn w base m) (c : Int) : RefIn (w.setCell ⟨m.sb, 4, none⟩ (.int .i64 c)) base { m with clock := c } ∧ RTurn w (w.setCell ⟨m.sb, 4, none⟩ (.int .i64 c)) m { m with clock := c } := by
  obtain ⟨tag, h⟩ := H
  have ob : ∀ b, tag b ≠ 0 → (w.setCell ⟨m.sb, 4, none⟩ (.int .i64 c)).heap[b]? = w.heap[b]? := fun b hb => heap_setCell_other _ _ _ (fun e => by rw [e] at hb; exact hb h.gb)
  refine ⟨⟨tag, { h with own := ?_, tx := ?_, vr := ?_, wr := ?_, rd := ?_ }⟩, ⟨Keeps.setCell _ _ _ (.inl rfl), fun b hb => .inl hb, rfl⟩⟩
  · exact (heap_setCell_same h.own).trans rfl
  · exact ownsRow_of_block h.tx (fun b e => ob b (by rw [h.gt b e]; omega))
  · exact ownsRow_of_block h.vr (fun b e => ob b (by rw [h.gv b e]; omega))
  · exact fun i x hx => ownsRow_of_block (h.wr i x hx) (fun b e => ob b (by rw [h.gw i x hx b e]; omega))
  · exact fun i x hx => ownsRow_of_block (h.rd i x hx) (fun b e => ob b (by rw [h.gr i x hx b e]; omega))

/-- a number of one, in memory -/
theorem RefIn.setM (H : RefIn w base m) {i j g : Nat} {x : MRTx} {u : Value} (hx : m.txs[i]? = some x) (hg : m.tv.ownBlock = some g) (hj : j < 7) (r' : RTx) (hc : (⟨r', x.wv, x.rv⟩ : MRTx).cells = x.cells.set j u) (hw : r'.wr = x.r.wr) (hr : r'.rd = x.r.rd) :
    RefIn (w.setCell ⟨g, i * 7 + j, none⟩ u) base { m with txs := m.txs.set i ⟨r', x.wv, x.rv⟩ } ∧ RTurn w (w.setCell ⟨g, i * 7 + j, none⟩ u) m { m with txs := m.txs.set i ⟨r', x.wv, x.rv⟩ } := by
  obtain ⟨tag, H⟩ := H
  exact ⟨⟨tag, H.setTx (x' := ⟨r', x.wv, x.rv⟩) hx hg hj hc (by show w.ownsRow base _ 3 x.wv r'.wr.length (r'.wr.flatMap chgCells); rw [hw]; exact H.wr i x hx) (by show w.ownsRow base _ 3 x.rv r'.rd.length (r'.rd.flatMap spanCells); rw [hr]; exact H.rd i x hx) (H.gw i x hx) (H.gr i x hx)⟩, ⟨Keeps.setCell _ _ _ (.inr (.inl hg)), fun b hb => .inl (has_setTx (m := m) (x' := ⟨r', x.wv, x.rv⟩) hx rfl rfl hb), rfl⟩⟩

/-- the versions: another row -/
theorem RefAt.setV (h : RefAt w base tag m) {w5 : World} {v : Value} {L : List (ByteArray × Ver)} (hgr : w.grownBy w5 m.vv.ownBlock)
    (hv : w5.ownsRow base 209 4 v L.length (L.flatMap rverCells)) (hloc : ∀ b, v.ownBlock = some b → m.vv.ownBlock = some b ∨ w.heap.size ≤ b) :
    RefAt (w5.setCell ⟨m.sb, 6, none⟩ v) base (_root_.Go.Proofs.YthfimgeopciiiaaGreat.tagNew w.heap.size 2 tag) { m with vv := v, vers := L } := by
  have h1 := h.tagNew 2
  generalize ht : _root_.Go.Proofs.YthfimgeopciiiaaGreat.tagNew w.heap.size 2 tag = tag1 at *
  have vb : ∀ b, v.ownBlock = some b → tag1 b = 2 := fun b e => by
    rcases hloc b e with h2 | h2
    · exact h1.gv b h2
    · rw [← ht]; exact tagNew_new h2
  have same : ∀ b, b < w.heap.size → tag1 b ≠ 2 → w5.heap[b]? = w.heap[b]? := fun b hb hn => hgr.block b hb (fun e => hn (h1.gv b e.symm))
  have ob : ∀ b, tag1 b ≠ 0 → (w5.setCell ⟨m.sb, 6, none⟩ v).heap[b]? = w5.heap[b]? := fun b hb => heap_setCell_other _ _ _ (fun e => by rw [e] at hb; exact hb h1.gb)
  have both : ∀ b, b < w.heap.size → tag1 b ≠ 0 → tag1 b ≠ 2 → (w5.setCell ⟨m.sb, 6, none⟩ v).heap[b]? = w.heap[b]? := fun b hb e1 e2 => (ob b e1).trans (same b hb e2)
  have own5 := (same _ (lt_of_heap h.own) (by rw [h1.gb]; omega)).trans h.own
  refine { h1 with own := ?_, tx := ?_, vr := ?_, wr := ?_, rd := ?_, gv := vb }
  · exact (heap_setCell_same own5).trans rfl
  · exact ownsRow_of_block h.tx (fun b e => both b (h.tx.lt b e).2 (by rw [h1.gt b e]; omega) (by rw [h1.gt b e]; omega))
  · exact ownsRow_of_block hv (fun b e => ob b (by rw [vb b e]; omega))
  · exact fun k y hy => ownsRow_of_block (h.wr k y hy) (fun b e => both b ((h.wr k y hy).lt b e).2 (by rw [h1.gw k y hy b e]; omega) (by rw [h1.gw k y hy b e]; omega))
  · exact fun k y hy => ownsRow_of_block (h.rd k y hy) (fun b e => both b ((h.rd k y hy).lt b e).2 (by rw [h1.gr k y hy b e]; omega) (by rw [h1.gr k y hy b e]; omega))

theorem has_setV {v : Value} {L : List (ByteArray × Ver)} {b : Nat} (hb : ({ m with vv := v, vers := L } : MRef).has b) : m.has b ∨ v.ownBlock = some b := by
  rcases hb with h | h | h | h
  · exact .inl (.inl h)
  · exact .inl (.inr (.inl h))
  · exact .inr h
  · exact .inl (.inr (.inr (.inr h)))

theorem grownBy_refl (w : World) (o : Option Nat) : w.grownBy w o := ⟨rfl, rfl, rfl, Nat.le_refl _, fun _ _ _ => rfl⟩

/-- a row of versions is made, and is the store's -/
theorem RefIn.setVers (H : RefIn w base m) {w1 : World} (k : Quiet w w1) {v : Value} {L : List (ByteArray × Ver)} (hv : w1.ownsRow w.heap.size 209 4 v L.length (L.flatMap rverCells)) :
    RLeft w (w1.setCell ⟨m.sb, 6, none⟩ v) base m { m.rs with vers := L } := by
  obtain ⟨tag, h⟩ := H
  have hb0 : base ≤ w.heap.size := Nat.le_of_lt (Nat.lt_of_le_of_lt h.hb (lt_of_heap h.own))
  have hs := k.size
  have h1 := (h.tagNew 2).quiet k
  refine ⟨{ m with vv := v, vers := L }, ⟨tagNew w.heap.size 2 tag, ?_⟩, ⟨?_, fun b hb => ?_, rfl⟩, rfl⟩
  · -- every block of the new row is new
    have vb : ∀ b, v.ownBlock = some b → tagNew w.heap.size 2 tag b = 2 := fun b e => tagNew_new (hv.lt b e).1
    have ob : ∀ b, tagNew w.heap.size 2 tag b ≠ 0 → (w1.setCell ⟨m.sb, 6, none⟩ v).heap[b]? = w1.heap[b]? := fun b hb => heap_setCell_other _ _ _ (fun e => by rw [e] at hb; exact hb h1.gb)
    exact { h1 with
      own := (heap_setCell_same h1.own).trans rfl
      tx := ownsRow_of_block h1.tx (fun b e => ob b (by rw [h1.gt b e]; omega))
      vr := ownsRow_of_block (ownsRow_low hv hb0) (fun b e => ob b (by rw [vb b e]; omega))
      wr := fun i x hx => ownsRow_of_block (h1.wr i x hx) (fun b e => ob b (by rw [h1.gw i x hx b e]; omega))
      rd := fun i x hx => ownsRow_of_block (h1.rd i x hx) (fun b e => ob b (by rw [h1.gr i x hx b e]; omega))
      gv := vb }
  · exact (k.mono (S' := m.has) (fun _ h => h.elim)).trans (Keeps.setCell _ _ _ (.inl rfl)) (fun b hb => .inl hb)
  · rcases has_setV hb with h | h
    · exact .inl h
    · exact .inr (hv.lt b h).1

/-- one version more, whole -/
structure PushV (w : World) (base : Nat) (m : MRef) (a : Option Addr) (cap : Nat) (p : ByteArray × Ver) (a5 : Option Addr) (c5 : Nat) (W5 : World) : Prop where
  c6 : w.cell? ⟨m.sb, 6, none⟩ = some (.slice a m.vers.length cap)
  app : (Builtin.append_ #[156, 156] 156 #[.slice a m.vers.length cap, .slice (some ⟨w.heap.size, 0, none⟩) 1 1]).run Tryz.prog (w.alloc (.cells #[.int .i64 p.2.1, .string p.1, .string p.2.2.1, .bool p.2.2.2] 209)).drew = .ok (.slice a5 (m.vers.length + 1) c5) W5
  cell : W5.cell? ⟨m.sb, 6, none⟩ = some (.slice a m.vers.length cap)
  frz : W5.frozen? ⟨m.sb, 6, none⟩ = false
  old4 : W5.cell? ⟨m.sb, 4, none⟩ = w.cell? ⟨m.sb, 4, none⟩
  old : ∀ b, b < w.heap.size → ¬ m.has b → (W5.setCell ⟨m.sb, 6, none⟩ (.slice a5 (m.vers.length + 1) c5)).heap[b]? = w.heap[b]?
  keep : ∀ b, b < w.heap.size → ¬ m.vv.ownBlock = some b → W5.heap[b]? = w.heap[b]?
  is : RefIn (W5.setCell ⟨m.sb, 6, none⟩ (.slice a5 (m.vers.length + 1) c5)) base { m with vv := .slice a5 (m.vers.length + 1) c5, vers := m.vers ++ [p] }
  turn : RTurn w (W5.setCell ⟨m.sb, 6, none⟩ (.slice a5 (m.vers.length + 1) c5)) m { m with vv := .slice a5 (m.vers.length + 1) c5, vers := m.vers ++ [p] }

set_option maxRecDepth 100000 in
theorem RefIn.pushV (H : RefIn w base m) (p : ByteArray × Ver) (hl : m.vers.length ≤ 1099511627776) : ∃ a cap a5 c5 W5, PushV w base m a cap p a5 c5 W5 := by
  obtain ⟨tag, H⟩ := H
  obtain ⟨i0, hi0, hz0, hz1, hz2⟩ := info_parts info_rver
  obtain ⟨a5, c5, W5, G⟩ := grow_row rverCells (t := 156) rverCells_len (by omega) Tryz.underlying156 hi0 hz0 hz1 hz2 (by kernel_rfl) H.vr p (by simp [rverCells, Value.oneCell']) (Nat.le_of_lt (Nat.lt_of_le_of_lt H.hb (lt_of_heap H.own))) hl (by omega)
  obtain ⟨a, cap, ev, -⟩ := H.versAt
  have q6 := H.cell.2.2.2.2.2.2
  have hq2 : Quiet w ((w.alloc (.cells (rverCells p).toArray 209)).drew) := Quiet.trans' (Keeps.alloc _ _) (Keeps.drew _)
  have hK := keeps_grow G
  have hne : ¬ m.vv.ownBlock = some m.sb := fun e => by have h1 := H.gv _ e; have h2 := H.gb; omega
  have hown5 := (hK.block m.sb (lt_of_heap H.own) hne).trans H.own
  have hsz : ((w.alloc (.cells (rverCells p).toArray 209)).drew).heap.size = w.heap.size + 1 := by simp
  have R5 := (H.quiet hq2).setV G.gr G.row (fun b hb => by rw [hsz]; exact G.loc b hb)
  have hT : RTurn w (W5.setCell ⟨m.sb, 6, none⟩ (.slice a5 (m.vers.length + 1) c5)) m { m with vv := .slice a5 (m.vers.length + 1) c5, vers := m.vers ++ [p] } := by
    refine ⟨?_, fun b hb => ?_, rfl⟩
    · exact (hK.mono (S' := m.has) (fun b hb => .inl (.inr (.inr (.inl hb))))).trans (Keeps.setCell _ _ _ (.inl rfl)) (fun b hb => .inl hb)
    · rcases has_setV hb with h | h
      · exact .inl h
      · rcases G.loc b h with h | h
        · exact .inl (.inr (.inr (.inl h)))
        · exact .inr (Nat.le_of_lt h)
  refine ⟨a, cap, a5, c5, W5, ⟨by rw [q6, ev], by have := G.app; rw [ev] at this; exact this, ?_, frozen_of_heap hown5, ?_, fun b hb hn => hT.keeps.block b hb hn, fun b hb hn => hK.block b hb hn, ⟨_, R5⟩, hT⟩⟩
  · rw [cell_of_heap hown5, ← ev]; rfl
  · exact World.cell?_of_block (a := ⟨m.sb, 4, none⟩) (hK.block m.sb (lt_of_heap H.own) hne)

/-- a row of changes is made, and is what it has written -/
theorem RefIn.setWrsites (H : RefIn w base m) (hh : m.rs.hsOk) {w1 : World} (k : Quiet w w1) {i g : Nat} {x : MRTx} (hx : m.txs[i]? = some x) (hg : m.tv.ownBlock = some g) {v : Value} {L : List (ByteArray × Cont)} (hv : w1.ownsRow w.heap.size 66 3 v L.length (L.flatMap chgCells)) :
    RLeft w (w1.setCell ⟨g, i * 7 + 5, none⟩ v) base m { m.rs with txs := m.rs.txs.map (setWrs ((i : Int) + 1) L) } := by
  obtain ⟨tag, h⟩ := H
  have hb0 : base ≤ w.heap.size := Nat.le_of_lt (Nat.lt_of_le_of_lt h.hb (lt_of_heap h.own))
  have h1 := (h.tagNew 3).quiet k
  have vb : ∀ b, v.ownBlock = some b → tagNew w.heap.size 3 tag b = 3 := fun b e => tagNew_new (hv.lt b e).1
  refine ⟨{ m with txs := m.txs.set i ⟨{ x.r with wr := L }, v, x.rv⟩ }, ⟨_, h1.setTx (j := 5) (x' := ⟨{ x.r with wr := L }, v, x.rv⟩) hx hg (by omega) rfl (ownsRow_low hv hb0) (h1.rd i x hx) vb (h1.gr i x hx)⟩, ⟨?_, fun b hb => ?_, rfl⟩, ?_⟩
  · exact (k.mono (S' := m.has) (fun _ h => h.elim)).trans (Keeps.setCell _ _ _ (.inr (.inl hg))) (fun b hb => .inl hb)
  · rcases hb with h | h | h | ⟨k', y, hy, h⟩
    · exact .inl (.inl h)
    · exact .inl (.inr (.inl h))
    · exact .inl (.inr (.inr (.inl h)))
    · have hy' : (m.txs.set i _)[k']? = some y := hy
      rw [List.getElem?_set] at hy'
      split at hy'
      · split at hy'
        · obtain rfl := Option.some.inj hy'
          rcases h with h | h
          · exact .inr (hv.lt b h).1
          · exact .inl (.inr (.inr (.inr ⟨i, _, hx, .inr h⟩)))
        · cases hy'
      · exact .inl (.inr (.inr (.inr ⟨k', y, hy', h⟩)))
  · unfold MRef.rs
    simp only
    congr 1
    refine map_set_if (fun x : MRTx => x.r) (setWrs ((i : Int) + 1) L) (fun _ => True) m.txs i _ _ hx ?_ (fun j z hz hne => ?_)
    · unfold setWrs; rw [if_pos (hsOk_iff hh i _ hx)]
    · unfold setWrs; rw [if_neg (by rw [hsOk_iff hh j z hz]; omega)]

end
end Go.Proofs.YthfimgeopciiiaaGreat
