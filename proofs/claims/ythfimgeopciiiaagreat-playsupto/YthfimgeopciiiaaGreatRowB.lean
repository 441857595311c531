/-
  TwoU stores beside one another, and alike: does one call answer the same of both?
-/
import Derived.Test.YthfimgeopciiiaaGreatLwE
import Derived.Deep.Slices
import Derived.ProofKit
import Derived.Deep.Strs
import Derived.ReadAgain
import Derived.Conc.HoldsTime
namespace Go.Proofs.YthfimgeopciiiaaGreat
open Go.MapKept Go.ChangeMaps Go.Maps Go.RowKit Go.MuLone

/-- two stores of a call's own, apart -/
structure Pair (w0 w : World) (x y : Sto) : Prop where
  quiet : Quiet w0 w
  X : StAt w x
  Y : StAt w y
  mx : x.mu = 0
  my : y.mu = 0
  apart : ∀ b ∈ x.foot, b ∉ y.foot
  bx : ∀ b ∈ x.foot, w0.heap.size ≤ b
  by_ : ∀ b ∈ y.foot, w0.heap.size ≤ b

theorem Pair.turnX {w0 w w' : World} {x x' y : Sto} (P : Pair w0 w x y) (t : Turn x x' w w') : Pair w0 w' x' y where
  quiet := Quiet.of_new P.quiet t.keeps P.bx
  X := t.at_
  Y := P.Y.kept t.keeps (fun b hb hx => P.apart b hx hb)
  mx := t.mu.trans P.mx
  my := P.my
  apart := fun b hb hy => by
    rcases t.foot b hb with h | h
    · exact P.apart b h hy
    · have := P.Y.lt b hy; omega
  bx := fun b hb => by
    rcases t.foot b hb with h | h
    · exact P.bx b h
    · have := P.quiet.size; omega
  by_ := P.by_

theorem Pair.turnY {w0 w w' : World} {x y y' : Sto} (P : Pair w0 w x y) (t : Turn y y' w w') : Pair w0 w' x y' where
  quiet := Quiet.of_new P.quiet t.keeps P.by_
  X := P.X.kept t.keeps (fun b hb hy => P.apart b hb hy)
  Y := t.at_
  mx := P.mx
  my := t.mu.trans P.my
  apart := fun b hb hy => by
    rcases t.foot b hy with h | h
    · exact P.apart b hb h
    · have := P.X.lt b hb; omega
  bx := P.bx
  by_ := fun b hb => by
    rcases t.foot b hb with h | h
    · exact P.by_ b h
    · have := P.quiet.size; omega

theorem Pair.still {w0 w w' : World} {x y : Sto} (P : Pair w0 w x y) (k : Quiet w w') : Pair w0 w' x y :=
  ⟨Quiet.trans' P.quiet k, P.X.quiet k, P.Y.quiet k, P.mx, P.my, P.apart, P.bx, P.by_⟩

/-- x is y, cleaned up here and there; both are stores of the greatest configuration -/
structure TwoU (w0 w : World) (n : Int) (x y : Sto) : Prop where
  pair : Pair w0 w x y
  ix : x.abs.Inv n
  iy : y.abs.Inv n
  sim : ∃ M F, Sim x.abs y.abs M F
  c1 : y.abs.c1 = 32
  c2 : y.abs.c2 = 64
  c3 : y.abs.c3 = 16
  c4 : y.abs.c4 = 128

theorem TwoU.still {w0 w w' : World} {n : Int} {x y : Sto} (T : TwoU w0 w n x y) (k : Quiet w w') : TwoU w0 w' n x y := { T with pair := T.pair.still k }
theorem TwoU.mono {w0 w : World} {n m : Int} {x y : Sto} (T : TwoU w0 w n x y) (h : n ≤ m) : TwoU w0 w m x y := { T with ix := T.ix.mono h, iy := T.iy.mono h }

/-- room in y -/
structure Room (y : Sto) : Prop where
  txs : (y.abs.txs.length : Int) < 32
  reads : (y.abs.nReads : Int) < 64
  vers : (totV y.abs.vers : Int) + 16 ≤ 128

def stepV (kind t : Int) (key hi : ByteArray) (lv : Value) : Array Value := #[.int .i64 kind, .int .i64 t, .string key, .string hi, lv]

theorem keepXu {w W w' : World} {x x' y : Sto} (k : Quiet w W) (t : Turn x x' W w') : Keeps (fun b => b ∈ x.foot ∨ b ∈ y.foot) w w' := (k.mono (fun _ h => h.elim)).trans t.keeps (fun _ hb => .inl (.inl hb))
theorem keepY {w W w' : World} {x y y' : Sto} (k : Keeps (fun b => b ∈ x.foot ∨ b ∈ y.foot) w W) (t : Turn y y' W w') : Keeps (fun b => b ∈ x.foot ∨ b ∈ y.foot) w w' := k.trans t.keeps (fun _ hb => .inl (.inr hb))

/-- what alike leaves -/
def AlikeIs (w0 w : World) (n : Int) (x y : Sto) (kind : Int) (e : Ending) (w' : World) : Prop :=
  ∃ er x' y', e = .returned (.tuple #[.bool true, .int .i64 er]) ∧ Keeps (fun b => b ∈ x.foot ∨ b ∈ y.foot) w w' ∧ TwoU w0 w' (n + 1) x' y' ∧ x'.sb = x.sb ∧ y'.sb = y.sb ∧ (kind = 1 → er = 0 ∧ y'.abs.begun = y.abs.begun + 1) ∧ (kind ≠ 1 → y'.abs.begun = y.abs.begun)

theorem readR_begun (a : Abs) (t : Tx) (e : Ent) : (a.readR t e).2.begun = a.begun := by
  unfold Abs.readR
  split
  · rfl
  · split <;> rfl

theorem getR_begun (a : Abs) (h : Int) (k : ByteArray) : (a.getR h k).2.begun = a.begun := by
  unfold Abs.getR
  cases a.act? h with
  | none => rfl
  | some t =>
    simp only
    split
    · rfl
    · cases look t.wr k with
      | some c => rfl
      | none => simp only; split <;> exact readR_begun _ _ _

theorem scanR_begun (a : Abs) (h : Int) (lo hi : ByteArray) : (a.scanR h lo hi).2.begun = a.begun := by
  unfold Abs.scanR
  cases a.act? h with
  | none => rfl
  | some t =>
    simp only
    split
    · rfl
    · split <;> exact readR_begun _ _ _

theorem writeR_begun (a : Abs) (h : Int) (cs : List Chg) : (a.writeR h cs).2.begun = a.begun := by
  unfold Abs.writeR
  cases a.act? h with
  | none => rfl
  | some t =>
    simp only
    split
    · rfl
    · split
      · rfl
      · split
        · rfl
        · split <;> rfl

theorem abortR_begun (a : Abs) (h : Int) : (a.abortR h).2.begun = a.begun := by
  unfold Abs.abortR
  cases a.act? h <;> rfl

/-- the configuration is never turned -/
structure CfgEq (a b : Abs) : Prop where
  c1 : a.c1 = b.c1
  c2 : a.c2 = b.c2
  c3 : a.c3 = b.c3
  c4 : a.c4 = b.c4

theorem readR_cfg (a : Abs) (t : Tx) (e : Ent) : CfgEq (a.readR t e).2 a := by
  unfold Abs.readR
  split
  · exact ⟨rfl, rfl, rfl, rfl⟩
  · split <;> exact ⟨rfl, rfl, rfl, rfl⟩

theorem getR_cfg (a : Abs) (h : Int) (k : ByteArray) : CfgEq (a.getR h k).2 a := by
  unfold Abs.getR
  cases a.act? h with
  | none => exact ⟨rfl, rfl, rfl, rfl⟩
  | some t =>
    simp only
    split
    · exact ⟨rfl, rfl, rfl, rfl⟩
    · cases look t.wr k with
      | some c => exact ⟨rfl, rfl, rfl, rfl⟩
      | none => simp only; split <;> exact readR_cfg _ _ _

theorem scanR_cfg (a : Abs) (h : Int) (lo hi : ByteArray) : CfgEq (a.scanR h lo hi).2 a := by
  unfold Abs.scanR
  cases a.act? h with
  | none => exact ⟨rfl, rfl, rfl, rfl⟩
  | some t =>
    simp only
    split
    · exact ⟨rfl, rfl, rfl, rfl⟩
    · split <;> exact readR_cfg _ _ _

theorem writeR_cfg (a : Abs) (h : Int) (cs : List Chg) : CfgEq (a.writeR h cs).2 a := by
  unfold Abs.writeR
  cases a.act? h with
  | none => exact ⟨rfl, rfl, rfl, rfl⟩
  | some t =>
    simp only
    split
    · exact ⟨rfl, rfl, rfl, rfl⟩
    · split
      · exact ⟨rfl, rfl, rfl, rfl⟩
      · split
        · exact ⟨rfl, rfl, rfl, rfl⟩
        · split <;> exact ⟨rfl, rfl, rfl, rfl⟩

theorem abortR_cfg (a : Abs) (h : Int) : CfgEq (a.abortR h).2 a := by
  unfold Abs.abortR
  cases a.act? h <;> exact ⟨rfl, rfl, rfl, rfl⟩

theorem beginR_cfg (a : Abs) : CfgEq a.beginR.2 a := by
  unfold Abs.beginR
  split <;> exact ⟨rfl, rfl, rfl, rfl⟩

theorem TwoU.next {w0 w' w : World} {n n' : Int} {x y x' y' : Sto} (T : TwoU w0 w n x y) (P : Pair w0 w' x' y') (ix : x'.abs.Inv n') (iy : y'.abs.Inv n') (sim : ∃ M F, Sim x'.abs y'.abs M F) (hc : CfgEq y'.abs y.abs) : TwoU w0 w' n' x' y' :=
  ⟨P, ix, iy, sim, hc.c1.trans T.c1, hc.c2.trans T.c2, hc.c3.trans T.c3, hc.c4.trans T.c4⟩

/-- the step's own block, as long as only stores turn -/
def OAt (w : World) (N : Nat) (kind t : Int) (key hi : ByteArray) (lv : Value) : Prop := w.heap[N]? = some (.cells (stepV kind t key hi lv) 48)

theorem OAt.turn {w w' : World} {s s' : Sto} {N : Nat} {kind t : Int} {key hi : ByteArray} {lv : Value} (h : OAt w N kind t key hi lv) (T : Turn s s' w w') (hn : N ∉ s.foot) : OAt w' N kind t key hi lv :=
  (T.keeps.block N (lt_of_heap h) hn).trans h

set_option maxRecDepth 100000 in
set_option maxHeartbeats 4000000 in
theorem alike_get {w0 w : World} {n : Int} {x y : Sto} (T : TwoU w0 w n x y) (R : Room y) (_ : n < 2305843009213693952) (h : Int) (hw : (Lit.int .i64 h).wf = true) (t : Int) (key hi : ByteArray) (lv : Value) :
    Calls Tryz.prog 22 #[.pointer (some ⟨x.sb, 0, none⟩), .pointer (some ⟨y.sb, 0, none⟩), .int .i64 h, .agg (stepV 2 t key hi lv)] w (AlikeIs w0 w n x y 2) := by
  have hq1 : Quiet w (w.alloc (.cells (stepV 2 t key hi lv) 48)) := Keeps.alloc _ _
  have T1 := T.still hq1
  have hob : OAt (w.alloc (.cells (stepV 2 t key hi lv) 48)) w.heap.size 2 t key hi lv := heap_alloc_new w _
  have hnx : w.heap.size ∉ x.foot := fun hm => by have := T.pair.X.lt _ hm; omega
  have hszw : w.heap.size < (w.alloc (.cells (stepV 2 t key hi lv) 48)).heap.size := by simp
  obtain ⟨M, F, S⟩ := T.sim
  obtain ⟨he, S'⟩ := S.getR h key (by rw [T.c2]; exact R.reads)
  have HX : Hid (Calls Tryz.prog 52 #[.pointer (some ⟨x.sb, 0, none⟩), .int .i64 h, .string key] (w.alloc (.cells (stepV 2 t key hi lv) 48)) fun e w' => ∃ x', e = .returned (.tuple #[.string (y.abs.getR h key).1.1, .bool (y.abs.getR h key).1.2.1, .int .i64 (y.abs.getR h key).1.2.2]) ∧ OAt w' w.heap.size 2 t key hi lv ∧ Hid (Pair w0 w' x' y ∧ Keeps (fun b => b ∈ x.foot ∨ b ∈ y.foot) w w' ∧ x'.sb = x.sb ∧ x'.abs = (x.abs.getR h key).2)) :=
    (get_api T1.pair.X T1.pair.mx T1.ix h hw key).mono fun e w' ⟨x', h1, h2, h3⟩ => ⟨x', by rw [h1, he], hob.turn h2 hnx, T1.pair.turnX h2, keepXu hq1 h2, h2.sb, h3⟩
  have HY : Hid (∀ w2 x', Pair w0 w2 x' y ∧ Keeps (fun b => b ∈ x.foot ∨ b ∈ y.foot) w w2 ∧ x'.sb = x.sb ∧ x'.abs = (x.abs.getR h key).2 → Calls Tryz.prog 52 #[.pointer (some ⟨y.sb, 0, none⟩), .int .i64 h, .string key] w2 fun e w' => e = .returned (.tuple #[.string (y.abs.getR h key).1.1, .bool (y.abs.getR h key).1.2.1, .int .i64 (y.abs.getR h key).1.2.2]) ∧ Hid (AlikeIs w0 w n x y 2 (.returned (.tuple #[.bool true, .int .i64 (y.abs.getR h key).1.2.2])) w')) := fun w2 x' ⟨P, hkx, hsb, hxa⟩ =>
    (get_api P.Y P.my T.iy h hw key).mono fun e w' ⟨y', h1, h2, h3⟩ => ⟨h1, ⟨_, x', y', rfl, keepY hkx h2, T.next (P.turnY h2) (by rw [hxa]; exact (T.ix.getR h key).mono (by omega)) (by rw [h3]; exact (T.iy.getR h key).mono (by omega)) ⟨M, F, by rw [hxa, h3]; exact S'⟩ (by rw [h3]; exact getR_cfg _ _ _), hsb, h2.sb, fun e => absurd e (by decide), fun _ => by rw [h3]; exact getR_begun _ _ _⟩⟩
  generalize AlikeIs w0 w n x y 2 = AI at *
  generalize (y.abs.getR h key).1.1 = v1 at *
  generalize (y.abs.getR h key).1.2.1 = v2 at *
  generalize (y.abs.getR h key).1.2.2 = v3 at *
  have HO : Hid (∀ W, OAt W w.heap.size 2 t key hi lv → W.cell? ⟨w.heap.size, 0, none⟩ = some (.int .i64 2) ∧ W.cell? ⟨w.heap.size, 2, none⟩ = some (.string key)) := fun W hW => ⟨by rw [cell_of_heap hW]; rfl, by rw [cell_of_heap hW]; rfl⟩
  obtain ⟨o0, o2⟩ := HO.out _ hob
  clear T T1 S R hob hnx hq1 hszw
  unfold stepV at HX o0 o2 ⊢
  go_enter Tryz.func22, Tryz.ntmps22
  go_wp2_with (first
    | (go_at_call_of 52 (Value.pointer (some ⟨x.sb, 0, none⟩)); refine (HX.out).mono ?_; rintro e w2 ⟨x', rfl, hO2, hP2⟩; obtain ⟨b0, b2⟩ := HO.out _ hO2)
    | (go_at_call_of 52 (Value.pointer (some ⟨y.sb, 0, none⟩)); refine (HY.out _ _ hP2.out).mono ?_; rintro e w3 ⟨rfl, hA⟩))
  exact hA.out

set_option maxRecDepth 100000 in
set_option maxHeartbeats 4000000 in
theorem alike_abort {w0 w : World} {n : Int} {x y : Sto} (T : TwoU w0 w n x y) (_ : Room y) (_ : n < 2305843009213693952) (h : Int) (hw : (Lit.int .i64 h).wf = true) (t : Int) (key hi : ByteArray) (lv : Value) :
    Calls Tryz.prog 22 #[.pointer (some ⟨x.sb, 0, none⟩), .pointer (some ⟨y.sb, 0, none⟩), .int .i64 h, .agg (stepV 6 t key hi lv)] w (AlikeIs w0 w n x y 6) := by
  have hq1 : Quiet w (w.alloc (.cells (stepV 6 t key hi lv) 48)) := Keeps.alloc _ _
  have T1 := T.still hq1
  have hob : OAt (w.alloc (.cells (stepV 6 t key hi lv) 48)) w.heap.size 6 t key hi lv := heap_alloc_new w _
  have hnx : w.heap.size ∉ x.foot := fun hm => by have := T.pair.X.lt _ hm; omega
  have hszw : w.heap.size < (w.alloc (.cells (stepV 6 t key hi lv) 48)).heap.size := by simp
  obtain ⟨M, F, S⟩ := T.sim
  obtain ⟨he, S'⟩ := S.abortR h
  have HX : Hid (Calls Tryz.prog 42 #[.pointer (some ⟨x.sb, 0, none⟩), .int .i64 h] (w.alloc (.cells (stepV 6 t key hi lv) 48)) fun e w' => ∃ x', e = .returned (.int .i64 (y.abs.abortR h).1) ∧ OAt w' w.heap.size 6 t key hi lv ∧ Hid (Pair w0 w' x' y ∧ Keeps (fun b => b ∈ x.foot ∨ b ∈ y.foot) w w' ∧ x'.sb = x.sb ∧ x'.abs = (x.abs.abortR h).2)) :=
    (abort_api T1.pair.X T1.pair.mx h hw).mono fun e w' ⟨x', h1, h2, h3⟩ => ⟨x', by rw [h1, he], hob.turn h2 hnx, T1.pair.turnX h2, keepXu hq1 h2, h2.sb, h3⟩
  have HY : Hid (∀ w2 x', Pair w0 w2 x' y ∧ Keeps (fun b => b ∈ x.foot ∨ b ∈ y.foot) w w2 ∧ x'.sb = x.sb ∧ x'.abs = (x.abs.abortR h).2 → Calls Tryz.prog 42 #[.pointer (some ⟨y.sb, 0, none⟩), .int .i64 h] w2 fun e w' => e = .returned (.int .i64 (y.abs.abortR h).1) ∧ Hid (AlikeIs w0 w n x y 6 (.returned (.tuple #[.bool true, .int .i64 (y.abs.abortR h).1])) w')) := fun w2 x' ⟨P, hkx, hsb, hxa⟩ =>
    (abort_api P.Y P.my h hw).mono fun e w' ⟨y', h1, h2, h3⟩ => ⟨h1, ⟨_, x', y', rfl, keepY hkx h2, T.next (P.turnY h2) (by rw [hxa]; exact (T.ix.abortR h).mono (by omega)) (by rw [h3]; exact (T.iy.abortR h).mono (by omega)) ⟨M, F, by rw [hxa, h3]; exact S'⟩ (by rw [h3]; exact abortR_cfg _ _), hsb, h2.sb, fun e => absurd e (by decide), fun _ => by rw [h3]; exact abortR_begun _ _⟩⟩
  generalize AlikeIs w0 w n x y 6 = AI at *
  generalize (y.abs.abortR h).1 = v1 at *
  have HO : Hid (∀ W, OAt W w.heap.size 6 t key hi lv → W.cell? ⟨w.heap.size, 0, none⟩ = some (.int .i64 6) ∧ W.cell? ⟨w.heap.size, 1, none⟩ = some (.int .i64 t)) := fun W hW => ⟨by rw [cell_of_heap hW]; rfl, by rw [cell_of_heap hW]; rfl⟩
  obtain ⟨o0, o1⟩ := HO.out _ hob
  clear T T1 S hob hnx hq1 hszw
  unfold stepV at HX o0 o1 ⊢
  go_enter Tryz.func22, Tryz.ntmps22
  go_wp2_with (first
    | (go_at_call_of 42 (Value.pointer (some ⟨x.sb, 0, none⟩)); refine (HX.out).mono ?_; rintro e w2 ⟨x', rfl, hO2, hP2⟩; obtain ⟨b0, b1⟩ := HO.out _ hO2)
    | (go_at_call_of 42 (Value.pointer (some ⟨y.sb, 0, none⟩)); refine (HY.out _ _ hP2.out).mono ?_; rintro e w3 ⟨rfl, hA⟩))
  exact hA.out

set_option maxRecDepth 100000 in
set_option maxHeartbeats 4000000 in
theorem alike_write {w0 w : World} {n : Int} {x y : Sto} (T : TwoU w0 w n x y) (_ : Room y) (_ : n < 2305843009213693952) (h : Int) (hw : (Lit.int .i64 h).wf = true) (t : Int) (key hi : ByteArray) (lv : Value) (cs : List Chg) (hch : ChAt w0 lv cs) (hlb : ∀ b, heldBlock lv = some b → b < w0.heap.size) :
    Calls Tryz.prog 22 #[.pointer (some ⟨x.sb, 0, none⟩), .pointer (some ⟨y.sb, 0, none⟩), .int .i64 h, .agg (stepV 4 t key hi lv)] w (AlikeIs w0 w n x y 4) := by
  have hq1 : Quiet w (w.alloc (.cells (stepV 4 t key hi lv) 48)) := Keeps.alloc _ _
  have T1 := T.still hq1
  have hob : OAt (w.alloc (.cells (stepV 4 t key hi lv) 48)) w.heap.size 4 t key hi lv := heap_alloc_new w _
  have hnx : w.heap.size ∉ x.foot := fun hm => by have := T.pair.X.lt _ hm; omega
  have hszw : w.heap.size < (w.alloc (.cells (stepV 4 t key hi lv) 48)).heap.size := by simp
  obtain ⟨M, F, S⟩ := T.sim
  obtain ⟨he, S'⟩ := S.writeR h cs
  have hapx : ∀ b, heldBlock lv = some b → b ∉ x.foot := fun b hb hm => by have := hlb b hb; have := T.pair.bx b hm; omega
  have hapy : ∀ b, heldBlock lv = some b → b ∉ y.foot := fun b hb hm => by have := hlb b hb; have := T.pair.by_ b hm; omega
  have HX : Hid (Calls Tryz.prog 27 #[.pointer (some ⟨x.sb, 0, none⟩), .int .i64 h, lv] (w.alloc (.cells (stepV 4 t key hi lv) 48)) fun e w' => ∃ x', e = .returned (.int .i64 (y.abs.writeR h cs).1) ∧ OAt w' w.heap.size 4 t key hi lv ∧ Hid (Pair w0 w' x' y ∧ Keeps (fun b => b ∈ x.foot ∨ b ∈ y.foot) w w' ∧ x'.sb = x.sb ∧ x'.abs = (x.abs.writeR h cs).2)) :=
    (write_api T1.pair.X T1.pair.mx T1.ix h hw lv cs (hch.quiet T1.pair.quiet) hapx).mono fun e w' ⟨x', h1, h2, h3⟩ => ⟨x', by rw [h1, he], hob.turn h2 hnx, T1.pair.turnX h2, keepXu hq1 h2, h2.sb, h3⟩
  have HY : Hid (∀ w2 x', Pair w0 w2 x' y ∧ Keeps (fun b => b ∈ x.foot ∨ b ∈ y.foot) w w2 ∧ x'.sb = x.sb ∧ x'.abs = (x.abs.writeR h cs).2 → Calls Tryz.prog 27 #[.pointer (some ⟨y.sb, 0, none⟩), .int .i64 h, lv] w2 fun e w' => e = .returned (.int .i64 (y.abs.writeR h cs).1) ∧ Hid (AlikeIs w0 w n x y 4 (.returned (.tuple #[.bool true, .int .i64 (y.abs.writeR h cs).1])) w')) := fun w2 x' ⟨P, hkx, hsb, hxa⟩ =>
    (write_api P.Y P.my T.iy h hw lv cs (hch.quiet P.quiet) hapy).mono fun e w' ⟨y', h1, h2, h3⟩ => ⟨h1, ⟨_, x', y', rfl, keepY hkx h2, T.next (P.turnY h2) (by rw [hxa]; exact (T.ix.writeR h cs).mono (by omega)) (by rw [h3]; exact (T.iy.writeR h cs).mono (by omega)) ⟨M, F, by rw [hxa, h3]; exact S'⟩ (by rw [h3]; exact writeR_cfg _ _ _), hsb, h2.sb, fun e => absurd e (by decide), fun _ => by rw [h3]; exact writeR_begun _ _ _⟩⟩
  generalize AlikeIs w0 w n x y 4 = AI at *
  generalize (y.abs.writeR h cs).1 = v1 at *
  have HO : Hid (∀ W, OAt W w.heap.size 4 t key hi lv → W.cell? ⟨w.heap.size, 0, none⟩ = some (.int .i64 4) ∧ W.cell? ⟨w.heap.size, 4, none⟩ = some (lv)) := fun W hW => ⟨by rw [cell_of_heap hW]; rfl, by rw [cell_of_heap hW]; rfl⟩
  obtain ⟨o0, o4⟩ := HO.out _ hob
  clear T T1 S hob hnx hq1 hszw
  unfold stepV at HX o0 o4 ⊢
  go_enter Tryz.func22, Tryz.ntmps22
  go_wp2_with (first
    | (go_at_call_of 27 (Value.pointer (some ⟨x.sb, 0, none⟩)); refine (HX.out).mono ?_; rintro e w2 ⟨x', rfl, hO2, hP2⟩; obtain ⟨b0, b4⟩ := HO.out _ hO2)
    | (go_at_call_of 27 (Value.pointer (some ⟨y.sb, 0, none⟩)); refine (HY.out _ _ hP2.out).mono ?_; rintro e w3 ⟨rfl, hA⟩))
  exact hA.out

set_option maxRecDepth 100000 in
set_option maxHeartbeats 4000000 in
theorem alike_begin {w0 w : World} {n : Int} {x y : Sto} (T : TwoU w0 w n x y) (R : Room y) (hn : n < 2305843009213693952) (h : Int) (t : Int) (key hi : ByteArray) (lv : Value) :
    Calls Tryz.prog 22 #[.pointer (some ⟨x.sb, 0, none⟩), .pointer (some ⟨y.sb, 0, none⟩), .int .i64 h, .agg (stepV 1 t key hi lv)] w (AlikeIs w0 w n x y 1) := by
  have hq1 : Quiet w (w.alloc (.cells (stepV 1 t key hi lv) 48)) := Keeps.alloc _ _
  have T1 := T.still hq1
  have hob : OAt (w.alloc (.cells (stepV 1 t key hi lv) 48)) w.heap.size 1 t key hi lv := heap_alloc_new w _
  have hnx : w.heap.size ∉ x.foot := fun hm => by have := T.pair.X.lt _ hm; omega
  have hszw : w.heap.size < (w.alloc (.cells (stepV 1 t key hi lv) 48)).heap.size := by simp
  obtain ⟨M, F, S⟩ := T.sim
  obtain ⟨he, he0, S'⟩ := S.beginR (by rw [T.c1]; exact R.txs)
  have hbg : y.abs.beginR.2.begun = y.abs.begun + 1 := by unfold Abs.beginR; rw [if_neg (by have := R.txs; rw [T.c1]; omega)]
  have HX : Hid (Calls Tryz.prog 26 #[.pointer (some ⟨x.sb, 0, none⟩)] (w.alloc (.cells (stepV 1 t key hi lv) 48)) fun e w' => ∃ x', e = .returned (.tuple #[.int .i64 y.abs.beginR.1.1, .int .i64 y.abs.beginR.1.2]) ∧ OAt w' w.heap.size 1 t key hi lv ∧ Hid (Pair w0 w' x' y ∧ Keeps (fun b => b ∈ x.foot ∨ b ∈ y.foot) w w' ∧ x'.sb = x.sb ∧ x'.abs = x.abs.beginR.2)) :=
    (begin_api T1.pair.X T1.pair.mx T1.ix hn).mono fun e w' ⟨x', h1, h2, h3⟩ => ⟨x', by rw [h1, he], hob.turn h2 hnx, T1.pair.turnX h2, keepXu hq1 h2, h2.sb, h3⟩
  have HY : Hid (∀ w2 x', Pair w0 w2 x' y ∧ Keeps (fun b => b ∈ x.foot ∨ b ∈ y.foot) w w2 ∧ x'.sb = x.sb ∧ x'.abs = x.abs.beginR.2 → Calls Tryz.prog 26 #[.pointer (some ⟨y.sb, 0, none⟩)] w2 fun e w' => e = .returned (.tuple #[.int .i64 y.abs.beginR.1.1, .int .i64 y.abs.beginR.1.2]) ∧ Hid (AlikeIs w0 w n x y 1 (.returned (.tuple #[.bool true, .int .i64 y.abs.beginR.1.2])) w')) := fun w2 x' ⟨P, hkx, hsb, hxa⟩ =>
    (begin_api P.Y P.my T.iy hn).mono fun e w' ⟨y', h1, h2, h3⟩ => ⟨h1, ⟨_, x', y', rfl, keepY hkx h2, T.next (P.turnY h2) (by rw [hxa]; exact T.ix.beginR) (by rw [h3]; exact T.iy.beginR) ⟨M, F, by rw [hxa, h3]; exact S'⟩ (by rw [h3]; exact beginR_cfg _), hsb, h2.sb, fun _ => ⟨he0, by rw [h3]; exact hbg⟩, fun e => absurd rfl e⟩⟩
  generalize AlikeIs w0 w n x y 1 = AI at *
  generalize y.abs.beginR.1.1 = v1 at *
  generalize y.abs.beginR.1.2 = v2 at *
  have HO : Hid (∀ W, OAt W w.heap.size 1 t key hi lv → W.cell? ⟨w.heap.size, 0, none⟩ = some (.int .i64 1) ∧ W.cell? ⟨w.heap.size, 1, none⟩ = some (.int .i64 t)) := fun W hW => ⟨by rw [cell_of_heap hW]; rfl, by rw [cell_of_heap hW]; rfl⟩
  obtain ⟨o0, o1⟩ := HO.out _ hob
  clear he0 T T1 S R hob hnx hq1 hszw
  unfold stepV at HX o0 o1 ⊢
  go_enter Tryz.func22, Tryz.ntmps22
  go_wp2_with (first
    | (go_at_call_of 26 (Value.pointer (some ⟨x.sb, 0, none⟩)); refine (HX.out).mono ?_; rintro e w2 ⟨x', rfl, hO2, hP2⟩; obtain ⟨b0, b1⟩ := HO.out _ hO2)
    | (go_at_call_of 26 (Value.pointer (some ⟨y.sb, 0, none⟩)); refine (HY.out _ _ hP2.out).mono ?_; rintro e w3 ⟨rfl, hA⟩))
  exact hA.out

/-- commit, of both -/
theorem Sim.commR {X Y : Abs} {M n : Int} {F : Int → Bool} (S : Sim X Y M F) (IX : X.Inv n) (IY : Y.Inv n) (h : Int) (hc4 : Y.c4 = 128) (hc3 : Y.c3 = 16) (hroom : (totV Y.vers : Int) + 16 ≤ 128) :
    (X.commR h).1 = (Y.commR h).1 ∧ ∀ X' Y', CommAns X (X.commR h) X' → CommAns Y (Y.commR h) Y' → Sim X' Y' M F ∧ X'.Inv (n + 1) ∧ Y'.Inv (n + 1) ∧ Y'.begun = Y.begun ∧ CfgEq Y' Y := by
  have hax := S.act_eq h
  unfold Abs.commR
  rw [hax]
  cases ha : Y.act? h with
  | none =>
    refine ⟨rfl, fun X' Y' h1 h2 => ?_⟩
    rw [h1.no rfl, h2.no rfl]
    exact ⟨S, IX.mono (by omega), IY.mono (by omega), rfl, rfl, rfl, rfl, rfl⟩
  | some t =>
    obtain ⟨m1, m2, m3⟩ := act_mem' ha
    obtain ⟨x1, _, _⟩ := act_mem' (hax.trans ha)
    have hwl := IY.writes t m1
    have htot := S.tot
    by_cases hio : (t.i && t.o) = true
    · simp only [hio, if_true]
      refine ⟨trivial, fun X' Y' h1 h2 => ?_⟩
      rw [h1.no rfl, h2.no rfl]
      exact ⟨S.without _, (IX.without _).mono (by omega), (IY.without _).mono (by omega), rfl, rfl, rfl, rfl, rfl⟩
    · have f1 : ¬ X.c4 < (totV X.vers : Int) + t.wr.length := by rw [S.c4, hc4]; omega
      have f2 : ¬ Y.c4 < (totV Y.vers : Int) + t.wr.length := by rw [hc4]; omega
      simp only
      rw [if_neg hio, if_neg f1, if_neg hio, if_neg f2]
      refine ⟨rfl, fun X' Y' h1 h2 => ?_⟩
      have CX := h1.yes t rfl
      have CY := h2.yes t rfl
      have hF : F t.h = false := by
        cases hf : F t.h with
        | false => rfl
        | true => exact absurd m3 (S.old t m1 hf).1
      exact ⟨S.comm (IY.wnd t m1) IY.clock.1 CX CY hF, IX.comm x1 (by omega) CX, IY.comm m1 (by omega) CY, CY.begun, CY.c1, CY.c2, CY.c3, CY.c4⟩

set_option maxRecDepth 100000 in
set_option maxHeartbeats 4000000 in
theorem alike_commit {w0 w : World} {n : Int} {x y : Sto} (T : TwoU w0 w n x y) (R : Room y) (hn : n < 2305843009213693952) (h : Int) (hw : (Lit.int .i64 h).wf = true) (t : Int) (key hi : ByteArray) (lv : Value) :
    Calls Tryz.prog 22 #[.pointer (some ⟨x.sb, 0, none⟩), .pointer (some ⟨y.sb, 0, none⟩), .int .i64 h, .agg (stepV 5 t key hi lv)] w (AlikeIs w0 w n x y 5) := by
  have hq1 : Quiet w (w.alloc (.cells (stepV 5 t key hi lv) 48)) := Keeps.alloc _ _
  have T1 := T.still hq1
  have hob : OAt (w.alloc (.cells (stepV 5 t key hi lv) 48)) w.heap.size 5 t key hi lv := heap_alloc_new w _
  have hnx : w.heap.size ∉ x.foot := fun hm => by have := T.pair.X.lt _ hm; omega
  obtain ⟨M, F, S⟩ := T.sim
  obtain ⟨he, hS'⟩ := S.commR T.ix T.iy h T.c4 T.c3 R.vers
  have HX : Hid (Calls Tryz.prog 25 #[.pointer (some ⟨x.sb, 0, none⟩), .int .i64 h] (w.alloc (.cells (stepV 5 t key hi lv) 48)) fun e w' => ∃ x', e = .returned (.int .i64 (y.abs.commR h).1) ∧ OAt w' w.heap.size 5 t key hi lv ∧ Hid (Pair w0 w' x' y ∧ Keeps (fun b => b ∈ x.foot ∨ b ∈ y.foot) w w' ∧ x'.sb = x.sb ∧ CommAns x.abs (x.abs.commR h) x'.abs)) :=
    (commit_api T1.pair.X T1.pair.mx T1.ix hn h hw).mono fun e w' ⟨x', h1, h2, h3⟩ => ⟨x', by rw [h1, he], hob.turn h2 hnx, T1.pair.turnX h2, keepXu hq1 h2, h2.sb, h3⟩
  have HY : Hid (∀ w2 x', Pair w0 w2 x' y ∧ Keeps (fun b => b ∈ x.foot ∨ b ∈ y.foot) w w2 ∧ x'.sb = x.sb ∧ CommAns x.abs (x.abs.commR h) x'.abs → Calls Tryz.prog 25 #[.pointer (some ⟨y.sb, 0, none⟩), .int .i64 h] w2 fun e w' => e = .returned (.int .i64 (y.abs.commR h).1) ∧ Hid (AlikeIs w0 w n x y 5 (.returned (.tuple #[.bool true, .int .i64 (y.abs.commR h).1])) w')) := fun w2 x' ⟨P, hkx, hsb, hxa⟩ =>
    (commit_api P.Y P.my T.iy hn h hw).mono fun e w' ⟨y', h1, h2, h3⟩ => by
      obtain ⟨a1, a2, a3, a4, a5⟩ := hS' _ _ hxa h3
      exact ⟨h1, ⟨_, x', y', rfl, keepY hkx h2, T.next (P.turnY h2) a2 a3 ⟨M, F, a1⟩ a5, hsb, h2.sb, fun e => absurd e (by decide), fun _ => a4⟩⟩
  generalize AlikeIs w0 w n x y 5 = AI at *
  generalize (y.abs.commR h).1 = v1 at *
  have HO : Hid (∀ W, OAt W w.heap.size 5 t key hi lv → W.cell? ⟨w.heap.size, 0, none⟩ = some (.int .i64 5) ∧ W.cell? ⟨w.heap.size, 1, none⟩ = some (.int .i64 t)) := fun W hW => ⟨by rw [cell_of_heap hW]; rfl, by rw [cell_of_heap hW]; rfl⟩
  obtain ⟨o0, o1⟩ := HO.out _ hob
  clear T T1 S R hob hnx hq1 hS' he
  unfold stepV at HX o0 o1 ⊢
  go_enter Tryz.func22, Tryz.ntmps22
  go_wp2_with (first
    | (go_at_call_of 25 (Value.pointer (some ⟨x.sb, 0, none⟩)); refine (HX.out).mono ?_; rintro e w2 ⟨x', rfl, hO2, hP2⟩; obtain ⟨b0, b1⟩ := HO.out _ hO2)
    | (go_at_call_of 25 (Value.pointer (some ⟨y.sb, 0, none⟩)); refine (HY.out _ _ hP2.out).mono ?_; rintro e w3 ⟨rfl, hA⟩))
  exact hA.out

theorem prSl_len {N : Nat} {w : World} {v : Value} {l : List (ByteArray × ByteArray)} (h : PrSl N w v l) : l.length ≤ maxLen := by
  rcases h.2 with ⟨_, h0⟩ | ⟨g, cap, cur, _, _, _, h1, h2, _⟩
  · rw [h0]; exact Nat.zero_le _
  · exact Nat.le_trans h1 h2

set_option maxRecDepth 100000 in
set_option maxHeartbeats 4000000 in
theorem alike_scan {w0 w : World} {n : Int} {x y : Sto} (T : TwoU w0 w n x y) (R : Room y) (h : Int) (hw : (Lit.int .i64 h).wf = true) (t : Int) (key hi : ByteArray) (lv : Value) :
    Calls Tryz.prog 22 #[.pointer (some ⟨x.sb, 0, none⟩), .pointer (some ⟨y.sb, 0, none⟩), .int .i64 h, .agg (stepV 3 t key hi lv)] w (AlikeIs w0 w n x y 3) := by
  have hq1 : Quiet w (w.alloc (.cells (stepV 3 t key hi lv) 48)) := Keeps.alloc _ _
  have T1 := T.still hq1
  have hob : OAt (w.alloc (.cells (stepV 3 t key hi lv) 48)) w.heap.size 3 t key hi lv := heap_alloc_new w _
  have hnx : w.heap.size ∉ x.foot := fun hm => by have := T.pair.X.lt _ hm; omega
  have hsz1 : (w.alloc (.cells (stepV 3 t key hi lv) 48)).heap.size = w.heap.size + 1 := by simp
  obtain ⟨M, F, S⟩ := T.sim
  have hroom : (y.abs.nReads : Int) < y.abs.c2 := by rw [T.c2]; exact R.reads
  obtain ⟨he, S'⟩ := S.scanR h key hi hroom
  have HX : Hid (Calls Tryz.prog 41 #[.pointer (some ⟨x.sb, 0, none⟩), .int .i64 h, .string key, .string hi] (w.alloc (.cells (stepV 3 t key hi lv) 48)) fun e w' => ∃ v x', e = .returned (.tuple #[v, .int .i64 (y.abs.scanR h key hi).1.1]) ∧ OAt w' w.heap.size 3 t key hi lv ∧ Hid (∃ l, Pair w0 w' x' y ∧ Keeps (fun b => b ∈ x.foot ∨ b ∈ y.foot) w w' ∧ x'.sb = x.sb ∧ x'.abs = (x.abs.scanR h key hi).2 ∧ PrSl (w.heap.size + 1) w' v l ∧ ScanAns x.abs (x.abs.scanR h key hi) (rangeEnt key hi) l)) :=
    (scan_api T1.pair.X T1.pair.mx T1.ix h hw key hi).mono fun e w' ⟨v, x', l, h1, h2, h3, h4, h5⟩ => ⟨v, x', by rw [h1, he], hob.turn h2 hnx, l, T1.pair.turnX h2, keepXu hq1 h2, h2.sb, h3, by rw [hsz1] at h4; exact h4, h5⟩
  have HY : Hid (∀ w2 x' v l, Pair w0 w2 x' y ∧ Keeps (fun b => b ∈ x.foot ∨ b ∈ y.foot) w w2 ∧ x'.sb = x.sb ∧ x'.abs = (x.abs.scanR h key hi).2 ∧ PrSl (w.heap.size + 1) w2 v l ∧ ScanAns x.abs (x.abs.scanR h key hi) (rangeEnt key hi) l → Calls Tryz.prog 41 #[.pointer (some ⟨y.sb, 0, none⟩), .int .i64 h, .string key, .string hi] w2 fun e w' => ∃ u, e = .returned (.tuple #[u, .int .i64 (y.abs.scanR h key hi).1.1]) ∧
      Hid (Calls Tryz.prog 17 #[v, u] w' fun e w'' => e = .returned (.bool true) ∧ AlikeIs w0 w n x y 3 (.returned (.tuple #[.bool true, .int .i64 (y.abs.scanR h key hi).1.1])) w'')) := fun w2 x' v l ⟨P, hkx, hsb, hxa, hv, hl⟩ =>
    (scan_api P.Y P.my T.iy h hw key hi).mono fun e w' ⟨u, y', m, h1, h2, h3, h4, h5⟩ => by
      have hlm : l = m := S.scan_eq hroom hl h5
      subst hlm
      have hv' : PrSl (w.heap.size + 1) w' v l := ownsRow_of_block hv (fun b hb => h2.keeps.block b (hv.lt b hb).2 (fun hm => by have := T.pair.Y.lt b hm; have := (hv.lt b hb).1; omega))
      have hlen := prSl_len hv
      refine ⟨u, h1, (same_self w' v u l (PrAt.of_sl hv') (PrAt.of_sl h4) (by simp [maxLen] at hlen; omega)).mono fun e w'' ⟨g1, g2⟩ => ⟨g1, ⟨_, x', y', rfl, (keepY hkx h2).trans g2 (fun _ h => h.elim), T.next ((P.turnY h2).still g2) (by rw [hxa]; exact (T.ix.scanR h key hi).mono (by omega)) (by rw [h3]; exact (T.iy.scanR h key hi).mono (by omega)) ⟨M, F, by rw [hxa, h3]; exact S'⟩ (by rw [h3]; exact scanR_cfg _ _ _ _), hsb, h2.sb, fun e => absurd e (by decide), fun _ => by rw [h3]; exact scanR_begun _ _ _ _⟩⟩⟩
  generalize AlikeIs w0 w n x y 3 = AI at *
  generalize (y.abs.scanR h key hi).1.1 = v1 at *
  have HO : Hid (∀ W, OAt W w.heap.size 3 t key hi lv → W.cell? ⟨w.heap.size, 0, none⟩ = some (.int .i64 3) ∧ W.cell? ⟨w.heap.size, 2, none⟩ = some (.string key) ∧ W.cell? ⟨w.heap.size, 3, none⟩ = some (.string hi)) := fun W hW => ⟨by rw [cell_of_heap hW]; rfl, by rw [cell_of_heap hW]; rfl, by rw [cell_of_heap hW]; rfl⟩
  obtain ⟨o0, o2, o3⟩ := HO.out _ hob
  clear T T1 S S' R hob hnx hq1 he hroom hsz1
  unfold stepV at HX o0 o2 o3 ⊢
  go_enter Tryz.func22, Tryz.ntmps22
  go_wp2_with (first
    | (go_at_call_of 41 (Value.pointer (some ⟨x.sb, 0, none⟩)); refine (HX.out).mono ?_; rintro e w2 ⟨v, x', rfl, hO2, hP2⟩; obtain ⟨b0, b2, b3⟩ := HO.out _ hO2)
    | (go_at_call_of 41 (Value.pointer (some ⟨y.sb, 0, none⟩)); obtain ⟨l, hP3⟩ := hP2.out; refine (HY.out _ _ _ _ hP3).mono ?_; rintro e w3 ⟨u, rfl, hS3⟩)
    | (go_at_call 17; refine (hS3.out).mono ?_; rintro e w4 ⟨rfl, hA⟩))
  exact hA

set_option maxRecDepth 100000 in
set_option maxHeartbeats 4000000 in
theorem alike_other {w0 w : World} {n : Int} {x y : Sto} (T : TwoU w0 w n x y) (h : Int) (kind t : Int) (key hi : ByteArray) (lv : Value) (h1 : kind ≠ 1) (h2 : kind ≠ 2) (h3 : kind ≠ 3) (h4 : kind ≠ 4) (h5 : kind ≠ 5) (h6 : kind ≠ 6) :
    Calls Tryz.prog 22 #[.pointer (some ⟨x.sb, 0, none⟩), .pointer (some ⟨y.sb, 0, none⟩), .int .i64 h, .agg (stepV kind t key hi lv)] w (AlikeIs w0 w n x y kind) := by
  have hq1 : Quiet w (w.alloc (.cells (stepV kind t key hi lv) 48)) := Keeps.alloc _ _
  have HA : Hid (∀ er, AlikeIs w0 w n x y kind (.returned (.tuple #[.bool true, .int .i64 er])) (w.alloc (.cells (stepV kind t key hi lv) 48))) := fun er => ⟨er, x, y, rfl, hq1.mono (fun _ h => h.elim), (T.still hq1).mono (by omega), rfl, rfl, fun e => absurd e h1, fun _ => rfl⟩
  have hob : OAt (w.alloc (.cells (stepV kind t key hi lv) 48)) w.heap.size kind t key hi lv := heap_alloc_new w _
  have o0 : (w.alloc (.cells (stepV kind t key hi lv) 48)).cell? ⟨w.heap.size, 0, none⟩ = some (.int .i64 kind) := by rw [cell_of_heap hob]; rfl
  generalize AlikeIs w0 w n x y kind = AI at *
  clear T hob hq1
  unfold stepV at HA o0 ⊢
  go_enter Tryz.func22, Tryz.ntmps22
  go_wp2
  exact HA.out 0

/-- a step of a script, as it lies in memory -/
structure StepD where
  kind : Int
  t : Int
  key : ByteArray
  hi : ByteArray
  lv : Value
  cs : List Chg

structure StepOk (w : World) (s : StepD) : Prop where
  t : -9223372036854775808 ≤ s.t ∧ s.t ≤ 9223372036854775807
  ch : ChAt w s.lv s.cs
  lb : ∀ b, heldBlock s.lv = some b → b < w.heap.size

theorem alike_h {w0 w : World} {n : Int} {x y : Sto} (T : TwoU w0 w n x y) (R : Room y) (hn : n < 2305843009213693952) (h : Int) (hw : (Lit.int .i64 h).wf = true) (s : StepD) (hs : StepOk w0 s) :
    Calls Tryz.prog 22 #[.pointer (some ⟨x.sb, 0, none⟩), .pointer (some ⟨y.sb, 0, none⟩), .int .i64 h, .agg (stepV s.kind s.t s.key s.hi s.lv)] w (AlikeIs w0 w n x y s.kind) := by
  obtain ⟨kind, t, key, hi, lv, cs⟩ := s
  simp only
  by_cases h1 : kind = 1
  · subst h1; exact alike_begin T R hn h t key hi lv
  by_cases h2 : kind = 2
  · subst h2; exact alike_get T R hn h hw t key hi lv
  by_cases h3 : kind = 3
  · subst h3; exact alike_scan T R h hw t key hi lv
  by_cases h4 : kind = 4
  · subst h4; exact alike_write T R hn h hw t key hi lv cs hs.ch hs.lb
  by_cases h5 : kind = 5
  · subst h5; exact alike_commit T R hn h hw t key hi lv
  by_cases h6 : kind = 6
  · subst h6; exact alike_abort T R hn h hw t key hi lv
  exact alike_other T h kind t key hi lv h1 h2 h3 h4 h5 h6

theorem Sim.lookR {X Y : Abs} {M : Int} {F : Int → Bool} (S : Sim X Y M F) (h : Int) : X.lookR h = Y.lookR h := by
  unfold Abs.lookR; rw [S.act_eq h]

theorem newSto_inv (N L : Nat) : (newSto 32 64 16 128 N L).abs.Inv 0 where
  cfg := rfl
  txs := by simp [newSto, Sto.abs]
  reads := by simp [newSto, Sto.abs, Abs.nReads, sumN]
  writes := by simp [newSto, Sto.abs]
  vers := by simp [newSto, Sto.abs, totV, sumN]
  begun := by simp [newSto, Sto.abs]
  clock := by simp [newSto, Sto.abs]
  hs := by simp [newSto, Sto.abs]
  bgs := by simp [newSto, Sto.abs]
  nd := by simp [newSto, Sto.abs]
  wnd := by simp [newSto, Sto.abs]
  gone := by simp [newSto, Sto.abs]
  vgone := by simp [newSto, Sto.abs]
  vnd := by simp [newSto, Sto.abs]
  vne := by simp [newSto, Sto.abs]

theorem newSto_sim (N L N' L' : Nat) : Sim (newSto 32 64 16 128 N L).abs (newSto 32 64 16 128 N' L').abs 0 (fun _ => false) where
  c1 := rfl
  c2 := rfl
  c3 := rfl
  c4 := rfl
  clock := rfl
  begun := rfl
  txs := rfl
  old := by simp [newSto, Sto.abs]
  act := by simp [newSto, Sto.abs]
  clk := by simp [newSto, Sto.abs]
  fb := fun _ h => by cases h
  vs := fun _ => VSim.refl _ _
  tot := Nat.le_refl _

theorem newSto_foot {a b c d : Int} {N : Nat} : ∀ x ∈ (newSto a b c d N (N + 2)).foot, N ≤ x ∧ x < N + 3 := fun x hx => by
  simp [newSto, Sto.foot, Value.ownBlock] at hx; omega

end Go.Proofs.YthfimgeopciiiaaGreat

/-
  A script, as it comes in: read off the argument.
-/
namespace Go.Proofs.YthfimgeopciiiaaGreat
open Go.MapKept Go.ChangeMaps Go.Maps Go.RowKit Go.MuLone

/-- v is a script -/
structure ScriptAt (w : World) (v : Value) (l : List StepD) : Prop where
  sh : ∃ a cap, v = .slice a l.length cap ∧ (l = [] ∨ ∃ g o, a = some ⟨g, o, none⟩ ∧ g < w.heap.size ∧ ∀ i s, l[i]? = some s → w.cell? ⟨g, o + i * 5, none⟩ = some (.int .i64 s.kind) ∧ w.cell? ⟨g, o + i * 5 + 1, none⟩ = some (.int .i64 s.t) ∧ w.cell? ⟨g, o + i * 5 + 2, none⟩ = some (.string s.key) ∧ w.cell? ⟨g, o + i * 5 + 3, none⟩ = some (.string s.hi) ∧ w.cell? ⟨g, o + i * 5 + 4, none⟩ = some s.lv)
  ok : ∀ s ∈ l, StepOk w s
  len : l.length ≤ 140737488355328

theorem list_of {α : Type} (Q : Nat → α → Prop) : ∀ (n : Nat), (∀ i, i < n → ∃ x, Q i x) → ∃ l : List α, l.length = n ∧ ∀ i x, l[i]? = some x → Q i x
  | 0, _ => ⟨[], rfl, fun i x h => by simp at h⟩
  | n + 1, h => by
    obtain ⟨l, hl, hq⟩ := list_of Q n (fun i hi => h i (by omega))
    obtain ⟨x, hx⟩ := h n (by omega)
    refine ⟨l ++ [x], by simp [hl], fun i y hy => ?_⟩
    rw [List.getElem?_append] at hy
    split at hy
    · exact hq i y hy
    · rename_i hi
      have : i - l.length = 0 := by
        have := (List.getElem?_eq_some_iff.1 hy).1
        simp at this; omega
      rw [this] at hy
      simp at hy
      subst hy
      have : i = n := by omega
      rw [this]; exact hx

section
variable {H : Type} {enc : TypeId × Value → H} {W : World} {n : Nat} {cs : List Value} {x : DataW H × List MemPlace}

set_option maxRecDepth 100000 in
theorem trod_int3 (h : DataW.trod enc Tryz.prog W 0 (fun _ => true) true n 3 cs = some x) : ∃ k, cs = [.int .i64 k] ∧ (Lit.int .i64 k).wf = true := by
  cases n with
  | zero => simp [DataW.trod] at h
  | succ n =>
    rw [DataW.trod_step] at h
    unfold DataW.trodStep at h
    rw [Tryz.underlying3] at h
    split at h <;> simp_all

set_option maxRecDepth 100000 in
theorem trod_str (h : DataW.trod enc Tryz.prog W 0 (fun _ => true) true n 9 cs = some x) : ∃ k, cs = [.string k] ∧ k.size ≤ maxLen := by
  cases n with
  | zero => simp [DataW.trod] at h
  | succ n =>
    rw [DataW.trod_step] at h
    unfold DataW.trodStep at h
    rw [Tryz.underlying9] at h
    split at h <;> simp_all

set_option maxRecDepth 100000 in
theorem trod_bool (h : DataW.trod enc Tryz.prog W 0 (fun _ => true) true n 4 cs = some x) : ∃ k, cs = [.bool k] := by
  cases n with
  | zero => simp [DataW.trod] at h
  | succ n =>
    rw [DataW.trod_step] at h
    unfold DataW.trodStep at h
    rw [Tryz.underlying4] at h
    split at h <;> simp_all

end
end Go.Proofs.YthfimgeopciiiaaGreat

/-
  A script read off an argument; what a quiet call leaves.
-/
namespace Go.Proofs.YthfimgeopciiiaaGreat
open Go.MapKept Go.ChangeMaps Go.Maps Go.RowKit Go.MuLone Go.ChangeShapes Go.WideShapes
set_option linter.unusedVariables false

theorem cells66 : Tryz.prog.cellsOf 66 = 3 := by kernel_rfl
theorem cells48 : Tryz.prog.cellsOf 48 = 5 := by kernel_rfl
theorem cells46 : Tryz.prog.cellsOf 46 = 1 := by kernel_rfl
theorem cells9 : Tryz.prog.cellsOf 9 = 1 := by kernel_rfl
theorem cells4 : Tryz.prog.cellsOf 4 = 1 := by kernel_rfl
theorem cells3 : Tryz.prog.cellsOf 3 = 1 := by kernel_rfl
theorem bytes66 : Tryz.prog.bytesOf 66 = 40 := by kernel_rfl
theorem bytes48 : Tryz.prog.bytesOf 48 = 72 := by kernel_rfl

theorem weightsAll_mem {H : Type} {P : Program} {e : TypeId} : ∀ {l : List (DataW H)} {d : DataW H}, d ∈ l → ∀ n ∈ d.weights P e, n ∈ DataW.weightsAll P e l
  | x :: l, d, h, n, hn => by
    simp only [DataW.weightsAll, List.mem_append]
    rcases List.mem_cons.1 h with rfl | h
    · exact .inl hn
    · exact .inr (weightsAll_mem h n hn)

theorem cell_spot {W : World} {a : Addr} {v : Value} (h : W.cell? a = some v) : a.spot = none ∧ a.block < W.heap.size := by
  unfold World.cell? at h
  split at h
  · rename_i c t f hb
    split at h
    · cases h
    · rename_i hs
      exact ⟨by simpa using hs, by
        by_cases hlt : a.block < W.heap.size
        · exact hlt
        · rw [Array.getElem?_eq_none (by omega)] at hb; cases hb⟩
  · cases h

theorem add_none (g o i : Nat) : (⟨g, o, none⟩ : Addr).add i = ⟨g, o + i, none⟩ := by
  unfold Addr.add
  split
  · rename_i h; subst h; rfl
  · rfl

theorem reach_val : reachBytes ≤ 140737488355328 := by decide

section
variable {H : Type} {enc : TypeId × Value → H} {W : World} {n : Nat}

set_option maxRecDepth 100000 in
theorem changes_of {v : Value} {x : DataW H × List MemPlace} (h : DataW.trod enc Tryz.prog W 0 (fun _ => true) true n 46 [v] = some x) (hf : ∀ k ∈ x.1.weights Tryz.prog 46, k ≤ reachBytes) :
    ∃ cs, ChAt W v cs ∧ ∀ b, heldBlock v = some b → b < W.heap.size := by
  rcases Deep.open_slice Tryz.underlying46 h with ⟨h0, rfl⟩ | ⟨a, len, cap, m, n', D, Pl, hcs, _, hlc, _, hm, rfl, hel⟩
  · simp at h0; subst h0
    exact ⟨[], ⟨⟨none, 0, rfl, .inl rfl⟩, by simp⟩, fun b hb => by simp [heldBlock] at hb⟩
  · simp at hcs; subst hcs
    have hm' : m = cap := by simpa using hm
    clear hm
    have hlen : len * 40 ≤ reachBytes := by
      have := hf ((len + (m - len)) * 40) (by simp [DataW.weights, Tryz.underlying46, bytes66])
      have : len * 40 ≤ (len + (m - len)) * 40 := Nat.mul_le_mul_right _ (by omega)
      omega
    have hr := reach_val
    have each : ∀ i, i < len → ∃ q : Chg, W.cell? (a.add (i * 3)) = some (.string q.1) ∧ W.cell? (a.add (i * 3 + 1)) = some (.string q.2.1) ∧ W.cell? (a.add (i * 3 + 2)) = some (.bool q.2.2) := by
      intro i hi
      obtain ⟨cs', h1, h2⟩ := hel i (by omega)
      rw [cells66] at h1
      obtain ⟨_, hl, hcell⟩ := World.cells?_some h1
      obtain ⟨y0, y1, y2, k, _, _, g0, g1, g2⟩ := Deep.trod_struct3 Tryz.underlying66 h2
      match cs', hl with
      | [v0, v1, v2], _ =>
        simp [cells9, cells4] at g0 g1 g2
        obtain ⟨s0, e0, _⟩ := trod_str g0
        obtain ⟨s1, e1, _⟩ := trod_str g1
        obtain ⟨s2, e2⟩ := trod_bool g2
        simp at e0 e1 e2
        subst e0 e1 e2
        have c0 := hcell 0 (by omega)
        have c1 := hcell 1 (by omega)
        have c2 := hcell 2 (by omega)
        rw [Deep.add_add] at c0 c1 c2
        exact ⟨(s0, s1, s2), by simpa using c0, by simpa using c1, by simpa using c2⟩
    obtain ⟨cs, hl, hq⟩ := list_of _ len each
    by_cases h0 : len = 0
    · subst h0
      obtain rfl := List.eq_nil_of_length_eq_zero hl
      exact ⟨[], ⟨⟨some a, cap, rfl, .inl rfl⟩, by simp⟩, fun b hb => by simp [heldBlock] at hb⟩
    · obtain ⟨q0, c0, _⟩ := each 0 (by omega)
      obtain ⟨hsp, hblt⟩ := cell_spot c0
      obtain ⟨g, o, sp⟩ := a
      simp [Addr.add] at hsp hblt
      subst hsp
      refine ⟨cs, ⟨⟨some ⟨g, o, none⟩, cap, by rw [hl], .inr ⟨g, o, rfl, hblt, fun i x hx => ?_⟩⟩, by omega⟩, fun b hb => ?_⟩
      · obtain ⟨p0, p1, p2⟩ := hq i x hx
        rw [add_none] at p0 p1 p2
        exact ⟨p0, by rw [Nat.add_assoc]; exact p1, by rw [Nat.add_assoc]; exact p2⟩
      · obtain ⟨k, rfl⟩ : ∃ k, len = k + 1 := ⟨len - 1, by omega⟩
        simp [heldBlock] at hb
        omega

set_option maxRecDepth 100000 in
theorem script_of {v : Value} {d : DataW H} {ps : List MemPlace} (h : DataW.Trod enc Tryz.prog W 0 (fun _ => true) true 28 v d ps) (hv : ∃ a len cap, v = .slice a len cap) (hf : ∀ k ∈ d.weights Tryz.prog 28, k ≤ reachBytes) :
    ∃ l, ScriptAt W v l := by
  obtain ⟨a0, len0, cap0, rfl⟩ := hv
  obtain ⟨n, h⟩ := h
  have h' : DataW.trod enc Tryz.prog W 0 (fun _ => true) true n 28 [.slice a0 len0 cap0] = some (d, ps) := h
  rcases Deep.open_slice Tryz.underlying28 h' with ⟨h0, hx⟩ | ⟨a, len, cap, m, n', D, Pl, hcs, _, hlc, _, hm, hx, hel⟩
  · simp at h0
    obtain ⟨rfl, rfl, rfl⟩ := h0
    exact ⟨[], ⟨⟨none, 0, rfl, .inl rfl⟩, fun s hs => by simp at hs, by simp⟩⟩
  · simp at hcs
    obtain ⟨rfl, rfl, rfl⟩ := hcs
    simp only [Prod.mk.injEq] at hx
    obtain ⟨rfl, -⟩ := hx
    have hm' : m = cap0 := by simpa using hm
    clear hm
    have hr := reach_val
    have hlen : len0 * 72 ≤ reachBytes := by
      have := hf ((len0 + (m - len0)) * 72) (by simp [DataW.weights, Tryz.underlying28, bytes48])
      have : len0 * 72 ≤ (len0 + (m - len0)) * 72 := Nat.mul_le_mul_right _ (by omega)
      omega
    have each : ∀ i, i < len0 → ∃ q : StepD, (W.cell? (a.add (i * 5)) = some (.int .i64 q.kind) ∧ W.cell? (a.add (i * 5 + 1)) = some (.int .i64 q.t) ∧ W.cell? (a.add (i * 5 + 2)) = some (.string q.key) ∧ W.cell? (a.add (i * 5 + 3)) = some (.string q.hi) ∧ W.cell? (a.add (i * 5 + 4)) = some q.lv) ∧ StepOk W q := by
      intro i hi
      obtain ⟨cs', h1, h2⟩ := hel i (by omega)
      rw [cells48] at h1
      obtain ⟨_, hl, hcell⟩ := World.cells?_some h1
      obtain ⟨xs, k, _, hxy, _, hxl, hfi⟩ := DataW.trod_struct Tryz.underlying48 h2
      match xs, hxl, cs', hl with
      | [y0, y1, y2, y3, y4], _, [v0, v1, v2, v3, v4], _ =>
        have g0 := hfi 0 _ rfl
        have g1 := hfi 1 _ rfl
        have g2 := hfi 2 _ rfl
        have g3 := hfi 3 _ rfl
        have g4 := hfi 4 _ rfl
        simp [cells9, cells3, cells46] at g0 g1 g2 g3 g4
        obtain ⟨s0, e0, _⟩ := trod_int3 g0
        obtain ⟨s1, e1, w1⟩ := trod_int3 g1
        obtain ⟨s2, e2, _⟩ := trod_str g2
        obtain ⟨s3, e3, _⟩ := trod_str g3
        simp at e0 e1 e2 e3
        subst e0 e1 e2 e3
        simp only [Prod.mk.injEq] at hxy
        obtain ⟨cs, hch, hbl⟩ := changes_of g4 (fun k hk => hf k (by
          simp only [DataW.weights, Tryz.underlying28, List.mem_cons, List.mem_append]
          refine .inr (.inl (weightsAll_mem (d := D i) (List.mem_map.2 ⟨i, by simpa using hi, rfl⟩) k ?_))
          rw [hxy.1]
          simp only [DataW.weights, Tryz.underlying48, List.map_cons, List.map_nil, DataW.weightsEach, List.mem_append]
          simp [hk]))
        have c0 := hcell 0 (by omega)
        have c1 := hcell 1 (by omega)
        have c2 := hcell 2 (by omega)
        have c3 := hcell 3 (by omega)
        have c4 := hcell 4 (by omega)
        rw [Deep.add_add] at c0 c1 c2 c3 c4
        refine ⟨⟨s0, s1, s2, s3, v4, cs⟩, ⟨by simpa using c0, by simpa using c1, by simpa using c2, by simpa using c3, by simpa using c4⟩, ?_, hch, hbl⟩
        simpa [Lit.wf, IntKind.min, IntKind.max, IntKind.signed, IntKind.bits] using w1
    obtain ⟨l, hl, hq⟩ := list_of _ len0 each
    by_cases h0 : len0 = 0
    · subst h0
      obtain rfl := List.eq_nil_of_length_eq_zero hl
      exact ⟨[], ⟨⟨some a, cap0, rfl, .inl rfl⟩, fun s hs => by simp at hs, by simp⟩⟩
    · obtain ⟨q0, ⟨c0, _⟩, _⟩ := each 0 (by omega)
      obtain ⟨hsp, hblt⟩ := cell_spot c0
      obtain ⟨g, o, sp⟩ := a
      simp [Addr.add] at hsp hblt
      subst hsp
      refine ⟨l, ⟨⟨some ⟨g, o, none⟩, cap0, by rw [hl], .inr ⟨g, o, rfl, hblt, fun i x hx => ?_⟩⟩, fun s hs => ?_, by omega⟩⟩
      · obtain ⟨⟨p0, p1, p2, p3, p4⟩, _⟩ := hq i x hx
        rw [add_none] at p0 p1 p2 p3 p4
        simp only [Nat.add_assoc] at p0 p1 p2 p3 p4 ⊢
        exact ⟨p0, p1, p2, p3, p4⟩
      · obtain ⟨i, hi, e⟩ := List.mem_iff_getElem.1 hs
        exact (hq i s (by rw [List.getElem?_eq_getElem hi, e])).2

/-- what a quiet call leaves reads as it did -/
theorem sameAt_quiet {W W' : World} (q : Quiet W W') {p : MemPlace} (hp : p.block < W.heap.size) : W.sameAt W' p := by
  cases p with
  | cell b o =>
    show W'.cell? ⟨b, o, none⟩ = W.cell? ⟨b, o, none⟩
    exact World.cell?_of_block (q.block b hp (by simp))
  | map b => exact q.block b hp (by simp)

theorem trod_quiet {W W' : World} (q : Quiet W W') {t : TypeId} {v : Value} {d : DataW H} {ps : List MemPlace} (h : DataW.Trod enc Tryz.prog W 0 (fun _ => true) true t v d ps) (hps : ∀ p ∈ ps, p.block < W.heap.size) :
    DataW.Trod enc Tryz.prog W' 0 (fun _ => true) true t v d ps := by
  obtain ⟨n, h⟩ := h
  exact ⟨n, DataW.trod_carry n t _ _ h (fun p hp => sameAt_quiet q (hps p hp))⟩

theorem keptMem_quiet {W W' : World} (q : Quiet W W') (may : MemPlace → Prop) : W.keptMem W' may := by
  refine ⟨q.output, fun i hi => ?_⟩
  rw [q.block i hi (by simp)]
  cases hb : W.heap[i]? with
  | none => rfl
  | some o => cases o <;> simp
end

end Go.Proofs.YthfimgeopciiiaaGreat

/-
  From a call's contract to a row: a law that keeps its own counsel.
-/
namespace Go.Proofs.YthfimgeopciiiaaGreat
open Go.MapKept Go.ChangeMaps Go.Maps Go.RowKit Go.MuLone Go.ChangeShapes Go.WideShapes
set_option linter.unusedVariables false

theorem rowKids : Kids Tryz.prog (fun t => t < Tryz.prog.types.size) := kids_rows (by kernel_rfl) (by kernel_rfl)
theorem rowFull : ∀ (t : Nat) (e : TypeId), t < Tryz.prog.types.size → Tryz.prog.underlying t = some (TypeDesc.slice e) → 0 < Tryz.prog.cellsOf e := slices_full_of Tryz.prog (by kernel_rfl)

section
variable {H : Type} {enc : TypeId × Value → H}

theorem trodAll_quiet {W W' : World} (q : Quiet W W') : ∀ {ts : List TypeId} {vs : List Value} {ds : List (DataW H)} {ps : List MemPlace},
    DataW.TrodAll enc Tryz.prog W 0 (fun _ => true) true ts vs ds ps → (∀ p ∈ ps, p.block < W.heap.size) → DataW.TrodAll enc Tryz.prog W' 0 (fun _ => true) true ts vs ds ps
  | [], vs, ds, ps, h, _ => by
    obtain ⟨rfl, rfl, rfl⟩ := trodAll_nil h
    exact rfl
  | t :: ts, vs, ds, ps, h, hp => by
    obtain ⟨v, vs', d, ds', p, r, rfl, rfl, rfl, h1, h2⟩ := trodAll_cons h
    exact ⟨p, r, trod_quiet q h1 (fun x hx => hp x (by simp [hx])), trodAll_quiet q h2 (fun x hx => hp x (by simp [hx])), rfl⟩

/-- a call that was quiet and said true -/
theorem postWith_quiet {fn : Func} {s : ChangeSpec} {F : Stop.Interp} {W W' : World} {args : Array Value} {ds : List (DataW H)} {before : List MemPlace}
    (hW : DataW.Whole enc Tryz.prog fn.params.toList s.vars false W args.toList ds [] before) (hv : s.vars = []) (hr : fn.resultTypes = #[4])
    (hs : s.fn H (ds ++ []) = { results := [.lit (.bool true)], args := ds }) (q : Quiet W W') (hT : ∀ t ∈ fn.params.toList, t < Tryz.prog.types.size) :
    (OpenSpec.ofChange s).postWith enc Tryz.prog fn F (outsideKept [.timePasses]) false true false W args (.bool true) W' := by
  have hlt : ∀ p ∈ before, p.block < W.heap.size := fun p hp => hW.lt p hp
  have hW' := hW
  obtain ⟨p, r, hA, hV, rfl, hfz, _⟩ := hW
  rw [hv] at hV
  obtain rfl : r = [] := hV
  simp only [List.append_nil] at hlt hW'
  refine ⟨ds, [], p, [], p, [], hW', ?_, ?_, ?_, leftAs_later (by rw [q.os]; exact Go.ConcM.OsLater.refl _), keptMem_quiet q _⟩
  · show DataW.TrodAll enc Tryz.prog W' _ _ _ fn.resultTypes.toList _ (s.fn H (ds ++ [])).results []
    rw [hs, hr]
    exact trodAll_mk1 (shut_bool Tryz.underlying4 _)
  · show DataW.TrodAll enc Tryz.prog W' _ _ _ fn.params.toList _ (s.fn H (ds ++ [])).args p
    rw [hs]
    exact DataW.TrodAll.respare rowKids rowFull hT (trodAll_quiet q hA hlt) (fun x hx => by simpa using hlt x hx)
  · show DataW.TrodVars enc Tryz.prog W' _ s.vars (s.fn H (ds ++ [])).vars []
    rw [hs, hv]
    exact rfl

/-- from the contract to the row's own form -/
theorem leaving_of_calls {a : Assume} {C : Checked} {os : Os} {f : FuncId} {fn : Func} {s : ChangeSpec} {F : Stop.Interp} {conds : List PathCond} {apart fresh handsOn : Bool}
    (own : ownKnob C.prog.godebug = none) (started : os.Started) (noInit : C.prog.inits.idxOf? f = none) (hfn : C.prog.funcs[f]? = some fn)
    (witness : ∃ (w : World) (tape : Tape) (i : Input), w.os = os ∧ (w.forCall tape i).Shaped C.prog ∧ i.vars = [] ∧ Input.okWide C.prog (w.forCall tape i) .any w.heap.size f i ∧
      s.pre6 enc C.prog fn conds apart (w.forCall tape i).memory i.args ∧ a.holds C.prog (lone (Frame.enter C.prog f i.args .normal) [] (w.forCall tape i)))
    (runs : ∀ (W : World) (base : Nat) (args : Array Value) (ds gs : List (DataW H)) (before : List MemPlace),
      (∀ (j : Nat) t v, fn.params[j]? = some t → args[j]? = some v → Value.okWide C.prog W .any base t v) →
      DataW.Whole enc C.prog fn.params.toList s.vars apart W args.toList ds gs before →
      (DataW.weightsEach C.prog (fn.params.toList ++ s.plain.varTypes C.prog) (ds ++ gs)).all (· ≤ reachBytes) = true →
      Calls C.prog f args W fun e W' => ∃ v, e = .returned v ∧ (OpenSpec.ofChange s).postWith enc C.prog fn F (outsideKept [.timePasses]) apart fresh handsOn W args v W') :
    ReturnsInLeavingWide a C os f .any (s.pre6 enc C.prog fn conds apart) ((OpenSpec.ofChange s).postWith enc C.prog fn F (outsideKept [.timePasses]) apart fresh handsOn) := fun enter => by
  refine ReturnsInOpen.mono (fun m w t h => ⟨h.2.1, onlyLeaving_of_quiet h.1, h.2.2⟩) (fun _ h => h) (returnsInHanded_of_calls own started noInit witness ?_ enter)
  intro w tape i _ _ _ hok hpre _
  obtain ⟨_, _, _, fn', hfn', _, _, _, _, hval⟩ := hok
  have e : fn' = fn := Option.some.inj (hfn'.symm.trans hfn)
  subst e
  obtain ⟨⟨ds, gs, before, hw, hc⟩, hz⟩ := hpre
  have hw' := DataW.Whole.of_heap (w' := w.forCall tape i) (by rfl) hw
  refine (runs (w.forCall tape i) w.heap.size i.args ds gs before hval hw' (hz.weights hw)).mono ?_
  rintro e W' ⟨v, rfl, hp⟩
  exact postWith_blind hp
end

theorem slice_arg {P : Program} {W : World} {base : Nat} {t e : TypeId} {v : Value} (hu : P.underlying t = some (.slice e)) (h : Value.okWide P W .any base t v) : ∃ a len cap, v = .slice a len cap := by
  unfold Value.okWide at h
  rw [hu] at h
  simp only at h
  unfold Cell.okWide at h
  rw [hu] at h
  simp only at h
  unfold Cell.ok at h
  rw [hu] at h
  cases v <;> simp_all

theorem ownRow : ownKnob Tryz.prog.godebug = none := by kernel_rfl

end Go.Proofs.YthfimgeopciiiaaGreat
