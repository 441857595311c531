/-
  The operations on maps, for a walk: what each does to a map's list of pairs.
-/
import Derived.Test.YthfimgeopciiiaaGreatBase
import Derived.Maps.RangeWalk
import Derived.Maps.OwnSet
import Derived.Test.YthfimgeopciiiaaGreatProg
import Derived.KernelRfl
import Derived.DeepKeys4
import Derived.WalkSpells
import Derived.WalkLawsBesides
import Derived.BigQuiet
import Derived.Deep.QuietTactic
namespace Go.Proofs.YthfimgeopciiiaaGreat
open Go.MapKept Go.ChangeMaps Go.Maps

section
variable {α β : Type} {K : Kind α} {vf : β → Value} {P : Program} (w : World) {ops : Array Oper} {rest : List Oper} {o : Oper} {a : Act} {Q : Exit → Act → World → Prop}

/-- kept from the walk -/
structure Box (p : Prop) : Prop where
  out : p

structure Bx (α : Type) where
  v : α

theorem RangeIs.left_eq {w : World} {b r : Nat} {l left : List (α × β)} (h : RangeIs K vf w b r l left) : w.rangeLeft b r = left.length := by
  obtain ⟨es, clock, since, seen, c0, hb, hs, hm, hok, hr, hold, hsc, hsk, hperm, hsub⟩ := h
  have := hperm.length_eq
  simp only [World.rangeLeft, hb, hr]
  simpa using this

theorem wpList_range_is (hg : o.guard = none) (m : Operand) (t : TypeId) (hop : o.op = Op.range t m) (kt et : TypeId) (ht : P.underlying t = some (.map kt et)) (b : Nat) (l : List (α × β))
    (hm : a.eval m = .map (some b)) (h : MapIs K vf w b l)
    (hK : ∀ w', RangeIs K vf w' b w.heap.size l l → Keeps (fun _ => False) w w' → w'.heap.size = w.heap.size + 1 → wpList P ops Q rest (a.put o.dst (.pointer (some ⟨w.heap.size, 0, none⟩))) w') :
    wpList P ops Q (o :: rest) a w := by
  refine wpList_plain hg fun K' hK' => ?_
  obtain ⟨w', hrun, r1, r2, r3⟩ := h.range ht
  unfold Oper.wp
  simp [execOp, hop, hm, hrun, Result.andThen]
  exact hK' _ _ (hK w' r1 r2 r3)

theorem wpList_next_is (hg : o.guard = none) (it : Operand) (hop : o.op = Op.next it false) (b r : Nat) (l left : List (α × β))
    (hit : a.eval it = .pointer (some ⟨r, 0, none⟩)) (h : RangeIs K vf w b r l left)
    (hDone : Box (left = [] → wpList P ops Q rest (a.put o.dst (.tuple #[.bool false])) w))
    (hMore : Box (∀ (x : Bx α) (y : Bx β) (left' : List (α × β)) (w' : World), left.Perm ((x.v, y.v) :: left') → (x.v, y.v) ∈ l → RangeIs K vf w' b r l left' → Keeps (fun x => x = r) w w' → w'.heap.size = w.heap.size →
      (Instr.entry (.pointer (some ⟨r, 0, none⟩))).run P w' = .ok (.tuple #[K.kf x.v, vf y.v]) w' → wpList P ops Q rest (a.put o.dst (.tuple #[.bool true, K.kf x.v, vf y.v])) w')) :
    wpList P ops Q (o :: rest) a w := by
  have hDone := hDone.out
  have hMore := hMore.out
  refine wpList_plain hg fun K' hK' => ?_
  unfold Oper.wp
  rcases h.next (P := P) o.type with ⟨h0, hrun⟩ | ⟨⟨x, y⟩, left', w', hp, hl, hrun, r1, r2, r3, r4⟩
  · simp [execOp, hop, hit, hrun, Result.andThen]
    exact hK' _ _ (hDone h0)
  · simp [execOp, hop, hit, hrun, Result.andThen]
    exact hK' _ _ (hMore ⟨x⟩ ⟨y⟩ left' w' hp hl r1 r2 r3 r4)

variable [DecidableEq α]

theorem wpList_update_is (hg : o.guard = none) (m x v : Operand) (t : TypeId) (hop : o.op = Op.mapUpdate t m x v) (kt et : TypeId) (G : K.Good P kt) (ht : P.underlying t = some (.map kt et)) (b : Nat) (l : List (α × β))
    (hm : a.eval m = .map (some b)) (h : MapIs K vf w b l) (kx : α) (hx : a.eval x = K.kf kx) (hok : K.ok kx) (vv : β) (hv : a.eval v = vf vv)
    (hK : ∀ w', MapIs K vf w' b (put l kx vv) → Keeps (fun x => x = b) w w' → w'.heap.size = w.heap.size → wpList P ops Q rest (a.put o.dst undef) w') :
    wpList P ops Q (o :: rest) a w := by
  refine wpList_plain hg fun K' hK' => ?_
  obtain ⟨ob, hrun, r1⟩ := h.update G ht hok vv
  unfold Oper.wp
  simp [execOp, hop, hm, hx, hv, hrun, Result.andThen]
  exact hK' _ _ (hK _ r1 (Keeps.setBlock (S := fun x => x = b) w b ob rfl) (by simp [setBlock]))

theorem wpList_delete_is (hg : o.guard = none) (m x : Operand) (t kt : TypeId) (hop : o.op = Op.call { callee := Callee.builtin Builtin.delete, args := #[m, x], argTypes := #[t, kt] }) (et : TypeId) (G : K.Good P kt) (ht : P.underlying t = some (.map kt et)) (b : Nat) (l : List (α × β))
    (hm : a.eval m = .map (some b)) (h : MapIs K vf w b l) (kx : α) (hx : a.eval x = K.kf kx) (hok : K.ok kx)
    (hK : ∀ w', MapIs K vf w' b (del l kx) → Keeps (fun x => x = b) w w' → w'.heap.size = w.heap.size → wpList P ops Q rest (a.put o.dst (.tuple #[])) w') :
    wpList P ops Q (o :: rest) a w := by
  refine wpList_plain hg fun K' hK' => ?_
  obtain ⟨ob, hrun, r1⟩ := h.delete G ht hok kt (ty := o.type)
  unfold Oper.wp
  simp [execOp, hop, resolve, invoke, builtin, hm, hx, hrun, Result.andThen]
  exact hK' _ _ (hK _ r1 (Keeps.setBlock (S := fun x => x = b) w b ob rfl) (by simp [setBlock]))

end
end Go.Proofs.YthfimgeopciiiaaGreat

/-
  The kinds of keys of the program's maps: handles (int), keys (string), entries of the reads (a struct of a bool and two strings).
-/
namespace Go.Proofs.YthfimgeopciiiaaGreat
open Go.MapKept Go.ChangeMaps Go.Maps Go.WideMaps

abbrev Cont := ByteArray × Bool
abbrev Ent := Bool × ByteArray × ByteArray
abbrev Ver := Int × ByteArray × Bool

def hk : Kind Int := ⟨fun n => .int .i64 n, fun n => (Lit.int .i64 n).wf = true⟩
def sk : Kind ByteArray := ⟨fun s => .string s, fun s => s.size ≤ maxLen⟩
def ek : Kind Ent := ⟨fun e => .agg #[.bool e.1, .string e.2.1, .string e.2.2], fun e => e.2.1.size ≤ maxLen ∧ e.2.2.size ≤ maxLen⟩

def ptrTo (b : Nat) : Value := .pointer (some ⟨b, 0, none⟩)
def contV (c : Cont) : Value := .agg #[.string c.1, .bool c.2]
def unitV (_ : Unit) : Value := .agg #[]

theorem hk_good : hk.Good Tryz.prog 3 :=
  ⟨int_keyed Tryz.underlying3, fun _ hx => ⟨_, keyOf_int_mk Tryz.underlying3 hx⟩, fun _ _ h => by simpa [hk] using h⟩

theorem sk_good : sk.Good Tryz.prog 9 :=
  ⟨string_keyed Tryz.underlying9, fun _ hx => ⟨_, WideMaps.keyOf_string_mk Tryz.underlying9 hx⟩, fun _ _ h => by simpa [sk] using h⟩

theorem laidOut : laidOutB Tryz.prog = true := by kernel_rfl
theorem ent_row : 213 < Tryz.prog.types.size := of_decide_eq_true (by kernel_rfl)
theorem ent_wide : (match Tryz.prog.underlying 213 with | some (.array _ _) | some (.struct _) => true | _ => false) = true := by kernel_rfl
theorem ent_keyType : Tryz.prog.keyType 213 = true := by kernel_rfl
theorem cells_ent : Tryz.prog.cellsOf 213 = 3 := by kernel_rfl
theorem cells_string : Tryz.prog.cellsOf 9 = 1 := by kernel_rfl
theorem cells_bool : Tryz.prog.cellsOf 4 = 1 := by kernel_rfl

theorem ent_lits (n : Nat) (hn : 2 ≤ n) (x : Bool) (lo hi : ByteArray) (h1 : lo.size ≤ maxLen) (h2 : hi.size ≤ maxLen) :
    Tryz.prog.keyLits n 213 [.bool x, .string lo, .string hi] = some [.bool x, .string lo.data.toList, .string hi.data.toList] := by
  obtain ⟨m, rfl⟩ : ∃ m, n = m + 2 := ⟨n - 2, by omega⟩
  simp [Program.keyLits, Tryz.underlying213, Tryz.underlying9, Tryz.underlying4, cells_ent, cells_string, cells_bool, h1, h2]

theorem ent_lit (e : Ent) (h : ek.ok e) : ∃ l, keyOf Tryz.prog 213 (ek.kf e) = some l := by
  obtain ⟨x, lo, hi⟩ := e
  obtain ⟨h1, h2⟩ := h
  refine ⟨.string (keyBytes [.bool x, .string lo.data.toList, .string hi.data.toList]), ?_⟩
  have hl := ent_lits (Tryz.prog.types.size + 1) (by have := ent_row; omega) x lo hi h1 h2
  simp only [keyOf, Tryz.underlying213, ent_keyType, ek]
  have hf : (Value.agg #[.bool x, .string lo, .string hi]).formed Tryz.prog 213 = true := by
    simp [Value.formed, Tryz.underlying213, cells_ent]
  simp only [hf, Bool.and_self, if_true, Value.cells]
  exact congrArg (Option.map _) hl

set_option maxRecDepth 100000 in
theorem ent_law : Keyed Tryz.prog 213 := Keyed.of_law (deep_law_laid laidOut (m := 2) (by decide) ent_row (by kernel_rfl) ent_wide)

theorem ek_good : ek.Good Tryz.prog 213 :=
  ⟨ent_law, ent_lit, fun ⟨_, _, _⟩ ⟨_, _, _⟩ h => by simpa [ek] using h⟩

end Go.Proofs.YthfimgeopciiiaaGreat

/-
  The program's small functions: what each answers; none writes anything that was there.
-/
namespace Go.Proofs.YthfimgeopciiiaaGreat
open Go.MapKept Go.ChangeMaps Go.Maps Go.RowKit

/-- nothing that was there is written -/
abbrev Quiet (w w' : World) : Prop := Keeps (fun _ => False) w w'

theorem Quiet.trans' {a b c : World} (h : Quiet a b) (k : Quiet b c) : Quiet a c := Keeps.trans h k (fun _ h => h.elim)

theorem quiet_drewN (w : World) (n : Nat) : Quiet w (w.drewN n) := ⟨rfl, rfl, rfl, Nat.le_refl _, fun _ _ _ => rfl⟩

theorem hidC {P : Program} {f : FuncId} {a : Array Value} {w : World} {R : Ending → World → Prop} (h : Calls P f a w R) : Hid (Calls P f a w R) := h

theorem ret_bool {a b : Bool} (h : a = b) : Ending.returned (.bool a) = .returned (.bool b) := by rw [h]
theorem ret_int {k : IntKind} {a b : Int} (h : a = b) : Ending.returned (.int k a) = .returned (.int k b) := by rw [h]

def bl (a b : ByteArray) : Bool := Op.bytesLess a.toList b.toList
def withinB (n m : Int) : Bool := decide (1 ≤ n) && decide (n ≤ m)
def keyB (k : ByteArray) : Bool := decide (1 ≤ k.size) && decide (k.size ≤ 4)
def coversB (e : Ent) (k : ByteArray) : Bool := if e.1 then !bl k e.2.1 && (e.2.2.toList.isEmpty || bl k e.2.2) else k.toList == e.2.1.toList
def rangeE (lo hi : ByteArray) : Int := if 4 < lo.size ∨ 4 < hi.size then 3 else if !hi.toList.isEmpty && !bl lo hi then 5 else 0
def configB (a b c d : Int) : Bool := withinB a 32 && withinB b 64 && withinB c 16 && withinB d 128

set_option maxHeartbeats 400000 in
theorem within_any (n m : Int) (w : World) :
    Calls Tryz.prog 112 #[.int .i64 n, .int .i64 m] w fun e w' => e = .returned (.bool (withinB n m)) ∧ w' = w := by
  go_enter Tryz.func112, Tryz.ntmps112
  go_wp2
  all_goals go_ret
  · exact ⟨ret_bool (by simp [withinB, *]), rfl⟩
  · exact ⟨ret_bool (by simp [withinB]; omega), rfl⟩

set_option maxHeartbeats 400000 in
theorem isKey_any (k : ByteArray) (w : World) :
    Calls Tryz.prog 147 #[.string k] w fun e w' => e = .returned (.bool (keyB k)) ∧ w' = w := by
  go_enter Tryz.func147, Tryz.ntmps147
  go_wp2_with (go_at_call 112; refine (within_any _ _ _).mono ?_; rintro e w' ⟨rfl, rfl⟩)
  go_ret
  refine ⟨ret_bool ?_, rfl⟩
  simp only [withinB, keyB]
  congr 1 <;> (rw [decide_eq_decide]; omega)

set_option maxRecDepth 100000 in
set_option maxHeartbeats 400000 in
theorem isConfig_any (a b c d : Int) (w : World) :
    Calls Tryz.prog 66 #[.agg #[.int .i64 a, .int .i64 b, .int .i64 c, .int .i64 d]] w fun e w' => e = .returned (.bool (configB a b c d)) ∧ Quiet w w' := by
  have eq : configB a b c d = decide ((1 ≤ a ∧ a ≤ 32) ∧ (1 ≤ b ∧ b ≤ 64) ∧ (1 ≤ c ∧ c ≤ 16) ∧ (1 ≤ d ∧ d ≤ 128)) := by
    rw [Bool.eq_iff_iff]; simp [configB, withinB]; omega
  have H : Hid (configB a b c d = decide ((1 ≤ a ∧ a ≤ 32) ∧ (1 ≤ b ∧ b ≤ 64) ∧ (1 ≤ c ∧ c ≤ 16) ∧ (1 ≤ d ∧ d ≤ 128))) := eq
  clear eq
  go_enter Tryz.func66, Tryz.ntmps66
  go_wp2
  all_goals go_ret
  all_goals refine ⟨ret_bool ?_, Keeps.alloc _ _⟩
  all_goals rw [H.out]
  all_goals first | (rw [decide_eq_decide]; omega) | (symm; rw [decide_eq_false_iff_not]; omega)

set_option maxHeartbeats 400000 in
theorem checkRange_any (lo hi : ByteArray) (w : World) :
    Calls Tryz.prog 129 #[.string lo, .string hi] w fun e w' => e = .returned (.int .i64 (rangeE lo hi)) ∧ w' = w := by
  go_enter Tryz.func129, Tryz.ntmps129
  go_wp2
  all_goals go_ret
  all_goals refine ⟨ret_int ?_, rfl⟩
  all_goals unfold rangeE bl
  · rw [if_pos (by omega)]
  · rw [if_neg (by omega)]; simp [*]
  · rw [if_neg (by omega), if_pos (by simp_all)]
  · rw [if_neg (by omega), if_neg (by simp_all)]
  · rw [if_pos (by omega)]

set_option maxRecDepth 100000 in
set_option maxHeartbeats 400000 in
theorem covers_any (x : Bool) (lo hi k : ByteArray) (w : World) :
    Calls Tryz.prog 204 #[.agg #[.bool x, .string lo, .string hi], .string k] w fun e w' => e = .returned (.bool (coversB (x, lo, hi) k)) ∧ Quiet w w' := by
  cases x
  · go_enter Tryz.func204, Tryz.ntmps204
    go_wp2
    go_ret
    exact ⟨ret_bool (by simp [coversB]), Keeps.alloc _ _⟩
  · go_enter Tryz.func204, Tryz.ntmps204
    go_wp2
    all_goals go_ret
    all_goals refine ⟨ret_bool ?_, Keeps.alloc _ _⟩
    all_goals simp [coversB, bl, *]

set_option maxRecDepth 100000 in
set_option maxHeartbeats 400000 in
theorem told_any (v : ByteArray) (g : Bool) (w : World) :
    Calls Tryz.prog 148 #[.agg #[.string v, .bool g]] w fun e w' => e = .returned (.tuple #[.string v, .bool (!g)]) ∧ Quiet w w' := by
  go_enter Tryz.func148, Tryz.ntmps148
  go_wp2
  go_region
  all_goals go_wp2
  all_goals go_ret2
  all_goals exact ⟨rfl, Quiet.trans' (Keeps.alloc w _) (Keeps.drew _)⟩

/-! ### A transaction's record -/

set_option maxHeartbeats 400000 in
theorem isActive_any (b : Nat) (c : Int) (w : World) (h : w.cell? ⟨b, 2, none⟩ = some (.int .i64 c)) :
    Calls Tryz.prog 144 #[.pointer (some ⟨b, 0, none⟩)] w fun e w' => e = .returned (.bool (c == 0)) ∧ w' = w := by
  go_enter Tryz.func144, Tryz.ntmps144
  go_wp2
  go_ret
  exact ⟨rfl, rfl⟩

theorem isActive_yes (b : Nat) (w : World) (h : w.cell? ⟨b, 2, none⟩ = some (.int .i64 0)) :
    Calls Tryz.prog 144 #[.pointer (some ⟨b, 0, none⟩)] w fun e w' => e = .returned (.bool true) ∧ w' = w :=
  (isActive_any b 0 w h).mono fun _ _ ⟨h1, h2⟩ => ⟨h1, h2⟩

theorem isActive_no (b : Nat) (c : Int) (w : World) (h : w.cell? ⟨b, 2, none⟩ = some (.int .i64 c)) (hc : c ≠ 0) :
    Calls Tryz.prog 144 #[.pointer (some ⟨b, 0, none⟩)] w fun e w' => e = .returned (.bool false) ∧ w' = w :=
  (isActive_any b c w h).mono fun _ _ ⟨h1, h2⟩ => ⟨by rw [h1]; exact ret_bool (by simpa using hc), h2⟩

def overlapsB (bt co : Int) : Bool := (co == 0) || decide (bt < co)

set_option maxRecDepth 100000 in
set_option maxHeartbeats 400000 in
theorem overlaps_any (t o : Nat) (bt co : Int) (w : World) (h1 : w.cell? ⟨t, 1, none⟩ = some (.int .i64 bt)) (h2 : w.cell? ⟨o, 2, none⟩ = some (.int .i64 co)) :
    Calls Tryz.prog 203 #[.pointer (some ⟨t, 0, none⟩), .pointer (some ⟨o, 0, none⟩)] w fun e w' => e = .returned (.bool (overlapsB bt co)) ∧ Quiet w w' := by
  by_cases hc : co = 0
  · subst hc
    go_enter Tryz.func203, Tryz.ntmps203
    go_wp2
    go_quiet ((go_at_call 144; exact Calls.quiet_of_same (isActive_yes _ _ h2)))
    go_wp2
    go_ret
    exact ⟨ret_bool (by simp [overlapsB]), quiet_drewN _ _⟩
  · have HC : Hid (co ≠ 0) := hc
    clear hc
    go_enter Tryz.func203, Tryz.ntmps203
    go_wp2
    go_quiet ((go_at_call 144; exact Calls.quiet_of_same (isActive_no _ co _ h2 HC.out)))
    go_wp2
    go_ret
    exact ⟨ret_bool (by simp [overlapsB, HC.out]), quiet_drewN _ _⟩

def comInB (c : Int) (i : Bool) : Bool := !(c == 0) && i

set_option maxRecDepth 100000 in
set_option maxHeartbeats 400000 in
theorem isCommittedIn_any (b : Nat) (c : Int) (i : Bool) (w : World) (h : w.cell? ⟨b, 2, none⟩ = some (.int .i64 c)) (h5 : w.cell? ⟨b, 5, none⟩ = some (.bool i)) :
    Calls Tryz.prog 159 #[.pointer (some ⟨b, 0, none⟩)] w fun e w' => e = .returned (.bool (comInB c i)) ∧ w' = w := by
  by_cases hc : c = 0
  · subst hc
    go_enter Tryz.func159, Tryz.ntmps159
    go_wp2_with (go_at_call 144; refine (isActive_yes _ _ h).mono ?_; rintro e w' ⟨rfl, rfl⟩)
    go_ret
    exact ⟨ret_bool (by simp [comInB]), rfl⟩
  · have HC : Hid (c ≠ 0) := hc
    clear hc
    go_enter Tryz.func159, Tryz.ntmps159
    go_wp2_with (go_at_call 144; refine (isActive_no _ c _ h HC.out).mono ?_; rintro e w' ⟨rfl, rfl⟩)
    go_ret
    exact ⟨ret_bool (by simp [comInB, HC.out]), rfl⟩

set_option maxRecDepth 100000 in
set_option maxHeartbeats 400000 in
theorem isCommittedOut_any (b : Nat) (c : Int) (i : Bool) (w : World) (h : w.cell? ⟨b, 2, none⟩ = some (.int .i64 c)) (h5 : w.cell? ⟨b, 6, none⟩ = some (.bool i)) :
    Calls Tryz.prog 218 #[.pointer (some ⟨b, 0, none⟩)] w fun e w' => e = .returned (.bool (comInB c i)) ∧ w' = w := by
  by_cases hc : c = 0
  · subst hc
    go_enter Tryz.func218, Tryz.ntmps218
    go_wp2_with (go_at_call 144; refine (isActive_yes _ _ h).mono ?_; rintro e w' ⟨rfl, rfl⟩)
    go_ret
    exact ⟨ret_bool (by simp [comInB]), rfl⟩
  · have HC : Hid (c ≠ 0) := hc
    clear hc
    go_enter Tryz.func218, Tryz.ntmps218
    go_wp2_with (go_at_call 144; refine (isActive_no _ c _ h HC.out).mono ?_; rintro e w' ⟨rfl, rfl⟩)
    go_ret
    exact ⟨ret_bool (by simp [comInB, HC.out]), rfl⟩

set_option maxHeartbeats 400000 in
theorem readPast_any (t o : Nat) (x y : Value) (w : World) (ht : w.cell? ⟨t, 6, none⟩ = some x) (ho : w.cell? ⟨o, 5, none⟩ = some y) (ft : w.frozen? ⟨t, 6, none⟩ = false) (fo : w.frozen? ⟨o, 5, none⟩ = false) :
    Calls Tryz.prog 160 #[.pointer (some ⟨t, 0, none⟩), .pointer (some ⟨o, 0, none⟩)] w fun e w' => e = .returned (.tuple #[]) ∧ w' = (w.setCell ⟨t, 6, none⟩ (.bool true)).setCell ⟨o, 5, none⟩ (.bool true) := by
  go_enter Tryz.func160, Tryz.ntmps160
  go_wp2
  go_end0
  exact ⟨rfl, rfl⟩

end Go.Proofs.YthfimgeopciiiaaGreat
