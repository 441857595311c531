/-
  Texts that are kept are cloned: keys, ranges, contents.
-/
import Derived.Test.YthfimgeopciiiaaGreatAbort
import Derived.Test.YthfimgeopciiiaaGreatShelf
namespace Go.Proofs.YthfimgeopciiiaaGreat
open Go.MapKept Go.ChangeMaps Go.Maps Go.RowKit

theorem quiet_of_below {w w' : World} (h : Below w.heap.size w w') : Quiet w w' := ⟨h.os, h.tape, h.output, h.size, fun b hb _ => h.block b hb⟩

set_option maxHeartbeats 400000 in
theorem Clone_h (s : ByteArray) (w : World) (hs : s.size ≤ 281474976710656) : Calls Tryz.prog 162 #[.string s] w fun e w' => e = .returned (.string s) ∧ Quiet w w' := by
  have HC := hidC (Tryz.stringslite_Clone s w hs)
  go_enter Tryz.func162, Tryz.ntmps162
  go_wp2_with (go_at_call 206; refine (HC.out).mono ?_; rintro e w' ⟨rfl, hb⟩)
  go_ret
  exact ⟨rfl, quiet_of_below hb⟩

set_option maxRecDepth 100000 in
set_option maxHeartbeats 400000 in
theorem keyEntry_h (k : ByteArray) (w : World) (hs : k.size ≤ 281474976710656) : Calls Tryz.prog 149 #[.string k] w fun e w' => e = .returned (.agg #[.bool false, .string k, .string ⟨#[]⟩]) ∧ Quiet w w' := by
  have HC : Hid (∀ W, Calls Tryz.prog 162 #[.string k] W fun e w' => e = .returned (.string k) ∧ Quiet W w') := fun W => Clone_h k W hs
  go_enter Tryz.func149, Tryz.ntmps149
  go_wp2_with (go_at_call 162; refine (HC.out _).mono ?_; rintro e w1 ⟨rfl, hq⟩; have hb := newBlock_kept hq; have c0 := cell_of_heap (i := 0) hb; have c1 := cell_of_heap (i := 1) hb; have c2 := cell_of_heap (i := 2) hb; have f0 := frozen_of_heap (i := 0) hb; have f1 := frozen_of_heap (i := 1) hb; have f2 := frozen_of_heap (i := 2) hb; simp at c0 c1 c2)
  have e := set3 hb (.bool false) (.string k) (.string ⟨#[]⟩)
  have e0 := cell_of_heap (i := 0) e
  have e1 := cell_of_heap (i := 1) e
  have e2 := cell_of_heap (i := 2) e
  simp at e0 e1 e2
  exact bodyPost_ret (v := .agg #[.bool false, .string k, .string ⟨#[]⟩]) (by simp [results, Tryz.results149, go_sem, e0, e1, e2]) rfl ⟨rfl, quiet_set3 (Quiet.trans' (Keeps.alloc _ _) hq) (Nat.le_refl _) _ _ _⟩

set_option maxRecDepth 100000 in
set_option maxHeartbeats 400000 in
theorem rangeEntry_h (lo hi : ByteArray) (w : World) (hs : lo.size ≤ 281474976710656) (hs2 : hi.size ≤ 281474976710656) : Calls Tryz.prog 130 #[.string lo, .string hi] w fun e w' => e = .returned (.agg #[.bool true, .string lo, .string hi]) ∧ Quiet w w' := by
  have HC : Hid (∀ W, Calls Tryz.prog 162 #[.string lo] W fun e w' => e = .returned (.string lo) ∧ Quiet W w') := fun W => Clone_h lo W hs
  have HD : Hid (∀ W, Calls Tryz.prog 162 #[.string hi] W fun e w' => e = .returned (.string hi) ∧ Quiet W w') := fun W => Clone_h hi W hs2
  go_enter Tryz.func130, Tryz.ntmps130
  go_wp2_with fail
  refine (HC.out _).mono ?_
  rintro e w1 ⟨rfl, hq⟩
  go_wp2_with fail
  refine (HD.out _).mono ?_
  rintro e w2 ⟨rfl, hq2⟩
  have hb := newBlock_kept (Quiet.trans' hq hq2)
  have c0 := cell_of_heap (i := 0) hb
  have c1 := cell_of_heap (i := 1) hb
  have c2 := cell_of_heap (i := 2) hb
  have f0 := frozen_of_heap (i := 0) hb
  have f1 := frozen_of_heap (i := 1) hb
  have f2 := frozen_of_heap (i := 2) hb
  simp at c0 c1 c2
  go_wp2
  have e := set3 hb (.bool true) (.string lo) (.string hi)
  have e0 := cell_of_heap (i := 0) e
  have e1 := cell_of_heap (i := 1) e
  have e2 := cell_of_heap (i := 2) e
  simp at e0 e1 e2
  exact bodyPost_ret (v := .agg #[.bool true, .string lo, .string hi]) (by simp [results, Tryz.results130, go_sem, e0, e1, e2]) rfl ⟨rfl, quiet_set3 (Quiet.trans' (Keeps.alloc _ _) (Quiet.trans' hq hq2)) (Nat.le_refl _) _ _ _⟩

def contOf (c : Chg) : Cont := if c.2.2 then (⟨#[]⟩, true) else (c.2.1, false)

set_option maxRecDepth 100000 in
set_option maxHeartbeats 400000 in
theorem contentOf_h (k v : ByteArray) (g : Bool) (w : World) (hs : v.size ≤ 281474976710656) : Calls Tryz.prog 161 #[.agg #[.string k, .string v, .bool g]] w fun e w' => e = .returned (contV (contOf (k, v, g))) ∧ Quiet w w' := by
  have HC : Hid (∀ W, Calls Tryz.prog 162 #[.string v] W fun e w' => e = .returned (.string v) ∧ Quiet W w') := fun W => Clone_h v W hs
  have hq0 : Quiet w ((w.alloc (.cells #[.string k, .string v, .bool g] 66)).alloc (.cells #[.string ⟨#[]⟩, .bool false] 231)) := Quiet.trans' (Keeps.alloc _ _) (Keeps.alloc _ _)
  have hb0 : ((w.alloc (.cells #[.string k, .string v, .bool g] 66)).alloc (.cells #[.string ⟨#[]⟩, .bool false] 231)).heap[w.heap.size + 1]? = some (.cells #[.string ⟨#[]⟩, .bool false] 231) := by
    have := heap_alloc_new (w.alloc (.cells #[.string k, .string v, .bool g] 66)) (.cells #[.string ⟨#[]⟩, .bool false] 231)
    simpa using this
  cases g
  · go_enter Tryz.func161, Tryz.ntmps161
    go_wp2_with fail
    refine (HC.out _).mono ?_
    rintro e w1 ⟨rfl, hq⟩
    have hb := (hq.block (w.heap.size + 1) (by simp) (by simp)).trans hb0
    have c0 := cell_of_heap (i := 0) hb
    have c1 := cell_of_heap (i := 1) hb
    have f0 := frozen_of_heap (i := 0) hb
    have f1 := frozen_of_heap (i := 1) hb
    simp at c0 c1
    go_wp2
    have e := set2 hb (.string v) (.bool false)
    have e0 := cell_of_heap (i := 0) e
    have e1 := cell_of_heap (i := 1) e
    simp at e0 e1
    exact bodyPost_ret (v := .agg #[.string v, .bool false]) (by simp [results, Tryz.results161, go_sem, e0, e1]) rfl ⟨rfl, quiet_set2 (Quiet.trans' hq0 hq) (by omega) _ _⟩
  · go_enter Tryz.func161, Tryz.ntmps161
    go_wp2
    exact bodyPost_ret (v := .agg #[.string ⟨#[]⟩, .bool true]) (by simp [results, Tryz.results161, go_sem]) rfl ⟨rfl, Quiet.trans' (Keeps.alloc _ _) (Keeps.alloc _ _)⟩

end Go.Proofs.YthfimgeopciiiaaGreat
