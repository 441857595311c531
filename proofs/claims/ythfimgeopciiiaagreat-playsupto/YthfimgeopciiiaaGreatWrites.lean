/-
  keysWith, joinWrites.
-/
import Derived.Test.YthfimgeopciiiaaGreatScan
namespace Go.Proofs.YthfimgeopciiiaaGreat
open Go.MapKept Go.ChangeMaps Go.Maps Go.RowKit

/-- the keys that the changes would add -/
def moreF (wr : List (ByteArray × Cont)) (l : List (ByteArray × Unit)) (c : Chg) : List (ByteArray × Unit) := if (look wr c.1).isSome then l else put l c.1 ()
def more (wr : List (ByteArray × Cont)) (cs : List Chg) : List (ByteArray × Unit) := cs.foldl (moreF wr) []

theorem more_succ {wr : List (ByteArray × Cont)} {cs : List Chg} {n : Nat} {x : Chg} (h : cs[n]? = some x) : more wr (cs.take (n + 1)) = moreF wr (more wr (cs.take n)) x := by
  rw [more, take_succ_of h, List.foldl_append]; rfl

theorem put_length {α β : Type} [DecidableEq α] (x : α) (v : β) : ∀ (l : List (α × β)), (put l x v).length ≤ l.length + 1
  | [] => by simp [put]
  | p :: r => by
    unfold put
    split
    · simp
    · simp only [List.length_cons]; have := put_length x v r; omega

theorem more_length (wr : List (ByteArray × Cont)) : ∀ (cs : List Chg) (l : List (ByteArray × Unit)), (cs.foldl (moreF wr) l).length ≤ l.length + cs.length
  | [], l => by simp
  | c :: r, l => by
    rw [List.foldl_cons]
    refine Nat.le_trans (more_length wr r _) ?_
    have : (moreF wr l c).length ≤ l.length + 1 := by
      unfold moreF
      split
      · omega
      · exact put_length _ _ l
    simp only [List.length_cons]; omega

set_option maxRecDepth 100000 in
set_option maxHeartbeats 1000000 in
theorem keysWith_h (w : World) (r : Rec) (R : RecAt w r) (v : Value) (cs : List Chg) (hch : ChAt w v cs) (hks : ∀ c ∈ cs, keyB c.1 = true) (hwl : r.wr.length ≤ 1000) :
    Calls Tryz.prog 97 #[.pointer (some ⟨r.tb, 0, none⟩), v] w fun e w' => e = .returned (.int .i64 (r.wr.length + (more r.wr cs).length : Nat)) ∧ Quiet w w' := by
  obtain ⟨⟨a, cap, rfl, hc⟩, hlen⟩ := hch
  have t3 : w.cell? ⟨r.tb, 3, none⟩ = some (.map (some r.wb)) := R.cell 3
  have hlt := R.lt r.tb (by simp [Rec.foot])
  go_enter Tryz.func97, Tryz.ntmps97
  have hmm : ∀ t w, (Instr.makeMap t none).run Tryz.prog w = .ok (.map (some w.heap.size)) (w.alloc (.map #[] 0)) := fun _ _ => rfl
  go_wp2
  clear hmm
  go_loopw [13] (fun i wr => ∃ n : Nat, i = .int .i64 n ∧ n ≤ cs.length ∧ Quiet w wr ∧ MapIs sk unitV wr w.heap.size (more r.wr (cs.take n))) (fun i _ => cs.length - (intOf i).toNat)
  case atStart => exact ⟨0, rfl, Nat.zero_le _, Keeps.alloc _ _, MapIs.nil _ _ (heap_alloc_new w _)⟩
  case round =>
    obtain ⟨n, rfl, hn, hkp, hmo⟩ := hrel
    have R' : RecAt wr r := R.of_blocks (fun b hb => hkp.block b (R.lt b hb) (by simp))
    have t3r : wr.cell? ⟨r.tb, 3, none⟩ = some (.map (some r.wb)) := R'.cell 3
    by_cases hlt' : n < cs.length
    · have hlt'' : (n : Int) < (cs.length : Int) := by omega
      rcases hc with h0 | ⟨g, o, rfl, hg, hcell⟩
      · rw [h0] at hlt'; simp at hlt'
      obtain ⟨x, hx⟩ : ∃ x, cs[n]? = some x := ⟨_, List.getElem?_eq_getElem hlt'⟩
      obtain ⟨p1, p2, p3⟩ := hcell n x hx
      rw [← hkp.cell hg (by simp)] at p1 p2 p3
      have hxk := key_small (hks x (List.mem_of_getElem? hx))
      have hxl : x.1.size ≤ maxLen := by simp [maxLen]; omega
      have HMS : Hid (more r.wr (cs.take (n + 1)) = moreF r.wr (more r.wr (cs.take n)) x) := more_succ hx
      have hlk : ∀ W, Quiet wr W → (Instr.lookup 171 (.map (some r.wb)) (.string x.1) true).run Tryz.prog W = .ok (.tuple #[.agg #[.string ((look r.wr x.1).getD (⟨#[]⟩, false)).1, .bool ((look r.wr x.1).getD (⟨#[]⟩, false)).2], .bool (look r.wr x.1).isSome]) W :=
        fun W hW => own_look (R'.of_blocks (fun b hb => hW.block b (R'.lt b hb) (by simp))) x.1 hxl
      have hl1 := hlk ((wr.alloc (.cells #[.string x.1, .string x.2.1, .bool x.2.2] 66)).drew) (Quiet.trans' (Keeps.alloc _ _) (Keeps.drew _))
      have hl2 := fun o => hlk (((wr.alloc (.cells #[.string x.1, .string x.2.1, .bool x.2.2] 66)).alloc o).drew) (Quiet.trans' (Quiet.trans' (Keeps.alloc _ _) (Keeps.alloc _ _)) (Keeps.drew _))
      have hrl : r.tb < wr.heap.size := Nat.lt_of_lt_of_le hlt hkp.size
      have hml := hmo.lt
      clear hcell hlk hx hks R R' t3
      cases hlook : look r.wr x.1 with
      | some c =>
        simp only [hlook, Option.getD_some, Option.isSome_some] at hl1 hl2
        have HM2 : Hid (more r.wr (cs.take (n + 1)) = more r.wr (cs.take n)) := by rw [Hid, HMS.out, moreF, hlook]; rfl
        clear HMS hlook
        go_wp2
        go_region
        all_goals go_wp2
        all_goals refine ⟨⟨n + 1, by go_num, by omega, Quiet.trans' hkp (Quiet.trans' (Quiet.trans' (Keeps.alloc _ _) (Keeps.alloc _ _)) (Keeps.drew _)), ?_⟩, by simp [intOf]; omega⟩
        all_goals rw [HM2.out]
        all_goals exact hmo.kept (Quiet.trans' (Quiet.trans' (Keeps.alloc _ _) (Keeps.alloc _ _)) (Keeps.drew _)) (by simp)
      | none =>
        simp only [hlook, Option.getD_none, Option.isSome_none] at hl1 hl2
        have HM2 : Hid (more r.wr (cs.take (n + 1)) = put (more r.wr (cs.take n)) x.1 ()) := by rw [Hid, HMS.out, moreF, hlook]; rfl
        clear HMS hlook
        have hqq : ∀ o1 o2, Quiet wr (((wr.alloc o1).alloc o2).drew) := fun o1 o2 => Quiet.trans' (Quiet.trans' (Keeps.alloc _ _) (Keeps.alloc _ _)) (Keeps.drew _)
        have hmq : ∀ o1 o2, MapIs sk unitV (((wr.alloc o1).alloc o2).drew) w.heap.size (more r.wr (cs.take n)) := fun o1 o2 => hmo.kept (hqq o1 o2) (by simp)
        go_wp2
        go_region
        all_goals
          go_wp2_with (at_mapUpdate; refine wpList_update_is _ rfl _ _ _ 240 rfl 9 121 sk_good Tryz.underlying240 w.heap.size _ rfl (hmq _ _) x.1 rfl hxl () rfl ?_; intro w5 hm5 hk5 hs5)
          refine ⟨⟨n + 1, by go_num, by omega, Quiet.of_new (Quiet.trans' hkp (hqq _ _)) hk5 (fun b hb => by omega), ?_⟩, by simp [intOf]; omega⟩
          rw [HM2.out]
          exact hm5
    · have hge : ¬ (n : Int) < (cs.length : Int) := by omega
      have hT : cs.take n = cs := List.take_of_length_le (by omega)
      rw [hT] at hmo
      have hml := more_length r.wr cs []
      have hle1 := R'.wr.len (P := Tryz.prog) (ty := 3) Tryz.underlying171
      have hle2 := hmo.len (P := Tryz.prog) (ty := 3) Tryz.underlying240
      clear hc R R' t3
      have hml2 : (more r.wr cs).length ≤ cs.length := by simpa [more] using hml
      clear hml
      go_wp2
      go_ret
      exact ⟨ret_int (by omega), hkp⟩

/-- what the changes make of the writes -/
def joinW (wr : List (ByteArray × Cont)) (cs : List Chg) : List (ByteArray × Cont) := cs.foldl (fun l c => put l c.1 (contOf c)) wr

theorem joinW_succ {wr : List (ByteArray × Cont)} {cs : List Chg} {n : Nat} {x : Chg} (h : cs[n]? = some x) : joinW wr (cs.take (n + 1)) = put (joinW wr (cs.take n)) x.1 (contOf x) := by
  rw [joinW, take_succ_of h, List.foldl_append]; rfl

theorem chg_ok : ∀ {cs : List Chg}, changesE cs = 0 → ∀ c ∈ cs, keyB c.1 = true ∧ c.2.1.size ≤ 8
  | [], _, _, h => by simp at h
  | x :: r, h, c, hc => by
    unfold changesE at h
    split at h
    · simp at h
    · rename_i h1
      split at h
      · simp at h
      · rename_i h2
        rcases List.mem_cons.1 hc with rfl | hc
        · exact ⟨by simpa using h1, by omega⟩
        · exact chg_ok h c hc

set_option maxRecDepth 100000 in
set_option maxHeartbeats 1000000 in
theorem joinWrites_h (w : World) (r : Rec) (R : RecAt w r) (hne : r.tb ≠ r.wb) (v : Value) (cs : List Chg) (hch : ChAt w v cs) (hks : ∀ c ∈ cs, keyB c.1 = true ∧ c.2.1.size ≤ 8) :
    Calls Tryz.prog 100 #[.pointer (some ⟨r.tb, 0, none⟩), v] w fun e w' => e = .returned (.tuple #[]) ∧ Keeps (fun b => b = r.wb) w w' ∧ MapIs sk contV w' r.wb (joinW r.wr cs) := by
  obtain ⟨⟨a, cap, rfl, hc⟩, hlen⟩ := hch
  have t3 : w.cell? ⟨r.tb, 3, none⟩ = some (.map (some r.wb)) := R.cell 3
  have hlt := R.lt r.tb (by simp [Rec.foot])
  have hwm := R.wr
  go_enter Tryz.func100, Tryz.ntmps100
  go_wp2
  go_loopw [8] (fun i wr => ∃ n : Nat, i = .int .i64 n ∧ n ≤ cs.length ∧ Keeps (fun b => b = r.wb) w wr ∧ MapIs sk contV wr r.wb (joinW r.wr (cs.take n))) (fun i _ => cs.length - (intOf i).toNat)
  case atStart => exact ⟨0, rfl, Nat.zero_le _, Keeps.refl _ _, hwm⟩
  case round =>
    obtain ⟨n, rfl, hn, hkp, hmo⟩ := hrel
    have t3r : wr.cell? ⟨r.tb, 3, none⟩ = some (.map (some r.wb)) := (hkp.cell hlt hne).trans t3
    by_cases hlt' : n < cs.length
    · have hlt'' : (n : Int) < (cs.length : Int) := by omega
      rcases hc with h0 | ⟨g, o, rfl, hg, hcell⟩
      · rw [h0] at hlt'; simp at hlt'
      obtain ⟨x, hx⟩ : ∃ x, cs[n]? = some x := ⟨_, List.getElem?_eq_getElem hlt'⟩
      obtain ⟨p1, p2, p3⟩ := hcell n x hx
      have hgw : g ≠ r.wb := fun e => by
        obtain ⟨es, clock, hb, _⟩ := hwm
        rw [e] at p1
        simp [World.cell?, hb] at p1
      rw [← hkp.cell hg hgw] at p1 p2 p3
      obtain ⟨hk1, hk2⟩ := hks x (List.mem_of_getElem? hx)
      have hxk := key_small hk1
      have hxl : x.1.size ≤ maxLen := by simp [maxLen]; omega
      have HMS : Hid (joinW r.wr (cs.take (n + 1)) = put (joinW r.wr (cs.take n)) x.1 (contOf x)) := joinW_succ hx
      have hrl : r.tb < wr.heap.size := Nat.lt_of_lt_of_le hlt hkp.size
      have hbx : (wr.alloc (.cells #[.string x.1, .string x.2.1, .bool x.2.2] 66)).heap[wr.heap.size]? = some (.cells #[.string x.1, .string x.2.1, .bool x.2.2] 66) := heap_alloc_new wr _
      have hcl : ∀ W, Quiet (wr.alloc (.cells #[.string x.1, .string x.2.1, .bool x.2.2] 66)) W → W.cell? ⟨r.tb, 3, none⟩ = some (.map (some r.wb)) ∧ W.cell? ⟨wr.heap.size, 0, none⟩ = some (.string x.1) ∧ W.cell? ⟨wr.heap.size, 1, none⟩ = some (.string x.2.1) ∧ W.cell? ⟨wr.heap.size, 2, none⟩ = some (.bool x.2.2) := fun W hW => by
        have hb := (hW.block _ (by simp) (by simp)).trans hbx
        have b0 := cell_of_heap (i := 0) hb
        have b1 := cell_of_heap (i := 1) hb
        have b2 := cell_of_heap (i := 2) hb
        simp at b0 b1 b2
        exact ⟨(hW.cell (by simp; omega) (by simp)).trans (((Keeps.alloc (S := fun _ => False) wr _).cell hrl (by simp)).trans t3r), b0, b1, b2⟩
      have HC : Hid (∀ W, Quiet (wr.alloc (.cells #[.string x.1, .string x.2.1, .bool x.2.2] 66)) W → Calls Tryz.prog 162 #[.string x.1] W fun e w' => e = .returned (.string x.1) ∧ Quiet (wr.alloc (.cells #[.string x.1, .string x.2.1, .bool x.2.2] 66)) w' ∧ w'.cell? ⟨r.tb, 3, none⟩ = some (.map (some r.wb)) ∧ w'.cell? ⟨wr.heap.size, 0, none⟩ = some (.string x.1) ∧ w'.cell? ⟨wr.heap.size, 1, none⟩ = some (.string x.2.1) ∧ w'.cell? ⟨wr.heap.size, 2, none⟩ = some (.bool x.2.2)) :=
        fun W hW => (Clone_h x.1 W (by omega)).mono fun e w' ⟨h1, h2⟩ => ⟨h1, Quiet.trans' hW h2, hcl w' (Quiet.trans' hW h2)⟩
      have HO : Hid (∀ W, Quiet (wr.alloc (.cells #[.string x.1, .string x.2.1, .bool x.2.2] 66)) W → Calls Tryz.prog 161 #[.agg #[.string x.1, .string x.2.1, .bool x.2.2]] W fun e w' => e = .returned (.agg #[.string (contOf x).1, .bool (contOf x).2]) ∧ Quiet (wr.alloc (.cells #[.string x.1, .string x.2.1, .bool x.2.2] 66)) w' ∧ w'.cell? ⟨r.tb, 3, none⟩ = some (.map (some r.wb)) ∧ w'.cell? ⟨wr.heap.size, 0, none⟩ = some (.string x.1) ∧ w'.cell? ⟨wr.heap.size, 1, none⟩ = some (.string x.2.1) ∧ w'.cell? ⟨wr.heap.size, 2, none⟩ = some (.bool x.2.2)) :=
        fun W hW => (contentOf_h x.1 x.2.1 x.2.2 W (by omega)).mono fun e w' ⟨h1, h2⟩ => ⟨h1, Quiet.trans' hW h2, hcl w' (Quiet.trans' hW h2)⟩
      have HU : Hid (∀ W, Quiet (wr.alloc (.cells #[.string x.1, .string x.2.1, .bool x.2.2] 66)) W → ∃ o, (Instr.mapUpdate 171 (.map (some r.wb)) (.string x.1) (.agg #[.string (contOf x).1, .bool (contOf x).2])).run Tryz.prog W = .ok () (setBlock W r.wb o) ∧ MapIs sk contV (setBlock W r.wb o) r.wb (joinW r.wr (cs.take (n + 1))) ∧ Keeps (fun b => b = r.wb) w (setBlock W r.wb o)) := fun W hW => by
        have hm := hmo.kept (Quiet.trans' (Keeps.alloc _ _) hW) (by simp)
        rw [HMS.out]
        obtain ⟨o, h1, h2⟩ := hm.update sk_good Tryz.underlying171 (x := x.1) hxl (contOf x)
        exact ⟨o, h1, h2, (hkp.trans (Quiet.trans' (Keeps.alloc _ _) hW) (fun _ h => h.elim)).trans (Keeps.setBlock (S := fun b => b = r.wb) _ _ _ rfl) (fun _ h => .inl h)⟩
      clear hcell hcl hx hks t3 hbx HMS hk1 hk2
      generalize contOf x = c at *
      go_wp2
      go_region_with (first
        | (go_at_call 162; refine (HC.out _ (by repeat (first | assumption | exact Keeps.refl _ _ | refine Quiet.trans' ?_ (Keeps.drew _)))).mono ?_; rintro e wC ⟨rfl, hqC, z3, z0, z1, z2⟩; obtain ⟨oC, hrC, hmC, hkC⟩ := HU.out _ hqC)
        | (go_at_call 161; refine (HO.out _ (by repeat (first | assumption | exact Keeps.refl _ _ | refine Quiet.trans' ?_ (Keeps.drew _)))).mono ?_; rintro e wO ⟨rfl, hqO, y3, y0, y1, y2⟩; obtain ⟨oO, hrO, hmO, hkO⟩ := HU.out _ hqO))
      all_goals clear HC HO HU
      all_goals go_wp2
      all_goals first
        | exact ⟨⟨n + 1, by go_num, by omega, hkO, hmO⟩, by simp [intOf]; omega⟩
        | exact ⟨⟨n + 1, by go_num, by omega, hkC, hmC⟩, by simp [intOf]; omega⟩
    · have hge : ¬ (n : Int) < (cs.length : Int) := by omega
      have hT : cs.take n = cs := List.take_of_length_le (by omega)
      rw [hT] at hmo
      clear hc R t3
      go_wp2
      go_end0
      exact ⟨rfl, hkp, hmo⟩

end Go.Proofs.YthfimgeopciiiaaGreat
