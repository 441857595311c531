/-
  An entry joins a transaction's reads.
-/
import Derived.Test.YthfimgeopciiiaaGreatClone
import Derived.Deep.RegionWith
namespace Go.Proofs.YthfimgeopciiiaaGreat
open Go.MapKept Go.ChangeMaps Go.Maps Go.RowKit

def setRd (t : Nat) (l : List (Ent × Unit)) (x : Rec) : Rec := if x.tb = t then { x with rd := l } else x
theorem mild_setRd (s : Sto) (t : Nat) (l : List (Ent × Unit)) : Mild s (setRd t l) := by
  constructor <;> intro r _ <;> unfold setRd <;> split <;> rfl

set_option maxRecDepth 100000 in
set_option maxHeartbeats 1000000 in
theorem joinReads_old {w : World} {s : Sto} (H : StAt w s) {r : Rec} (hr : r ∈ s.recs) (x : Bool) (lo hi : ByteArray) (hok : lo.size ≤ maxLen ∧ hi.size ≤ maxLen) (hin : (look r.rd (x, lo, hi)).isSome = true) :
    Calls Tryz.prog 190 #[.pointer (some ⟨s.sb, 2, none⟩), ptrTo r.tb, .agg #[.bool x, .string lo, .string hi]] w fun e w' => e = .returned (.bool true) ∧ Quiet w w' := by
  have c4 : w.cell? ⟨r.tb, 4, none⟩ = some (.map (some r.rb)) := (H.recs r hr).cell 4
  have hlt := (H.recs r hr).lt r.tb (by simp [Rec.foot])
  have hlk : ∀ W, Quiet w W → (Instr.lookup 172 (.map (some r.rb)) (.agg #[.bool x, .string lo, .string hi]) true).run Tryz.prog W = .ok (.tuple #[.agg #[], .bool true]) W := fun W hW => by
    have := ((H.quiet hW).recs r hr).rd.look ek_good Tryz.underlying172 zero_unit (x := (x, lo, hi)) hok true
    rw [hin] at this
    obtain ⟨u, hu⟩ := Option.isSome_iff_exists.1 hin
    rw [hu] at this
    simpa [ek, unitV] using this
  have hl1 := hlk ((w.alloc (.cells #[.bool x, .string lo, .string hi] 213)).drew) (Quiet.trans' (Keeps.alloc _ _) (Keeps.drew _))
  have hl2 := fun o => hlk (((w.alloc (.cells #[.bool x, .string lo, .string hi] 213)).alloc o).drew) (Quiet.trans' (Quiet.trans' (Keeps.alloc _ _) (Keeps.alloc _ _)) (Keeps.drew _))
  clear hlk H hin
  try unfold ptrTo
  go_enter Tryz.func190, Tryz.ntmps190
  go_wp2
  go_region
  all_goals go_wp2
  all_goals go_ret
  all_goals exact ⟨rfl, Quiet.trans' (Quiet.trans' (Keeps.alloc _ _) (Keeps.alloc _ _)) (Keeps.drew _)⟩

set_option maxRecDepth 100000 in
set_option maxHeartbeats 1000000 in
theorem joinReads_full {w : World} {s : Sto} (H : StAt w s) {r : Rec} (hr : r ∈ s.recs) (x : Bool) (lo hi : ByteArray) (hok : lo.size ≤ maxLen ∧ hi.size ≤ maxLen) (hin : look r.rd (x, lo, hi) = none) (hn : s.nReads ≤ 1000) (hfull : s.c2 ≤ s.nReads) :
    Calls Tryz.prog 190 #[.pointer (some ⟨s.sb, 2, none⟩), ptrTo r.tb, .agg #[.bool x, .string lo, .string hi]] w fun e w' => e = .returned (.bool false) ∧ Quiet w w' := by
  have c4 : w.cell? ⟨r.tb, 4, none⟩ = some (.map (some r.rb)) := (H.recs r hr).cell 4
  have c3 : w.cell? ⟨s.sb, 3, none⟩ = some (.int .i64 s.c2) := H.cell 3
  have hlt := (H.recs r hr).lt r.tb (by simp [Rec.foot])
  have hlt2 := H.lt s.sb (by simp [Sto.foot])
  have hlk : ∀ W, Quiet w W → (Instr.lookup 172 (.map (some r.rb)) (.agg #[.bool x, .string lo, .string hi]) true).run Tryz.prog W = .ok (.tuple #[.agg #[], .bool false]) W := fun W hW => by
    have := ((H.quiet hW).recs r hr).rd.look ek_good Tryz.underlying172 zero_unit (x := (x, lo, hi)) hok true
    rw [hin] at this
    simpa [ek, unitV] using this
  have hl1 := hlk ((w.alloc (.cells #[.bool x, .string lo, .string hi] 213)).drew) (Quiet.trans' (Keeps.alloc _ _) (Keeps.drew _))
  have hl2 := fun o => hlk (((w.alloc (.cells #[.bool x, .string lo, .string hi] 213)).alloc o).drew) (Quiet.trans' (Quiet.trans' (Keeps.alloc _ _) (Keeps.alloc _ _)) (Keeps.drew _))
  have HCr : Hid (∀ o1 o2, Calls Tryz.prog 85 #[.pointer (some ⟨s.sb, 2, none⟩)] (((w.alloc o1).alloc o2).drew.drew) fun e w' => e = .returned (.int .i64 s.nReads) ∧ Quiet w w' ∧ w'.cell? ⟨s.sb, 3, none⟩ = some (.int .i64 s.c2)) := fun o1 o2 => by
    have hq : Quiet w (((w.alloc o1).alloc o2).drew.drew) := Quiet.trans' (Quiet.trans' (Quiet.trans' (Keeps.alloc _ _) (Keeps.alloc _ _)) (Keeps.drew _)) (Keeps.drew _)
    exact (countReads_h (H.quiet hq) hn).mono fun e w' ⟨h1, h2⟩ => ⟨h1, Quiet.trans' hq h2, ((Quiet.trans' hq h2).cell hlt2 (by simp)).trans c3⟩
  have hfull' : (s.c2 : Int) ≤ (s.nReads : Int) := hfull
  clear hlk H hin
  try unfold ptrTo
  go_enter Tryz.func190, Tryz.ntmps190
  go_wp2
  go_region
  go_wp2
  go_region_with (go_at_call 85; refine (HCr.out _ _).mono ?_; rintro e w3 ⟨rfl, hq3, c33⟩)
  all_goals go_wp2
  all_goals go_ret
  all_goals exact ⟨rfl, hq3⟩

theorem StAt.setRd {w w' : World} {s : Sto} (H : StAt w s) {r : Rec} (hr : r ∈ s.recs) {l : List (Ent × Unit)} (hm : MapIs ek unitV w' r.rb l) (hk : Keeps (fun b => b = r.rb) w w') : StAt w' (s.mapR (setRd r.tb l)) := by
  have hn := (Sto.nd_parts H.nd).2.2.2.2.2.2.1
  obtain ⟨n1, n2, n3⟩ := foot_nodup hn hr
  refine H.upd (mild_setRd s r.tb l) (fun x hx => ?_) (fun b hb hno => hk.block b (H.lt b hb) (fun e => hno r hr (by rw [e]; simp [Rec.foot])))
  unfold Go.Proofs.YthfimgeopciiiaaGreat.setRd
  by_cases e : x.tb = r.tb
  · have := rec_tb_inj H.nd hx hr e
    subst this
    rw [if_pos rfl]
    have R := H.recs x hx
    exact ⟨(hk.block _ (R.lt _ (by simp [Rec.foot])) n2).trans R.own, R.wr.of_block (hk.block _ R.wr.lt n3), hm⟩
  · rw [if_neg e]
    have R := H.recs x hx
    refine R.of_blocks (fun b hb => hk.block b (R.lt b hb) (fun e' => e ?_))
    rw [nodup_flatMap_apart hn hx hr hb (by rw [e']; simp [Rec.foot])]

set_option maxRecDepth 100000 in
set_option maxHeartbeats 1000000 in
theorem joinReads_new {w : World} {s : Sto} (H : StAt w s) {r : Rec} (hr : r ∈ s.recs) (x : Bool) (lo hi : ByteArray) (hok : lo.size ≤ maxLen ∧ hi.size ≤ maxLen) (hin : look r.rd (x, lo, hi) = none) (hn : s.nReads ≤ 1000) (hfull : s.nReads < s.c2) :
    Calls Tryz.prog 190 #[.pointer (some ⟨s.sb, 2, none⟩), ptrTo r.tb, .agg #[.bool x, .string lo, .string hi]] w fun e w' => e = .returned (.bool true) ∧ StAt w' (s.mapR (setRd r.tb (put r.rd (x, lo, hi) ()))) ∧ Keeps (fun b => b ∈ s.foot) w w' := by
  have c4 : w.cell? ⟨r.tb, 4, none⟩ = some (.map (some r.rb)) := (H.recs r hr).cell 4
  have c3 : w.cell? ⟨s.sb, 3, none⟩ = some (.int .i64 s.c2) := H.cell 3
  have hlt := (H.recs r hr).lt r.tb (by simp [Rec.foot])
  have hlt2 := H.lt s.sb (by simp [Sto.foot])
  have hlk : ∀ W, Quiet w W → (Instr.lookup 172 (.map (some r.rb)) (.agg #[.bool x, .string lo, .string hi]) true).run Tryz.prog W = .ok (.tuple #[.agg #[], .bool false]) W := fun W hW => by
    have := ((H.quiet hW).recs r hr).rd.look ek_good Tryz.underlying172 zero_unit (x := (x, lo, hi)) hok true
    rw [hin] at this
    simpa [ek, unitV] using this
  have hl1 := hlk ((w.alloc (.cells #[.bool x, .string lo, .string hi] 213)).drew) (Quiet.trans' (Keeps.alloc _ _) (Keeps.drew _))
  have hl2 := fun o => hlk (((w.alloc (.cells #[.bool x, .string lo, .string hi] 213)).alloc o).drew) (Quiet.trans' (Quiet.trans' (Keeps.alloc _ _) (Keeps.alloc _ _)) (Keeps.drew _))
  have HCr : Hid (∀ o2, Calls Tryz.prog 85 #[.pointer (some ⟨s.sb, 2, none⟩)] (((w.alloc (.cells #[.bool x, .string lo, .string hi] 213)).alloc o2).drew.drew) fun e w' => e = .returned (.int .i64 s.nReads) ∧ Quiet w w' ∧ w'.cell? ⟨s.sb, 3, none⟩ = some (.int .i64 s.c2) ∧ w'.heap[w.heap.size]? = some (.cells #[.bool x, .string lo, .string hi] 213)) := fun o2 => by
    have hq1 : Quiet (w.alloc (.cells #[.bool x, .string lo, .string hi] 213)) (((w.alloc (.cells #[.bool x, .string lo, .string hi] 213)).alloc o2).drew.drew) := Quiet.trans' (Quiet.trans' (Keeps.alloc _ _) (Keeps.drew _)) (Keeps.drew _)
    have hq : Quiet w _ := Quiet.trans' (Keeps.alloc _ _) hq1
    exact (countReads_h (H.quiet hq) hn).mono fun e w' ⟨h1, h2⟩ => ⟨h1, Quiet.trans' hq h2, ((Quiet.trans' hq h2).cell hlt2 (by simp)).trans c3, newBlock_kept (Quiet.trans' hq1 h2)⟩
  have HFin : Hid (∀ w3, Quiet w w3 → w3.cell? ⟨r.tb, 4, none⟩ = some (.map (some r.rb)) ∧ ∃ o, (Instr.mapUpdate 172 (.map (some r.rb)) (.agg #[.bool x, .string lo, .string hi]) (.agg #[])).run Tryz.prog w3.drew = .ok () (setBlock w3.drew r.rb o) ∧
      StAt (setBlock w3.drew r.rb o) (s.mapR (setRd r.tb (put r.rd (x, lo, hi) ()))) ∧ Keeps (fun b => b ∈ s.foot) w (setBlock w3.drew r.rb o)) := fun w3 hq3 => by
    have H3 := H.quiet (Quiet.trans' hq3 (Keeps.drew w3))
    obtain ⟨o, hrun, hmap⟩ := (H3.recs r hr).rd.update ek_good Tryz.underlying172 (x := (x, lo, hi)) hok ()
    refine ⟨(hq3.cell hlt (by simp)).trans c4, o, by simpa [ek, unitV] using hrun, H3.setRd hr hmap (Keeps.setBlock (S := fun b => b = r.rb) _ _ _ rfl), ?_⟩
    exact ((Quiet.trans' hq3 (Keeps.drew w3)).mono (S' := fun b => b ∈ s.foot) (fun _ h => h.elim)).trans (Keeps.setBlock (S := fun b => b = r.rb) _ _ _ rfl) (fun b hb => .inl (by rw [hb]; exact Sto.mem_rec hr (by simp [Rec.foot])))
  have hfull' : ¬ (s.c2 : Int) ≤ (s.nReads : Int) := by omega
  clear hlk H hin
  try unfold ptrTo
  go_enter Tryz.func190, Tryz.ntmps190
  go_wp2
  go_region
  go_wp2
  go_region_with (go_at_call 85; refine (HCr.out _).mono ?_; rintro e w3 ⟨rfl, hq3, c33, hbx⟩)
  all_goals
    obtain ⟨c43, o, hrun, hst, hkk⟩ := HFin.out _ hq3
    have b0 := cell_of_heap (i := 0) hbx
    have b1 := cell_of_heap (i := 1) hbx
    have b2 := cell_of_heap (i := 2) hbx
    simp at b0 b1 b2
    go_wp2
    go_region
    go_wp2
    go_ret
    exact ⟨rfl, hst, hkk⟩

end Go.Proofs.YthfimgeopciiiaaGreat
