/-
  publish: a transaction's writes become versions. Ahead of the walk: what one round does.
-/
import Derived.Test.YthfimgeopciiiaaGreatComm
import Derived.Maps.AppendAt
import Derived.BigRegion
namespace Go.Proofs.YthfimgeopciiiaaGreat
open Go.MapKept Go.ChangeMaps Go.Maps Go.RowKit Go.MuLone

theorem info_ver : (Tryz.prog.info? 233).map (fun i => (i.zero, i.size, i.bytes)) = some (some (.agg #[.int .i64 0, .string ⟨#[]⟩, .bool false]), 3, 32) := by kernel_rfl

/-- what one round of publish leaves: the version x joins key k's -/
structure PubAt (s : Sto) (k : ByteArray) (x : Ver) (W : World) (v v' : Value) (w5 : World) (o : Obj) : Prop where
  look0 : (Instr.lookup 132 (.map (some s.vm)) (.string k) false).run Tryz.prog W.drew = .ok v W.drew
  look1 : (Instr.lookup 132 (.map (some s.vm)) (.string k) false).run Tryz.prog ((W.alloc (.cells #[.int .i64 x.1, .string x.2.1, .bool x.2.2] 233)).drew) = .ok v ((W.alloc (.cells #[.int .i64 x.1, .string x.2.1, .bool x.2.2] 233)).drew)
  app : (Builtin.append_ #[224, 224] 224 #[v, .slice (some ⟨W.heap.size, 0, none⟩) 1 1]).run Tryz.prog (W.alloc (.cells #[.int .i64 x.1, .string x.2.1, .bool x.2.2] 233)).drew = .ok v' w5
  upd : (Instr.mapUpdate 132 (.map (some s.vm)) (.string k) v').run Tryz.prog w5 = .ok () (setBlock w5 s.vm o)
  c10 : w5.cell? ⟨s.sb, 10, none⟩ = some (.map (some s.vm))
  turn : ∃ y : VRec, y.k = k ∧ y.vs = s.vs k ++ [x] ∧ Turn s (s.setV (putV s.vrs y)) W (setBlock w5 s.vm o)
  keeps : Keeps (fun b => b = s.vm ∨ ∃ z ∈ s.vrs, z.v.ownBlock = some b) W (setBlock w5 s.vm o)

theorem pub_step {W : World} {s : Sto} (H : StAt W s) (k : ByteArray) (hk : k.size ≤ maxLen) (x : Ver) (hn : (s.vs k).length ≤ 1000) : ∃ v v' w5 o, PubAt s k x W v v' w5 o := by
  obtain ⟨i0, hi0, hz0, hz1, hz2⟩ := info_parts info_ver
  obtain ⟨p1, p2, p3, p4, p5, p6, p7, p8⟩ := Sto.nd_parts H.nd
  have hq1 : Quiet W W.drew := Keeps.drew W
  have hq2 : Quiet W ((W.alloc (.cells #[.int .i64 x.1, .string x.2.1, .bool x.2.2] 233)).drew) := Quiet.trans' (Keeps.alloc _ _) (Keeps.drew _)
  have hsz : ((W.alloc (.cells #[.int .i64 x.1, .string x.2.1, .bool x.2.2] 233)).drew).heap.size = W.heap.size + 1 := by simp
  have hnew : (W.alloc (.cells #[.int .i64 x.1, .string x.2.1, .bool x.2.2] 233)).drew.heap[W.heap.size]? = some (.cells #[.int .i64 x.1, .string x.2.1, .bool x.2.2] 233) := heap_alloc_new W _
  generalize hw2 : (W.alloc (.cells #[.int .i64 x.1, .string x.2.1, .bool x.2.2] 233)).drew = w2 at *
  have H2 := H.quiet hq2
  -- the look-up
  obtain ⟨v, hlk, hown, hvo⟩ : ∃ v, (∀ w', Quiet W w' → (Instr.lookup 132 (.map (some s.vm)) (.string k) false).run Tryz.prog w' = .ok v w') ∧ w2.ownsRow 0 233 3 v (s.vs k).length ((s.vs k).flatMap verCells) ∧
      ∀ b, v.ownBlock = some b → ∃ z ∈ s.vrs, z.k = k ∧ z.v.ownBlock = some b := by
    unfold Sto.vs Sto.vrec?
    cases hf : s.vrs.find? (fun x => decide (x.k = k)) with
    | none =>
      refine ⟨.slice none 0 0, fun w' hq => ?_, World.ownsRow_nil _ _ _ _, fun b hb => by simp [Value.ownBlock] at hb⟩
      have hl := (H.quiet hq).vm.look sk_good Tryz.underlying132 zero_vers (x := k) hk false
      rw [lookup_vrs] at hl
      simpa [hf, sk] using hl
    | some z =>
      have hz := List.mem_of_find?_eq_some hf
      have hzk : z.k = k := by simpa using List.find?_some hf
      refine ⟨z.v, fun w' hq => ?_, H2.vers z hz, fun b hb => ⟨z, hz, hzk, hb⟩⟩
      have hl := (H.quiet hq).vm.look sk_good Tryz.underlying132 zero_vers (x := k) hk false
      rw [lookup_vrs] at hl
      simpa [hf, sk, slV, VRec.v] using hl
  have hnews : ∀ j u, (verCells x)[j]? = some u → w2.cell? ((⟨W.heap.size, 0, none⟩ : Addr).add j) = some u := fun j u hj => by
    rw [show (⟨W.heap.size, 0, none⟩ : Addr).add j = ⟨W.heap.size, j, none⟩ by cases j <;> simp [Addr.add], cell_of_heap hnew]
    simpa [verCells] using hj
  obtain ⟨v', w5, happ, hown', hgrow, hnil, hat⟩ := run_append_own_at (P := Tryz.prog) w2 0 224 224 233 i0 _ 3 32 Tryz.underlying224 hi0 hz0 hz1 hz2 (by kernel_rfl) (by omega) v _ _ hown
    ⟨W.heap.size, 0, none⟩ 1 1 (verCells x) rfl hnews (by simp [verCells, Value.oneCell']) (by simp [maxLen]; omega) (by omega) (Nat.zero_le _)
  have hk5 := keeps_of_grown hgrow
  have hvm5 : v.ownBlock ≠ some s.vm := fun e => by
    obtain ⟨z, hz, _, hb⟩ := hvo _ e
    exact (p6 z hz _ hb).2.2.1 rfl
  have hsb5 : v.ownBlock ≠ some s.sb := fun e => by
    obtain ⟨z, hz, _, hb⟩ := hvo _ e
    exact (p6 z hz _ hb).1 rfl
  -- the new row
  obtain ⟨y, hyk, hyv, hys⟩ : ∃ y : VRec, y.k = k ∧ y.vs = s.vs k ++ [x] ∧ y.v = v' := by
    rcases hown'.2 with ⟨_, h0⟩ | ⟨g, cap, cur, e, _⟩
    · omega
    · exact ⟨⟨k, some ⟨g, 0, none⟩, cap, s.vs k ++ [x]⟩, rfl, rfl, by simp [VRec.v, e]⟩
  have hyat : VAt w5 y := by
    unfold VAt
    rw [hys, hyv]
    have := hown'
    simpa [List.flatMap_append] using this
  have hm5 : MapIs sk slV w5 s.vm (s.vrs.map fun x => (x.k, (x.a, x.vs.length, x.cap))) := H2.vm.of_block (hk5.block s.vm H2.vm.lt hvm5)
  obtain ⟨o, hupd, hmap⟩ := hm5.update sk_good Tryz.underlying132 (x := k) hk (y.a, y.vs.length, y.cap)
  have hsl : slV (y.a, y.vs.length, y.cap) = v' := by rw [← hys]; rfl
  rw [hsl] at hupd
  have hyb : ∀ b, v'.ownBlock = some b → v.ownBlock = some b ∨ b = w2.heap.size := fun b hb => by
    rcases hat with h | h
    · exact .inl (h ▸ hb)
    · rw [h] at hb; cases hb; exact .inr rfl
  have hvl : s.vm < W.heap.size := H.vm.lt
  have hkf : Keeps (fun b => b = s.vm ∨ ∃ z ∈ s.vrs, z.k = y.k ∧ z.v.ownBlock = some b) W (setBlock w5 s.vm o) := by
    have k1 : Keeps (fun b => b = s.vm ∨ ∃ z ∈ s.vrs, z.k = y.k ∧ z.v.ownBlock = some b) W w5 := by
      have k0 : Keeps (fun b => b = s.vm ∨ ∃ z ∈ s.vrs, z.k = y.k ∧ z.v.ownBlock = some b) W w2 := hq2.mono (fun _ h => h.elim)
      exact k0.trans hk5 (fun b hb => .inl (.inr (by rw [hyk]; exact hvo b hb)))
    exact k1.trans (Keeps.setBlock (S := fun b => b = s.vm ∨ ∃ z ∈ s.vrs, z.k = y.k ∧ z.v.ownBlock = some b) w5 s.vm o (.inl rfl)) (fun _ h => .inl h)
  refine ⟨v, v', w5, o, hlk _ hq1, by rw [hw2]; exact hlk _ hq2, by rw [hw2]; exact happ, by simpa [sk] using hupd, ?_, ⟨y, hyk, hyv, ?_⟩, ?_⟩
  · rw [cell_of_heap ((hk5.block s.sb (lt_of_heap H2.own) hsb5).trans H2.own)]; rfl
  · refine H.addV y (by rw [hyk]; exact hmap) ?_ (fun b hb => ?_) hkf
    · have hne : ∀ b, y.v.ownBlock = some b → b ≠ s.vm := fun b hb e => by
        rw [hys] at hb
        rcases hyb b hb with h | h
        · exact hvm5 (e ▸ h)
        · omega
      exact ownsRow_of_block hyat (fun b hb => heap_setBlock_ne _ _ _ (hne b hb))
    · rw [hys] at hb
      rcases hyb b hb with h | h
      · exact .inl (by rw [hyk]; exact hvo b h)
      · exact .inr (by omega)
  · exact hkf.mono (fun b hb => .inl (hb.imp id (fun ⟨z, hz, _, h⟩ => ⟨z, hz, h⟩)))

end Go.Proofs.YthfimgeopciiiaaGreat
