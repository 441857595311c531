/-
  The document's own store: Scan.
-/
import Derived.Test.YthfimgeopciiiaaGreatPlayG
import Derived.Test.YthfimgeopciiiaaGreatPlayN
import Derived.Test.YthfimgeopciiiaaGreatLwE
namespace Go.Proofs.YthfimgeopciiiaaGreat
open Go.MapKept Go.ChangeMaps Go.Maps Go.RowKit Go.MuLone
set_option linter.unusedVariables false

section
variable {w w' : World} {base : Nat} {m : MRef} {i : Nat} {k : RTx}

set_option maxRecDepth 100000 in
set_option maxHeartbeats 1000000 in
theorem rScan_no (H : RefIn w base m) (hlen : m.txs.length ≤ 1099511627776) (h : Int) (lo hi' : ByteArray) (ha : m.actB h = false) :
    Calls Tryz.prog 118 #[.pointer (some ⟨m.sb, 0, none⟩), .int .i64 h, .string lo, .string hi'] w fun e w' => e = .returned (.tuple #[.slice none 0 0, .int .i64 2]) ∧ w' = w := by
  have HA := H.active hlen h
  rw [ha] at HA
  have HA := hidC HA
  clear H ha
  go_enter Tryz.func118, Tryz.ntmps118
  go_wp2_with (go_at_call 114; refine HA.out.mono ?_; rintro e w1 ⟨rfl, rfl⟩)
  go_ret2
  exact ⟨rfl, rfl⟩

theorem rangeE_cases' (lo hi : ByteArray) : (rangeE lo hi = 3 ∧ (4 < (lo.size : Int) ∨ ¬ 4 < (lo.size : Int) ∧ 4 < (hi.size : Int))) ∨
    ((¬ 4 < (lo.size : Int) ∧ ¬ 4 < (hi.size : Int)) ∧ ((rangeE lo hi = 5 ∧ (¬ hi.toList = [] ∧ hi.toList.isEmpty = false) ∧ Op.bytesLess lo.toList hi.toList = false) ∨
      (rangeE lo hi = 0 ∧ ((hi.toList = [] ∧ hi.toList.isEmpty = true) ∨ ((¬ hi.toList = [] ∧ hi.toList.isEmpty = false) ∧ Op.bytesLess lo.toList hi.toList = true))))) := by
  unfold rangeE bl
  by_cases h1 : 4 < lo.size ∨ 4 < hi.size
  · rw [if_pos h1]
    refine .inl ⟨rfl, ?_⟩
    omega
  · rw [if_neg h1]
    refine .inr ⟨by omega, ?_⟩
    cases hh : hi.toList with
    | nil => simp
    | cons x r => cases hb : Op.bytesLess lo.toList (x :: r) <;> simp

def RSt.scanR (R : RSt) (k : RTx) (lo hi : ByteArray) : Int × RSt := if rangeE lo hi ≠ 0 then (rangeE lo hi, R) else R.readR k (rangeEnt lo hi)

/-- what Scan is to leave -/
def ScanOk (w : World) (base : Nat) (m : MRef) (k : RTx) (lo hi : ByteArray) (e : Ending) (w' : World) : Prop :=
  ∃ v l, e = .returned (.tuple #[v, .int .i64 (m.rs.scanR k lo hi).1]) ∧ RLeft w w' base m (m.rs.scanR k lo hi).2 ∧ PrAt w' v l ∧ ((m.rs.scanR k lo hi).1 ≠ 0 → l = []) ∧ ((m.rs.scanR k lo hi).1 = 0 → RScan m.rs k (rangeEnt lo hi) l)

def strOf : Value → ByteArray
  | .string s => s
  | _ => ⟨#[]⟩

theorem PrAt.nil (w : World) : PrAt w (.slice none 0 0) [] := ⟨none, 0, rfl, .inl rfl⟩

theorem nextB_two (e : Ent) (K1 K2 : List ByteArray) (last : ByteArray) : nextB e (K1 ++ K2) last = K2.foldl (nearB e last) (K1.foldl (nearB e last) ⟨#[]⟩) := by unfold nextB; rw [List.foldl_append]

set_option maxRecDepth 100000 in
set_option maxHeartbeats 20000000 in
theorem rScan_yes (H : RefIn w base m) {B : Int} (Bd : RBd m.rs B) (hlen : m.txs.length ≤ 1099511627776) (hv : m.vers.length ≤ 1048576) (hi : m.rs.txs[i]? = some k) (h0 : k.st = 0) (lo hi' : ByteArray) (HR : ∀ W, Quiet w W → ReadsOk W base m i k (rangeEnt lo hi')) :
    Calls Tryz.prog 118 #[.pointer (some ⟨m.sb, 0, none⟩), .int .i64 ((i : Int) + 1), .string lo, .string hi'] w (ScanOk w base m k lo hi') := by
  have HA := H.active hlen ((i : Int) + 1)
  rw [actB_yes hi h0] at HA
  have HA := hidC HA
  have HL0 := hidC' (H.left (Keeps.refl _ w))
  rcases rangeE_cases' lo hi' with ⟨e3, hc3⟩ | ⟨⟨l1, l2⟩, ⟨e5, ⟨hc5, hc7⟩, hc6⟩ | ⟨e0, hor⟩⟩
  · have HZ : Hid (m.rs.scanR k lo hi' = (3, m.rs)) := hidC' (by unfold RSt.scanR; rw [e3, if_pos (by decide)])
    clear H hi HR e3 h0 Bd
    rcases hc3 with l1 | ⟨l1, l2⟩
    all_goals
      go_enter Tryz.func118, Tryz.ntmps118
      go_wp2_with (go_at_call 114; refine HA.out.mono ?_; rintro e w1 ⟨rfl, rfl⟩)
      go_ret2
      refine ⟨_, [], ?_, ?_, PrAt.nil _, fun _ => rfl, fun h => ?_⟩
      · rw [HZ.out]; rfl
      · rw [HZ.out]; exact HL0.out
      · rw [HZ.out] at h; cases h
  · have HZ : Hid (m.rs.scanR k lo hi' = (5, m.rs)) := hidC' (by unfold RSt.scanR; rw [e5, if_pos (by decide)])
    clear H hi HR e5 h0 Bd
    go_enter Tryz.func118, Tryz.ntmps118
    go_wp2_with (go_at_call 114; refine HA.out.mono ?_; rintro e w1 ⟨rfl, rfl⟩)
    go_ret2
    refine ⟨_, [], ?_, ?_, PrAt.nil _, fun _ => rfl, fun h => ?_⟩
    · rw [HZ.out]; rfl
    · rw [HZ.out]; exact HL0.out
    · rw [HZ.out] at h; cases h
  have hqa : Quiet w (w.alloc (.cells #[.string lo, .string hi', .bool false] 201)) := Keeps.alloc _ _
  have hba : (w.alloc (.cells #[.string lo, .string hi', .bool false] 201)).heap[w.heap.size]? = some (.cells #[.string lo, .string hi', .bool false] 201) := heap_alloc_new _ _
  have hRd := HR _ hqa
  unfold ReadsOk rangeEnt at hRd
  simp only [Bool.not_true] at hRd
  have hSc : m.rs.scanR k lo hi' = m.rs.readR k (true, lo, hi') := by unfold RSt.scanR; rw [if_neg (by rw [e0]; simp)]; rfl
  have hml : ∀ b, m.has b → b < w.heap.size := fun b hb => (H.lt hb).2
  have hwl := Bd.wl k (List.mem_of_getElem? hi)
  have hil : (i : Int) < (m.txs.length : Int) := by obtain ⟨x, hx, -⟩ := rs_at hi; have := (List.getElem?_eq_some_iff.1 hx).1; omega
  have hK0 : ∀ x ∈ m.rs.keysOf k, x ≠ ⟨#[]⟩ := fun x hx => by
    unfold RSt.keysOf at hx
    rcases List.mem_append.1 hx with h | h
    · obtain ⟨p, hp, rfl⟩ := List.mem_map.1 h; exact Bd.vk p hp
    · obtain ⟨p, hp, rfl⟩ := List.mem_map.1 h; exact Bd.wk k (List.mem_of_getElem? hi) p hp
  have hKn : ∀ key, key ∉ m.rs.keysOf k → (m.rs.seen k key).2 = false := fun key h => m.rs.seen_none k h
  have hRA := readA_at (true, lo, hi') hi
  have hRv : (m.rs.readR k (true, lo, hi')).2.vers = m.vers := by
    unfold RSt.readR
    split
    · rfl
    · split <;> rfl
  have hRl : (m.rs.readR k (true, lo, hi')).2.txs.length = m.txs.length := by
    unfold RSt.readR
    split
    · exact rs_len
    · split
      · show (m.rs.txs.map _).length = _; rw [List.length_map, rs_len]
      · show (m.rs.txs.map _).length = _; rw [List.length_map, rs_len]
  have hRs : ∀ b key, (m.rs.readR k (true, lo, hi')).2.sees b key = m.rs.sees b key := readA_sees m.rs k (true, lo, hi')
  generalize hRR : m.rs.readR k (true, lo, hi') = RR at *
  obtain ⟨er, R2⟩ := RR
  clear hRR HR
  have hsA := lt_of_heap hba
  have hRd' := hidC hRd
  have HFx : Hid (∀ w3, RLeft (w.alloc (.cells #[.string lo, .string hi', .bool false] 201)) w3 base m R2 → ∃ g cap wa wc ra rc cm st ii oo rl, w3.cell? ⟨m.sb, 5, none⟩ = some (.slice (some ⟨g, 0, none⟩) m.txs.length cap) ∧ w3.cell? ⟨g, i * 7, none⟩ = some (.int .i64 k.bg) ∧ w3.cell? ⟨g, i * 7 + 1, none⟩ = some (.int .i64 cm) ∧ w3.cell? ⟨g, i * 7 + 2, none⟩ = some (.int .i64 st) ∧ w3.cell? ⟨g, i * 7 + 3, none⟩ = some (.int .i64 ii) ∧ w3.cell? ⟨g, i * 7 + 4, none⟩ = some (.int .i64 oo) ∧ w3.cell? ⟨g, i * 7 + 5, none⟩ = some (.slice wa k.wr.length wc) ∧ w3.cell? ⟨g, i * 7 + 6, none⟩ = some (.slice ra rl rc) ∧
      Hid (∀ wx, Quiet w3 wx → (wx.cell? ⟨w.heap.size, 0, none⟩ = some (.string lo) ∧ wx.cell? ⟨w.heap.size, 1, none⟩ = some (.string hi') ∧ wx.cell? ⟨w.heap.size, 2, none⟩ = some (.bool false)) ∧ (∃ va vc, wx.cell? ⟨m.sb, 6, none⟩ = some (.slice va m.vers.length vc) ∧ ∀ (n : Nat) (p : ByteArray × Ver), m.vers[n]? = some p → ∃ gv, va = some ⟨gv, 0, none⟩ ∧ wx.cell? ⟨gv, n * 4 + 1, none⟩ = some (.string p.1)) ∧
        (∀ (n : Nat) (p : ByteArray × Cont), k.wr[n]? = some p → ∃ gw, wa = some ⟨gw, 0, none⟩ ∧ wx.cell? ⟨gw, n * 3, none⟩ = some (.string p.1) ∧ wx.cell? ⟨gw, n * 3 + 1, none⟩ = some (.string p.2.1) ∧ wx.cell? ⟨gw, n * 3 + 2, none⟩ = some (.bool p.2.2)) ∧
        ChAt wx (.slice wa k.wr.length wc) (k.wr.map chgOf) ∧
        ∀ b key, Calls Tryz.prog 117 #[.pointer (some ⟨m.sb, 0, none⟩), .int .i64 b, .string key] wx fun e w' => e = .returned (.tuple #[.string (m.rs.sees b key).1, .bool (m.rs.sees b key).2]) ∧ Quiet wx w')) := fun w3 hL => by
    obtain ⟨m3, h1, h2, h3⟩ := hL
    obtain ⟨k', hk', hb', hw'⟩ := hRA
    rw [← h3] at hk'
    obtain ⟨g, cap, wa, wc, ra, rc, T⟩ := h1.tx hk'
    have hl3 : m3.txs.length = m.txs.length := by rw [← rs_len, h3]; exact hRl
    have hv3 : m3.vers = m.vers := by show m3.rs.vers = _; rw [h3]; exact hRv
    have c5 := T.c5
    have p0 := T.p0
    have p5 := T.p5
    rw [h2.sb, hl3] at c5
    rw [hb'] at p0
    rw [hw'] at p5
    refine ⟨g, cap, wa, wc, ra, rc, _, _, _, _, _, c5, p0, T.p1, T.p2, T.p3, T.p4, p5, T.p6, fun wx q => ?_⟩
    have hrb : w3.heap[w.heap.size]? = _ := (h2.keeps.block w.heap.size hsA (fun h => by have := hml _ h; omega)).trans hba
    have hsb3 := lt_of_heap hrb
    refine ⟨⟨?_, ?_, ?_⟩, ?_, fun n p hp => ?_, ?_, fun b key => ?_⟩
    · rw [q.cell hsb3 (by simp), cell_of_heap hrb]; rfl
    · rw [q.cell hsb3 (by simp), cell_of_heap hrb]; rfl
    · rw [q.cell hsb3 (by simp), cell_of_heap hrb]; rfl
    · obtain ⟨tag, H1⟩ := h1.quiet q
      obtain ⟨va, vc, ev, hrow⟩ := H1.versAt
      have e6 := H1.cell.2.2.2.2.2.2
      rw [ev, h2.sb, hv3] at e6
      refine ⟨va, vc, e6, fun n p hp => ?_⟩
      rcases hrow with h0 | ⟨gv, rfl, -, -, hgv, -, hcell⟩
      · rw [hv3] at h0; rw [h0] at hp; simp at hp
      · rw [← hv3] at hp
        exact ⟨gv, rfl, hcell n p hp 1 (by omega)⟩
    · obtain ⟨gw, e1, -, e2, e3, e4⟩ := (h1.quiet q).wrow (T.quiet q) (by rw [hw']; exact hp)
      exact ⟨gw, e1, e2, e3, e4⟩
    · have := (h1.quiet q).chAt (T.quiet q) (by rw [hw']; omega)
      rw [hw'] at this
      exact this
    · obtain ⟨tag, H1⟩ := h1.quiet q
      have := rsees_h H1 (by rw [hv3]; omega) b key
      rw [h2.sb, h3, hRs] at this
      exact this
  clear hRA hRv hRl hRs hRd H hi h0 Bd hml hba
  have HK0 := hidC' hK0
  have HKn := hidC' hKn
  clear hK0 hKn HL0
  have HSc := hidC' hSc
  clear hSc
  by_cases her : ¬ er = 0
  · have her' : (er == 0) = false := by simpa using her
    clear HFx HK0 HKn
    rcases hor with ⟨o1, o3⟩ | ⟨⟨o1, o3⟩, o2⟩
    all_goals
      go_enter Tryz.func118, Tryz.ntmps118
      go_wp2_with (first
        | (go_at_call 114; refine HA.out.mono ?_; rintro e w1 ⟨rfl, rfl⟩)
        | (go_at_call 116; refine hRd'.out.mono ?_; rintro e w3 ⟨rfl, hL3⟩))
      go_ret2
      refine ⟨_, [], ?_, ?_, PrAt.nil _, fun _ => rfl, fun h => ?_⟩
      · rw [HSc.out]; rfl
      · rw [HSc.out]; exact RLeft.before hqa hL3
      · rw [HSc.out] at h; exact absurd h her
  have her0 : er = 0 := Decidable.not_not.1 her
  clear her
  subst her0
  rcases hor with ⟨o1, o3⟩ | ⟨⟨o1, o3⟩, o2⟩
  all_goals
    go_enter Tryz.func118, Tryz.ntmps118
    go_wp2_with (first
      | (go_at_call 114; refine HA.out.mono ?_; rintro e w1 ⟨rfl, rfl⟩)
      | (go_at_call 116; refine hRd'.out.mono ?_; rintro e w3 ⟨rfl, hL3⟩; obtain ⟨g, cap, wa, wc, ra, rc, cm, st, ii, oo, rl, c5, p0, p1, p2, p3, p4, p5, p6, HF⟩ := HFx.out _ hL3))
    have hq4 : Quiet w3 (w3.alloc (.cells #[.int .i64 k.bg, .int .i64 cm, .int .i64 st, .int .i64 ii, .int .i64 oo, .slice wa k.wr.length wc, .slice ra rl rc] 197)) := Keeps.alloc _ _
    have hb4 : (w3.alloc (.cells #[.int .i64 k.bg, .int .i64 cm, .int .i64 st, .int .i64 ii, .int .i64 oo, .slice wa k.wr.length wc, .slice ra rl rc] 197)).heap[w3.heap.size]? = some (.cells #[.int .i64 k.bg, .int .i64 cm, .int .i64 st, .int .i64 ii, .int .i64 oo, .slice wa k.wr.length wc, .slice ra rl rc] 197) := heap_alloc_new _ _
    have HL4 := hidC' ((RLeft.before hqa hL3).quiet hq4)
    generalize (w3.alloc (.cells #[.int .i64 k.bg, .int .i64 cm, .int .i64 st, .int .i64 ii, .int .i64 oo, .slice wa k.wr.length wc, .slice ra rl rc] 197)) = W4 at *
    have hs4 := lt_of_heap hb4
    have HG : Hid (∀ wx, Quiet W4 wx → wx.cell? ⟨w3.heap.size, 0, none⟩ = some (.int .i64 k.bg) ∧ wx.cell? ⟨w3.heap.size, 1, none⟩ = some (.int .i64 cm) ∧ wx.cell? ⟨w3.heap.size, 2, none⟩ = some (.int .i64 st) ∧ wx.cell? ⟨w3.heap.size, 3, none⟩ = some (.int .i64 ii) ∧ wx.cell? ⟨w3.heap.size, 4, none⟩ = some (.int .i64 oo) ∧ wx.cell? ⟨w3.heap.size, 5, none⟩ = some (.slice wa k.wr.length wc) ∧ wx.cell? ⟨w3.heap.size, 6, none⟩ = some (.slice ra rl rc)) := fun wx q => by
      refine ⟨?_, ?_, ?_, ?_, ?_, ?_, ?_⟩ <;> rw [q.cell hs4 (by simp), cell_of_heap hb4] <;> rfl
    have HF4 : Hid (∀ wx, Quiet W4 wx → Quiet w3 wx) := fun wx q => Quiet.trans' hq4 q
    clear c5 p0 p1 p2 p3 p4 p5 p6 hb4 HA hRd' HFx
    clear hs4
    have hKl : (m.rs.keysOf k).length ≤ 1048592 := by
      unfold RSt.keysOf
      rw [List.length_append, List.length_map, List.length_map]
      have : m.rs.vers.length = m.vers.length := rfl
      omega
    have hK2 : m.rs.keysOf k = m.vers.map (·.1) ++ k.wr.map (·.1) := rfl
    have HK2 := hidC' hK2
    clear hK2
    generalize m.rs.keysOf k = KK at *
    go_loopw [14, 15] (fun lv la wr => ∃ (last : ByteArray) (l : Tab), la = .string last ∧ Quiet W4 wr ∧ Hid (PrSl W4.heap.size wr lv l) ∧ Hid (ScanI m.rs k (true, lo, hi') KK last l)) (fun _ la _ => cntB KK (strOf la))
    case atStart => exact ⟨⟨#[]⟩, [], rfl, Keeps.refl _ _, World.ownsRow_nil _ _ _ _, ScanI.init HKn.out HK0.out⟩
    case round =>
      obtain ⟨last, l, rfl, hq5, HP, HS⟩ := hrel
      obtain ⟨ja, jc, rfl, -⟩ := HP.out.at
      have hll : l.length ≤ 1048592 := by have := HS.out.cnt; omega
      obtain ⟨W5, hW5⟩ : ∃ W5, W5 = wr := ⟨wr, rfl⟩
      subst hW5
      go_wp2
      go_loopw [16, 17] (fun nx jj wr' => ∃ (n : Nat) (Bt : ByteArray), nx = .string Bt ∧ jj = .int .i64 n ∧ n ≤ m.vers.length ∧ Quiet W5 wr' ∧ Hid (((m.vers.map (·.1)).take n).foldl (nearB (true, lo, hi') last) ⟨#[]⟩ = Bt)) (fun _ jj _ => m.vers.length - (intOf jj).toNat)
      case atStart => exact ⟨0, ⟨#[]⟩, rfl, rfl, Nat.zero_le _, Keeps.refl _ _, rfl⟩
      case round =>
        obtain ⟨n6, Bt, rfl, rfl, hn6, hq6, HB⟩ := hrel
        have hqw6 := Quiet.trans' hq5 hq6
        obtain ⟨⟨r0, r1, r2⟩, ⟨va, vc, c6, hvr⟩, -, -, -⟩ := HF.out _ (HF4.out _ hqw6)
        by_cases hlt6 : n6 < m.vers.length
        · have hlt6' : (n6 : Int) < (m.vers.length : Int) := by omega
          obtain ⟨p, hp⟩ : ∃ p, m.vers[n6]? = some p := ⟨_, List.getElem?_eq_getElem hlt6⟩
          obtain ⟨gv, rfl, v1⟩ := hvr n6 p hp
          have HN : Hid (∀ W', Calls Tryz.prog 183 #[.agg #[.string lo, .string hi', .bool false], .string last, .string Bt, .string p.1] W' fun e w' => e = .returned (.string (nearB (true, lo, hi') last Bt p.1)) ∧ Quiet W' w') := fun W' => nearer_h true lo hi' last Bt p.1 W'
          have HS6 : Hid (((m.vers.map (·.1)).take (n6 + 1)).foldl (nearB (true, lo, hi') last) ⟨#[]⟩ = nearB (true, lo, hi') last Bt p.1) := hidC' (by
            rw [take_succ_of (x := p.1) (by rw [List.getElem?_map, hp]; rfl), List.foldl_append, HB.out]; rfl)
          clear hvr hp HB HF HF4 HG HS HP HK0 HKn HSc HL4 HK2
          generalize nearB (true, lo, hi') last Bt p.1 = B2 at *
          go_wp2
          go_region_with (go_at_call 183; refine (HN.out _).mono ?_; rintro e w7 ⟨rfl, hq7⟩)
          all_goals
            clear r0 r1 r2 c6 v1 HN
            go_wp2
            exact ⟨⟨n6 + 1, B2, rfl, by go_num, by omega, Quiet.trans' hq6 (Quiet.trans' (Keeps.drew _) hq7), HS6⟩, by simp [intOf]; omega⟩
        · have hge6 : ¬ (n6 : Int) < (m.vers.length : Int) := by omega
          have HB1 : Hid ((m.vers.map (·.1)).foldl (nearB (true, lo, hi') last) ⟨#[]⟩ = Bt) := hidC' (by have h := HB.out; rw [List.take_of_length_le (by rw [List.length_map]; omega)] at h; exact h)
          clear HB hvr
          obtain ⟨W6, hW6⟩ : ∃ W6, W6 = wr := ⟨wr, rfl⟩
          subst hW6
          go_wp2
          go_loopw [16, 18] (fun nx jj wr' => ∃ (n : Nat) (Bu : ByteArray), nx = .string Bu ∧ jj = .int .i64 n ∧ n ≤ k.wr.length ∧ Quiet W6 wr' ∧ Hid (((k.wr.map (·.1)).take n).foldl (nearB (true, lo, hi') last) Bt = Bu)) (fun _ jj _ => k.wr.length - (intOf jj).toNat)
          case atStart => exact ⟨0, Bt, rfl, rfl, Nat.zero_le _, Keeps.refl _ _, rfl⟩
          case round =>
            obtain ⟨n7, Bu, rfl, rfl, hn7, hq7, HB7⟩ := hrel
            have hqw7 := Quiet.trans' hqw6 hq7
            obtain ⟨⟨r0', r1', r2'⟩, -, hwr, hch, hse⟩ := HF.out _ (HF4.out _ hqw7)
            obtain ⟨t0, t1, t2, t3, t4, t5, t6⟩ := HG.out _ hqw7
            by_cases hlt7 : n7 < k.wr.length
            · have hlt7' : (n7 : Int) < (k.wr.length : Int) := by omega
              obtain ⟨p, hp⟩ : ∃ p, k.wr[n7]? = some p := ⟨_, List.getElem?_eq_getElem hlt7⟩
              obtain ⟨gw, rfl, v1, -, -⟩ := hwr n7 p hp
              have HN : Hid (∀ W', Calls Tryz.prog 183 #[.agg #[.string lo, .string hi', .bool false], .string last, .string Bu, .string p.1] W' fun e w' => e = .returned (.string (nearB (true, lo, hi') last Bu p.1)) ∧ Quiet W' w') := fun W' => nearer_h true lo hi' last Bu p.1 W'
              have HS7 : Hid (((k.wr.map (·.1)).take (n7 + 1)).foldl (nearB (true, lo, hi') last) Bt = nearB (true, lo, hi') last Bu p.1) := hidC' (by
                rw [take_succ_of (x := p.1) (by rw [List.getElem?_map, hp]; rfl), List.foldl_append, HB7.out]; rfl)
              clear hwr hch hse hp HB7 HF HF4 HG HS HP HK0 HKn HSc HL4 HK2 HB1 c6 r0 r1 r2 t0 t1 t2 t3 t4 t6
              generalize nearB (true, lo, hi') last Bu p.1 = B2 at *
              go_wp2
              go_region_with (go_at_call 183; refine (HN.out _).mono ?_; rintro e w7 ⟨rfl, hq8⟩)
              all_goals
                clear r0' r1' r2' v1 HN t5
                go_wp2
                exact ⟨⟨n7 + 1, B2, rfl, by go_num, by omega, Quiet.trans' hq7 (Quiet.trans' (Keeps.drew _) hq8), HS7⟩, by simp [intOf]; omega⟩
            · have hge7 : ¬ (n7 : Int) < (k.wr.length : Int) := by omega
              have HNx : Hid (nextB (true, lo, hi') KK last = Bu) := hidC' (by
                rw [HK2.out, nextB_two, HB1.out, ← HB7.out, List.take_of_length_le (by rw [List.length_map]; omega)])
              by_cases hemp : Bu = ⟨#[]⟩
              · have HRS := hidC' (HS.out.fin HKn.out HK0.out (HNx.out.trans hemp))
                have HPa : Hid (PrAt wr (.slice ja l.length jc) l) := hidC' ((PrAt.of_sl HP.out).quiet (Quiet.trans' hq6 hq7))
                have HL7 := hidC' (HL4.out.quiet hqw7)
                subst hemp
                clear hwr hch hse HB7 HF HF4 HG HS HP HK0 HKn HL4 HK2 HB1 HNx
                go_wp2
                go_ret2
                refine ⟨_, l, ?_, ?_, HPa.out, fun h => ?_, fun _ => HRS.out⟩
                · rw [HSc.out]; rfl
                · rw [HSc.out]; exact HL7.out
                · rw [HSc.out] at h; exact absurd rfl h
              · have hne1 : ¬ Bu.toList = [] := fun h => hemp (emptyB.1 (by rw [h]; rfl))
                have hne2 : Bu.toList.isEmpty = false := by cases hh : Bu.toList with | nil => exact absurd hh hne1 | cons _ _ => rfl
                have HWr := hidC (written_h wr k.bg cm st ii oo _ (.slice ra rl rc) k.wr hch ⟨_, _, _, rfl⟩ Bu)
                have HSt : Hid (∀ v f, m.rs.seen k Bu = (v, f) → ScanI m.rs k (true, lo, hi') KK Bu (if f then l ++ [(Bu, v)] else l) ∧ cntB KK Bu < cntB KK last) := hidC' (fun v f hs => by
                  have := HS.out.step HKn.out HK0.out (v := v) (f := f) (by rw [HNx.out]; exact hemp) (by rw [HNx.out]; exact hs)
                  rw [HNx.out] at this
                  exact this)
                have HW : Hid (∀ wx, Quiet wr wx → (wx.cell? ⟨w3.heap.size, 0, none⟩ = some (.int .i64 k.bg) ∧ wx.cell? ⟨w3.heap.size, 5, none⟩ = some (.slice wa k.wr.length wc)) ∧ Quiet W4 wx ∧ wx.ownsRow W4.heap.size 113 2 (.slice ja l.length jc) l.length (l.flatMap pairCells) ∧ (Calls Tryz.prog 117 #[.pointer (some ⟨m.sb, 0, none⟩), .int .i64 k.bg, .string Bu] wx fun e w' => e = .returned (.tuple #[.string (m.rs.sees k.bg Bu).1, .bool (m.rs.sees k.bg Bu).2]) ∧ Quiet wx w') ∧ ∀ (n : Nat) (p : ByteArray × Cont), k.wr[n]? = some p → ∃ gw, wa = some ⟨gw, 0, none⟩ ∧ wx.cell? ⟨gw, n * 3 + 1, none⟩ = some (.string p.2.1) ∧ wx.cell? ⟨gw, n * 3 + 2, none⟩ = some (.bool p.2.2)) := fun wx q => by
                  have hqx := Quiet.trans' hqw7 q
                  obtain ⟨x0, -, -, -, -, x5, -⟩ := HG.out _ hqx
                  obtain ⟨-, -, hwx, -, hsx⟩ := HF.out _ (HF4.out _ hqx)
                  refine ⟨⟨x0, x5⟩, hqx, ?_, hsx k.bg Bu, fun n p hp => ?_⟩
                  · exact ownsRow_of_block HP.out (fun b hb => (Quiet.trans' (Quiet.trans' hq6 hq7) q).block b (HP.out.lt b hb).2 id)
                  · obtain ⟨gw, y1, -, y2, y3⟩ := hwx n p hp
                    exact ⟨gw, y1, y2, y3⟩
                obtain ⟨i0, hi0, hz0, hz1, hz2⟩ := info_parts info_pair
                have hsz4 := hqw7.size
                clear hwr hch hse HB7 HF HF4 HG HS HP HK0 HKn HL4 HK2 HB1 HNx hemp HSc c6 r0 r1 r2 r0' r1' r2'
                cases hlk : look k.wr Bu with
                | some c =>
                  have HX : Hid (∀ x, AtW k.wr Bu x → ∃ j : Nat, x = j ∧ (j : Int) < (k.wr.length : Int) ∧ k.wr[j]? = some (Bu, c)) := hidC' (fun x hx => by
                    rcases hx with ⟨j, c', rfl, hc, hj⟩ | ⟨_, hc⟩
                    · rw [hlk] at hc
                      obtain rfl := Option.some.inj hc
                      exact ⟨j, rfl, by have := (List.getElem?_eq_some_iff.1 hj).1; omega, hj⟩
                    · rw [hlk] at hc; cases hc)
                  have hse : m.rs.seen k Bu = (c.1, !c.2) := by unfold RSt.seen; rw [hlk]
                  obtain ⟨cv, cg⟩ := c
                  obtain ⟨hS1, hC1⟩ := HSt.out _ _ hse
                  have HC1 := hidC' hC1
                  clear hlk hse HSt hC1
                  generalize m.rs.sees k.bg Bu = se at *
                  cases cg with
                  | true =>
                    have HS1 : Hid (ScanI m.rs k (true, lo, hi') KK Bu l) := hidC' hS1
                    clear hS1
                    go_wp2_with (first
                      | (go_at_call 115; refine HWr.out.mono ?_; rintro e w8 ⟨⟨xx, rfl, hAt⟩, hq8⟩; obtain ⟨j, rfl, hjl, hj⟩ := HX.out _ hAt; obtain ⟨⟨x0, x5⟩, -, -, hSees, -⟩ := HW.out _ hq8; clear HWr)
                      | (go_at_call 117; refine hSees.mono ?_; rintro e w9 ⟨rfl, hq9⟩; obtain ⟨⟨x0', x5'⟩, hqw9, hown9, -, hrow9⟩ := HW.out _ (Quiet.trans' hq8 hq9); obtain ⟨gw, rfl, y1, y2⟩ := hrow9 _ _ hj; clear hSees hrow9))
                    exact ⟨⟨Bu, l, rfl, hqw9, hown9, HS1⟩, HC1.out⟩
                  | false =>
                    have HS1 : Hid (ScanI m.rs k (true, lo, hi') KK Bu (l ++ [(Bu, cv)])) := hidC' hS1
                    clear hS1
                    go_wp2_with (first
                      | (go_at_call 115; refine HWr.out.mono ?_; rintro e w8 ⟨⟨xx, rfl, hAt⟩, hq8⟩; obtain ⟨j, rfl, hjl, hj⟩ := HX.out _ hAt; obtain ⟨⟨x0, x5⟩, -, -, hSees, -⟩ := HW.out _ hq8; clear HWr)
                      | (go_at_call 117; refine hSees.mono ?_; rintro e w9 ⟨rfl, hq9⟩; obtain ⟨⟨x0', x5'⟩, hqw9, hown9, -, hrow9⟩ := HW.out _ (Quiet.trans' hq8 hq9); obtain ⟨gw, rfl, y1, y2⟩ := hrow9 _ _ hj; have hs9 := hqw9.size; clear hSees hrow9)
                      | (at_builtin; refine wpList_append_own_at _ rfl _ _ 34 rfl W4.heap.size 113 i0 (.agg #[.string ⟨#[]⟩, .string ⟨#[]⟩]) 2 32 Tryz.underlying34 hi0 hz0 hz1 hz2 rfl (by decide) _ _ _ (by simp [go_sem]) (hown9.alloc _) ⟨w9.heap.size, 0, none⟩ 1 1 [.string Bu, .string cv] (by simp [go_sem]) rfl (cell_twoNew w9 (.string Bu) (.string cv) 113) (one2 _ _) (by unfold maxLen; omega) (by omega) (by simp; omega) ?_))
                    intro v5 w5 hown5 hgrow hnil hloc
                    have k5 := keeps_of_grown hgrow
                    have hlo5 := hown9.lt
                    have hq10 : Quiet W4 w5 := Quiet.of_new (Quiet.trans' hqw9 (Keeps.alloc _ _)) k5 (fun b hb => (hlo5 b hb).1)
                    have hown6 := hidC' (PrSl.snoc hown5)
                    clear hown5 hgrow hnil hloc k5 hlo5 hown9
                    go_wp2
                    go_roundw
                    case rel => exact ⟨Bu, _, rfl, hq10, hown6, HS1⟩
                    case measure => exact HC1.out
                | none =>
                  have HX : Hid (∀ x, AtW k.wr Bu x → x = -1) := hidC' (fun x hx => by
                    rcases hx with ⟨j, c', rfl, hc, hj⟩ | ⟨h, _⟩
                    · rw [hlk] at hc; cases hc
                    · exact h)
                  have hse : m.rs.seen k Bu = m.rs.sees k.bg Bu := by unfold RSt.seen; rw [hlk]
                  generalize m.rs.sees k.bg Bu = se at *
                  obtain ⟨sv, sf⟩ := se
                  obtain ⟨hS1, hC1⟩ := HSt.out _ _ hse
                  have HC1 := hidC' hC1
                  clear hlk hse HSt hC1
                  cases sf with
                  | false =>
                    have HS1 : Hid (ScanI m.rs k (true, lo, hi') KK Bu l) := hidC' hS1
                    clear hS1
                    go_wp2_with (first
                      | (go_at_call 115; refine HWr.out.mono ?_; rintro e w8 ⟨⟨xx, rfl, hAt⟩, hq8⟩; obtain rfl := HX.out _ hAt; obtain ⟨⟨x0, x5⟩, -, -, hSees, -⟩ := HW.out _ hq8; clear HWr)
                      | (go_at_call 117; refine hSees.mono ?_; rintro e w9 ⟨rfl, hq9⟩; obtain ⟨⟨x0', x5'⟩, hqw9, hown9, -, -⟩ := HW.out _ (Quiet.trans' hq8 hq9); clear hSees))
                    exact ⟨⟨Bu, l, rfl, hqw9, hown9, HS1⟩, HC1.out⟩
                  | true =>
                    have HS1 : Hid (ScanI m.rs k (true, lo, hi') KK Bu (l ++ [(Bu, sv)])) := hidC' hS1
                    clear hS1
                    go_wp2_with (first
                      | (go_at_call 115; refine HWr.out.mono ?_; rintro e w8 ⟨⟨xx, rfl, hAt⟩, hq8⟩; obtain rfl := HX.out _ hAt; obtain ⟨⟨x0, x5⟩, -, -, hSees, -⟩ := HW.out _ hq8; clear HWr)
                      | (go_at_call 117; refine hSees.mono ?_; rintro e w9 ⟨rfl, hq9⟩; obtain ⟨⟨x0', x5'⟩, hqw9, hown9, -, -⟩ := HW.out _ (Quiet.trans' hq8 hq9); have hs9 := hqw9.size; clear hSees)
                      | (at_builtin; refine wpList_append_own_at _ rfl _ _ 34 rfl W4.heap.size 113 i0 (.agg #[.string ⟨#[]⟩, .string ⟨#[]⟩]) 2 32 Tryz.underlying34 hi0 hz0 hz1 hz2 rfl (by decide) _ _ _ (by simp [go_sem]) (hown9.alloc _) ⟨w9.heap.size, 0, none⟩ 1 1 [.string Bu, .string sv] (by simp [go_sem]) rfl (cell_twoNew w9 (.string Bu) (.string sv) 113) (one2 _ _) (by unfold maxLen; omega) (by omega) (by simp; omega) ?_))
                    intro v5 w5 hown5 hgrow hnil hloc
                    have k5 := keeps_of_grown hgrow
                    have hlo5 := hown9.lt
                    have hq10 : Quiet W4 w5 := Quiet.of_new (Quiet.trans' hqw9 (Keeps.alloc _ _)) k5 (fun b hb => (hlo5 b hb).1)
                    have hown6 := hidC' (PrSl.snoc hown5)
                    clear hown5 hgrow hnil hloc k5 hlo5 hown9
                    go_wp2
                    go_roundw
                    case rel => exact ⟨Bu, _, rfl, hq10, hown6, HS1⟩
                    case measure => exact HC1.out

end
end Go.Proofs.YthfimgeopciiiaaGreat
