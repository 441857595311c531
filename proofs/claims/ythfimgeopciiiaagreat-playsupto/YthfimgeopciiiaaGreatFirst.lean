/-
  mark; which records are forgotten.
-/
import Derived.Test.YthfimgeopciiiaaGreatComm
namespace Go.Proofs.YthfimgeopciiiaaGreat
open Go.MapKept Go.ChangeMaps Go.Maps Go.RowKit Go.MuLone

/-- the mark for cleaning up: the least Begin of the active ones, or the clock -/
def Sto.mark (s : Sto) : Int := match s.hl with | [] => s.clock | t :: _ => s.bg t

set_option maxRecDepth 100000 in
set_option maxHeartbeats 1000000 in
theorem mark_h {w : World} {s : Sto} (H : StAt w s) : Calls Tryz.prog 87 #[.pointer (some ⟨s.sb, 2, none⟩)] w fun e w' => e = .returned (.int .i64 s.mark) ∧ w' = w := by
  have c6 : w.cell? ⟨s.sb, 6, none⟩ = some (.int .i64 s.clock) := H.cell 6
  have c9 : w.cell? ⟨s.sb, 9, none⟩ = some s.hv := H.cell 9
  cases hh : s.hl with
  | nil =>
    obtain ⟨a, cap, hv⟩ := H.heap.len_cell
    rw [hh] at hv
    have hm : s.mark = s.clock := by simp [Sto.mark, hh]
    have HT := hidC (top_none s.sb 9 w a cap (by rw [c9, hv]; rfl))
    rw [hm]
    clear H c9 hv
    go_enter Tryz.func87, Tryz.ntmps87
    go_wp2_with (go_at_call 141; refine (HT.out).mono ?_; rintro e w' ⟨rfl, rfl⟩)
    go_ret
    exact ⟨rfl, rfl⟩
  | cons t l =>
    have hm : s.mark = s.bg t := by simp [Sto.mark, hh]
    obtain ⟨r, hr, hrt, _⟩ := H.hrec 0 t (by rw [hh]; rfl)
    have hbg : s.bg t = r.bg := by rw [← hrt]; exact Sto.bg_eq H.nd hr
    have t1 : w.cell? ⟨t, 1, none⟩ = some (.int .i64 r.bg) := by rw [← hrt]; exact (H.recs r hr).cell 1
    rcases H.hsl.2 with ⟨_, h0⟩ | ⟨g, cap, cur, hv, _, hg, h1, h2, h3, h4⟩
    · rw [hh] at h0; simp at h0
    · have g0 : w.cell? ⟨g, 0, none⟩ = some (.pointer (some ⟨t, 0, none⟩)) := by
        have : (s.hl.map ptrTo)[0]? = some (ptrTo t) := by rw [hh]; rfl
        rw [← h4, List.getElem?_take, if_pos (by rw [hh]; simp)] at this
        rw [cell_of_heap hg]
        simpa [ptrTo] using this
      have HT := hidC (top_some s.sb 9 g s.hl.length cap (some ⟨t, 0, none⟩) w (by rw [c9, hv]) (by rw [hh]; simp) g0)
      rw [hm, hbg]
      clear H c9 hv h4 hg
      go_enter Tryz.func87, Tryz.ntmps87
      go_wp2_with (go_at_call 141; refine (HT.out).mono ?_; rintro e w' ⟨rfl, rfl⟩)
      go_ret
      exact ⟨rfl, rfl⟩

/-- is a record forgotten at a mark -/
def Rec.old (m : Int) (x : Rec) : Bool := !(x.cm == 0) && decide (x.cm ≤ m)

set_option maxRecDepth 100000 in
set_option maxHeartbeats 1000000 in
theorem forget1_any (w : World) (t : Nat) (c : Int) (t2 : w.cell? ⟨t, 2, none⟩ = some (.int .i64 c)) (h : Value) (b : Nat) (m : Int) (hb : w.cell? ⟨b, 0, none⟩ = some (.int .i64 m)) :
    Calls Tryz.prog 143 #[h, .pointer (some ⟨t, 0, none⟩), .pointer (some ⟨b, 0, none⟩)] w fun e w' => e = .returned (.bool (!(c == 0) && decide (c ≤ m))) ∧ Quiet w w' := by
  by_cases hc : c = 0
  · subst hc
    go_enter Tryz.func143, Tryz.ntmps143
    go_wp2
    go_quiet ((go_at_call 144; exact Calls.quiet_of_same (isActive_yes _ _ t2)))
    go_wp2
    go_ret
    exact ⟨ret_bool (by simp), quiet_drewN _ _⟩
  · have HC : Hid (c ≠ 0) := hc
    clear hc
    go_enter Tryz.func143, Tryz.ntmps143
    go_wp2
    go_quiet ((go_at_call 144; exact Calls.quiet_of_same (isActive_no _ c _ t2 HC.out)))
    go_wp2
    go_ret
    exact ⟨ret_bool (by simp [HC.out]), quiet_drewN _ _⟩

theorem forget1_h (w : World) (x : Rec) (R : RecAt w x) (h : Value) (b : Nat) (m : Int) (hb : w.cell? ⟨b, 0, none⟩ = some (.int .i64 m)) :
    Calls Tryz.prog 143 #[h, .pointer (some ⟨x.tb, 0, none⟩), .pointer (some ⟨b, 0, none⟩)] w fun e w' => e = .returned (.bool (x.old m)) ∧ Quiet w w' :=
  forget1_any w x.tb x.cm (R.cell 2) h b m hb

end Go.Proofs.YthfimgeopciiiaaGreat

/-
  firstSeen: where the versions begin that are still seen.
-/
namespace Go.Proofs.YthfimgeopciiiaaGreat
open Go.MapKept Go.ChangeMaps Go.Maps Go.RowKit Go.MuLone

def firstF (m : Int) : List Ver → Nat → Nat → Nat
  | [], _, f => f
  | x :: r, i, f => if m < x.1 then f else firstF m r (i + 1) (if x.2.2 then i + 1 else i)

theorem firstF_drop {vs : List Ver} {n f : Nat} {m : Int} {x : Ver} (h : vs[n]? = some x) : firstF m (vs.drop n) n f = if m < x.1 then f else firstF m (vs.drop (n + 1)) (n + 1) (if x.2.2 then n + 1 else n) := by
  obtain ⟨hn, e⟩ := List.getElem?_eq_some_iff.1 h
  rw [List.drop_eq_getElem_cons hn, e]; rfl

theorem firstF_le (m : Int) : ∀ (l : List Ver) (i f : Nat), f ≤ i → firstF m l i f ≤ i + l.length
  | [], i, f, h => by simpa [firstF] using h
  | x :: r, i, f, h => by
    unfold firstF
    split
    · simp; omega
    · have := firstF_le m r (i + 1) (if x.2.2 then i + 1 else i) (by split <;> omega)
      simp only [List.length_cons]; omega

set_option maxRecDepth 100000 in
set_option maxHeartbeats 1000000 in
theorem firstSeen_h (w : World) (x : VRec) (hx : VAt w x) (m : Int) (hb : x.vs.length ≤ 1000) :
    Calls Tryz.prog 145 #[.slice x.a x.vs.length x.cap, .int .i64 m] w fun e w' => e = .returned (.int .i64 (firstF m x.vs 0 0 : Nat)) ∧ Quiet w w' := by
  have hc : x.vs = [] ∨ ∃ g, x.a = some ⟨g, 0, none⟩ ∧ g < w.heap.size ∧ ∀ i y, x.vs[i]? = some y → w.cell? ⟨g, i * 3, none⟩ = some (.int .i64 y.1) ∧ w.cell? ⟨g, i * 3 + 1, none⟩ = some (.string y.2.1) ∧ w.cell? ⟨g, i * 3 + 2, none⟩ = some (.bool y.2.2) := by
    by_cases he : x.vs = []
    · exact .inl he
    · right
      rcases hx.2 with ⟨e, h0⟩ | ⟨g, cap, cur, e, _, hg, h1, h2, h3, h4⟩
      · exact absurd (List.eq_nil_of_length_eq_zero h0) he
      · simp only [VRec.v, Value.slice.injEq] at e
        refine ⟨g, e.1, lt_of_heap hg, fun i y hy => ?_⟩
        have hi : i < x.vs.length := (List.getElem?_eq_some_iff.1 hy).1
        obtain ⟨p1, p2, p3⟩ := getElem_verCells x.vs i y hy
        rw [← h4] at p1 p2 p3
        rw [List.getElem?_take, if_pos (by omega)] at p1 p2 p3
        simp only [cell_of_heap hg]
        exact ⟨by simpa using p1, by simpa using p2, by simpa using p3⟩
  clear hx
  generalize x.vs = vs at *
  generalize x.a = a at *
  generalize x.cap = cap at *
  go_enter Tryz.func145, Tryz.ntmps145
  go_wp2
  go_loopw [5, 10] (fun v i wr => ∃ n f : Nat, v = .int .i64 f ∧ i = .int .i64 n ∧ n ≤ vs.length ∧ Quiet w wr ∧ firstF m vs 0 0 = firstF m (vs.drop n) n f) (fun _ i _ => vs.length - (intOf i).toNat)
  case atStart => exact ⟨0, 0, rfl, rfl, Nat.zero_le _, Keeps.refl _ _, rfl⟩
  case round =>
    obtain ⟨n, f, rfl, rfl, hn, hkp, hF⟩ := hrel
    have HF : Hid (firstF m vs 0 0 = firstF m (vs.drop n) n f) := hF
    clear hF
    by_cases hlt' : n < vs.length
    · have hlt'' : (n : Int) < (vs.length : Int) := by omega
      rcases hc with h0 | ⟨g, rfl, hgl, hcell⟩
      · rw [h0] at hlt'; simp at hlt'
      obtain ⟨y, hy⟩ : ∃ y, vs[n]? = some y := ⟨_, List.getElem?_eq_getElem hlt'⟩
      obtain ⟨p1, p2, p3⟩ := hcell n y hy
      rw [← hkp.cell hgl (by simp)] at p1 p2 p3
      have HG : Hid (firstF m vs 0 0 = if m < y.1 then f else firstF m (vs.drop (n + 1)) (n + 1) (if y.2.2 then n + 1 else n)) := by rw [Hid, HF.out]; exact firstF_drop hy
      clear hcell HF hy
      by_cases hm : m < y.1
      · rw [Hid, if_pos hm] at HG
        have HG2 : Hid (firstF m vs 0 0 = f) := HG
        clear HG
        go_wp2
        go_ret
        exact ⟨ret_int (by rw [HG2.out]), Quiet.trans' hkp (Keeps.alloc _ _)⟩
      · rw [Hid, if_neg hm] at HG
        cases hg : y.2.2 with
        | false =>
          rw [hg] at p3 HG
          have HG2 : Hid (firstF m vs 0 0 = firstF m (vs.drop (n + 1)) (n + 1) n) := HG
          clear HG hg
          go_wp2
          exact ⟨⟨n + 1, n, by go_num, by go_num, by omega, Quiet.trans' hkp (Keeps.alloc _ _), HG2.out⟩, by simp [intOf]; omega⟩
        | true =>
          rw [hg] at p3 HG
          have HG2 : Hid (firstF m vs 0 0 = firstF m (vs.drop (n + 1)) (n + 1) (n + 1)) := HG
          clear HG hg
          go_wp2
          exact ⟨⟨n + 1, n + 1, by go_num, by go_num, by omega, Quiet.trans' hkp (Keeps.alloc _ _), HG2.out⟩, by simp [intOf]; omega⟩
    · have hge : ¬ (n : Int) < (vs.length : Int) := by omega
      clear hc
      go_wp2
      go_ret
      exact ⟨ret_int (by rw [HF.out, List.drop_eq_nil_of_le (by omega)]; rfl), hkp⟩

end Go.Proofs.YthfimgeopciiiaaGreat
