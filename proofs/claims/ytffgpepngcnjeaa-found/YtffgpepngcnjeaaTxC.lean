/-
  The right shape and the id of a transaction, by the document's answer.
-/
import Derived.Test.YtffgpepngcnjeaaTxB
namespace Go.Proofs.Ytffgpepngcnjeaa
open Go.RowKit

set_option maxRecDepth 100000 in
set_option maxHeartbeats 400000 in
theorem rRightOut_any (a v : Int) (w : World) :
    Calls Try.prog 96 #[.agg #[.int .i64 a, .int .i64 v]] w fun e w' => e = .returned (.bool (rOut (a, v))) ∧ Below w.heap.size w w' := by
  cases hm : Mk.isM a
  · go_enter Try.func96, Try.ntmps96
    go_wp2_with (go_at_call 65; refine (rMark_any _ _).mono ?_; rintro e w' ⟨rfl, rfl⟩)
    go_ret
    exact ⟨ret_bool (by simp [rOut, hm]), (Below.refl _ _).alloc (Nat.le_refl _) _⟩
  · by_cases h1 : 10 ≤ v
    · by_cases h2 : v ≤ 1099511627776
      · go_enter Try.func96, Try.ntmps96
        go_wp2_with (go_at_call 65; refine (rMark_any _ _).mono ?_; rintro e w' ⟨rfl, rfl⟩)
        go_ret
        exact ⟨ret_bool (by simp [rOut, hm, h1, h2]), (Below.refl _ _).alloc (Nat.le_refl _) _⟩
      · go_enter Try.func96, Try.ntmps96
        go_wp2_with (go_at_call 65; refine (rMark_any _ _).mono ?_; rintro e w' ⟨rfl, rfl⟩)
        go_ret
        exact ⟨ret_bool (by simp [rOut, hm]; omega), (Below.refl _ _).alloc (Nat.le_refl _) _⟩
    · go_enter Try.func96, Try.ntmps96
      go_wp2_with (go_at_call 65; refine (rMark_any _ _).mono ?_; rintro e w' ⟨rfl, rfl⟩)
      go_ret
      exact ⟨ret_bool (by simp [rOut, hm]; omega), (Below.refl _ _).alloc (Nat.le_refl _) _⟩

set_option maxRecDepth 100000 in
set_option maxHeartbeats 1000000 in
theorem rRightIn_any (x : InD) (w : World) (hx : InOk w x) :
    Calls Try.prog 95 #[.agg #[.int .i64 x.id, .int .i64 x.pos, .slice x.ao x.n x.c]] w fun e w' => e = .returned (.bool (rIn x)) ∧ Below w.heap.size w w' := by
  obtain ⟨id, pos, ao, n, c, l⟩ := x
  obtain ⟨h1, h2, h3, h4⟩ := hx
  simp only at h1 h2 h3 h4 ⊢
  have HN : Hid (l.length = n) := h2
  have HR : Hid (IntsAt w ao l) := h1
  clear h1 h2 h4
  have bl : ∀ o, Below w.heap.size w (w.alloc o) := fun o => (Below.refl _ _).alloc (Nat.le_refl _) _
  have HB : Hid _ := bl
  clear bl
  cases hm : Mk.isM id
  · go_enter Try.func95, Try.ntmps95
    go_wp2_with (first | (go_at_call 65; refine (rMark_any _ _).mono ?_; rintro e w' ⟨rfl, rfl⟩) | (go_at_call 68; refine (rIsSeal_any _ _ _ l _ (HR.out.grown (HB.out _)) HN.out).mono ?_; rintro e w' ⟨rfl, rfl⟩))
    go_ret
    exact ⟨ret_bool (by simp [rIn, hm]), HB.out _⟩
  · by_cases p0 : 0 ≤ pos
    · by_cases p1 : pos < 8
      · by_cases hn0 : n = 0
        · subst hn0
          go_enter Try.func95, Try.ntmps95
          go_wp2_with (first | (go_at_call 65; refine (rMark_any _ _).mono ?_; rintro e w' ⟨rfl, rfl⟩) | (go_at_call 68; refine (rIsSeal_any _ _ _ l _ (HR.out.grown (HB.out _)) HN.out).mono ?_; rintro e w' ⟨rfl, rfl⟩))
          go_ret
          exact ⟨ret_bool (by simp [rIn, hm, p0, p1]), HB.out _⟩
        · have hn0' : ((n : Int) == 0) = false := by rw [beq_eq_false_iff_ne]; omega
          go_enter Try.func95, Try.ntmps95
          go_wp2_with (first | (go_at_call 65; refine (rMark_any _ _).mono ?_; rintro e w' ⟨rfl, rfl⟩) | (go_at_call 68; refine (rIsSeal_any _ _ _ l _ (HR.out.grown (HB.out _)) HN.out).mono ?_; rintro e w' ⟨rfl, rfl⟩))
          go_ret
          exact ⟨ret_bool (by simp [rIn, hm, p0, p1, hn0]), HB.out _⟩
      · go_enter Try.func95, Try.ntmps95
        go_wp2_with (first | (go_at_call 65; refine (rMark_any _ _).mono ?_; rintro e w' ⟨rfl, rfl⟩) | (go_at_call 68; refine (rIsSeal_any _ _ _ l _ (HR.out.grown (HB.out _)) HN.out).mono ?_; rintro e w' ⟨rfl, rfl⟩))
        go_ret
        exact ⟨ret_bool (by simp [rIn, hm]; omega), HB.out _⟩
    · go_enter Try.func95, Try.ntmps95
      go_wp2_with (first | (go_at_call 65; refine (rMark_any _ _).mono ?_; rintro e w' ⟨rfl, rfl⟩) | (go_at_call 68; refine (rIsSeal_any _ _ _ l _ (HR.out.grown (HB.out _)) HN.out).mono ?_; rintro e w' ⟨rfl, rfl⟩))
      go_ret
      exact ⟨ret_bool (by simp [rIn, hm]; omega), HB.out _⟩

theorem rTx_noIns {t : Int} {xs : List InD} {ys : List (Int × Int)} (h : xs.all rIn = false) : rTx t xs ys = false := by simp only [rTx, rIns, h]; simp
theorem rTx_noOuts {t : Int} {xs : List InD} {ys : List (Int × Int)} (h : ys.all rOut = false) : rTx t xs ys = false := by simp only [rTx, rOuts, h]; simp

set_option maxRecDepth 100000 in
set_option maxHeartbeats 2000000 in
theorem rRight_no (t : Int) (ai : Option Addr) (n c : Nat) (ap : Option Addr) (m d : Nat) (w : World) (h : t < 0 ∨ 1099511627776 < t ∨ 10 < n ∨ m < 1 ∨ 8 < m) :
    Calls Try.prog 59 #[.agg #[.int .i64 t, .slice ai n c, .slice ap m d]] w fun e w' => e = .returned (.bool false) ∧ Below w.heap.size w w' := by
  by_cases h1 : t < 0
  · clear h
    go_enter Try.func59, Try.ntmps59
    go_wp2
    go_ret
    exact ⟨rfl, (Below.refl _ _).alloc (Nat.le_refl _) _⟩
  · by_cases h2 : 1099511627776 < t
    · clear h
      go_enter Try.func59, Try.ntmps59
      go_wp2
      go_ret
      exact ⟨rfl, (Below.refl _ _).alloc (Nat.le_refl _) _⟩
    · by_cases h3 : 10 < n
      · clear h
        go_enter Try.func59, Try.ntmps59
        go_wp2
        go_ret
        exact ⟨rfl, (Below.refl _ _).alloc (Nat.le_refl _) _⟩
      · by_cases h4 : m < 1
        · clear h
          go_enter Try.func59, Try.ntmps59
          go_wp2
          go_ret
          exact ⟨rfl, (Below.refl _ _).alloc (Nat.le_refl _) _⟩
        · have h5 : 8 < m := by omega
          clear h
          go_enter Try.func59, Try.ntmps59
          go_wp2
          go_ret
          exact ⟨rfl, (Below.refl _ _).alloc (Nat.le_refl _) _⟩

theorem box3 {w wr : World} {a b c : Value} {T : TypeId} (h : Below (w.alloc (.cells #[a, b, c] T)).heap.size (w.alloc (.cells #[a, b, c] T)) wr) :
    wr.cell? ⟨w.heap.size, 0, none⟩ = some a ∧ wr.cell? ⟨w.heap.size, 1, none⟩ = some b ∧ wr.cell? ⟨w.heap.size, 2, none⟩ = some c := by
  have hlt : w.heap.size < (w.alloc (.cells #[a, b, c] T)).heap.size := by rw [World.size_alloc]; omega
  refine ⟨(h.cell (p := ⟨w.heap.size, 0, none⟩) hlt).trans ?_, (h.cell (p := ⟨w.heap.size, 1, none⟩) hlt).trans ?_, (h.cell (p := ⟨w.heap.size, 2, none⟩) hlt).trans ?_⟩
  all_goals
    rw [World.cell?_alloc_new]
    rfl

theorem rTx_yes {t : Int} {xs : List InD} {ys : List (Int × Int)} (ht : 0 ≤ t ∧ t ≤ 1099511627776) (hn : xs.length ≤ 10) (hm : 1 ≤ ys.length ∧ ys.length ≤ 8) (hx : xs.all rIn = true) (hy : ys.all rOut = true) : rTx t xs ys = true := by
  simp only [rTx, rIns, rOuts, hx, hy, Bool.and_true]
  simp [ht, hn, hm]

set_option maxRecDepth 100000 in
set_option maxHeartbeats 2000000 in
theorem rRight_num (t : Int) (ai : Option Addr) (n c : Nat) (ap : Option Addr) (m d : Nat) (xs : List InD) (ys : List (Int × Int)) (w : World) (hx : InsAt w ai xs) (hn : xs.length = n) (hy : OutsAt w ap ys) (hm : ys.length = m) (t0 : 0 ≤ t) (t1 : t ≤ 1099511627776) (n1 : n ≤ 10) (m1 : 1 ≤ m) (m2 : m ≤ 8) :
    Calls Try.prog 59 #[.agg #[.int .i64 t, .slice ai n c, .slice ap m d]] w fun e w' => e = .returned (.bool (rTx t xs ys)) ∧ Below w.heap.size w w' := by
  have HN : Hid (xs.length = n) := hn
  have HM : Hid (ys.length = m) := hm
  have HX : Hid (InsAt w ai xs) := hx
  have HY : Hid (OutsAt w ap ys) := hy
  clear hn hm hx hy
  have bl : ∀ o, Below w.heap.size w (w.alloc o) := fun o => (Below.refl _ _).alloc (Nat.le_refl _) _
  have HB : Hid _ := bl
  clear bl
  have g1 : decide (t < 0) = false := by rw [decide_eq_false_iff_not]; omega
  have g2 : decide (1099511627776 < t) = false := by rw [decide_eq_false_iff_not]; omega
  have g3 : decide (10 < (n : Int)) = false := by rw [decide_eq_false_iff_not]; omega
  have g4 : decide ((m : Int) < 1) = false := by rw [decide_eq_false_iff_not]; omega
  have g5 : decide (8 < (m : Int)) = false := by rw [decide_eq_false_iff_not]; omega
  go_enter Try.func59, Try.ntmps59
  go_wp2
  clear g1 g2 g3 g4 g5
  go_loopw [3] (fun i wr => ∃ k : Nat, k ≤ n ∧ i = .int .i64 k ∧ Hid ((xs.take k).all rIn = true) ∧ Below (w.alloc (.cells #[.int .i64 t, .slice ai n c, .slice ap m d] 25)).heap.size (w.alloc (.cells #[.int .i64 t, .slice ai n c, .slice ap m d] 25)) wr) (fun i _ => n - (intOf i).toNat)
  case atStart => exact ⟨0, Nat.zero_le _, rfl, by show List.all _ _ = true; simp, Below.refl _ _⟩
  case round =>
    obtain ⟨k, hk, rfl, hall, hbl⟩ := hrel
    obtain ⟨x0, x1, x2⟩ := box3 hbl
    have hw := below_blk (HB.out _) hbl
    by_cases hlt : k < n
    · rcases HX.out with hnil | ⟨b, off, rfl, hrow⟩
      · have := HN.out; rw [hnil] at this; simp at this; omega
      obtain ⟨⟨c0, c1, c2⟩, hok⟩ := (hrow.grown hw) k (by rw [HN.out]; exact hlt)
      have HS : Hid _ := all_snoc rIn xs dIn k (by rw [HN.out]; exact hlt)
      have HZ : Hid _ := all_no rIn xs dIn k (by rw [HN.out]; exact hlt)
      clear hrow
      generalize xs.getD k dIn = y at c0 c1 c2 hok HS HZ
      cases hy : rIn y
      · go_wp2_with (go_at_call 95; refine (rRightIn_any y _ hok).mono ?_; rintro e w2 ⟨rfl, hb2⟩; simp only [hy])
        go_ret
        exact ⟨ret_bool (rTx_noIns (HZ.out hy)).symm, below_blk hw hb2⟩
      · go_wp2_with (go_at_call 95; refine (rRightIn_any y _ hok).mono ?_; rintro e w2 ⟨rfl, hb2⟩; simp only [hy])
        go_roundw
        case rel => exact ⟨k + 1, by omega, by go_num, by show List.all _ _ = true; rw [HS.out, hall.out, hy]; rfl, below_blk hbl hb2⟩
        case measure => simp [intOf]; omega
    · have hallx := all_done rIn xs n HN.out k (by omega) hall.out
      have HAX : Hid _ := hallx
      clear hallx hall
      go_wp2
      go_loopw [5] (fun i ws => ∃ j : Nat, j ≤ m ∧ i = .int .i64 j ∧ Hid ((ys.take j).all rOut = true) ∧ Below wr.heap.size wr ws) (fun i _ => m - (intOf i).toNat)
      case atStart => exact ⟨0, Nat.zero_le _, rfl, by show List.all _ _ = true; simp, Below.refl _ _⟩
      case round =>
        obtain ⟨j, hj, rfl, hall2, hbl2⟩ := hrel
        have hbz := below_blk hbl hbl2
        obtain ⟨z0, z1, z2⟩ := box3 hbz
        have hv := below_blk hw hbl2
        by_cases hjt : j < m
        · rcases HY.out with hnil | ⟨b, off, rfl, hrow⟩
          · have := HM.out; rw [hnil] at this; simp at this; omega
          obtain ⟨c0, c1⟩ := (hrow.grown hv) j (by rw [HM.out]; exact hjt)
          have HS : Hid _ := all_snoc rOut ys (0, 0) j (by rw [HM.out]; exact hjt)
          have HZ : Hid _ := all_no rOut ys (0, 0) j (by rw [HM.out]; exact hjt)
          clear hrow
          generalize ys.getD j (0, 0) = y at c0 c1 HS HZ
          obtain ⟨ya, yv⟩ := y
          simp only at c0 c1
          cases hy : rOut (ya, yv)
          · go_wp2_with (go_at_call 96; refine (rRightOut_any _ _ _).mono ?_; rintro e w2 ⟨rfl, hb2⟩; simp only [hy])
            go_ret
            exact ⟨ret_bool (rTx_noOuts (HZ.out hy)).symm, below_blk hv hb2⟩
          · go_wp2_with (go_at_call 96; refine (rRightOut_any _ _ _).mono ?_; rintro e w2 ⟨rfl, hb2⟩; simp only [hy])
            go_roundw
            case rel => exact ⟨j + 1, by omega, by go_num, by show List.all _ _ = true; rw [HS.out, hall2.out, hy]; rfl, below_blk hbl2 hb2⟩
            case measure => simp [intOf]; omega
        · go_wp2
          go_ret
          exact ⟨ret_bool (rTx_yes ⟨t0, t1⟩ (by rw [HN.out]; exact n1) (by rw [HM.out]; exact ⟨m1, m2⟩) HAX.out.symm (all_done rOut ys m HM.out j (by omega) hall2.out).symm).symm, hv⟩

theorem rRight_any (t : Int) (ai : Option Addr) (n c : Nat) (ap : Option Addr) (m d : Nat) (xs : List InD) (ys : List (Int × Int)) (w : World) (hx : InsAt w ai xs) (hn : xs.length = n) (hy : OutsAt w ap ys) (hm : ys.length = m) :
    Calls Try.prog 59 #[.agg #[.int .i64 t, .slice ai n c, .slice ap m d]] w fun e w' => e = .returned (.bool (rTx t xs ys)) ∧ Below w.heap.size w w' := by
  by_cases h : t < 0 ∨ 1099511627776 < t ∨ 10 < n ∨ m < 1 ∨ 8 < m
  · have e : rTx t xs ys = false := by
      cases hr : rTx t xs ys
      · rfl
      · have := rTx_parts hr
        rw [hn, hm] at this
        omega
    rw [e]
    exact rRight_no t ai n c ap m d w h
  · exact rRight_num t ai n c ap m d xs ys w hx hn hy hm (by omega) (by omega) (by omega) (by omega) (by omega)

end Go.Proofs.Ytffgpepngcnjeaa
