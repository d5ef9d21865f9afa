/-
  Contracts of the document's answer: marks.
-/
import Derived.Test.YtffgpepngcnjeaaOwn
import Derived.Test.YtffgpepngcnjeaaSeal
namespace Go.Proofs.Ytffgpepngcnjeaa
open Go.RowKit

set_option maxRecDepth 100000 in
set_option maxHeartbeats 400000 in
theorem rMark_any (x : Int) (w : World) :
    Calls Try.prog 65 #[.int .i64 x] w fun e w' => e = .returned (.bool (Mk.isM x)) ∧ w = w' := by
  by_cases h0 : 0 ≤ x
  · by_cases h1 : x < 99991
    · go_enter Try.func65, Try.ntmps65
      go_wp2
      go_ret
      exact ⟨ret_bool ((Mk.isM_iff x).2 ⟨h0, h1⟩).symm, rfl⟩
    · go_enter Try.func65, Try.ntmps65
      go_wp2
      go_ret
      exact ⟨ret_bool ((Mk.isM_no x).2 (by omega)).symm, rfl⟩
  · go_enter Try.func65, Try.ntmps65
    go_wp2
    go_ret
    exact ⟨ret_bool ((Mk.isM_no x).2 (by omega)).symm, rfl⟩

set_option maxRecDepth 100000 in
set_option maxHeartbeats 1000000 in
theorem rIsKey_any (s b i : Int) (w : World) :
    Calls Try.prog 62 #[.int .i64 s, .int .i64 b, .int .i64 i] w fun e w' => e = .returned (.bool (Mk.isK s b i)) ∧ w = w' := by
  cases hm : Mk.isM s
  · have hs := (Mk.isM_no s).1 hm
    have hk := (isK_no s b i).2 (by omega)
    have HK : Hid _ := hk
    clear hk hs
    go_enter Try.func62, Try.ntmps62
    go_wp2_with (go_at_call 65; refine (rMark_any _ _).mono ?_; rintro e w' ⟨rfl, rfl⟩)
    go_ret
    exact ⟨ret_bool HK.out.symm, rfl⟩
  · have hs := (Mk.isM_iff s).1 hm
    by_cases hb : b = 0 ∨ b = 1
    · by_cases hi : 0 ≤ i
      · by_cases hi2 : i < 100
        · have hk := (isK_iff s b i).2 ⟨hb, ⟨hi, hi2⟩, hs⟩
          have HK : Hid _ := hk
          clear hk hs
          rcases hb with rfl | rfl
          all_goals
            go_enter Try.func62, Try.ntmps62
            go_wp2_with (go_at_call 65; refine (rMark_any _ _).mono ?_; rintro e w' ⟨rfl, rfl⟩)
            go_ret
            exact ⟨ret_bool HK.out.symm, rfl⟩
        · have hk := (isK_no s b i).2 (by omega)
          have HK : Hid _ := hk
          clear hk hs
          rcases hb with rfl | rfl
          all_goals
            go_enter Try.func62, Try.ntmps62
            go_wp2_with (go_at_call 65; refine (rMark_any _ _).mono ?_; rintro e w' ⟨rfl, rfl⟩)
            go_ret
            exact ⟨ret_bool (by rw [HK.out, decide_eq_false_iff_not]; omega), rfl⟩
      · have hk := (isK_no s b i).2 (by omega)
        have HK : Hid _ := hk
        clear hk hs
        rcases hb with rfl | rfl
        all_goals
          go_enter Try.func62, Try.ntmps62
          go_wp2_with (go_at_call 65; refine (rMark_any _ _).mono ?_; rintro e w' ⟨rfl, rfl⟩)
          go_ret
          exact ⟨ret_bool HK.out.symm, rfl⟩
    · have hk := (isK_no s b i).2 (by omega)
      have HK : Hid _ := hk
      have h0 : (b == 0) = false := by rw [beq_eq_false_iff_ne]; omega
      have h1 : (b == 1) = false := by rw [beq_eq_false_iff_ne]; omega
      clear hk hs hb
      go_enter Try.func62, Try.ntmps62
      go_wp2_with (go_at_call 65; refine (rMark_any _ _).mono ?_; rintro e w' ⟨rfl, rfl⟩)
      go_ret
      exact ⟨ret_bool HK.out.symm, rfl⟩

set_option maxRecDepth 100000 in
set_option maxHeartbeats 400000 in
theorem turned_any (x n : Int) (w : World) (h0 : 0 ≤ x) (h1 : x < 99991) (n0 : 0 ≤ n) (n1 : n ≤ 7) :
    Calls Try.prog 102 #[.int .i64 x, .int .i64 n] w fun e w' => e = .returned (.int .i64 (Mk.tnN x n.toNat)) ∧ w = w' := by
  go_enter Try.func102, Try.ntmps102
  go_wp2
  go_loop [0, 5] (fun v i => ∃ k : Nat, (k : Int) ≤ n ∧ i = .int .i64 k ∧ v = .int .i64 (Mk.tnN x k)) (fun _ i => (n - intOf i).toNat)
  case atStart => exact ⟨0, by omega, rfl, rfl⟩
  case round =>
    obtain ⟨k, hk, rfl, rfl⟩ := hrel
    have hb := Mk.tnN_bd x h0 h1 k
    have hq := sq_bd hb.1 hb.2
    by_cases hlt : (k : Int) < n
    · go_wp2
      go_round
      case rel => exact ⟨k + 1, by omega, by go_num, rfl⟩
      case measure => simp [intOf]; omega
    · go_wp2
      go_ret
      exact ⟨ret_int (by rw [show n.toNat = k by omega]), rfl⟩

theorem mixL_snoc (h : Int) (l : List Int) (k : Nat) (hk : k < l.length) : Mk.mixL h (l.take (k + 1)) = Mk.mx (Mk.mixL h (l.take k)) (l.getD k 0) := by
  rw [List.take_succ_eq_append_getElem hk, Mk.mixL_append]
  simp [Mk.mixL, List.getD, hk]
/-- numbers that may be mixed in -/
def Mixable (l : List Int) : Prop := ∀ j, j < l.length → 0 ≤ l.getD j 0 ∧ l.getD j 0 ≤ 1099511627776

set_option maxRecDepth 100000 in
set_option maxHeartbeats 400000 in
theorem mixed_nil (h : Int) (ao : Option Addr) (c : Nat) (w : World) :
    Calls Try.prog 60 #[.int .i64 h, .slice ao 0 c] w fun e w' => e = .returned (.int .i64 h) ∧ w = w' := by
  go_enter Try.func60, Try.ntmps60
  go_wp2
  refine wp_loop_rounds 1 ?_
  rw [rounds_succ]
  go_wp2
  go_ret
  exact ⟨rfl, rfl⟩

set_option maxRecDepth 100000 in
set_option maxHeartbeats 400000 in
theorem mixed_row (h : Int) (b off n c : Nat) (l : List Int) (w : World) (h0 : 0 ≤ h) (h1 : h < 99991) (hr : Row w b off l) (hn : l.length = n) (hm : Mixable l) (hx : n ≤ 1000000) :
    Calls Try.prog 60 #[.int .i64 h, .slice (some ⟨b, off, none⟩) n c] w fun e w' => e = .returned (.int .i64 (Mk.mixL h l)) ∧ w = w' := by
  have HR : Hid (Row w b off l) := hr
  have HN : Hid (l.length = n) := hn
  clear hr hn
  go_enter Try.func60, Try.ntmps60
  go_wp2
  go_loop [0, 5] (fun v i => ∃ k : Nat, k ≤ n ∧ i = .int .i64 k ∧ v = .int .i64 (Mk.mixL h (l.take k))) (fun _ i => n - (intOf i).toNat)
  case atStart => exact ⟨0, by omega, rfl, rfl⟩
  case round =>
    obtain ⟨k, hk, rfl, rfl⟩ := hrel
    have hb := Mk.mixL_bd h (l.take k) h0 h1
    by_cases hlt : k < n
    · have hc := HR.out k (by rw [HN.out]; exact hlt)
      have hd := hm k (by rw [HN.out]; exact hlt)
      have HS : Hid _ := mixL_snoc h l k (by rw [HN.out]; exact hlt)
      generalize l.getD k 0 = x at hc hd HS
      generalize Mk.mixL h (l.take k) = y at *
      go_wp2
      go_round
      case rel => exact ⟨k + 1, by omega, by go_num, by rw [HS.out]; rfl⟩
      case measure => simp [intOf]; omega
    · go_wp2
      go_ret
      exact ⟨ret_int (by rw [List.take_of_length_le (by rw [HN.out]; omega)]), rfl⟩

theorem mixed_any (h : Int) (ao : Option Addr) (n c : Nat) (l : List Int) (w : World) (h0 : 0 ≤ h) (h1 : h < 99991) (hr : IntsAt w ao l) (hn : l.length = n) (hm : Mixable l) (hx : n ≤ 1000000) :
    Calls Try.prog 60 #[.int .i64 h, .slice ao n c] w fun e w' => e = .returned (.int .i64 (Mk.mixL h l)) ∧ w = w' := by
  rcases hr with rfl | ⟨b, off, rfl, hr⟩
  · have h0 : n = 0 := by rw [← hn]; rfl
    subst h0
    exact mixed_nil h ao c w
  · exact mixed_row h b off n c l w h0 h1 hr hn hm hx

theorem row_new3 (w : World) (a b c : Int) (t : TypeId) : Row (w.alloc (.cells #[.int .i64 a, .int .i64 b, .int .i64 c] t)) w.heap.size 0 [a, b, c] := by
  intro j hj
  rw [World.cell?_alloc_new]
  match j, hj with
  | 0, _ | 1, _ | 2, _ => rfl
theorem mixable3 {a b c : Int} (ha : 0 ≤ a ∧ a ≤ 1099511627776) (hb : 0 ≤ b ∧ b ≤ 1099511627776) (hc : 0 ≤ c ∧ c ≤ 1099511627776) : Mixable [a, b, c] := by
  intro j hj
  match j, hj with
  | 0, _ => exact ha
  | 1, _ => exact hb
  | 2, _ => exact hc

set_option maxRecDepth 100000 in
set_option maxHeartbeats 400000 in
theorem secret_any (s b i j : Int) (w : World) (hk : Mk.isK s b i = true) (j0 : 0 ≤ j) (j1 : j < 5) :
    Calls Try.prog 101 #[.int .i64 s, .int .i64 b, .int .i64 i, .int .i64 j] w fun e w' => e = .returned (.int .i64 (Mk.sec s b i j.toNat)) ∧ Below w.heap.size w w' := by
  have hk' := (isK_iff _ _ _).1 hk
  have hb1 : 0 ≤ b ∧ b ≤ 1 := by omega
  have hi1 := hk'.2.1
  have hs1 := hk'.2.2
  have hmb := Mk.mixL_bd s [b, i, j] hs1.1 hs1.2
  clear hk hk'
  go_enter Try.func101, Try.ntmps101
  go_wp2_with fail
  refine (mixed_any _ _ _ _ [b, i, j] _ (by omega) (by omega) (Or.inr ⟨_, _, rfl, row_new3 _ _ _ _ _⟩) rfl (mixable3 (by omega) (by omega) (by omega)) (by simp)).mono ?_
  rintro e w' ⟨rfl, rfl⟩
  go_wp2_with fail
  refine (turned_any _ _ _ (by omega) (by omega) (by omega) (by omega)).mono ?_
  rintro e w' ⟨rfl, rfl⟩
  go_wp2
  go_ret
  refine ⟨ret_int ?_, (Below.refl _ _).alloc (Nat.le_refl _) _⟩
  unfold Mk.sec
  rw [Int.toNat_of_nonneg j0]
  rfl

end Go.Proofs.Ytffgpepngcnjeaa
