/-
  Contracts of the small functions of marks: Mix, Turn, TurnTimes, Is.
-/
import Derived.Test.YtffgpepngcnjeaaRows
import Derived.Test.YtffgpepngcnjeaaMath
import Derived.WalkKit
import Derived.WalkSpells
import Derived.WalkLawsBesides
import Derived.Handy
namespace Go.Proofs.Ytffgpepngcnjeaa
open Go.RowKit

theorem ret_int {k : IntKind} {a b : Int} (h : a = b) : Ending.returned (.int k a) = .returned (.int k b) := by rw [h]
theorem ret_bool {a b : Bool} (h : a = b) : Ending.returned (.bool a) = .returned (.bool b) := by rw [h]

set_option maxRecDepth 100000 in
set_option maxHeartbeats 400000 in
theorem mix_any (h x : Int) (w : World) (h0 : 0 ≤ h) (h1 : h < 99991) (x0 : 0 ≤ x) (x1 : x ≤ 1099511627776) :
    Calls Try.prog 93 #[.int .i64 h, .int .i64 x] w fun e w' => e = .returned (.int .i64 (Mk.mx h x)) ∧ w = w' := by
  go_enter Try.func93, Try.ntmps93
  go_wp2
  go_ret
  exact ⟨ret_int (by unfold Mk.mx; rfl), rfl⟩

theorem sq_bd {x : Int} (h0 : 0 ≤ x) (h1 : x < 99991) : 0 ≤ x * x ∧ x * x ≤ 9998000100 := by
  have a := Int.mul_le_mul (show x ≤ 99990 by omega) (show x ≤ 99990 by omega) h0 (by omega)
  exact ⟨Int.mul_nonneg h0 h0, by omega⟩

set_option maxRecDepth 100000 in
set_option maxHeartbeats 400000 in
theorem turn_any (x : Int) (w : World) (h0 : 0 ≤ x) (h1 : x < 99991) :
    Calls Try.prog 127 #[.int .i64 x] w fun e w' => e = .returned (.int .i64 (Mk.tn x)) ∧ w = w' := by
  have hb := sq_bd h0 h1
  go_enter Try.func127, Try.ntmps127
  go_wp2
  go_ret
  exact ⟨ret_int (by unfold Mk.tn; rfl), rfl⟩

set_option maxRecDepth 100000 in
set_option maxHeartbeats 400000 in
theorem times_any (x n : Int) (w : World) (h0 : 0 ≤ x) (h1 : x < 99991) (n0 : 0 ≤ n) (n1 : n ≤ 7) :
    Calls Try.prog 99 #[.int .i64 x, .int .i64 n] w fun e w' => e = .returned (.int .i64 (Mk.tnN x n.toNat)) ∧ w = w' := by
  go_enter Try.func99, Try.ntmps99
  go_wp2
  go_loop [0, 5] (fun v i => ∃ k : Nat, (k : Int) ≤ n ∧ i = .int .i64 k ∧ v = .int .i64 (Mk.tnN x k)) (fun _ i => (n - intOf i).toNat)
  case atStart => exact ⟨0, by omega, rfl, rfl⟩
  case round =>
    obtain ⟨k, hk, rfl, rfl⟩ := hrel
    have hb := Mk.tnN_bd x h0 h1 k
    by_cases hlt : (k : Int) < n
    · go_wp2_with (go_at_call 127; refine (turn_any _ _ (by omega) (by omega)).mono ?_; rintro e w' ⟨rfl, rfl⟩)
      go_round
      case rel => exact ⟨k + 1, by omega, by go_num, rfl⟩
      case measure => simp [intOf]; omega
    · go_wp2
      go_ret
      exact ⟨ret_int (by rw [show n.toNat = k by omega]), rfl⟩

set_option maxRecDepth 100000 in
set_option maxHeartbeats 400000 in
theorem is_any (x : Int) (w : World) :
    Calls Try.prog 103 #[.int .i64 x] w fun e w' => e = .returned (.bool (Mk.isM x)) ∧ w = w' := by
  by_cases h0 : 0 ≤ x
  · by_cases h1 : x < 99991
    · go_enter Try.func103, Try.ntmps103
      go_wp2
      go_ret
      exact ⟨ret_bool ((Mk.isM_iff x).2 ⟨h0, h1⟩).symm, rfl⟩
    · go_enter Try.func103, Try.ntmps103
      go_wp2
      go_ret
      exact ⟨ret_bool ((Mk.isM_no x).2 (by omega)).symm, rfl⟩
  · go_enter Try.func103, Try.ntmps103
    go_wp2
    go_ret
    exact ⟨ret_bool ((Mk.isM_no x).2 (by omega)).symm, rfl⟩

end Go.Proofs.Ytffgpepngcnjeaa
