import Derived.Test.YtffgpepngcnjeaaGreatOpen
namespace Go.Proofs.YtffgpepngcnjeaaGreat
open Go.RowKit

theorem pk_neg (c n : Int) (h : c < 0) : -(c + 1).tmod n = Mk.pk c n := by
  unfold Mk.pk
  rw [if_pos h, ← Int.neg_tmod, Int.tmod_eq_emod_of_nonneg (by omega)]
theorem pk_pos (c n : Int) (h : 0 ≤ c) : c % n = Mk.pk c n := by
  unfold Mk.pk
  rw [if_neg (by omega)]

end Go.Proofs.YtffgpepngcnjeaaGreat

