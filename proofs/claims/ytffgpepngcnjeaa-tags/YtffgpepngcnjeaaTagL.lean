/-
  other, in every case.
-/
import Derived.Test.YtffgpepngcnjeaaTagI1
import Derived.Test.YtffgpepngcnjeaaTagI2
import Derived.Test.YtffgpepngcnjeaaTagI3
import Derived.Test.YtffgpepngcnjeaaTagI4
import Derived.Test.YtffgpepngcnjeaaTagI5
import Derived.Test.YtffgpepngcnjeaaTagK
namespace Go.Proofs.Ytffgpepngcnjeaa
open Go.RowKit

theorem other_any : OtherSaid := by
  intro t ai n c ap m d xs ys wh pl b' w hx hn hy hm hr h0 a1 a2 p1 p2 b1 b2
  have hb := Mk.pk_bd wh 5 (by decide)
  have hcase : Mk.pk wh 5 = 0 ∨ Mk.pk wh 5 = 1 ∨ Mk.pk wh 5 = 2 ∨ Mk.pk wh 5 = 3 ∨ Mk.pk wh 5 = 4 := by omega
  rcases hcase with e | e | e | e | e
  · by_cases hn0 : 0 < n
    · exact other_id t ai n c ap m d xs ys wh pl b' w hx hn hy hm hr h0 a1 a2 p1 p2 b1 b2 e hn0
    · exact other_tag t ai n c ap m d xs ys wh pl b' w hx hn hy hm hr h0 a1 a2 p1 p2 b1 b2 0 e (Or.inr ⟨Or.inl rfl, by omega⟩)
  · by_cases hn0 : 0 < n
    · exact other_pos t ai n c ap m d xs ys wh pl b' w hx hn hy hm hr h0 a1 a2 p1 p2 b1 b2 e hn0
    · exact other_tag t ai n c ap m d xs ys wh pl b' w hx hn hy hm hr h0 a1 a2 p1 p2 b1 b2 1 e (Or.inr ⟨Or.inr rfl, by omega⟩)
  · exact other_to t ai n c ap m d xs ys wh pl b' w hx hn hy hm hr h0 a1 a2 p1 p2 b1 b2 e
  · exact other_value t ai n c ap m d xs ys wh pl b' w hx hn hy hm hr h0 a1 a2 p1 p2 b1 b2 e
  · exact other_tag t ai n c ap m d xs ys wh pl b' w hx hn hy hm hr h0 a1 a2 p1 p2 b1 b2 4 e (Or.inl rfl)

end Go.Proofs.Ytffgpepngcnjeaa
