/-
  other, walked: its end.
-/
import Derived.Test.YtffgpepngcnjeaaTagG
import Derived.Test.YtffgpepngcnjeaaTagE
namespace Go.Proofs.Ytffgpepngcnjeaa
open Go.RowKit

def OtherPost (t : Int) (xs : List InD) (ys : List (Int × Int)) (w : World) (e : Ending) (w' : World) : Prop :=
  ∃ t2 ai2 c2 ap2 d2 xs2 ys2, e = .returned (.agg #[.int .i64 t2, .slice ai2 xs.length c2, .slice ap2 ys.length d2]) ∧ Turned w' w.heap.size t xs ys t2 ai2 xs2 ap2 ys2 ∧ Below w.heap.size w w'

/-- the end of every way: the struct is stored into the result's cells -/
theorem other_end {w wB : World} {X : Nat} {t : Int} {xs : List InD} {ys : List (Int × Int)} {t2 : Int} {ai2 : Option Addr} {c2 : Nat} {ap2 : Option Addr} {d2 : Nat} {xs2 : List InD} {ys2 : List (Int × Int)} (hX : w.heap.size = X) (ht : Turned wB (X + 1 + 1) t xs ys t2 ai2 xs2 ap2 ys2) (hb : Below X w wB) {n m : Nat} (hn : xs.length = n) (hm : ys.length = m) :
    OtherPost t xs ys w (.returned (.agg #[.int .i64 t2, .slice ai2 n c2, .slice ap2 m d2])) (put3 wB (X + 1) 0 (.int .i64 t2) (.slice ai2 n c2) (.slice ap2 m d2)) := by
  subst hn
  subst hm
  refine ⟨t2, ai2, c2, ap2, d2, xs2, ys2, rfl, ?_, ?_⟩
  · rw [hX]
    exact (ht.gb (gb_put3 _ (X + 1) 0 _ _ _) (fun q hq => by injection hq with hq; omega)).lower (by omega)
  · rw [hX]
    exact put3_below hb (Nat.le_succ X)

theorem other_drew {w w' : World} {t : Int} {xs : List InD} {ys : List (Int × Int)} {e : Ending} (h : OtherPost t xs ys w e w') : OtherPost t xs ys w e w'.drew := by
  obtain ⟨t2, ai2, c2, ap2, d2, xs2, ys2, h1, h2, h3⟩ := h
  exact ⟨t2, ai2, c2, ap2, d2, xs2, ys2, h1, h2.gb (gb_drew _ Option.none) (fun k hk => by cases hk), h3.drew⟩

end Go.Proofs.Ytffgpepngcnjeaa
