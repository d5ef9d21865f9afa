/-
  Package watch: a coin is laid to its place.
-/
import Derived.Test.YtffgpepngcnjeaaPutA
import Derived.BigRegion
namespace Go.Proofs.Ytffgpepngcnjeaa
open Go.RowKit

/-- where the scan from the end stops -/
def insI (gf : Bool) (cs : List CoinD) (x : CoinD) : Nat → Nat
  | 0 => 0
  | i + 1 => if aheadG gf x (cs.getD i dN) = true then insI gf cs x i else i + 1
def insAt (cs : List CoinD) (x : CoinD) (i : Nat) : List CoinD := cs.take i ++ x :: cs.drop i
def insZ (gf : Bool) (cs : List CoinD) (x : CoinD) : List CoinD := insAt cs x (insI gf cs x cs.length)

theorem insAt_len (cs : List CoinD) (x : CoinD) (i : Nat) (h : i ≤ cs.length) : (insAt cs x i).length = cs.length + 1 := by
  simp only [insAt, List.length_append, List.length_take, List.length_cons, List.length_drop]
  omega
theorem insAt_end (cs : List CoinD) (x : CoinD) : insAt cs x cs.length = cs ++ [x] := by simp [insAt]
theorem insAt_ahead (cs : List CoinD) (x : CoinD) (k : Nat) (h : k < cs.length) : (insAt cs x (k + 1)).getD k dN = cs.getD k dN := by
  simp only [insAt, List.getD]
  rw [List.getElem?_append_left (by rw [List.length_take]; omega), List.getElem?_take_of_lt (by omega)]
theorem insAt_step (cs : List CoinD) (x : CoinD) (k : Nat) (h : k < cs.length) : ((insAt cs x (k + 1)).set (k + 1) (cs.getD k dN)).set k x = insAt cs x k := by
  apply List.ext_getElem?
  intro j
  have hl := insAt_len cs x (k + 1) (by omega)
  simp only [insAt] at hl ⊢
  by_cases h1 : j = k
  · subst h1
    rw [List.getElem?_set_self (by rw [List.length_set, hl]; omega), List.getElem?_append_right (by rw [List.length_take]; omega), List.length_take, show j - min j cs.length = 0 by omega]
    rfl
  · rw [List.getElem?_set_ne (by omega)]
    by_cases h2 : j = k + 1
    · subst h2
      rw [List.getElem?_set_self (by rw [hl]; omega), List.getElem?_append_right (by rw [List.length_take]; omega), List.length_take, show k + 1 - min k cs.length = 0 + 1 by omega, List.getElem?_cons_succ, List.getElem?_drop]
      simp only [List.getD, List.getElem?_eq_getElem h, Option.getD_some, Nat.add_zero]
    · rw [List.getElem?_set_ne (by omega)]
      by_cases h3 : j < k
      · rw [List.getElem?_append_left (by rw [List.length_take]; omega), List.getElem?_append_left (by rw [List.length_take]; omega), List.getElem?_take_of_lt (by omega), List.getElem?_take_of_lt (by omega)]
      · rw [List.getElem?_append_right (by rw [List.length_take]; omega), List.getElem?_append_right (by rw [List.length_take]; omega), List.length_take, List.length_take, show j - min (k + 1) cs.length = (j - k - 2) + 1 by omega, show j - min k cs.length = (j - k - 1) + 1 by omega, List.getElem?_cons_succ, List.getElem?_cons_succ, List.getElem?_drop, List.getElem?_drop]
        congr 1
        omega

theorem own_some {α : Type} {f : α → List Value} {e k : Nat} (hf : ∀ x, (f x).length = k) {w : World} {base n c : Nat} {ao : Option Addr} {xs : List α} (h : OwnRec f e k w base (.slice ao n c) xs) (hl : xs.length = n) (hn : 0 < n) :
    ∃ g, ao = some ⟨g, 0, none⟩ ∧ base ≤ g ∧ g < w.heap.size ∧ VRow w g 0 (xs.flatMap f) ∧ (∀ j, w.frozen? ⟨g, j, none⟩ = false) := by
  rcases h.slice hf with ⟨_, rfl⟩ | ⟨g, c', e, h1, h2, h3, h4⟩
  · simp at hl; omega
  · injection e with e1 _ _
    exact ⟨g, e1, h1, h2, h3, h4⟩

/-- six cells of a row are written: a record is laid over another -/
def set6 (w : World) (g p : Nat) (y : CoinD) : World :=
  (((((w.setCell ⟨g, p, none⟩ (.int .i64 y.id)).setCell ⟨g, p + 1, none⟩ (.int .i64 y.pos)).setCell ⟨g, p + 2, none⟩ (.int .i64 y.tt)).setCell ⟨g, p + 3, none⟩ (.int .i64 y.val)).setCell ⟨g, p + 4, none⟩ (.int .i64 y.br)).setCell ⟨g, p + 5, none⟩ (.int .i64 y.ix)

theorem own_set6 {w : World} {base g n c : Nat} {xs : List CoinD} (h : OwnRec CoinD.l 143 6 w base (.slice (some ⟨g, 0, none⟩) n c) xs) (hn : xs.length = n) (q : Nat) (hq : q < n) (y : CoinD) : OwnRec CoinD.l 143 6 (set6 w g (q * 6) y) base (.slice (some ⟨g, 0, none⟩) n c) (xs.set q y) := by
  subst hn
  generalize hz : xs[q] = z
  obtain ⟨z0, z1, z2, z3, z4, z5⟩ := z
  obtain ⟨y0, y1, y2, y3, y4, y5⟩ := y
  have h0 := OwnRec.put coin6 h q 0 hq (by omega) (.int .i64 y0) ⟨y0, z1, z2, z3, z4, z5⟩ (by rw [hz]; rfl)
  have e0 : (xs.set q ⟨y0, z1, z2, z3, z4, z5⟩).length = xs.length := List.length_set
  have h1 := OwnRec.put coin6 (xs := xs.set q ⟨y0, z1, z2, z3, z4, z5⟩) (by rw [e0]; exact h0) q 1 (by rw [e0]; exact hq) (by omega) (.int .i64 y1) ⟨y0, y1, z2, z3, z4, z5⟩ (by rw [List.getElem_set_self]; rfl)
  rw [List.set_set, List.length_set] at h1
  have h2 := OwnRec.put coin6 (xs := xs.set q ⟨y0, y1, z2, z3, z4, z5⟩) (by rw [List.length_set]; exact h1) q 2 (by rw [List.length_set]; exact hq) (by omega) (.int .i64 y2) ⟨y0, y1, y2, z3, z4, z5⟩ (by rw [List.getElem_set_self]; rfl)
  rw [List.set_set, List.length_set] at h2
  have h3 := OwnRec.put coin6 (xs := xs.set q ⟨y0, y1, y2, z3, z4, z5⟩) (by rw [List.length_set]; exact h2) q 3 (by rw [List.length_set]; exact hq) (by omega) (.int .i64 y3) ⟨y0, y1, y2, y3, z4, z5⟩ (by rw [List.getElem_set_self]; rfl)
  rw [List.set_set, List.length_set] at h3
  have h4 := OwnRec.put coin6 (xs := xs.set q ⟨y0, y1, y2, y3, z4, z5⟩) (by rw [List.length_set]; exact h3) q 4 (by rw [List.length_set]; exact hq) (by omega) (.int .i64 y4) ⟨y0, y1, y2, y3, y4, z5⟩ (by rw [List.getElem_set_self]; rfl)
  rw [List.set_set, List.length_set] at h4
  have h5 := OwnRec.put coin6 (xs := xs.set q ⟨y0, y1, y2, y3, y4, z5⟩) (by rw [List.length_set]; exact h4) q 5 (by rw [List.length_set]; exact hq) (by omega) (.int .i64 y5) ⟨y0, y1, y2, y3, y4, y5⟩ (by rw [List.getElem_set_self]; rfl)
  rw [List.set_set, List.length_set] at h5
  exact h5
theorem gb_set6 (w : World) (g p : Nat) (y : CoinD) : w.grownBy (set6 w g p y) (some g) :=
  gb_trans (gb_trans (gb_trans (gb_trans (gb_trans (gb_set w g p _) (gb_set _ g _ _)) (gb_set _ g _ _)) (gb_set _ g _ _)) (gb_set _ g _ _)) (gb_set _ g _ _)

end Go.Proofs.Ytffgpepngcnjeaa

