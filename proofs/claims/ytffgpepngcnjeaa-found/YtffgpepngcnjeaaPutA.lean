/-
  Package watch: own coins; which goes ahead.
-/
import Derived.Test.YtffgpepngcnjeaaFr
import Derived.Deep.RegionLaw
import Derived.Deep.DeepCutAuto
namespace Go.Proofs.Ytffgpepngcnjeaa
open Go.RowKit

/-- an own coin -/
structure CoinD where
  id : Int
  pos : Int
  tt : Int
  val : Int
  br : Int
  ix : Int
def dN : CoinD := ⟨0, 0, 0, 0, 0, 0⟩
def CoinD.l (x : CoinD) : List Value := [.int .i64 x.id, .int .i64 x.pos, .int .i64 x.tt, .int .i64 x.val, .int .i64 x.br, .int .i64 x.ix]
theorem coin6 (x : CoinD) : x.l.length = 6 := rfl
theorem coin_one (x : CoinD) : ∀ u ∈ x.l, u.oneCell' = true := by
  intro u hu
  simp [CoinD.l] at hu
  rcases hu with rfl | rfl | rfl | rfl | rfl | rfl <;> rfl
theorem info143 : (Try.prog.info? 143).map (fun i => (i.zero, i.size, i.bytes)) = some (some (.agg #[.int .i64 0, .int .i64 0, .int .i64 0, .int .i64 0, .int .i64 0, .int .i64 0]), 6, 48) := by kernel_rfl
structure CoinCells (w : World) (b off : Nat) (x : CoinD) : Prop where
  c0 : w.cell? ⟨b, off, none⟩ = some (.int .i64 x.id)
  c1 : w.cell? ⟨b, off + 1, none⟩ = some (.int .i64 x.pos)
  c2 : w.cell? ⟨b, off + 2, none⟩ = some (.int .i64 x.tt)
  c3 : w.cell? ⟨b, off + 3, none⟩ = some (.int .i64 x.val)
  c4 : w.cell? ⟨b, off + 4, none⟩ = some (.int .i64 x.br)
  c5 : w.cell? ⟨b, off + 5, none⟩ = some (.int .i64 x.ix)
theorem coinCells {w : World} {b off : Nat} {xs : List CoinD} (h : VRow w b off (xs.flatMap CoinD.l)) (j : Nat) (hj : j < xs.length) : CoinCells w b (off + j * 6) (xs.getD j dN) :=
  ⟨rcell coin6 dN h j hj 0 (by omega), rcell coin6 dN h j hj 1 (by omega), rcell coin6 dN h j hj 2 (by omega), rcell coin6 dN h j hj 3 (by omega), rcell coin6 dN h j hj 4 (by omega), rcell coin6 dN h j hj 5 (by omega)⟩

def aheadZ (a b : CoinD) : Bool := if a.id = b.id then decide (a.pos < b.pos) else decide (a.id < b.id)

abbrev coinV (x : CoinD) : Value := .agg #[.int .i64 x.id, .int .i64 x.pos, .int .i64 x.tt, .int .i64 x.val, .int .i64 x.br, .int .i64 x.ix]

theorem OwnRec.drew {α : Type} {f : α → List Value} {e k : Nat} {w : World} {base : Nat} {v : Value} {xs : List α} (h : OwnRec f e k w base v xs) : OwnRec f e k w.drew base v xs := h
theorem VRow.drew {w : World} {b off : Nat} {l : List Value} (h : VRow w b off l) : VRow w.drew b off l := h
theorem keepO {wa w2 : World} {ob : Obj} {row : Option Nat} {b o : Nat} {x : Value} (hg : ((wa.alloc ob).drew).grownBy w2 row) (c1 : wa.cell? ⟨b, o, none⟩ = some x) (hb : some b ≠ row) : w2.cell? ⟨b, o, none⟩ = some x := by
  have hbl : Below wa.heap.size wa (wa.alloc ob) := (Below.refl _ _).alloc (Nat.le_refl _) _
  exact gb_cell hg ((hbl.cell (p := ⟨b, o, none⟩) (cell_lt c1)).trans c1) hb
theorem keepF {wa w2 : World} {ob : Obj} {row : Option Nat} {b o : Nat} {x : Bool} (hg : ((wa.alloc ob).drew).grownBy w2 row) (c1 : wa.frozen? ⟨b, o, none⟩ = x) (hl : b < wa.heap.size) (hb : some b ≠ row) : w2.frozen? ⟨b, o, none⟩ = x := by
  have hbl : Below wa.heap.size wa (wa.alloc ob) := (Below.refl _ _).alloc (Nat.le_refl _) _
  have h1 : ((wa.alloc ob).drew).frozen? ⟨b, o, none⟩ = x := (hbl.frozen (p := ⟨b, o, none⟩) hl).trans c1
  exact (gb_frozen hg (by rw [World.size_drew, World.size_alloc]; omega) hb).trans h1

/-- the same, the greater Value ahead of all if gf -/
def aheadG (gf : Bool) (a b : CoinD) : Bool := if gf = true ∧ a.val ≠ b.val then decide (b.val < a.val) else aheadZ a b
theorem aheadG_no (a b : CoinD) : aheadG false a b = aheadZ a b := by unfold aheadG; rw [if_neg (by simp)]

set_option maxRecDepth 100000 in
set_option maxHeartbeats 1000000 in
theorem isAhead_any (S : Nat) (gf : Bool) (x y : CoinD) (w : World) (h0 : w.cell? ⟨S, 0, none⟩ = some (.bool gf)) : Calls Try.prog 129 #[.pointer (some ⟨S, 0, none⟩), coinV x, coinV y] w fun e w' => e = .returned (.bool (aheadG gf x y)) ∧ Below w.heap.size w w' := by
  obtain ⟨a0, a1, a2, a3, a4, a5⟩ := x
  obtain ⟨b0, b1, b2, b3, b4, b5⟩ := y
  have bl : ∀ o o', Below w.heap.size w ((w.alloc o).alloc o') := fun o o' => ((Below.refl _ _).alloc (Nat.le_refl _) _).alloc (by simp) _
  have HB : Hid _ := bl
  clear bl
  have hS : S < w.heap.size := cell_lt h0
  by_cases hg : gf = true ∧ a3 ≠ b3
  · have HE : Hid (aheadG gf ⟨a0, a1, a2, a3, a4, a5⟩ ⟨b0, b1, b2, b3, b4, b5⟩ = decide (b3 < a3)) := by show _ = _; unfold aheadG; rw [if_pos hg]
    obtain ⟨rfl, h3⟩ := hg
    have h' : (a3 == b3) = false := by rw [beq_eq_false_iff_ne]; exact h3
    have h'' : (a3 != b3) = true := by simp [bne, h']
    go_enter Try.func129, Try.ntmps129
    go_wp2
    go_ret
    exact ⟨ret_bool (by rw [HE.out]), HB.out _ _⟩
  · have HE : Hid (aheadG gf ⟨a0, a1, a2, a3, a4, a5⟩ ⟨b0, b1, b2, b3, b4, b5⟩ = aheadZ ⟨a0, a1, a2, a3, a4, a5⟩ ⟨b0, b1, b2, b3, b4, b5⟩) := by show _ = _; unfold aheadG; rw [if_neg hg]
    have hgf : (gf && (a3 != b3)) = false := by
      cases gf
      · rfl
      · have h3 : a3 = b3 := Classical.byContradiction fun h => hg ⟨rfl, h⟩
        simp [h3]
    clear hg
    by_cases h : a0 = b0
    · subst h
      have HE2 : Hid (aheadZ ⟨a0, a1, a2, a3, a4, a5⟩ ⟨a0, b1, b2, b3, b4, b5⟩ = decide (a1 < b1)) := by show _ = _; simp [aheadZ]
      cases gf
      · go_enter Try.func129, Try.ntmps129
        go_wp2
        go_ret
        exact ⟨ret_bool (by rw [HE.out, HE2.out]), HB.out _ _⟩
      · simp only [Bool.true_and] at hgf
        go_enter Try.func129, Try.ntmps129
        go_wp2
        go_ret
        exact ⟨ret_bool (by rw [HE.out, HE2.out]), HB.out _ _⟩
    · have h' : (a0 == b0) = false := by rw [beq_eq_false_iff_ne]; exact h
      have h'' : (a0 != b0) = true := by simp [bne, h']
      have HE2 : Hid (aheadZ ⟨a0, a1, a2, a3, a4, a5⟩ ⟨b0, b1, b2, b3, b4, b5⟩ = decide (a0 < b0)) := by show _ = _; simp [aheadZ, h]
      cases gf
      · go_enter Try.func129, Try.ntmps129
        go_wp2
        go_ret
        exact ⟨ret_bool (by rw [HE.out, HE2.out]), HB.out _ _⟩
      · simp only [Bool.true_and] at hgf
        go_enter Try.func129, Try.ntmps129
        go_wp2
        go_ret
        exact ⟨ret_bool (by rw [HE.out, HE2.out]), HB.out _ _⟩

end Go.Proofs.Ytffgpepngcnjeaa
