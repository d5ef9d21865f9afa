/-
  Package watch: own coins; which goes ahead.
  Package watch: a coin is laid to its place.
  New, the game of a script, what a purse shows.
  Package chain: a transaction is taken into the block that is being connected.
-/
import Derived.Test.YtffgpepngcnjeabMac
import Derived.Deep.RegionLaw
import Derived.Deep.DeepCutAuto
import Derived.BigRegion
import Derived.BigQuiet
namespace Go.Proofs.Ytffgpepngcnjeab
open Go.RowKit
/-- an own coin -/
structure CoinD where
  id : Int
  pos : Int
  tt : Int
  val : Int
  br : Int
  ix : Int
def dN : CoinD := ⟨0, 0, 0, 0, 0, 0⟩
def CoinD.l (x : CoinD) : List Value := [.int .i64 x.id, .int .i64 x.pos, .int .i64 x.tt, .int .i64 x.val, .int .i64 x.br, .int .i64 x.ix]
theorem coin6 (x : CoinD) : x.l.length = 6 := rfl
theorem coin_one (x : CoinD) : ∀ u ∈ x.l, u.oneCell' = true := by
  intro u hu
  simp [CoinD.l] at hu
  rcases hu with rfl | rfl | rfl | rfl | rfl | rfl <;> rfl
theorem info70 : (Try.prog.info? 70).map (fun i => (i.zero, i.size, i.bytes)) = some (some (.agg #[.int .i64 0, .int .i64 0, .int .i64 0, .int .i64 0, .int .i64 0, .int .i64 0]), 6, 48) := by kernel_rfl
structure CoinCells (w : World) (b off : Nat) (x : CoinD) : Prop where
  c0 : w.cell? ⟨b, off, none⟩ = some (.int .i64 x.id)
  c1 : w.cell? ⟨b, off + 1, none⟩ = some (.int .i64 x.pos)
  c2 : w.cell? ⟨b, off + 2, none⟩ = some (.int .i64 x.tt)
  c3 : w.cell? ⟨b, off + 3, none⟩ = some (.int .i64 x.val)
  c4 : w.cell? ⟨b, off + 4, none⟩ = some (.int .i64 x.br)
  c5 : w.cell? ⟨b, off + 5, none⟩ = some (.int .i64 x.ix)
theorem coinCells {w : World} {b off : Nat} {xs : List CoinD} (h : VRow w b off (xs.flatMap CoinD.l)) (j : Nat) (hj : j < xs.length) : CoinCells w b (off + j * 6) (xs.getD j dN) :=
  ⟨rcell coin6 dN h j hj 0 (by omega), rcell coin6 dN h j hj 1 (by omega), rcell coin6 dN h j hj 2 (by omega), rcell coin6 dN h j hj 3 (by omega), rcell coin6 dN h j hj 4 (by omega), rcell coin6 dN h j hj 5 (by omega)⟩
def aheadZ (a b : CoinD) : Bool := if a.id = b.id then decide (a.pos < b.pos) else decide (a.id < b.id)
abbrev coinV (x : CoinD) : Value := .agg #[.int .i64 x.id, .int .i64 x.pos, .int .i64 x.tt, .int .i64 x.val, .int .i64 x.br, .int .i64 x.ix]
theorem OwnRec.drew {α : Type} {f : α → List Value} {e k : Nat} {w : World} {base : Nat} {v : Value} {xs : List α} (h : OwnRec f e k w base v xs) : OwnRec f e k w.drew base v xs := h
theorem VRow.drew {w : World} {b off : Nat} {l : List Value} (h : VRow w b off l) : VRow w.drew b off l := h
theorem keepO {wa w2 : World} {ob : Obj} {row : Option Nat} {b o : Nat} {x : Value} (hg : ((wa.alloc ob).drew).grownBy w2 row) (c1 : wa.cell? ⟨b, o, none⟩ = some x) (hb : some b ≠ row) : w2.cell? ⟨b, o, none⟩ = some x := by
  have hbl : Below wa.heap.size wa (wa.alloc ob) := (Below.refl _ _).alloc (Nat.le_refl _) _
  exact gb_cell hg ((hbl.cell (p := ⟨b, o, none⟩) (cell_lt c1)).trans c1) hb
theorem keepF {wa w2 : World} {ob : Obj} {row : Option Nat} {b o : Nat} {x : Bool} (hg : ((wa.alloc ob).drew).grownBy w2 row) (c1 : wa.frozen? ⟨b, o, none⟩ = x) (hl : b < wa.heap.size) (hb : some b ≠ row) : w2.frozen? ⟨b, o, none⟩ = x := by
  have hbl : Below wa.heap.size wa (wa.alloc ob) := (Below.refl _ _).alloc (Nat.le_refl _) _
  have h1 : ((wa.alloc ob).drew).frozen? ⟨b, o, none⟩ = x := (hbl.frozen (p := ⟨b, o, none⟩) hl).trans c1
  exact (gb_frozen hg (by rw [World.size_drew, World.size_alloc]; omega) hb).trans h1
/-- the same, the greater Value ahead of all if gf -/
def aheadG (gf : Bool) (a b : CoinD) : Bool := if gf = true ∧ a.val ≠ b.val then decide (b.val < a.val) else aheadZ a b
set_option maxRecDepth 100000 in
set_option maxHeartbeats 1000000 in
theorem isAhead_any (S : Nat) (gf : Bool) (x y : CoinD) (w : World) (h0 : w.cell? ⟨S, 0, none⟩ = some (.bool gf)) : Calls Try.prog 96 #[.pointer (some ⟨S, 0, none⟩), coinV x, coinV y] w fun e w' => e = .returned (.bool (aheadG gf x y)) ∧ Below w.heap.size w w' := by
  obtain ⟨a0, a1, a2, a3, a4, a5⟩ := x
  obtain ⟨b0, b1, b2, b3, b4, b5⟩ := y
  have bl : ∀ o o', Below w.heap.size w ((w.alloc o).alloc o') := fun o o' => ((Below.refl _ _).alloc (Nat.le_refl _) _).alloc (by simp) _
  have HB : Hid _ := bl
  clear bl
  have hS : S < w.heap.size := cell_lt h0
  by_cases hg : gf = true ∧ a3 ≠ b3
  · have HE : Hid (aheadG gf ⟨a0, a1, a2, a3, a4, a5⟩ ⟨b0, b1, b2, b3, b4, b5⟩ = decide (b3 < a3)) := by show _ = _; unfold aheadG; rw [if_pos hg]
    obtain ⟨rfl, h3⟩ := hg
    have h' : (a3 == b3) = false := by rw [beq_eq_false_iff_ne]; exact h3
    have h'' : (a3 != b3) = true := by simp [bne, h']
    go_enter Try.func96, Try.ntmps96
    go_wp2
    go_ret
    exact ⟨ret_bool (by rw [HE.out]), HB.out _ _⟩
  · have HE : Hid (aheadG gf ⟨a0, a1, a2, a3, a4, a5⟩ ⟨b0, b1, b2, b3, b4, b5⟩ = aheadZ ⟨a0, a1, a2, a3, a4, a5⟩ ⟨b0, b1, b2, b3, b4, b5⟩) := by show _ = _; unfold aheadG; rw [if_neg hg]
    have hgf : (gf && (a3 != b3)) = false := by
      cases gf
      · rfl
      · have h3 : a3 = b3 := Classical.byContradiction fun h => hg ⟨rfl, h⟩
        simp [h3]
    clear hg
    by_cases h : a0 = b0
    · subst h
      have HE2 : Hid (aheadZ ⟨a0, a1, a2, a3, a4, a5⟩ ⟨a0, b1, b2, b3, b4, b5⟩ = decide (a1 < b1)) := by show _ = _; simp [aheadZ]
      cases gf
      · go_enter Try.func96, Try.ntmps96
        go_wp2
        go_ret
        exact ⟨ret_bool (by rw [HE.out, HE2.out]), HB.out _ _⟩
      · simp only [Bool.true_and] at hgf
        go_enter Try.func96, Try.ntmps96
        go_wp2
        go_ret
        exact ⟨ret_bool (by rw [HE.out, HE2.out]), HB.out _ _⟩
    · have h' : (a0 == b0) = false := by rw [beq_eq_false_iff_ne]; exact h
      have h'' : (a0 != b0) = true := by simp [bne, h']
      have HE2 : Hid (aheadZ ⟨a0, a1, a2, a3, a4, a5⟩ ⟨b0, b1, b2, b3, b4, b5⟩ = decide (a0 < b0)) := by show _ = _; simp [aheadZ, h]
      cases gf
      · go_enter Try.func96, Try.ntmps96
        go_wp2
        go_ret
        exact ⟨ret_bool (by rw [HE.out, HE2.out]), HB.out _ _⟩
      · simp only [Bool.true_and] at hgf
        go_enter Try.func96, Try.ntmps96
        go_wp2
        go_ret
        exact ⟨ret_bool (by rw [HE.out, HE2.out]), HB.out _ _⟩
end Go.Proofs.Ytffgpepngcnjeab

namespace Go.Proofs.Ytffgpepngcnjeab
open Go.RowKit
/-- where the scan from the end stops -/
def insI (gf : Bool) (cs : List CoinD) (x : CoinD) : Nat → Nat
  | 0 => 0
  | i + 1 => if aheadG gf x (cs.getD i dN) = true then insI gf cs x i else i + 1
def insAt (cs : List CoinD) (x : CoinD) (i : Nat) : List CoinD := cs.take i ++ x :: cs.drop i
def insZ (gf : Bool) (cs : List CoinD) (x : CoinD) : List CoinD := insAt cs x (insI gf cs x cs.length)
theorem insAt_len (cs : List CoinD) (x : CoinD) (i : Nat) (h : i ≤ cs.length) : (insAt cs x i).length = cs.length + 1 := by
  simp only [insAt, List.length_append, List.length_take, List.length_cons, List.length_drop]
  omega
theorem insAt_end (cs : List CoinD) (x : CoinD) : insAt cs x cs.length = cs ++ [x] := by simp [insAt]
theorem insAt_ahead (cs : List CoinD) (x : CoinD) (k : Nat) (h : k < cs.length) : (insAt cs x (k + 1)).getD k dN = cs.getD k dN := by
  simp only [insAt, List.getD]
  rw [List.getElem?_append_left (by rw [List.length_take]; omega), List.getElem?_take_of_lt (by omega)]
theorem insAt_step (cs : List CoinD) (x : CoinD) (k : Nat) (h : k < cs.length) : ((insAt cs x (k + 1)).set (k + 1) (cs.getD k dN)).set k x = insAt cs x k := by
  apply List.ext_getElem?
  intro j
  have hl := insAt_len cs x (k + 1) (by omega)
  simp only [insAt] at hl ⊢
  by_cases h1 : j = k
  · subst h1
    rw [List.getElem?_set_self (by rw [List.length_set, hl]; omega), List.getElem?_append_right (by rw [List.length_take]; omega), List.length_take, show j - min j cs.length = 0 by omega]
    rfl
  · rw [List.getElem?_set_ne (by omega)]
    by_cases h2 : j = k + 1
    · subst h2
      rw [List.getElem?_set_self (by rw [hl]; omega), List.getElem?_append_right (by rw [List.length_take]; omega), List.length_take, show k + 1 - min k cs.length = 0 + 1 by omega, List.getElem?_cons_succ, List.getElem?_drop]
      simp only [List.getD, List.getElem?_eq_getElem h, Option.getD_some, Nat.add_zero]
    · rw [List.getElem?_set_ne (by omega)]
      by_cases h3 : j < k
      · rw [List.getElem?_append_left (by rw [List.length_take]; omega), List.getElem?_append_left (by rw [List.length_take]; omega), List.getElem?_take_of_lt (by omega), List.getElem?_take_of_lt (by omega)]
      · rw [List.getElem?_append_right (by rw [List.length_take]; omega), List.getElem?_append_right (by rw [List.length_take]; omega), List.length_take, List.length_take, show j - min (k + 1) cs.length = (j - k - 2) + 1 by omega, show j - min k cs.length = (j - k - 1) + 1 by omega, List.getElem?_cons_succ, List.getElem?_cons_succ, List.getElem?_drop, List.getElem?_drop]
        congr 1
        omega
theorem own_some {α : Type} {f : α → List Value} {e k : Nat} (hf : ∀ x, (f x).length = k) {w : World} {base n c : Nat} {ao : Option Addr} {xs : List α} (h : OwnRec f e k w base (.slice ao n c) xs) (hl : xs.length = n) (hn : 0 < n) :
    ∃ g, ao = some ⟨g, 0, none⟩ ∧ base ≤ g ∧ g < w.heap.size ∧ VRow w g 0 (xs.flatMap f) ∧ (∀ j, w.frozen? ⟨g, j, none⟩ = false) := by
  rcases h.slice hf with ⟨_, rfl⟩ | ⟨g, c', e, h1, h2, h3, h4⟩
  · simp at hl; omega
  · injection e with e1 _ _
    exact ⟨g, e1, h1, h2, h3, h4⟩
/-- six cells of a row are written: a record is laid over another -/
def set6 (w : World) (g p : Nat) (y : CoinD) : World :=
  (((((w.setCell ⟨g, p, none⟩ (.int .i64 y.id)).setCell ⟨g, p + 1, none⟩ (.int .i64 y.pos)).setCell ⟨g, p + 2, none⟩ (.int .i64 y.tt)).setCell ⟨g, p + 3, none⟩ (.int .i64 y.val)).setCell ⟨g, p + 4, none⟩ (.int .i64 y.br)).setCell ⟨g, p + 5, none⟩ (.int .i64 y.ix)
theorem own_set6 {w : World} {base g n c : Nat} {xs : List CoinD} (h : OwnRec CoinD.l 70 6 w base (.slice (some ⟨g, 0, none⟩) n c) xs) (hn : xs.length = n) (q : Nat) (hq : q < n) (y : CoinD) : OwnRec CoinD.l 70 6 (set6 w g (q * 6) y) base (.slice (some ⟨g, 0, none⟩) n c) (xs.set q y) := by
  subst hn
  generalize hz : xs[q] = z
  obtain ⟨z0, z1, z2, z3, z4, z5⟩ := z
  obtain ⟨y0, y1, y2, y3, y4, y5⟩ := y
  have h0 := OwnRec.put coin6 h q 0 hq (by omega) (.int .i64 y0) ⟨y0, z1, z2, z3, z4, z5⟩ (by rw [hz]; rfl)
  have e0 : (xs.set q ⟨y0, z1, z2, z3, z4, z5⟩).length = xs.length := List.length_set
  have h1 := OwnRec.put coin6 (xs := xs.set q ⟨y0, z1, z2, z3, z4, z5⟩) (by rw [e0]; exact h0) q 1 (by rw [e0]; exact hq) (by omega) (.int .i64 y1) ⟨y0, y1, z2, z3, z4, z5⟩ (by rw [List.getElem_set_self]; rfl)
  rw [List.set_set, List.length_set] at h1
  have h2 := OwnRec.put coin6 (xs := xs.set q ⟨y0, y1, z2, z3, z4, z5⟩) (by rw [List.length_set]; exact h1) q 2 (by rw [List.length_set]; exact hq) (by omega) (.int .i64 y2) ⟨y0, y1, y2, z3, z4, z5⟩ (by rw [List.getElem_set_self]; rfl)
  rw [List.set_set, List.length_set] at h2
  have h3 := OwnRec.put coin6 (xs := xs.set q ⟨y0, y1, y2, z3, z4, z5⟩) (by rw [List.length_set]; exact h2) q 3 (by rw [List.length_set]; exact hq) (by omega) (.int .i64 y3) ⟨y0, y1, y2, y3, z4, z5⟩ (by rw [List.getElem_set_self]; rfl)
  rw [List.set_set, List.length_set] at h3
  have h4 := OwnRec.put coin6 (xs := xs.set q ⟨y0, y1, y2, y3, z4, z5⟩) (by rw [List.length_set]; exact h3) q 4 (by rw [List.length_set]; exact hq) (by omega) (.int .i64 y4) ⟨y0, y1, y2, y3, y4, z5⟩ (by rw [List.getElem_set_self]; rfl)
  rw [List.set_set, List.length_set] at h4
  have h5 := OwnRec.put coin6 (xs := xs.set q ⟨y0, y1, y2, y3, y4, z5⟩) (by rw [List.length_set]; exact h4) q 5 (by rw [List.length_set]; exact hq) (by omega) (.int .i64 y5) ⟨y0, y1, y2, y3, y4, y5⟩ (by rw [List.getElem_set_self]; rfl)
  rw [List.set_set, List.length_set] at h5
  exact h5
theorem gb_set6 (w : World) (g p : Nat) (y : CoinD) : w.grownBy (set6 w g p y) (some g) :=
  gb_trans (gb_trans (gb_trans (gb_trans (gb_trans (gb_set w g p _) (gb_set _ g _ _)) (gb_set _ g _ _)) (gb_set _ g _ _)) (gb_set _ g _ _)) (gb_set _ g _ _)
end Go.Proofs.Ytffgpepngcnjeab

namespace Go.Proofs.Ytffgpepngcnjeab
open Go.RowKit
def fitZ (s g : Int) : Bool := Mk.isM s && decide (1 ≤ g ∧ g ≤ 20)
set_option maxRecDepth 100000 in
set_option maxHeartbeats 400000 in
theorem new_yes (s g : Int) (w : World) (hs : Mk.isM s = true) (h1 : 1 ≤ g) (h2 : g ≤ 20) :
    Calls Try.prog 58 #[.int .i64 s, .int .i64 g] w fun e w' => e = .returned (.tuple #[.pointer (some ⟨w.heap.size, 0, none⟩), .int .i64 0]) ∧ w.alloc (.cells #[.int .i64 s, .int .i64 g, .slice none 0 0, .int .i64 0, .slice none 0 0, .slice none 0 0, .int .i64 0, .int .i64 0] 79) = w' := by
  go_enter Try.func58, Try.ntmps58
  go_wp2_with (go_at_call 88; refine (is_any _ _).mono ?_; rintro e w' ⟨rfl, rfl⟩; rw [hs])
  go_ret2
  exact ⟨rfl, rfl⟩
def adrs (s br : Int) (k : Nat) : List Int := (List.range k).map fun i : Nat => Mk.adr s br i
end Go.Proofs.Ytffgpepngcnjeab
namespace Go.Proofs.Ytffgpepngcnjeab
open Go.RowKit
/-- the document's purse, as it begins, in block D -/
structure Begun (w : World) (base D : Nat) (s g : Int) (vr vc : Value) : Prop where
  row : VRow w D 0 [.int .i64 s, .int .i64 g, vr, vc, .slice none 0 0, .slice none 0 0, .int .i64 (-1)]
  own0 : OwnInts w base vr (adrs s 0 100)
  own1 : OwnInts w base vc (adrs s 1 100)
theorem Begun.grown {w w' : World} {base D : Nat} {s g : Int} {vr vc : Value} (h : Begun w base D s g vr vc) (hb : Below w.heap.size w w') : Begun w' base D s g vr vc :=
  ⟨h.row.grown hb, h.own0.grown hb, h.own1.grown hb⟩
theorem OwnInts.lower {w : World} {base base' : Nat} {v : Value} {l : List Int} (h : OwnInts w base v l) (hb : base' ≤ base) : OwnInts w base' v l := by
  obtain ⟨h1, h | ⟨g, cap, cur, rfl, hbg, hg⟩⟩ := h
  · exact ⟨h1, Or.inl h⟩
  · exact ⟨h1, Or.inr ⟨g, cap, cur, rfl, Nat.le_trans hb hbg, hg⟩⟩
/-- a purse in block P -/
def PurseRow (w : World) (P : Nat) (s g : Int) (v : Value) (h : Int) : Prop := VRow w P 0 [.int .i64 s, .int .i64 g, v, .int .i64 h, .slice none 0 0, .slice none 0 0, .int .i64 0, .int .i64 0]
theorem PurseRow.c0 {w : World} {P : Nat} {s g : Int} {v : Value} {h : Int} (hr : PurseRow w P s g v h) : w.cell? ⟨P, 0, none⟩ = some (.int .i64 s) := hr 0 (by simp)
theorem PurseRow.c1 {w : World} {P : Nat} {s g : Int} {v : Value} {h : Int} (hr : PurseRow w P s g v h) : w.cell? ⟨P, 1, none⟩ = some (.int .i64 g) := hr 1 (by simp)
theorem PurseRow.c2 {w : World} {P : Nat} {s g : Int} {v : Value} {h : Int} (hr : PurseRow w P s g v h) : w.cell? ⟨P, 2, none⟩ = some v := hr 2 (by simp)
theorem PurseRow.c3 {w : World} {P : Nat} {s g : Int} {v : Value} {h : Int} (hr : PurseRow w P s g v h) : w.cell? ⟨P, 3, none⟩ = some (.int .i64 h) := hr 3 (by simp)
theorem PurseRow.c4 {w : World} {P : Nat} {s g : Int} {v : Value} {h : Int} (hr : PurseRow w P s g v h) : w.cell? ⟨P, 4, none⟩ = some (.slice none 0 0) := hr 4 (by simp)
theorem PurseRow.c5 {w : World} {P : Nat} {s g : Int} {v : Value} {h : Int} (hr : PurseRow w P s g v h) : w.cell? ⟨P, 5, none⟩ = some (.slice none 0 0) := hr 5 (by simp)
end Go.Proofs.Ytffgpepngcnjeab
namespace Go.Proofs.Ytffgpepngcnjeab
open Go.RowKit
theorem keepP {w w' w2 : World} {P : Nat} {a b : Value} (c0 : w.cell? ⟨P, 0, none⟩ = some a) (c1 : w.cell? ⟨P, 1, none⟩ = some b) (hw : w'.heap = w.heap) (hb : Below w'.heap.size w' w2) : w2.cell? ⟨P, 0, none⟩ = some a ∧ w2.cell? ⟨P, 1, none⟩ = some b := by
  have hl := cell_lt c0
  have e0 : w'.cell? ⟨P, 0, none⟩ = some a := by rw [← c0]; simp [World.cell?, hw]
  have e1 : w'.cell? ⟨P, 1, none⟩ = some b := by rw [← c1]; simp [World.cell?, hw]
  exact ⟨(hb.cell (p := ⟨P, 0, none⟩) (by rw [hw]; exact hl)).trans e0, (hb.cell (p := ⟨P, 1, none⟩) (by rw [hw]; exact hl)).trans e1⟩
theorem RecAt.heap {α : Type} {f : α → List Value} {w w' : World} {ao : Option Addr} {xs : List α} (h : RecAt f w ao xs) (hw : w'.heap = w.heap) : RecAt f w' ao xs := by
  rcases h with h | ⟨b, off, h, hr⟩
  · exact Or.inl h
  · exact Or.inr ⟨b, off, h, fun j hj => by rw [← hr j hj]; simp [World.cell?, hw]⟩
/-- a purse's memory: its seed, its gap, the chain's outputs, how many blocks -/
structure PurseAt (w : World) (P : Nat) (s : Int) (g : Nat) (xs : List Cel) (h : Int) (v : Value) : Prop where
  row : PurseRow w P s g v h
  own : ∃ ao c, v = .slice ao xs.length c ∧ CelsAt w ao xs
  len : xs.length ≤ 1000000
end Go.Proofs.Ytffgpepngcnjeab
namespace Go.Proofs.Ytffgpepngcnjeab
open Go.RowKit
set_option maxRecDepth 100000 in
set_option maxHeartbeats 400000 in
theorem sum_nil (w : World) : Calls Try.prog 28 #[.slice none 0 0] w fun e w' => e = .returned (.int .i64 0) ∧ w = w' := by
  go_enter Try.func28, Try.ntmps28
  go_wp2
  refine wp_loop_rounds 1 ?_
  rw [rounds_succ]
  go_wp2
  go_ret
  exact ⟨rfl, rfl⟩
set_option maxRecDepth 100000 in
set_option maxHeartbeats 400000 in
theorem chDis_none (b o : Nat) (w : World) (hp : w.cell? ⟨b, o + 1, none⟩ = some (.int .i64 0)) :
    Calls Try.prog 62 #[.pointer (some ⟨b, o, none⟩)] w fun e w' => e = .returned (.int .i64 8) ∧ w = w' := by
  go_enter Try.func62, Try.ntmps62
  go_wp2
  go_ret
  exact ⟨rfl, rfl⟩
end Go.Proofs.Ytffgpepngcnjeab

namespace Go.Proofs.Ytffgpepngcnjeab
open Go.RowKit
variable {Ex : List (Nat × Value)}
def Cel.sp (h : Int) (x : Cel) : Cel := ⟨x.id, x.pos, x.to, x.val, x.made, h⟩
/-- the outputs at these places are spent by block h -/
def markZ (h : Int) (xs : List Cel) : List SpD → List Cel
  | [] => xs
  | s :: r => markZ h (xs.set s.pl.toNat ((xs.getD s.pl.toNat dC).sp h)) r
/-- the first k outputs of a transaction as the chain keeps them -/
def newC (id h : Int) (ys : List (Int × Int)) (k : Nat) : List Cel := (List.range k).map fun j : Nat => ⟨id, j, (ys.getD j (0, 0)).1, (ys.getD j (0, 0)).2, h, -1⟩
def addZ (xs : List Cel) (h t : Int) (ins : List InD) (ys : List (Int × Int)) (first : Bool) : Int × List Cel :=
  if rTx t ins ys = false ∨ (ins = [] ∧ first = false) then (2, xs)
  else if hasId xs (idZ t ins ys) = true then (4, xs)
  else match spZ xs ins [] with
    | none => (5, xs)
    | some ss =>
      if ss.all (opens (idZ t ins ys)) = false then (6, xs)
      else if ss ≠ [] ∧ sumSp ss < sumOu ys then (7, xs)
      else (0, markZ h xs ss ++ newC (idZ t ins ys) h ys ys.length)
theorem markZ_len (h : Int) (ss : List SpD) : ∀ xs, (markZ h xs ss).length = xs.length := by
  induction ss with
  | nil => intro xs; rfl
  | cons s r ih => intro xs; rw [markZ, ih, List.length_set]
theorem markZ_snoc (h : Int) (ss : List SpD) (s : SpD) : ∀ xs, markZ h xs (ss ++ [s]) = (markZ h xs ss).set s.pl.toNat (((markZ h xs ss).getD s.pl.toNat dC).sp h) := by
  induction ss with
  | nil => intro xs; rfl
  | cons a r ih => intro xs; rw [List.cons_append, markZ, ih, markZ]
theorem markZ_take (h : Int) (xs : List Cel) (ss : List SpD) (k : Nat) (hk : k < ss.length) : markZ h xs (ss.take (k + 1)) = (markZ h xs (ss.take k)).set (ss.getD k dS).pl.toNat (((markZ h xs (ss.take k)).getD (ss.getD k dS).pl.toNat dC).sp h) := by
  rw [List.take_succ_eq_append_getElem hk, markZ_snoc]
  simp only [List.getD, List.getElem?_eq_getElem hk, Option.getD_some]
theorem newC_snoc (id h : Int) (ys : List (Int × Int)) (k : Nat) : newC id h ys (k + 1) = newC id h ys k ++ [⟨id, k, (ys.getD k (0, 0)).1, (ys.getD k (0, 0)).2, h, -1⟩] := by
  unfold newC
  rw [List.range_succ, List.map_append]
  rfl
/-- what spZ gives: a place each, among the outputs, with its address and its value -/
theorem spZ_good (xs : List Cel) (P : SpD → Prop) : ∀ (ins : List InD) (acc ss : List SpD), (∀ i ∈ ins, ∀ q : Nat, q < xs.length → isCoin i.id i.pos (xs.getD q dC) = true → P ⟨q, (xs.getD q dC).to, (xs.getD q dC).val, i.ao, i.n, i.c, i.l⟩) → spZ xs ins acc = some ss → (∀ s ∈ acc, P s) → ∀ s ∈ ss, P s := by
  intro ins
  induction ins with
  | nil => intro acc ss hP h ha; simp only [spZ] at h; cases h; exact ha
  | cons i r ih =>
    intro acc ss hP h ha
    simp only [spZ] at h
    split at h
    · cases h
    · rename_i hc
      rcases findZ_cases xs i.id i.pos with hf | ⟨q, hq, hf, hco⟩
      · exact absurd (Or.inl (by rw [hf]; omega)) hc
      · rw [hf] at h
        rw [show ((q : Int)).toNat = q from Int.toNat_natCast q] at h
        refine ih _ ss (fun j hj => hP j (by simp [hj])) h (fun s hs => ?_)
        rcases List.mem_append.1 hs with hs | hs
        · exact ha s hs
        · rw [List.mem_singleton] at hs
          rw [hs]
          exact hP i (by simp) q hq hco
theorem spZ_len (xs : List Cel) : ∀ (ins : List InD) (acc ss : List SpD), spZ xs ins acc = some ss → ss.length = acc.length + ins.length := by
  intro ins
  induction ins with
  | nil => intro acc ss h; simp only [spZ] at h; cases h; simp
  | cons i r ih =>
    intro acc ss h
    simp only [spZ] at h
    split at h
    · cases h
    · rw [ih _ ss h]
      simp only [List.length_append, List.length_cons, List.length_nil]
      omega
theorem getD_mem {α : Type} (l : List α) (d : α) (k : Nat) (h : k < l.length) : l.getD k d ∈ l := by
  simp only [List.getD, List.getElem?_eq_getElem h, Option.getD_some]
  exact List.getElem_mem h
theorem mem_getD {α : Type} {l : List α} (d : α) {x : α} (h : x ∈ l) : ∃ k, k < l.length ∧ x = l.getD k d := by
  obtain ⟨k, hk, e⟩ := List.getElem_of_mem h
  exact ⟨k, hk, by simp only [List.getD, List.getElem?_eq_getElem hk, Option.getD_some]; exact e.symm⟩
theorem ChOwn.drew {w : World} {b o : Nat} {v : Value} {h : Int} {xs : List Cel} (hc : ChOwn Ex w b o v h xs) : ChOwn Ex w.drew b o v h xs := ⟨hc.c0, hc.c1, hc.f0, hc.f1, hc.own, hc.ext⟩
theorem ChOwn.alloc {w : World} {b o : Nat} {v : Value} {h : Int} {xs : List Cel} (hc : ChOwn Ex w b o v h xs) (ob : Obj) : ChOwn Ex (w.alloc ob) b o v h xs := hc.grown ((Below.refl _ _).alloc (Nat.le_refl _) _)
theorem ChOwn.mark {w : World} {b o g c : Nat} {h : Int} {xs : List Cel} (hc : ChOwn Ex w b o (.slice (some ⟨g, 0, none⟩) xs.length c) h xs) (q : Nat) (hq : q < xs.length) (u : Int) : ChOwn Ex (w.setCell ⟨g, q * 6 + 5, none⟩ (.int .i64 u)) b o (.slice (some ⟨g, 0, none⟩) xs.length c) h (xs.set q ((xs.getD q dC).sp u)) := by
  have hg : b + 1 ≤ g := (hc.own.blk g rfl).1
  have hne : ∀ i, (⟨g, q * 6 + 5, none⟩ : Addr) ≠ ⟨b, i, none⟩ := fun i e => by have := congrArg Addr.block e; simp only at this; omega
  have e : xs.getD q dC = xs[q] := by simp [List.getD, hq]
  refine ⟨(World.cell?_setCell_other _ _ _ _ (hne _)).trans hc.c0, (World.cell?_setCell_other _ _ _ _ (hne _)).trans hc.c1, (World.frozen?_setCell _ _ _ _).trans hc.f0, fun j => (World.frozen?_setCell _ _ _ _).trans (hc.f1 j), ?_, fun q' hq' => ⟨(hc.ext q' hq').1, (hc.ext q' hq').2.1, (World.cell?_setCell_other _ _ _ _ (hne _)).trans (hc.ext q' hq').2.2⟩⟩
  rw [e]
  exact OwnRec.put cel6 hc.own q 5 hq (by omega) (.int .i64 u) _ rfl
theorem idZ_bd (t : Int) (xs : List InD) (ys : List (Int × Int)) : Mk.isM (idZ t xs ys) = true := by
  rw [Mk.isM_iff]
  unfold idZ
  split
  · exact Mk.mixL_bd 1 _ (by omega) (by omega)
  · omega
end Go.Proofs.Ytffgpepngcnjeab
