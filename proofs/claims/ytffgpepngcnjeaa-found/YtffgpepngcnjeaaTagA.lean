/-
  Lists of inputs and of outputs that a call makes by append; what stays behind it.
-/
import Derived.Test.YtffgpepngcnjeaaHTx
import Derived.Test.YtffgpepngcnjeaaWrap
import Derived.Deep.AppendLies
namespace Go.Proofs.Ytffgpepngcnjeaa
open Go.RowKit

theorem gb_refl (w : World) (row : Option Nat) : w.grownBy w row := ⟨rfl, rfl, rfl, Nat.le_refl _, fun _ _ _ => rfl⟩
theorem gb_trans {a b c : World} {row : Option Nat} (h : a.grownBy b row) (k : b.grownBy c row) : a.grownBy c row :=
  ⟨k.os.trans h.os, k.tape.trans h.tape, k.output.trans h.output, Nat.le_trans h.size k.size, fun i hi hne => (k.block i (Nat.lt_of_lt_of_le hi h.size) hne).trans (h.block i hi hne)⟩
theorem gb_below {w w' : World} (h : Below w.heap.size w w') (row : Option Nat) : w.grownBy w' row := ⟨h.os, h.tape, h.output, h.size, fun k hk _ => h.block k hk⟩
theorem gb_alloc (w : World) (o : Obj) (row : Option Nat) : w.grownBy (w.alloc o) row := gb_below ((Below.refl _ _).alloc (Nat.le_refl _) _) row
theorem gb_drew (w : World) (row : Option Nat) : w.grownBy w.drew row := ⟨rfl, rfl, rfl, Nat.le_refl _, fun _ _ _ => rfl⟩
theorem gb_set (w : World) (g o : Nat) (v : Value) : w.grownBy (w.setCell ⟨g, o, none⟩ v) (some g) :=
  ⟨rfl, rfl, rfl, by simp, fun k _ hne => Below.heap_setCell w ⟨g, o, none⟩ v k (fun e => hne (by rw [e]))⟩
theorem gb_to_below {w w' : World} {row : Option Nat} {B : Nat} (h : w.grownBy w' row) (hB : B ≤ w.heap.size) (hr : ∀ k, row = some k → B ≤ k) : Below B w w' := Below.grown (Below.refl _ _) h hB hr
theorem gb_cell {w w' : World} {row : Option Nat} (h : w.grownBy w' row) {b o : Nat} {v : Value} (hc : w.cell? ⟨b, o, none⟩ = some v) (hne : some b ≠ row) : w'.cell? ⟨b, o, none⟩ = some v := h.cell (a := ⟨b, o, none⟩) hc hne
theorem gb_frozen {w w' : World} {row : Option Nat} (h : w.grownBy w' row) {b o : Nat} (hb : b < w.heap.size) (hne : some b ≠ row) : w'.frozen? ⟨b, o, none⟩ = w.frozen? ⟨b, o, none⟩ :=
  World.frozen?_of_block (h.block b hb hne)
theorem gb_row {w w' : World} {row : Option Nat} (h : w.grownBy w' row) {b off : Nat} {l : List Int} (hr : Row w b off l) (hne : some b ≠ row) : Row w' b off l :=
  fun j hj => gb_cell h (hr j hj) hne
/-- the list at ao does not lie in the block row -/
def Off (ao : Option Addr) (row : Option Nat) : Prop := ∀ a, ao = some a → some a.block ≠ row
theorem gb_ints {w w' : World} {row : Option Nat} (h : w.grownBy w' row) {ao : Option Addr} {l : List Int} (hr : IntsAt w ao l) (hne : Off ao row) : IntsAt w' ao l := by
  rcases hr with hr | ⟨b, off, rfl, hr⟩
  · exact Or.inl hr
  · exact Or.inr ⟨b, off, rfl, gb_row h hr (hne _ rfl)⟩
theorem gb_ok {w w' : World} {row : Option Nat} (h : w.grownBy w' row) {x : InD} (hx : InOk w x) (hne : Off x.ao row) : InOk w' x := ⟨gb_ints h hx.lies hne, hx.len, hx.sz, hx.nil⟩
theorem gb_outs {w w' : World} {row : Option Nat} (h : w.grownBy w' row) {b off : Nat} {ys : List (Int × Int)} (hr : OutsRow w b off ys) (hne : some b ≠ row) : OutsRow w' b off ys :=
  fun j hj => ⟨gb_cell h (hr j hj).1 hne, gb_cell h (hr j hj).2 hne⟩

def inCs (xs : List InD) : List Value := xs.flatMap fun x => [.int .i64 x.id, .int .i64 x.pos, .slice x.ao x.n x.c]
def outCs (ys : List (Int × Int)) : List Value := ys.flatMap fun y => [.int .i64 y.1, .int .i64 y.2]
def OwnIns (w : World) (base : Nat) (v : Value) (xs : List InD) : Prop := w.ownsRow base 48 3 v xs.length (inCs xs)
def OwnOuts (w : World) (base : Nat) (v : Value) (ys : List (Int × Int)) : Prop := w.ownsRow base 111 2 v ys.length (outCs ys)

theorem inCs_get (xs : List InD) : ∀ j, j < xs.length → (inCs xs)[j * 3]? = some (.int .i64 (xs.getD j dIn).id) ∧ (inCs xs)[j * 3 + 1]? = some (.int .i64 (xs.getD j dIn).pos) ∧ (inCs xs)[j * 3 + 2]? = some (.slice (xs.getD j dIn).ao (xs.getD j dIn).n (xs.getD j dIn).c) := by
  induction xs with
  | nil => intro j hj; simp at hj
  | cons y r ih =>
    intro j hj
    cases j with
    | zero => exact ⟨rfl, rfl, rfl⟩
    | succ j =>
      have := ih j (by simpa using hj)
      have e1 : (j + 1) * 3 = j * 3 + 3 := by omega
      rw [e1]
      exact this
theorem outCs_get (ys : List (Int × Int)) : ∀ j, j < ys.length → (outCs ys)[j * 2]? = some (.int .i64 (ys.getD j (0, 0)).1) ∧ (outCs ys)[j * 2 + 1]? = some (.int .i64 (ys.getD j (0, 0)).2) := by
  induction ys with
  | nil => intro j hj; simp at hj
  | cons y r ih =>
    intro j hj
    cases j with
    | zero => exact ⟨rfl, rfl⟩
    | succ j =>
      have := ih j (by simpa using hj)
      have e1 : (j + 1) * 2 = j * 2 + 2 := by omega
      rw [e1]
      exact this

/-- an owned row: its block, its cells, that they may be written -/
theorem owned_row {w : World} {base e size : Nat} {v : Value} {n : Nat} {cs : List Value} (h : w.ownsRow base e size v n cs) :
    (v = .slice none 0 0 ∧ n = 0) ∨ ∃ g c, v = .slice (some ⟨g, 0, none⟩) n c ∧ base ≤ g ∧ g < w.heap.size ∧ (∀ j, j < n * size → w.cell? ⟨g, j, none⟩ = cs[j]?) ∧ (∀ j, w.frozen? ⟨g, j, none⟩ = false) := by
  obtain ⟨h1, h | ⟨g, cap, cur, rfl, hb, hg, hn, _, hs, ht⟩⟩ := h
  · exact Or.inl h
  · refine Or.inr ⟨g, cap, rfl, hb, ?_, fun j hj => ?_, fun j => ?_⟩
    · apply Classical.byContradiction
      intro hc
      rw [Array.getElem?_eq_none (by omega)] at hg
      cases hg
    · rw [← ht, List.getElem?_take_of_lt hj]
      simp [World.cell?, hg]
    · simp [World.frozen?, hg]

theorem OwnIns.nil (w : World) (base : Nat) : OwnIns w base (.slice none 0 0) [] := World.ownsRow_nil _ _ _ _
theorem OwnOuts.nil (w : World) (base : Nat) : OwnOuts w base (.slice none 0 0) [] := World.ownsRow_nil _ _ _ _
theorem OwnIns.cells {w : World} {base : Nat} {v : Value} {xs : List InD} (h : OwnIns w base v xs) :
    (v = .slice none 0 0 ∧ xs = []) ∨ ∃ g c, v = .slice (some ⟨g, 0, none⟩) xs.length c ∧ base ≤ g ∧ g < w.heap.size ∧ (∀ j, j < xs.length → InCells w g (j * 3) (xs.getD j dIn)) ∧ (∀ j, w.frozen? ⟨g, j, none⟩ = false) := by
  rcases owned_row h with ⟨h1, h2⟩ | ⟨g, c, h1, h2, h3, h4, h5⟩
  · exact Or.inl ⟨h1, List.length_eq_zero_iff.1 h2⟩
  · refine Or.inr ⟨g, c, h1, h2, h3, fun j hj => ?_, h5⟩
    obtain ⟨a, b, d⟩ := inCs_get xs j hj
    exact ⟨(h4 (j * 3) (by omega)).trans a, (h4 (j * 3 + 1) (by omega)).trans b, (h4 (j * 3 + 2) (by omega)).trans d⟩
theorem OwnOuts.cells {w : World} {base : Nat} {v : Value} {ys : List (Int × Int)} (h : OwnOuts w base v ys) :
    (v = .slice none 0 0 ∧ ys = []) ∨ ∃ g c, v = .slice (some ⟨g, 0, none⟩) ys.length c ∧ base ≤ g ∧ g < w.heap.size ∧ OutsRow w g 0 ys ∧ (∀ j, w.frozen? ⟨g, j, none⟩ = false) := by
  rcases owned_row h with ⟨h1, h2⟩ | ⟨g, c, h1, h2, h3, h4, h5⟩
  · exact Or.inl ⟨h1, List.length_eq_zero_iff.1 h2⟩
  · refine Or.inr ⟨g, c, h1, h2, h3, fun j hj => ?_, h5⟩
    obtain ⟨a, b⟩ := outCs_get ys j hj
    rw [Nat.zero_add]
    exact ⟨(h4 (j * 2) (by omega)).trans a, (h4 (j * 2 + 1) (by omega)).trans b⟩
theorem owns_gb {w w' : World} {row : Option Nat} (h : w.grownBy w' row) {base e size : Nat} {v : Value} {n : Nat} {cs : List Value} (ho : w.ownsRow base e size v n cs) (hne : ∀ k, v.ownBlock = some k → some k ≠ row) : w'.ownsRow base e size v n cs := by
  obtain ⟨h1, h2 | ⟨g, cap, cur, rfl, hb, hg, hn⟩⟩ := ho
  · exact ⟨h1, Or.inl h2⟩
  · refine ⟨h1, Or.inr ⟨g, cap, cur, rfl, hb, ?_, hn⟩⟩
    have hlt : g < w.heap.size := by
      apply Classical.byContradiction
      intro hc
      rw [Array.getElem?_eq_none (by omega)] at hg
      cases hg
    exact (h.block g hlt (hne g rfl)).trans hg
theorem owns_blk {w : World} {base e size : Nat} {v : Value} {n : Nat} {cs : List Value} (ho : w.ownsRow base e size v n cs) : ∀ k, v.ownBlock = some k → base ≤ k ∧ k < w.heap.size := by
  intro k hk
  rcases owned_row ho with ⟨h1, _⟩ | ⟨g, c, h1, h2, h3, _⟩
  · subst h1; simp [Value.ownBlock] at hk
  · subst h1
    simp [Value.ownBlock] at hk
    subst hk
    exact ⟨h2, h3⟩

theorem cells3_new (w : World) (x y z : Value) (t : TypeId) : ∀ j u, [x, y, z][j]? = some u → (w.alloc (.cells #[x, y, z] t)).cell? ((⟨w.heap.size, 0, none⟩ : Addr).add j) = some u := by
  intro j u hj
  rw [Go.WideShapes.add_plain, Nat.zero_add, World.cell?_alloc_new]
  match j, hj with
  | 0, hj | 1, hj | 2, hj => exact hj
theorem cells2_new (w : World) (x y : Value) (t : TypeId) : ∀ j u, [x, y][j]? = some u → (w.alloc (.cells #[x, y] t)).cell? ((⟨w.heap.size, 0, none⟩ : Addr).add j) = some u := by
  intro j u hj
  rw [Go.WideShapes.add_plain, Nat.zero_add, World.cell?_alloc_new]
  match j, hj with
  | 0, hj | 1, hj => exact hj
theorem one3 (a b : Int) (ao : Option Addr) (n c : Nat) : ∀ u ∈ [Value.int .i64 a, .int .i64 b, .slice ao n c], u.oneCell' = true := by
  intro u hu
  simp at hu
  rcases hu with rfl | rfl | rfl <;> rfl
theorem one2 (a b : Int) : ∀ u ∈ [Value.int .i64 a, .int .i64 b], u.oneCell' = true := by
  intro u hu
  simp at hu
  rcases hu with rfl | rfl <;> rfl
theorem inCs_snoc (xs : List InD) (x : InD) : inCs xs ++ [.int .i64 x.id, .int .i64 x.pos, .slice x.ao x.n x.c] = inCs (xs ++ [x]) := by simp [inCs]
theorem outCs_snoc (ys : List (Int × Int)) (y : Int × Int) : outCs ys ++ [.int .i64 y.1, .int .i64 y.2] = outCs (ys ++ [y]) := by simp [outCs]

/-- append(ins, x) -/
theorem wpList_appIn (w : World) {ops : Array Oper} {rest : List Oper} {o : Oper} {a : Act} {Q : Exit → Act → World → Prop} (hgd : o.guard = none) (s x : Operand)
    (ho : o.op = .call { callee := .builtin .append, args := #[s, x], argTypes := #[22, 22] })
    (base : Nat) (v : Value) (xs : List InD) (y : InD) (hs : a.eval s = v) (hx : a.eval x = .slice (some ⟨w.heap.size, 0, none⟩) 1 1) (hown : OwnIns w base v xs) (hbase : base ≤ w.heap.size) (hlen : xs.length ≤ 3518437208780)
    (h : ∀ g cap w', OwnIns w' base (.slice (some ⟨g, 0, none⟩) (xs.length + 1) cap) (xs ++ [y]) → w.grownBy w' v.ownBlock → (v.ownBlock = some g ∨ w.heap.size ≤ g) → g < w'.heap.size → wpList Try.prog ops Q rest (a.put o.dst (.slice (some ⟨g, 0, none⟩) (xs.length + 1) cap)) w') :
    wpList Try.prog ops Q (o :: rest) a (w.alloc (.cells #[.int .i64 y.id, .int .i64 y.pos, .slice y.ao y.n y.c] 48)) := by
  obtain ⟨i0, hi, hz0, hz1, hz2⟩ := info_parts info48
  refine wpList_append_lies _ hgd s x 22 ho base 48 i0 _ 3 40 Try.underlying22 hi hz0 hz1 hz2 rfl (by decide) v xs.length (inCs xs) hs (World.ownsRow.alloc hown _) ⟨w.heap.size, 0, none⟩ 1 1 [.int .i64 y.id, .int .i64 y.pos, .slice y.ao y.n y.c] hx rfl (cells3_new _ _ _ _ _) (one3 _ _ _ _ _) (by decide) (by unfold maxLen; omega) (by omega) (by simp; omega) (w.heap.size + 1) (by simp) ?_
  intro g cap w' hown' hg hlies hlt
  refine h g cap w' ?_ (gb_trans (gb_alloc _ _ _) hg) ?_ hlt
  · unfold OwnIns
    rw [List.length_append, ← inCs_snoc]
    exact hown'
  · rcases hlies with e | e
    · exact Or.inl e
    · exact Or.inr (by omega)
/-- append(outs, y) -/
theorem wpList_appOut (w : World) {ops : Array Oper} {rest : List Oper} {o : Oper} {a : Act} {Q : Exit → Act → World → Prop} (hgd : o.guard = none) (s x : Operand)
    (ho : o.op = .call { callee := .builtin .append, args := #[s, x], argTypes := #[23, 23] })
    (base : Nat) (v : Value) (ys : List (Int × Int)) (y1 y2 : Int) (hs : a.eval s = v) (hx : a.eval x = .slice (some ⟨w.heap.size, 0, none⟩) 1 1) (hown : OwnOuts w base v ys) (hbase : base ≤ w.heap.size) (hlen : ys.length ≤ 1000000)
    (h : ∀ g cap w', OwnOuts w' base (.slice (some ⟨g, 0, none⟩) (ys.length + 1) cap) (ys ++ [(y1, y2)]) → w.grownBy w' v.ownBlock → (v.ownBlock = some g ∨ w.heap.size ≤ g) → g < w'.heap.size → wpList Try.prog ops Q rest (a.put o.dst (.slice (some ⟨g, 0, none⟩) (ys.length + 1) cap)) w') :
    wpList Try.prog ops Q (o :: rest) a (w.alloc (.cells #[.int .i64 y1, .int .i64 y2] 111)) := by
  obtain ⟨i0, hi, hz0, hz1, hz2⟩ := info_parts info111
  refine wpList_append_lies _ hgd s x 23 ho base 111 i0 _ 2 16 Try.underlying23 hi hz0 hz1 hz2 rfl (by decide) v ys.length (outCs ys) hs (World.ownsRow.alloc hown _) ⟨w.heap.size, 0, none⟩ 1 1 [.int .i64 y1, .int .i64 y2] hx rfl (cells2_new _ _ _ _) (one2 _ _) (by decide) (by unfold maxLen; omega) (by omega) (by simp; omega) (w.heap.size + 1) (by simp) ?_
  intro g cap w' hown' hg hlies hlt
  refine h g cap w' ?_ (gb_trans (gb_alloc _ _ _) hg) ?_ hlt
  · unfold OwnOuts
    rw [List.length_append]
    have e := outCs_snoc ys (y1, y2)
    simp only at e
    rw [← e]
    exact hown'
  · rcases hlies with e | e
    · exact Or.inl e
    · exact Or.inr (by omega)

/-- append(outs, y), the new cells' block by a name of its own -/
theorem wpList_appOutG (w : World) {ops : Array Oper} {rest : List Oper} {o : Oper} {a : Act} {Q : Exit → Act → World → Prop} (hgd : o.guard = none) (s x : Operand)
    (ho : o.op = .call { callee := .builtin .append, args := #[s, x], argTypes := #[23, 23] })
    (base : Nat) (v : Value) (ys : List (Int × Int)) (y1 y2 : Int) (g0 : Nat) (hg0 : w.heap.size = g0) (hs : a.eval s = v) (hx : a.eval x = .slice (some ⟨g0, 0, none⟩) 1 1) (hown : OwnOuts w base v ys) (hbase : base ≤ w.heap.size) (hlen : ys.length ≤ 1000000)
    (h : ∀ g cap w', OwnOuts w' base (.slice (some ⟨g, 0, none⟩) (ys.length + 1) cap) (ys ++ [(y1, y2)]) → w.grownBy w' v.ownBlock → (v.ownBlock = some g ∨ w.heap.size ≤ g) → g < w'.heap.size → wpList Try.prog ops Q rest (a.put o.dst (.slice (some ⟨g, 0, none⟩) (ys.length + 1) cap)) w') :
    wpList Try.prog ops Q (o :: rest) a (w.alloc (.cells #[.int .i64 y1, .int .i64 y2] 111)) := by
  subst hg0
  exact wpList_appOut w hgd s x ho base v ys y1 y2 hs hx hown hbase hlen h

theorem valued_any (v : Int) (w : World) (v1 : -9223372036854775808 ≤ v) (v2 : v ≤ 9223372036854775807) :
    Calls Try.prog 70 #[.int .i64 v] w fun e w' => e = .returned (.int .i64 (10 + Mk.pk v 1099511627767)) ∧ w = w' := by
  have hb := Mk.pk_bd v 1099511627767 (by decide)
  go_enter Try.func70, Try.ntmps70
  go_wp2_with (go_at_call 27; refine (pick_any _ _ _ (by omega) (by omega) v1 v2).mono ?_; rintro e w' ⟨rfl, rfl⟩)
  go_ret
  exact ⟨rfl, rfl⟩

end Go.Proofs.Ytffgpepngcnjeaa
