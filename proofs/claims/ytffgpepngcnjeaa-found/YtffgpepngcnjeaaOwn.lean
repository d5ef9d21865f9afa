/-
  Slices of numbers that a call makes by append: one element at a time.
-/
import Derived.Test.YtffgpepngcnjeaaMem
import Derived.Deep.RegionHeld3
namespace Go.Proofs.Ytffgpepngcnjeaa
open Go.RowKit

theorem info3 : (Try.prog.info? 3).map (fun i => (i.zero, i.size, i.bytes)) = some (some (.int .i64 0), 1, 8) := by kernel_rfl

/-- the slice value v owns the numbers l, in blocks from base on -/
def OwnInts (w : World) (base : Nat) (v : Value) (l : List Int) : Prop := w.ownsRow base 3 1 v l.length (l.map (Value.int .i64))

theorem OwnInts.nil (w : World) (base : Nat) : OwnInts w base (.slice none 0 0) [] := World.ownsRow_nil _ _ _ _
theorem OwnInts.drew {w : World} {base : Nat} {v : Value} {l : List Int} (h : OwnInts w base v l) : OwnInts w.drew base v l := h
theorem OwnInts.slice {w : World} {base : Nat} {v : Value} {l : List Int} (h : OwnInts w base v l) : ∃ ao c, v = .slice ao l.length c ∧ IntsAt w ao l ∧ l.length ≤ c := by
  obtain ⟨_, h | ⟨g, cap, cur, rfl, _, hg, hn, _, hs, ht⟩⟩ := h
  · obtain ⟨rfl, h0⟩ := h
    have : l = [] := List.length_eq_zero_iff.1 h0
    subst this
    exact ⟨none, 0, rfl, Or.inl rfl, Nat.le_refl _⟩
  · refine ⟨_, cap, rfl, Or.inr ⟨g, 0, rfl, ?_⟩, hn⟩
    intro j hj
    have e : (cur.toList.take (l.length * 1))[j]? = (l.map (Value.int .i64))[j]? := by rw [ht]
    rw [List.getElem?_take_of_lt (by omega), List.getElem?_map, List.getElem?_eq_getElem hj] at e
    simp [World.cell?, hg, List.getD, hj]
    simpa using e
/-- what lies in blocks from base on and was owned is owned in a world that below some greater number is as it was -/
theorem OwnInts.below {w w' : World} {base B : Nat} {v : Value} {l : List Int} (h : OwnInts w base v l) (hb : Below B w w') (hB : ∀ k, v.ownBlock = some k → k < B) : OwnInts w' base v l := by
  obtain ⟨h1, h | ⟨g, cap, cur, rfl, hbg, hg, hn⟩⟩ := h
  · exact ⟨h1, Or.inl h⟩
  · exact ⟨h1, Or.inr ⟨g, cap, cur, rfl, hbg, (hb.block g (hB g rfl)).trans hg, hn⟩⟩
theorem OwnInts.blk {w : World} {base : Nat} {v : Value} {l : List Int} (h : OwnInts w base v l) : ∀ k, v.ownBlock = some k → base ≤ k ∧ k < w.heap.size := by
  intro k hk
  obtain ⟨_, h | ⟨g, cap, cur, rfl, hbg, hg, _⟩⟩ := h
  · obtain ⟨rfl, _⟩ := h
    simp [Value.ownBlock] at hk
  · simp [Value.ownBlock] at hk
    subst hk
    refine ⟨hbg, ?_⟩
    apply Classical.byContradiction
    intro hc
    rw [Array.getElem?_eq_none (by omega)] at hg
    cases hg
theorem OwnInts.grown {w w' : World} {base : Nat} {v : Value} {l : List Int} (h : OwnInts w base v l) (hb : Below w.heap.size w w') : OwnInts w' base v l :=
  h.below hb (fun k hk => (h.blk k hk).2)

theorem one_cell (y : Int) : ∀ u ∈ [Value.int .i64 y], u.oneCell' = true := by
  intro u hu
  simp at hu
  subst hu
  rfl

theorem app_next {w w' : World} {base : Nat} {v : Value} {l : List Int} {y : Int} (hown : OwnInts w base v l) (hbase : base ≤ w.heap.size) (hg : (w.alloc (.cells #[.int .i64 y] 3)).grownBy w' v.ownBlock) : Below base w w' := by
  refine Below.grown ((Below.refl _ _).alloc hbase _) hg (by simp; omega) ?_
  intro k hk
  exact (hown.blk k hk).1

/-- append(l, y): at a region in the text's order -/
theorem wpList_app1 (w : World) {ops : Array Oper} {rest : List Oper} {o : Oper} {a : Act} {Q : Exit → Act → World → Prop} (hgd : o.guard = none) (s x : Operand)
    (ho : o.op = .call { callee := .builtin .append, args := #[s, x], argTypes := #[30, 30] })
    (base : Nat) (v : Value) (l : List Int) (y : Int) (hs : a.eval s = v) (hx : a.eval x = .slice (some ⟨w.heap.size, 0, none⟩) 1 1) (hown : OwnInts w base v l) (hbase : base ≤ w.heap.size) (hlen : l.length ≤ 1000000)
    (h : ∀ v' w', OwnInts w' base v' (l ++ [y]) → Below base w w' → wpList Try.prog ops Q rest (a.put o.dst v') w') : wpList Try.prog ops Q (o :: rest) a (w.alloc (.cells #[.int .i64 y] 3)) := by
  obtain ⟨i0, hi, hz0, hz1, hz2⟩ := info_parts info3
  refine wpList_append_own _ hgd s x 30 ho base 3 i0 (.int .i64 0) 1 8 Try.underlying30 hi hz0 hz1 hz2 rfl (by decide) v l.length (l.map (Value.int .i64)) hs (World.ownsRow.alloc hown _) ⟨w.heap.size, 0, none⟩ 1 1 [.int .i64 y] hx rfl (cell_one_new _ _ _) (one_cell y) (by unfold maxLen; omega) (by omega) (by simp; omega) ?_
  intro v' w' hown' hg _
  refine h v' w' ?_ (app_next hown hbase hg)
  unfold OwnInts
  rw [List.length_append, List.map_append]
  exact hown'

/-- append(l, y): at a step of a region that draws its order -/
theorem step_app1 (w : World) {ops : Array Oper} {o : Oper} {a : Act} {K : Act → World → Prop} {Q : Exit → Act → World → Prop} {E : Prop} (hgd : o.guard = none) (s x : Operand)
    (ho : o.op = .call { callee := .builtin .append, args := #[s, x], argTypes := #[30, 30] })
    (base : Nat) (v : Value) (l : List Int) (y : Int) (hs : a.eval s = v) (hx : a.eval x = .slice (some ⟨w.heap.size, 0, none⟩) 1 1) (hown : OwnInts w base v l) (hbase : base ≤ w.heap.size) (hlen : l.length ≤ 1000000)
    (h : ∀ v' w', OwnInts w' base v' (l ++ [y]) → Below base w w' → K (a.put o.dst v') w') : if Region.wanted o (yielded ops a.tmps) = true then Oper.wp Try.prog o a (w.alloc (.cells #[.int .i64 y] 3)) K Q else E := by
  have hw : Region.wanted o (yielded ops a.tmps) = true := by simp [Region.wanted, hgd]
  rw [if_pos hw]
  obtain ⟨i0, hi, hz0, hz1, hz2⟩ := info_parts info3
  refine wp_append_own _ s x 30 ho base 3 i0 (.int .i64 0) 1 8 Try.underlying30 hi hz0 hz1 hz2 rfl (by decide) v l.length (l.map (Value.int .i64)) hs (World.ownsRow.alloc hown _) ⟨w.heap.size, 0, none⟩ 1 1 [.int .i64 y] hx rfl (cell_one_new _ _ _) (one_cell y) (by unfold maxLen; omega) (by omega) (by simp; omega) ?_
  intro v' w' hown' hg _
  refine h v' w' ?_ (app_next hown hbase hg)
  unfold OwnInts
  rw [List.length_append, List.map_append]
  exact hown'

theorem cell_one {W : World} {g : Nat} {y : Int} (h : W.cell? ⟨g, 0, none⟩ = some (.int .i64 y)) : ∀ j u, [Value.int .i64 y][j]? = some u → W.cell? ((⟨g, 0, none⟩ : Addr).add j) = some u := by
  intro j u hj
  match j, hj with
  | 0, hj =>
    simp at hj
    subst hj
    simpa [Addr.add] using h
theorem appg_next {w w' : World} {base : Nat} {v : Value} {l : List Int} (hown : OwnInts w base v l) (hbase : base ≤ w.heap.size) (hg : w.grownBy w' v.ownBlock) : Below base w w' :=
  Below.grown (Below.refl _ _) hg hbase (fun k hk => (hown.blk k hk).1)

/-- append(l, y) in whatever world in which y lies in a cell of its own -/
theorem wpList_app1g (W : World) {ops : Array Oper} {rest : List Oper} {o : Oper} {a : Act} {Q : Exit → Act → World → Prop} (hgd : o.guard = none) (s x : Operand)
    (ho : o.op = .call { callee := .builtin .append, args := #[s, x], argTypes := #[30, 30] })
    (base g c : Nat) (v : Value) (l : List Int) (y : Int) (hs : a.eval s = v) (hx : a.eval x = .slice (some ⟨g, 0, none⟩) 1 c) (hown : OwnInts W base v l) (hc : W.cell? ⟨g, 0, none⟩ = some (.int .i64 y)) (hbase : base ≤ W.heap.size) (hlen : l.length ≤ 1000000)
    (h : ∀ v' w', OwnInts w' base v' (l ++ [y]) → Below base W w' → wpList Try.prog ops Q rest (a.put o.dst v') w') : wpList Try.prog ops Q (o :: rest) a W := by
  obtain ⟨i0, hi, hz0, hz1, hz2⟩ := info_parts info3
  refine wpList_append_own _ hgd s x 30 ho base 3 i0 (.int .i64 0) 1 8 Try.underlying30 hi hz0 hz1 hz2 rfl (by decide) v l.length (l.map (Value.int .i64)) hs hown ⟨g, 0, none⟩ 1 c [.int .i64 y] hx rfl (cell_one hc) (one_cell y) (by unfold maxLen; omega) (by omega) hbase ?_
  intro v' w' hown' hg _
  refine h v' w' ?_ (appg_next hown hbase hg)
  unfold OwnInts
  rw [List.length_append, List.map_append]
  exact hown'

theorem step_app1g (W : World) {ops : Array Oper} {o : Oper} {a : Act} {K : Act → World → Prop} {Q : Exit → Act → World → Prop} {E : Prop} (hgd : o.guard = none) (s x : Operand)
    (ho : o.op = .call { callee := .builtin .append, args := #[s, x], argTypes := #[30, 30] })
    (base g c : Nat) (v : Value) (l : List Int) (y : Int) (hs : a.eval s = v) (hx : a.eval x = .slice (some ⟨g, 0, none⟩) 1 c) (hown : OwnInts W base v l) (hc : W.cell? ⟨g, 0, none⟩ = some (.int .i64 y)) (hbase : base ≤ W.heap.size) (hlen : l.length ≤ 1000000)
    (h : ∀ v' w', OwnInts w' base v' (l ++ [y]) → Below base W w' → K (a.put o.dst v') w') : if Region.wanted o (yielded ops a.tmps) = true then Oper.wp Try.prog o a W K Q else E := by
  have hw : Region.wanted o (yielded ops a.tmps) = true := by simp [Region.wanted, hgd]
  rw [if_pos hw]
  obtain ⟨i0, hi, hz0, hz1, hz2⟩ := info_parts info3
  refine wp_append_own _ s x 30 ho base 3 i0 (.int .i64 0) 1 8 Try.underlying30 hi hz0 hz1 hz2 rfl (by decide) v l.length (l.map (Value.int .i64)) hs hown ⟨g, 0, none⟩ 1 c [.int .i64 y] hx rfl (cell_one hc) (one_cell y) (by unfold maxLen; omega) (by omega) hbase ?_
  intro v' w' hown' hg _
  refine h v' w' ?_ (appg_next hown hbase hg)
  unfold OwnInts
  rw [List.length_append, List.map_append]
  exact hown'
theorem OwnInts.alloc {w : World} {base : Nat} {v : Value} {l : List Int} (h : OwnInts w base v l) (o : Obj) : OwnInts (w.alloc o) base v l := World.ownsRow.alloc h o

end Go.Proofs.Ytffgpepngcnjeaa
