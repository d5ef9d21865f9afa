/-
  copyTx: a transaction in lists of its own.
-/
import Derived.Test.YtffgpepngcnjeaaTagB
import Derived.Deep.DeepCutAuto
namespace Go.Proofs.Ytffgpepngcnjeaa
open Go.RowKit

theorem set_other_blk (w : World) (g k : Nat) (cs : Array Value) (h : k ≠ g) : (w.setRow g cs).heap[k]? = w.heap[k]? := setRow_other w g k cs h

theorem copy_gen {sT elem sz : Nat} (hu : Try.prog.underlying sT = some (.slice elem)) (hs : (Try.prog.info? elem).map (fun x : TypeInfo => x.size) = some sz) (W : World) (g n : Nat) (ao : Option Addr) (c : Nat) (cur : Array Value) (cs : List Value)
    (hg : W.heap[g]? = some (.cells cur elem (0, 0))) (hsz : cur.size = n * sz) (hl : cs.length = n * sz) (hsrc : 0 < cs.length → ∃ a, ao = some a ∧ ∀ j v, cs[j]? = some v → W.cell? (a.add j) = some v) (h1 : ∀ v ∈ cs, v.oneCell' = true) (h0 : ao = none → n = 0 ∧ c = 0) :
    ∃ w1, Sem.run Try.prog (Builtin.copy_ #[sT, sT] 3 #[.slice (some ⟨g, 0, none⟩) n n, .slice ao n c]) W = .ok (.int .i64 n) w1 ∧ w1.heap[g]? = some (.cells cs.toArray elem (0, 0)) ∧ W.grownBy w1 (some g) := by
  cases ao with
  | none =>
    obtain ⟨rfl, rfl⟩ := h0 rfl
    have e1 : cs = [] := List.length_eq_zero_iff.1 (by rw [hl]; omega)
    have e2 : cur = #[] := Array.size_eq_zero_iff.1 (by rw [hsz]; omega)
    subst e1
    subst e2
    exact ⟨W, run_copy_nil Try.prog _ sT sT 3 elem _ _ _ hu (by rw [hs]; rfl), hg, ⟨rfl, rfl, rfl, Nat.le_refl _, fun _ _ _ => rfl⟩⟩
  | some a =>
    have hsrc' : ∀ j v, cs[j]? = some v → W.cell? (a.add j) = some v := by
      intro j v hj
      by_cases hp : 0 < cs.length
      · obtain ⟨b, e, h⟩ := hsrc hp
        cases e
        exact h j v hj
      · have : cs = [] := List.length_eq_zero_iff.1 (by omega)
        rw [this] at hj
        simp at hj
    have hmin : Nat.min n n = n := Nat.min_self n
    have hrun := run_copy_wide Try.prog W sT sT 3 elem g 0 n n a n c cur elem cs sz hu hs hg (by rw [hmin]; exact hl) hsrc' (by omega) h1
    have e : (cur.toList.take 0 ++ cs ++ cur.toList.drop (0 + cs.length)).toArray = cs.toArray := by
      rw [List.take_zero, List.nil_append, List.drop_of_length_le (by rw [Array.length_toList]; omega), List.append_nil]
    rw [e, hmin] at hrun
    exact ⟨_, hrun, setRow_heap W g cur cs.toArray elem (0, 0) hg, ⟨rfl, rfl, rfl, by simp [World.setRow], fun k _ hne => setRow_other W g k _ (fun e => hne (by rw [e]))⟩⟩

theorem ints_src {W : World} {ao : Option Addr} {l : List Int} (h : IntsAt W ao l) : 0 < (l.map (Value.int .i64)).length → ∃ a, ao = some a ∧ ∀ j v, (l.map (Value.int .i64))[j]? = some v → W.cell? (a.add j) = some v := by
  intro hp
  obtain ⟨_, ad, e, hh⟩ := copy_src h (Below.refl _ _) 0 hp
  exact ⟨ad, e, hh⟩
theorem owns_whole {w : World} {g e n size base : Nat} {cs : List Value} (h : w.heap[g]? = some (.cells cs.toArray e (0, 0))) (hl : cs.length = n * size) (hb : base ≤ g) (hn : n ≤ maxLen) : w.ownsRow base e size (.slice (some ⟨g, 0, none⟩) n n) n cs := by
  refine ⟨hl, Or.inr ⟨g, n, cs.toArray, rfl, hb, h, Nat.le_refl _, hn, by simpa using hl, ?_⟩⟩
  rw [List.take_of_length_le (by simpa using Nat.le_of_eq hl)]
theorem make_intsN (n : Nat) (hn : n ≤ 17592186044416) : ∀ u : World, (Instr.makeSlice 30 (.int .i64 (n : Int)) (.int .i64 (n : Int))).run Try.prog u =
    .ok (.slice (some ⟨u.heap.size, 0, none⟩) n n) (u.alloc (.cells (madeCells #[.int .i64 0] n) 3)) := fun u => by
  obtain ⟨i0, hi, hz0, hz1, hz2⟩ := info_parts info3
  have h := run_make (P := Try.prog) u 30 3 i0 (.int .i64 0) Try.underlying30 hi hz0 .i64 .i64 (n : Int) (n : Int) (by omega) (Int.le_refl _) (by rw [hz2]; omega) (by omega)
  simpa [hz1, Value.cells] using h
theorem make_outsN (n : Nat) (hn : n ≤ 8796093022208) : ∀ u : World, (Instr.makeSlice 23 (.int .i64 (n : Int)) (.int .i64 (n : Int))).run Try.prog u =
    .ok (.slice (some ⟨u.heap.size, 0, none⟩) n n) (u.alloc (.cells (madeCells #[.int .i64 0, .int .i64 0] (n * 2)) 111)) := fun u => by
  obtain ⟨i0, hi, hz0, hz1, hz2⟩ := info_parts info111
  have h := run_make (P := Try.prog) u 23 111 i0 (.agg #[.int .i64 0, .int .i64 0]) Try.underlying23 hi hz0 .i64 .i64 (n : Int) (n : Int) (by omega) (Int.le_refl _) (by rw [hz2]; omega) (by omega)
  simpa [hz1, Value.cells] using h

/-- the copy of a seal: made and filled -/
theorem copy_seal (ao : Option Addr) (n c : Nat) (l : List Int) (w : World) (hr : IntsAt w ao l) (hn : l.length = n) (hm : n ≤ 17592186044416) (h0 : ao = none → c = 0) :
    ∃ w1, Sem.run Try.prog (Builtin.copy_ #[30, 30] 3 #[.slice (some ⟨w.heap.size, 0, none⟩) n n, .slice ao n c]) (w.alloc (.cells (madeCells #[.int .i64 0] n) 3)) = .ok (.int .i64 n) w1 ∧
      OwnInts w1 w.heap.size (.slice (some ⟨w.heap.size, 0, none⟩) n n) l ∧ Below w.heap.size w w1 ∧ w.heap.size < w1.heap.size := by
  have hnil : ao = none → n = 0 ∧ c = 0 := by
    intro e
    refine ⟨?_, h0 e⟩
    rcases hr with rfl | ⟨b, off, e', _⟩
    · rw [← hn]; rfl
    · rw [e] at e'; cases e'
  have hb : Below w.heap.size w (w.alloc (.cells (madeCells #[.int .i64 0] n) 3)) := (Below.refl _ _).alloc (Nat.le_refl _) _
  obtain ⟨w1, h1, h2, h3⟩ := copy_gen Try.underlying30 sizeInfo3 (w.alloc (.cells (madeCells #[.int .i64 0] n) 3)) w.heap.size n ao c (madeCells #[.int .i64 0] n) (l.map (Value.int .i64)) (by have := heap_made w (madeCells #[.int .i64 0] n) 3; simpa using this) (by rw [size_madeCells]; omega) (by rw [List.length_map, hn]; omega) (ints_src (hr.grown hb)) (ints_one l) hnil
  refine ⟨w1, h1, ?_, hb.trans (gb_to_below h3 (by rw [World.size_alloc]; omega) (fun k hk => by injection hk with hk; omega)), ?_⟩
  · have := owns_whole (base := w.heap.size) (size := 1) (n := n) h2 (by rw [List.length_map, hn]; omega) (Nat.le_refl _) (by unfold maxLen; omega)
    unfold OwnInts
    rw [hn]
    exact this
  · have := h3.size
    rw [World.size_alloc] at this
    omega

theorem outCs_map (ys : List (Int × Int)) : outCs ys = (outL ys).map (Value.int .i64) := by
  induction ys with
  | nil => rfl
  | cons y r ih => simp only [outCs, outL, List.flatMap_cons, List.map_append] at ih ⊢; rw [ih]; rfl

/-- append(ins, x): at a step of a region that draws its order -/
theorem step_appIn (W : World) {ops : Array Oper} {o : Oper} {a : Act} {K : Act → World → Prop} {Q : Exit → Act → World → Prop} {E : Prop} (hgd : o.guard = none) (s x : Operand)
    (ho : o.op = .call { callee := .builtin .append, args := #[s, x], argTypes := #[22, 22] })
    (base g0 : Nat) (v : Value) (xs : List InD) (y : InD) (hs : a.eval s = v) (hx : a.eval x = .slice (some ⟨g0, 0, none⟩) 1 1) (hown : OwnIns W base v xs) (hc : W.cell? ⟨g0, 0, none⟩ = some (.int .i64 y.id) ∧ W.cell? ⟨g0, 1, none⟩ = some (.int .i64 y.pos) ∧ W.cell? ⟨g0, 2, none⟩ = some (.slice y.ao y.n y.c)) (hbase : base ≤ W.heap.size) (hlen : xs.length < 3518437208883)
    (h : ∀ g cap w', OwnIns w' base (.slice (some ⟨g, 0, none⟩) (xs.length + 1) cap) (xs ++ [y]) → W.grownBy w' v.ownBlock → (v.ownBlock = some g ∨ W.heap.size ≤ g) → g < w'.heap.size → K (a.put o.dst (.slice (some ⟨g, 0, none⟩) (xs.length + 1) cap)) w') :
    if Region.wanted o (yielded ops a.tmps) = true then Oper.wp Try.prog o a W K Q else E := by
  obtain ⟨i0, hi, hz0, hz1, hz2⟩ := info_parts info48
  refine step_append_lies W hgd s x 22 ho base 48 i0 _ 3 40 Try.underlying22 hi hz0 hz1 hz2 rfl (by decide) v xs.length (inCs xs) hs hown ⟨g0, 0, none⟩ 1 1 [.int .i64 y.id, .int .i64 y.pos, .slice y.ao y.n y.c] hx rfl ?_ (one3 _ _ _ _ _) (by decide) (by unfold maxLen; omega) (by omega) hbase W.heap.size rfl ?_
  · intro j u hj
    rw [Go.WideShapes.add_plain, Nat.zero_add]
    match j, hj with
    | 0, hj => simp at hj; subst hj; exact hc.1
    | 1, hj => simp at hj; subst hj; exact hc.2.1
    | 2, hj => simp at hj; subst hj; exact hc.2.2
  · intro g cap w' hown' hg hlies hlt
    refine h g cap w' ?_ hg ?_ hlt
    · unfold OwnIns
      rw [List.length_append, ← inCs_snoc]
      exact hown'
    · rcases hlies with e | e
      · exact Or.inl e
      · exact Or.inr (by omega)

/-- an input as another's, but for where its seal lies -/
def Same (x y : InD) : Prop := y.id = x.id ∧ y.pos = x.pos ∧ y.n = x.n ∧ y.l = x.l

end Go.Proofs.Ytffgpepngcnjeaa
