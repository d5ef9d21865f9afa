/-
  Rows of records: each of k cells.
-/
import Derived.Test.YtffgpepngcnjeaaTagA
namespace Go.Proofs.Ytffgpepngcnjeaa
open Go.RowKit

def dV : Value := .bool false
/-- the values l lie from ⟨b, off⟩ on -/
def VRow (w : World) (b off : Nat) (l : List Value) : Prop := ∀ j, j < l.length → w.cell? ⟨b, off + j, none⟩ = some (l.getD j dV)

theorem VRow.lt {w : World} {b off : Nat} {l : List Value} (h : VRow w b off l) (hl : l ≠ []) : b < w.heap.size := cell_lt (h 0 (List.length_pos_iff.2 hl))
theorem VRow.below {w w' : World} {b off : Nat} {l : List Value} (h : VRow w b off l) {B : Nat} (hb : Below B w w') (hB : b < B) : VRow w' b off l :=
  fun j hj => (hb.cell (p := ⟨b, off + j, none⟩) hB).trans (h j hj)
theorem VRow.grown {w w' : World} {b off : Nat} {l : List Value} (h : VRow w b off l) (hb : Below w.heap.size w w') : VRow w' b off l := by
  by_cases hl : l = []
  · subst hl; intro j hj; simp at hj
  · exact h.below hb (h.lt hl)
theorem VRow.gb {w w' : World} {row : Option Nat} (hg : w.grownBy w' row) {b off : Nat} {l : List Value} (h : VRow w b off l) (hne : some b ≠ row) : VRow w' b off l :=
  fun j hj => gb_cell hg (h j hj) hne

theorem rec_get {α : Type} (f : α → List Value) (k : Nat) (hf : ∀ x, (f x).length = k) (d : α) (xs : List α) : ∀ j i, j < xs.length → i < k → (xs.flatMap f).getD (j * k + i) dV = (f (xs.getD j d)).getD i dV := by
  induction xs with
  | nil => intro j i hj; simp at hj
  | cons x r ih =>
    intro j i hj hi
    rw [List.flatMap_cons]
    cases j with
    | zero =>
      simp only [List.getD]
      rw [List.getElem?_append_left (by rw [hf]; omega)]
      simp
    | succ j =>
      have h := ih j i (by simpa using hj) hi
      simp only [List.getD] at h ⊢
      rw [List.getElem?_append_right (by rw [hf, Nat.succ_mul]; omega), hf, show (j + 1) * k + i - k = j * k + i by rw [Nat.succ_mul]; omega, h]
      simp
theorem rec_len {α : Type} (f : α → List Value) (k : Nat) (hf : ∀ x, (f x).length = k) (xs : List α) : (xs.flatMap f).length = xs.length * k := by
  induction xs with
  | nil => simp
  | cons x r ih => rw [List.flatMap_cons, List.length_append, ih, hf, List.length_cons, Nat.succ_mul]; omega
theorem rec_lt {k n j i : Nat} (hj : j < n) (hi : i < k) : j * k + i < n * k := by
  have := Nat.mul_le_mul_right k (show j + 1 ≤ n from hj)
  rw [Nat.succ_mul] at this
  omega
theorem rcell {α : Type} {f : α → List Value} {k : Nat} (hf : ∀ x, (f x).length = k) (d : α) {w : World} {b off : Nat} {xs : List α} (h : VRow w b off (xs.flatMap f)) (j : Nat) (hj : j < xs.length) (i : Nat) (hi : i < k) :
    w.cell? ⟨b, off + j * k + i, none⟩ = some ((f (xs.getD j d)).getD i dV) := by
  have := h _ (by rw [rec_len f k hf]; exact rec_lt hj hi)
  rw [rec_get f k hf d xs j i hj hi] at this
  rw [Nat.add_assoc]
  exact this

/-- the records xs lie where the slice at ao does -/
def RecAt {α : Type} (f : α → List Value) (w : World) (ao : Option Addr) (xs : List α) : Prop := xs = [] ∨ ∃ b off, ao = some ⟨b, off, none⟩ ∧ VRow w b off (xs.flatMap f)
theorem RecAt.grown {α : Type} {f : α → List Value} {w w' : World} {ao : Option Addr} {xs : List α} (h : RecAt f w ao xs) (hb : Below w.heap.size w w') : RecAt f w' ao xs := by
  rcases h with h | ⟨b, off, h, hr⟩
  · exact Or.inl h
  · exact Or.inr ⟨b, off, h, hr.grown hb⟩
theorem RecAt.gb {α : Type} {f : α → List Value} {w w' : World} {row : Option Nat} (hg : w.grownBy w' row) {ao : Option Addr} {xs : List α} (h : RecAt f w ao xs) (hne : Off ao row) : RecAt f w' ao xs := by
  rcases h with h | ⟨b, off, rfl, hr⟩
  · exact Or.inl h
  · exact Or.inr ⟨b, off, rfl, hr.gb hg (hne _ rfl)⟩

/-- the slice value v owns the records xs, in a block from base on -/
def OwnRec {α : Type} (f : α → List Value) (e k : Nat) (w : World) (base : Nat) (v : Value) (xs : List α) : Prop := w.ownsRow base e k v xs.length (xs.flatMap f)
theorem OwnRec.nil {α : Type} (f : α → List Value) (e k : Nat) (w : World) (base : Nat) : OwnRec f e k w base (.slice none 0 0) [] := World.ownsRow_nil _ _ _ _
theorem OwnRec.slice {α : Type} {f : α → List Value} {e k : Nat} (hf : ∀ x, (f x).length = k) {w : World} {base : Nat} {v : Value} {xs : List α} (h : OwnRec f e k w base v xs) :
    (v = .slice none 0 0 ∧ xs = []) ∨ ∃ g c, v = .slice (some ⟨g, 0, none⟩) xs.length c ∧ base ≤ g ∧ g < w.heap.size ∧ VRow w g 0 (xs.flatMap f) ∧ (∀ j, w.frozen? ⟨g, j, none⟩ = false) := by
  rcases owned_row h with ⟨h1, h2⟩ | ⟨g, c, h1, h2, h3, h4, h5⟩
  · exact Or.inl ⟨h1, List.length_eq_zero_iff.1 h2⟩
  · refine Or.inr ⟨g, c, h1, h2, h3, fun j hj => ?_, h5⟩
    rw [rec_len f k hf] at hj
    have hj' : j < (xs.flatMap f).length := by rw [rec_len f k hf]; exact hj
    rw [Nat.zero_add, h4 j hj]
    simp only [List.getD]
    rw [List.getElem?_eq_getElem hj', Option.getD_some]
theorem OwnRec.at {α : Type} {f : α → List Value} {e k : Nat} (hf : ∀ x, (f x).length = k) {w : World} {base : Nat} {v : Value} {xs : List α} (h : OwnRec f e k w base v xs) : ∃ ao c, v = .slice ao xs.length c ∧ RecAt f w ao xs := by
  rcases h.slice hf with ⟨rfl, rfl⟩ | ⟨g, c, rfl, _, _, hr, _⟩
  · exact ⟨none, 0, rfl, Or.inl rfl⟩
  · exact ⟨_, c, rfl, Or.inr ⟨g, 0, rfl, hr⟩⟩
theorem OwnRec.gb {α : Type} {f : α → List Value} {e k : Nat} {w w' : World} {row : Option Nat} (hg : w.grownBy w' row) {base : Nat} {v : Value} {xs : List α} (h : OwnRec f e k w base v xs) (hne : ∀ k, v.ownBlock = some k → some k ≠ row) : OwnRec f e k w' base v xs := owns_gb hg h hne
theorem OwnRec.grown {α : Type} {f : α → List Value} {e k : Nat} {w w' : World} {base : Nat} {v : Value} {xs : List α} (h : OwnRec f e k w base v xs) (hb : Below w.heap.size w w') : OwnRec f e k w' base v xs := h.gb (gb_below hb Option.none) (fun _ _ => by simp)
theorem OwnRec.blk {α : Type} {f : α → List Value} {e k : Nat} {w : World} {base : Nat} {v : Value} {xs : List α} (h : OwnRec f e k w base v xs) : ∀ k, v.ownBlock = some k → base ≤ k ∧ k < w.heap.size := owns_blk h
theorem OwnRec.alloc {α : Type} {f : α → List Value} {e k : Nat} {w : World} {base : Nat} {v : Value} {xs : List α} (h : OwnRec f e k w base v xs) (o : Obj) : OwnRec f e k (w.alloc o) base v xs := World.ownsRow.alloc h o

theorem vrow_src {W : World} {g : Nat} {l : List Value} (h : VRow W g 0 l) : ∀ j u, l[j]? = some u → W.cell? ((⟨g, 0, none⟩ : Addr).add j) = some u := by
  intro j u hj
  obtain ⟨hl, e⟩ := List.getElem?_eq_some_iff.1 hj
  have := h j hl
  simp only [List.getD, hj, Option.getD_some] at this
  rw [Go.WideShapes.add_plain]
  exact this

/-- append(xs, y), y in a row of its own -/
theorem wpList_appR {α : Type} {f : α → List Value} {e k : Nat} (sT bytes : Nat) (z : Value) (hu : Try.prog.underlying sT = some (.slice e)) (hinf : (Try.prog.info? e).map (fun i => (i.zero, i.size, i.bytes)) = some (some z, k, bytes)) (hzs : z.cells.size = k) (hk : 0 < k) (hf : ∀ x, (f x).length = k) (h1 : ∀ x, ∀ u ∈ f x, u.oneCell' = true)
    (W : World) {ops : Array Oper} {rest : List Oper} {o : Oper} {a : Act} {Q : Exit → Act → World → Prop} (hgd : o.guard = none) (s x : Operand)
    (ho : o.op = .call { callee := .builtin .append, args := #[s, x], argTypes := #[sT, sT] })
    (base g0 c : Nat) (v : Value) (xs : List α) (y : α) (hs : a.eval s = v) (hx : a.eval x = .slice (some ⟨g0, 0, none⟩) 1 c) (hown : OwnRec f e k W base v xs) (hc : VRow W g0 0 (f y)) (hbase : base ≤ W.heap.size) (hlen : xs.length + 1 ≤ maxLen) (hby : (xs.length + 1) * bytes ≤ 140737488355328)
    (h : ∀ g cap w', OwnRec f e k w' base (.slice (some ⟨g, 0, none⟩) (xs.length + 1) cap) (xs ++ [y]) → W.grownBy w' v.ownBlock → (v.ownBlock = some g ∨ W.heap.size ≤ g) → g < w'.heap.size → wpList Try.prog ops Q rest (a.put o.dst (.slice (some ⟨g, 0, none⟩) (xs.length + 1) cap)) w') :
    wpList Try.prog ops Q (o :: rest) a W := by
  obtain ⟨i0, hi, hz0, hz1, hz2⟩ := info_parts hinf
  refine wpList_append_lies _ hgd s x sT ho base e i0 z k bytes hu hi hz0 hz1 hz2 hzs hk v xs.length (xs.flatMap f) hs hown ⟨g0, 0, none⟩ 1 c (f y) hx (by rw [hf]; omega) (vrow_src hc) (h1 y) (by decide) hlen hby hbase W.heap.size rfl ?_
  intro g cap w' hown' hg hlies hlt
  refine h g cap w' ?_ hg (hlies.imp id fun e => by omega) hlt
  unfold OwnRec
  rw [List.length_append, List.flatMap_append]
  simpa using hown'

/-- the same, at a step of a region that draws its order -/
theorem step_appR {α : Type} {f : α → List Value} {e k : Nat} (sT bytes : Nat) (z : Value) (hu : Try.prog.underlying sT = some (.slice e)) (hinf : (Try.prog.info? e).map (fun i => (i.zero, i.size, i.bytes)) = some (some z, k, bytes)) (hzs : z.cells.size = k) (hk : 0 < k) (hf : ∀ x, (f x).length = k) (h1 : ∀ x, ∀ u ∈ f x, u.oneCell' = true)
    (W : World) {ops : Array Oper} {o : Oper} {a : Act} {K : Act → World → Prop} {Q : Exit → Act → World → Prop} {E : Prop} (hgd : o.guard = none) (s x : Operand)
    (ho : o.op = .call { callee := .builtin .append, args := #[s, x], argTypes := #[sT, sT] })
    (base g0 c : Nat) (v : Value) (xs : List α) (y : α) (hs : a.eval s = v) (hx : a.eval x = .slice (some ⟨g0, 0, none⟩) 1 c) (hown : OwnRec f e k W base v xs) (hc : VRow W g0 0 (f y)) (hbase : base ≤ W.heap.size) (hlen : xs.length + 1 ≤ maxLen) (hby : (xs.length + 1) * bytes ≤ 140737488355328)
    (h : ∀ g cap w', OwnRec f e k w' base (.slice (some ⟨g, 0, none⟩) (xs.length + 1) cap) (xs ++ [y]) → W.grownBy w' v.ownBlock → (v.ownBlock = some g ∨ W.heap.size ≤ g) → g < w'.heap.size → K (a.put o.dst (.slice (some ⟨g, 0, none⟩) (xs.length + 1) cap)) w') :
    if Region.wanted o (yielded ops a.tmps) = true then Oper.wp Try.prog o a W K Q else E := by
  obtain ⟨i0, hi, hz0, hz1, hz2⟩ := info_parts hinf
  refine step_append_lies W hgd s x sT ho base e i0 z k bytes hu hi hz0 hz1 hz2 hzs hk v xs.length (xs.flatMap f) hs hown ⟨g0, 0, none⟩ 1 c (f y) hx (by rw [hf]; omega) (vrow_src hc) (h1 y) (by decide) hlen hby hbase W.heap.size rfl ?_
  intro g cap w' hown' hg hlies hlt
  refine h g cap w' ?_ hg (hlies.imp id fun e => by omega) hlt
  unfold OwnRec
  rw [List.length_append, List.flatMap_append]
  simpa using hown'

theorem vrow_new (w : World) (l : List Value) (t : TypeId) : VRow (w.alloc (.cells l.toArray t)) w.heap.size 0 l := by
  intro j hj
  rw [Nat.zero_add, World.cell?_alloc_new]
  simp [List.getD, hj]

end Go.Proofs.Ytffgpepngcnjeaa
