/-
  What stays: all blocks but some.
-/
import Derived.Test.YtffgpepngcnjeaaChC
import Derived.Laws.OwnMore
namespace Go.Proofs.Ytffgpepngcnjeaa
open Go.RowKit
variable {Ex : List (Nat × Value)}

/-- from w to w' no block that was there changes but those of E -/
structure Fr (E : Nat → Prop) (w w' : World) : Prop where
  os : w'.os = w.os
  tape : w'.tape = w.tape
  output : w'.output = w.output
  size : w.heap.size ≤ w'.heap.size
  block : ∀ k, k < w.heap.size → ¬ E k → w'.heap[k]? = w.heap[k]?

theorem Fr.refl (E : Nat → Prop) (w : World) : Fr E w w := ⟨rfl, rfl, rfl, Nat.le_refl _, fun _ _ _ => rfl⟩
theorem Fr.trans {E : Nat → Prop} {a b c : World} (h : Fr E a b) (k : Fr E b c) : Fr E a c :=
  ⟨k.os.trans h.os, k.tape.trans h.tape, k.output.trans h.output, Nat.le_trans h.size k.size, fun i hi he => (k.block i (Nat.lt_of_lt_of_le hi h.size) he).trans (h.block i hi he)⟩
theorem Fr.weak {E F : Nat → Prop} {w w' : World} (h : Fr E w w') (hs : ∀ k, k < w.heap.size → E k → F k) : Fr F w w' :=
  ⟨h.os, h.tape, h.output, h.size, fun k hk he => h.block k hk (fun e => he (hs k hk e))⟩
theorem Fr.of_below {w w' : World} (h : Below w.heap.size w w') (E : Nat → Prop) : Fr E w w' := ⟨h.os, h.tape, h.output, h.size, fun k hk _ => h.block k hk⟩
theorem Fr.of_gb {w w' : World} {row : Option Nat} (h : w.grownBy w' row) {E : Nat → Prop} (hE : ∀ k, row = some k → k < w.heap.size → E k) : Fr E w w' :=
  ⟨h.os, h.tape, h.output, h.size, fun k hk he => h.block k hk (fun e => he (hE k e.symm hk))⟩
theorem Fr.drew {E : Nat → Prop} {w w' : World} (h : Fr E w w') : Fr E w w'.drew := ⟨h.os, h.tape, h.output, h.size, h.block⟩
theorem Fr.alloc {E : Nat → Prop} {w w' : World} (h : Fr E w w') (o : Obj) : Fr E w (w'.alloc o) := h.trans (Fr.of_below ((Below.refl _ _).alloc (Nat.le_refl _) _) E)
theorem Fr.set {E : Nat → Prop} {w w' : World} (h : Fr E w w') (g o : Nat) (v : Value) (hE : g < w.heap.size → E g) : Fr E w (w'.setCell ⟨g, o, none⟩ v) := by
  refine ⟨h.os, h.tape, h.output, by simpa using h.size, fun k hk he => ?_⟩
  rw [Below.heap_setCell w' ⟨g, o, none⟩ v k (fun e => he (by simp only at e; rw [e]; exact hE (by rw [← e]; exact hk)))]
  exact h.block k hk he
theorem Fr.toBelow {E : Nat → Prop} {w w' : World} (h : Fr E w w') (B : Nat) (hB : B ≤ w.heap.size) (hE : ∀ k, E k → B ≤ k) : Below B w w' :=
  ⟨h.os, h.tape, h.output, h.size, fun k hk => h.block k (by omega) (fun e => by have := hE k e; omega)⟩
theorem Fr.cell {E : Nat → Prop} {w w' : World} (h : Fr E w w') {b o : Nat} {v : Value} (hc : w.cell? ⟨b, o, none⟩ = some v) (he : ¬ E b) : w'.cell? ⟨b, o, none⟩ = some v := by
  rw [World.cell?_of_block (h.block b (cell_lt hc) he)]; exact hc
theorem Fr.frozen {E : Nat → Prop} {w w' : World} (h : Fr E w w') {b o : Nat} (hb : b < w.heap.size) (he : ¬ E b) : w'.frozen? ⟨b, o, none⟩ = w.frozen? ⟨b, o, none⟩ :=
  World.frozen?_of_block (h.block b hb he)
theorem Fr.vrow {E : Nat → Prop} {w w' : World} (h : Fr E w w') {b off : Nat} {l : List Value} (hr : VRow w b off l) (he : ¬ E b) : VRow w' b off l := fun j hj => h.cell (hr j hj) he
theorem Fr.row {E : Nat → Prop} {w w' : World} (h : Fr E w w') {b off : Nat} {l : List Int} (hr : Row w b off l) (he : ¬ E b) : Row w' b off l := fun j hj => h.cell (hr j hj) he
theorem Fr.own {E : Nat → Prop} {w w' : World} (h : Fr E w w') {base e size : Nat} {v : Value} {n : Nat} {cs : List Value} (ho : w.ownsRow base e size v n cs) (hne : ∀ k, v.ownBlock = some k → ¬ E k) : w'.ownsRow base e size v n cs := by
  have hb := owns_blk ho
  obtain ⟨h1, h2 | ⟨g, cap, cur, rfl, hbg, hg, hn⟩⟩ := ho
  · exact ⟨h1, Or.inl h2⟩
  · exact ⟨h1, Or.inr ⟨g, cap, cur, rfl, hbg, (h.block g (hb g rfl).2 (hne g rfl)).trans hg, hn⟩⟩

/-- the blocks of a chain: that of its record, that of its outputs -/
def chE (b : Nat) (v : Value) (k : Nat) : Prop := k = b ∨ v.ownBlock = some k

/-- the chain's memory, which may be written -/
structure ChOwn (Ex : List (Nat × Value)) (w : World) (b o : Nat) (v : Value) (h : Int) (xs : List Cel) : Prop where
  c0 : w.cell? ⟨b, o, none⟩ = some v
  c1 : w.cell? ⟨b, o + 1, none⟩ = some (.int .i64 h)
  f0 : w.frozen? ⟨b, o, none⟩ = false
  f1 : w.frozen? ⟨b, o + 1, none⟩ = false
  own : OwnRec Cel.l 191 6 w (b + 1) v xs
  ext : ∀ q ∈ Ex, q.1 ≠ o ∧ q.1 ≠ o + 1 ∧ w.cell? ⟨b, q.1, none⟩ = some q.2

theorem ChOwn.fr {E : Nat → Prop} {w w' : World} (hf : Fr E w w') {b o : Nat} {v : Value} {h : Int} {xs : List Cel} (hc : ChOwn Ex w b o v h xs) (he : ∀ k, chE b v k → ¬ E k) : ChOwn Ex w' b o v h xs := by
  have hb := he b (Or.inl rfl)
  have hl := cell_lt hc.c0
  exact ⟨hf.cell hc.c0 hb, hf.cell hc.c1 hb, (hf.frozen hl hb).trans hc.f0, (hf.frozen hl hb).trans hc.f1, hf.own hc.own (fun k hk => he k (Or.inr hk)), fun q hq => ⟨(hc.ext q hq).1, (hc.ext q hq).2.1, hf.cell (hc.ext q hq).2.2 hb⟩⟩
theorem ChOwn.grown {w w' : World} (hb : Below w.heap.size w w') {b o : Nat} {v : Value} {h : Int} {xs : List Cel} (hc : ChOwn Ex w b o v h xs) : ChOwn Ex w' b o v h xs :=
  hc.fr (Fr.of_below hb (fun _ => False)) (fun _ _ h => h)
theorem ChOwn.blk {w : World} {b o : Nat} {v : Value} {h : Int} {xs : List Cel} (hc : ChOwn Ex w b o v h xs) : ∀ k, chE b v k → b ≤ k ∧ k < w.heap.size := by
  intro k hk
  rcases hk with rfl | hk
  · exact ⟨Nat.le_refl _, cell_lt hc.c0⟩
  · have := hc.own.blk k hk; omega
theorem ChOwn.at {w : World} {b o : Nat} {v : Value} {h : Int} {xs : List Cel} (hc : ChOwn Ex w b o v h xs) : ∃ ao c, v = .slice ao xs.length c ∧ CelsAt w ao xs := hc.own.at cel6

/-- one step of the chain: only its blocks change; its outputs stay in their block or come into a new one -/
structure ChStep (b : Nat) (v v' : Value) (w w' : World) : Prop where
  fr : Fr (chE b v) w w'
  own : ∀ k, v'.ownBlock = some k → v.ownBlock = some k ∨ w.heap.size ≤ k

theorem ChStep.of_below {w w' : World} (h : Below w.heap.size w w') (b : Nat) (v : Value) : ChStep b v v w w' := ⟨Fr.of_below h _, fun _ hk => Or.inl hk⟩
theorem ChStep.refl (b : Nat) (v : Value) (w : World) : ChStep b v v w w := ⟨Fr.refl _ _, fun _ hk => Or.inl hk⟩
theorem ChStep.trans {b : Nat} {v v1 v2 : Value} {w w1 w2 : World} (h : ChStep b v v1 w w1) (k : ChStep b v1 v2 w1 w2) : ChStep b v v2 w w2 := by
  refine ⟨⟨k.fr.os.trans h.fr.os, k.fr.tape.trans h.fr.tape, k.fr.output.trans h.fr.output, Nat.le_trans h.fr.size k.fr.size, fun i hi he => ?_⟩, fun i hi => ?_⟩
  · refine (k.fr.block i (Nat.lt_of_lt_of_le hi h.fr.size) (fun e => he ?_)).trans (h.fr.block i hi he)
    rcases e with e | e
    · exact Or.inl e
    · rcases h.own i e with e' | e'
      · exact Or.inr e'
      · omega
  · rcases k.own i hi with e | e
    · exact h.own i e
    · exact Or.inr (Nat.le_trans h.fr.size e)

/-- one cell of an output is written -/
theorem OwnRec.put {α : Type} {f : α → List Value} {e k : Nat} (hf : ∀ x, (f x).length = k) {w : World} {base g c : Nat} {xs : List α} (h : OwnRec f e k w base (.slice (some ⟨g, 0, none⟩) xs.length c) xs) (q i : Nat) (hq : q < xs.length) (hi : i < k) (u : Value) (y : α) (hy : (f (xs[q])).set i u = f y) :
    OwnRec f e k (w.setCell ⟨g, q * k + i, none⟩ u) base (.slice (some ⟨g, 0, none⟩) xs.length c) (xs.set q y) := by
  have hs := (World.ownsRow.stored h (q * k + i) u).1
  unfold OwnRec
  rw [List.length_set]
  have e1 : (xs.flatMap f).set (q * k + i) u = (xs.set q y).flatMap f := by
    clear h hs
    induction xs generalizing q with
    | nil => simp at hq
    | cons x r ih =>
      cases q with
      | zero =>
        simp only [List.getElem_cons_zero] at hy
        rw [List.flatMap_cons, List.set_cons_zero, List.flatMap_cons, ← hy, Nat.zero_mul, Nat.zero_add, List.set_append_left _ _ (by rw [hf]; exact hi)]
      | succ q =>
        simp only [List.getElem_cons_succ] at hy
        rw [List.flatMap_cons, List.set_cons_succ, List.flatMap_cons, ← ih q (by simpa using hq) hy, List.set_append_right _ _ (by rw [hf, Nat.succ_mul]; omega), hf, show (q + 1) * k + i - k = q * k + i by rw [Nat.succ_mul]; omega]
  rw [← e1]
  exact hs

end Go.Proofs.Ytffgpepngcnjeaa
