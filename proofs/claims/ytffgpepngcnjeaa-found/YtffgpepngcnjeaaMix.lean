/-
  One number of a transaction turned: another id.
-/
import Derived.Test.YtffgpepngcnjeaaTxB
namespace Go.Proofs.Ytffgpepngcnjeaa
open Go.RowKit

theorem mx_inj (h h' x : Int) (a0 : 0 ≤ h) (a1 : h < 99991) (b0 : 0 ≤ h') (b1 : h' < 99991) (e : Mk.mx h x = Mk.mx h' x) : h = h' := by
  unfold Mk.mx at e
  omega
theorem mx_inj2 (h x x' : Int) (d1 : x - x' < 99991) (d2 : x' - x < 99991) (e : Mk.mx h x = Mk.mx h x') : x = x' := by
  unfold Mk.mx at e
  omega
theorem mixL_inj (l : List Int) : ∀ (h h' : Int), 0 ≤ h → h < 99991 → 0 ≤ h' → h' < 99991 → Mk.mixL h l = Mk.mixL h' l → h = h' := by
  induction l with
  | nil => intro h h' _ _ _ _ e; exact e
  | cons x r ih =>
    intro h h' a0 a1 b0 b1 e
    exact mx_inj h h' x a0 a1 b0 b1 (ih _ _ (Mk.mx_bd h x).1 (Mk.mx_bd h x).2 (Mk.mx_bd h' x).1 (Mk.mx_bd h' x).2 e)
theorem mixL_set (l : List Int) : ∀ (h : Int) (p : Nat) (v : Int), p < l.length → l.getD p 0 ≠ v → l.getD p 0 - v < 99991 → v - l.getD p 0 < 99991 → Mk.mixL h (l.set p v) ≠ Mk.mixL h l := by
  induction l with
  | nil => intro h p v hp; simp at hp
  | cons x r ih =>
    intro h p v hp hne d1 d2
    cases p with
    | zero =>
      intro e
      have e2 := mixL_inj r _ _ (Mk.mx_bd h v).1 (Mk.mx_bd h v).2 (Mk.mx_bd h x).1 (Mk.mx_bd h x).2 e
      exact hne (mx_inj2 h x v d1 d2 e2.symm)
    | succ p => exact ih (Mk.mx h x) p v (by simpa using hp) hne d1 d2

theorem inL_len' (xs : List InD) : (inL xs).length = 2 * xs.length := by
  induction xs with
  | nil => rfl
  | cons x r ih => simp only [inL, List.flatMap_cons, List.length_append, List.length_cons] at ih ⊢; simp only [List.length_nil]; omega
theorem outL_len' (ys : List (Int × Int)) : (outL ys).length = 2 * ys.length := by
  induction ys with
  | nil => rfl
  | cons x r ih => simp only [outL, List.flatMap_cons, List.length_append, List.length_cons] at ih ⊢; simp only [List.length_nil]; omega

theorem inL_setId (xs : List InD) : ∀ (j : Nat) (y : InD), j < xs.length → y.pos = (xs.getD j dIn).pos → inL (xs.set j y) = (inL xs).set (j * 2) y.id ∧ (inL xs).getD (j * 2) 0 = (xs.getD j dIn).id := by
  induction xs with
  | nil => intro j y hj; simp at hj
  | cons x r ih =>
    intro j y hj hp
    cases j with
    | zero =>
      have hp' : y.pos = x.pos := hp
      refine ⟨?_, rfl⟩
      show [y.id, y.pos] ++ inL r = ([x.id, x.pos] ++ inL r).set 0 y.id
      rw [hp']
      rfl
    | succ j =>
      obtain ⟨h1, h2⟩ := ih j y (by simpa using hj) hp
      have e1 : (j + 1) * 2 = j * 2 + 2 := by omega
      rw [e1]
      refine ⟨?_, h2⟩
      show [x.id, x.pos] ++ inL (r.set j y) = ([x.id, x.pos] ++ inL r).set (j * 2 + 2) y.id
      rw [h1]
      rfl
theorem inL_setPos (xs : List InD) : ∀ (j : Nat) (y : InD), j < xs.length → y.id = (xs.getD j dIn).id → inL (xs.set j y) = (inL xs).set (j * 2 + 1) y.pos ∧ (inL xs).getD (j * 2 + 1) 0 = (xs.getD j dIn).pos := by
  induction xs with
  | nil => intro j y hj; simp at hj
  | cons x r ih =>
    intro j y hj hp
    cases j with
    | zero =>
      have hp' : y.id = x.id := hp
      refine ⟨?_, rfl⟩
      show [y.id, y.pos] ++ inL r = ([x.id, x.pos] ++ inL r).set 1 y.pos
      rw [hp']
      rfl
    | succ j =>
      obtain ⟨h1, h2⟩ := ih j y (by simpa using hj) hp
      have e1 : (j + 1) * 2 = j * 2 + 2 := by omega
      rw [e1]
      refine ⟨?_, h2⟩
      show [x.id, x.pos] ++ inL (r.set j y) = ([x.id, x.pos] ++ inL r).set (j * 2 + 2 + 1) y.pos
      rw [h1]
      rfl
theorem outL_setTo (ys : List (Int × Int)) : ∀ (j : Nat) (v : Int), j < ys.length → outL (ys.set j (v, (ys.getD j (0, 0)).2)) = (outL ys).set (j * 2) v ∧ (outL ys).getD (j * 2) 0 = (ys.getD j (0, 0)).1 := by
  induction ys with
  | nil => intro j y hj; simp at hj
  | cons x r ih =>
    intro j v hj
    cases j with
    | zero => exact ⟨rfl, rfl⟩
    | succ j =>
      obtain ⟨h1, h2⟩ := ih j v (by simpa using hj)
      have e1 : (j + 1) * 2 = j * 2 + 2 := by omega
      rw [e1]
      refine ⟨?_, h2⟩
      show [x.1, x.2] ++ outL (r.set j (v, (r.getD j (0, 0)).2)) = ([x.1, x.2] ++ outL r).set (j * 2 + 2) v
      rw [h1]
      rfl
theorem outL_setValue (ys : List (Int × Int)) : ∀ (j : Nat) (v : Int), j < ys.length → outL (ys.set j ((ys.getD j (0, 0)).1, v)) = (outL ys).set (j * 2 + 1) v ∧ (outL ys).getD (j * 2 + 1) 0 = (ys.getD j (0, 0)).2 := by
  induction ys with
  | nil => intro j y hj; simp at hj
  | cons x r ih =>
    intro j v hj
    cases j with
    | zero => exact ⟨rfl, rfl⟩
    | succ j =>
      obtain ⟨h1, h2⟩ := ih j v (by simpa using hj)
      have e1 : (j + 1) * 2 = j * 2 + 2 := by omega
      rw [e1]
      refine ⟨?_, h2⟩
      show [x.1, x.2] ++ outL (r.set j ((r.getD j (0, 0)).1, v)) = ([x.1, x.2] ++ outL r).set (j * 2 + 2 + 1) v
      rw [h1]
      rfl

/-- the numbers of the inputs are another's in one place -/
theorem id_ins (t : Int) (xs xs' : List InD) (ys : List (Int × Int)) (p : Nat) (v : Int) (hl : xs'.length = xs.length) (hs : inL xs' = (inL xs).set p v) (hp : p < (inL xs).length) (hne : (inL xs).getD p 0 ≠ v) (d1 : (inL xs).getD p 0 - v < 99991) (d2 : v - (inL xs).getD p 0 < 99991) :
    Mk.mixL 1 (idL t xs' ys) ≠ Mk.mixL 1 (idL t xs ys) := by
  rw [idL_split, idL_split, hl, hs]
  intro e
  have b1 := Mk.mx_bd 1 t
  have e1 := mixL_inj _ _ _ (Mk.mx_bd _ _).1 (Mk.mx_bd _ _).2 (Mk.mx_bd _ _).1 (Mk.mx_bd _ _).2 e
  have c1 := Mk.mixL_bd (Mk.mx (Mk.mx 1 t) (xs.length : Int)) ((inL xs).set p v) (Mk.mx_bd _ _).1 (Mk.mx_bd _ _).2
  have c2 := Mk.mixL_bd (Mk.mx (Mk.mx 1 t) (xs.length : Int)) (inL xs) (Mk.mx_bd _ _).1 (Mk.mx_bd _ _).2
  have e2 := mx_inj _ _ _ c1.1 c1.2 c2.1 c2.2 e1
  exact mixL_set _ _ p v hp hne d1 d2 e2
theorem id_outs (t : Int) (xs : List InD) (ys ys' : List (Int × Int)) (p : Nat) (v : Int) (hl : ys'.length = ys.length) (hs : outL ys' = (outL ys).set p v) (hp : p < (outL ys).length) (hne : (outL ys).getD p 0 ≠ v) (d1 : (outL ys).getD p 0 - v < 99991) (d2 : v - (outL ys).getD p 0 < 99991) :
    Mk.mixL 1 (idL t xs ys') ≠ Mk.mixL 1 (idL t xs ys) := by
  rw [idL_split, idL_split, hl, hs]
  exact mixL_set _ _ p v hp hne d1 d2
theorem id_tag (t t' : Int) (xs : List InD) (ys : List (Int × Int)) (hne : t ≠ t') (d1 : t - t' < 99991) (d2 : t' - t < 99991) : Mk.mixL 1 (idL t' xs ys) ≠ Mk.mixL 1 (idL t xs ys) := by
  have h := mixL_set (idL t xs ys) 1 0 t' (by simp [idL]) hne d1 d2
  exact h

end Go.Proofs.Ytffgpepngcnjeaa
