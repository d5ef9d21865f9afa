/-
  Package chain: a transaction is taken into the block that is being connected.
-/
import Derived.Test.YtffgpepngcnjeaaFr
namespace Go.Proofs.Ytffgpepngcnjeaa
open Go.RowKit
variable {Ex : List (Nat × Value)}

def Cel.sp (h : Int) (x : Cel) : Cel := ⟨x.id, x.pos, x.to, x.val, x.made, h⟩
/-- the outputs at these places are spent by block h -/
def markZ (h : Int) (xs : List Cel) : List SpD → List Cel
  | [] => xs
  | s :: r => markZ h (xs.set s.pl.toNat ((xs.getD s.pl.toNat dC).sp h)) r
/-- the first k outputs of a transaction as the chain keeps them -/
def newC (id h : Int) (ys : List (Int × Int)) (k : Nat) : List Cel := (List.range k).map fun j : Nat => ⟨id, j, (ys.getD j (0, 0)).1, (ys.getD j (0, 0)).2, h, -1⟩

def addZ (xs : List Cel) (h t : Int) (ins : List InD) (ys : List (Int × Int)) (first : Bool) : Int × List Cel :=
  if rTx t ins ys = false ∨ (ins = [] ∧ first = false) then (2, xs)
  else if hasId xs (idZ t ins ys) = true then (4, xs)
  else match spZ xs ins [] with
    | none => (5, xs)
    | some ss =>
      if ss.all (opens (idZ t ins ys)) = false then (6, xs)
      else if ss ≠ [] ∧ sumSp ss < sumOu ys then (7, xs)
      else (0, markZ h xs ss ++ newC (idZ t ins ys) h ys ys.length)

theorem markZ_len (h : Int) (ss : List SpD) : ∀ xs, (markZ h xs ss).length = xs.length := by
  induction ss with
  | nil => intro xs; rfl
  | cons s r ih => intro xs; rw [markZ, ih, List.length_set]
theorem markZ_snoc (h : Int) (ss : List SpD) (s : SpD) : ∀ xs, markZ h xs (ss ++ [s]) = (markZ h xs ss).set s.pl.toNat (((markZ h xs ss).getD s.pl.toNat dC).sp h) := by
  induction ss with
  | nil => intro xs; rfl
  | cons a r ih => intro xs; rw [List.cons_append, markZ, ih, markZ]
theorem markZ_take (h : Int) (xs : List Cel) (ss : List SpD) (k : Nat) (hk : k < ss.length) : markZ h xs (ss.take (k + 1)) = (markZ h xs (ss.take k)).set (ss.getD k dS).pl.toNat (((markZ h xs (ss.take k)).getD (ss.getD k dS).pl.toNat dC).sp h) := by
  rw [List.take_succ_eq_append_getElem hk, markZ_snoc]
  simp only [List.getD, List.getElem?_eq_getElem hk, Option.getD_some]
theorem newC_snoc (id h : Int) (ys : List (Int × Int)) (k : Nat) : newC id h ys (k + 1) = newC id h ys k ++ [⟨id, k, (ys.getD k (0, 0)).1, (ys.getD k (0, 0)).2, h, -1⟩] := by
  unfold newC
  rw [List.range_succ, List.map_append]
  rfl

/-- what spZ gives: a place each, among the outputs, with its address and its value -/
theorem spZ_good (xs : List Cel) (P : SpD → Prop) : ∀ (ins : List InD) (acc ss : List SpD), (∀ i ∈ ins, ∀ q : Nat, q < xs.length → isCoin i.id i.pos (xs.getD q dC) = true → P ⟨q, (xs.getD q dC).to, (xs.getD q dC).val, i.ao, i.n, i.c, i.l⟩) → spZ xs ins acc = some ss → (∀ s ∈ acc, P s) → ∀ s ∈ ss, P s := by
  intro ins
  induction ins with
  | nil => intro acc ss hP h ha; simp only [spZ] at h; cases h; exact ha
  | cons i r ih =>
    intro acc ss hP h ha
    simp only [spZ] at h
    split at h
    · cases h
    · rename_i hc
      rcases findZ_cases xs i.id i.pos with hf | ⟨q, hq, hf, hco⟩
      · exact absurd (Or.inl (by rw [hf]; omega)) hc
      · rw [hf] at h
        rw [show ((q : Int)).toNat = q from Int.toNat_natCast q] at h
        refine ih _ ss (fun j hj => hP j (by simp [hj])) h (fun s hs => ?_)
        rcases List.mem_append.1 hs with hs | hs
        · exact ha s hs
        · rw [List.mem_singleton] at hs
          rw [hs]
          exact hP i (by simp) q hq hco
theorem spZ_len (xs : List Cel) : ∀ (ins : List InD) (acc ss : List SpD), spZ xs ins acc = some ss → ss.length = acc.length + ins.length := by
  intro ins
  induction ins with
  | nil => intro acc ss h; simp only [spZ] at h; cases h; simp
  | cons i r ih =>
    intro acc ss h
    simp only [spZ] at h
    split at h
    · cases h
    · rw [ih _ ss h]
      simp only [List.length_append, List.length_cons, List.length_nil]
      omega

theorem getD_mem {α : Type} (l : List α) (d : α) (k : Nat) (h : k < l.length) : l.getD k d ∈ l := by
  simp only [List.getD, List.getElem?_eq_getElem h, Option.getD_some]
  exact List.getElem_mem h
theorem mem_getD {α : Type} {l : List α} (d : α) {x : α} (h : x ∈ l) : ∃ k, k < l.length ∧ x = l.getD k d := by
  obtain ⟨k, hk, e⟩ := List.getElem_of_mem h
  exact ⟨k, hk, by simp only [List.getD, List.getElem?_eq_getElem hk, Option.getD_some]; exact e.symm⟩

theorem ChOwn.drew {w : World} {b o : Nat} {v : Value} {h : Int} {xs : List Cel} (hc : ChOwn Ex w b o v h xs) : ChOwn Ex w.drew b o v h xs := ⟨hc.c0, hc.c1, hc.f0, hc.f1, hc.own, hc.ext⟩
theorem ChOwn.alloc {w : World} {b o : Nat} {v : Value} {h : Int} {xs : List Cel} (hc : ChOwn Ex w b o v h xs) (ob : Obj) : ChOwn Ex (w.alloc ob) b o v h xs := hc.grown ((Below.refl _ _).alloc (Nat.le_refl _) _)
theorem ChOwn.mark {w : World} {b o g c : Nat} {h : Int} {xs : List Cel} (hc : ChOwn Ex w b o (.slice (some ⟨g, 0, none⟩) xs.length c) h xs) (q : Nat) (hq : q < xs.length) (u : Int) : ChOwn Ex (w.setCell ⟨g, q * 6 + 5, none⟩ (.int .i64 u)) b o (.slice (some ⟨g, 0, none⟩) xs.length c) h (xs.set q ((xs.getD q dC).sp u)) := by
  have hg : b + 1 ≤ g := (hc.own.blk g rfl).1
  have hne : ∀ i, (⟨g, q * 6 + 5, none⟩ : Addr) ≠ ⟨b, i, none⟩ := fun i e => by have := congrArg Addr.block e; simp only at this; omega
  have e : xs.getD q dC = xs[q] := by simp [List.getD, hq]
  refine ⟨(World.cell?_setCell_other _ _ _ _ (hne _)).trans hc.c0, (World.cell?_setCell_other _ _ _ _ (hne _)).trans hc.c1, (World.frozen?_setCell _ _ _ _).trans hc.f0, (World.frozen?_setCell _ _ _ _).trans hc.f1, ?_, fun q' hq' => ⟨(hc.ext q' hq').1, (hc.ext q' hq').2.1, (World.cell?_setCell_other _ _ _ _ (hne _)).trans (hc.ext q' hq').2.2⟩⟩
  rw [e]
  exact OwnRec.put cel6 hc.own q 5 hq (by omega) (.int .i64 u) _ rfl

theorem idZ_bd (t : Int) (xs : List InD) (ys : List (Int × Int)) : Mk.isM (idZ t xs ys) = true := by
  rw [Mk.isM_iff]
  unfold idZ
  split
  · exact Mk.mixL_bd 1 _ (by omega) (by omega)
  · omega

end Go.Proofs.Ytffgpepngcnjeaa
