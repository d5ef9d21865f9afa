/-
  other: one number turned: what comes out of it, outside the walk.
-/
import Derived.Test.YtffgpepngcnjeaaTagF
import Derived.Test.YtffgpepngcnjeaaTagD
import Derived.Deep.Slices
namespace Go.Proofs.Ytffgpepngcnjeaa
open Go.RowKit

theorem by_idx {α : Type} (l : List α) (d : α) : l = (List.range l.length).map fun j => l.getD j d := by
  apply List.ext_getElem
  · simp
  · intro j h1 h2
    simp [List.getD, h1]
theorem same_inL {xs xs' : List InD} (hl : xs'.length = xs.length) (h : ∀ j, j < xs'.length → Same (xs.getD j dIn) (xs'.getD j dIn)) : inL xs' = inL xs := by
  have e1 := by_idx xs dIn
  have e2 := by_idx xs' dIn
  rw [e1, e2]
  unfold inL
  rw [List.flatMap_map, List.flatMap_map, hl]
  apply Go.Deep.flatMap_congr_range
  intro j hj
  obtain ⟨a, b, _, _⟩ := h j (by omega)
  rw [a, b]
theorem same_all {xs xs' : List InD} (hl : xs'.length = xs.length) (h : ∀ j, j < xs'.length → Same (xs.getD j dIn) (xs'.getD j dIn)) (hx : xs.all rIn = true) : xs'.all rIn = true := by
  rw [List.all_eq_true] at hx ⊢
  intro y hy
  obtain ⟨j, hj, rfl⟩ := List.mem_iff_getElem.1 hy
  have hs := h j hj
  have hx' := hx _ (List.getElem_mem (show j < xs.length by omega))
  have e1 : xs.getD j dIn = xs[j] := by simp [List.getD, show j < xs.length by omega]
  have e2 : xs'.getD j dIn = xs'[j] := by simp [List.getD, hj]
  rw [e1, e2] at hs
  obtain ⟨a, b, c, d⟩ := hs
  unfold rIn at hx' ⊢
  rw [a, b, c, d]
  exact hx'
theorem same_tx {t : Int} {xs xs' : List InD} {ys : List (Int × Int)} (hl : xs'.length = xs.length) (h : ∀ j, j < xs'.length → Same (xs.getD j dIn) (xs'.getD j dIn)) (hr : rTx t xs ys = true) : rTx t xs' ys = true ∧ idL t xs' ys = idL t xs ys := by
  refine ⟨?_, by unfold idL; rw [hl, same_inL hl h]⟩
  simp only [rTx, rIns, rOuts, Bool.and_eq_true, decide_eq_true_iff] at hr ⊢
  exact ⟨hr.1, ⟨by rw [hl]; exact hr.2.1.1, same_all hl h hr.2.1.2⟩, hr.2.2⟩
theorem all_set {α : Type} (p : α → Bool) (l : List α) (i : Nat) (x : α) (h : l.all p = true) (hx : p x = true) : (l.set i x).all p = true := by
  rw [List.all_eq_true] at h ⊢
  intro y hy
  rcases List.mem_or_eq_of_mem_set hy with h1 | rfl
  · exact h y h1
  · exact hx
theorem rTx_setIn {t : Int} {xs : List InD} {ys : List (Int × Int)} (hr : rTx t xs ys = true) (i : Nat) (y : InD) (hy : rIn y = true) : rTx t (xs.set i y) ys = true := by
  simp only [rTx, rIns, rOuts, Bool.and_eq_true, decide_eq_true_iff] at hr ⊢
  exact ⟨hr.1, ⟨by rw [List.length_set]; exact hr.2.1.1, all_set _ _ _ _ hr.2.1.2 hy⟩, hr.2.2⟩
theorem rTx_setOut {t : Int} {xs : List InD} {ys : List (Int × Int)} (hr : rTx t xs ys = true) (i : Nat) (y : Int × Int) (hy : rOut y = true) : rTx t xs (ys.set i y) = true := by
  simp only [rTx, rIns, rOuts, Bool.and_eq_true, decide_eq_true_iff] at hr ⊢
  exact ⟨hr.1, hr.2.1, ⟨by rw [List.length_set]; exact hr.2.2.1, all_set _ _ _ _ hr.2.2.2 hy⟩⟩
theorem rTx_setTag {t t' : Int} {xs : List InD} {ys : List (Int × Int)} (hr : rTx t xs ys = true) (h : 0 ≤ t' ∧ t' ≤ 1099511627776) : rTx t' xs ys = true := by
  simp only [rTx, Bool.and_eq_true, decide_eq_true_iff] at hr ⊢
  exact ⟨h, hr.2⟩

/-- what other comes to -/
structure Turned (w : World) (base : Nat) (t : Int) (xs : List InD) (ys : List (Int × Int)) (t2 : Int) (ai : Option Addr) (xs2 : List InD) (ap : Option Addr) (ys2 : List (Int × Int)) : Prop where
  reads : Reads w base ai xs2 ap ys2
  nl : xs2.length = xs.length
  ml : ys2.length = ys.length
  right : rTx t2 xs2 ys2 = true
  ne : Mk.mixL 1 (idL t2 xs2 ys2) ≠ Mk.mixL 1 (idL t xs ys)

theorem Turned.gb {w w' : World} {row : Option Nat} (h : w.grownBy w' row) {base : Nat} {t : Int} {xs : List InD} {ys : List (Int × Int)} {t2 : Int} {ai : Option Addr} {xs2 : List InD} {ap : Option Addr} {ys2 : List (Int × Int)} (ht : Turned w base t xs ys t2 ai xs2 ap ys2) (hk : ∀ k, row = some k → k < base) : Turned w' base t xs ys t2 ai xs2 ap ys2 :=
  ⟨ht.reads.gb h hk, ht.nl, ht.ml, ht.right, ht.ne⟩
theorem Turned.lower {w : World} {base B : Nat} {t : Int} {xs : List InD} {ys : List (Int × Int)} {t2 : Int} {ai : Option Addr} {xs2 : List InD} {ap : Option Addr} {ys2 : List (Int × Int)} (ht : Turned w base t xs ys t2 ai xs2 ap ys2) (hB : B ≤ base) : Turned w B t xs ys t2 ai xs2 ap ys2 :=
  ⟨ht.reads.lower hB, ht.nl, ht.ml, ht.right, ht.ne⟩

section
variable {w : World} {base : Nat} {t : Int} {xs xs' : List InD} {ys : List (Int × Int)}

theorem turned_id {g n c : Nat} {ap : Option Addr} {m d : Nat} (hf : Fresh w base (.slice (some ⟨g, 0, none⟩) n c) (.slice ap m d) (fun j x => Same (xs.getD j dIn) x) xs' ys) (hl : xs'.length = xs.length) (hr : rTx t xs ys = true) (i : Nat) (hi : i < xs.length) (v : Int) (hv : 0 ≤ v ∧ v < 99991) (hne : (xs.getD i dIn).id ≠ v) :
    Turned (w.setCell ⟨g, i * 3, none⟩ (.int .i64 v)) base t xs ys t (some ⟨g, 0, none⟩) (xs'.set i { xs'.getD i dIn with id := v }) ap ys := by
  have hs : ∀ j, j < xs'.length → Same (xs.getD j dIn) (xs'.getD j dIn) := fun j hj => (hf.ok j hj).2.1
  obtain ⟨hr', hid⟩ := same_tx hl hs hr
  have hp := rTx_parts hr'
  have hri := hp.2.2.1 i (by omega)
  have hb := rIn_bd hri
  have hrd := hf.setIn i 0 (by omega) v { xs'.getD i dIn with id := v } (Or.inl ⟨rfl, rfl⟩)
  obtain ⟨e1, e2⟩ := inL_setId xs' i { xs'.getD i dIn with id := v } (by omega) rfl
  have hsi := hs i (by omega)
  refine ⟨hrd, by rw [List.length_set]; exact hl, rfl, rTx_setIn hr' i _ ?_, ?_⟩
  · simp only [rIn, Bool.and_eq_true, decide_eq_true_iff] at hri ⊢
    exact ⟨(Mk.isM_iff v).2 hv, hri.2⟩
  · rw [← hid]
    exact id_ins t xs' _ ys (i * 2) v (by rw [List.length_set]) e1 (by rw [inL_len']; omega) (by rw [e2, hsi.1]; exact hne) (by rw [e2]; omega) (by rw [e2]; omega)
theorem turned_pos {g n c : Nat} {ap : Option Addr} {m d : Nat} (hf : Fresh w base (.slice (some ⟨g, 0, none⟩) n c) (.slice ap m d) (fun j x => Same (xs.getD j dIn) x) xs' ys) (hl : xs'.length = xs.length) (hr : rTx t xs ys = true) (i : Nat) (hi : i < xs.length) (v : Int) (hv : 0 ≤ v ∧ v < 8) (hne : (xs.getD i dIn).pos ≠ v) :
    Turned (w.setCell ⟨g, i * 3 + 1, none⟩ (.int .i64 v)) base t xs ys t (some ⟨g, 0, none⟩) (xs'.set i { xs'.getD i dIn with pos := v }) ap ys := by
  have hs : ∀ j, j < xs'.length → Same (xs.getD j dIn) (xs'.getD j dIn) := fun j hj => (hf.ok j hj).2.1
  obtain ⟨hr', hid⟩ := same_tx hl hs hr
  have hp := rTx_parts hr'
  have hri := hp.2.2.1 i (by omega)
  have hb := rIn_bd hri
  have hrd := hf.setIn i 1 (by omega) v { xs'.getD i dIn with pos := v } (Or.inr ⟨rfl, rfl⟩)
  obtain ⟨e1, e2⟩ := inL_setPos xs' i { xs'.getD i dIn with pos := v } (by omega) rfl
  have hsi := hs i (by omega)
  refine ⟨hrd, by rw [List.length_set]; exact hl, rfl, rTx_setIn hr' i _ ?_, ?_⟩
  · simp only [rIn, Bool.and_eq_true, decide_eq_true_iff] at hri ⊢
    exact ⟨hri.1, hv, hri.2.2⟩
  · rw [← hid]
    exact id_ins t xs' _ ys (i * 2 + 1) v (by rw [List.length_set]) e1 (by rw [inL_len']; omega) (by rw [e2, hsi.2.1]; exact hne) (by rw [e2]; omega) (by rw [e2]; omega)
theorem turned_to {ai : Option Addr} {n c g m d : Nat} (hf : Fresh w base (.slice ai n c) (.slice (some ⟨g, 0, none⟩) m d) (fun j x => Same (xs.getD j dIn) x) xs' ys) (hl : xs'.length = xs.length) (hr : rTx t xs ys = true) (i : Nat) (hi : i < ys.length) (v : Int) (hv : 0 ≤ v ∧ v < 99991) (hne : (ys.getD i (0, 0)).1 ≠ v) :
    Turned (w.setCell ⟨g, i * 2, none⟩ (.int .i64 v)) base t xs ys t ai xs' (some ⟨g, 0, none⟩) (ys.set i (v, (ys.getD i (0, 0)).2)) := by
  have hs : ∀ j, j < xs'.length → Same (xs.getD j dIn) (xs'.getD j dIn) := fun j hj => (hf.ok j hj).2.1
  obtain ⟨hr', hid⟩ := same_tx hl hs hr
  have hp := rTx_parts hr'
  have hb := rOut_bd (hp.2.2.2.2 i hi)
  have hrd := hf.setOut i 0 hi v (v, (ys.getD i (0, 0)).2) (Or.inl ⟨rfl, rfl⟩)
  obtain ⟨e1, e2⟩ := outL_setTo ys i v hi
  refine ⟨hrd, hl, by rw [List.length_set], rTx_setOut hr' i _ ?_, ?_⟩
  · simp only [rOut, Bool.and_eq_true, decide_eq_true_iff]
    exact ⟨(Mk.isM_iff v).2 hv, hb.2⟩
  · rw [← hid]
    exact id_outs t xs' ys _ (i * 2) v (by rw [List.length_set]) e1 (by rw [outL_len']; omega) (by rw [e2]; exact hne) (by rw [e2]; omega) (by rw [e2]; omega)
theorem turned_value {ai : Option Addr} {n c g m d : Nat} (hf : Fresh w base (.slice ai n c) (.slice (some ⟨g, 0, none⟩) m d) (fun j x => Same (xs.getD j dIn) x) xs' ys) (hl : xs'.length = xs.length) (hr : rTx t xs ys = true) (i : Nat) (hi : i < ys.length) (v : Int) (hv : 10 ≤ v ∧ v ≤ 1099511627776) (hne : (ys.getD i (0, 0)).2 ≠ v) (d1 : (ys.getD i (0, 0)).2 - v < 99991) (d2 : v - (ys.getD i (0, 0)).2 < 99991) :
    Turned (w.setCell ⟨g, i * 2 + 1, none⟩ (.int .i64 v)) base t xs ys t ai xs' (some ⟨g, 0, none⟩) (ys.set i ((ys.getD i (0, 0)).1, v)) := by
  have hs : ∀ j, j < xs'.length → Same (xs.getD j dIn) (xs'.getD j dIn) := fun j hj => (hf.ok j hj).2.1
  obtain ⟨hr', hid⟩ := same_tx hl hs hr
  have hp := rTx_parts hr'
  have hb := rOut_bd (hp.2.2.2.2 i hi)
  have hrd := hf.setOut i 1 hi v ((ys.getD i (0, 0)).1, v) (Or.inr ⟨rfl, rfl⟩)
  obtain ⟨e1, e2⟩ := outL_setValue ys i v hi
  refine ⟨hrd, hl, by rw [List.length_set], rTx_setOut hr' i _ ?_, ?_⟩
  · simp only [rOut, Bool.and_eq_true, decide_eq_true_iff]
    exact ⟨(Mk.isM_iff _).2 hb.1, hv⟩
  · rw [← hid]
    exact id_outs t xs' ys _ (i * 2 + 1) v (by rw [List.length_set]) e1 (by rw [outL_len']; omega) (by rw [e2]; exact hne) (by rw [e2]; exact d1) (by rw [e2]; exact d2)
theorem turned_tag {ai ap : Option Addr} {n c m d : Nat} (hf : Fresh w base (.slice ai n c) (.slice ap m d) (fun j x => Same (xs.getD j dIn) x) xs' ys) (hl : xs'.length = xs.length) (hr : rTx t xs ys = true) (v : Int) (hv : 0 ≤ v ∧ v ≤ 1099511627776) (hne : t ≠ v) (d1 : t - v < 99991) (d2 : v - t < 99991) :
    Turned w base t xs ys v ai xs' ap ys := by
  have hs : ∀ j, j < xs'.length → Same (xs.getD j dIn) (xs'.getD j dIn) := fun j hj => (hf.ok j hj).2.1
  obtain ⟨hr', hid⟩ := same_tx hl hs hr
  refine ⟨hf.reads', hl, rfl, rTx_setTag hr' hv, ?_⟩
  rw [← hid]
  exact id_tag t v xs' ys hne d1 d2
end

end Go.Proofs.Ytffgpepngcnjeaa
