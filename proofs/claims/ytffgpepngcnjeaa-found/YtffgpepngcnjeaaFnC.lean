/-
  Found: the indices, and a list without one of its numbers.
-/
import Derived.Test.YtffgpepngcnjeaaFnB
namespace Go.Proofs.Ytffgpepngcnjeaa
open Go.RowKit

/-- keys each at most a gap further on than one ahead of it -/
structure Chain (g : Nat) (A : List Nat) : Prop where
  lt : ∀ i ∈ A, i < 100
  step : ∀ j, j < A.length → A.getD j 0 < g ∨ ∃ i, i < j ∧ A.getD j 0 ≤ A.getD i 0 + g
theorem Chain.nil (g : Nat) : Chain g [] := ⟨fun i hi => (by cases hi), fun j hj => (by cases hj)⟩
theorem get_left {α : Type} (l r : List α) (d : α) (i : Nat) (h : i < l.length) : (l ++ r).getD i d = l.getD i d := by
  simp only [List.getD]
  rw [List.getElem?_append_left h]
theorem get_last {α : Type} (l : List α) (x d : α) : (l ++ [x]).getD l.length d = x := by
  simp [List.getD]
theorem Chain.snoc {g : Nat} {A : List Nat} (h : Chain g A) (x : Nat) (hx : x < 100) (hs : x < g ∨ ∃ i, i < A.length ∧ x ≤ A.getD i 0 + g) : Chain g (A ++ [x]) := by
  refine ⟨fun i hi => ?_, fun j hj => ?_⟩
  · rcases List.mem_append.1 hi with hi | hi
    · exact h.lt i hi
    · rw [List.mem_singleton.1 hi]; exact hx
  · rw [List.length_append, List.length_singleton] at hj
    by_cases e : j < A.length
    · rw [get_left _ _ _ _ e]
      rcases h.step j e with h1 | ⟨i, h1, h2⟩
      · exact Or.inl h1
      · exact Or.inr ⟨i, h1, by rw [get_left _ _ _ _ (by omega)]; exact h2⟩
    · have e : j = A.length := by omega
      subst e
      rw [get_last]
      rcases hs with h1 | ⟨i, h1, h2⟩
      · exact Or.inl h1
      · exact Or.inr ⟨i, h1, by rw [get_left _ _ _ _ h1]; exact h2⟩
/-- a window that is as wide as what is paid in it wants comes to all of them -/
theorem Chain.all {g V : Nat} {A : List Nat} (h : Chain g A) (hV : g ≤ V) (hA : ∀ i ∈ A, i < V → min 100 (i + 1 + g) ≤ V) : ∀ i ∈ A, i < V := by
  have key : ∀ n j, j < n → j < A.length → A.getD j 0 < V := by
    intro n
    induction n with
    | zero => intro j hj; omega
    | succ n ih =>
      intro j hj hl
      have hlt := h.lt _ (getD_mem A 0 j hl)
      rcases h.step j hl with h1 | ⟨i, h1, h2⟩
      · omega
      · have h3 := ih i (by omega) (by omega)
        have h4 := hA _ (getD_mem A 0 i (by omega)) h3
        omega
  intro i hi
  obtain ⟨j, hj, rfl⟩ := mem_getD 0 hi
  exact key (j + 1) j (by omega) hj

theorem OwnRec.gbB {w : World} {B : Nat} {v : Value} {l : List Int} (h : OwnRec iV 3 1 w B v l) {w' w'' : World} (hb : Below B w' w) (hg : w.grownBy w'' v.ownBlock) (hB : B ≤ w.heap.size) : Below B w' w'' :=
  hb.trans (Below.grown (Below.refl _ _) hg hB (fun k hk => (h.blk k hk).1))

set_option maxRecDepth 100000 in
set_option maxHeartbeats 2000000 in
theorem indices_any (ao : Option Addr) (n c : Nat) (js : List Int) (g : Nat) (w : World) (hx : RecAt iV w ao js) (hn : js.length = n) (hr : ∀ y ∈ js, -9223372036854775808 ≤ y ∧ y ≤ 9223372036854775807) (hg : 1 ≤ g) (hg2 : g ≤ 20) :
    Calls Try.prog 44 #[.slice ao n c, .int .i64 (g : Int)] w fun e w' => ∃ v A, e = .returned v ∧ OwnRec iV 3 1 w' w.heap.size v (ints A) ∧ Chain g A ∧ A ≠ [] ∧ A.length ≤ 24 ∧ Below w.heap.size w w' := by
  have HN : Hid (js.length = n) := hn
  have HX : Hid (RecAt iV w ao js) := hx
  have HR : Hid (∀ y ∈ js, -9223372036854775808 ≤ y ∧ y ≤ 9223372036854775807) := hr
  clear hn hx hr
  generalize hB : w.heap.size = B
  have HB : Hid (w.heap.size = B) := hB
  clear hB
  go_enter Try.func44, Try.ntmps44
  go_wp2
  go_loopw [5, 6, 7] (fun v a i wr => ∃ (k : Nat) (A : List Nat) (t : Int), k ≤ n ∧ k ≤ 24 ∧ i = .int .i64 k ∧ a = .int .i64 t ∧ OwnRec iV 3 1 wr B v (ints A) ∧ Hid (A.length = k) ∧ Hid (Chain g A) ∧ -1 ≤ t ∧ t < 100 ∧ Hid (t = -1 ∨ ∃ i, i < A.length ∧ t = ((A.getD i 0 : Nat) : Int)) ∧ Below B w wr) (fun _ _ i _ => 24 - (intOf i).toNat)
  case atStart => exact ⟨0, [], -1, Nat.zero_le _, Nat.zero_le _, rfl, rfl, OwnRec.nil _ _ _ _ _, rfl, Chain.nil g, by omega, by omega, Or.inl rfl, Below.refl _ _⟩
  case round =>
    obtain ⟨k, A, t, hk, hk2, rfl, rfl, hown, hAl, hch, ht, ht2, hlast, hbl⟩ := hrel
    have hsz := hbl.size
    rw [HB.out] at hsz
    obtain ⟨ao2, c2, e2, _⟩ := OwnRec.at iv1 hown
    rw [ints_len, hAl.out] at e2
    subst e2
    have HO : Hid (OwnRec iV 3 1 wr B (.slice ao2 k c2) (ints A)) := hown
    clear hown
    by_cases h1 : k < n
    · by_cases h2 : k < 24
      · rcases HX.out with hnil | ⟨gg, off, rfl, hrow⟩
        · have := HN.out; rw [hnil] at this; simp at this; omega
        have c0 := iCell (hrow.grown (by rw [HB.out]; exact hbl)) k (by rw [HN.out]; exact h1)
        have hyr := HR.out (js.getD k 0) (getD_mem js 0 k (by rw [HN.out]; exact h1))
        clear hrow
        generalize js.getD k 0 = y at c0 hyr
        have hpk := Mk.pk_bd y (g : Int) (by omega)
        have hw1 : IntKind.i64.wrap (t + 1) = t + 1 := IntWalk.i64_in _ ⟨by omega, by omega⟩
        have hw2 : IntKind.i64.wrap (t + 1 + Mk.pk y (g : Int)) = t + 1 + Mk.pk y (g : Int) := IntWalk.i64_in _ ⟨by omega, by omega⟩
        have hge : (1 : Int) ≤ (g : Int) := by omega
        have hge2 : (g : Int) ≤ 9223372036854775807 := by omega
        by_cases h3 : 100 ≤ t + 1 + Mk.pk y (g : Int)
        · have hk0 : 0 < k := by
            rcases hlast.out with e | ⟨i, hi, _⟩
            · omega
            · rw [hAl.out] at hi; omega
          have hk00 : ((k : Int) == 0) = false := by rw [beq_eq_false_iff_ne]; omega
          go_wp2_with (go_at_call 27; refine (pick_any y (g : Int) _ hge hge2 hyr.1 hyr.2).mono ?_; rintro e w' ⟨rfl, rfl⟩)
          go_ret
          exact ⟨_, A, rfl, HO.out, hch.out, fun e => (by rw [e] at hAl; have := hAl.out; simp at this; omega), by rw [hAl.out]; omega, hbl⟩
        · have hnew : Hid (Chain g (A ++ [(t + 1 + Mk.pk y (g : Int)).toNat])) := hch.out.snoc _ (by omega) (by
            rcases hlast.out with e | ⟨i, hi, e⟩
            · left; omega
            · right; exact ⟨i, hi, by omega⟩)
          have hTn : ((t + 1 + Mk.pk y (g : Int)).toNat : Int) = t + 1 + Mk.pk y (g : Int) := by omega
          have hT0 : 0 ≤ t + 1 + Mk.pk y (g : Int) := by omega
          have hd3 : decide (100 ≤ t + 1 + Mk.pk y (g : Int)) = false := by rw [decide_eq_false_iff_not]; exact h3
          have HLL : Hid ((ints A).length ≤ 24) := by show _ ≤ _; rw [ints_len, hAl.out]; omega
          have HEQ : Hid ((ints A).length = k) := by show _ = _; rw [ints_len, hAl.out]
          go_wp2_with (first | (go_at_call 27; refine (pick_any y (g : Int) _ hge hge2 hyr.1 hyr.2).mono ?_; rintro e w' ⟨rfl, rfl⟩) | (at_builtin; refine wpList_appR 30 8 _ Try.underlying30 info3 rfl (by decide) iv1 iv_one (wr.alloc (.cells #[.int .i64 (t + 1 + Mk.pk y (g : Int))] 3)) rfl _ _ rfl B wr.heap.size 1 (.slice ao2 k c2) (ints A) (t + 1 + Mk.pk y (g : Int)) (by rfl) (by rfl) (HO.out.alloc _) (vrow_new _ _ _) (by simp; omega) (by have := HLL.out; unfold maxLen; omega) (by have := HLL.out; omega) ?_; intro gb capb w8 hown8 hg8 hl8 hlt8))
          go_roundw
          case rel => exact ⟨k + 1, A ++ [(t + 1 + Mk.pk y (g : Int)).toNat], t + 1 + Mk.pk y (g : Int), by omega, by omega, by go_num, rfl, by rw [ints_app, hTn]; exact hown8, by show _ = _; rw [List.length_append, hAl.out]; rfl, hnew.out, by omega, by omega, Or.inr ⟨A.length, by simp, by rw [get_last]; omega⟩, (HO.out.alloc _).gbB (hbl.alloc hsz _) hg8 (by simp; omega)⟩
          case measure => simp [intOf]; omega
      · have hk00 : ((k : Int) == 0) = false := by rw [beq_eq_false_iff_ne]; omega
        go_wp2
        go_ret
        exact ⟨_, A, rfl, HO.out, hch.out, fun e => (by rw [e] at hAl; have := hAl.out; simp at this; omega), by rw [hAl.out]; omega, hbl⟩
    · by_cases hk0 : k = 0
      · have hA : A = [] := List.length_eq_zero_iff.1 (by rw [hAl.out]; exact hk0)
        subst hA
        subst hk0
        go_wp2_with (at_builtin; refine wpList_appR 30 8 _ Try.underlying30 info3 rfl (by decide) iv1 iv_one (wr.alloc (.cells #[.int .i64 0] 3)) rfl _ _ rfl B wr.heap.size 1 (.slice ao2 0 c2) (ints []) 0 (by rfl) (by rfl) (HO.out.alloc _) (vrow_new _ _ _) (by simp; omega) (by unfold maxLen; simp [ints]) (by simp [ints]) ?_; intro gb capb w8 hown8 hg8 hl8 hlt8)
        go_ret
        exact ⟨_, [0], rfl, hown8, (Chain.nil g).snoc 0 (by omega) (Or.inl (by omega)), by simp, by simp, (HO.out.alloc _).gbB (hbl.alloc hsz _) hg8 (by simp; omega)⟩
      · have hk00 : ((k : Int) == 0) = false := by rw [beq_eq_false_iff_ne]; omega
        go_wp2
        go_ret
        exact ⟨_, A, rfl, HO.out, hch.out, fun e => (by rw [e] at hAl; have := hAl.out; simp at this; omega), by rw [hAl.out]; omega, hbl⟩

set_option maxRecDepth 100000 in
set_option maxHeartbeats 2000000 in
theorem without_any (ao : Option Addr) (n c : Nat) (A : List Nat) (i : Nat) (w : World) (hx : RecAt iV w ao (ints A)) (hn : A.length = n) (hm : n ≤ 1000000) (hi : i < n) :
    Calls Try.prog 47 #[.slice ao n c, .int .i64 (i : Int)] w fun e w' => ∃ v A', e = .returned v ∧ OwnRec iV 3 1 w' w.heap.size v (ints A') ∧ A'.length + 1 = n ∧ (∀ x ∈ A', x ∈ A) ∧ (∀ x ∈ A, x ∈ A' ∨ x = A.getD i 0) ∧ Below w.heap.size w w' := by
  have HN : Hid (A.length = n) := hn
  have HX : Hid (RecAt iV w ao (ints A)) := hx
  clear hn hx
  generalize hB : w.heap.size = B
  have HB : Hid (w.heap.size = B) := hB
  clear hB
  go_enter Try.func47, Try.ntmps47
  go_wp2
  go_loopw [5, 6] (fun v q wr => ∃ (k : Nat) (A' : List Nat), k ≤ n ∧ q = .int .i64 k ∧ OwnRec iV 3 1 wr B v (ints A') ∧ Hid (A'.length = if i < k then k - 1 else k) ∧ Hid (∀ x ∈ A', x ∈ A) ∧ Hid (∀ j, j < k → A.getD j 0 ∈ A' ∨ j = i) ∧ Below B w wr) (fun _ q _ => n - (intOf q).toNat)
  case atStart => exact ⟨0, [], Nat.zero_le _, rfl, OwnRec.nil _ _ _ _ _, by show _ = _; simp, fun x hx => (by cases hx), fun j hj => (by omega), Below.refl _ _⟩
  case round =>
    obtain ⟨k, A', hk, rfl, hown, hl, hs1, hs2, hbl⟩ := hrel
    have hsz := hbl.size
    rw [HB.out] at hsz
    have HO : Hid (OwnRec iV 3 1 wr B u5 (ints A')) := hown
    clear hown
    by_cases hlt : k < n
    · by_cases hki : k = i
      · have hd : ((k : Int) != (i : Int)) = false := by simp [hki]
        go_wp2
        go_roundw
        case rel => exact ⟨k + 1, A', by omega, by go_num, HO.out, by show _ = _; rw [hl.out, if_neg (by omega), if_pos (by omega)]; omega, hs1.out, fun j hj => by
          by_cases e : j = i
          · exact Or.inr e
          · exact hs2.out j (by omega), hbl⟩
        case measure => simp [intOf]; omega
      · have hd : ((k : Int) != (i : Int)) = true := by simp; omega
        rcases HX.out with hnil | ⟨gg, off, rfl, hrow⟩
        · have := HN.out; rw [← ints_len, hnil] at this; simp at this; omega
        have c0 := iCell (hrow.grown (by rw [HB.out]; exact hbl)) k (by rw [ints_len, HN.out]; exact hlt)
        rw [ints_get A k (by rw [HN.out]; exact hlt)] at c0
        have HY : Hid (A.getD k 0 ∈ A) := getD_mem A 0 k (by rw [HN.out]; exact hlt)
        clear hrow
        generalize hy : A.getD k 0 = y at c0 HY
        have HYE : Hid (A.getD k 0 = y) := hy
        clear hy
        have HLL : Hid ((ints A').length ≤ 1000000) := by show _ ≤ _; rw [ints_len, hl.out]; split <;> omega
        go_wp2_with (at_builtin; refine wpList_appR 30 8 _ Try.underlying30 info3 rfl (by decide) iv1 iv_one (wr.alloc (.cells #[.int .i64 (y : Int)] 3)) rfl _ _ rfl B wr.heap.size 1 u5 (ints A') (y : Int) (by rfl) (by rfl) (HO.out.alloc _) (vrow_new _ _ _) (by simp; omega) (by have := HLL.out; unfold maxLen; omega) (by have := HLL.out; omega) ?_; intro gb capb w8 hown8 hg8 hl8 hlt8)
        go_roundw
        case rel => exact ⟨k + 1, A' ++ [y], by omega, by go_num, by rw [ints_app]; exact hown8, by show _ = _; rw [List.length_append, hl.out, List.length_singleton]; split <;> split <;> omega, fun x hx => by
          rcases List.mem_append.1 hx with hx | hx
          · exact hs1.out x hx
          · rw [List.mem_singleton.1 hx]; exact HY.out, fun j hj => by
          by_cases e : j = k
          · subst e
            exact Or.inl (List.mem_append.2 (Or.inr (by rw [HYE.out]; simp)))
          · exact (hs2.out j (by omega)).imp (fun h => List.mem_append.2 (Or.inl h)) id, (HO.out.alloc _).gbB (hbl.alloc hsz _) hg8 (by simp; omega)⟩
        case measure => simp [intOf]; omega
    · go_wp2
      go_ret
      refine ⟨u5, A', rfl, HO.out, by have := hl.out; rw [if_pos (by omega)] at this; omega, hs1.out, fun x hx => ?_, hbl⟩
      obtain ⟨j, hj, rfl⟩ := mem_getD 0 hx
      rw [HN.out] at hj
      exact (hs2.out j (by omega)).imp id (fun e => by rw [e])

end Go.Proofs.Ytffgpepngcnjeaa
