import Derived.Test.YtffgpepngcnjeaaRefE
import Derived.Laws.CopyOwn
namespace Go.Proofs.Ytffgpepngcnjeaa
open Go.RowKit

theorem made_at (n j : Nat) (h : j < n) : (madeCells #[Value.int .i64 0] n)[j]? = some (.int .i64 0) := by
  simp only [madeCells, Array.getElem?_map]
  rw [Array.getElem?_eq_getElem (by simpa using h)]
  simp [Nat.mod_one]

theorem row_spliced {w : World} {g n : Nat} {l : List Int} {t : TypeId} (hn : l.length = n)
    (h : w.heap[g]? = some (.cells (splice (madeCells #[Value.int .i64 0] (n + 1)).toList 0 (l.map (Value.int .i64))).toArray t)) : Row w g 0 (l ++ [0]) ∧ Free w g 0 (n + 1) := by
  constructor
  · intro j hj
    rw [List.length_append] at hj
    simp only [World.cell?, h, Nat.zero_add, splice, List.take_zero, List.nil_append, List.length_map, hn]
    simp only [List.getElem?_toArray, List.getD]
    by_cases hlt : j < n
    · simp only [List.getElem?_append_left (show j < (l.map (Value.int .i64)).length by rw [List.length_map]; omega), List.getElem?_append_left (show j < l.length by omega)]
      simp [hn, hlt]
    · have e : j = n := by simp at hj; omega
      subst e
      rw [List.getElem?_append_right (by rw [List.length_map]; omega), List.getElem?_append_right (by omega)]
      rw [List.length_map, hn, Nat.sub_self, List.getElem?_drop, Nat.add_zero, Array.getElem?_toList, made_at _ _ (by omega)]
      simp
  · intro j hj
    simp [World.frozen?, h]

theorem sizeInfo3 : Option.map (fun x : TypeInfo => x.size) (Try.prog.info? 3) = some 1 := by kernel_rfl

theorem make_ints (n : Nat) (hn : n ≤ 17592186044416) : ∀ u : World, (Instr.makeSlice 30 (.int .i64 ((n : Int) + 1)) (.int .i64 ((n : Int) + 1))).run Try.prog u =
    .ok (.slice (some ⟨u.heap.size, 0, none⟩) (n + 1) (n + 1)) (u.alloc (.cells (madeCells #[.int .i64 0] (n + 1)) 3)) := fun u => by
  obtain ⟨i0, hi, hz0, hz1, hz2⟩ := info_parts info3
  have h := run_make (P := Try.prog) u 30 3 i0 (.int .i64 0) Try.underlying30 hi hz0 .i64 .i64 ((n : Int) + 1) ((n : Int) + 1) (by omega) (Int.le_refl _) (by rw [hz2]; omega) (by omega)
  have e : ((n : Int) + 1).toNat = n + 1 := by omega
  rw [e] at h
  simpa [hz1, Value.cells] using h

theorem copy_src {w W : World} {ao : Option Addr} {l : List Int} (h : IntsAt w ao l) (hW : Below w.heap.size w W) (g : Nat) : 0 < (l.map (Value.int .i64)).length →
    some (⟨g, 0, none⟩ : Addr) = some ⟨g, 0, none⟩ ∧ ∃ ad, ao = some ad ∧ ∀ (j : Nat) (v : Value), (l.map (Value.int .i64))[j]? = some v → W.cell? (ad.add j) = some v := by
  intro hp
  refine ⟨rfl, ?_⟩
  rcases h with rfl | ⟨b, off, rfl, hr⟩
  · simp at hp
  · refine ⟨_, rfl, ?_⟩
    intro j v hj
    have hlt : j < l.length := by
      apply Classical.byContradiction
      intro hc
      rw [List.getElem?_eq_none (by rw [List.length_map]; omega)] at hj
      cases hj
    have := (hr.grown hW) j hlt
    rw [List.getElem?_map, List.getElem?_eq_getElem hlt] at hj
    simp at hj
    rw [← hj]
    rw [Go.WideShapes.add_plain]
    simpa [List.getD, hlt] using this
theorem ints_one (l : List Int) : ∀ v ∈ l.map (Value.int .i64), v.oneCell' = true := by
  intro v hv
  obtain ⟨x, _, rfl⟩ := List.mem_map.1 hv
  rfl

theorem row_last {w : World} {g n : Nat} {l : List Int} (hn : l.length = n) (h : Row w g 0 (l ++ [0])) : Row (w.setCell ⟨g, n, none⟩ (.int .i64 (-5))) g 0 (l ++ [-5]) := by
  have := h.set (k := n) (by simp; omega) (-5)
  rw [Nat.zero_add] at this
  have e : (l ++ [0]).set n (-5) = l ++ [-5] := by
    subst hn
    simp
  rw [e] at this
  exact this

theorem heap_made (w : World) (a : Array Value) (t : TypeId) : (w.alloc (.cells a t)).heap[w.heap.size]? = some (.cells a.toList.toArray t) := by
  show (w.heap.push _)[w.heap.size]? = _
  rw [Array.getElem?_push_size]
theorem len_made (l : List Int) (n : Nat) (h : l.length = n) : (l.map (Value.int .i64)).length = n.min (n + 1) := by
  rw [List.length_map, h]
  exact (Nat.min_eq_left (by omega)).symm
theorem room_made (l : List Int) (n : Nat) (h : l.length = n) : 0 + (l.map (Value.int .i64)).length ≤ (madeCells #[Value.int .i64 0] (n + 1)).toList.length := by
  rw [List.length_map, h, Array.length_toList, size_madeCells]
  omega

theorem row_made (w : World) (n : Nat) : Row (w.alloc (.cells (madeCells #[Value.int .i64 0] (n + 1)) 3)) w.heap.size 0 ([] ++ [0]) ∧ Free (w.alloc (.cells (madeCells #[Value.int .i64 0] (n + 1)) 3)) w.heap.size 0 (n + 1) := by
  constructor
  · intro j hj
    have e : j = 0 := by simp at hj; omega
    subst e
    rw [World.cell?_alloc_new]
    simp [made_at]
  · intro j _
    exact World.frozen?_alloc_at _ _ _ _ rfl

/-- what copy does to the list that was made for the numbers and one more -/
theorem copy_made (ao : Option Addr) (n c : Nat) (l : List Int) (w : World) (hr : IntsAt w ao l) (hn : l.length = n) (h0 : ao = none → c = 0) :
    ∃ w1, Sem.run Try.prog (Builtin.copy_ #[30, 30] 3 #[.slice (some ⟨w.heap.size, 0, none⟩) (n + 1) (n + 1), .slice ao n c]) (w.alloc (.cells (madeCells #[.int .i64 0] (n + 1)) 3)) = .ok (.int .i64 n) w1 ∧
      Row w1 w.heap.size 0 (l ++ [0]) ∧ Free w1 w.heap.size 0 (n + 1) ∧ Below w.heap.size w w1 := by
  cases ao with
  | none =>
    have hl : l = [] := by
      rcases hr with h | ⟨b, off, h, _⟩
      · exact h
      · cases h
    subst hl
    have e : n = 0 := by rw [← hn]; rfl
    subst e
    rw [h0 rfl]
    have hm := row_made w 0
    exact ⟨_, run_copy_nil Try.prog _ 30 30 3 3 _ _ _ Try.underlying30 (by rw [sizeInfo3]; rfl), hm.1, hm.2, (Below.refl _ _).alloc (Nat.le_refl _) _⟩
  | some a =>
    have hcs := copy_src (W := w.alloc (.cells (madeCells #[.int .i64 0] (n + 1)) 3)) hr ((Below.refl _ _).alloc (Nat.le_refl _) _) w.heap.size
    have hsrc : ∀ (j : Nat) (v : Value), (l.map (Value.int .i64))[j]? = some v → (w.alloc (.cells (madeCells #[.int .i64 0] (n + 1)) 3)).cell? (a.add j) = some v := by
      intro j v hj
      by_cases hp : 0 < (l.map (Value.int .i64)).length
      · obtain ⟨_, ad, e, h⟩ := hcs hp
        cases e
        exact h j v hj
      · have : l.map (Value.int .i64) = [] := List.length_eq_zero_iff.1 (by omega)
        rw [this] at hj
        simp at hj
    have hheap := heap_made w (madeCells #[Value.int .i64 0] (n + 1)) 3
    have hrun := run_copy_row Try.prog (w.alloc (.cells (madeCells #[.int .i64 0] (n + 1)) 3)) 30 30 3 3 w.heap.size 0 (n + 1) (n + 1) a n c (madeCells #[Value.int .i64 0] (n + 1)) 3 (l.map (Value.int .i64)) Try.underlying30 sizeInfo3 hheap (len_made l n hn) hsrc (by have := room_made l n hn; rwa [Array.length_toList] at this) (ints_one l)
    have hh := setRow_heap (w.alloc (.cells (madeCells #[.int .i64 0] (n + 1)) 3)) w.heap.size (madeCells #[Value.int .i64 0] (n + 1)) (splice (madeCells #[Value.int .i64 0] (n + 1)).toList 0 (l.map (Value.int .i64))).toArray 3 (0, 0) hheap
    have hrf := row_spliced hn hh
    refine ⟨_, ?_, hrf.1, hrf.2, below_setRow ((Below.refl _ _).alloc (Nat.le_refl _) _) (Nat.le_refl _) _⟩
    rw [hrun, List.length_map, hn]
    simp [splice, goInt]
    rw [hn]

set_option maxRecDepth 100000 in
set_option maxHeartbeats 400000 in
theorem handedInts_any (ao : Option Addr) (n c : Nat) (l : List Int) (w : World) (hr : IntsAt w ao l) (hn : l.length = n) (hm : n ≤ 17592186044416) (h0 : ao = none → c = 0) :
    Calls Try.prog 21 #[.slice ao n c] w fun e w' => ∃ B, e = .returned (.slice (some ⟨B, 0, none⟩) n (n + 1)) ∧ Row w' B 0 (l ++ [-5]) ∧ w.heap.size ≤ B ∧ Below w.heap.size w w' := by
  have hmk := make_ints n hm
  obtain ⟨w1, hrun, hrow, hfree, hb1⟩ := copy_made ao n c l w hr hn h0
  have hc1 := hrow n (by simp [hn])
  have hf1 := hfree n (by omega)
  rw [Nat.zero_add] at hc1 hf1
  generalize (l ++ [0]).getD n 0 = y at hc1
  have HN : Hid (l.length = n) := hn
  have HR : Hid _ := hrow
  clear hrow hfree hn hr h0
  go_enter Try.func21, Try.ntmps21
  go_wp2
  go_ret
  exact ⟨_, rfl, row_last HN.out HR.out, Nat.le_refl _, hb1.setCell (Nat.le_refl _) _⟩

theorem Row.head {w : World} {b off : Nat} {l : List Int} {y : Int} (h : Row w b off (l ++ [y])) : Row w b off l := by
  intro j hj
  rw [h j (by rw [List.length_append]; omega)]
  simp only [List.getD]
  rw [List.getElem?_append_left hj]
theorem Row.last {w : World} {b n : Nat} {l : List Int} {y : Int} (h : Row w b 0 (l ++ [y])) (hn : l.length = n) : w.cell? ⟨b, n, none⟩ = some (.int .i64 y) := by
  have := h n (by simp [hn])
  rw [Nat.zero_add] at this
  rw [this]
  subst hn
  simp [List.getD]

set_option maxRecDepth 100000 in
set_option maxHeartbeats 400000 in
theorem stillInts_any (B : Nat) (ao : Option Addr) (n c : Nat) (l : List Int) (w : World) (ho : Row w B 0 (l ++ [-5])) (hr : IntsAt w ao l) (hn : l.length = n) (hm : n ≤ 17592186044416) :
    Calls Try.prog 24 #[.slice (some ⟨B, 0, none⟩) n (n + 1), .slice ao n c] w fun e w' => e = .returned (.bool true) ∧ Below w.heap.size w w' := by
  have HN : Hid (l.length = n) := hn
  have HO : Hid (Row w B 0 (l ++ [-5])) := ho
  clear hn ho
  go_enter Try.func24, Try.ntmps24
  go_wp2_with fail
  refine (sameInts_any _ _ _ _ _ l _ (Or.inr ⟨_, _, rfl, HO.out.head⟩) hr HN.out (by omega)).mono ?_
  rintro e w1 ⟨rfl, hb1⟩
  have hl := (HO.out.grown hb1).last HN.out
  go_wp2
  go_ret
  exact ⟨rfl, hb1⟩

end Go.Proofs.Ytffgpepngcnjeaa
