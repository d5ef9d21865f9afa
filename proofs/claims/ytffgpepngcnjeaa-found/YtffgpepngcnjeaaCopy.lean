/-
  copy of elements of several cells into a row that is known whole.
-/
import Derived.Test.YtffgpepngcnjeaaTxD
import Derived.Deep.QuietTactic
import Derived.BigQuiet
import Derived.WalkSmall
namespace Go.Proofs.Ytffgpepngcnjeaa
open Go.RowKit

theorem run_copy_wide (P : Program) (w : World) (dT sT ty elem : TypeId) (g o dLen dCap : Nat) (a : Addr) (sLen sCap : Nat) (cur : Array Value) (t : TypeId) (cs : List Value) (sz : Nat)
    (hu : P.underlying dT = some (.slice elem)) (hs : (P.info? elem).map (·.size) = some sz)
    (hg : w.heap[g]? = some (.cells cur t (0, 0))) (hn : cs.length = Nat.min sLen dLen * sz)
    (hsrc : ∀ j v, cs[j]? = some v → w.cell? (a.add j) = some v) (hfit : o + cs.length ≤ cur.size) (h1 : ∀ v ∈ cs, v.oneCell' = true) :
    (Builtin.copy_ #[dT, sT] ty #[.slice (some ⟨g, o, none⟩) dLen dCap, .slice (some a) sLen sCap]).run P w =
      .ok (goInt (Nat.min sLen dLen : Nat)) (w.setRow g (cur.toList.take o ++ cs ++ cur.toList.drop (o + cs.length)).toArray) := by
  have hl := run_loadCells_list (P := P) w a cs hsrc
  have hst := run_storeCells_at P g o t cs 0 cur w hg (by simpa using hfit) h1
  cases hq : P.info? elem with
  | none => simp [hq] at hs
  | some i =>
    have hi : i.size = sz := by simpa [hq] using hs
    have hn' : min sLen dLen * sz = cs.length := hn.symm
    simp [Builtin.copy_, run_underlying hu, Builtin.lenOf, Builtin.firstCells, sizeOf, typeInfo, hq, hi, hn', hl, hst]

theorem info111 : (Try.prog.info? 111).map (fun i => (i.zero, i.size, i.bytes)) = some (some (.agg #[.int .i64 0, .int .i64 0]), 2, 16) := by kernel_rfl
theorem sizeInfo56 : Option.map (fun x : TypeInfo => x.size) (Try.prog.info? 111) = some 2 := by kernel_rfl

theorem outL_get (ys : List (Int × Int)) : ∀ j, j < ys.length → (outL ys).getD (j * 2) 0 = (ys.getD j (0, 0)).1 ∧ (outL ys).getD (j * 2 + 1) 0 = (ys.getD j (0, 0)).2 := by
  induction ys with
  | nil => intro j hj; simp at hj
  | cons y r ih =>
    intro j hj
    cases j with
    | zero => exact ⟨rfl, rfl⟩
    | succ j =>
      have := ih j (by simpa using hj)
      have e1 : (j + 1) * 2 = j * 2 + 2 := by omega
      rw [e1]
      exact this
theorem outs_of_row {w : World} {b off : Nat} {ys : List (Int × Int)} (h : Row w b off (outL ys)) : OutsRow w b off ys := by
  intro j hj
  have hl := outL_len ys
  have g := outL_get ys j hj
  refine ⟨?_, ?_⟩
  · rw [← g.1]; exact h (j * 2) (by omega)
  · rw [← g.2, Nat.add_assoc]; exact h (j * 2 + 1) (by omega)
theorem row_of_outs {w : World} {b off : Nat} {ys : List (Int × Int)} (h : OutsRow w b off ys) : Row w b off (outL ys) := by
  intro j hj
  have hl := outL_len ys
  have hj2 : j / 2 < ys.length := by omega
  have g := outL_get ys (j / 2) hj2
  have c := h (j / 2) hj2
  by_cases e : j % 2 = 0
  · have ej : j / 2 * 2 = j := by omega
    rw [ej] at g c
    rw [g.1]
    exact c.1
  · have ej : j / 2 * 2 + 1 = j := by omega
    rw [ej] at g
    have c2 := c.2
    rw [Nat.add_assoc, ej] at c2
    rw [g.2]
    exact c2

theorem made2_at (n j : Nat) (h : j < n) : (madeCells #[Value.int .i64 0, Value.int .i64 0] n)[j]? = some (.int .i64 0) := by
  simp only [madeCells, Array.getElem?_map]
  rw [Array.getElem?_eq_getElem (by simpa using h)]
  have h2 : j % 2 = 0 ∨ j % 2 = 1 := by omega
  rcases h2 with h2 | h2 <;> simp [h2]

theorem row_spliced2 {w : World} {g n : Nat} {l : List Int} {t : TypeId} (hn : l.length = n * 2)
    (h : w.heap[g]? = some (.cells (splice (madeCells #[Value.int .i64 0, Value.int .i64 0] ((n + 1) * 2)).toList 0 (l.map (Value.int .i64))).toArray t)) : Row w g 0 (l ++ [0, 0]) ∧ Free w g 0 ((n + 1) * 2) := by
  constructor
  · intro j hj
    rw [List.length_append] at hj
    simp only [World.cell?, h, Nat.zero_add, splice, List.take_zero, List.nil_append, List.length_map, hn]
    simp only [List.getElem?_toArray, List.getD]
    by_cases hlt : j < n * 2
    · simp only [List.getElem?_append_left (show j < (l.map (Value.int .i64)).length by rw [List.length_map]; omega), List.getElem?_append_left (show j < l.length by omega)]
      simp [hn, hlt]
    · have e : j = n * 2 ∨ j = n * 2 + 1 := by simp at hj; omega
      rw [List.getElem?_append_right (by rw [List.length_map]; omega), List.getElem?_append_right (by omega)]
      rw [List.length_map, hn, List.getElem?_drop, Array.getElem?_toList, made2_at _ _ (by omega)]
      rcases e with e | e
      · subst e; simp
      · subst e; simp
  · intro j hj
    simp [World.frozen?, h]

theorem make_outs (n : Nat) (hn : n ≤ 8796093022208) : ∀ u : World, (Instr.makeSlice 23 (.int .i64 ((n : Int) + 1)) (.int .i64 ((n : Int) + 1))).run Try.prog u =
    .ok (.slice (some ⟨u.heap.size, 0, none⟩) (n + 1) (n + 1)) (u.alloc (.cells (madeCells #[.int .i64 0, .int .i64 0] ((n + 1) * 2)) 111)) := fun u => by
  obtain ⟨i0, hi, hz0, hz1, hz2⟩ := info_parts info111
  have h := run_make (P := Try.prog) u 23 111 i0 (.agg #[.int .i64 0, .int .i64 0]) Try.underlying23 hi hz0 .i64 .i64 ((n : Int) + 1) ((n : Int) + 1) (by omega) (Int.le_refl _) (by rw [hz2]; omega) (by omega)
  have e : ((n : Int) + 1).toNat = n + 1 := by omega
  rw [e] at h
  simpa [hz1, Value.cells] using h

theorem len2_made (l : List Int) (n : Nat) (h : l.length = n * 2) : (l.map (Value.int .i64)).length = n.min (n + 1) * 2 := by
  rw [List.length_map, h]
  rw [show n.min (n + 1) = n from Nat.min_eq_left (by omega)]

theorem copy_outs (ao : Option Addr) (n c : Nat) (l : List Int) (w : World) (hr : IntsAt w ao l) (hn : l.length = n * 2) (h0 : ao = none → c = 0) :
    ∃ w1, Sem.run Try.prog (Builtin.copy_ #[23, 23] 3 #[.slice (some ⟨w.heap.size, 0, none⟩) (n + 1) (n + 1), .slice ao n c]) (w.alloc (.cells (madeCells #[.int .i64 0, .int .i64 0] ((n + 1) * 2)) 111)) = .ok (.int .i64 n) w1 ∧
      Row w1 w.heap.size 0 (l ++ [0, 0]) ∧ Free w1 w.heap.size 0 ((n + 1) * 2) ∧ Below w.heap.size w w1 := by
  have hheap := heap_made w (madeCells #[Value.int .i64 0, .int .i64 0] ((n + 1) * 2)) 111
  cases ao with
  | none =>
    have hl : l = [] := by
      rcases hr with h | ⟨b, off, h, _⟩
      · exact h
      · cases h
    subst hl
    have e : n = 0 := by simp at hn; omega
    subst e
    rw [h0 rfl]
    have hrf := row_spliced2 (w := w.alloc (.cells (madeCells #[.int .i64 0, .int .i64 0] ((0 + 1) * 2)) 111)) (g := w.heap.size) (n := 0) (l := []) (t := 111) rfl (by rw [hheap]; rfl)
    exact ⟨_, run_copy_nil Try.prog _ 23 23 3 111 _ _ _ Try.underlying23 (by rw [sizeInfo56]; rfl), hrf.1, hrf.2, (Below.refl _ _).alloc (Nat.le_refl _) _⟩
  | some a =>
    have hcs := copy_src (W := w.alloc (.cells (madeCells #[.int .i64 0, .int .i64 0] ((n + 1) * 2)) 111)) hr ((Below.refl _ _).alloc (Nat.le_refl _) _) w.heap.size
    have hsrc : ∀ (j : Nat) (v : Value), (l.map (Value.int .i64))[j]? = some v → (w.alloc (.cells (madeCells #[.int .i64 0, .int .i64 0] ((n + 1) * 2)) 111)).cell? (a.add j) = some v := by
      intro j v hj
      by_cases hp : 0 < (l.map (Value.int .i64)).length
      · obtain ⟨_, ad, e, h⟩ := hcs hp
        cases e
        exact h j v hj
      · have : l.map (Value.int .i64) = [] := List.length_eq_zero_iff.1 (by omega)
        rw [this] at hj
        simp at hj
    have hrun := run_copy_wide Try.prog (w.alloc (.cells (madeCells #[.int .i64 0, .int .i64 0] ((n + 1) * 2)) 111)) 23 23 3 111 w.heap.size 0 (n + 1) (n + 1) a n c (madeCells #[Value.int .i64 0, .int .i64 0] ((n + 1) * 2)) 111 (l.map (Value.int .i64)) 2 Try.underlying23 sizeInfo56 hheap (len2_made l n hn) hsrc (by rw [List.length_map, size_madeCells]; omega) (ints_one l)
    have hh := setRow_heap (w.alloc (.cells (madeCells #[.int .i64 0, .int .i64 0] ((n + 1) * 2)) 111)) w.heap.size (madeCells #[Value.int .i64 0, .int .i64 0] ((n + 1) * 2)) (splice (madeCells #[Value.int .i64 0, .int .i64 0] ((n + 1) * 2)).toList 0 (l.map (Value.int .i64))).toArray 111 (0, 0) hheap
    have hrf := row_spliced2 hn hh
    refine ⟨_, ?_, hrf.1, hrf.2, below_setRow ((Below.refl _ _).alloc (Nat.le_refl _) _) (Nat.le_refl _) _⟩
    rw [hrun, show n.min (n + 1) = n from Nat.min_eq_left (by omega)]
    simp [splice, goInt]

theorem ints_of_outs {w : World} {ao : Option Addr} {ys : List (Int × Int)} (h : OutsAt w ao ys) : IntsAt w ao (outL ys) := by
  rcases h with rfl | ⟨b, off, rfl, hr⟩
  · exact Or.inl rfl
  · exact Or.inr ⟨b, off, rfl, row_of_outs hr⟩

theorem outs_last {w : World} {g n : Nat} {ys : List (Int × Int)} (hn : ys.length = n) (h : Row w g 0 (outL ys ++ [0, 0])) :
    OutsRow ((w.setCell ⟨g, n * 2, none⟩ (.int .i64 (-5))).setCell ⟨g, n * 2 + 1, none⟩ (.int .i64 (-5))) g 0 (ys ++ [(-5, -5)]) := by
  have hl : (outL ys).length = n * 2 := by rw [outL_len, hn]; omega
  have h1 := h.set (k := n * 2) (by simp [hl]) (-5)
  have h2 := h1.set (k := n * 2 + 1) (by simp [hl]) (-5)
  rw [Nat.zero_add, Nat.zero_add] at h2
  apply outs_of_row
  have e : ((outL ys ++ [0, 0]).set (n * 2) (-5)).set (n * 2 + 1) (-5) = outL (ys ++ [(-5, -5)]) := by
    rw [← hl]
    unfold outL
    rw [List.flatMap_append]
    simp
  rw [e] at h2
  exact h2

set_option maxRecDepth 100000 in
set_option maxHeartbeats 400000 in
theorem handedOuts_any (ao : Option Addr) (n c : Nat) (ys : List (Int × Int)) (w : World) (hr : OutsAt w ao ys) (hn : ys.length = n) (hm : n ≤ 8796093022208) (h0 : ao = none → c = 0) :
    Calls Try.prog 56 #[.slice ao n c] w fun e w' => ∃ B, e = .returned (.slice (some ⟨B, 0, none⟩) n (n + 1)) ∧ OutsRow w' B 0 (ys ++ [(-5, -5)]) ∧ w.heap.size ≤ B ∧ Below w.heap.size w w' := by
  have hmk := make_outs n hm
  have hl : (outL ys).length = n * 2 := by rw [outL_len, hn]; omega
  obtain ⟨w1, hrun, hrow, hfree, hb1⟩ := copy_outs ao n c (outL ys) w (ints_of_outs hr) hl h0
  have hc1 := hrow (n * 2) (by simp [hl])
  have hf1 := hfree (n * 2) (by omega)
  have hc2 := hrow (n * 2 + 1) (by simp [hl])
  have hf2 := hfree (n * 2 + 1) (by omega)
  rw [Nat.zero_add] at hc1 hf1 hc2 hf2
  generalize (outL ys ++ [0, 0]).getD (n * 2) 0 = y1 at hc1
  generalize (outL ys ++ [0, 0]).getD (n * 2 + 1) 0 = y2 at hc2
  have HN : Hid (ys.length = n) := hn
  have HR : Hid (Row w1 w.heap.size 0 (outL ys ++ [0, 0])) := hrow
  clear hrow hfree hn hr h0 hl
  go_enter Try.func56, Try.ntmps56
  go_wp2
  go_ret
  refine ⟨_, rfl, ?_, Nat.le_refl _, ?_⟩
  · exact outs_last HN.out HR.out
  · exact (hb1.setCell (Nat.le_refl _) _).setCell (Nat.le_refl _) _

theorem OutsRow.head {w : World} {b off : Nat} {ys : List (Int × Int)} {y : Int × Int} (h : OutsRow w b off (ys ++ [y])) : OutsRow w b off ys := by
  intro j hj
  have := h j (by rw [List.length_append]; omega)
  simp only [List.getD] at this ⊢
  rw [List.getElem?_append_left hj] at this
  exact this
theorem OutsRow.last {w : World} {b n : Nat} {ys : List (Int × Int)} {y : Int × Int} (h : OutsRow w b 0 (ys ++ [y])) (hn : ys.length = n) : OutCells w b (n * 2) y := by
  have := h n (by simp [hn])
  rw [Nat.zero_add] at this
  subst hn
  simpa [List.getD] using this

set_option maxRecDepth 100000 in
set_option maxHeartbeats 400000 in
theorem sameOuts_nil (ao bo : Option Addr) (c d : Nat) (w : World) :
    Calls Try.prog 94 #[.slice ao 0 c, .slice bo 0 d] w fun e w' => e = .returned (.bool true) ∧ w = w' := by
  go_enter Try.func94, Try.ntmps94
  go_wp2
  refine wp_loop_rounds 1 ?_
  rw [rounds_succ]
  go_wp2
  go_ret
  exact ⟨rfl, rfl⟩

set_option maxRecDepth 100000 in
set_option maxHeartbeats 400000 in
theorem sameOuts_row (a1 o1 a2 o2 n c d : Nat) (ys : List (Int × Int)) (w : World) (h1 : OutsRow w a1 o1 ys) (h2 : OutsRow w a2 o2 ys) (hn : ys.length = n) (hm : n ≤ 9223372036854775807) :
    Calls Try.prog 94 #[.slice (some ⟨a1, o1, none⟩) n c, .slice (some ⟨a2, o2, none⟩) n d] w fun e w' => e = .returned (.bool true) ∧ Below w.heap.size w w' := by
  have H1 : Hid (OutsRow w a1 o1 ys) := h1
  have H2 : Hid (OutsRow w a2 o2 ys) := h2
  have HN : Hid (ys.length = n) := hn
  clear h1 h2 hn
  go_enter Try.func94, Try.ntmps94
  go_wp2
  go_loopw [5] (fun i wr => ∃ k : Nat, k ≤ n ∧ i = .int .i64 k ∧ Below w.heap.size w wr) (fun i _ => n - (intOf i).toNat)
  case atStart => exact ⟨0, Nat.zero_le _, rfl, Below.refl _ _⟩
  case round =>
    obtain ⟨k, hk, rfl, hbl⟩ := hrel
    by_cases hlt : k < n
    · obtain ⟨c1, c2⟩ := (H1.out.grown hbl) k (by rw [HN.out]; exact hlt)
      obtain ⟨c3, c4⟩ := (H2.out.grown hbl) k (by rw [HN.out]; exact hlt)
      generalize ys.getD k (0, 0) = y at c1 c2 c3 c4
      obtain ⟨ya, yv⟩ := y
      simp only at c1 c2 c3 c4
      have k1 : (k : Int) < (n : Int) := by omega
      have k0 : (0 : Int) ≤ (k : Int) := by omega
      have gd : (ya != ya) = false := by simp
      go_wp2
      go_quiet (fail)
      go_wp2
      go_roundw
      case rel => exact ⟨k + 1, by omega, by go_num, below_drewN hbl _⟩
      case measure => simp [intOf]; omega
    · go_wp2
      go_ret
      exact ⟨rfl, hbl⟩

theorem sameOuts_any (ao bo : Option Addr) (n c d : Nat) (ys : List (Int × Int)) (w : World) (h1 : OutsAt w ao ys) (h2 : OutsAt w bo ys) (hn : ys.length = n) (hm : n ≤ 9223372036854775807) :
    Calls Try.prog 94 #[.slice ao n c, .slice bo n d] w fun e w' => e = .returned (.bool true) ∧ Below w.heap.size w w' := by
  rcases h1 with rfl | ⟨a1, o1, rfl, h1⟩
  · have h0 : n = 0 := by rw [← hn]; rfl
    subst h0
    refine (sameOuts_nil ao bo c d w).mono ?_
    rintro e w' ⟨rfl, rfl⟩
    exact ⟨rfl, Below.refl _ _⟩
  · rcases h2 with rfl | ⟨a2, o2, rfl, h2⟩
    · have h0 : n = 0 := by rw [← hn]; rfl
      subst h0
      refine (sameOuts_nil _ _ c d w).mono ?_
      rintro e w' ⟨rfl, rfl⟩
      exact ⟨rfl, Below.refl _ _⟩
    · exact sameOuts_row a1 o1 a2 o2 n c d ys w h1 h2 hn hm

set_option maxRecDepth 100000 in
set_option maxHeartbeats 400000 in
theorem stillOuts_any (B : Nat) (ao : Option Addr) (n c : Nat) (ys : List (Int × Int)) (w : World) (ho : OutsRow w B 0 (ys ++ [(-5, -5)])) (hr : OutsAt w ao ys) (hn : ys.length = n) (hm : n ≤ 8796093022208) :
    Calls Try.prog 58 #[.slice (some ⟨B, 0, none⟩) n (n + 1), .slice ao n c] w fun e w' => e = .returned (.bool true) ∧ Below w.heap.size w w' := by
  have HN : Hid (ys.length = n) := hn
  have HO : Hid (OutsRow w B 0 (ys ++ [(-5, -5)])) := ho
  clear hn ho
  go_enter Try.func58, Try.ntmps58
  go_wp2_with fail
  refine (sameOuts_any _ _ _ _ _ ys _ (Or.inr ⟨_, _, rfl, HO.out.head⟩) hr HN.out (by omega)).mono ?_
  rintro e w1 ⟨rfl, hb1⟩
  obtain ⟨l1, l2⟩ := (HO.out.grown hb1).last HN.out
  simp only at l1 l2
  go_wp2
  go_ret
  exact ⟨rfl, hb1⟩

end Go.Proofs.Ytffgpepngcnjeaa
