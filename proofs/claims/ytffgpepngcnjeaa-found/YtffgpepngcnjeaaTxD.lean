import Derived.Test.YtffgpepngcnjeaaTxC
namespace Go.Proofs.Ytffgpepngcnjeaa
open Go.RowKit

theorem own2 (w : World) (base : Nat) (a b : Int) (hb : base ≤ w.heap.size) : OwnInts (w.alloc (.cells #[.int .i64 a, .int .i64 b] 3)) base (.slice (some ⟨w.heap.size, 0, none⟩) 2 2) [a, b] := by
  refine ⟨rfl, Or.inr ⟨w.heap.size, 2, #[.int .i64 a, .int .i64 b], rfl, hb, ?_, Nat.le_refl _, by unfold maxLen; omega, rfl, rfl⟩⟩
  show (w.heap.push _)[w.heap.size]? = _
  rw [Array.getElem?_push_size]
theorem inL_len (xs : List InD) : (inL xs).length = 2 * xs.length := by
  induction xs with
  | nil => rfl
  | cons x r ih => simp only [inL, List.flatMap_cons, List.length_append, List.length_cons] at ih ⊢; simp only [List.length_nil]; omega
theorem outL_len (ys : List (Int × Int)) : (outL ys).length = 2 * ys.length := by
  induction ys with
  | nil => rfl
  | cons x r ih => simp only [outL, List.flatMap_cons, List.length_append, List.length_cons] at ih ⊢; simp only [List.length_nil]; omega
theorem len1 (t : Int) (n : Nat) (xs : List InD) (k : Nat) (h : k ≤ 10) : ([t, (n : Int)] ++ inL (xs.take k)).length ≤ 22 := by
  rw [List.length_append, inL_len]
  have := List.length_take_le k xs
  simp only [List.length_cons, List.length_nil]
  omega
theorem len2 (l : List Int) (ys : List (Int × Int)) (k : Nat) (h : k ≤ 8) (hl : l.length ≤ 30) : (l ++ outL (ys.take k)).length ≤ 46 := by
  rw [List.length_append, outL_len]
  have := List.length_take_le k ys
  omega
theorem len_snoc (l : List Int) (x : Int) (n : Nat) (h : l.length ≤ n) : (l ++ [x]).length ≤ n + 1 := by simp; omega
theorem cell_move {w w2 : World} {B : Nat} (h : Below B w w2) {b o : Nat} {v : Value} (hc : w.cell? ⟨b, o, none⟩ = some v) (hb : b < B) : w2.cell? ⟨b, o, none⟩ = some v :=
  (h.cell (p := ⟨b, o, none⟩) hb).trans hc

theorem snoc1 (l : List Int) (xs : List InD) (k : Nat) (h : k < xs.length) : ((l ++ inL (xs.take k)) ++ [(xs.getD k dIn).id]) ++ [(xs.getD k dIn).pos] = l ++ inL (xs.take (k + 1)) := by
  rw [inL_snoc xs k h]
  simp
theorem snoc2 (l : List Int) (ys : List (Int × Int)) (k : Nat) (h : k < ys.length) : ((l ++ outL (ys.take k)) ++ [(ys.getD k (0, 0)).1]) ++ [(ys.getD k (0, 0)).2] = l ++ outL (ys.take (k + 1)) := by
  rw [outL_snoc ys k h]
  simp
theorem mixable_mem {l : List Int} (h : ∀ x ∈ l, 0 ≤ x ∧ x ≤ 1099511627776) : Mixable l := by
  intro j hj
  have := h _ (List.getElem_mem hj)
  simpa [List.getD, hj] using this
theorem idL_mixable {t : Int} {xs : List InD} {ys : List (Int × Int)} (h : rTx t xs ys = true) : Mixable (idL t xs ys) := by
  apply mixable_mem
  intro x hx
  simp only [rTx, rIns, rOuts, Bool.and_eq_true, decide_eq_true_iff, List.all_eq_true] at h
  obtain ⟨h1, ⟨h2, h3⟩, h4, h5⟩ := h
  simp only [idL, inL, outL, List.mem_append, List.mem_cons, List.mem_flatMap, List.not_mem_nil, or_false] at hx
  rcases hx with ((h | h) | h) | h
  · rcases h with rfl | rfl
    · exact h1
    · omega
  · obtain ⟨y, hy, rfl | rfl⟩ := h
    · have := rIn_bd (h3 y hy); omega
    · have := rIn_bd (h3 y hy); omega
  · subst h; omega
  · obtain ⟨y, hy, rfl | rfl⟩ := h
    · have := rOut_bd (h5 y hy); omega
    · have := rOut_bd (h5 y hy); omega

set_option maxRecDepth 100000 in
set_option maxHeartbeats 400000 in
theorem rId_no (t : Int) (ai : Option Addr) (n c : Nat) (ap : Option Addr) (m d : Nat) (xs : List InD) (ys : List (Int × Int)) (w : World) (hx : InsAt w ai xs) (hn : xs.length = n) (hy : OutsAt w ap ys) (hm : ys.length = m) (hr : rTx t xs ys = false) :
    Calls Try.prog 14 #[.agg #[.int .i64 t, .slice ai n c, .slice ap m d]] w fun e w' => e = .returned (.int .i64 0) ∧ Below w.heap.size w w' := by
  have HN : Hid (xs.length = n) := hn
  have HM : Hid (ys.length = m) := hm
  have HX : Hid (InsAt w ai xs) := hx
  have HY : Hid (OutsAt w ap ys) := hy
  clear hn hm hx hy
  have bl : ∀ o, Below w.heap.size w (w.alloc o) := fun o => (Below.refl _ _).alloc (Nat.le_refl _) _
  have HB : Hid _ := bl
  clear bl
  go_enter Try.func14, Try.ntmps14
  go_wp2_with fail
  refine (rRight_any _ _ _ _ _ _ _ xs ys _ (HX.out.grown (HB.out _)) HN.out (HY.out.grown (HB.out _)) HM.out).mono ?_
  rintro e w1 ⟨rfl, hb1⟩
  rw [hr]
  go_wp2
  go_ret
  exact ⟨rfl, below_blk (HB.out _) hb1⟩

set_option maxRecDepth 100000 in
set_option maxHeartbeats 2000000 in
theorem rId_yes (t : Int) (ai : Option Addr) (n c : Nat) (ap : Option Addr) (m d : Nat) (xs : List InD) (ys : List (Int × Int)) (w : World) (hx : InsAt w ai xs) (hn : xs.length = n) (hy : OutsAt w ap ys) (hm : ys.length = m) (hr : rTx t xs ys = true) :
    Calls Try.prog 14 #[.agg #[.int .i64 t, .slice ai n c, .slice ap m d]] w fun e w' => e = .returned (.int .i64 (Mk.mixL 1 (idL t xs ys))) ∧ Below w.heap.size w w' := by
  have hmix := idL_mixable hr
  obtain ⟨ht, hn10, _, hm8, _⟩ := rTx_parts hr
  rw [hn] at hn10
  rw [hm] at hm8
  have HE : Hid (idL t xs ys = (([t, (n : Int)] ++ inL xs) ++ [(m : Int)]) ++ outL ys) := by show _ = _; unfold idL; rw [hn, hm]
  have HN : Hid (xs.length = n) := hn
  have HM : Hid (ys.length = m) := hm
  have HX : Hid (InsAt w ai xs) := hx
  have HY : Hid (OutsAt w ap ys) := hy
  have HMX : Hid _ := hmix
  clear hn hm hx hy hmix
  have bl : ∀ o, Below w.heap.size w (w.alloc o) := fun o => (Below.refl _ _).alloc (Nat.le_refl _) _
  have HB : Hid _ := bl
  clear bl
  go_enter Try.func14, Try.ntmps14
  go_wp2_with fail
  refine (rRight_any _ _ _ _ _ _ _ xs ys _ (HX.out.grown (HB.out _)) HN.out (HY.out.grown (HB.out _)) HM.out).mono ?_
  rintro e w1 ⟨rfl, hb1⟩
  rw [hr]
  have hw1 := below_blk (HB.out _) hb1
  have hsz1 : w.heap.size < w1.heap.size := by have := hb1.size; rw [World.size_alloc] at this; omega
  obtain ⟨x0, x1, x2⟩ := box3 hb1
  have ho := own2 w1 w1.heap.size t (n : Int) (Nat.le_refl _)
  have HO0 : Hid _ := ho
  clear ho
  go_wp2
  go_loopw [4, 5] (fun v i wr => ∃ k : Nat, k ≤ n ∧ i = .int .i64 k ∧ OwnInts wr w1.heap.size v ([t, (n : Int)] ++ inL (xs.take k)) ∧ Below w1.heap.size w1 wr) (fun _ i _ => n - (intOf i).toNat)
  case atStart => exact ⟨0, Nat.zero_le _, rfl, HO0.out, (Below.refl _ _).alloc (Nat.le_refl _) _⟩
  case round =>
    obtain ⟨k, hk, rfl, hown, hbl⟩ := hrel
    have hsz := hbl.size
    have hw := below_blk hw1 hbl
    have y1 := cell_move hbl x1 hsz1
    have y2 := cell_move hbl x2 hsz1
    have hl1 := len1 t n xs k (by omega)
    by_cases hlt : k < n
    · rcases HX.out with hnil | ⟨b, off, rfl, hrow⟩
      · have := HN.out; rw [hnil] at this; simp at this; omega
      obtain ⟨⟨c0, c1, c2⟩, _⟩ := (hrow.grown hw1) k (by rw [HN.out]; exact hlt)
      have hblt := cell_lt c0
      have hblt' : b < w1.heap.size := hblt
      have d0 := cell_move hbl c0 hblt
      have d1 := cell_move hbl c1 hblt
      have HS : Hid _ := snoc1 [t, (n : Int)] xs k (by rw [HN.out]; exact hlt)
      clear hrow c0 c1 c2 hblt
      generalize xs.getD k dIn = y at d0 d1 HS
      obtain ⟨yid, ypos, yao, yn, yc, yl⟩ := y
      simp only at d0 d1 HS
      generalize [t, (n : Int)] ++ inL (xs.take k) = L at hown hl1 HS
      have HBB : Hid _ := hblt'
      have HSZ : Hid _ := hsz1
      clear hblt' 
      go_wp2_with (first | (at_builtin; refine wpList_app1 wr rfl (.tmp 24) (.tmp 31) rfl w1.heap.size u4 L yid ?_ ?_ hown hsz ?_ ?_; rfl; rfl; omega; intro v2 w2 hown2 hb2; have hsz2 := Nat.le_trans hsz hb2.size; have e1 := cell_move hb2 y1 HSZ.out; have e2 := cell_move hb2 d1 HBB.out) | (at_builtin; refine wpList_app1 w2 rfl (.tmp 33) (.tmp 40) rfl w1.heap.size v2 (L ++ [yid]) ypos ?_ ?_ hown2 hsz2 ?_ ?_; rfl; rfl; (have := len_snoc L yid 22 hl1; omega); intro v3 w3 hown3 hb3))
      go_roundw
      case rel => exact ⟨k + 1, by omega, by go_num, by rw [← HS.out]; exact hown3, (hbl.trans hb2).trans hb3⟩
      case measure => simp [intOf]; omega
    · have hkn : k = n := by omega
      subst hkn
      have HT : Hid (inL (xs.take k) = inL xs) := by show _ = _; rw [List.take_of_length_le (by rw [HN.out]; omega)]
      rw [HT.out] at hown hl1
      generalize [t, (k : Int)] ++ inL xs = L at hown hl1 HE
      have HSZ : Hid _ := hsz1
      have hl2 := len_snoc L (m : Int) 22 hl1
      clear hlt
      go_wp2_with (at_builtin; refine wpList_app1 wr rfl (.tmp 42) (.tmp 46) rfl w1.heap.size u4 L (m : Int) ?_ ?_ hown hsz ?_ ?_; rfl; rfl; omega; intro v2 w2 hown2 hb2; have e2 := cell_move hb2 y2 HSZ.out)
      have hbl2 := hbl.trans hb2
      have hsz2 := hbl2.size
      clear hbl hb2 hown
      generalize L ++ [(m : Int)] = M at hown2 hl2 HE
      go_loopw [4, 6] (fun v i ws => ∃ j : Nat, j ≤ m ∧ i = .int .i64 j ∧ OwnInts ws w1.heap.size v (M ++ outL (ys.take j)) ∧ Below w1.heap.size w1 ws) (fun _ i _ => m - (intOf i).toNat)
      case atStart => exact ⟨0, Nat.zero_le _, rfl, by simpa [outL] using hown2, hbl2⟩
      case round =>
        obtain ⟨j, hj, rfl, hown, hbl⟩ := hrel
        have hsz := hbl.size
        have hw := below_blk hw1 hbl
        have y2 := cell_move hbl x2 HSZ.out
        have hl3 := len2 M ys j (by omega) (by omega)
        by_cases hjt : j < m
        · rcases HY.out with hnil | ⟨b, off, rfl, hrow⟩
          · have := HM.out; rw [hnil] at this; simp at this; omega
          obtain ⟨c0, c1⟩ := (hrow.grown hw1) j (by rw [HM.out]; exact hjt)
          have hblt' := cell_lt c0
          have d0 := cell_move hbl c0 hblt'
          have d1 := cell_move hbl c1 hblt'
          have HS : Hid _ := snoc2 M ys j (by rw [HM.out]; exact hjt)
          have HBB : Hid _ := hblt'
          clear hrow c0 c1 hblt'
          generalize ys.getD j (0, 0) = y at d0 d1 HS
          obtain ⟨ya, yv⟩ := y
          simp only at d0 d1 HS
          generalize M ++ outL (ys.take j) = L2 at hown hl3 HS
          go_wp2_with (first | (at_builtin; refine wpList_app1 wr rfl (.tmp 55) (.tmp 62) rfl w1.heap.size u4 L2 ya ?_ ?_ hown hsz ?_ ?_; rfl; rfl; omega; intro v2 w2 hown2 hb2; have hsz2 := Nat.le_trans hsz hb2.size; have e1 := cell_move hb2 y2 HSZ.out; have e2 := cell_move hb2 d1 HBB.out) | (at_builtin; refine wpList_app1 w2 rfl (.tmp 64) (.tmp 71) rfl w1.heap.size v2 (L2 ++ [ya]) yv ?_ ?_ hown2 hsz2 ?_ ?_; rfl; rfl; (have := len_snoc L2 ya 46 hl3; omega); intro v3 w3 hown3 hb3))
          go_roundw
          case rel => exact ⟨j + 1, by omega, by go_num, by rw [← HS.out]; exact hown3, (hbl.trans hb2).trans hb3⟩
          case measure => simp [intOf]; omega
        · have HT2 : Hid (outL (ys.take j) = outL ys) := by show _ = _; rw [List.take_of_length_le (by rw [HM.out]; omega)]
          rw [HT2.out, ← HE.out] at hown
          rw [HT2.out, ← HE.out] at hl3
          obtain ⟨ao, cc, rfl, hat, _⟩ := hown.slice
          go_wp2_with fail
          refine (mixed_any _ _ _ _ _ _ (by omega) (by omega) hat rfl HMX.out (by omega)).mono ?_
          rintro e w' ⟨rfl, rfl⟩
          go_wp2
          go_ret
          exact ⟨rfl, hw⟩

end Go.Proofs.Ytffgpepngcnjeaa
