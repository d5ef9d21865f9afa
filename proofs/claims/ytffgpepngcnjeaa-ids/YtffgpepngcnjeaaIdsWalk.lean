import Derived.Test.YtffgpepngcnjeaaSTx
namespace Go.Proofs.Ytffgpepngcnjeaa
open Go.RowKit

theorem by_index {α : Type} (l : List α) (d : α) : l = (List.range l.length).map fun j => l.getD j d := by
  apply List.ext_getElem
  · simp
  · intro j h1 h2
    simp [List.getD, h1]

theorem rIn_hIn (x : InD) (b : Nat) : rIn (hIn x b) = rIn x := rfl

/-- the inputs as they are handed in -/
def hList (xs : List InD) (bs : List Nat) : List InD := (List.range xs.length).map fun j => hIn (xs.getD j dIn) (bs.getD j 0)
theorem hList_len (xs : List InD) (bs : List Nat) : (hList xs bs).length = xs.length := by simp [hList]
theorem hList_all (xs : List InD) (bs : List Nat) : (hList xs bs).all rIn = xs.all rIn := by
  have e := by_index xs dIn
  conv => rhs; rw [e]
  unfold hList
  rw [List.all_map, List.all_map]
  rfl
theorem hList_inL (xs : List InD) (bs : List Nat) : inL (hList xs bs) = inL xs := by
  have e := by_index xs dIn
  conv => rhs; rw [e]
  unfold hList inL
  rw [List.flatMap_map, List.flatMap_map]
  rfl
theorem hList_id (t : Int) (xs : List InD) (bs : List Nat) (ys : List (Int × Int)) : idZ t (hList xs bs) ys = idZ t xs ys := by
  unfold idZ rTx rIns idL
  rw [hList_len, hList_all, hList_inL]
theorem hList_at {w : World} {BI : Nat} {xs : List InD} {bs : List Nat} (h : HIns w BI xs xs.length bs) (hok : ∀ j, j < xs.length → (xs.getD j dIn).l.length = (xs.getD j dIn).n ∧ (xs.getD j dIn).n ≤ 17592186044416) : InsAt w (some ⟨BI, 0, none⟩) (hList xs bs) := by
  refine Or.inr ⟨BI, 0, rfl, fun j hj => ?_⟩
  rw [hList_len] at hj
  have e : (hList xs bs).getD j dIn = hIn (xs.getD j dIn) (bs.getD j 0) := by simp [hList, List.getD, hj]
  rw [e, Nat.zero_add]
  obtain ⟨h1, h2, _⟩ := h.done j hj
  exact ⟨h1, ⟨Or.inr ⟨_, _, rfl, h2.head⟩, (hok j hj).1, (hok j hj).2, fun h => by cases h⟩⟩
theorem ins_ok {w : World} {ai : Option Addr} {xs : List InD} (h : InsAt w ai xs) : ∀ j, j < xs.length → (xs.getD j dIn).l.length = (xs.getD j dIn).n ∧ (xs.getD j dIn).n ≤ 17592186044416 := by
  intro j hj
  rcases h with rfl | ⟨b, off, rfl, hr⟩
  · simp at hj
  · exact ⟨(hr j hj).2.len, (hr j hj).2.sz⟩

theorem rId_any (t : Int) (ai : Option Addr) (n c : Nat) (ap : Option Addr) (m d : Nat) (xs : List InD) (ys : List (Int × Int)) (w : World) (hx : InsAt w ai xs) (hn : xs.length = n) (hy : OutsAt w ap ys) (hm : ys.length = m) :
    Calls Try.prog 14 #[.agg #[.int .i64 t, .slice ai n c, .slice ap m d]] w fun e w' => e = .returned (.int .i64 (idZ t xs ys)) ∧ Below w.heap.size w w' := by
  unfold idZ
  cases hr : rTx t xs ys
  · rw [if_neg (by simp)]
    exact rId_no t ai n c ap m d xs ys w hx hn hy hm hr
  · rw [if_pos rfl]
    exact rId_yes t ai n c ap m d xs ys w hx hn hy hm hr

set_option maxRecDepth 100000 in
set_option maxHeartbeats 1000000 in
theorem ids_any (t : Int) (ai : Option Addr) (n c : Nat) (ap : Option Addr) (m d : Nat) (xs : List InD) (ys : List (Int × Int)) (w : World) (hx : InsAt w ai xs) (hn : xs.length = n) (hy : OutsAt w ap ys) (hm : ys.length = m) (n1 : n ≤ 3518437208883) (m1 : m ≤ 8796093022208) (h0 : ap = none → d = 0) :
    Calls Try.prog 3 #[.agg #[.int .i64 t, .slice ai n c, .slice ap m d]] w fun e w' => e = .returned (.bool true) ∧ Below w.heap.size w w' := by
  have HN : Hid (xs.length = n) := hn
  have HM : Hid (ys.length = m) := hm
  have HX : Hid (InsAt w ai xs) := hx
  have HY : Hid (OutsAt w ap ys) := hy
  have H0 : Hid _ := h0
  clear hn hm hx hy h0
  have bl : ∀ o, Below w.heap.size w (w.alloc o) := fun o => (Below.refl _ _).alloc (Nat.le_refl _) _
  have HB : Hid _ := bl
  clear bl
  go_enter Try.func3, Try.ntmps3
  go_wp2_with fail
  refine (handedTx_any _ _ _ _ _ _ _ xs ys _ (HX.out.grown (HB.out _)) HN.out (HY.out.grown (HB.out _)) HM.out n1 m1 H0.out).mono ?_
  rintro e w1 ⟨BI, BO, rfl, hh, hb1⟩
  have hw1 := below_blk (HB.out _) hb1
  obtain ⟨x0, x1, x2⟩ := box3 hb1
  have hsz1 : w.heap.size < w1.heap.size := by have := hb1.size; rw [World.size_alloc] at this; omega
  obtain ⟨bs, hins⟩ := hh.ins
  have hat := hList_at hins (ins_ok HX.out)
  have houts : OutsAt w1 (some ⟨BO, 0, none⟩) ys := Or.inr ⟨_, _, rfl, hh.outs.head⟩
  have HHH : Hid (HTx w1 BI BO xs ys) := hh
  have HAT : Hid (InsAt w1 (some ⟨BI, 0, none⟩) (hList xs bs)) := hat
  have HOU : Hid (OutsAt w1 (some ⟨BO, 0, none⟩) ys) := houts
  clear hh hins hat houts
  have bl1 : ∀ o, Below w1.heap.size w1 (w1.alloc o) := fun o => (Below.refl _ _).alloc (Nat.le_refl _) _
  have HB1 : Hid _ := bl1
  clear bl1
  go_wp2_with fail
  refine (pId_any _ _ _ _ _ _ _ (hList xs bs) ys _ (HAT.out.grown (HB1.out _)) (by rw [hList_len]; exact HN.out) (HOU.out.grown (HB1.out _)) HM.out).mono ?_
  rintro e w2 ⟨rfl, hb2⟩
  rw [hList_id]
  have hw2 := below_blk (HB1.out _) hb2
  obtain ⟨y0, y1, y2⟩ := box3 hb2
  have z0 := cell_move hw2 x0 hsz1
  have z1 := cell_move hw2 x1 hsz1
  have z2 := cell_move hw2 x2 hsz1
  clear x0 x1 x2
  have hww2 := below_blk hw1 hw2
  go_wp2_with fail
  refine (stillTx_any _ _ _ _ _ _ _ _ _ xs ys _ (HHH.out.grown hw2) (HX.out.grown hww2) HN.out (HY.out.grown hww2) HM.out n1 m1).mono ?_
  rintro e w3 ⟨rfl, hb3⟩
  have hww3 := below_blk hww2 hb3
  have q0 := cell_move hb3 z0 (cell_lt z0)
  have q1 := cell_move hb3 z1 (cell_lt z1)
  have q2 := cell_move hb3 z2 (cell_lt z2)
  clear z0 z1 z2 y0 y1 y2
  go_wp2_with fail
  refine (rId_any _ _ _ _ _ _ _ xs ys _ (HX.out.grown hww3) HN.out (HY.out.grown hww3) HM.out).mono ?_
  rintro e w4 ⟨rfl, hb4⟩
  go_wp2
  go_ret
  exact ⟨rfl, below_blk hww3 hb4⟩

end Go.Proofs.Ytffgpepngcnjeaa
