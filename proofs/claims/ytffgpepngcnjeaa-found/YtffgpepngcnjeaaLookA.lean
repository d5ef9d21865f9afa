/-
  What a purse shows, and whether two show the same.
-/
import Derived.Test.YtffgpepngcnjeaaFre
namespace Go.Proofs.Ytffgpepngcnjeaa
open Go.RowKit

set_option maxRecDepth 100000 in
set_option maxHeartbeats 2000000 in
theorem looked_any (P : Nat) (s : Int) (g : Nat) (ao : Option Addr) (n c : Nat) (h : Int) (xs : List Cel) (w : World) (hs : Mk.isM s = true) (hg : 1 ≤ g) (hg2 : g ≤ 20) (hp : PurseRow w P s g (.slice ao n c) h) (hx : CelsAt w ao xs) (hn : xs.length = n) (hm : n ≤ 10000) (hv : ∀ x ∈ xs, 0 ≤ x.val ∧ x.val ≤ 1099511627776) :
    Calls Try.prog 39 #[.pointer (some ⟨P, 0, none⟩)] w fun e w' => ∃ ac cc, e = .returned (.agg #[.int .i64 h, .int .i64 (winZ xs s g 0), .int .i64 (winZ xs s g 1), .int .i64 (sumC (ownOf xs s g)), .int .i64 (sumC (ownOf xs s g)), .slice ac (ownOf xs s g).length cc]) ∧ OwnRec CoinD.l 143 6 w' w.heap.size (.slice ac (ownOf xs s g).length cc) (ownOf xs s g) ∧ Below w.heap.size w w' := by
  have HV : Hid (∀ x ∈ ownZ (keysZ xs s g) (coinsC xs), 0 ≤ x.val ∧ x.val ≤ 1099511627776) := ownZ_val _ (fun z => 0 ≤ z ∧ z ≤ 1099511627776) _ (coinsC_val (fun z => 0 ≤ z ∧ z ≤ 1099511627776) xs hv)
  have HP : Hid (PurseRow w P s g (.slice ao n c) h) := hp
  have HX : Hid (CelsAt w ao xs) := hx
  have HN : Hid (xs.length = n) := hn
  clear hv hp hx hn
  generalize hR : w.heap.size = R
  have HR : Hid (w.heap.size = R) := hR
  clear hR
  go_enter Try.func39, Try.ntmps39
  go_wp2_with fail
  have vr := VB.new w (.int .i64 0) (.int .i64 0) (.int .i64 0) (.int .i64 0) (.int .i64 0) (.slice none 0 0) 81
  have b1 : Below w.heap.size w (w.alloc (.cells #[.int .i64 0, .int .i64 0, .int .i64 0, .int .i64 0, .int .i64 0, .slice none 0 0] 81)) := (Below.refl _ _).alloc (Nat.le_refl _) _
  have vl := VB.new (w.alloc (.cells #[.int .i64 0, .int .i64 0, .int .i64 0, .int .i64 0, .int .i64 0, .slice none 0 0] 81)) (.int .i64 0) (.int .i64 0) (.int .i64 0) (.int .i64 0) (.int .i64 0) (.slice none 0 0) 81
  have b2 := b1.alloc (by simp) (.cells #[.int .i64 0, .int .i64 0, .int .i64 0, .int .i64 0, .int .i64 0, .slice none 0 0] 81)
  have vr := vr.grown ((Below.refl _ _).alloc (Nat.le_refl _) (.cells #[.int .i64 0, .int .i64 0, .int .i64 0, .int .i64 0, .int .i64 0, .slice none 0 0] 81))
  have hz : ((w.alloc (.cells #[.int .i64 0, .int .i64 0, .int .i64 0, .int .i64 0, .int .i64 0, .slice none 0 0] 81)).alloc (.cells #[.int .i64 0, .int .i64 0, .int .i64 0, .int .i64 0, .int .i64 0, .slice none 0 0] 81)).heap.size = R + 2 := by rw [World.size_alloc, World.size_alloc, HR.out]
  rw [World.size_alloc] at vl
  generalize (w.alloc (.cells #[.int .i64 0, .int .i64 0, .int .i64 0, .int .i64 0, .int .i64 0, .slice none 0 0] 81)).alloc (.cells #[.int .i64 0, .int .i64 0, .int .i64 0, .int .i64 0, .int .i64 0, .slice none 0 0] 81) = w0 at *
  rw [HR.out] at vr vl b2 ⊢
  have HP0 : Hid (PurseRow w0 P s g (.slice ao n c) h) := VRow.grown HP.out (by rw [HR.out]; exact b2)
  have HX0 : Hid (CelsAt w0 ao xs) := HX.out.grown (by rw [HR.out]; exact b2)
  clear b1
  have l0 := vl.c0
  have lf := vl.fz
  have lf0 := lf 0
  -- the step of a store into the block R + 1, behind which all old blocks read the same
  have hbs : ∀ (wq : World) (i : Nat) (u : Value), Below R w wq → R ≤ wq.heap.size → Below R w (wq.setCell ⟨R + 1, i, none⟩ u) := fun wq i u hb _ => hb.setCell (by simp) _
  have HBS : Hid _ := hbs
  clear hbs
  go_wp2_with (go_at_call 30; refine (pHeight_any P s g _ h _ HP0.out).mono ?_; rintro e w' ⟨rfl, rfl⟩)
  have vl1 := vl.s0 (.int .i64 h)
  have vr1 := vr.oth (K := R + 1) (i := 0) (.int .i64 h) (by omega)
  have b3 := b2.setCell (p := ⟨R + 1, 0, none⟩) (by simp) (.int .i64 h)
  have hz1 : (w0.setCell ⟨R + 1, 0, none⟩ (.int .i64 h)).heap.size = R + 2 := by simpa using hz
  have HP1 : Hid (PurseRow (w0.setCell ⟨R + 1, 0, none⟩ (.int .i64 h)) P s g (.slice ao n c) h) := VRow.grown HP.out (by rw [HR.out]; exact b3)
  have HX1 : Hid (CelsAt (w0.setCell ⟨R + 1, 0, none⟩ (.int .i64 h)) ao xs) := HX.out.grown (by rw [HR.out]; exact b3)
  generalize w0.setCell ⟨R + 1, 0, none⟩ (.int .i64 h) = w1 at *
  clear HP0 HX0 vl vr b2 l0 lf lf0 hz
  refine (pWindows_any P s g ao n c h xs _ hs hg hg2 HP1.out HX1.out HN.out (by omega)).mono ?_
  rintro e w2 ⟨rfl, hb2⟩
  have vl2 := vl1.grown hb2
  have vr2 := vr1.grown hb2
  have b4 := b3.trans (hb2.mono (by omega))
  have hz2 := hb2.size
  clear vl1 vr1 b3 HP1 HX1 hb2
  have l1 := vl2.c1
  have l2 := vl2.c2
  have lf1 := vl2.fz 1
  have lf2 := vl2.fz 2
  generalize hW0 : winZ xs s g 0 = W0 at *
  generalize hW1 : winZ xs s g 1 = W1 at *
  have HW0 : Hid (winZ xs s g 0 = W0) := hW0
  have HW1 : Hid (winZ xs s g 1 = W1) := hW1
  clear hW0 hW1
  go_wp2_with fail
  have vl3 := (vl2.s1 (.int .i64 W0)).s2 (.int .i64 W1)
  have vr3 := (vr2.oth (K := R + 1) (i := 1) (.int .i64 W0) (by omega)).oth (K := R + 1) (i := 2) (.int .i64 W1) (by omega)
  have b5 := (b4.setCell (p := ⟨R + 1, 1, none⟩) (by simp) (.int .i64 W0)).setCell (p := ⟨R + 1, 2, none⟩) (by simp) (.int .i64 W1)
  have hz3 : ((w2.setCell ⟨R + 1, 1, none⟩ (.int .i64 W0)).setCell ⟨R + 1, 2, none⟩ (.int .i64 W1)).heap.size = w2.heap.size := by simp
  generalize (w2.setCell ⟨R + 1, 1, none⟩ (.int .i64 W0)).setCell ⟨R + 1, 2, none⟩ (.int .i64 W1) = w3 at *
  clear vl2 vr2 b4 l1 l2 lf1 lf2
  have HP3 : Hid (PurseRow w3 P s g (.slice ao n c) h) := VRow.grown HP.out (by rw [HR.out]; exact b5)
  have HX3 : Hid (CelsAt w3 ao xs) := HX.out.grown (by rw [HR.out]; exact b5)
  have hz3' : R + 2 ≤ w3.heap.size := by omega
  clear hz1 hz2 hz3
  refine (pBalance_none P s g ao n c h xs _ hs hg hg2 HP3.out HP3.out.c4 HP3.out.c5 HX3.out HN.out hm HV.out).mono ?_
  rintro e w4 ⟨rfl, hb4⟩
  have vl4 := vl3.grown hb4
  have vr4 := vr3.grown hb4
  have b6 := b5.trans (hb4.mono (by omega))
  have hz4 : R + 2 ≤ w4.heap.size := Nat.le_trans hz3' hb4.size
  clear vl3 vr3 b5 HP3 HX3 hb4 hz3'
  have l3 := vl4.c3
  have l4 := vl4.c4
  have lf3 := vl4.fz 3
  have lf4 := vl4.fz 4
  generalize hOc : ownZ (keysZ xs s g) (coinsC xs) = oc at *
  have HOC : Hid (ownOf xs s g = oc) := hOc
  generalize hSC : sumC oc = SC at *
  have HSC : Hid (sumC oc = SC) := hSC
  clear hSC
  go_wp2_with fail
  have vl5 := (vl4.s3 (.int .i64 SC)).s4 (.int .i64 SC)
  have vr5 := (vr4.oth (K := R + 1) (i := 3) (.int .i64 SC) (by omega)).oth (K := R + 1) (i := 4) (.int .i64 SC) (by omega)
  have b7 := (b6.setCell (p := ⟨R + 1, 3, none⟩) (by simp) (.int .i64 SC)).setCell (p := ⟨R + 1, 4, none⟩) (by simp) (.int .i64 SC)
  have hz5 : ((w4.setCell ⟨R + 1, 3, none⟩ (.int .i64 SC)).setCell ⟨R + 1, 4, none⟩ (.int .i64 SC)).heap.size = w4.heap.size := by simp
  generalize (w4.setCell ⟨R + 1, 3, none⟩ (.int .i64 SC)).setCell ⟨R + 1, 4, none⟩ (.int .i64 SC) = w5 at *
  clear vl4 vr4 b6 l3 l4 lf3 lf4
  have HP5 : Hid (PurseRow w5 P s g (.slice ao n c) h) := VRow.grown HP.out (by rw [HR.out]; exact b7)
  have HX5 : Hid (CelsAt w5 ao xs) := HX.out.grown (by rw [HR.out]; exact b7)
  refine (pCoins_any P s g ao n c h xs _ hs hg hg2 HP5.out HX5.out HN.out hm).mono ?_
  rintro e w6 ⟨v, rfl, ho, hb6⟩
  rw [hOc] at ho
  obtain ⟨ac, cc, rfl, _⟩ := OwnRec.at coin6 ho
  have vl6 := vl5.grown hb6
  have vr6 := vr5.grown hb6
  have b8 := b7.trans (hb6.mono (by omega))
  have hz6 : R + 2 ≤ w6.heap.size := by have := hb6.size; omega
  have HOW : Hid (OwnRec CoinD.l 143 6 w6 w5.heap.size (.slice ac oc.length cc) oc) := ho
  have hz56 : R + 2 ≤ w5.heap.size := by omega
  clear vl5 vr5 b7 HP5 HX5 hb6 ho hOc hz4 hz5
  obtain ⟨l0, l1, l2, l3, l4, l5, lf⟩ := vl6
  have HVR : Hid _ := vr6
  obtain ⟨r0, r1, r2, r3, r4, r5, rf⟩ := vr6
  have lf5 := lf 5
  have rf0 := rf 0
  have rf1 := rf 1
  have rf2 := rf 2
  have rf3 := rf 3
  have rf4 := rf 4
  have rf5 := rf 5
  go_wp2
  have vF := ((((((HVR.out.oth (K := R + 1) (i := 5) (.slice ac oc.length cc) (by omega)).s0 (.int .i64 h)).s1 (.int .i64 W0)).s2 (.int .i64 W1)).s3 (.int .i64 SC)).s4 (.int .i64 SC)).s5 (.slice ac oc.length cc)
  have bF := ((((((b8.setCell (p := ⟨R + 1, 5, none⟩) (by simp) (.slice ac oc.length cc)).setCell (p := ⟨R, 0, none⟩) (Nat.le_refl _) (.int .i64 h)).setCell (p := ⟨R, 1, none⟩) (Nat.le_refl _) (.int .i64 W0)).setCell (p := ⟨R, 2, none⟩) (Nat.le_refl _) (.int .i64 W1)).setCell (p := ⟨R, 3, none⟩) (Nat.le_refl _) (.int .i64 SC)).setCell (p := ⟨R, 4, none⟩) (Nat.le_refl _) (.int .i64 SC)).setCell (p := ⟨R, 5, none⟩) (Nat.le_refl _) (.slice ac oc.length cc)
  have oF : OwnRec CoinD.l 143 6 (((((((w6.setCell ⟨R + 1, 5, none⟩ (.slice ac oc.length cc)).setCell ⟨R, 0, none⟩ (.int .i64 h)).setCell ⟨R, 1, none⟩ (.int .i64 W0)).setCell ⟨R, 2, none⟩ (.int .i64 W1)).setCell ⟨R, 3, none⟩ (.int .i64 SC)).setCell ⟨R, 4, none⟩ (.int .i64 SC)).setCell ⟨R, 5, none⟩ (.slice ac oc.length cc)) R (.slice ac oc.length cc) oc := by
    have h1 : OwnRec CoinD.l 143 6 w6 (R + 2) (.slice ac oc.length cc) oc := owns_lower HOW.out hz56
    have h2 := ownsRow_setCell_below h1 (a := ⟨R + 1, 5, none⟩) (by show R + 1 < R + 2; omega) (.slice ac oc.length cc)
    have h3 := ownsRow_setCell_below h2 (a := ⟨R, 0, none⟩) (by show R < R + 2; omega) (.int .i64 h)
    have h4 := ownsRow_setCell_below h3 (a := ⟨R, 1, none⟩) (by show R < R + 2; omega) (.int .i64 W0)
    have h5 := ownsRow_setCell_below h4 (a := ⟨R, 2, none⟩) (by show R < R + 2; omega) (.int .i64 W1)
    have h6 := ownsRow_setCell_below h5 (a := ⟨R, 3, none⟩) (by show R < R + 2; omega) (.int .i64 SC)
    have h7 := ownsRow_setCell_below h6 (a := ⟨R, 4, none⟩) (by show R < R + 2; omega) (.int .i64 SC)
    have h8 := ownsRow_setCell_below h7 (a := ⟨R, 5, none⟩) (by show R < R + 2; omega) (.slice ac oc.length cc)
    exact owns_lower h8 (by omega)
  obtain ⟨q0, q1, q2, q3, q4, q5, _⟩ := vF
  refine bodyPost_ret (v := .agg #[.int .i64 h, .int .i64 W0, .int .i64 W1, .int .i64 SC, .int .i64 SC, .slice ac oc.length cc]) ?_ rfl ?_
  · simp [results, Try.results39, go_sem, q0, q1, q2, q3, q4, q5]
  · rw [HW0.out, HW1.out, HOC.out]
    exact ⟨ac, cc, by rw [HSC.out], oF, bF⟩

set_option maxRecDepth 100000 in
set_option maxHeartbeats 2000000 in
theorem alike_any (h1 h2 more r c a f : Int) (ao bo : Option Addr) (n cp dp : Nat) (cs : List CoinD) (w : World) (ha : RecAt CoinD.l w ao cs) (hb : RecAt CoinD.l w bo cs) (hn : cs.length = n) (hm : n ≤ 10000) (hh : h1 + more = h2) (h1b : 0 ≤ h1 ∧ h1 ≤ 100) (hmb : 0 ≤ more ∧ more ≤ 1) :
    Calls Try.prog 42 #[.agg #[.int .i64 h1, .int .i64 r, .int .i64 c, .int .i64 a, .int .i64 f, .slice ao n cp], .agg #[.int .i64 h2, .int .i64 r, .int .i64 c, .int .i64 a, .int .i64 f, .slice bo n dp], .int .i64 more] w fun e w' => e = .returned (.bool true) ∧ Below w.heap.size w w' := by
  have HA : Hid (RecAt CoinD.l w ao cs) := ha
  have HB : Hid (RecAt CoinD.l w bo cs) := hb
  have HN : Hid (cs.length = n) := hn
  clear ha hb hn
  have hw : IntKind.i64.wrap (h1 + more) = h2 := by rw [hh]; exact IntWalk.i64_in _ ⟨by omega, by omega⟩
  have hbn : (h2 != h2) = false := by simp
  have b2 : ∀ o o', Below w.heap.size w ((w.alloc o).alloc o') := fun o o' => ((Below.refl _ _).alloc (Nat.le_refl _) _).alloc (by simp) _
  have HB2 : Hid _ := b2
  clear b2
  have va := VB.new w (.int .i64 h1) (.int .i64 r) (.int .i64 c) (.int .i64 a) (.int .i64 f) (.slice ao n cp) 81
  have vb := VB.new (w.alloc (.cells #[.int .i64 h1, .int .i64 r, .int .i64 c, .int .i64 a, .int .i64 f, .slice ao n cp] 81)) (.int .i64 h2) (.int .i64 r) (.int .i64 c) (.int .i64 a) (.int .i64 f) (.slice bo n dp) 81
  have va := va.grown ((Below.refl _ _).alloc (Nat.le_refl _) (.cells #[.int .i64 h2, .int .i64 r, .int .i64 c, .int .i64 a, .int .i64 f, .slice bo n dp] 81))
  rw [World.size_alloc] at vb
  have b2 := HB2.out (.cells #[.int .i64 h1, .int .i64 r, .int .i64 c, .int .i64 a, .int .i64 f, .slice ao n cp] 81) (.cells #[.int .i64 h2, .int .i64 r, .int .i64 c, .int .i64 a, .int .i64 f, .slice bo n dp] 81)
  have HVA : Hid _ := va
  have HVB : Hid _ := vb
  have HBW : Hid _ := b2
  clear va vb b2 HB2
  go_enter Try.func42, Try.ntmps42
  go_wp2
  generalize (w.alloc (.cells #[.int .i64 h1, .int .i64 r, .int .i64 c, .int .i64 a, .int .i64 f, .slice ao n cp] 81)).alloc (.cells #[.int .i64 h2, .int .i64 r, .int .i64 c, .int .i64 a, .int .i64 f, .slice bo n dp] 81) = w0 at *
  have HA0 : Hid (RecAt CoinD.l w0 ao cs) := HA.out.grown HBW.out
  have HB0 : Hid (RecAt CoinD.l w0 bo cs) := HB.out.grown HBW.out
  go_loopw [7] (fun i wr => ∃ k : Nat, k ≤ n ∧ i = .int .i64 k ∧ Below w0.heap.size w0 wr) (fun i _ => n - (intOf i).toNat)
  case atStart => exact ⟨0, Nat.zero_le _, rfl, Below.refl _ _⟩
  case round =>
    obtain ⟨k, hk, rfl, hbl⟩ := hrel
    have hsz := hbl.size
    have a5 := (HVA.out.grown hbl).c5
    have b5 := (HVB.out.grown hbl).c5
    have hla : w.heap.size < wr.heap.size := cell_lt a5
    have hlb : w.heap.size + 1 < wr.heap.size := cell_lt b5
    by_cases hlt : k < n
    · rcases HA0.out with hnil | ⟨ga, oa, rfl, hra⟩
      · have := HN.out; rw [hnil] at this; simp at this; omega
      rcases HB0.out with hnil | ⟨gb, ob, rfl, hrb⟩
      · have := HN.out; rw [hnil] at this; simp at this; omega
      obtain ⟨x0, x1, x2, x3, x4, x5⟩ := coinCells (hra.grown hbl) k (by rw [HN.out]; exact hlt)
      obtain ⟨y0, y1, y2, y3, y4, y5⟩ := coinCells (hrb.grown hbl) k (by rw [HN.out]; exact hlt)
      clear hra hrb
      generalize cs.getD k dN = z at x0 x1 x2 x3 x4 x5 y0 y1 y2 y3 y4 y5
      obtain ⟨z0, z1, z2, z3, z4, z5⟩ := z
      simp only at x0 x1 x2 x3 x4 x5 y0 y1 y2 y3 y4 y5
      have bA : Below wr.heap.size wr (wr.alloc (.cells #[.int .i64 z0, .int .i64 z1, .int .i64 z2, .int .i64 z3, .int .i64 z4, .int .i64 z5] 143)) := (Below.refl _ _).alloc (Nat.le_refl _) _
      have hgb : gb < wr.heap.size := cell_lt y0
      have y0' := (bA.cell (p := ⟨gb, ob + k * 6, none⟩) hgb).trans y0
      have y1' := (bA.cell (p := ⟨gb, ob + k * 6 + 1, none⟩) hgb).trans y1
      have y2' := (bA.cell (p := ⟨gb, ob + k * 6 + 2, none⟩) hgb).trans y2
      have y3' := (bA.cell (p := ⟨gb, ob + k * 6 + 3, none⟩) hgb).trans y3
      have y4' := (bA.cell (p := ⟨gb, ob + k * 6 + 4, none⟩) hgb).trans y4
      have y5' := (bA.cell (p := ⟨gb, ob + k * 6 + 5, none⟩) hgb).trans y5
      have b5' := (bA.cell (p := ⟨w.heap.size + 1, 5, none⟩) hlb).trans b5
      clear bA
      go_wp2
      go_roundw
      case rel => exact ⟨k + 1, by omega, by go_num, (hbl.alloc hsz _).alloc (by simp; omega) _⟩
      case measure => simp [intOf]; omega
    · go_wp2
      go_ret
      exact ⟨rfl, below_blk HBW.out hbl⟩

end Go.Proofs.Ytffgpepngcnjeaa
