/-
  Found: what the window comes to is found.
-/
import Derived.Test.YtffgpepngcnjeaaFnE
import Derived.Test.YtffgpepngcnjeaaFnC
namespace Go.Proofs.Ytffgpepngcnjeaa
open Go.RowKit

/-- the deposits at these indices stand in the chain, and as the scene keeps them -/
structure Dep (s br : Int) (A : List Nat) (xs : List Cel) (cs : List CoinD) : Prop where
  lt : ∀ i ∈ A, i < 100
  len : A.length ≤ cs.length
  at_ : ∀ i, i < A.length → ∃ x ∈ xs, x.spent = -1 ∧ x.to = Mk.adr s br ((A.getD i 0 : Nat) : Int) ∧ cs.getD i dN = x.kept

theorem Dep.hit {s br : Int} {A : List Nat} {xs : List Cel} {cs : List CoinD} (h : Dep s br A xs cs) {i : Nat} (hi : i ∈ A) : hitAt xs s br i = true := by
  obtain ⟨j, hj, rfl⟩ := mem_getD 0 hi
  obtain ⟨x, hx, _, e, _⟩ := h.at_ j hj
  unfold hitAt paidTo
  rw [List.any_eq_true]
  exact ⟨x, hx, by rw [e]; simp⟩
theorem Dep.win {s br : Int} {A : List Nat} {xs : List Cel} {cs : List CoinD} (h : Dep s br A xs cs) {g : Nat} (hg : g ≤ 20) : ∀ i ∈ A, i < 100 ∧ (i < winZ xs s g br → min 100 (i + 1 + g) ≤ winZ xs s g br) :=
  fun i hi => ⟨h.lt i hi, fun hlt => (win_spec xs s g br hg).2 i hlt (h.hit hi)⟩
theorem Dep.has {s br : Int} {A : List Nat} {xs : List Cel} {cs : List CoinD} (h : Dep s br A xs cs) (hb : br = 0 ∨ br = 1) {g j : Nat} (hj : j < A.length) (hlt : A.getD j 0 < winZ xs s g br) : hasZ (ownOf xs s g) (cs.getD j dN) = true := by
  obtain ⟨x, hx, hs, e, ec⟩ := h.at_ j hj
  rw [ec]
  exact own_has hx hs (by rw [e]; exact key_mem hb hlt)

set_option maxRecDepth 100000 in
set_option maxHeartbeats 4000000 in
theorem reached_any (S P : Nat) (s : Int) (g h : Nat) (v vi vc : Value) (xs : List Cel) (ids : List Int) (cs : List CoinD) (br : Int) (aa : Option Addr) (n ca : Nat) (A : List Nat) (w : World) (u : Sc S P s g h v vi vc xs ids cs w) (hs : Mk.isM s = true) (hg : 1 ≤ g) (hg2 : g ≤ 20) (hb : br = 0 ∨ br = 1) (hxl : xs.length ≤ 1000) (hcl : cs.length ≤ 1000) (hd : Dep s br A xs cs) (hx : RecAt iV w aa (ints A)) (hn : A.length = n) :
    Calls Try.prog 46 #[.pointer (some ⟨S, 0, none⟩), .int .i64 br, .slice aa n ca] w fun e w' => e = .returned (.bool true) ∧ Below w.heap.size w w' := by
  have HU : Hid (Sc S P s g h v vi vc xs ids cs w) := u
  have HD : Hid (Dep s br A xs cs) := hd
  have HX : Hid (RecAt iV w aa (ints A)) := hx
  have HN : Hid (A.length = n) := hn
  have HB : Hid (br = 0 ∨ br = 1) := hb
  have hnl : n ≤ 1000 := by rw [← hn]; exact Nat.le_trans hd.len hcl
  have hSl := u.big.1
  clear u hd hx hn hb
  obtain ⟨av, cv, rfl, hat⟩ := HU.out.pat.at
  have HAT : Hid (CelsAt w av xs) := hat
  obtain ⟨ac, cc, ec, hcat⟩ := OwnRec.at coin6 HU.out.oc
  subst ec
  have HCA : Hid (RecAt CoinD.l w ac cs) := hcat
  have HPR : Hid (PurseRow w P s g (.slice av xs.length cv) h) := pat_row HU.out.pat
  clear hat hcat
  have s0 := HU.out.c0
  have s2 := HU.out.c2
  have s4 := HU.out.c4
  have hwl := winZ_le xs s g br
  have hwg := (win_spec xs s g br hg2).1
  go_enter Try.func46, Try.ntmps46
  go_wp2_with fail
  refine (far_any aa n ca A g (winZ xs s g br) _ HX.out HN.out (by omega) hg2 hwg hwl (HD.out.win hg2)).mono ?_
  rintro e w1 ⟨W, rfl, hWV, hb1⟩
  have p0 := (hb1.cell (p := ⟨S, 0, none⟩) hSl).trans s0
  have p4 := (hb1.cell (p := ⟨S, 4, none⟩) hSl).trans s4
  have HPR1 : Hid (PurseRow w1 P s g (.slice av xs.length cv) h) := VRow.grown HPR.out hb1
  have HAT1 : Hid (CelsAt w1 av xs) := HAT.out.grown hb1
  have hSl1 : S < w1.heap.size := cell_lt p0
  clear s0 s2 s4 HPR HAT
  go_wp2_with fail
  refine (pWindows_any P s g av xs.length cv h xs _ hs hg hg2 HPR1.out HAT1.out rfl (by omega)).mono ?_
  rintro e w2 ⟨rfl, hb2⟩
  have q0 := (hb2.cell (p := ⟨S, 0, none⟩) hSl1).trans p0
  have q4 := (hb2.cell (p := ⟨S, 4, none⟩) hSl1).trans p4
  have HPR2 : Hid (PurseRow w2 P s g (.slice av xs.length cv) h) := VRow.grown HPR1.out hb2
  have HAT2 : Hid (CelsAt w2 av xs) := HAT1.out.grown hb2
  have hSl2 : S < w2.heap.size := cell_lt q0
  have hb02 := below_blk hb1 hb2
  clear p0 p4 HPR1 HAT1 hb1 hb2
  have HF : Hid (∀ j, j < n → A.getD j 0 < W → hasZ (ownOf xs s g) (cs.getD j dN) = true) := fun j hj hlt => HD.out.has HB.out (by rw [HN.out]; exact hj) (by omega)
  have HCL : Hid (n ≤ cs.length) := by show _ ≤ _; rw [← HN.out]; exact HD.out.len
  have HW : Hid (br = 0 ∧ (decide (winZ xs s g 0 < W) = false) ∨ br = 1 ∧ (decide (winZ xs s g 1 < W) = false)) := by
    show _ ∨ _
    rcases HB.out with e | e
    · left
      rw [e] at hWV
      exact ⟨e, by rw [decide_eq_false_iff_not]; omega⟩
    · right
      rw [e] at hWV
      exact ⟨e, by rw [decide_eq_false_iff_not]; omega⟩
  clear hWV hwl hwg HD HB
  generalize winZ xs s g 0 = W0 at *
  generalize winZ xs s g 1 = W1 at *
  rcases HW.out with ⟨rfl, hdd⟩ | ⟨rfl, hdd⟩
  all_goals
    clear HW
    go_wp2_with fail
    refine (pCoins_any P s g av xs.length cv h xs _ hs hg hg2 HPR2.out HAT2.out rfl (by omega)).mono ?_
    rintro e w3 ⟨vo, rfl, ho3, hb3⟩
    obtain ⟨ao3, co3, rfl, hat3⟩ := OwnRec.at coin6 ho3
    have HOA : Hid (RecAt CoinD.l w3 ao3 (ownOf xs s g)) := hat3
    have hol : (ownOf xs s g).length ≤ 1000 := Nat.le_trans (Nat.le_trans (ownZ_len _ _) (coinsC_len xs)) hxl
    have r4 := (hb3.cell (p := ⟨S, 4, none⟩) hSl2).trans q4
    have hSl3 : S < w3.heap.size := cell_lt r4
    have hb03 := below_blk hb02 hb3
    clear q0 q4 HPR2 HAT2 ho3 hat3 hb3 hb02 hdd
    have hoe : (ownZ (keysZ xs s g) (coinsC xs)).length = (ownOf xs s g).length := rfl
    generalize ownZ (keysZ xs s g) (coinsC xs) = oz at *
    rw [hoe]
    generalize ownOf xs s g = ol at *
    generalize hoel : ol.length = on at *
    have HON : Hid (ol.length = on) := hoel
    clear hoel hoe
    have HX3 : Hid (RecAt iV w3 aa (ints A)) := HX.out.grown hb03
    have HC3 : Hid (RecAt CoinD.l w3 ac cs) := HCA.out.grown hb03
    go_wp2
    go_loopw [11] (fun i wr => ∃ k : Nat, k ≤ n ∧ i = .int .i64 k ∧ Below w3.heap.size w3 wr) (fun i _ => n - (intOf i).toNat)
    case atStart => exact ⟨0, Nat.zero_le _, rfl, Below.refl _ _⟩
    case round =>
      obtain ⟨k, hk, rfl, hbl⟩ := hrel
      have hszl := hbl.size
      by_cases hlt : k < n
      · have HFk : Hid _ := HF.out k hlt
        rcases HX3.out with hnil | ⟨ga, oa, rfl, hrow⟩
        · have := HN.out; rw [← ints_len, hnil] at this; simp at this; omega
        have a0 := iCell hrow k (by rw [ints_len, HN.out]; exact hlt)
        rw [ints_get A k (by rw [HN.out]; exact hlt)] at a0
        have hga : ga < w3.heap.size := cell_lt a0
        rcases HC3.out with hnil | ⟨gc, oc, rfl, hrowc⟩
        · have := HCL.out; rw [hnil] at this; simp at this; omega
        obtain ⟨e0, e1, e2, e3, e4, e5⟩ := coinCells (hrowc.grown hbl) k (by have := HCL.out; omega)
        have t4 := (hbl.cell (p := ⟨S, 4, none⟩) hSl3).trans r4
        have hkc : k < cs.length := by have := HCL.out; omega
        have hkcI : (k : Int) < (cs.length : Int) := by omega
        clear hrow hrowc
        generalize cs.getD k dN = y at e0 e1 e2 e3 e4 e5 HFk
        generalize A.getD k 0 = z at a0 HFk
        obtain ⟨y0, y1, y2, y3, y4, y5⟩ := y
        simp only at e0 e1 e2 e3 e4 e5
        have HOr : Hid (RecAt CoinD.l wr ao3 ol) := HOA.out.grown hbl
        go_wp2_with fail
        refine (has_any ao3 on co3 ol ⟨y0, y1, y2, y3, y4, y5⟩ _ HOr.out HON.out (by omega)).mono ?_
        rintro e w5 ⟨rfl, hb5⟩
        have hb35 : Below w3.heap.size w3 w5 := hbl.trans (hb5.mono hszl)
        have a0' := (hb35.cell (p := ⟨ga, oa + k, none⟩) hga).trans a0
        clear e0 e1 e2 e3 e4 e5 t4 a0 hb5
        generalize hasZ ol ⟨y0, y1, y2, y3, y4, y5⟩ = hz at *
        by_cases hzw : z < W
        · have hz1 := HFk.out hzw
          subst hz1
          go_wp2
          go_roundw
          case rel => exact ⟨k + 1, by omega, by go_num, hb35⟩
          case measure => simp [intOf]; omega
        · go_wp2
          go_roundw
          case rel => exact ⟨k + 1, by omega, by go_num, hb35⟩
          case measure => simp [intOf]; omega
      · go_wp2
        go_ret
        exact ⟨rfl, below_blk hb03 hbl⟩

end Go.Proofs.Ytffgpepngcnjeaa
