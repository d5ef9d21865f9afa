/-
  Package chain: add, as memory has it.
-/
import Derived.Test.YtffgpepngcnjeabMad
import Derived.Deep.DeepCutAuto
import Derived.Deep.RegionLaw
namespace Go.Proofs.Ytffgpepngcnjeab
open Go.RowKit
variable {Ex : List (Nat × Value)}
theorem addZ_shape {xs : List Cel} {h t : Int} {ins : List InD} {ys : List (Int × Int)} {first : Bool} (hr : rTx t ins ys = false ∨ (ins = [] ∧ first = false)) : addZ xs h t ins ys first = (2, xs) := by
  unfold addZ; rw [if_pos hr]
theorem addZ_twice {xs : List Cel} {h t : Int} {ins : List InD} {ys : List (Int × Int)} {first : Bool} (hr : ¬(rTx t ins ys = false ∨ (ins = [] ∧ first = false))) (h2 : hasId xs (idZ t ins ys) = true) : addZ xs h t ins ys first = (4, xs) := by
  unfold addZ; rw [if_neg hr, if_pos h2]
theorem addZ_coin {xs : List Cel} {h t : Int} {ins : List InD} {ys : List (Int × Int)} {first : Bool} (hr : ¬(rTx t ins ys = false ∨ (ins = [] ∧ first = false))) (h2 : hasId xs (idZ t ins ys) = false) (h3 : spZ xs ins [] = none) : addZ xs h t ins ys first = (5, xs) := by
  unfold addZ; rw [if_neg hr, if_neg (by rw [h2]; simp), h3]
theorem addZ_seal {xs : List Cel} {h t : Int} {ins : List InD} {ys : List (Int × Int)} {first : Bool} {ss : List SpD} (hr : ¬(rTx t ins ys = false ∨ (ins = [] ∧ first = false))) (h2 : hasId xs (idZ t ins ys) = false) (h3 : spZ xs ins [] = some ss) (h4 : ss.all (opens (idZ t ins ys)) = false) : addZ xs h t ins ys first = (6, xs) := by
  unfold addZ; rw [if_neg hr, if_neg (by rw [h2]; simp), h3]; simp only; rw [if_pos h4]
theorem addZ_sum {xs : List Cel} {h t : Int} {ins : List InD} {ys : List (Int × Int)} {first : Bool} {ss : List SpD} (hr : ¬(rTx t ins ys = false ∨ (ins = [] ∧ first = false))) (h2 : hasId xs (idZ t ins ys) = false) (h3 : spZ xs ins [] = some ss) (h4 : ss.all (opens (idZ t ins ys)) = true) (h5 : ss ≠ [] ∧ sumSp ss < sumOu ys) : addZ xs h t ins ys first = (7, xs) := by
  unfold addZ; rw [if_neg hr, if_neg (by rw [h2]; simp), h3]; simp only; rw [if_neg (by rw [h4]; simp), if_pos h5]
theorem addZ_ok {xs : List Cel} {h t : Int} {ins : List InD} {ys : List (Int × Int)} {first : Bool} {ss : List SpD} (hr : ¬(rTx t ins ys = false ∨ (ins = [] ∧ first = false))) (h2 : hasId xs (idZ t ins ys) = false) (h3 : spZ xs ins [] = some ss) (h4 : ss.all (opens (idZ t ins ys)) = true) (h5 : ¬(ss ≠ [] ∧ sumSp ss < sumOu ys)) : addZ xs h t ins ys first = (0, markZ h xs ss ++ newC (idZ t ins ys) h ys ys.length) := by
  unfold addZ; rw [if_neg hr, if_neg (by rw [h2]; simp), h3]; simp only; rw [if_neg (by rw [h4]; simp), if_neg h5]
set_option maxRecDepth 100000 in
set_option maxHeartbeats 2000000 in
theorem add_shape (b o : Nat) (t : Int) (ai : Option Addr) (n c : Nat) (ap : Option Addr) (m d : Nat) (ins : List InD) (ys : List (Int × Int)) (first : Bool) (w : World)
    (hi : InsAt w ai ins) (hil : ins.length = n) (hy : OutsAt w ap ys) (hyl : ys.length = m) (hr : rTx t ins ys = false ∨ (ins = [] ∧ first = false)) :
    Calls Try.prog 89 #[.pointer (some ⟨b, o, none⟩), .agg #[.int .i64 t, .slice ai n c, .slice ap m d], .bool first] w fun e w' => e = .returned (.int .i64 2) ∧ Below w.heap.size w w' := by
  have HI : Hid (InsAt w ai ins) := hi
  have HY : Hid (OutsAt w ap ys) := hy
  have HIL : Hid (ins.length = n) := hil
  have HYL : Hid (ys.length = m) := hyl
  have bl : ∀ o, Below w.heap.size w (w.alloc o) := fun o => (Below.refl _ _).alloc (Nat.le_refl _) _
  have HB : Hid _ := bl
  clear hi hil hy hyl bl
  cases hrt : rTx t ins ys
  · go_enter Try.func89, Try.ntmps89
    go_wp2_with fail
    refine (rightShape_any _ _ _ _ _ _ _ ins ys _ (HI.out.grown (HB.out _)) HIL.out (HY.out.grown (HB.out _)) HYL.out).mono ?_
    rintro e w1 ⟨rfl, hb1⟩
    rw [hrt]
    have hw1 := below_blk (HB.out _) hb1
    go_wp2
    go_ret
    exact ⟨rfl, hw1⟩
  · rw [hrt] at hr
    obtain ⟨he, rfl⟩ := hr.resolve_left (by simp)
    subst he
    have hn0 : n = 0 := HIL.out.symm
    subst hn0
    have cX : ∀ (B : Nat), (w.alloc (.cells #[.int .i64 t, .slice ai 0 c, .slice ap m d] 31)).cell? ⟨w.heap.size, 1, none⟩ = some (.slice ai 0 c) := fun _ => by rw [World.cell?_alloc_new]; rfl
    have cX := cX 0
    have hlX : w.heap.size < (w.alloc (.cells #[.int .i64 t, .slice ai 0 c, .slice ap m d] 31)).heap.size := by simp
    go_enter Try.func89, Try.ntmps89
    go_wp2_with fail
    refine (rightShape_any _ _ _ _ _ _ _ [] ys _ (HI.out.grown (HB.out _)) HIL.out (HY.out.grown (HB.out _)) HYL.out).mono ?_
    rintro e w1 ⟨rfl, hb1⟩
    rw [hrt]
    have hw1 := below_blk (HB.out _) hb1
    have cX1 := (hb1.cell (p := ⟨w.heap.size, 1, none⟩) hlX).trans cX
    clear cX hlX
    go_wp2
    go_ret
    exact ⟨rfl, hw1⟩
/-- what add finds when it has looked at all -/
structure AddIn (Ex : List (Nat × Value)) (w : World) (b o : Nat) (v : Value) (h : Int) (xs : List Cel) (ap : Option Addr) : Prop where
  ch : ChOwn Ex w b o v h xs
  len : xs.length ≤ 10000
  val : ∀ x ∈ xs, 0 ≤ x.val ∧ x.val ≤ 1099511627776
  hgt : 0 ≤ h ∧ h ≤ 100
  off : ∀ a, ap = some a → ¬ chE b v a.block
theorem info142 : (Try.prog.info? 142).map (fun i => (i.zero, i.size, i.bytes)) = some (some (.agg #[.int .i64 0, .int .i64 0, .int .i64 0, .int .i64 0, .int .i64 0, .int .i64 0]), 6, 48) := by kernel_rfl
theorem cel_one (x : Cel) : ∀ u ∈ x.l, u.oneCell' = true := by
  intro u hu
  simp [Cel.l] at hu
  rcases hu with rfl | rfl | rfl | rfl | rfl | rfl <;> rfl
/-- append to the chain's outputs, and the slice laid back -/
theorem ChOwn.push {w w1 : World} {b o : Nat} {v : Value} {h : Int} {xs : List Cel} {y : Cel} {g cap : Nat} (hc : ChOwn Ex w b o v h xs) (hown : OwnRec Cel.l 142 6 w1 (b + 1) (.slice (some ⟨g, 0, none⟩) (xs.length + 1) cap) (xs ++ [y])) (hg : w.grownBy w1 v.ownBlock) :
    ChOwn Ex (w1.setCell ⟨b, o, none⟩ (.slice (some ⟨g, 0, none⟩) (xs.length + 1) cap)) b o (.slice (some ⟨g, 0, none⟩) (xs.length + 1) cap) h (xs ++ [y]) := by
  have hvb : some b ≠ v.ownBlock := fun e => by have := (hc.own.blk b e.symm).1; omega
  have hgb : b + 1 ≤ g := (hown.blk g rfl).1
  have hl := cell_lt hc.c0
  refine ⟨World.cell?_setCell_same _ _ _ (gb_cell hg hc.c0 hvb), ?_, ?_, ?_, ?_, fun q hq => ⟨(hc.ext q hq).1, (hc.ext q hq).2.1, ?_⟩⟩
  · rw [World.cell?_setCell_other _ _ _ _ (by intro e; have := congrArg Addr.off e; simp only at this; omega)]
    exact gb_cell hg hc.c1 hvb
  · rw [World.frozen?_setCell]; exact (gb_frozen hg hl hvb).trans hc.f0
  · intro j; rw [World.frozen?_setCell]; exact (gb_frozen hg hl hvb).trans (hc.f1 j)
  · exact hown.gb (gb_set w1 b o _) (fun k hk e => by simp [Value.ownBlock] at hk; injection e with e; omega)
  · rw [World.cell?_setCell_other _ _ _ _ (by intro e; have := congrArg Addr.off e; simp only at this; exact (hc.ext q hq).1 this.symm)]
    exact gb_cell hg (hc.ext q hq).2.2 hvb
theorem ChStep.push {w w1 : World} {b o : Nat} {v : Value} {g n cap : Nat} (hg : w.grownBy w1 v.ownBlock) (hlies : v.ownBlock = some g ∨ w.heap.size ≤ g) : ChStep b v (.slice (some ⟨g, 0, none⟩) n cap) w (w1.setCell ⟨b, o, none⟩ (.slice (some ⟨g, 0, none⟩) n cap)) := by
  refine ⟨(Fr.of_gb hg (fun k hk _ => Or.inr hk)).set b o _ (fun _ => Or.inl rfl), fun k hk => ?_⟩
  simp [Value.ownBlock] at hk
  subst hk
  exact hlies
theorem ChStep.drew {b : Nat} {v v' : Value} {w w' : World} (h : ChStep b v v' w w') : ChStep b v v' w w'.drew := ⟨h.fr.drew, h.own⟩
set_option maxRecDepth 100000 in
set_option maxHeartbeats 40000000 in
theorem add_rest (b o : Nat) (v : Value) (h : Int) (xs : List Cel) (t : Int) (ai : Option Addr) (n c : Nat) (ap : Option Addr) (m d : Nat) (ins : List InD) (ys : List (Int × Int)) (first : Bool) (w : World)
    (hin : AddIn Ex w b o v h xs ap) (hi : InsAt w ai ins) (hil : ins.length = n) (hy : OutsAt w ap ys) (hyl : ys.length = m) (hr : ¬(rTx t ins ys = false ∨ (ins = [] ∧ first = false))) :
    Calls Try.prog 89 #[.pointer (some ⟨b, o, none⟩), .agg #[.int .i64 t, .slice ai n c, .slice ap m d], .bool first] w fun e w' => ∃ v', e = .returned (.int .i64 (addZ xs h t ins ys first).1) ∧ ChOwn Ex w' b o v' h (addZ xs h t ins ys first).2 ∧ ChStep b v v' w w' := by
  have hrt : rTx t ins ys = true := by
    cases hq : rTx t ins ys
    · exact absurd (Or.inl hq) hr
    · rfl
  obtain ⟨_, hn10, _, hm8, hout⟩ := rTx_parts hrt
  rw [hil] at hn10
  rw [hyl] at hm8
  have hfi : n = 0 → first = true := fun h0 => by
    cases first
    · exact absurd (Or.inr ⟨List.length_eq_zero_iff.1 (by rw [hil]; exact h0), rfl⟩) hr
    · rfl
  obtain ⟨ao, cc, hv, hcels⟩ := hin.ch.at
  subst hv
  have HIN : Hid (AddIn Ex w b o (.slice ao xs.length cc) h xs ap) := hin
  have HI : Hid (InsAt w ai ins) := hi
  have HY : Hid (OutsAt w ap ys) := hy
  have HIL : Hid (ins.length = n) := hil
  have HYL : Hid (ys.length = m) := hyl
  have HR : Hid (¬(rTx t ins ys = false ∨ (ins = [] ∧ first = false))) := hr
  have HO : Hid (∀ j, j < ys.length → rOut (ys.getD j (0, 0)) = true) := hout
  have hlen := hin.len
  have hgt := hin.hgt
  have HLX : Hid (xs.length ≤ 10000) := hlen
  clear hi hil hy hyl hin hcels hr hout hlen
  generalize hX : w.heap.size = X
  have HX : Hid (w.heap.size = X) := hX
  clear hX
  have bl0 : Below X w (w.alloc (.cells #[.int .i64 t, .slice ai n c, .slice ap m d] 31)) := by rw [← HX.out]; exact (Below.refl _ _).alloc (Nat.le_refl _) _
  have hz0 : (w.alloc (.cells #[.int .i64 t, .slice ai n c, .slice ap m d] 31)).heap.size = X + 1 := by rw [World.size_alloc, HX.out]
  have hv0 : VRow (w.alloc (.cells #[.int .i64 t, .slice ai n c, .slice ap m d] 31)) X 0 [.int .i64 t, .slice ai n c, .slice ap m d] := by
    have := vrow_new w [.int .i64 t, .slice ai n c, .slice ap m d] 31
    rw [HX.out] at this
    exact this
  go_enter Try.func89, Try.ntmps89
  go_upto_region 1 with fail
  generalize hw0 : w.alloc (.cells #[.int .i64 t, .slice ai n c, .slice ap m d] 31) = w0 at *
  clear hw0
  rw [HX.out]
  go_cut [28] (fun u wx => u = .bool false ∧ wx.cell? ⟨X, 0, none⟩ = some (.int .i64 t) ∧ wx.cell? ⟨X, 1, none⟩ = some (.slice ai n c) ∧ wx.cell? ⟨X, 2, none⟩ = some (.slice ap m d) ∧ Below X w wx ∧ X < wx.heap.size)
  case first =>
    have a0 := hv0 0 (by simp)
    have a1 := hv0 1 (by simp)
    have a2 := hv0 2 (by simp)
    simp only [Nat.zero_add, List.getD, List.getElem?_cons_zero, List.getElem?_cons_succ, Option.getD_some] at a0 a1 a2
    go_wp2_with fail
    have HI0 : Hid (InsAt w0 ai ins) := HI.out.grown (by rw [HX.out]; exact bl0)
    have HY0 : Hid (OutsAt w0 ap ys) := HY.out.grown (by rw [HX.out]; exact bl0)
    refine (rightShape_any _ _ _ _ _ _ _ ins ys _ HI0.out HIL.out HY0.out HYL.out).mono ?_
    rintro e w1 ⟨rfl, hb1⟩
    rw [hrt]
    have d0 : w1.cell? ⟨X, 0, none⟩ = some (.int .i64 t) := (hb1.cell (p := ⟨X, 0, none⟩) (by show X < _; omega)).trans a0
    have d1 : w1.cell? ⟨X, 1, none⟩ = some (.slice ai n c) := (hb1.cell (p := ⟨X, 1, none⟩) (by show X < _; omega)).trans a1
    have d2 : w1.cell? ⟨X, 2, none⟩ = some (.slice ap m d) := (hb1.cell (p := ⟨X, 2, none⟩) (by show X < _; omega)).trans a2
    have bl1 := bl0.trans (hb1.mono (by omega))
    have hz1 := hb1.size
    have hz1' : X < w1.heap.size := by omega
    clear bl0 hz0 hv0 hb1 HI0 HY0 hz1
    by_cases h0 : n = 0
    · have hft := hfi h0
      subst hft
      subst h0
      go_wp2_with fail
      go_meet
      exact ⟨rfl, d0, d1, d2, bl1, hz1'⟩
    · have h0' : ((n : Int) == 0) = false := by rw [beq_eq_false_iff_ne]; omega
      go_wp2_with fail
      go_meet
      exact ⟨rfl, d0, d1, d2, bl1, hz1'⟩
  case rest =>
    obtain ⟨rfl, d0, d1, d2, bl1, hz1⟩ := hcut
    clear bl0 hz0 hv0
    rename World => w1
    have HI1 : Hid (InsAt w1 ai ins) := HI.out.grown (by rw [HX.out]; exact bl1)
    have HY1 : Hid (OutsAt w1 ap ys) := HY.out.grown (by rw [HX.out]; exact bl1)
    have HC1 : Hid (ChOwn Ex w1 b o (.slice ao xs.length cc) h xs) := HIN.out.ch.grown (by rw [HX.out]; exact bl1)
    have HIDM : Hid (Mk.isM (idZ t ins ys) = true) := idZ_bd t ins ys
    go_wp2_with fail
    refine (txId_any _ _ _ _ _ _ _ ins ys _ HI1.out HIL.out HY1.out HYL.out).mono ?_
    rintro e w2 ⟨rfl, hb2⟩
    have d1' := (hb2.cell (p := ⟨X, 1, none⟩) hz1).trans d1
    have d2' := (hb2.cell (p := ⟨X, 2, none⟩) hz1).trans d2
    have bl2 := bl1.trans (hb2.mono (by omega))
    have hz2 : X < w2.heap.size := Nat.lt_of_lt_of_le hz1 hb2.size
    have HI2 : Hid (InsAt w2 ai ins) := HI1.out.grown hb2
    have HY2 : Hid (OutsAt w2 ap ys) := HY1.out.grown hb2
    have HC2 : Hid (ChOwn Ex w2 b o (.slice ao xs.length cc) h xs) := HC1.out.grown hb2
    clear d0 d1 d2 bl1 hz1 hb2 HI1 HY1 HC1
    generalize hid : idZ t ins ys = id at *
    have HID : Hid (idZ t ins ys = id) := hid
    clear hid
    obtain ⟨ao2, cc2, e2, hat2⟩ := HC2.out.at
    cases e2
    by_cases hh : hasId xs id = true
    · go_wp2_with (go_at_call 53; refine (hasId_any b o ao xs.length cc xs id _ HC2.out.c0 hat2 rfl (by have := HLX.out; omega)).mono ?_; rintro e w3 ⟨rfl, hb3⟩; rw [hh])
      go_ret
      have HE : Hid (addZ xs h t ins ys first = (4, xs)) := addZ_twice HR.out (by rw [HID.out]; exact hh)
      rw [HE.out]
      exact ⟨_, rfl, HC2.out.grown hb3, ChStep.of_below (by rw [HX.out]; exact bl2.trans (hb3.mono (by omega))) _ _⟩
    rw [Bool.not_eq_true] at hh
    go_wp2_with fail
    refine (hasId_any b o ao xs.length cc xs id _ HC2.out.c0 hat2 rfl (by have := HLX.out; omega)).mono ?_
    rintro e w3 ⟨rfl, hb3⟩
    rw [hh]
    have d1 := (hb3.cell (p := ⟨X, 1, none⟩) hz2).trans d1'
    have d2 := (hb3.cell (p := ⟨X, 2, none⟩) hz2).trans d2'
    have bl3 := bl2.trans (hb3.mono (by omega))
    have hz3 : X < w3.heap.size := Nat.lt_of_lt_of_le hz2 hb3.size
    have HI3 : Hid (InsAt w3 ai ins) := HI2.out.grown hb3
    have HY3 : Hid (OutsAt w3 ap ys) := HY2.out.grown hb3
    have HC3 : Hid (ChOwn Ex w3 b o (.slice ao xs.length cc) h xs) := HC2.out.grown hb3
    have HAT3 : Hid (CelsAt w3 ao xs) := CelsAt.grown hat2 hb3
    clear d1' d2' bl2 hz2 hb3 HI2 HY2 HC2 hat2
    go_wp2_with fail
    refine (spends_any b o ao xs.length cc xs ai n c ins _ HC3.out.c0 HAT3.out rfl (by have := HLX.out; omega) HI3.out HIL.out (by omega)).mono ?_
    rintro e w4 ⟨⟨vs, fs, rfl, hsn, hss⟩, hb4⟩
    have d2' := (hb4.cell (p := ⟨X, 2, none⟩) hz3).trans d2
    have bl4 := bl3.trans (hb4.mono (by omega))
    have hz4 : X < w4.heap.size := Nat.lt_of_lt_of_le hz3 hb4.size
    have HI4 : Hid (InsAt w4 ai ins) := HI3.out.grown hb4
    have HY4 : Hid (OutsAt w4 ap ys) := HY3.out.grown hb4
    have HC4 : Hid (ChOwn Ex w4 b o (.slice ao xs.length cc) h xs) := HC3.out.grown hb4
    have hz34 := hb4.size
    clear d1 d2 bl3 hb4 HI3 HY3
    cases hsp : spZ xs ins [] with
    | none =>
      have hf := hsn hsp
      subst hf
      go_wp2
      go_ret
      have HE : Hid (addZ xs h t ins ys first = (5, xs)) := addZ_coin HR.out (by rw [HID.out]; exact hh) hsp
      rw [HE.out]
      exact ⟨_, rfl, HC4.out, ChStep.of_below (by rw [HX.out]; exact bl4) _ _⟩
    | some ss =>
      obtain ⟨hft, hown4⟩ := hss ss hsp
      subst hft
      have HSP : Hid (spZ xs ins [] = some ss) := hsp
      clear hsn hss hsp
      have HSL : Hid (ss.length = n) := by show _ = _; rw [spZ_len xs ins [] ss HSP.out, HIL.out]; simp
      obtain ⟨av, cv, rfl, hat4⟩ := OwnRec.at sp4 hown4
      rw [HSL.out] at hown4 ⊢
      have HOW4 : Hid (OwnSp w4 w3.heap.size (.slice av n cv) ss) := hown4
      have HAT4 : Hid (RecAt SpD.v w4 av ss) := hat4
      have HQ : Hid (∀ s ∈ ss, (∃ q : Nat, q < xs.length ∧ s.pl = q) ∧ (0 ≤ s.val ∧ s.val ≤ 1099511627776) ∧ SpOk w4 s) := by
        refine spZ_good xs _ ins [] ss ?_ HSP.out (fun s hs => by simp at hs)
        intro i hi q hq _
        refine ⟨⟨q, hq, rfl⟩, HIN.out.val _ (getD_mem xs dC q hq), ?_⟩
        obtain ⟨j, hj, e⟩ := mem_getD dIn hi
        rcases HI4.out with hnil | ⟨gi, offi, _, hrow⟩
        · rw [hnil] at hj; simp at hj
        · have := (hrow j hj).2
          rw [← e] at this
          exact ⟨this.lies, this.len, this.sz⟩
      clear hown4 hat4
      cases hop : ss.all (opens id)
      · go_wp2_with (go_at_call 98; refine (allOpen_any av n cv ss id _ HIDM.out HAT4.out HSL.out (by omega) (fun j hj => (HQ.out _ (getD_mem ss dS j (by rw [HSL.out]; exact hj))).2.2)).mono ?_; rintro e w5 ⟨rfl, hb5⟩; rw [hop])
        go_ret
        have HE : Hid (addZ xs h t ins ys first = (6, xs)) := addZ_seal HR.out (by rw [HID.out]; exact hh) HSP.out (by rw [HID.out]; exact hop)
        rw [HE.out]
        exact ⟨_, rfl, HC4.out.grown hb5, ChStep.of_below (by rw [HX.out]; exact bl4.trans (hb5.mono (by omega))) _ _⟩
      · go_wp2_with fail
        refine (allOpen_any av n cv ss id _ HIDM.out HAT4.out HSL.out (by omega) (fun j hj => (HQ.out _ (getD_mem ss dS j (by rw [HSL.out]; exact hj))).2.2)).mono ?_
        rintro e w5 ⟨rfl, hb5⟩
        rw [hop]
        have d2 := (hb5.cell (p := ⟨X, 2, none⟩) hz4).trans d2'
        have bl5 := bl4.trans (hb5.mono (by omega))
        have hz5 : X < w5.heap.size := Nat.lt_of_lt_of_le hz4 hb5.size
        have hz35 := Nat.le_trans hz34 hb5.size
        have HY5 : Hid (OutsAt w5 ap ys) := HY4.out.grown hb5
        have HC5 : Hid (ChOwn Ex w5 b o (.slice ao xs.length cc) h xs) := HC4.out.grown hb5
        have HOW5 : Hid (OwnSp w5 w3.heap.size (.slice av n cv) ss) := OwnRec.grown HOW4.out hb5
        have HAT5 : Hid (RecAt SpD.v w5 av ss) := HAT4.out.grown hb5
        have HQ5 : Hid (∀ s ∈ ss, (∃ q : Nat, q < xs.length ∧ s.pl = q) ∧ (0 ≤ s.val ∧ s.val ≤ 1099511627776)) := fun s hs => ⟨(HQ.out s hs).1, (HQ.out s hs).2.1⟩
        clear d2' bl4 hz4 hb5 HY4 HC4 HOW4 HAT4 HQ hz34 HI4
        go_wp2_with fail
        refine (sumSpends_any av n cv ss _ HAT5.out HSL.out (by omega) (fun s hs => (HQ5.out s hs).2)).mono ?_
        rintro e w6 ⟨rfl, hb6⟩
        have d2' := (hb6.cell (p := ⟨X, 2, none⟩) hz5).trans d2
        have bl6 := bl5.trans (hb6.mono (by omega))
        have hz6 : X < w6.heap.size := Nat.lt_of_lt_of_le hz5 hb6.size
        have hz36 := Nat.le_trans hz35 hb6.size
        have HY6 : Hid (OutsAt w6 ap ys) := HY5.out.grown hb6
        have HC6 : Hid (ChOwn Ex w6 b o (.slice ao xs.length cc) h xs) := HC5.out.grown hb6
        have HOW6 : Hid (OwnSp w6 w3.heap.size (.slice av n cv) ss) := OwnRec.grown HOW5.out hb6
        clear d2 bl5 hz5 hb6 HY5 HC5 HOW5 HAT5 hz35
        have HSO : Hid (∀ x ∈ ys, 0 ≤ x.2 ∧ x.2 ≤ 1099511627776) := by
          intro x hx
          obtain ⟨j, hj, e⟩ := mem_getD (0, 0) hx
          have := rOut_bd (HO.out j hj)
          rw [← e] at this
          omega
        go_wp2_with fail
        refine (sumOuts_any ap m d ys _ HY6.out HYL.out (by omega) HSO.out).mono ?_
        rintro e w7 ⟨rfl, hb7⟩
        have d2 := (hb7.cell (p := ⟨X, 2, none⟩) hz6).trans d2'
        have bl7 := bl6.trans (hb7.mono (by omega))
        have hz7 : X < w7.heap.size := Nat.lt_of_lt_of_le hz6 hb7.size
        have hz37 := Nat.le_trans hz36 hb7.size
        have HY7 : Hid (OutsAt w7 ap ys) := HY6.out.grown hb7
        have HC7 : Hid (ChOwn Ex w7 b o (.slice ao xs.length cc) h xs) := HC6.out.grown hb7
        have HOW7 : Hid (OwnSp w7 w3.heap.size (.slice av n cv) ss) := OwnRec.grown HOW6.out hb7
        clear d2' bl6 hz6 hb7 HY6 HC6 HOW6 hz36
        by_cases h7 : 0 < n ∧ sumSp ss < sumOu ys
        · obtain ⟨h70, h71⟩ := h7
          have HE : Hid (addZ xs h t ins ys first = (7, xs)) := addZ_sum HR.out (by rw [HID.out]; exact hh) HSP.out (by rw [HID.out]; exact hop) ⟨fun e => by have := HSL.out; rw [e] at this; simp at this; omega, h71⟩
          go_wp2
          go_ret
          rw [HE.out]
          exact ⟨_, rfl, HC7.out, ChStep.of_below (by rw [HX.out]; exact bl7) _ _⟩
        · have HE : Hid (addZ xs h t ins ys first = (0, markZ h xs ss ++ newC id h ys ys.length)) := by
            have := addZ_ok (h := h) HR.out (by rw [HID.out]; exact hh) HSP.out (by rw [HID.out]; exact hop) (fun hc => h7 ⟨by rw [← HSL.out]; exact List.length_pos_iff.2 hc.1, hc.2⟩)
            rw [HID.out] at this
            exact this
          go_upto_region 13 with fail
          go_cut [59] (fun u wx => u = .bool false ∧ w7 = wx)
          case first =>
            by_cases h0 : n = 0
            · have g1 : decide ((0 : Int) < (n : Int)) = false := by rw [decide_eq_false_iff_not]; omega
              go_wp2_with fail
              go_meet
              exact ⟨rfl, rfl⟩
            · have g1 : decide ((0 : Int) < (n : Int)) = true := by rw [decide_eq_true_iff]; omega
              have g2 : decide (sumSp ss < sumOu ys) = false := by rw [decide_eq_false_iff_not]; intro hc; exact h7 ⟨by omega, hc⟩
              go_wp2_with fail
              go_meet
              exact ⟨rfl, rfl⟩
          case rest =>
            obtain ⟨rfl, rfl⟩ := hcut
            clear h7
            generalize hv : Value.slice ao xs.length cc = v at *
            have HV : Hid (Value.slice ao xs.length cc = v) := hv
            clear hv
            go_wp2
            go_loopw [62] (fun i wr => ∃ k : Nat, k ≤ n ∧ i = .int .i64 k ∧ ChOwn Ex wr b o v h (markZ h xs (ss.take k)) ∧ Fr (chE b v) w7 wr) (fun i _ => n - (intOf i).toNat)
            case atStart => exact ⟨0, Nat.zero_le _, rfl, HC7.out, Fr.refl _ _⟩
            case round =>
              obtain ⟨k, hk, rfl, hch, hfr⟩ := hrel
              have hz := hfr.size
              by_cases hlt : k < n
              · obtain ⟨gs, hgs, hs1, hs2, hsrow, _⟩ := own_some sp4 HOW7.out HSL.out (by omega)
                subst hgs
                have hnE : ¬ chE b v gs := fun e => by have := (HC3.out.blk gs e).2; omega
                obtain ⟨s0, s1, s2, s3⟩ := spCells (hfr.vrow hsrow hnE) k (by rw [HSL.out]; exact hlt)
                rw [Nat.zero_add] at s0 s1 s2 s3
                obtain ⟨⟨q, hq, hpl⟩, _⟩ := HQ5.out _ (getD_mem ss dS k (by rw [HSL.out]; exact hlt))
                have HT : Hid _ := markZ_take h xs ss k (by rw [HSL.out]; exact hlt)
                generalize ss.getD k dS = y at s0 s1 s2 s3 hpl HT
                obtain ⟨ypl, yto, yval, yao, yn, yc, yl⟩ := y
                simp only at s0 s1 s2 s3 hpl HT
                subst hpl
                rw [show ((q : Int)).toNat = q from Int.toNat_natCast q] at HT
                have hml : (markZ h xs (ss.take k)).length = xs.length := markZ_len h _ xs
                have HML : Hid ((markZ h xs (ss.take k)).length = xs.length) := hml
                rw [← HV.out] at hch
                obtain ⟨g, hg, hg1, hg2, hcrow, hfz⟩ := own_some cel6 hch.own hml (by omega)
                subst hg
                have hq' : q < (markZ h xs (ss.take k)).length := by rw [hml]; exact hq
                have cz := (celCells hcrow q hq').c5
                rw [Nat.zero_add] at cz
                clear hsrow hnE hml hcrow
                generalize hxk : markZ h xs (ss.take k) = xk at *
                rw [← HML.out] at hch
                go_upto_region 18 with fail
                have hI0 : (wr.alloc (.cells #[.int .i64 q, .int .i64 yto, .int .i64 yval, .slice yao yn yc] 165)).cell? ⟨wr.heap.size, 0, none⟩ = some (.int .i64 q) := by rw [World.cell?_alloc_new]; rfl
                have hblA : Below wr.heap.size wr (wr.alloc (.cells #[.int .i64 q, .int .i64 yto, .int .i64 yval, .slice yao yn yc] 165)) := (Below.refl _ _).alloc (Nat.le_refl _) _
                have cz' := (hblA.cell (p := ⟨g, q * 6 + 5, none⟩) hg2).trans cz
                have fz' := (hblA.frozen (p := ⟨g, q * 6 + 5, none⟩) hg2).trans (hfz (q * 6 + 5))
                have hch' := hch.alloc (.cells #[.int .i64 q, .int .i64 yto, .int .i64 yval, .slice yao yn yc] 165)
                have hfr' := hfr.alloc (.cells #[.int .i64 q, .int .i64 yto, .int .i64 yval, .slice yao yn yc] 165)
                generalize wr.alloc (.cells #[.int .i64 q, .int .i64 yto, .int .i64 yval, .slice yao yn yc] 165) = wa at *
                have c0 := hch'.c0
                have c1 := hch'.c1
                have HCH : Hid (ChOwn Ex (wa.setCell ⟨g, q * 6 + 5, none⟩ (.int .i64 h)).drew b o (.slice (some ⟨g, 0, none⟩) xk.length cc) h (xk.set q ((xk.getD q dC).sp h))) := (hch'.mark q hq' h).drew
                have HFR : Hid (Fr (chE b v) w7 (wa.setCell ⟨g, q * 6 + 5, none⟩ (.int .i64 h)).drew) := (hfr'.set g (q * 6 + 5) _ (fun _ => Or.inr (by rw [← HV.out]; rfl))).drew
                have hb0 := cell_lt hch.c0
                have nb1 : g ≠ b := by omega
                have nb2 : g ≠ wr.heap.size := by omega
                have nb3 : b ≠ wr.heap.size := by omega
                generalize wr.heap.size = I at *
                have e1 : (q : Int) < (xk.length : Int) := by omega
                have e2 : (0 : Int) ≤ (q : Int) := by omega
                clear hch hch' hfr hfr' s0 s1 s2 s3 cz hblA hfz
                go_region_held3 (fun w' => w'.cell? ⟨b, o, none⟩ = some (.slice (some ⟨g, 0, none⟩) xk.length cc) ∧ w'.cell? ⟨b, o + 1, none⟩ = some (.int .i64 h) ∧ w'.cell? ⟨I, 0, none⟩ = some (.int .i64 q)) (go_keep) (fail)
                go_wp2
                go_roundw
                case rel => exact ⟨k + 1, by omega, by go_num, by rw [HT.out, ← HV.out, ← HML.out]; exact HCH.out, HFR.out⟩
                case measure => simp [intOf]; omega
              · have hkn : k = n := by omega
                subst hkn
                rw [List.take_of_length_le (by rw [HSL.out]; omega)] at hch
                have hXE : ¬ chE b v X := fun e => by have := (HIN.out.ch.blk X e).2; rw [HX.out] at this; omega
                have d2' := hfr.cell d2 hXE
                have HCH0 : Hid (ChOwn Ex wr b o v h (markZ h xs ss)) := hch
                have HST0 : Hid (ChStep b v v w7 wr) := ⟨hfr, fun _ hk => Or.inl hk⟩
                have HML : Hid ((markZ h xs ss).length = xs.length) := markZ_len h ss xs
                clear hch hfr hlt d2 hz
                generalize markZ h xs ss = xm at *
                go_wp2
                go_loopw [82] (fun i wr => ∃ (j : Nat) (v' : Value), j ≤ m ∧ i = .int .i64 j ∧ ChOwn Ex wr b o v' h (xm ++ newC id h ys j) ∧ ChStep b v v' w7 wr) (fun i _ => m - (intOf i).toNat)
                case atStart => exact ⟨0, v, Nat.zero_le _, rfl, by simpa [newC] using HCH0.out, HST0.out⟩
                case round =>
                  obtain ⟨j, v', hj, rfl, hch, hst⟩ := hrel
                  have hz := hst.fr.size
                  by_cases hjt : j < m
                  · rcases HY7.out with hnil | ⟨gy, offy, rfl, hyrow⟩
                    · have := HYL.out; rw [hnil] at this; simp at this; omega
                    have hyE : ¬ chE b v gy := HIN.out.off _ rfl
                    obtain ⟨y0, y1⟩ := hyrow j (by rw [HYL.out]; exact hjt)
                    have y0 := hst.fr.cell y0 hyE
                    have y1 := hst.fr.cell y1 hyE
                    have HN : Hid _ := newC_snoc id h ys j
                    generalize ys.getD j (0, 0) = y at y0 y1 HN
                    obtain ⟨yto, yval⟩ := y
                    simp only at y0 y1 HN
                    have hln : (newC id h ys j).length = j := by simp [newC]
                    have HLN : Hid ((xm ++ newC id h ys j).length ≤ 20000) := by show _ ≤ _; rw [List.length_append, hln, HML.out]; have := HLX.out; omega
                    have HAP : Hid (xm ++ newC id h ys (j + 1) = (xm ++ newC id h ys j) ++ [⟨id, j, yto, yval, h, -1⟩]) := by show _ = _; rw [HN.out, List.append_assoc]
                    clear hyrow hyE HN hln
                    generalize xm ++ newC id h ys j = xj at *
                    go_upto_region 23 with fail
                    have hJ0 : (wr.alloc (.cells #[.int .i64 yto, .int .i64 yval] 68)).cell? ⟨wr.heap.size, 0, none⟩ = some (.int .i64 yto) := by rw [World.cell?_alloc_new]; rfl
                    have hJ1 : (wr.alloc (.cells #[.int .i64 yto, .int .i64 yval] 68)).cell? ⟨wr.heap.size, 1, none⟩ = some (.int .i64 yval) := by rw [World.cell?_alloc_new]; rfl
                    have hch' := hch.alloc (.cells #[.int .i64 yto, .int .i64 yval] 68)
                    have hst' := hst.trans (ChStep.of_below ((Below.refl wr.heap.size wr).alloc (Nat.le_refl _) (.cells #[.int .i64 yto, .int .i64 yval] 68)) b v')
                    generalize wr.alloc (.cells #[.int .i64 yto, .int .i64 yval] 68) = wa at *
                    have hvb := hch.own.blk
                    have hJv : some wr.heap.size ≠ v'.ownBlock := fun e => Nat.lt_irrefl _ (hvb _ e.symm).2
                    have hbv : some b ≠ v'.ownBlock := fun e => Nat.not_succ_le_self _ (hvb _ e.symm).1
                    have hJb : wr.heap.size ≠ b := fun e => by have := cell_lt hch.c0; simp only at this; omega
                    clear hvb
                    generalize wr.heap.size = J at *
                    clear hch hst y0 y1
                    have c0 := hch'.c0
                    have c1 := hch'.c1
                    have f0 := hch'.f0
                    have hbl : b < wa.heap.size := cell_lt c0
                    have n0 := World.new_ne wa ⟨b, o, none⟩ c0
                    have HOWN : Hid (OwnRec Cel.l 142 6 wa (b + 1) v' xj) := hch'.own
                    have HCH : Hid (ChOwn Ex wa b o v' h xj) := hch'
                    have HST : Hid (ChStep b v v' w7 wa) := hst'
                    clear hch' hst'
                    go_region_law (refine step_appR 72 48 _ Try.underlying72 info142 rfl (by decide) cel6 cel_one _ ?_ (.tmp 91) (.tmp 103) ?_ (b + 1) wa.heap.size 1 v' xj ⟨id, j, yto, yval, h, -1⟩ ?_ ?_ ?_ ?_ ?_ ?_ ?_ ?_; rfl; rfl; rfl; rfl; exact OwnRec.drew (HOWN.out.alloc _); exact VRow.drew (vrow_new wa _ _); (rw [World.size_drew, World.size_alloc]; omega); (have := HLN.out; unfold maxLen; omega); (have := HLN.out; omega); intro g cap w2 hown2 hg2 hl2 hlt2; have k0 := keepO hg2 c0 hbv; have k1 := keepF hg2 f0 hbl hbv)
                    all_goals
                      go_wp2
                      go_roundw
                      case rel => exact ⟨j + 1, .slice (some ⟨g, 0, none⟩) (xj.length + 1) cap, by omega, by go_num, by rw [HAP.out]; exact (HCH.out.alloc _).drew.push hown2 hg2, HST.out.trans ((ChStep.of_below ((Below.refl wa.heap.size wa).alloc (Nat.le_refl _) _).drew b v').trans (ChStep.push hg2 hl2))⟩
                      case measure => simp [intOf]; omega
                  · have hjm : j = m := by omega
                    subst hjm
                    have HFIN : Hid (ChStep b v v' w wr) := by
                      have h1 : ChStep b v v w w7 := ChStep.of_below (by rw [HX.out]; exact bl7) _ _
                      exact h1.trans hst
                    rw [← HYL.out] at hch
                    go_wp2
                    go_ret
                    rw [HE.out]
                    exact ⟨v', rfl, hch, by rw [HV.out]; exact HFIN.out⟩
end Go.Proofs.Ytffgpepngcnjeab
