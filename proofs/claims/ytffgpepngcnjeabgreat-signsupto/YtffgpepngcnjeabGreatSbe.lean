import Derived.Test.YtffgpepngcnjeabGreatSbd
namespace Go.Proofs.YtffgpepngcnjeabGreat
set_option maxRecDepth 100000
set_option maxHeartbeats 8000000
section
open Go.RowKit
variable {col col' col4 : NtN} {z Dr q m g k G P D nx nxd K K2 base2 base ni ci np cp nk ck mi di mp dp mk dk n q' : Nat} {L : List (CoinD × Nat)} {w w1 w2 w' wx wy wa wb w3 w0 : World} {xs : List Cel} {E N XE Lx : NPr} {v v0 v1 v2 v3 v4 v5 u0 u1 u2 u3 u4 u5 vo vi : Value} {s r tag md1 nx1 er er2 md ch n0 t m0 t2 ch2 br : Int} {a a1 : PgP} {b b1 : DgP} {ys ks zs : LII} {cs : List CoinD} {ps : List PayD} {ai ap ak bi bp bk : OAd} {ms : List MadeD} {p : PayD}
theorem KeptM.pre {L : NPr} (h : KeptM col z Dr q m L w1 w2) (hb : Below w.heap.size w w1) : KeptM col z Dr q m L w w2 := by
 obtain ⟨c1, h1, h2, h3, h4⟩ := h
 exact ⟨c1, h1, h2, (Fr.of_below hb _).trans h3, fun k e1 e2 e3 => h4 k e1 (ltL e2 hb.size) e3⟩
theorem InsH.mv {xs : List InD} (h : InsH col w g xs) (hf : Fr E w w') (hg : ¬ E g) (hE : ∀ k, slB xs xs.length k → ¬ E k ∧ col' k = 0) : InsH col' w' g xs :=
 ⟨fun j hj => hf.cell (h.c2 j hj) hg, fun j hj => (h.hd j hj).mv hf (fun b hb => hE b ⟨j, hj, hb⟩), h.ng, h.ne⟩
theorem HdI.mv {xs : List InD} (h : HdI col w v xs) (hf : Fr E w w') (hE : ∀ k, (v.ownBlock = some k ∨ slB xs xs.length k) → ¬ E k ∧ col' k = 0) : HdI col' w' v xs := by
 rcases h with h | ⟨g, n, cc, rfl, h1, h2, h3, h4, h5, h6, h7⟩
 ·exact Or.inl h
 ·exact Or.inr ⟨g, n, cc, rfl, Room.fr hf h1 (hE g (Or.inl rfl)).1, (hE g (Or.inl rfl)).2, ltL h3 hf.size, h4, h5, h6.mv hf (hE g (Or.inl rfl)).1 (fun k hk => hE k (Or.inr hk)), h7⟩
theorem HdD.blk (h : HdD k col w v) : ∀ g, v.ownBlock = some g → col g = 0 ∧ g < w.heap.size := fun g hg => by
 rcases h with h | ⟨g', n, cc, rfl, _, h2, h3, _, _⟩
 ·rw [h] at hg; cases hg
 ·simp [Value.ownBlock] at hg; subst hg; exact ⟨h2, h3⟩
theorem HdI.blk {xs : List InD} (h : HdI col w v xs) : ∀ k, (v.ownBlock = some k ∨ slB xs xs.length k) → col k = 0 ∧ k < w.heap.size := fun k hk => by
 rcases h with ⟨h, h'⟩ | ⟨g', n, cc, rfl, _, h2, h3, _, _, h6, _⟩
 ·rcases hk with e | ⟨i, hi, _⟩
  ·rw [h] at e; cases e
  ·rw [h'] at hi; exact absurd hi (Nat.not_lt_zero _)
 ·rcases hk with e | ⟨i, hi, e⟩
  ·simp [Value.ownBlock] at e; subst e; exact ⟨h2, h3⟩
  ·exact (h6.hd i hi).blk k e
theorem keepTx_any (col : NtN) (z Dr q : Nat) (t : Int) (ai : OAd) (n c : Nat) (xs : List InD) (ap : OAd) (m d : Nat) (w : World) (hd : DrA col z w Dr q) (hz : ∀ k, w.heap.size ≤ k → col k = 0) (hi : HdI col w (.slice ai n c) xs) (ho : HdD 2 col w (.slice ap m d)) (hne : ∀ k, (Value.slice ap m d).ownBlock = some k → ¬ ((Value.slice ai n c).ownBlock = some k ∨ slB xs xs.length k)) (hn : xs.length ≤ 1000) (hq : q ≤ 18000000) :
 Calls Tryz.prog 116 #[.pointer (some ⟨Dr, 0, none⟩), .agg #[.int .i64 t, .slice ai n c, .slice ap m d]] w fun e w' => e = .returned (.tuple #[]) ∧ KeptM col z Dr q (xs.length + 2) (fun k => ((Value.slice ai n c).ownBlock = some k ∨ slB xs xs.length k) ∨ (Value.slice ap m d).ownBlock = some k) w w' := by
 have hb1 : Below w.heap.size w (w.alloc (.cells #[.int .i64 t, .slice ai n c, .slice ap m d] 35)) := (Below.refl _ _).alloc leR _
 have hv := vwW w [.int .i64 t, .slice ai n c, .slice ap m d] 35
 have x1 : (w.alloc (.cells #[.int .i64 t, .slice ai n c, .slice ap m d] 35)).cell? ⟨w.heap.size, 1, none⟩ = some (.slice ai n c) := hv 1 (by simp)
 have x2 : (w.alloc (.cells #[.int .i64 t, .slice ai n c, .slice ap m d] 35)).cell? ⟨w.heap.size, 2, none⟩ = some (.slice ap m d) := hv 2 (by simp)
 have HD1 := hiD (hd.grown hb1)
 have HI1 : Hid (HdI col (w.alloc (.cells #[.int .i64 t, .slice ai n c, .slice ap m d] 35)) (.slice ai n c) xs) := hi.mv (Fr.of_below hb1 (fun _ => False)) (fun k hk => ⟨fun h => h, (hi.blk k hk).1⟩)
 have HO1 : Hid (HdD 2 col (w.alloc (.cells #[.int .i64 t, .slice ai n c, .slice ap m d] 35)) (.slice ap m d)) := ho.mv (Fr.of_below hb1 (fun _ => False)) (fun k hk => ⟨fun h => h, (ho.blk k hk).1⟩)
 have HZ1 : Hid (∀ k, (w.alloc (.cells #[.int .i64 t, .slice ai n c, .slice ap m d] 35)).heap.size ≤ k → col k = 0) := fun k hk => hz k (by rw [World.size_alloc] at hk; omega)
 have HX : Hid (col w.heap.size = 0 ∧ ¬ ((Value.slice ai n c).ownBlock = some w.heap.size ∨ slB xs xs.length w.heap.size)) := ⟨hz _ leR, fun e => by have := (hi.blk _ e).2; omega⟩
 have HNE := hiD hne
 have HB1 := hiD hb1
 clear hd hz hi ho hne hv hb1
 go_enter Tryz.func116, Tryz.ntmps116
 go_wp2_with fail
 generalize w.alloc (.cells #[.int .i64 t, .slice ai n c, .slice ap m d] 35) = w1 at *
 generalize hX : w.heap.size = X at *
 have HXe := hiD hX
 clear hX
 refine (keepIns_any col z Dr q (.slice ai n c) xs _ HD1 HZ1 HI1 hn (by omega)).mono ?_
 rintro e w2 ⟨rfl, hk2⟩
 have HK2 : Hid _ := hk2
 obtain ⟨c2, y1, y2, y3, y4⟩ := hk2
 have x22 := y3.cell x2 (fun e => e.elim (fun e => by rw [HX.out.1] at e; omega) HX.out.2)
 have HO2 : Hid (HdD 2 c2 w2 (.slice ap m d)) := HO1.out.mv y3 (fun k hk => ⟨fun e => e.elim (fun e => by have := (HO1.out.blk k hk).1; omega) (HNE.out k hk), y4 k (HO1.out.blk k hk).1 (HO1.out.blk k hk).2 (HNE.out k hk)⟩)
 have HZ2 : Hid (∀ k, w2.heap.size ≤ k → c2 k = 0) := Ext.zero (w := w1) y1 y3.size HZ1.out
 have HY2 := hiD y2
 have HFIN : Hid (∀ w3, KeptR c2 z Dr (q + (xs.length + 1)) (fun k => (Value.slice ap m d).ownBlock = some k) w2 w3 → KeptM col z Dr q (xs.length + 2) (fun k => ((Value.slice ai n c).ownBlock = some k ∨ slB xs xs.length k) ∨ (Value.slice ap m d).ownBlock = some k) w1 w3) := fun w3 h3 => by
  obtain ⟨c3, v1, v2, v3, v4⟩ := h3
  refine ⟨c3, y1.trans v1 v3.size, by rw [show q + (xs.length + 2) = q + (xs.length + 1) + 1 by omega]; exact v2, ⟨v3.os.trans y3.os, v3.tape.trans y3.tape, v3.output.trans y3.output, leT y3.size v3.size, fun k hk he => ?_⟩, fun k f1 f2 f3 => v4 k (y4 k f1 f2 (fun e => f3 (Or.inl e))) (ltL f2 y3.size) (fun e => f3 (Or.inr e))⟩
  have he1 : ¬ ((z + 13 ≤ col k ∧ col k ≤ z + 23) ∨ ((Value.slice ai n c).ownBlock = some k ∨ slB xs xs.length k)) := fun e => he (e.imp id Or.inl)
  refine (v3.block k (ltL hk y3.size) (fun e => ?_)).trans (y3.block k hk he1)
  rcases e with e | e
  ·rcases y1 k with e2 | e2
   ·exact he (Or.inl (by omega))
   ·have := y4 k e2.1 hk (fun e => he1 (Or.inr e)); omega
  ·exact he (Or.inr (Or.inr e))
 clear x1 x2 y1 y2 y3 y4 HK2 HD1 HI1 HO1
 go_wp2_with fail
 refine (keepOuts_any c2 z Dr (q + (xs.length + 1)) (.slice ap m d) _ HY2 HZ2 HO2 (by omega)).mono ?_
 rintro e w3 ⟨rfl, hk3⟩
 have HK3 : Hid _ := HFIN.out w3 hk3
 clear hk3 x22
 go_wp2
 go_end0
 refine ⟨rfl, ?_⟩
 exact KeptM.pre HK3 (by rw [HXe.out]; exact HB1)
theorem info36 : (Tryz.prog.info? 36).map (fun i => (i.zero, i.size, i.bytes)) = some (some (.slice none 0 0), 1, 24) := by kernel_rfl
theorem keepKeys_some (col : NtN) (z Dr q g n cc : Nat) (w : World) (hd : DrA col z w Dr q) (hz : ∀ k, w.heap.size ≤ k → col k = 0) (hr : Room w g (cc * 2)) (hgc : col g = 0) (hgw : g < w.heap.size) (hnc : n ≤ cc) (hq : q ≤ 20000000) (hcc : cc ≤ 9223372036854775807) :
 Calls Tryz.prog 117 #[.pointer (some ⟨Dr, 0, none⟩), .slice (some ⟨g, 0, none⟩) n cc] w fun e w' => e = .returned (.tuple #[]) ∧ KeptR col z Dr q (fun k => k = g) w w' := by
 obtain ⟨z0, n0⟩ := hd.n0
 have f0 := hd.fz 0
 have hDl : Dr < w.heap.size := hd.lt
 have hDg : Dr ≠ g := fun e => by have := hd.kd; rw [e, hgc] at this; omega
 have HR := hiD hr
 have HKD := hiD hd.kd
 have HZ := hiD hz
 have HLZ : Hid (∀ k, k = g → col k = 0) := fun k e => by rw [e]; exact hgc
 have e0 : (0 : Int) ≤ (cc : Int) := by omega
 have e1 : (cc : Int) ≤ (cc : Int) := by omega
 obtain ⟨z1, hz1e⟩ : ∃ z1, IntKind.i64.wrap (z0 + 1) = z1 := ⟨_, rfl⟩
 have HD1 : Hid (DrA col z (w.setCell ⟨Dr, 0, none⟩ (.int .i64 z1)) Dr q) := (hd.tick z1).1
 have c1 := (hd.tick z1).2
 have HW1 : Hid (Wrote (fun k => k = g ∨ k = Dr) w (w.setCell ⟨Dr, 0, none⟩ (.int .i64 z1))) := (Wrote.refl _ w).set Dr 0 _ (Or.inr rfl)
 have HS1 : Hid ((w.setCell ⟨Dr, 0, none⟩ (.int .i64 z1)).heap.size = w.heap.size) := by show _ = _; simp
 clear hd hr hz hgc
 go_enter Tryz.func117, Tryz.ntmps117
 go_wp2
 clear hz1e
 generalize w.setCell ⟨Dr, 0, none⟩ (.int .i64 z1) = w1 at *
 clear n0 f0
 go_loopw [5] (fun i wr => ∃ j : Nat, j ≤ cc ∧ i = .int .i64 j ∧ Wrote (fun k => k = g) w1 wr ∧ Hid (VRow wr g 0 ((List.replicate j z1).flatMap (ptF 4)))) (fun i _ => cc - (intOf i).toNat)
 case atStart => exact ⟨0, Nat.zero_le _, rfl, Wrote.refl _ _, fun j hj => by simp at hj⟩
 case round =>
  obtain ⟨j, hj, rfl, hw, hv⟩ := hrel
  have m0 := hw.fr.cell c1 hDg
  by_cases hjt : j < cc
  ·have hro := (HW1.out.trans (hw.weak (fun k _ e => Or.inl e))).room _ _ HR.out
   obtain ⟨v0, d0⟩ := hro.here (j * 2) (by omega)
   obtain ⟨v1, d1⟩ := hro.here (j * 2 + 1) (by omega)
   have fz0 := hro.free (j * 2) (by omega)
   have fz1 := hro.free (j * 2 + 1) (by omega)
   have e2 : (0 : Int) ≤ (j : Int) := by omega
   have e3 : (j : Int) < (cc : Int) := by omega
   have hgD : g ≠ Dr := fun e => hDg e.symm
   have HWW := hiD hw
   have HLL : Hid (((List.replicate j z1).flatMap (ptF 4)).length = j * 2) := rep_len (ptF 4) 2 (fun _ => rfl) j z1
   have HSN : Hid ((List.replicate (j + 1) z1).flatMap (ptF 4) = (List.replicate j z1).flatMap (ptF 4) ++ ptF 4 z1) := rep_snoc (ptF 4) j z1
   have HP0 := hiD hv.out
   have HP1 : Hid (VRow (wr.setCell ⟨g, j * 2, none⟩ (.int .i64 z1)) g 0 (((List.replicate j z1).flatMap (ptF 4)) ++ [.int .i64 z1])) := VRow.put HP0.out (n := j * 2) (by have := HLL.out; omega) _ ⟨_, d0⟩
   have HP2 : Hid (VRow ((wr.setCell ⟨g, j * 2, none⟩ (.int .i64 z1)).setCell ⟨g, j * 2 + 1, none⟩ (.int .i64 z1)) g 0 ((((List.replicate j z1).flatMap (ptF 4)) ++ [.int .i64 z1]) ++ [.int .i64 z1])) := VRow.put HP1.out (n := j * 2 + 1) (by simp only [List.length_append, List.length_cons, List.length_nil]; have := HLL.out; omega) _ ⟨_, so (d1) (by omega)⟩
   have HPF : Hid (VRow ((wr.setCell ⟨g, j * 2, none⟩ (.int .i64 z1)).setCell ⟨g, j * 2 + 1, none⟩ (.int .i64 z1)) g 0 ((List.replicate (j + 1) z1).flatMap (ptF 4))) := by show VRow _ _ _ _; rw [HSN.out]; show VRow _ g 0 ((List.replicate j z1).flatMap (ptF 4) ++ [.int .i64 z1, .int .i64 z1]); have := HP2.out; simpa only [List.append_assoc, List.cons_append, List.nil_append] using this
   clear hro hw hv HP0 HP1 HP2
   go_wp2
   go_region
   all_goals
    go_wp2
    go_roundw
    case rel => exact ⟨j + 1, by omega, by go_num, ((HWW.out.set g (j * 2) _ rfl).set g (j * 2 + 1) _ rfl).drew, HPF⟩
    case measure => simp [intOf]; omega
  ·have hjc : j = cc := by omega
   subst hjc
   have hwz := hw.fr.size
   have hD2 : DrA col z wr Dr q := HD1.out.mv hw.fr (fun k e => by rw [e, HLZ.out g rfl]; omega) (fun _ _ => rfl) leR
   have HXK : Hid (KeptAt (ptF 4) wr ⟨some ⟨g, 0, none⟩, j, j⟩ z1) := Or.inr ⟨g, rfl, hv.out⟩
   have HXC : Hid (∀ k, (CbD.mk (some ⟨g, 0, none⟩) j j).blk = some k → col k = 0 ∧ k < wr.heap.size) := fun k hk => by
    unfold CbD.blk at hk
    split at hk
    ·cases hk
    ·simp only [Option.map_some, Option.some.injEq] at hk
     subst hk
     exact ⟨HLZ _ rfl, by have := HS1.out; omega⟩
   have HXL : Hid (∀ k, (CbD.mk (some ⟨g, 0, none⟩) j j).blk = some k → k = g) := fun k hk => by
    unfold CbD.blk at hk
    split at hk
    ·cases hk
    ·simp only [Option.map_some, Option.some.injEq] at hk
     exact hk.symm
   have HZR : Hid (∀ k, wr.heap.size ≤ k → col k = 0) := fun k hk => HZ.out k (by have := HS1.out; omega)
   have HFW : Hid (Fr (fun k => k = Dr ∨ k = g) w wr) := (HW1.out.fr.weak (fun k _ e => e.elim Or.inr Or.inl)).trans (hw.fr.weak (fun k _ e => Or.inr e))
   clear hw hv hwz
   obtain ⟨V, W, cs, ns, hk⟩ := hD2.kn 4 (by omega) (by omega)
   have m5 := hk.ca
   have mf5 := hD2.fz 4
   have HD2 := hiD hD2
   have HK := hiD hk
   have HOC := hiD hk.oc
   have HLC : Hid (cs.length ≤ q) := by show _ ≤ _; rw [hk.ln]; exact hk.lq
   have HLN := hiD hk.lq
   clear hD2 hk
   go_upto_region 7 with (at_builtin; refine wtR 73 24 _ Tryz.underlying73 info36 rfl (by decide) cb1 cbv_one (wr.alloc (.cells #[.slice (some ⟨g, 0, none⟩) j j] 36)) rfl _ _ rfl 0 wr.heap.size 1 V cs ⟨some ⟨g, 0, none⟩, j, j⟩ (by rfl) (by rfl) (HOC.out.alloc _) (vwW _ _ _) (Nat.zero_le _) (by have := HLC.out; unfold maxLen; omega) (by have := HLC.out; omega) ?_; intro g5 cap5 w5 hown5 hg5 hl5 hlt5; have h6 := dr_one HD2 HK (by omega) HZR m0 HXK HXC rfl hown5 hg5 hl5; have k5 := h6.1; have kf5 := h6.2.1; have H6 : Hid _ := h6; clear h6)
   obtain ⟨_, _, hB6, fr6, ex6, ey6⟩ := H6.out
   have x0 := hB6.c0
   have x10 := hB6.cb
   have xf10 := hB6.fz 9
   have HB6 : Hid _ := hB6
   have HFR6 : Hid _ := fr6
   have HEX6 : Hid _ := ex6
   have HEY6 : Hid _ := ey6
   have hbv : some Dr ≠ W.ownBlock := fun e => by have h1 := hB6.kw _ e.symm; have h2 := hB6.kd; omega
   have HON := hiD hB6.on
   have hD6 : Dr < (w5.setCell ⟨Dr, 4, none⟩ (.slice (some ⟨g5, 0, none⟩) (cs.length + 1) cap5)).heap.size := clT x0
   clear k5 kf5 H6 m0 m5 mf5 hown5 hg5 hl5 hlt5 hB6 fr6 ex6 ey6 HOC
   generalize hw6 : w5.setCell ⟨Dr, 4, none⟩ (.slice (some ⟨g5, 0, none⟩) (cs.length + 1) cap5) = w6 at *
   have HW6 := hiD hw6
   clear hw6
   go_region_law (refine saR 44 8 _ Tryz.underlying44 info3 rfl (by decide) iv1 iv_one _ ?_ (.tmp 49) (.tmp 54) ?_ 0 w6.heap.size 1 W ns z1 ?_ ?_ ?_ ?_ ?_ ?_ ?_ ?_; rfl; rfl; rfl; rfl; exact ORC.drew (HON.out.alloc _); exact VRow.drew (vwW w6 _ _); exact Nat.zero_le _; (have := HLN.out; unfold maxLen; omega); (have := HLN.out; omega); intro g7 cap7 w7 hown7 hg7 hl7 hlt7; have k0 := keepO hg7 x10 hbv; have k1 := keepF hg7 xf10 hD6 hbv)
   all_goals
    go_wp2
    go_end0
    refine ⟨rfl, ?_⟩
    have e6 := HW6.out
    subst e6
    exact dr_end (a := 4) HKD HK.out.kv HK.out.kw (by omega) HZ HFW HXL HB6 HFR6 HEX6 HEY6 rfl hown7 hg7 hl7
theorem keepKeys_none (col : NtN) (z Dr q : Nat) (w : World) (hd : DrA col z w Dr q) (hz : ∀ k, w.heap.size ≤ k → col k = 0) (hq : q ≤ 20000000) :
 Calls Tryz.prog 117 #[.pointer (some ⟨Dr, 0, none⟩), .slice none 0 0] w fun e w' => e = .returned (.tuple #[]) ∧ KeptR col z Dr q (fun _ => False) w w' := by
 obtain ⟨z0, n0⟩ := hd.n0
 have f0 := hd.fz 0
 have hDl : Dr < w.heap.size := hd.lt
 have HKD := hiD hd.kd
 have HZ := hiD hz
 have HLZ : Hid (∀ k, False → col k = 0) := fun k e => e.elim
 obtain ⟨z1, hz1e⟩ : ∃ z1, IntKind.i64.wrap (z0 + 1) = z1 := ⟨_, rfl⟩
 have HD1 : Hid (DrA col z (w.setCell ⟨Dr, 0, none⟩ (.int .i64 z1)) Dr q) := (hd.tick z1).1
 have c1 := (hd.tick z1).2
 have HFW0 : Hid (Fr (fun k => k = Dr ∨ False) w (w.setCell ⟨Dr, 0, none⟩ (.int .i64 z1))) := (Fr.refl _ w).set Dr 0 _ (fun _ => Or.inl rfl)
 have HS1 : Hid ((w.setCell ⟨Dr, 0, none⟩ (.int .i64 z1)).heap.size = w.heap.size) := by show _ = _; simp
 clear hd hz
 go_enter Tryz.func117, Tryz.ntmps117
 go_wp2
 clear hz1e
 generalize w.setCell ⟨Dr, 0, none⟩ (.int .i64 z1) = w1 at *
 clear n0 f0
 refine wp_loop_rounds 1 ?_
 rw [rounds_succ]
 obtain ⟨wr, rfl⟩ : ∃ wr : World, wr = w1 := ⟨_, rfl⟩
 have m0 := c1
 have HFW := hiD HFW0.out
 have hD2 : DrA col z wr Dr q := HD1.out
 have HXK : Hid (KeptAt (ptF 4) wr ⟨none, 0, 0⟩ z1) := Or.inl rfl
 have HXC : Hid (∀ k, (CbD.mk none 0 0).blk = some k → col k = 0 ∧ k < wr.heap.size) := fun k hk => by
  unfold CbD.blk at hk
  rw [if_pos rfl] at hk
  cases hk
 have HXL : Hid (∀ k, (CbD.mk none 0 0).blk = some k → False) := fun k hk => by
  unfold CbD.blk at hk
  rw [if_pos rfl] at hk
  cases hk
 have HZR : Hid (∀ k, wr.heap.size ≤ k → col k = 0) := fun k hk => HZ.out k (by have := HS1.out; omega)
 clear c1
 obtain ⟨V, W, cs, ns, hk⟩ := hD2.kn 4 (by omega) (by omega)
 have m5 := hk.ca
 have mf5 := hD2.fz 4
 have HD2 := hiD hD2
 have HK := hiD hk
 have HOC := hiD hk.oc
 have HLC : Hid (cs.length ≤ q) := by show _ ≤ _; rw [hk.ln]; exact hk.lq
 have HLN := hiD hk.lq
 clear hD2 hk
 go_upto_region 7 with (at_builtin; refine wtR 73 24 _ Tryz.underlying73 info36 rfl (by decide) cb1 cbv_one (wr.alloc (.cells #[.slice none 0 0] 36)) rfl _ _ rfl 0 wr.heap.size 1 V cs ⟨none, 0, 0⟩ (by rfl) (by rfl) (HOC.out.alloc _) (vwW _ _ _) (Nat.zero_le _) (by have := HLC.out; unfold maxLen; omega) (by have := HLC.out; omega) ?_; intro g5 cap5 w5 hown5 hg5 hl5 hlt5; have h6 := dr_one HD2 HK (by omega) HZR m0 HXK HXC rfl hown5 hg5 hl5; have k5 := h6.1; have kf5 := h6.2.1; have H6 : Hid _ := h6; clear h6)
 obtain ⟨_, _, hB6, fr6, ex6, ey6⟩ := H6.out
 have x0 := hB6.c0
 have x10 := hB6.cb
 have xf10 := hB6.fz 9
 have HB6 : Hid _ := hB6
 have HFR6 : Hid _ := fr6
 have HEX6 : Hid _ := ex6
 have HEY6 : Hid _ := ey6
 have hbv : some Dr ≠ W.ownBlock := fun e => by have h1 := hB6.kw _ e.symm; have h2 := hB6.kd; omega
 have HON := hiD hB6.on
 have hD6 : Dr < (w5.setCell ⟨Dr, 4, none⟩ (.slice (some ⟨g5, 0, none⟩) (cs.length + 1) cap5)).heap.size := clT x0
 clear k5 kf5 H6 m0 m5 mf5 hown5 hg5 hl5 hlt5 hB6 fr6 ex6 ey6 HOC
 generalize hw6 : w5.setCell ⟨Dr, 4, none⟩ (.slice (some ⟨g5, 0, none⟩) (cs.length + 1) cap5) = w6 at *
 have HW6 := hiD hw6
 clear hw6
 go_region_law (refine saR 44 8 _ Tryz.underlying44 info3 rfl (by decide) iv1 iv_one _ ?_ (.tmp 49) (.tmp 54) ?_ 0 w6.heap.size 1 W ns z1 ?_ ?_ ?_ ?_ ?_ ?_ ?_ ?_; rfl; rfl; rfl; rfl; exact ORC.drew (HON.out.alloc _); exact VRow.drew (vwW w6 _ _); exact Nat.zero_le _; (have := HLN.out; unfold maxLen; omega); (have := HLN.out; omega); intro g7 cap7 w7 hown7 hg7 hl7 hlt7; have k0 := keepO hg7 x10 hbv; have k1 := keepF hg7 xf10 hD6 hbv)
 all_goals
  go_wp2
  go_end0
  refine ⟨rfl, ?_⟩
  have e6 := HW6.out
  subst e6
  exact dr_end (a := 4) HKD HK.out.kv HK.out.kw (by omega) HZ HFW HXL HB6 HFR6 HEX6 HEY6 rfl hown7 hg7 hl7
theorem keepKeys_any (col : NtN) (z Dr q : Nat) (v : Value) (w : World) (hd : DrA col z w Dr q) (hz : ∀ k, w.heap.size ≤ k → col k = 0) (hv : HdD 2 col w v) (hq : q ≤ 20000000) :
 Calls Tryz.prog 117 #[.pointer (some ⟨Dr, 0, none⟩), v] w fun e w' => e = .returned (.tuple #[]) ∧ KeptR col z Dr q (fun k => v.ownBlock = some k) w w' := by
 rcases hv with rfl | ⟨g, n, cc, rfl, h1, h2, h3, h4, h5⟩
 ·refine (keepKeys_none col z Dr q w hd hz hq).mono ?_
  rintro e w' ⟨rfl, h⟩
  exact ⟨rfl, h.weak (fun k e => e.elim)⟩
 ·refine (keepKeys_some col z Dr q g n cc w hd hz h1 h2 h3 h4 hq h5).mono ?_
  rintro e w' ⟨rfl, h⟩
  exact ⟨rfl, h.weak (fun k e => by rw [e]; rfl)⟩
structure YB (z : Nat) (s : Int) (g : Nat) (N : NPr) (q : Nat) (col : NtN) (G P D Dr : Nat) (a : PgP) (b : DgP) (nx : Nat) (ys : LII) (r tag : Int) (XE : NPr) (w : World) (L : List CoinD) (col2 : NtN) (a1 : PgP) (b1 : DgP) (nxd : Nat) (md1 nx1 : Int) (K : Nat) (v0 v1 v2 v3 v4 v5 : Value) (er : Int) (K2 : Nat) (u0 u1 u2 u3 u4 u5 : Value) (er2 : Int) (base2 : Nat) (wx : World) : Prop where
 s1 : S1 z s g N (13 * q) col2 G P D Dr a1 b1 nxd md1 nx1 wx
 ext : Ext z 1 24 col col2 wx
 fr : Fr (fun k => (z < col k ∧ col k ≤ z + 24) ∨ XE k) w wx
 vb : VB wx K v0 v1 v2 v3 v4 v5
 kk : col2 K = 0
 res : PRes (payZ a.xs s g a.ps a.ks nx ys r tag) (b.ms.length : Nat) tag v0 v1 v2 v3 v4 v5 er w.heap.size wx
 lst : ∀ k, (v2.ownBlock = some k ∨ v3.ownBlock = some k ∨ v4.ownBlock = some k) → col2 k = 0 ∧ k ≠ K ∧ k ≠ K2
 rel : PRel (payZ a.xs s g a.ps a.ks nx ys r tag) a a1 (b.ms.length : Nat) (nx : Int) md1 nx1 tag
 vb2 : VB wx K2 u0 u1 u2 u3 u4 u5
 kk2 : col2 K2 = 0 ∧ K2 ≠ K
 res2 : PRes (payD b.bls s g L b.ms nx ys r tag) (b.ms.length : Nat) tag u0 u1 u2 u3 u4 u5 er2 base2 wx
 rel2 : DRel (payD b.bls s g L b.ms nx ys r tag) b b1 nx nxd tag
 old : ∀ k, k < w.heap.size → col k = 0 → col2 k = 0
theorem YB.grown {L : List CoinD} {col2 : NtN} (h : YB z s g N q col G P D Dr a b nx ys r tag XE w L col2 a1 b1 nxd md1 nx1 K v0 v1 v2 v3 v4 v5 er K2 u0 u1 u2 u3 u4 u5 er2 base2 wx) (hb : Below wx.heap.size wx wy) : YB z s g N q col G P D Dr a b nx ys r tag XE w L col2 a1 b1 nxd md1 nx1 K v0 v1 v2 v3 v4 v5 er K2 u0 u1 u2 u3 u4 u5 er2 base2 wy :=
 ⟨h.s1.grown hb, h.ext.weak leR leR hb.size, h.fr.trans (Fr.of_below hb _), h.vb.grown hb, h.kk, h.res.grown hb, h.lst, h.rel, h.vb2.grown hb, h.kk2, h.res2.grown hb, h.rel2, h.old⟩
theorem DRel.bls {pz : Sum Int (List CoinD × LII × Int)} {nx1 : Nat} (h : DRel pz b b1 nx nx1 tag) : b1.bls = b.bls := by
 rcases h with ⟨x, _, e, _⟩ | ⟨cs, zs, ch, m, _, e, _⟩
 ·rw [e]
 ·exact e
theorem YA.yb1 {L : List CoinD} {col1 : NtN} (h : YA z s g N q col G P D Dr a b nx ys r tag XE w col1 a1 md1 nx1 K v0 v1 v2 v3 v4 v5 er wa) (hb : Below wa.heap.size wa wb) (hr : DPayOk b.ND D (D + 1) b.vm b.bls s g L b.ms nx ys r tag u0 u1 u2 u3 u4 u5 er2 wb w3) :
 (∃ col2 b1 nxd, YB z s g N q col G P D Dr a b nx ys r tag XE w L col2 a1 b1 nxd md1 nx1 K v0 v1 v2 v3 v4 v5 er w3.heap.size u0 u1 u2 u3 u4 u5 er2 wb.heap.size (w3.alloc (.cells #[u0, u1, u2, u3, u4, u5] 38))) ∧
 (∀ K2, wa.heap.size ≤ K2 → K2 < wb.heap.size → (∃ a0 a1 a2 a3 a4 a5, VB wb K2 a0 a1 a2 a3 a4 a5) → ∃ col2 b1 nxd, YB z s g N q col G P D Dr a b nx ys r tag XE w L col2 a1 b1 nxd md1 nx1 K v0 v1 v2 v3 v4 v5 er K2 u0 u1 u2 u3 u4 u5 er2 wb.heap.size ((((((w3.setCell ⟨K2, 0, none⟩ u0).setCell ⟨K2, 1, none⟩ u1).setCell ⟨K2, 2, none⟩ u2).setCell ⟨K2, 3, none⟩ u3).setCell ⟨K2, 4, none⟩ u4).setCell ⟨K2, 5, none⟩ u5)) := by
 have hB := h.grown hb
 have hs := hB.s1
 obtain ⟨col2, b1, nxd, e1, e2, e3, e4, e5, e6⟩ := hs.dg.payB hs.nz (fun k hk => (hs.nn k hk).1) hr
 have hsz := hb.size
 have hKa : K < wa.heap.size := clT h.vb.c0
 have hkeep : ∀ k, col1 k ≠ 0 → col2 k = col1 k := fun k hk => e1.same hk
 have hz3 : ∀ k, w3.heap.size ≤ k → col2 k = 0 := Ext.zero (w := wb) e1 e3.size hs.nz
 have hnn : ∀ k, N k → col2 k = 0 ∧ k < w3.heap.size := fun k hk => ⟨e2 k (hs.nn k hk).2 (hs.nn k hk).1, ltL (hs.nn k hk).2 e3.size⟩
 have hbl := e6.bls
 have hpg : Pg col2 z w3 P s g (b1.bls.length : Nat) a1 md1 nx1 := by rw [hbl]; exact hs.pg.mv e3 (fun k e => by omega) hkeep
 have hS : S1 z s g N (13 * q) col2 G P D Dr a1 b1 nxd md1 nx1 w3 := ⟨hpg, e4, hs.dr.mv e3 (fun k e => by omega) hkeep leR, e3.vrow hs.gm (fun e => by have := hs.kg; omega), by rw [hkeep G (by rw [hs.kg]; omega)]; exact hs.kg, hz3, hnn⟩
 have hcols : ∀ k, col1 k = 0 → ¬ (col1 k = z + 7 ∨ col1 k = z + 11) := fun k hk => by omega
 have hext : Ext z 1 24 col col2 w3 := (h.ext.weak leR leR leR).trans e1 (leT hsz e3.size)
 have hfr : Fr (fun k => (z < col k ∧ col k ≤ z + 24) ∨ XE k) w w3 := by
  refine ⟨e3.os.trans hB.fr.os, e3.tape.trans hB.fr.tape, e3.output.trans hB.fr.output, leT hB.fr.size e3.size, fun k hk he => ?_⟩
  refine (e3.block k (ltL hk hB.fr.size) (fun e => he ?_)).trans (hB.fr.block k hk he)
  rcases h.ext k with e9 | e9
  ·exact Or.inl (by omega)
  ·have := h.old k hk e9.1; omega
 have hvb := hB.vb.fr e3 (fun e => by have := hB.kk.1; omega)
 have hres := hB.res.fr e3 (fun k hk => hcols k (h.lst k hk).1)
 have hla : ∀ k, (v2.ownBlock = some k ∨ v3.ownBlock = some k ∨ v4.ownBlock = some k) → k < wa.heap.size := fun k hk => (h.res.blk k hk).2
 have hlst : ∀ k, (v2.ownBlock = some k ∨ v3.ownBlock = some k ∨ v4.ownBlock = some k) → col2 k = 0 ∧ k ≠ K := fun k hk => ⟨e2 k (ltL (hla k hk) hsz) (h.lst k hk).1, (h.lst k hk).2⟩
 have hkk : col2 K = 0 := e2 K (by omega) h.kk.1
 have hw3 : wb.heap.size ≤ w3.heap.size := e3.size
 have hold : ∀ k, k < w.heap.size → col k = 0 → col2 k = 0 := fun k hk h0 => e2 k (ltL hk hB.fr.size) (h.old k hk h0)
 refine ⟨⟨col2, b1, nxd, ?_⟩, fun K2 hK1 hK2 ⟨c0, c1, c2, c3, c4, c5, hvb2⟩ => ⟨col2, b1, nxd, ?_⟩⟩
 ·have hb3 : Below w3.heap.size w3 (w3.alloc (.cells #[u0, u1, u2, u3, u4, u5] 38)) := (Below.refl _ _).alloc leR _
  exact ⟨hS.grown hb3, hext.weak leR leR hb3.size, hfr.trans (Fr.of_below hb3 _), hvb.grown hb3, hkk, hres.grown hb3, fun k hk => ⟨(hlst k hk).1, (hlst k hk).2, by have := hla k hk; omega⟩, h.rel, VB.new _ _ _ _ _ _ _ _, ⟨hz3 _ leR, by omega⟩, e5.grown hb3, e6, hold⟩
 ·have hcK : col1 K2 = 0 := h.s1.nz K2 hK1
  have hcK2 : col2 K2 = 0 := e2 K2 hK2 hcK
  have hf : Fr (fun k => k = K2) w3 ((((((w3.setCell ⟨K2, 0, none⟩ u0).setCell ⟨K2, 1, none⟩ u1).setCell ⟨K2, 2, none⟩ u2).setCell ⟨K2, 3, none⟩ u3).setCell ⟨K2, 4, none⟩ u4).setCell ⟨K2, 5, none⟩ u5) := fr6K w3 K2 u0 u1 u2 u3 u4 u5
  have hvb3 := hvb2.fr e3 (fun e => by omega)
  have hww : w.heap.size ≤ K2 := leT h.fr.size hK1
  exact ⟨hS.mv hf (fun k e => by rw [e, hcK2]; omega) (fun k hk e => by subst e; have := (h.s1.nn k hk).2; omega) (fun _ _ => rfl) (fun k hk => (hnn k hk).1) (fun k hk => hz3 k (leT hf.size hk)), hext.weak leR leR hf.size, Fr.trans_new2 hfr hf (fun k e => by omega), hvb.fr hf (fun e => by omega), hkk, hres.fr hf (fun k hk e => by have := hla k hk; omega), fun k hk => ⟨(hlst k hk).1, (hlst k hk).2, by have := hla k hk; omega⟩, h.rel, (((((hvb3.s0 u0).s1 u1).s2 u2).s3 u3).s4 u4).s5 u5, ⟨hcK2, by omega⟩, e5.fr hf (fun k hk e => by have := (e5.blk k hk).1; omega), e6, hold⟩
theorem pres_two {pz : Sum Int (List CoinD × LII × Int)} (h : PRes pz md tag v0 v1 v2 v3 v4 v5 er base w) (h2 : PRes pz md tag u0 u1 u2 u3 u4 u5 er2 base2 w) :
 ∃ (num t ch : Int) (cs : List CoinD) (zs : LII) (ai : OAd) (ci : Nat) (ap : OAd) (cp : Nat) (ak : OAd) (ck : Nat) (bi : OAd) (di : Nat) (bp : OAd) (dp : Nat) (bk : OAd) (dk : Nat), v0 = .int .i64 num ∧ v1 = .int .i64 t ∧ v2 = .slice ai cs.length ci ∧ v3 = .slice ap zs.length cp ∧ v4 = .slice ak cs.length ck ∧ v5 = .int .i64 ch ∧ u0 = .int .i64 num ∧ u1 = .int .i64 t ∧ u2 = .slice bi cs.length di ∧ u3 = .slice bp zs.length dp ∧ u4 = .slice bk cs.length dk ∧ u5 = .int .i64 ch ∧ er = er2 ∧
  ORC inC 115 3 w base v2 cs ∧ ORC kV 93 2 w base v3 zs ∧ ORC kC 117 2 w base v4 cs ∧ RcT inC w bi cs ∧ RcT kV w bp zs ∧ RcT kC w bk cs ∧ (pz = .inr (cs, zs, ch) ∨ (cs = [] ∧ zs = [])) ∧ (∀ k, v3.ownBlock = some k → v2.ownBlock ≠ some k) ∧ (∀ k, v4.ownBlock = some k → v2.ownBlock ≠ some k ∧ v3.ownBlock ≠ some k) := by
 rcases h with ⟨x, e1, e2, h0, h1, h2', h3, h4, h5⟩ | ⟨cs, zs, ch, e1, e2, h0, h1, h5, h6⟩
 ·rcases h2 with ⟨y, f1, f2, k0, k1, k2, k3, k4, k5⟩ | ⟨cs', zs', ch', f1, _⟩
  ·rw [e1] at f1
   injection f1 with f1
   refine ⟨0, 0, 0, [], [], none, 0, none, 0, none, 0, none, 0, none, 0, none, 0, h0, h1, h2', h3, h4, h5, k0, k1, k2, k3, k4, k5, by rw [e2, f2, f1], ?_, ?_, ?_, Or.inl rfl, Or.inl rfl, Or.inl rfl, Or.inr ⟨rfl, rfl⟩, fun k hk => ?_, fun k hk => ?_⟩
   ·rw [h2']; exact ORC.nil _ _ _ _ _
   ·rw [h3]; exact ORC.nil _ _ _ _ _
   ·rw [h4]; exact ORC.nil _ _ _ _ _
   ·rw [h3] at hk; cases hk
   ·rw [h4] at hk; cases hk
  ·rw [e1] at f1; cases f1
 ·rcases h2 with ⟨y, f1, _⟩ | ⟨cs', zs', ch', f1, f2, k0, k1, k5, k6⟩
  ·rw [e1] at f1; cases f1
  ·rw [e1] at f1
   injection f1 with f1
   injection f1 with f1 f3
   injection f3 with f3 f4
   subst f1
   subst f3
   subst f4
   obtain ⟨ai, ci, ea, _⟩ := ORC.at inC3 h6.oi
   obtain ⟨ap, cp, eb, _⟩ := ORC.at kv2 h6.oo
   obtain ⟨ak, ck, ec, _⟩ := ORC.at kC2 h6.ok
   obtain ⟨bi, di, fa, ra⟩ := ORC.at inC3 k6.oi
   obtain ⟨bp, dp, fb, rb⟩ := ORC.at kv2 k6.oo
   obtain ⟨bk, dk, fc, rc⟩ := ORC.at kC2 k6.ok
   exact ⟨md, tag, ch, cs, zs, ai, ci, ap, cp, ak, ck, bi, di, bp, dp, bk, dk, h0, h1, ea, eb, ec, h5, k0, k1, fa, fb, fc, k5, by rw [e2, f2], h6.oi, h6.oo, h6.ok, ra, rb, rc, Or.inl e1, fun k hk e => (h6.n1 k e).1 hk, fun k hk => ⟨fun e => (h6.n1 k e).2 hk, fun e => h6.n2 k e hk⟩⟩
theorem handedI_of (h : ORC inC 115 3 w base v cs) (hc : ∀ k, v.ownBlock = some k → col k = 0) : HdI col w v (cs.map CoinD.inD) := by
 rcases h.slice inC3 with ⟨e, e2⟩ | ⟨g, c, rfl, h1, h2, h3, h4⟩
 ·refine Or.inl ⟨e, ?_⟩
  rw [e2]
  rfl
 ·have hat : RcT inC w (some ⟨g, 0, none⟩) cs := oaS inC3 h
  refine Or.inr ⟨g, cs.length, c, rfl, (own_room h).1, hc g rfl, (h.blk g rfl).2, (own_room h).2, own_cap h, ⟨fun j hj => ?_, fun j hj => ?_, fun j hj => ?_, fun i j hij hj k hk => ?_⟩, by simp⟩
  ·rw [List.length_map] at hj
   rcases hat with e | ⟨b, off, e, hr⟩
   ·rw [e] at hj; simp at hj
   ·cases e
    have := reL inC3 dN hr j hj 2 (by omega)
    rw [Nat.zero_add] at this
    rw [this]
    simp [inC, InD.sv, CoinD.inD, List.getD, hj]
  ·rw [List.length_map] at hj
   exact Or.inl (by simp [InD.sv, CoinD.inD, List.getD, hj])
  ·rw [List.length_map] at hj
   simp [InD.sv, CoinD.inD, List.getD, hj, Value.ownBlock]
  ·rw [List.length_map] at hj
   have hi : i < cs.length := by omega
   simp [InD.sv, CoinD.inD, List.getD, hi, Value.ownBlock] at hk
theorem seals_none (cs : List CoinD) (n k : Nat) (hn : n ≤ cs.length) : ¬ slB (cs.map CoinD.inD) n k := fun ⟨i, hi, e⟩ => by
 have hi' : i < cs.length := by omega
 simp [InD.sv, CoinD.inD, List.getD, hi', Value.ownBlock] at e
theorem payZ_inr (h : payZ xs s g ps ks nx ys r tag = .inr (cs, zs, ch)) (hg : g ≤ 20) : (∀ x ∈ cs, x ∈ onF xs s g) ∧ cs.length ≤ 10 ∧ cs ≠ [] ∧ ch < 100 ∧ zs.length ≤ 8 ∧ zs ≠ [] := by
 unfold payZ at h
 split at h
 ·cases h
 ·rename_i h1
  split at h
  ·cases h
  ·rename_i h2
   have hpos := target_posA (asked_ok h1 h2)
   have hy0 : ys ≠ [] := by
    intro e
    apply h2
    right
    rw [e]
    rfl
   have hy7 : ys.length ≤ 7 := by
    have h9 : ¬ 7 < ys.length := fun e => h2 (Or.inl e)
    omega
   split at h
   ·cases h
   ·rename_i cs' ch' hc
    have hm := mem_choose hc
    have hne : cs' ≠ [] := by
     rcases choose_same r _ (tgZ ys r) hpos with ⟨e, _⟩ | ⟨l, c, e, _, h3, _, _⟩
     ·rw [e] at hc; cases hc
     ·rw [e] at hc
      injection hc with hc
      injection hc with hc _
      rw [← hc]
      exact h3
    have hmem : ∀ x ∈ cs', x ∈ onF xs s g := fun x hx => (List.mem_filter.1 (orderZ_mem (hm.1 x hx))).1
    have hfin : ∀ zz cc, payFin xs tag cs' zz cc = .inr (cs, zs, ch) → cs = cs' ∧ ch = cc ∧ zs = zz := fun zz cc hh => by
     unfold payFin at hh
     split at hh
     ·cases hh
     ·injection hh with hh
      injection hh with e1 e2
      injection e2 with e4 e3
      exact ⟨e1.symm, e3.symm, e4.symm⟩
    split at h
    ·rcases unp_sync xs s g nx hg with ⟨e, _⟩ | ⟨k, hk, e, _⟩
     ·rw [e] at h; cases h
     ·rw [e] at h
      obtain ⟨e1, e2, e3⟩ := hfin _ _ h
      rw [e1]
      refine ⟨hmem, hm.2, hne, ?_, ?_, ?_⟩
      ·rw [e2]
       show ((k : Nat) : Int) < 100
       omega
      ·rw [e3, List.length_append, List.length_singleton]
       omega
      ·rw [e3]
       simp
    ·obtain ⟨e1, e2, e3⟩ := hfin _ _ h
     rw [e1]
     exact ⟨hmem, hm.2, hne, by rw [e2]; decide, by rw [e3]; omega, by rw [e3]; exact hy0⟩
theorem pres_same {pz : Sum Int (List CoinD × LII × Int)} (h : PRes pz md tag (.int .i64 n0) (.int .i64 t) (.slice ai ni ci) (.slice ap np cp) (.slice ak nk ck) (.int .i64 ch) er base w) (h2 : PRes pz md tag (.int .i64 m0) (.int .i64 t2) (.slice bi mi di) (.slice bp mp dp) (.slice bk mk dk) (.int .i64 ch2) er2 base2 w) :
 n0 = m0 ∧ t = t2 ∧ ch = ch2 ∧ er = er2 ∧ ni = mi ∧ np = mp ∧ ni = nk ∧ ni = mk ∧ ∃ cs zs, cs.length = ni ∧ zs.length = np ∧ ORC inC 115 3 w base (.slice ai ni ci) cs ∧ ORC kV 93 2 w base (.slice ap np cp) zs ∧ ORC kC 117 2 w base (.slice ak ni ck) cs ∧ RcT inC w bi cs ∧ RcT kV w bp zs ∧ RcT kC w bk cs ∧ ((∃ c9, pz = .inr (cs, zs, c9)) ∨ (cs = [] ∧ zs = [])) ∧ (∀ k, (Value.slice ap np cp).ownBlock = some k → (Value.slice ai ni ci).ownBlock ≠ some k) ∧ (∀ k, (Value.slice ak ni ck).ownBlock = some k → (Value.slice ai ni ci).ownBlock ≠ some k ∧ (Value.slice ap np cp).ownBlock ≠ some k) := by
 obtain ⟨num, t', ch', cs, zs, ai', ci', ap', cp', ak', ck', bi', di', bp', dp', bk', dk', e0, e1, e2, e3, e4, e5, f0, f1, f2, f3, f4, f5, g1, o1, o2, o3, r1, r2, r3, hz, d1, d2⟩ := pres_two h h2
 cases e0
 cases e1
 cases e2
 cases e3
 cases e4
 cases e5
 cases f0
 cases f1
 cases f2
 cases f3
 cases f4
 cases f5
 exact ⟨rfl, rfl, rfl, g1, rfl, rfl, rfl, rfl, cs, zs, rfl, rfl, o1, o2, o3, r1, r2, r3, hz.imp (fun e => ⟨_, e⟩) id, d1, d2⟩
theorem keysB_K (hs : Mk.isM s = true) (hb : br = 0 ∨ br = 1) (hn : n ≤ 100) : ∀ k ∈ kyB s br n, Mk.isK s k.br k.ix = true := fun k hk => by
 unfold kyB at hk
 obtain ⟨i, hi, rfl⟩ := List.mem_map.1 hk
 have := List.mem_range.1 hi
 have h1 := (Mk.isM_iff s).1 hs
 unfold Mk.isK
 rw [decide_eq_true_iff]
 exact ⟨hb, ⟨by simp only; omega, by simp only; omega⟩, h1⟩
theorem keysZ_K (hs : Mk.isM s = true) : ∀ k ∈ kyZ xs s g, Mk.isK s k.br k.ix = true := fun k hk => by
 unfold kyZ at hk
 rcases List.mem_append.1 hk with h | h
 ·exact keysB_K hs (Or.inl rfl) (winZ_le xs s g 0) k h
 ·exact keysB_K hs (Or.inr rfl) (winZ_le xs s g 1) k h
theorem own_keys (hs : Mk.isM s = true) : ∀ y ∈ onF xs s g, Mk.isK s y.br y.ix = true := by
 have h1 := (Mk.isM_iff s).1 hs
 have h0 : Mk.isK s 0 0 = true := by
  unfold Mk.isK
  rw [decide_eq_true_iff]
  exact ⟨Or.inl rfl, ⟨by omega, by omega⟩, h1⟩
 have hk : ∀ i, Mk.isK s ((kyZ xs s g).getD i dK).br ((kyZ xs s g).getD i dK).ix = true := fun i => by
  by_cases hi : i < (kyZ xs s g).length
  ·exact keysZ_K hs _ (gDM (kyZ xs s g) dK i hi)
  ·have : (kyZ xs s g).getD i dK = dK := by simp [List.getD, hi]
   rw [this]
   exact h0
 have h : ∀ (l : List CoinC) (acc : List CoinD), (∀ y ∈ acc, Mk.isK s y.br y.ix = true) → ∀ y ∈ l.foldl (oSP (kyZ xs s g)) acc, Mk.isK s y.br y.ix = true := by
  intro l
  induction l with
  | nil => intro acc ha; exact ha
  | cons x r ih =>
   intro acc ha
   refine ih _ (fun y hy => ?_)
   unfold oSP at hy
   split at hy
   ·exact ha y hy
   ·rcases insZ_mem hy with e | e
    ·rw [e]
     exact hk _
    ·exact ha y e
 exact h (cnC xs) [] (fun y hy => by simp at hy)
theorem own_sorted (xs : List Cel) (s : Int) (g : Nat) (hg : g ≤ 20) : SortC (onF xs s g) := by
 have h : ∀ (l : List RCel) (acc : List CoinD) (t0 t1 : List Int) (n0 n1 : Nat), SortC acc → SortC (l.foldl (ownRS t0 t1 n0 n1) acc) := by
  intro l
  induction l with
  | nil => intro acc _ _ _ _ h; exact h
  | cons x r ih => intro acc t0 t1 n0 n1 h; exact ih _ _ _ _ _ (ownRS_sort _ _ _ _ _ h _)
 unfold onF
 rw [← own_sync xs s g hg]
 exact h _ _ _ _ _ _ List.Pairwise.nil
theorem LkP.len (h : LkP ps ks ms) : ps.length ≤ ms.length := by
 have := congrArg List.length h.live
 rw [List.length_map, List.length_map] at this
 rw [this]
 exact List.length_filter_le _ _
theorem YB.done {L : List CoinD} {col2 : NtN} (h0 : Below w0.heap.size w0 w) (hXE : ∀ k, XE k → w0.heap.size ≤ k) (h : AG z s g N q col G P D Dr a b nx w) (y : YB z s g N q col G P D Dr a b nx ys r tag XE w L col2 a1 b1 nxd md1 nx1 K v0 v1 v2 v3 v4 v5 er K2 u0 u1 u2 u3 u4 u5 er2 base2 wx) (hsy : payZ a.xs s g a.ps a.ks nx ys r tag = payD b.bls s g L b.ms nx ys r tag) (hg : g ≤ 20)
 (hown : ∀ x ∈ onF a.xs s g, Mk.isK s x.br x.ix = true) (he : Ext z 13 24 col2 col4 w') (hd : DrA col4 z w' Dr q') (hq : q' ≤ 13 * (q + 1)) (hf : Fr (fun k => (z + 13 ≤ col2 k ∧ col2 k ≤ z + 23) ∨ Lx k) wx w') (hL : ∀ k, Lx k → col2 k = 0 ∧ ¬ N k ∧ w.heap.size ≤ k) (hn : ∀ k, N k → col4 k = 0) : SOk z s g N q col G P D Dr w0 w' := by
 have hs1 := y.s1
 have hkeep : ∀ k, col2 k ≠ 0 → col4 k = col2 k := fun k hk => he.same hk
 have hz4 : ∀ k, w'.heap.size ≤ k → col4 k = 0 := Ext.zero (w := wx) he hf.size hs1.nz
 have hE : ∀ k, ((z + 13 ≤ col2 k ∧ col2 k ≤ z + 23) ∨ Lx k) → ¬ (z + 1 ≤ col2 k ∧ col2 k ≤ z + 12) := fun k e h9 => by
  rcases e with e | e
  ·omega
  ·have := (hL k e).1; omega
 have hN : ∀ k, N k → ¬ ((z + 13 ≤ col2 k ∧ col2 k ≤ z + 23) ∨ Lx k) := fun k hk e => by
  rcases e with e | e
  ·have := (hs1.nn k hk).1; omega
  ·exact (hL k e).2.1 hk
 have hpg := hs1.pg.mv hf (fun k e h => hE k e (by omega)) hkeep
 have hdg := hs1.dg.mv hf (fun k e h => hE k e (by omega)) hN hkeep
 have hgm := hf.vrow hs1.gm (fun e => hE G e (by rw [hs1.kg]; omega))
 have hkg : col4 G = z + 6 := by rw [hkeep G (by rw [hs1.kg]; omega)]; exact hs1.kg
 have hfin : Fr (fun k => (z < col k ∧ col k ≤ z + 24) ∨ XE k) w w' := by
  refine ⟨hf.os.trans y.fr.os, hf.tape.trans y.fr.tape, hf.output.trans y.fr.output, leT y.fr.size hf.size, fun k hk hne => ?_⟩
  refine (hf.block k (ltL hk y.fr.size) (fun e => hne ?_)).trans (y.fr.block k hk hne)
  rcases e with e | e
  ·rcases y.ext k with e2 | e2
   ·exact Or.inl (by omega)
   ·have := y.old k hk e2.1; omega
  ·have := (hL k e).2.2; omega
 have hfin0 : Fr (fun k => z < col k ∧ col k ≤ z + 24) w0 w' :=
  ⟨hfin.os.trans h0.os, hfin.tape.trans h0.tape, hfin.output.trans h0.output, leT h0.size hfin.size, fun k hk he => (hfin.block k (ltL hk h0.size) (fun e => e.elim he (fun e => by have := hXE k e; omega))).trans (h0.block k hk)⟩
 have hext : Ext z 1 24 col col4 w' := (y.ext.weak leR leR leR).trans (he.weak (by omega) leR leR) hf.size
 have hnn : ∀ k, N k → col4 k = 0 ∧ k < w'.heap.size := fun k hk => ⟨hn k hk, ltL (hs1.nn k hk).2 hf.size⟩
 refine ⟨col4, a1, b1, nxd, hext, ?_, hfin0⟩
 have hbl := y.rel2.bls
 rcases y.rel with ⟨x, p1, p2, p3, p4⟩ | ⟨cs, zs, ch, p, p1, p2, p3, p4, p5, p6, p7⟩
 ·rcases y.rel2 with ⟨x', d1, d2, d3⟩ | ⟨cs', zs', ch', m', d1, _⟩
  ·subst p2
   subst d2
   subst d3
   rw [p3, p4] at hpg
   exact ⟨hpg, hdg, hd.mv (Fr.refl (fun _ => False) w') (fun _ e => e.elim) (fun _ _ => rfl) hq, hgm, hkg, h.lk, h.lp, h.ky, hz4, hnn, by have := h.ml; omega, by have := h.kl; omega, h.nl⟩
  ·rw [hsy, d1] at p1; cases p1
 ·rcases y.rel2 with ⟨x', d1, _⟩ | ⟨cs', zs', ch', m', d1, d2, d3, d4, d5, d6, d7, d8⟩
  ·rw [hsy, d1] at p1; cases p1
  ·have e1 := p1
   rw [hsy, d1] at e1
   injection e1 with e1
   injection e1 with e1 e2
   injection e2 with e2 e3
   subst e1
   subst e2
   subst e3
   obtain ⟨hm, hl10, hne, hch, _, hzn⟩ := payZ_inr p1 hg
   have hln : b1.ms.length = b.ms.length + 1 := by rw [d3, List.length_append]; rfl
   have hmd : md1 = (b1.ms.length : Nat) := by rw [p6, hln]; push_cast; rfl
   have hnx : nx1 = (nxd : Int) := by rw [p7, d8]
   rw [hmd, hnx] at hpg
   refine ⟨hpg, hdg, hd.mv (Fr.refl (fun _ => False) w') (fun _ e => e.elim) (fun _ _ => rfl) hq, hgm, hkg, by rw [hbl, p5]; exact h.lk, ?_, fun p' hp' => ?_, hz4, hnn, by have := h.ml; omega, by rw [p4]; have := h.kl; omega, ?_⟩
   ·rw [p2, p4, d3]
    exact h.lp.push (by rw [p3, d4]) d5 d6 d7
   ·rw [p2] at hp'
    rcases List.mem_append.1 hp' with e | e
    ·exact h.ky p' e
    ·rw [List.mem_singleton] at e
     subst e
     have e9 : p'.cs = cs' := congrArg (fun t : PK => t.2.1) p3
     have e10 : p'.ys = zs' := congrArg (fun t : PK => t.2.2.1) p3
     rw [e9, e10]
     exact ⟨fun x hx => hown x (hm x hx), hne, hzn⟩
   ·have := h.nl
    have h9 : (nxd : Int) ≤ 101 := by
     rw [d8]
     split <;> omega
    omega
def sgIn (s id : Int) (q : CoinD × Nat) : InD := ⟨q.1.id, q.1.pos, some ⟨q.2, 0, none⟩, 5, 5, Mk.sealL s q.1.br q.1.ix id⟩
def dQ : CoinD × Nat := (dN, 0)
theorem sgIn_st (s id : Int) (L : List (CoinD × Nat)) : (L.map (sgIn s id)).map InD.st = (L.map Prod.fst).map (sgI0 s id) := by
 rw [List.map_map, List.map_map]
 rfl
theorem SgTx.lens (h : SgTx base s p (.slice ai ni ci) (.slice ap np cp) L w) : L.length = ni ∧ p.cs.length = ni ∧ p.ys.length = np := by
 obtain ⟨a1, c1, e1, _⟩ := ORC.at sn3 h.own
 obtain ⟨a2, c2, e2, _⟩ := ORC.at kv2 h.oo
 injection e1 with _ e1 _
 injection e2 with _ e2 _
 have := congrArg List.length h.fst
 rw [List.length_map] at this
 exact ⟨e1.symm, by omega, e2.symm⟩
theorem SgTx.shape (h : SgTx base s p v1 v2 L w) : ∃ ai ni ci ap np cp, v1 = .slice ai ni ci ∧ v2 = .slice ap np cp := by
 obtain ⟨a1, c1, e1, _⟩ := ORC.at sn3 h.own
 obtain ⟨a2, c2, e2, _⟩ := ORC.at kv2 h.oo
 exact ⟨a1, _, c1, a2, _, c2, e1, e2⟩
theorem SgTx.insAt (h : SgTx base s p (.slice ai ni ci) vo L w) : IAa w ai (L.map (sgIn s p.id)) := by
 obtain ⟨a1, c1, e1, hr⟩ := ORC.at sn3 h.own
 injection e1 with e1 _ _
 subst e1
 rcases hr with h0 | ⟨b, off, e, hr⟩
 ·exact Or.inl (by rw [h0]; rfl)
 ·refine Or.inr ⟨b, off, e, fun j hj => ?_⟩
  rw [List.length_map] at hj
  have eg : (L.map (sgIn s p.id)).getD j dIn = sgIn s p.id (L.getD j dQ) := by simp [List.getD, hj]
  rw [eg]
  exact ⟨⟨reL sn3 dQ hr j hj 0 (by omega), reL sn3 dQ hr j hj 1 (by omega), reL sn3 dQ hr j hj 2 (by omega)⟩, ⟨Or.inr ⟨_, _, rfl, (h.row _ (gDM L dQ j hj)).1⟩, Mk.sealL_len _ _ _ _, by show (5 : Nat) ≤ _; omega, fun e => (by cases e)⟩⟩
theorem SgTx.outsAt (h : SgTx base s p vi (.slice ap np cp) L w) : OsT w ap p.ys := by
 obtain ⟨a1, c1, e1, hr⟩ := ORC.at kv2 h.oo
 injection e1 with e1 _ _
 subst e1
 exact roS hr
def sgB (v1 v2 : Value) (L : List (CoinD × Nat)) (k : Nat) : Prop := v1.ownBlock = some k ∨ v2.ownBlock = some k ∨ ∃ q ∈ L, q.2 = k
theorem SgTx.frB (h : SgTx base s p vi vo L w) (hf : Fr E w w') (hE : ∀ k, sgB vi vo L k → ¬ E k) : SgTx base s p vi vo L w' := by
 refine ⟨h.fst, hf.own h.own (fun k hk => hE k (Or.inl hk)), fun q hq => ?_, h.nv, h.nd, hf.own h.oo (fun k hk => hE k (Or.inr (Or.inl hk))), h.ne⟩
 obtain ⟨h1, h2, h3, h4⟩ := h.row q hq
 have hn := hE q.2 (Or.inr (Or.inr ⟨q, hq, rfl⟩))
 exact ⟨fun j hj => hf.cell (h1 j hj) hn, fun j hj => (hf.frozen h4 hn).trans (h2 j hj), h3, ltL h4 hf.size⟩
theorem SgTx.blk (h : SgTx base s p vi vo L w) (hk : sgB vi vo L k) : base ≤ k ∧ k < w.heap.size := by
 rcases hk with hk | hk | ⟨q, hq, rfl⟩
 ·exact h.own.blk k hk
 ·exact h.oo.blk k hk
 ·exact ⟨(h.row q hq).2.2.1, (h.row q hq).2.2.2⟩
theorem sg_sv (s id : Int) (L : List (CoinD × Nat)) (j : Nat) (hj : j < L.length) : ((L.map (sgIn s id)).getD j dIn).sv = .slice (some ⟨(L.getD j dQ).2, 0, none⟩) 5 5 := by
 have eg : (L.map (sgIn s id)).getD j dIn = sgIn s id (L.getD j dQ) := by simp [List.getD, hj]
 rw [eg]
 rfl
theorem SgTx.hand (h : SgTx base s p vi vo L w) (hc : ∀ k, sgB vi vo L k → col k = 0) : HdI col w vi (L.map (sgIn s p.id)) := by
 rcases h.own.slice sn3 with ⟨e, e2⟩ | ⟨g, c, rfl, h1, h2, h3, h4⟩
 ·refine Or.inl ⟨e, ?_⟩
  rw [e2]
  rfl
 ·have hat : RcT snV w (some ⟨g, 0, none⟩) L := oaS sn3 h.own
  refine Or.inr ⟨g, L.length, c, rfl, (own_room h.own).1, hc g (Or.inl rfl), (h.own.blk g rfl).2, (own_room h.own).2, own_cap h.own, ⟨fun j hj => ?_, fun j hj => ?_, fun j hj => ?_, fun i j hij hj k hk => ?_⟩, by simp⟩
  ·rw [List.length_map] at hj
   rw [sg_sv s p.id L j hj]
   rcases hat with e | ⟨b, off, e, hr⟩
   ·rw [e] at hj; simp at hj
   ·cases e
    have := reL sn3 dQ hr j hj 2 (by omega)
    rw [Nat.zero_add] at this
    exact this
  ·rw [List.length_map] at hj
   rw [sg_sv s p.id L j hj]
   have hr := h.row _ (gDM L dQ j hj)
   refine Or.inr ⟨_, 5, 5, rfl, ⟨fun i hi => ?_, fun i hi => ?_⟩, hc _ (Or.inr (Or.inr ⟨_, gDM L dQ j hj, rfl⟩)), hr.2.2.2, leR, by omega⟩
   ·have := hr.1 i (by rw [Mk.sealL_len]; omega)
    rw [Nat.zero_add] at this
    exact ⟨_, this⟩
   ·have := hr.2.1 i (by omega)
    rw [Nat.zero_add] at this
    exact this
  ·rw [List.length_map] at hj
   rw [sg_sv s p.id L j hj]
   intro e
   exact (h.nv _ (gDM L dQ j hj)).1 e.symm
  ·rw [List.length_map] at hj
   rw [sg_sv s p.id L i (by omega)] at hk
   rw [sg_sv s p.id L j hj]
   intro e
   have hp := List.pairwise_iff_getElem.1 h.nd i j (by omega) hj hij
   have e1 : L.getD i dQ = L[i] := by simp [List.getD, show i < L.length by omega]
   have e2 : L.getD j dQ = L[j] := by simp [List.getD, hj]
   rw [e1] at hk
   rw [e2] at e
   simp [Value.ownBlock] at hk e
   omega
theorem SgTx.seals {id : Int} (hn : n ≤ L.length) (h : slB (L.map (sgIn s id)) n k) : ∃ q ∈ L, q.2 = k := by
 obtain ⟨i, hi, e⟩ := h
 rw [sg_sv s id L i (by omega)] at e
 simp [Value.ownBlock] at e
 exact ⟨_, gDM L dQ i (by omega), e⟩
theorem sign_sync {bls : List (List TxD)} (hl : Lk bls xs) (hp : LkP ps ks ms) (n : Int) :
 (∃ x, signZ xs ps ks n = .inl x ∧ dgZ bls ms n = .inl x) ∨ (∃ j k : Nat, signZ xs ps ks n = .inr j ∧ dgZ bls ms n = .inr k ∧ j < ps.length ∧ k < ms.length ∧ n = (k : Int) ∧ (ps.getD j dP).num = (k : Int) ∧ (ps.getD j dP).k = (ms.getD k dM).k) := by
 have hc := hl.here.1
 have hid : ∀ a, hasId xs a = snZ bls a := fun a => by rw [← anyId_toR, hc, anyId_cells hl.good]
 have hhc : ∀ x, hoZ xs x = hasR (clR bls) x := fun x => by
  unfold hoZ hasR
  rw [← hc, find_toR]
  rcases fcS xs x.id x.pos with e | ⟨j, hj, e, _⟩
  ·rw [e]; rfl
  ·rw [e]
   rw [if_neg (by omega), if_neg (by omega), Int.toNat_natCast, toR_get xs j hj]
   rfl
 unfold signZ dgZ
 rcases pfind_spec ps n with ⟨e, hno⟩ | ⟨j, hj, e, hnum⟩
 ·have hlv : liveB ms n = false := by
   cases h : liveB ms n
   ·rfl
   ·exact absurd ((live_num hp n).2 ((liveB_iff ms n).1 h)) hno
  left
  refine ⟨11, ?_, ?_⟩
  ·rw [e, if_pos (by omega)]
  ·rw [if_pos hlv]
 ·have hmem := gDM ps dP j hj
  have hlive := (live_num hp n).1 ⟨_, hmem, hnum⟩
  have hlv : liveB ms n = true := (liveB_iff ms n).2 hlive
  obtain ⟨k, rfl, hk, _⟩ := hlive
  obtain ⟨_, _, hkk⟩ := hp.at hmem hnum
  have e1 : (ps.getD j dP).cs = (ms.getD k dM).cs := congrArg (fun t : PK => t.2.1) hkk
  have e2 : (ps.getD j dP).ys = (ms.getD k dM).zs := congrArg (fun t : PK => t.2.2.1) hkk
  have e3 : (ps.getD j dP).tag = (ms.getD k dM).tag := congrArg (fun t : PK => t.2.2.2.1) hkk
  have e4 : (ps.getD j dP).sg = (ms.getD k dM).sg := congrArg (fun t : PK => t.2.2.2.2) hkk
  have g1 : (hasId xs (ps.getD j dP).id = true ∨ hasAllZ xs (ps.getD j dP).cs = false) ↔ goneR bls (ms.getD k dM).tag (ms.getD k dM).cs (ms.getD k dM).zs = true := by
   have ei : (ps.getD j dP).id = idZ (ms.getD k dM).tag ((ms.getD k dM).cs.map CoinD.inD) (ms.getD k dM).zs := by
    unfold PayD.id
    rw [e1, e2, e3]
    rfl
   rw [ei, e1, hid]
   unfold goneR hasAllZ
   rw [Bool.or_eq_true, Bool.not_eq_false']
   have : ((ms.getD k dM).cs.any fun x => !hoZ xs x) = ((ms.getD k dM).cs.any fun x => !hasR (clR bls) x) := by
    congr 1
    funext x
    rw [hhc]
   rw [this]
  have g2 : anySealZ ks (ps.getD j dP).cs = ((ms.getD k dM).cs.any fun x => usedR ms x.br x.ix) := by
   unfold anySealZ
   rw [e1]
   congr 1
   funext x
   exact hp.used x.br x.ix
  rw [e, if_neg (show ¬ ((j : Nat) : Int) < 0 by omega), if_neg (show ¬ liveB ms ((k : Nat) : Int) = false by rw [hlv]; simp)]
  simp only [Int.toNat_natCast]
  rw [e4, g2]
  by_cases c1 : (ms.getD k dM).sg = false ∧ goneR bls (ms.getD k dM).tag (ms.getD k dM).cs (ms.getD k dM).zs = true
  ·left
   exact ⟨12, by rw [if_pos ⟨c1.1, g1.2 c1.2⟩], by rw [if_pos c1]⟩
  ·rw [if_neg (fun h => c1 ⟨h.1, g1.1 h.2⟩), if_neg c1]
   by_cases c2 : (ms.getD k dM).sg = false ∧ ((ms.getD k dM).cs.any fun x => usedR ms x.br x.ix) = true
   ·left
    exact ⟨13, by rw [if_pos c2], by rw [if_pos c2]⟩
   ·right
    exact ⟨j, k, by rw [if_neg c2], by rw [if_neg c2], hj, hk, rfl, hnum, hkk⟩
end
end Go.Proofs.YtffgpepngcnjeabGreat
