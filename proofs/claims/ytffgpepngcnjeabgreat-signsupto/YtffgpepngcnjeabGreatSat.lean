import Derived.Test.YtffgpepngcnjeabGreatSas
namespace Go.Proofs.YtffgpepngcnjeabGreat
set_option maxRecDepth 100000
set_option maxHeartbeats 4000000
section
open Go.RowKit
variable {ys : LII} {r tag s : Int} {w wr ws wa w2 w' w3 : World} {g off B R S n c D cr cc a d : Nat} {bs : List Bool} {a0 v x y z : Value} {ob : Obj} {b : Bool} {ar ac : OAd}
theorem bitN_zero (n i : Nat) : bitN 0 n i = false := by
 unfold bitN
 rw [Nat.zero_div]
 rfl
theorem memD_zero (cs : List CoinD) (n : Nat) : memD cs n 0 = [] := by
 unfold memD
 rw [List.filter_eq_nil_iff.2 (fun i _ => by rw [bitN_zero]; simp)]
 rfl
theorem seD_drop (r : Int) (ds : List CoinD) (k : Nat) (h : k < ds.length) (T : Int) : seD r (ds.drop k) (ds.take k) T = if 0 ≤ T + wtZ r (ds.getD k dN) then some (ds.take (k + 1), T + wtZ r (ds.getD k dN)) else seD r (ds.drop (k + 1)) (ds.take (k + 1)) (T + wtZ r (ds.getD k dN)) := by
 rw [List.drop_eq_getElem_cons h, seD]
 simp only [List.getD, List.getElem?_eq_getElem h, Option.getD_some]
 rw [List.take_succ_eq_append_getElem h]
def ChD (r : Int) (cs : List CoinD) (want : Int) (v : Value) (ch : Int) (w w' : World) : Prop :=
 ORC CoinD.l 107 6 w' w.heap.size v (csD r cs want).1 ∧ ch = (csD r cs want).2 ∧ Below w.heap.size w w'
theorem chosen_any (ao : OAd) (q c : Nat) (cs : List CoinD) (r want : Int) (w : World) (hx : RcT CoinD.l w ao cs) (hq : cs.length = q) (hq2 : q ≤ 10000) (hr : 0 ≤ r ∧ r ≤ 1000) (hv : CVals cs) (hwt : 0 ≤ want ∧ want ≤ 200000000000000) :
 Calls Tryz.prog 166 #[.slice ao q c, .int .i64 r, .int .i64 want] w fun e w' => ∃ v ch, e = .returned (.tuple #[v, .int .i64 ch]) ∧ ChD r cs want v ch w w' := by
 have HX : Hid (RcT CoinD.l w ao cs) := hx
 have HQ : Hid (cs.length = q) := hq
 have HV : Hid (CVals cs) := hv
 have HCH : Hid (∀ v ch w', ChD r cs want v ch w w' ↔ (ORC CoinD.l 107 6 w' w.heap.size v (csD r cs want).1 ∧ ch = (csD r cs want).2 ∧ Below w.heap.size w w')) := fun _ _ _ => Iff.rfl
 have HCD : Hid (csD r cs want = if 0 < bestD r cs (min 8 q) want (want + 2 * r + 10 - 1) then (memD cs (min 8 q) (bestD r cs (min 8 q) want (want + 2 * r + 10 - 1)), 0)
 else match seD r (cs.take 10) [] (-want) with
  | none => ([], 0)
  | some (out, left) => (out, if 10 ≤ left - 2 * r then left - 2 * r else 0)) := by show _ = _; subst hq; rfl
 clear hx hq hv
 generalize hB : w.heap.size = B at *
 have HB : Hid (w.heap.size = B) := hB
 clear hB
 generalize hN : min 8 q = n at *
 have hn8 : n ≤ 8 := by omega
 have hnq : n ≤ q := by omega
 go_enter Tryz.func166, Tryz.ntmps166
 go_upto_if 19 with fail
 go_cut [8] (fun u wx => u = .int .i64 (n : Int) ∧ w = wx)
 case first =>
  by_cases h8 : 8 < q
  ·have h : n = 8 := by omega
   subst h
   go_wp2
   go_meet
   exact ⟨rfl, rfl⟩
  ·have h : n = q := by omega
   subst h
   go_wp2
   go_meet
   exact ⟨rfl, rfl⟩
 case rest =>
  obtain ⟨rfl, rfl⟩ := hcut
  have hw1 : IntKind.i64.wrap (2 * r) = 2 * r := IntWalk.i64_in _ ⟨by omega, by omega⟩
  have hw2 : IntKind.i64.wrap (want + 2 * r) = want + 2 * r := IntWalk.i64_in _ ⟨by omega, by omega⟩
  have hw3 : IntKind.i64.wrap (want + 2 * r + 10) = want + 2 * r + 10 := IntWalk.i64_in _ ⟨by omega, by omega⟩
  have hw4 : IntKind.i64.wrap (want + 2 * r + 10 - 1) = want + 2 * r + 10 - 1 := IntWalk.i64_in _ ⟨by omega, by omega⟩
  have hw5 : IntKind.i64.wrap (-want) = -want := IntWalk.i64_in _ ⟨by omega, by omega⟩
  go_wp2_with fail
  refine (fitting_any ao q c cs r n want (want + 2 * r + 10 - 1) _ HX.out HQ.out hn8 hnq hr HV.out).mono ?_
  rintro e w1 ⟨rfl, hb255, hb1⟩
  rw [HB.out] at hb1
  generalize bestD r cs n want (want + 2 * r + 10 - 1) = m at *
  clear hw2 hw3 hw4
  have hs1 := hb1.size
  rw [HB.out] at hs1
  have HX1 : Hid (RcT CoinD.l w1 ao cs) := HX.out.grown (by rw [HB.out]; exact hb1)
  go_wp2
  go_loopw [10, 11] (fun v i wr => ∃ k : Nat, k ≤ n ∧ i = .int .i64 k ∧ ORC CoinD.l 107 6 wr B v (((List.range k).filter fun i => bitN m n i).map fun i => cs.getD i dN) ∧ Below B w wr) (fun _ i _ => n - (intOf i).toNat)
  case atStart => exact ⟨0, Nat.zero_le _, rfl, ORC.nil _ _ _ _ _, hb1⟩
  case round =>
   obtain ⟨k, hk, rfl, hown, hbl⟩ := hrel
   have hsz := hbl.size
   rw [HB.out] at hsz
   by_cases hlt : k < n
   ·have HS : Hid _ := range_filter_snoc (fun i => bitN m n i) (fun i => cs.getD i dN) k
    have HL : Hid _ := rAa (fun i => bitN m n i) (fun i => cs.getD i dN) k
    have HO : Hid (ORC CoinD.l 107 6 wr B u10 (((List.range k).filter fun i => bitN m n i).map fun i => cs.getD i dN)) := hown
    clear hown
    generalize ((List.range k).filter fun i => bitN m n i).map (fun i => cs.getD i dN) = acc at *
    cases hb : bitN m n k
    ·go_wp2_with (go_at_call 207; refine (dHas_any m n k _ hn8 hlt).mono ?_; rintro e w' ⟨rfl, rfl⟩; rw [hb])
     go_roundw
     case rel => exact ⟨k + 1, by omega, by go_num, by rw [HS.out, hb, if_neg (by simp), List.append_nil]; exact HO.out, hbl⟩
     case measure => simp [intOf]; omega
    ·have hkl : k < cs.length := by rw [HQ.out]; omega
     rcases (HX.out.grown (by rw [HB.out]; exact hbl) : RcT CoinD.l wr ao cs) with hnil | ⟨gc, oc, rfl, hrow⟩
     ·rw [hnil] at hkl; simp at hkl
     obtain ⟨e0, e1, e2, e3, e4, e5⟩ := cCS hrow k hkl
     have hkI : (k : Int) < (q : Int) := by omega
     have hk0 : (0 : Int) ≤ (k : Int) := by omega
     clear hrow
     generalize cs.getD k dN = y at *
     obtain ⟨y0, y1, y2, y3, y4, y5⟩ := y
     simp only at e0 e1 e2 e3 e4 e5
     go_wp2_with (first | (go_at_call 207; refine (dHas_any m n k _ hn8 hlt).mono ?_; rintro e w' ⟨rfl, rfl⟩; rw [hb]) | (at_builtin; refine wtR 45 48 _ Tryz.underlying45 info107 rfl (by decide) ci6 cnE (wr.alloc (.cells #[.int .i64 y0, .int .i64 y1, .int .i64 y2, .int .i64 y3, .int .i64 y4, .int .i64 y5] 107)) rfl _ _ rfl B wr.heap.size 1 u10 acc ⟨y0, y1, y2, y3, y4, y5⟩ (by rfl) (by rfl) (HO.out.alloc _) (vwW _ _ _) (by simp; omega) (by have := HL.out; unfold maxLen; omega) (by have := HL.out; omega) ?_; intro g' cap w5 hown5 hg5 _ _))
     go_roundw
     case rel => exact ⟨k + 1, by omega, by go_num, by rw [HS.out, if_pos hb]; exact hown5, hbl.trans (gbW (grS (glC _ _ _) hg5) (by omega) (fun r hr => (HO.out.blk r hr).1))⟩
     case measure => simp [intOf]; omega
   ·have hkn : k = n := by omega
    subst hkn
    have HO : Hid (ORC CoinD.l 107 6 wr B u10 (memD cs k m)) := hown
    clear hown hk hlt
    by_cases hm : 0 < m
    ·have HCD1 : Hid (csD r cs want = (memD cs k m, 0)) := by show _ = _; rw [HCD.out, if_pos hm]
     go_wp2
     go_ret2
     exact ⟨_, _, rfl, (HCH.out _ _ _).2 ⟨by rw [HCD1.out]; exact HO.out, by rw [HCD1.out], hbl⟩⟩
    ·have hm0 : m = 0 := by omega
     subst hm0
     have hc' := HCD.out
     rw [if_neg hm] at hc'
     have HCD1 : Hid (csD r cs want = match seD r (cs.take 10) [] (-want) with
      | none => ([], 0)
      | some (out, left) => (out, if 10 ≤ left - 2 * r then left - 2 * r else 0)) := hc'
     clear hc' HCD hm hb255
     have ho := HO.out
     rw [memD_zero] at ho
     have HD : Hid ((cs.take 10).length = min 10 q) := by show _ = _; rw [List.length_take, HQ.out]
     have HDG : Hid (∀ i, i < min 10 q → (cs.take 10).getD i dN = cs.getD i dN) := fun i hi => by
      rw [List.getD, List.getD, List.getElem?_take, if_pos (by omega)]
     generalize hds : cs.take 10 = ds at *
     clear hds HO HX1
     have HBW : Hid (Below B w wr) := hbl
     obtain ⟨wo, rfl⟩ : ∃ wo : World, wo = wr := ⟨_, rfl⟩
     generalize hdl : min 10 q = dl at *
     clear hs1 hb1 hnq
     go_wp2
     go_loopw [10, 13, 14] (fun v lv i wr => ∃ (k : Nat) (T : Int), k ≤ dl ∧ i = .int .i64 k ∧ lv = .int .i64 T ∧ ORC CoinD.l 107 6 wr B v (ds.take k) ∧ Hid (seD r (ds.drop k) (ds.take k) T = seD r ds [] (-want)) ∧ -200000000000000 - (7000 * (k : Int)) ≤ T ∧ T ≤ 1099511627776 * (k : Int) ∧ Below B w wr) (fun _ _ i _ => dl - (intOf i).toNat)
     case atStart => exact ⟨0, -want, Nat.zero_le _, rfl, rfl, ho, rfl, by simp; omega, by simp; omega, hbl⟩
     case round =>
      obtain ⟨k, T, hk, rfl, rfl, hown, hz, hT1, hT2, hbl2⟩ := hrel
      have hsz2 := hbl2.size
      rw [HB.out] at hsz2
      by_cases hlt : k < dl
      ·have hkd : k < ds.length := by rw [HD.out]; exact hlt
       have hkl : k < cs.length := by rw [HQ.out]; omega
       have hz' := hz.out
       rw [seD_drop r ds k hkd T, HDG.out k hlt] at hz'
       have HS : Hid (ds.take (k + 1) = ds.take k ++ [cs.getD k dN]) := by
        show _ = _
        rw [← HDG.out k hlt, List.take_succ_eq_append_getElem hkd]
        simp [List.getD, hkd]
       have HL : Hid ((ds.take k).length ≤ 10) := by show _ ≤ _; rw [List.length_take]; omega
       have HO : Hid (ORC CoinD.l 107 6 wr B u10 (ds.take k)) := hown
       have hvk := HV.out (cs.getD k dN) (gDM cs dN k hkl)
       rcases (HX.out.grown (by rw [HB.out]; exact hbl2) : RcT CoinD.l wr ao cs) with hnil | ⟨gc, oc, rfl, hrow⟩
       ·rw [hnil] at hkl; simp at hkl
       obtain ⟨e0, e1, e2, e3, e4, e5⟩ := cCS hrow k hkl
       have hkI : (k : Int) < (q : Int) := by omega
       have hk0 : (0 : Int) ≤ (k : Int) := by omega
       have hk10 : (k : Int) < 10 := by omega
       clear hrow hz hown
       generalize cs.getD k dN = y at *
       obtain ⟨y0, y1, y2, y3, y4, y5⟩ := y
       simp only at e0 e1 e2 e3 e4 e5 hvk
       have HWD : Hid (wtZ r ⟨y0, y1, y2, y3, y4, y5⟩ = y3 - 7 * r) := rfl
       have HZ : Hid ((if 0 ≤ T + (y3 - 7 * r) then some (ds.take (k + 1), T + (y3 - 7 * r)) else seD r (ds.drop (k + 1)) (ds.take (k + 1)) (T + (y3 - 7 * r))) = seD r ds [] (-want)) := hz'
       clear hz'
       generalize ds.take k = acc at *
       go_upto_region 19 with (go_at_call 205; refine (dWorth_any ⟨y0, y1, y2, y3, y4, y5⟩ r _ hr hvk).mono ?_; rintro e w7 ⟨rfl, hb7⟩; rw [HWD.out])
       have hw : IntKind.i64.wrap (T + (y3 - 7 * r)) = T + (y3 - 7 * r) := IntWalk.i64_in _ ⟨by omega, by omega⟩
       have HO7 : Hid (ORC CoinD.l 107 6 w7 B u10 acc) := HO.out.grown hb7
       have e0 := (hb7.cell (p := ⟨gc, oc + k * 6, none⟩) (clT e0)).trans e0
       have e1 := (hb7.cell (p := ⟨gc, oc + k * 6 + 1, none⟩) (clT e1)).trans e1
       have e2 := (hb7.cell (p := ⟨gc, oc + k * 6 + 2, none⟩) (clT e2)).trans e2
       have e3 := (hb7.cell (p := ⟨gc, oc + k * 6 + 3, none⟩) (clT e3)).trans e3
       have e4 := (hb7.cell (p := ⟨gc, oc + k * 6 + 4, none⟩) (clT e4)).trans e4
       have e5 := (hb7.cell (p := ⟨gc, oc + k * 6 + 5, none⟩) (clT e5)).trans e5
       have hb07 : Below B w w7 := hbl2.trans (hb7.mono hsz2)
       have hsz7 := hb07.size
       rw [HB.out] at hsz7
       go_upto_region 21 with (at_builtin; refine wtR 45 48 _ Tryz.underlying45 info107 rfl (by decide) ci6 cnE (w7.alloc (.cells #[.int .i64 y0, .int .i64 y1, .int .i64 y2, .int .i64 y3, .int .i64 y4, .int .i64 y5] 107)) rfl _ _ rfl B w7.heap.size 1 u10 acc ⟨y0, y1, y2, y3, y4, y5⟩ (by rfl) (by rfl) (HO7.out.alloc _) (vwW _ _ _) (by simp; omega) (by have := HL.out; unfold maxLen; omega) (by have := HL.out; omega) ?_; intro g' cap w5 hown5 hg5 _ _)
       have hb05 : Below B w w5 := hb07.trans (gbW (grS (glC _ _ _) hg5) (by omega) (fun r hr => (HO.out.blk r hr).1))
       rw [← HS.out] at hown5
       have HO5 : Hid _ := hown5
       clear hown5 hg5
       clear hw
       generalize hT' : T + (y3 - 7 * r) = T' at *
       have t1 : -200000000000000 - (7000 * ((k + 1 : Nat) : Int)) ≤ T' := by push_cast; omega
       have t2 : T' ≤ 1099511627776 * ((k + 1 : Nat) : Int) := by push_cast; omega
       have hw6 : IntKind.i64.wrap (T' - 2 * r) = T' - 2 * r := IntWalk.i64_in _ ⟨by omega, by omega⟩
       clear hT'
       by_cases h0 : 0 ≤ T'
       ·rw [if_pos h0] at HZ
        rw [← HZ.out] at HCD1
        by_cases h1 : 10 ≤ T' - 2 * r
        ·have HF : Hid (csD r cs want = (ds.take (k + 1), T' - 2 * r)) := by show _ = _; rw [HCD1.out]; simp only; rw [if_pos h1]
         go_wp2
         go_ret2
         exact ⟨_, _, rfl, (HCH.out _ _ _).2 ⟨by rw [HF.out]; exact HO5.out, by rw [HF.out], hb05⟩⟩
        ·have HF : Hid (csD r cs want = (ds.take (k + 1), 0)) := by show _ = _; rw [HCD1.out]; simp only; rw [if_neg h1]
         go_wp2
         go_ret2
         exact ⟨_, _, rfl, (HCH.out _ _ _).2 ⟨by rw [HF.out]; exact HO5.out, by rw [HF.out], hb05⟩⟩
       ·rw [if_neg h0] at HZ
        go_wp2
        go_roundw
        case rel => exact ⟨_, _, _, _, _, ⟨k + 1, by omega, by go_num, T', rfl, HO5.out, HZ.out, t1, t2⟩, rfl, rfl, rfl, rfl, rfl⟩
        case measure => simp [intOf]; omega
      ·have hkd : k = dl := by omega
       have HZ : Hid (none = seD r ds [] (-want)) := by
        have := hz.out
        rw [List.drop_of_length_le (by rw [HD.out]; omega), seD] at this
        exact this
       rw [← HZ.out] at HCD1
       have HF : Hid (csD r cs want = ([], 0)) := HCD1.out
       by_cases hkq : k < q
       ·have hk10 : ¬ ((k : Int) < 10) := by omega
        go_wp2
        go_ret2
        exact ⟨_, _, rfl, (HCH.out _ _ _).2 ⟨by rw [HF.out]; exact ORC.nil _ _ _ _ _, by rw [HF.out], hbl2⟩⟩
       ·go_wp2
        go_ret2
        exact ⟨_, _, rfl, (HCH.out _ _ _).2 ⟨by rw [HF.out]; exact ORC.nil _ _ _ _ _, by rw [HF.out], hbl2⟩⟩
def aAa (ys : LII) (r tag : Int) : Int :=
 if r < 0 ∨ 1000 < r ∨ ¬ (0 ≤ tag ∧ tag ≤ 1099511627776) then 1 else if 7 < ys.length ∨ rOuts ys = false then 2 else 0
theorem asked_arg (h : r < 0 ∨ 1000 < r ∨ ¬ (0 ≤ tag ∧ tag ≤ 1099511627776)) : aAa ys r tag = 1 := by unfold aAa; rw [if_pos h]
theorem asked_shape (h : ¬ (r < 0 ∨ 1000 < r ∨ ¬ (0 ≤ tag ∧ tag ≤ 1099511627776))) (h2 : 7 < ys.length ∨ rOuts ys = false) : aAa ys r tag = 2 := by unfold aAa; rw [if_neg h, if_pos h2]
theorem asked_ok (h : ¬ (r < 0 ∨ 1000 < r ∨ ¬ (0 ≤ tag ∧ tag ≤ 1099511627776))) (h2 : ¬ (7 < ys.length ∨ rOuts ys = false)) : aAa ys r tag = 0 := by unfold aAa; rw [if_neg h, if_neg h2]
theorem asked_any (ao : OAd) (n c : Nat) (ys : LII) (r tag : Int) (w : World) (hx : OsT w ao ys) (hn : ys.length = n) :
 Calls Tryz.prog 163 #[.slice ao n c, .int .i64 r, .int .i64 tag] w fun e w' => e = .returned (.int .i64 (aAa ys r tag)) ∧ Below w.heap.size w w' := by
 have HX := hiD hx
 have HN := hiD hn
 clear hx hn
 by_cases h1 : r < 0
 ·rw [asked_arg (Or.inl h1)]
  go_enter Tryz.func163, Tryz.ntmps163
  go_wp2
  go_ret
  exact ⟨rfl, Below.refl _ _⟩
 by_cases h2 : 1000 < r
 ·rw [asked_arg (Or.inr (Or.inl h2))]
  go_enter Tryz.func163, Tryz.ntmps163
  go_wp2
  go_ret
  exact ⟨rfl, Below.refl _ _⟩
 by_cases h3 : tag < 0
 ·rw [asked_arg (Or.inr (Or.inr (by omega)))]
  go_enter Tryz.func163, Tryz.ntmps163
  go_wp2
  go_ret
  exact ⟨rfl, Below.refl _ _⟩
 by_cases h4 : 1099511627776 < tag
 ·rw [asked_arg (Or.inr (Or.inr (by omega)))]
  go_enter Tryz.func163, Tryz.ntmps163
  go_wp2
  go_ret
  exact ⟨rfl, Below.refl _ _⟩
 have hno : ¬ (r < 0 ∨ 1000 < r ∨ ¬ (0 ≤ tag ∧ tag ≤ 1099511627776)) := by omega
 by_cases h5 : n < 1
 ·rw [asked_shape hno (Or.inr (by unfold rOuts; rw [decide_eq_false (by rw [HN.out]; omega)]; rfl))]
  go_enter Tryz.func163, Tryz.ntmps163
  go_wp2
  go_ret
  exact ⟨rfl, Below.refl _ _⟩
 by_cases h6 : 7 < n
 ·rw [asked_shape hno (Or.inl (by rw [HN.out]; exact h6))]
  go_enter Tryz.func163, Tryz.ntmps163
  go_wp2
  go_ret
  exact ⟨rfl, Below.refl _ _⟩
 have HRO : Hid (rOuts ys = ys.all rOut) := by show _ = _; unfold rOuts; rw [decide_eq_true (by rw [HN.out]; omega)]; rfl
 have HNO := hiD hno
 clear hno
 go_enter Tryz.func163, Tryz.ntmps163
 go_wp2
 go_loopw [7] (fun i wr => ∃ k : Nat, k ≤ n ∧ i = .int .i64 k ∧ Hid ((ys.take k).all rOut = true) ∧ Below w.heap.size w wr) (fun i _ => n - (intOf i).toNat)
 case atStart => exact ⟨0, Nat.zero_le _, rfl, by show List.all _ _ = true; simp, Below.refl _ _⟩
 case round =>
  obtain ⟨k, hk, rfl, hall, hbl⟩ := hrel
  have hsz := hbl.size
  by_cases hlt : k < n
  ·rcases HX.out with hnil | ⟨gg, off, rfl, hrow⟩
   ·have := HN.out; rw [hnil] at this; simp at this; omega
   obtain ⟨c0, c1⟩ := (hrow.grown hbl) k (by rw [HN.out]; exact hlt)
   have HS : Hid ((ys.take (k + 1)).all rOut = rOut (ys.getD k (0, 0))) := by
    show _ = _
    rw [List.take_succ_eq_append_getElem (by rw [HN.out]; exact hlt), List.all_append, hall.out]
    simp [List.getD, HN.out, hlt]
   have HM : Hid (ys.getD k (0, 0) ∈ ys) := gDM ys (0, 0) k (by rw [HN.out]; exact hlt)
   have hkI : (k : Int) < (n : Int) := by omega
   have hk0 : (0 : Int) ≤ (k : Int) := by omega
   clear hrow
   generalize ys.getD k (0, 0) = y at *
   obtain ⟨y0, y1⟩ := y
   simp only at c0 c1
   cases hro : rOut (y0, y1)
   ·have HF : Hid (aAa ys r tag = 2) := asked_shape HNO.out (Or.inr (by
     rw [HRO.out, List.all_eq_false]
     exact ⟨_, HM, by rw [hro]; simp⟩))
    go_wp2_with (go_at_call 204; refine (rRightOut_any y0 y1 _).mono ?_; rintro e w5 ⟨rfl, hb5⟩; rw [hro])
    go_ret
    exact ⟨riT HF.out.symm, hbl.trans (hb5.mono hsz)⟩
   ·go_wp2_with (go_at_call 204; refine (rRightOut_any y0 y1 _).mono ?_; rintro e w5 ⟨rfl, hb5⟩; rw [hro])
    go_roundw
    case rel => exact ⟨k + 1, by omega, by go_num, by show _ = _; rw [HS.out, hro], hbl.trans (hb5.mono hsz)⟩
    case measure => simp [intOf]; omega
  ·have HF : Hid (aAa ys r tag = 0) := asked_ok HNO.out (by
    rw [HRO.out]
    have h := hall.out
    rw [List.take_of_length_le (by rw [HN.out]; omega)] at h
    rw [h, HN.out]
    rintro (h | h)
    ·omega
    ·cases h)
   go_wp2
   go_ret
   exact ⟨riT HF.out.symm, hbl⟩
theorem dTarget_any (ao : OAd) (n c : Nat) (ys : LII) (r : Int) (w : World) (hx : OsT w ao ys) (hn : ys.length = n) (hm : n ≤ 100) (hr : 0 ≤ r ∧ r ≤ 1000) (hb : ∀ y ∈ ys, 0 ≤ y.2 ∧ y.2 ≤ 1099511627776) :
 Calls Tryz.prog 165 #[.slice ao n c, .int .i64 r] w fun e w' => e = .returned (.int .i64 (tgZ ys r)) ∧ Below w.heap.size w w' := by
 have HX := hiD hx
 have HN := hiD hn
 have HB := hiD hb
 clear hx hn hb
 have hrn : 0 ≤ r * (3 + 2 * (n : Int)) ∧ r * (3 + 2 * (n : Int)) ≤ 203000 := ⟨Int.mul_nonneg hr.1 (by omega), by
  have h1 : r * (3 + 2 * (n : Int)) ≤ 1000 * (3 + 2 * (n : Int)) := Int.mul_le_mul_of_nonneg_right hr.2 (by omega)
  omega⟩
 have hw1 : IntKind.i64.wrap (2 * (n : Int)) = 2 * (n : Int) := IntWalk.i64_in _ ⟨by omega, by omega⟩
 have hw2 : IntKind.i64.wrap (3 + 2 * (n : Int)) = 3 + 2 * (n : Int) := IntWalk.i64_in _ ⟨by omega, by omega⟩
 have hw3 : IntKind.i64.wrap (r * (3 + 2 * (n : Int))) = r * (3 + 2 * (n : Int)) := IntWalk.i64_in _ ⟨by omega, by omega⟩
 have HT : Hid (tgZ ys r = r * (3 + 2 * (n : Int)) + smU ys) := by show _ = _; unfold tgZ; rw [HN.out]
 go_enter Tryz.func165, Tryz.ntmps165
 go_wp2
 generalize r * (3 + 2 * (n : Int)) = F at *
 go_loopw [5, 6] (fun v i wr => ∃ (k : Nat) (T : Int), k ≤ n ∧ i = .int .i64 k ∧ v = .int .i64 T ∧ Hid (F + ((ys.take k).map Prod.snd).sum = T) ∧ w = wr) (fun _ i _ => n - (intOf i).toNat)
 case atStart => exact ⟨0, F, Nat.zero_le _, rfl, rfl, by show F + _ = F; simp, rfl⟩
 case round =>
  obtain ⟨k, T, hk, rfl, rfl, hT, rfl⟩ := hrel
  by_cases hlt : k < n
  ·rcases HX.out with hnil | ⟨gg, off, rfl, hrow⟩
   ·have := HN.out; rw [hnil] at this; simp at this; omega
   obtain ⟨c0, c1⟩ := hrow k (by rw [HN.out]; exact hlt)
   have HS : Hid _ := sum_snoc Prod.snd ys (0, 0) k (by rw [HN.out]; exact hlt)
   have hSb := sum_bd Prod.snd 1099511627776 (ys.take k) (fun x hx => HB.out x (List.mem_of_mem_take hx))
   have hyb := HB.out (ys.getD k (0, 0)) (gDM ys (0, 0) k (by rw [HN.out]; exact hlt))
   have hl2 : (ys.take k).length ≤ 100 := by rw [List.length_take]; omega
   have hT2 : 0 ≤ T ∧ T ≤ 120000000000000 := by have := hT.out; omega
   clear hrow hSb hl2
   generalize ys.getD k (0, 0) = y at c0 c1 HS hyb
   obtain ⟨y0, y1⟩ := y
   simp only at c0 c1 hyb
   have hw : IntKind.i64.wrap (T + y1) = T + y1 := IntWalk.i64_in _ ⟨by omega, by omega⟩
   go_wp2
   go_roundw
   case rel => exact ⟨k + 1, T + y1, by omega, by go_num, rfl, (by show _ = _; rw [HS.out, ← Int.add_assoc, hT.out]), trivial⟩
   case measure => simp [intOf]; omega
  ·have HSe : Hid (tgZ ys r = T) := by show _ = _; rw [HT.out, ← hT.out, List.take_of_length_le (by rw [HN.out]; omega)]; rfl
   go_wp2
   go_ret
   exact ⟨riT HSe.out.symm, Below.refl _ _⟩
theorem kV_outL (ys : LII) : (outL ys).map (Value.int .i64) = ys.flatMap kV := by
 induction ys with
 | nil => rfl
 | cons y t ih => rw [List.flatMap_cons, ← ih]; rfl
theorem copy_outsN (a : Addr) (n c : Nat) (ys : LII) (w : World) (hr : OsT w (some a) ys) (hn : ys.length = n) (hm : n ≤ 1000) :
 ∃ w1, Sem.run Tryz.prog (Builtin.copy_ #[28, 28] 3 #[.slice (some ⟨w.heap.size, 0, none⟩) n n, .slice (some a) n c]) (w.alloc (.cells (Go.madeCells #[.int .i64 0, .int .i64 0] (n * 2)) 93)) = .ok (.int .i64 n) w1 ∧
  ORC kV 93 2 w1 w.heap.size (.slice (some ⟨w.heap.size, 0, none⟩) n n) ys ∧ Below w.heap.size w w1 := by
 have hheap := heap_made w (Go.madeCells #[Value.int .i64 0, .int .i64 0] (n * 2)) 93
 have hl : (outL ys).length = n * 2 := by rw [outL_len, hn]; omega
 have hcs := copy_src (W := w.alloc (.cells (Go.madeCells #[.int .i64 0, .int .i64 0] (n * 2)) 93)) (ints_of_outs hr) (bAl _ _) w.heap.size
 have hsrc : ∀ (j : Nat) (v : Value), ((outL ys).map (Value.int .i64))[j]? = some v → (w.alloc (.cells (Go.madeCells #[.int .i64 0, .int .i64 0] (n * 2)) 93)).cell? (a.add j) = some v := by
  intro j v hj
  by_cases hp : 0 < ((outL ys).map (Value.int .i64)).length
  ·obtain ⟨_, ad, e, h⟩ := hcs hp
   cases e
   exact h j v hj
  ·have : (outL ys).map (Value.int .i64) = [] := List.length_eq_zero_iff.1 (by omega)
   rw [this] at hj
   simp at hj
 have hlm : ((outL ys).map (Value.int .i64)).length = n * 2 := by rw [List.length_map, hl]
 have hrun := run_copy_wide Tryz.prog (w.alloc (.cells (Go.madeCells #[.int .i64 0, .int .i64 0] (n * 2)) 93)) 28 28 3 93 w.heap.size 0 n n a n c (Go.madeCells #[Value.int .i64 0, .int .i64 0] (n * 2)) 93 ((outL ys).map (Value.int .i64)) 2 Tryz.underlying28 sizeInfo56 hheap (by rw [hlm, show n.min n = n from Nat.min_self n]) hsrc (by rw [hlm, size_madeCells]; omega) (ints_one _)
 have hh := setRow_heap (w.alloc (.cells (Go.madeCells #[.int .i64 0, .int .i64 0] (n * 2)) 93)) w.heap.size (Go.madeCells #[Value.int .i64 0, .int .i64 0] (n * 2)) (splice (Go.madeCells #[Value.int .i64 0, .int .i64 0] (n * 2)).toList 0 ((outL ys).map (Value.int .i64))).toArray 93 (0, 0) hheap
 refine ⟨(w.alloc (.cells (Go.madeCells #[.int .i64 0, .int .i64 0] (n * 2)) 93)).setRow w.heap.size (splice (Go.madeCells #[Value.int .i64 0, .int .i64 0] (n * 2)).toList 0 ((outL ys).map (Value.int .i64))).toArray, ?_, ?_, below_setRow (bAl _ _) leR _⟩
 ·rw [hrun, show n.min n = n from Nat.min_self n]
  simp [splice, goInt]
 ·have hsp : splice (Go.madeCells #[Value.int .i64 0, .int .i64 0] (n * 2)).toList 0 ((outL ys).map (Value.int .i64)) = ys.flatMap kV := by
   unfold splice
   rw [List.take_zero, List.nil_append, List.drop_of_length_le (by rw [Array.length_toList, size_madeCells, hlm]; omega), List.append_nil, kV_outL]
  rw [hsp] at hh
  have hfl : (ys.flatMap kV).length = n * 2 := by rw [← kV_outL, hlm]
  refine ⟨by rw [hfl, hn], Or.inr ⟨w.heap.size, n, (ys.flatMap kV).toArray, by rw [hn], leR, ?_, by omega, by unfold maxLen; omega, by rw [List.size_toArray]; exact hfl, ?_⟩⟩
  ·rw [hsp]; exact hh
  ·rw [List.take_of_length_le (by simp [hfl, hn])]
theorem make_outsN (n : Nat) (hn : n ≤ 8796093022208) : ∀ u : World, (Instr.makeSlice 28 (.int .i64 (n : Int)) (.int .i64 (n : Int))).run Tryz.prog u =
 .ok (.slice (some ⟨u.heap.size, 0, none⟩) n n) (u.alloc (.cells (Go.madeCells #[.int .i64 0, .int .i64 0] (n * 2)) 93)) := fun u => by
 obtain ⟨i0, hi, hz0, hz1, hz2⟩ := info_parts info93
 have h := run_make (P := Tryz.prog) u 28 93 i0 (.agg #[.int .i64 0, .int .i64 0]) Tryz.underlying28 hi hz0 .i64 .i64 (n : Int) (n : Int) (by omega) (Int.le_refl _) (by rw [hz2]; omega) (by omega)
 have e : (n : Int).toNat = n := by omega
 rw [e] at h
 simpa [hz1, Value.cells] using h
theorem copiedOuts_any (a : Addr) (n c : Nat) (ys : LII) (w : World) (hr : OsT w (some a) ys) (hn : ys.length = n) (hm : n ≤ 1000) :
 Calls Tryz.prog 167 #[.slice (some a) n c] w fun e w' => e = .returned (.slice (some ⟨w.heap.size, 0, none⟩) n n) ∧ ORC kV 93 2 w' w.heap.size (.slice (some ⟨w.heap.size, 0, none⟩) n n) ys ∧ Below w.heap.size w w' := by
 have hmk := make_outsN n (by omega)
 obtain ⟨w1, hrun, hown, hb1⟩ := copy_outsN a n c ys w hr hn hm
 have HO : Hid _ := hown
 clear hown hr hn
 go_enter Tryz.func167, Tryz.ntmps167
 go_wp2
 go_ret
 exact ⟨rfl, HO, hb1⟩
def bV (b : Bool) : List Value := [.bool b]
theorem bv1 (b : Bool) : (bV b).length = 1 := rfl
theorem bv_one (b : Bool) : ∀ u ∈ bV b, u.oneCell' = true := by
 intro u hu
 simp [bV] at hu
 subst hu
 rfl
theorem info4 : (Tryz.prog.info? 4).map (fun i => (i.zero, i.size, i.bytes)) = some (some (.bool false), 1, 1) := by kernel_rfl
theorem bv_cell (h : VRow w g off (bs.flatMap bV)) (j : Nat) (hj : j < bs.length) : w.cell? ⟨g, off + j, none⟩ = some (.bool (bs.getD j false)) := by
 have := reL bv1 false h j hj 0 (by omega)
 rw [Nat.mul_one, Nat.add_zero] at this
 exact this
def hitR (l : List RCel) (a : Int) : Bool := l.any fun x => x.ad == a
def htR (l : List RCel) (ts : List Int) : List Bool := ts.map (hitR l)
theorem hits_snoc (l : List RCel) (ts : List Int) (k : Nat) (h : k < ts.length) : htR l (ts.take (k + 1)) = htR l (ts.take k) ++ [hitR l (ts.getD k 0)] := by
 unfold htR
 rw [List.take_succ_eq_append_getElem h, List.map_append]
 simp [List.getD, h]
theorem hits_len (l : List RCel) (ts : List Int) : (htR l ts).length = ts.length := by simp [htR]
structure SInv (w : World) (B R S : Nat) (a0 : Value) (v : Value) (bs : List Bool) (wr : World) : Prop where
 s0 : wr.cell? ⟨S, 0, none⟩ = some a0
 s1 : wr.cell? ⟨S, 1, none⟩ = some v
 f1 : wr.frozen? ⟨S, 1, none⟩ = false
 r : Room wr R 2
 own : ORC bV 4 1 wr (S + 1) v bs
 bel : Below B w wr
 lt : B ≤ R ∧ R < S
theorem SInv.grown (h : SInv w B R S a0 v bs wr) (hb : Below wr.heap.size wr ws) : SInv w B R S a0 v bs ws := by
 have hS : S < wr.heap.size := clT h.s0
 exact ⟨(hb.cell (p := ⟨S, 0, none⟩) hS).trans h.s0, (hb.cell (p := ⟨S, 1, none⟩) hS).trans h.s1, (hb.frozen (p := ⟨S, 1, none⟩) hS).trans h.f1, h.r.below hb (by have := h.lt; omega), h.own.grown hb, h.bel.trans (hb.mono (by have := h.lt; omega)), h.lt⟩
theorem SInv.push (h : SInv w B R S a0 v bs wa) (ho : ORC bV 4 1 w2 (S + 1) (.slice (some ⟨g, 0, none⟩) n c) (bs ++ [b])) (hg : (wa.alloc ob).grownBy w2 v.ownBlock) : SInv w B R S a0 (.slice (some ⟨g, 0, none⟩) n c) (bs ++ [b]) (w2.setCell ⟨S, 1, none⟩ (.slice (some ⟨g, 0, none⟩) n c)) := by
 have hbl : Below wa.heap.size wa (wa.alloc ob) := (Below.refl _ _).alloc leR _
 have h1 := h.grown hbl
 have hS : some S ≠ v.ownBlock := fun e => Nat.not_succ_le_self _ (h.own.blk _ e.symm).1
 have hR : some R ≠ v.ownBlock := fun e => by have := (h.own.blk _ e.symm).1; have := h.lt; omega
 have hgS : S + 1 ≤ g := (ho.blk g rfl).1
 have c0 := geL hg h1.s0 hS
 have c1 := geL hg h1.s1 hS
 have hSl : S < (wa.alloc ob).heap.size := clT h1.s0
 have f1 := (goN hg (b := S) (o := 1) hSl hS).trans h1.f1
 refine ⟨(World.cell?_setCell_other _ _ _ _ (by simp)).trans c0, World.cell?_setCell_same _ _ _ c1, by rw [World.frozen?_setCell]; exact f1, ?_, ?_, ?_, h.lt⟩
 ·refine Room.set ?_ _ _
  have hRl : R < (wa.alloc ob).heap.size := by have := h.lt; omega
  refine ⟨fun j hj => ?_, fun j hj => ?_⟩
  ·obtain ⟨u, hu⟩ := h1.r.here j hj
   exact ⟨u, geL hg hu hR⟩
  ·exact (goN hg (b := R) (o := j) hRl hR).trans (h1.r.free j hj)
 ·exact ho.gb (gb_set w2 S 1 _) (fun k hk e => by simp [Value.ownBlock] at hk; injection e with e; omega)
 ·have h2 : Below B (wa.alloc ob) w2 := gbW hg (by have := h.lt; have := h1.bel.size; omega) (fun r hr => by have := (h.own.blk r hr).1; have := h.lt; omega)
  exact (h1.bel.trans h2).setCell (by have := h.lt; simp only; omega) _
theorem seen_any (ar : OAd) (n c : Nat) (ts : List Int) (al : OAd) (m d : Nat) (l : List RCel) (w : World) (ht : IsT w ar ts) (hn : ts.length = n) (hl : RcT RCel.v w al l) (hm : l.length = m) (n1 : n ≤ 1000) (m1 : m ≤ 10000000000) :
 Calls Tryz.prog 179 #[.slice ar n c, .slice al m d] w fun e w' => ∃ ah ch, e = .returned (.agg #[.slice ar n c, .slice ah n ch]) ∧ RcT bV w' ah (htR l ts) ∧ Below w.heap.size w w' := by
 have HT := hiD ht
 have HN := hiD hn
 have HL := hiD hl
 have HM := hiD hm
 clear ht hn hl hm
 go_enter Tryz.func179, Tryz.ntmps179
 go_wp2
 have hi0 : SInv w w.heap.size w.heap.size (w.heap.size + 1) (.slice ar n c) (.slice none 0 0) [] ((w.alloc (.cells #[.slice none 0 0, .slice none 0 0] 236)).alloc (.cells #[.slice ar n c, .slice none 0 0] 236)) := by
  have hz : (w.alloc (.cells #[.slice none 0 0, .slice none 0 0] 236)).heap.size = w.heap.size + 1 := by simp
  have hv := vwW (w.alloc (.cells #[.slice none 0 0, .slice none 0 0] 236)) [.slice ar n c, .slice none 0 0] 236
  have hr0 := vwW w [.slice none 0 0, .slice none 0 0] 236
  have hbl : Below (w.alloc (.cells #[.slice none 0 0, .slice none 0 0] 236)).heap.size (w.alloc (.cells #[.slice none 0 0, .slice none 0 0] 236)) ((w.alloc (.cells #[.slice none 0 0, .slice none 0 0] 236)).alloc (.cells #[.slice ar n c, .slice none 0 0] 236)) := (Below.refl _ _).alloc leR _
  have hr := hr0.grown hbl
  rw [hz] at hv
  refine ⟨hv 0 (by simp), hv 1 (by simp), World.frozen?_alloc_at _ _ _ _ (by rw [hz]), ⟨fun j hj => ?_, fun j hj => ?_⟩, ORC.nil _ _ _ _ _, (bAl _ _).alloc (by simp) _, by omega⟩
  ·have := hr j (by simp; omega)
   rw [Nat.zero_add] at this
   exact ⟨_, this⟩
  ·exact (hbl.frozen (p := ⟨w.heap.size, j, none⟩) (by simp)).trans (World.frozen?_alloc_at _ _ _ _ rfl)
 have HI0 : Hid _ := hi0
 clear hi0
 generalize (w.alloc (.cells #[.slice none 0 0, .slice none 0 0] 236)).alloc (.cells #[.slice ar n c, .slice none 0 0] 236) = w1 at *
 generalize hBe : w.heap.size = B at *
 have HBe := hiD hBe
 clear hBe
 go_loopw [6] (fun i wr => ∃ (k : Nat) (v : Value), k ≤ n ∧ i = .int .i64 k ∧ SInv w B B (B + 1) (.slice ar n c) v (htR l (ts.take k)) wr) (fun i _ => n - (intOf i).toNat)
 case atStart => exact ⟨0, _, Nat.zero_le _, rfl, HI0⟩
 case round =>
  obtain ⟨k, v, hk, rfl, hinv⟩ := hrel
  by_cases hlt : k < n
  ·rcases HT.out with hnil | ⟨gt, ot, rfl, htrow⟩
   ·have h1 := HN.out; rw [hnil] at h1; simp at h1; omega
   have hBw : Below w.heap.size w wr := by rw [HBe.out]; exact hinv.bel
   have t0 := (htrow.grown hBw) k (by rw [HN.out]; exact hlt)
   have HL1 := hiD (HL.out.grown hBw)
   have HSN : Hid _ := hits_snoc l ts k (by rw [HN.out]; exact hlt)
   have HLN : Hid ((htR l (ts.take k)).length ≤ 1000) := by show _ ≤ _; rw [hits_len, List.length_take]; omega
   generalize ts.getD k 0 = ta at t0 HSN
   generalize htR l (ts.take k) = bs at *
   have HINV := hiD hinv
   clear hinv htrow hBw
   obtain ⟨wo, rfl⟩ : ∃ wo : World, wo = wr := ⟨_, rfl⟩
   have e1 : (0 : Int) ≤ (k : Int) := by omega
   have e2 : (k : Int) < (n : Int) := by omega
   go_wp2
   go_loopw [7, 8] (fun h i wr => ∃ (j : Nat) (b : Bool), j ≤ m ∧ h = .bool b ∧ i = .int .i64 j ∧ Hid (b = (l.take j).any (fun x => x.ad == ta)) ∧ Below wo.heap.size wo wr) (fun _ i _ => m - (intOf i).toNat)
   case atStart => exact ⟨0, false, Nat.zero_le _, rfl, rfl, by show _ = _; simp, Below.refl _ _⟩
   case round =>
    obtain ⟨j, b, hj, rfl, rfl, hb, hbl⟩ := hrel
    have u0 := (hbl.cell (p := ⟨gt, ot + k, none⟩) (clT t0)).trans t0
    by_cases hjt : j < m
    ·rcases HL1.out.grown hbl with hnil | ⟨gl, ol, rfl, hlrow⟩
     ·have h1 := HM.out; rw [hnil] at h1; simp at h1; omega
     obtain ⟨_, _, m2, _, _⟩ := rcCells hlrow j (by rw [HM.out]; exact hjt)
     have HB2 : Hid ((l.take (j + 1)).any (fun x => x.ad == ta) = (b || ((l.getD j dR).ad == ta))) := by
      show _ = _
      rw [List.take_succ_eq_append_getElem (by rw [HM.out]; exact hjt), List.any_append, ← hb.out]
      simp [List.getD, HM.out, hjt]
     clear hlrow
     generalize l.getD j dR = z at m2 HB2
     obtain ⟨z0, z1, zad, z3, z4⟩ := z
     simp only at m2 HB2
     have e3 : (0 : Int) ≤ (j : Int) := by omega
     have e4 : (j : Int) < (m : Int) := by omega
     cases b
     ·go_wp2
      go_quiet (fail)
      have hbq : Below wo.heap.size wo (wr.drewN nq) := ⟨hbl.os, hbl.tape, hbl.output, hbl.size, hbl.block⟩
      go_wp2
      go_roundw
      case rel => exact ⟨j + 1, (zad == ta), by omega, rfl, by go_num, by show _ = _; rw [HB2.out]; rfl, hbq⟩
      case measure => simp [intOf]; omega
     ·go_wp2
      go_quiet (fail)
      have hbq : Below wo.heap.size wo (wr.drewN nq) := ⟨hbl.os, hbl.tape, hbl.output, hbl.size, hbl.block⟩
      go_wp2
      go_roundw
      case rel => exact ⟨j + 1, true, by omega, rfl, by go_num, by show _ = _; rw [HB2.out]; rfl, hbq⟩
      case measure => simp [intOf]; omega
    ·have HR : Hid (b = hitR l ta) := by show _ = _; rw [hb.out, List.take_of_length_le (by rw [HM.out]; omega)]; rfl
     have hinv2 := HINV.out.grown hbl
     have s1 := hinv2.s1
     have sf := hinv2.f1
     have HI2 := hiD hinv2
     have hbs : B + 1 < wr.heap.size := clT s1
     have hvS : some (B + 1) ≠ v.ownBlock := fun e => Nat.not_succ_le_self _ (hinv2.own.blk _ e.symm).1
     clear hinv2 hb
     go_wp2_with (at_builtin; refine wtR 105 1 _ Tryz.underlying105 info4 rfl (by decide) bv1 bv_one (wr.alloc (.cells #[.bool b] 4)) rfl _ _ rfl (B + 1 + 1) wr.heap.size 1 v bs b (by rfl) (by rfl) (HI2.out.own.alloc _) (vwW _ _ _) (by simp; omega) (by have := HLN.out; unfold maxLen; omega) (by have := HLN.out; omega) ?_; intro g' cap w5 hown5 hg5 _ _; have k1 := geL hg5 (((Below.refl wr.heap.size wr).alloc leR (.cells #[.bool b] 4)).cell (p := ⟨B + 1, 1, none⟩) hbs |>.trans s1) hvS; have k2 := (goN hg5 (b := B + 1) (o := 1) (by simp; omega) hvS).trans ((((Below.refl wr.heap.size wr).alloc leR (.cells #[.bool b] 4)).frozen (p := ⟨B + 1, 1, none⟩) hbs).trans sf))
     go_roundw
     case rel => exact ⟨k + 1, _, by omega, by go_num, by rw [HSN.out, ← HR.out]; exact HI2.out.push hown5 hg5⟩
     case measure => simp [intOf]; omega
  ·have hkn : k = n := by omega
   subst hkn
   rw [List.take_of_length_le (by rw [HN.out]; omega)] at hinv
   have HLH : Hid ((htR l ts).length = k) := by show _ = _; rw [hits_len, HN.out]
   obtain ⟨ah, ch, rfl, hat⟩ := ORC.at bv1 hinv.own
   rw [HLH.out] at hinv
   have s0 := hinv.s0
   have s1 := hinv.s1
   obtain ⟨u0, r0⟩ := hinv.r.here 0 (by omega)
   obtain ⟨u1, r1⟩ := hinv.r.here 1 (by omega)
   have rf0 := hinv.r.free 0 (by omega)
   have rf1 := hinv.r.free 1 (by omega)
   have HAT := hiD hat
   have HBL := hiD hinv.bel
   have HOB : Hid (∀ a, ah = some a → B + 1 + 1 ≤ a.block) := fun a ha => by
    subst ha
    exact (hinv.own.blk a.block rfl).1
   have nb : B ≠ B + 1 := by omega
   clear hinv hat
   go_wp2
   refine bodyPost_ret (v := .agg #[.slice ar k c, .slice ah k ch]) ?_ rfl ⟨ah, ch, rfl, ?_, ?_⟩
   ·simp [results, Tryz.results179, go_sem, r0, r1]
   ·have hfr : Fr (fun q => q = B) wr ((wr.setCell ⟨B, 0, none⟩ (.slice ar k c)).setCell ⟨B, 1, none⟩ (.slice ah k ch)) := ((Fr.refl (fun q => q = B) wr).set B 0 _ (fun _ => rfl)).set B 1 _ (fun _ => rfl)
    rcases HAT.out with h | ⟨b, off, rfl, hr⟩
    ·exact Or.inl h
    ·exact Or.inr ⟨b, off, rfl, hfr.vrow hr (by have := HOB.out _ rfl; simp only at this; omega)⟩
   ·rw [HBe.out]
    exact (HBL.out.setCell leR _).setCell leR _
def wideB (bs : List Bool) (g x : Nat) : Bool := (List.range x).all fun i => !(bs.getD i false && decide (x < i + 1 + g))
theorem range_all_snoc (p : Nat → Bool) (k : Nat) : (List.range (k + 1)).all p = ((List.range k).all p && p k) := by
 rw [List.range_succ, List.all_append]
 simp
theorem range_all_no (p : Nat → Bool) (k n : Nat) (h : k < n) (hp : p k = false) : (List.range n).all p = false := by
 rw [List.all_eq_false]
 exact ⟨k, List.mem_range.2 h, by simp [hp]⟩
theorem wide_any (ar : OAd) (nr cr : Nat) (ah : OAd) (n c : Nat) (bs : List Bool) (g x : Nat) (w : World) (hb : RcT bV w ah bs) (hn : bs.length = n) (hx : x ≤ n) (n1 : n ≤ 1000) (g1 : g ≤ 1000) :
 Calls Tryz.prog 213 #[.agg #[.slice ar nr cr, .slice ah n c], .int .i64 (g : Int), .int .i64 (x : Int)] w fun e w' => e = .returned (.bool (wideB bs g x)) ∧ Below w.heap.size w w' := by
 have hb1 : Below w.heap.size w (w.alloc (.cells #[.slice ar nr cr, .slice ah n c] 236)) := (Below.refl _ _).alloc leR _
 have x1 : (w.alloc (.cells #[.slice ar nr cr, .slice ah n c] 236)).cell? ⟨w.heap.size, 1, none⟩ = some (.slice ah n c) := by rw [World.cell?_alloc_new]; rfl
 have HB := hiD (hb.grown hb1)
 have HN := hiD hn
 clear hb hn
 go_enter Tryz.func213, Tryz.ntmps213
 go_wp2
 generalize w.alloc (.cells #[.slice ar nr cr, .slice ah n c] 236) = w1 at *
 go_loop [7] (fun i => ∃ k : Nat, k ≤ x ∧ i = .int .i64 k ∧ Hid ((List.range k).all (fun i => !(bs.getD i false && decide (x < i + 1 + g))) = true)) (fun i => x - (intOf i).toNat)
 case atStart => exact ⟨0, Nat.zero_le _, rfl, rfl⟩
 case round =>
  obtain ⟨k, hk, rfl, hall⟩ := hrel
  by_cases hlt : k < x
  ·rcases HB.out with hnil | ⟨gb, ob, rfl, hrow⟩
   ·have h1 := HN.out; rw [hnil] at h1; simp at h1; omega
   have c0 := bv_cell hrow k (by rw [HN.out]; omega)
   have HS : Hid _ := range_all_snoc (fun i => !(bs.getD i false && decide (x < i + 1 + g))) k
   have HZ : Hid _ := range_all_no (fun i => !(bs.getD i false && decide (x < i + 1 + g))) k x hlt
   clear hrow
   generalize bs.getD k false = b at c0 HS HZ
   have e1 : (0 : Int) ≤ (k : Int) := by omega
   have e2 : (k : Int) < (n : Int) := by omega
   have e3 : (k : Int) < (x : Int) := by omega
   have hw1 : IntKind.i64.wrap ((k : Int) + 1) = (k : Int) + 1 := IntWalk.i64_in _ ⟨by omega, by omega⟩
   have hw2 : IntKind.i64.wrap ((k : Int) + 1 + (g : Int)) = (k : Int) + 1 + (g : Int) := IntWalk.i64_in _ ⟨by omega, by omega⟩
   cases b
   ·go_wp2
    go_round
    case rel => exact ⟨k + 1, by omega, by go_num, by show _ = _; rw [HS.out, hall.out]; rfl⟩
    case measure => simp [intOf]; omega
   ·by_cases hc : x < k + 1 + g
    ·have g1 : decide ((x : Int) < (k : Int) + 1 + (g : Int)) = true := by rw [decide_eq_true_iff]; omega
     have HR : Hid (wideB bs g x = false) := HZ.out (by simp [hc])
     go_wp2
     go_ret
     exact ⟨rbL HR.out.symm, hb1⟩
    ·have g1 : decide ((x : Int) < (k : Int) + 1 + (g : Int)) = false := by rw [decide_eq_false_iff_not]; omega
     have HR : Hid ((List.range (k + 1)).all (fun i => !(bs.getD i false && decide (x < i + 1 + g))) = true) := by show _ = _; rw [HS.out, hall.out]; simp [hc]
     go_wp2
     go_round
     case rel => exact ⟨k + 1, by omega, by go_num, HR⟩
     case measure => simp [intOf]; omega
  ·have hkx : k = x := by omega
   subst hkx
   have e3 : ¬ (k : Int) < (k : Int) := by omega
   go_wp2
   go_ret
   exact ⟨rbL hall.out.symm, hb1⟩
def wfind (bs : List Bool) (g : Nat) : Nat → Nat → Nat
 | 0, _ => 100
 | f + 1, x => if wideB bs g x = true then x else wfind bs g f (x + 1)
theorem rwindow_any (ar : OAd) (nr cr : Nat) (ah : OAd) (c : Nat) (bs : List Bool) (g : Nat) (w : World) (hb : RcT bV w ah bs) (hn : bs.length = 100) (g1 : g ≤ 100) :
 Calls Tryz.prog 180 #[.agg #[.slice ar nr cr, .slice ah 100 c], .int .i64 (g : Int)] w fun e w' => e = .returned (.int .i64 (wfind bs g (100 - g) g : Nat)) ∧ Below w.heap.size w w' := by
 have hb1 : Below w.heap.size w (w.alloc (.cells #[.slice ar nr cr, .slice ah 100 c] 236)) := (Below.refl _ _).alloc leR _
 have x0 : (w.alloc (.cells #[.slice ar nr cr, .slice ah 100 c] 236)).cell? ⟨w.heap.size, 0, none⟩ = some (.slice ar nr cr) := by rw [World.cell?_alloc_new]; rfl
 have x1 : (w.alloc (.cells #[.slice ar nr cr, .slice ah 100 c] 236)).cell? ⟨w.heap.size, 1, none⟩ = some (.slice ah 100 c) := by rw [World.cell?_alloc_new]; rfl
 have HB := hiD (hb.grown hb1)
 have HN := hiD hn
 clear hb hn
 go_enter Tryz.func180, Tryz.ntmps180
 go_wp2
 generalize w.alloc (.cells #[.slice ar nr cr, .slice ah 100 c] 236) = w1 at *
 generalize hTe : w.heap.size = T at *
 have HTe := hiD hTe
 clear hTe
 have X0 := hiD x0
 have X1 := hiD x1
 have hTl : T < w1.heap.size := clT x0
 clear x0 x1
 go_loopw [5] (fun i wr => ∃ k : Nat, g ≤ k ∧ k ≤ 100 ∧ i = .int .i64 k ∧ Hid (wfind bs g (100 - k) k = wfind bs g (100 - g) g) ∧ Below w1.heap.size w1 wr) (fun i _ => 100 - (intOf i).toNat)
 case atStart => exact ⟨g, leR, g1, rfl, rfl, Below.refl _ _⟩
 case round =>
  obtain ⟨k, hgk, hk, rfl, hz, hbl⟩ := hrel
  by_cases hlt : k < 100
  ·have x0 := (hbl.cell (p := ⟨T, 0, none⟩) hTl).trans X0.out
   have x1 := (hbl.cell (p := ⟨T, 1, none⟩) hTl).trans X1.out
   have HB2 := hiD (HB.out.grown hbl)
   have HZ : Hid (wfind bs g (100 - g) g = if wideB bs g k = true then k else wfind bs g (100 - (k + 1)) (k + 1)) := by
    show _ = _
    rw [← hz.out, show 100 - k = (100 - (k + 1)) + 1 by omega]
    rfl
   go_wp2_with fail
   refine (wide_any ar nr cr ah 100 c bs g k _ HB2 HN (by omega) (by omega) (by omega)).mono ?_
   rintro e w5 ⟨rfl, hb5⟩
   have hbl5 := bwK hbl hb5
   cases hwd : wideB bs g k
   ·have HR : Hid (wfind bs g (100 - (k + 1)) (k + 1) = wfind bs g (100 - g) g) := by show _ = _; rw [HZ.out, if_neg (by rw [hwd]; simp)]
    go_wp2
    go_roundw
    case rel => exact ⟨k + 1, by omega, by omega, by go_num, HR, hbl5⟩
    case measure => simp [intOf]; omega
   ·have HR : Hid (wfind bs g (100 - g) g = k) := by show _ = _; rw [HZ.out, if_pos hwd]
    go_wp2
    go_ret
    exact ⟨riT (by rw [HR.out]), by rw [HTe.out]; exact hb1.trans (hbl5.mono (by omega))⟩
  ·have hk1 : k = 100 := by omega
   subst hk1
   have HR : Hid (wfind bs g (100 - g) g = 100) := by show _ = _; rw [← hz.out]; rfl
   go_wp2
   go_ret
   exact ⟨riT (by rw [HR.out]; rfl), by rw [HTe.out]; exact hb1.trans (hbl.mono (by omega))⟩
theorem asN (s br : Int) (k : Nat) : (adrs s br k).length = k := by simp [adrs]
def winR (l : List RCel) (s : Int) (g : Nat) (br : Int) : Nat := wfind (htR l (adrs s br 100)) g (100 - g) g
structure DAd (w : World) (D : Nat) (s : Int) (g : Nat) (ar : OAd) (cr : Nat) (ac : OAd) (cc : Nat) : Prop where
 c1 : w.cell? ⟨D, 1, none⟩ = some (.int .i64 (g : Int))
 c2 : w.cell? ⟨D, 2, none⟩ = some (.slice ar 100 cr)
 c3 : w.cell? ⟨D, 3, none⟩ = some (.slice ac 100 cc)
 i0 : IsT w ar (adrs s 0 100)
 i1 : IsT w ac (adrs s 1 100)
theorem DAd.grown (h : DAd w D s g ar cr ac cc) (hb : Below w.heap.size w w') : DAd w' D s g ar cr ac cc :=
 ⟨(hb.cell (p := ⟨D, 1, none⟩) (clT h.c1)).trans h.c1, (hb.cell (p := ⟨D, 2, none⟩) (clT h.c2)).trans h.c2, (hb.cell (p := ⟨D, 3, none⟩) (clT h.c3)).trans h.c3, h.i0.grown hb, h.i1.grown hb⟩
theorem keep3 {b : Nat} (hb : Below w2.heap.size w2 w3) (h0 : w2.cell? ⟨a, 0, none⟩ = some x) (h1 : w2.cell? ⟨a, 1, none⟩ = some y) (h2 : w2.cell? ⟨d, b, none⟩ = some z) : w3.cell? ⟨a, 0, none⟩ = some x ∧ w3.cell? ⟨a, 1, none⟩ = some y ∧ w3.cell? ⟨d, b, none⟩ = some z :=
 ⟨(hb.cell (p := ⟨a, 0, none⟩) (clT h0)).trans h0, (hb.cell (p := ⟨a, 1, none⟩) (clT h1)).trans h1, (hb.cell (p := ⟨d, b, none⟩) (clT h2)).trans h2⟩
end
end Go.Proofs.YtffgpepngcnjeabGreat
