import Derived.Test.YtffgpepngcnjeabGreatSag
namespace Go.Proofs.YtffgpepngcnjeabGreat
set_option maxRecDepth 100000
set_option maxHeartbeats 8000000
section
open Go.RowKit
variable {l : List RCel} {ins : List InD} {k q i D c : Nat} {S : Int} {b : Bool} {w w' w1 : World} {ao : OAd} {ys : LII} {N E : NPr} {cs : List CbD}
def spR (l : List RCel) (id : Int) (ins : List InD) : Nat → Option (Int × Bool)
 | 0 => some (0, true)
 | k + 1 => match spR l id ins k with
  | none => none
  | some (s, b) => if rnZ l (ins.getD k dIn).id (ins.getD k dIn).pos < 0 ∨ dbZ ins k = true then none
   else some (s + (l.getD (rnZ l (ins.getD k dIn).id (ins.getD k dIn).pos).toNat dR).val, b && (isS (ins.getD k dIn).l && (Mk.opn id (ins.getD k dIn).l == (l.getD (rnZ l (ins.getD k dIn).id (ins.getD k dIn).pos).toNat dR).ad)))
def spendsR (l : List RCel) (t : TxD) : Int := match spR l t.id t.ins t.ins.length with
 | none => 5
 | some (s, b) => if b = false then 6 else if 0 < t.ins.length ∧ s - smU t.ys < 0 then 7 else 0
theorem spR_none {id : Int} (h : spR l id ins k = none) : ∀ m, spR l id ins (k + m) = none := by
 intro m
 induction m with
 | zero => exact h
 | succ m ih => rw [← Nat.add_assoc, spR, ih]
theorem spR_no {id : Int} (h : spR l id ins k = some (S, b)) (hk : k < ins.length) (hz : rnZ l (ins.getD k dIn).id (ins.getD k dIn).pos < 0 ∨ dbZ ins k = true) : spR l id ins ins.length = none := by
 have h1 : spR l id ins (k + 1) = none := by rw [spR, h]; simp only; rw [if_pos hz]
 have := spR_none h1 (ins.length - (k + 1))
 rwa [show k + 1 + (ins.length - (k + 1)) = ins.length by omega] at this
theorem spR_yes {id : Int} (h : spR l id ins k = some (S, b)) (hf : rnZ l (ins.getD k dIn).id (ins.getD k dIn).pos = (q : Int)) (hd : dbZ ins k = false) : spR l id ins (k + 1) = some (S + (l.getD q dR).val, b && (isS (ins.getD k dIn).l && (Mk.opn id (ins.getD k dIn).l == (l.getD q dR).ad))) := by
 rw [spR, h]
 simp only
 rw [hf, if_neg (by rw [hd]; simp), show ((q : Int)).toNat = q from Int.toNat_natCast q]
theorem IsT.heap {l : List Int} (h : IsT w ao l) (hw : w'.heap = w.heap) : IsT w' ao l := by
 rcases h with h | ⟨b, off, h, hr⟩
 ·exact Or.inl h
 ·exact Or.inr ⟨b, off, h, fun j hj => by rw [← hr j hj]; simp [World.cell?, hw]⟩
theorem rspends_any (N : NPr) (ao : OAd) (n c : Nat) (l : List RCel) (x : TxD) (w : World) (hl : RcT RCel.v w ao l) (hn : l.length = n) (hm : n ≤ 10000000000) (hv : ∀ y ∈ l, 0 ≤ y.val ∧ y.val ≤ 1099511627776) (hx : TxOk N w x) (hr : rTx x.t x.ins x.ys = true) :
 Calls Tryz.prog 218 #[.slice ao n c, .agg #[.int .i64 x.t, .slice x.ai x.n x.c, .slice x.ap x.m x.d]] w fun e w' => e = .returned (.int .i64 (spendsR l x)) ∧ Below w.heap.size w w' := by
 have HE : Hid (spendsR l x = match spR l x.id x.ins x.ins.length with | none => 5 | some (s, b) => if b = false then 6 else if 0 < x.ins.length ∧ s - smU x.ys < 0 then 7 else 0) := rfl
 have HID : Hid (Mk.isM x.id = true) := idZ_bd _ _ _
 have HXI : Hid (x.id = idZ x.t x.ins x.ys) := rfl
 generalize spendsR l x = RES at *
 generalize x.id = zid at *
 obtain ⟨yt, yai, yn, yc, yap, ym, yd, yins, yys⟩ := x
 simp only at hr HE HXI
 have HIL : Hid (yins.length = yn) := hx.il
 have HYL : Hid (yys.length = ym) := hx.ol
 rw [hx.il] at HE
 obtain ⟨_, h10, _, h8, hro⟩ := raS hr
 rw [hx.il] at h10
 rw [hx.ol] at h8
 have HRO : Hid (∀ y ∈ yys, 0 ≤ y.2 ∧ y.2 ≤ 1099511627776) := fun y hy => by
  obtain ⟨j, hj, rfl⟩ := mgD (0, 0) hy
  have := rOut_bd (hro j hj); omega
 clear hro
 have HV : Hid (∀ y ∈ l, 0 ≤ y.val ∧ y.val ≤ 1099511627776) := hv
 have HN : Hid (l.length = n) := hn
 have HX : Hid (TxOk N w ⟨yt, yai, yn, yc, yap, ym, yd, yins, yys⟩) := hx
 have HL : Hid (RcT RCel.v w ao l) := hl
 clear hv hn hx hl hr
 have hb4 : Below w.heap.size w (w.alloc (.cells #[.int .i64 yt, .slice yai yn yc, .slice yap ym yd] 35)) := (Below.refl _ _).alloc leR _
 have x1 : (w.alloc (.cells #[.int .i64 yt, .slice yai yn yc, .slice yap ym yd] 35)).cell? ⟨w.heap.size, 1, none⟩ = some (.slice yai yn yc) := by rw [World.cell?_alloc_new]; rfl
 have x2 : (w.alloc (.cells #[.int .i64 yt, .slice yai yn yc, .slice yap ym yd] 35)).cell? ⟨w.heap.size, 2, none⟩ = some (.slice yap ym yd) := by rw [World.cell?_alloc_new]; rfl
 go_enter Tryz.func218, Tryz.ntmps218
 go_wp2_with fail
 generalize w.alloc (.cells #[.int .i64 yt, .slice yai yn yc, .slice yap ym yd] 35) = w4 at *
 have hbw4 := hb4
 generalize hTe : w.heap.size = T at *
 have HT : Hid (w.heap.size = T) := hTe
 clear hTe
 have hokw := HX.out.fr (Fr.of_below (by rw [HT.out]; exact hb4) (fun _ => False)) (fun _ _ h => h)
 refine (rId_any yt yai yn yc yap ym yd yins yys _ hokw.ins hokw.il hokw.outs hokw.ol).mono ?_
 rintro e w5 ⟨rfl, hb5⟩
 rw [← HXI.out]
 have HX5 : Hid (TxOk N w5 ⟨yt, yai, yn, yc, yap, ym, yd, yins, yys⟩) := hokw.fr (Fr.of_below hb5 (fun _ => False)) (fun _ _ h => h)
 have hL4 : RcT RCel.v w4 ao l := HL.out.grown (by rw [HT.out]; exact hb4)
 have HL5 : Hid (RcT RCel.v w5 ao l) := hL4.grown hb5
 have X1 : Hid (w5.cell? ⟨T, 1, none⟩ = some (.slice yai yn yc)) := (hb5.cell (p := ⟨T, 1, none⟩) (clT x1)).trans x1
 have X2 : Hid (w5.cell? ⟨T, 2, none⟩ = some (.slice yap ym yd)) := (hb5.cell (p := ⟨T, 2, none⟩) (clT x2)).trans x2
 have HBW : Hid (Below T w w5) := hb4.trans (hb5.mono (by have := hb4.size; rw [HT.out] at this; exact this))
 clear x1 x2 hb4 hbw4 hb5 hokw hL4 HL HX HXI
 have hTl : T < w5.heap.size := clT X1.out
 go_wp2
 go_loopw [6, 7, 8] (fun s b i wr => ∃ (k : Nat) (S : Int) (bb : Bool), k ≤ yn ∧ s = .int .i64 S ∧ b = .bool bb ∧ i = .int .i64 k ∧ Hid (spR l zid yins k = some (S, bb)) ∧ (0 ≤ S ∧ S ≤ k * 1099511627776) ∧ Below w5.heap.size w5 wr) (fun _ _ i _ => yn - (intOf i).toNat)
 case atStart => exact ⟨0, 0, true, Nat.zero_le _, rfl, rfl, rfl, rfl, ⟨by omega, by simp⟩, Below.refl _ _⟩
 case round =>
  obtain ⟨k, S, bb, hk, rfl, rfl, rfl, hz, hS, hbl⟩ := hrel
  have x1 := (hbl.cell (p := ⟨T, 1, none⟩) hTl).trans X1.out
  by_cases hlt : k < yn
  ·rcases HX5.out.ins with hnil | ⟨gi, oi, hai, hirow⟩
   ·have h1 := HIL.out; simp only at hnil; rw [hnil] at h1; simp at h1; omega
   simp only at hai hirow
   subst hai
   have hirow' := hirow.grown hbl
   obtain ⟨⟨j0, j1, j2⟩, jok⟩ := hirow' k (by rw [HIL.out]; exact hlt)
   have HROW : Hid (InsRow wr gi oi yins) := hirow'
   have HNO : Hid _ := spR_no hz.out (by rw [HIL.out]; exact hlt)
   have HYES : Hid _ := fun (q : Nat) hf hd => spR_yes (q := q) hz.out hf hd
   clear hirow hirow'
   have HSL : Hid (IsT wr (yins.getD k dIn).ao (yins.getD k dIn).l ∧ (yins.getD k dIn).l.length = (yins.getD k dIn).n) := ⟨jok.lies, jok.len⟩
   clear jok
   generalize yins.getD k dIn = z at j0 j1 j2 HNO HYES HSL
   obtain ⟨aid, apos, aao, an, ac, al⟩ := z
   simp only at j0 j1 j2 HNO HYES HSL
   have hat := HL5.out.grown hbl
   have HAT : Hid (RcT RCel.v wr.drew ao l) := hat
   have HATw : Hid (RcT RCel.v wr ao l) := hat
   clear hat
   have HROWd : Hid (InsRow wr.drew gi oi yins) := fun j hj => ⟨⟨(HROW.out j hj).1.c0, (HROW.out j hj).1.c1, (HROW.out j hj).1.c2⟩, ⟨IsT.heap (HROW.out j hj).2.lies rfl, (HROW.out j hj).2.len, (HROW.out j hj).2.sz, (HROW.out j hj).2.nil⟩⟩
   have hbld : Below w5.heap.size w5 wr.drew := hbl.drew
   have e5 : (0 : Int) ≤ (k : Int) := by omega
   have e6 : (k : Int) < (yn : Int) := by omega
   go_wp2
   go_region_held3 (fun w' => w'.cell? ⟨T, 1, none⟩ = some (.slice (some ⟨gi, oi, none⟩) yn yc) ∧ w'.cell? ⟨gi, oi + k * 3, none⟩ = some (.int .i64 aid) ∧ w'.cell? ⟨gi, oi + k * 3 + 1, none⟩ = some (.int .i64 apos)) (first | assumption | go_keep) ((go_at_call 210; refine (rfind_any ao n c l aid apos _ HAT.out HN.out (by omega)).mono ?_; rintro e w7 ⟨rfl, rfl⟩))
   have HSLd : Hid (IsT wr.drew aao al ∧ al.length = an) := ⟨IsT.heap HSL.out.1 rfl, HSL.out.2⟩
   have d1 : wr.drew.cell? ⟨T, 1, none⟩ = some (.slice (some ⟨gi, oi, none⟩) yn yc) := x1
   have d2 : wr.drew.cell? ⟨gi, oi + k * 3 + 2, none⟩ = some (.slice aao an ac) := j2
   clear x1 j0 j1 j2 HROW HSL HATw hbl
   generalize wr.drew = wd at *
   generalize hff : rnZ l aid apos = FF
   go_wp2_with fail
   refine (double_any gi oi yn yc yins k _ HROWd.out HIL.out hlt (by omega)).mono ?_
   rintro e w8 ⟨rfl, hb8⟩
   have hbl8 := bwK hbld hb8
   have f1 := (hb8.cell (p := ⟨T, 1, none⟩) (clT d1)).trans d1
   have f2 := (hb8.cell (p := ⟨gi, oi + k * 3 + 2, none⟩) (clT d2)).trans d2
   have HAT8 : Hid (RcT RCel.v w8 ao l) := HAT.out.grown hb8
   have HSL8 : Hid (IsT w8 aao al ∧ al.length = an) := ⟨HSLd.out.1.grown hb8, HSLd.out.2⟩
   clear d1 d2 HAT HSLd HROWd hb8 hbld
   rcases rfindZ_cases l aid apos with hf | ⟨pl, hpl, hf, _⟩
   ·rw [hf] at hff
    subst hff
    have HR5 : Hid (RES = 5) := by show _ = _; rw [HE.out, ← HIL.out, HNO.out (Or.inl (by rw [hf]; omega))]
    clear HNO HYES hf
    go_wp2
    go_ret
    exact ⟨riT HR5.out.symm, by rw [HT.out]; exact HBW.out.trans (hbl8.mono (by omega))⟩
   ·rw [hf] at hff
    subst hff
    cases hdb : dbZ yins k
    ·have HY2 : Hid _ := HYES.out pl hf hdb
     clear HNO HYES hf hdb
     have hpl2 : pl < n := by rw [← HN.out]; exact hpl
     rcases HAT8.out with hnil | ⟨gl, ol, rfl, hlrow⟩
     ·rw [hnil] at hpl; simp at hpl
     obtain ⟨_, _, m2, m3, _⟩ := rcCells hlrow pl hpl
     have hyb := HV.out _ (gDM l dR pl hpl)
     clear hlrow
     generalize l.getD pl dR = zc at m2 m3 hyb HY2
     obtain ⟨cid, cpos, cad, cval, csp⟩ := zc
     simp only at m2 m3 hyb HY2
     have e7 : (0 : Int) ≤ (pl : Int) := by omega
     have e8 : (pl : Int) < (n : Int) := by omega
     have e9 : decide ((pl : Int) < 0) = false := by rw [decide_eq_false_iff_not]; omega
     have hw1 : IntKind.i64.wrap (S + cval) = S + cval := IntWalk.i64_in _ ⟨by omega, by omega⟩
     go_wp2_with fail
     cases hs : isS al
     ·refine (rOpen_noSeal zid aao an ac al _ HID.out HSL8.out.1 HSL8.out.2 hs).mono ?_
      rintro e w9 ⟨rfl, rfl⟩
      have HY3 : Hid (spR l zid yins (k + 1) = some (S + cval, false)) := by show _ = _; rw [HY2.out, hs]; simp
      clear HY2
      cases bb
      ·go_wp2
       go_roundw
       case rel => exact ⟨k + 1, S + cval, false, by omega, rfl, rfl, by go_num, HY3, ⟨by omega, by omega⟩, hbl8⟩
       case measure => simp [intOf]; omega
      ·go_wp2
       go_roundw
       case rel => exact ⟨k + 1, S + cval, false, by omega, rfl, rfl, by go_num, HY3, ⟨by omega, by omega⟩, hbl8⟩
       case measure => simp [intOf]; omega
     ·refine (rOpen_yes zid aao an ac al _ HID.out HSL8.out.1 HSL8.out.2 hs).mono ?_
      rintro e w9 ⟨rfl, hb9⟩
      have m2' := (hb9.cell (p := ⟨gl, ol + pl * 5 + 2, none⟩) (clT m2)).trans m2
      have hbl9 := bwK hbl8 hb9
      have HY3 : Hid (spR l zid yins (k + 1) = some (S + cval, bb && (Mk.opn zid al == cad))) := by show _ = _; rw [HY2.out, hs]; simp
      clear HY2 m2 m3 f1 f2 hb9 hbl8 HAT8 HSL8
      generalize Mk.opn zid al = oo at *
      cases bb
      ·go_wp2
       go_roundw
       case rel => exact ⟨k + 1, S + cval, false, by omega, rfl, rfl, by go_num, HY3, ⟨by omega, by omega⟩, hbl9⟩
       case measure => simp [intOf]; omega
      ·cases ho : (oo == cad)
       ·have HY4 : Hid (spR l zid yins (k + 1) = some (S + cval, false)) := by show _ = _; rw [HY3.out, ho]; rfl
        go_wp2
        go_roundw
        case rel => exact ⟨k + 1, S + cval, false, by omega, rfl, rfl, by go_num, HY4, ⟨by omega, by omega⟩, hbl9⟩
        case measure => simp [intOf]; omega
       ·have HY4 : Hid (spR l zid yins (k + 1) = some (S + cval, true)) := by show _ = _; rw [HY3.out, ho]; rfl
        go_wp2
        go_roundw
        case rel => exact ⟨k + 1, S + cval, true, by omega, rfl, rfl, by go_num, HY4, ⟨by omega, by omega⟩, hbl9⟩
        case measure => simp [intOf]; omega
    ·have HR5 : Hid (RES = 5) := by show _ = _; rw [HE.out, ← HIL.out, HNO.out (Or.inr hdb)]
     clear HNO HYES hf
     have e9 : decide ((pl : Int) < 0) = false := by rw [decide_eq_false_iff_not]; omega
     go_wp2
     go_ret
     exact ⟨riT HR5.out.symm, by rw [HT.out]; exact HBW.out.trans (hbl8.mono (by omega))⟩
  ·have hkn : k = yn := by omega
   subst hkn
   cases bb
   ·have HR5 : Hid (RES = 6) := by show _ = _; rw [HE.out, hz.out]; rfl
    go_wp2
    go_ret
    exact ⟨riT HR5.out.symm, by rw [HT.out]; exact HBW.out.trans (hbl.mono (by omega))⟩
   ·have HR5 : Hid (RES = if 0 < k ∧ S - smU yys < 0 then 7 else 0) := by show _ = _; rw [HE.out, hz.out]; rfl
    clear HE hz
    obtain ⟨wo, rfl⟩ : ∃ wo : World, wo = wr := ⟨_, rfl⟩
    have HBO : Hid (Below T w wo) := HBW.out.trans (hbl.mono (by omega))
    have HX6 : Hid (TxOk N wo ⟨yt, yai, k, yc, yap, ym, yd, yins, yys⟩) := HX5.out.fr (Fr.of_below hbl (fun _ => False)) (fun _ _ h => h)
    have x2 := (hbl.cell (p := ⟨T, 2, none⟩) hTl).trans X2.out
    have X1o : Hid (wo.cell? ⟨T, 1, none⟩ = some (.slice yai k yc)) := x1
    have X2o : Hid (wo.cell? ⟨T, 2, none⟩ = some (.slice yap ym yd)) := x2
    have hTo : T < wo.heap.size := clT x1
    clear hbl
    go_wp2
    go_loopw [6, 13] (fun s i wr => ∃ (r : Nat) (S2 : Int), r ≤ ym ∧ i = .int .i64 r ∧ s = .int .i64 S2 ∧ Hid (S2 = S - smU (yys.take r)) ∧ Below wo.heap.size wo wr) (fun _ i _ => ym - (intOf i).toNat)
    case atStart => exact ⟨0, S, Nat.zero_le _, rfl, rfl, by show _ = _; simp [smU], Below.refl _ _⟩
    case round =>
     clear x1 x2
     obtain ⟨r, S2, hr, rfl, rfl, hS2, hbl⟩ := hrel
     have x1 := (hbl.cell (p := ⟨T, 1, none⟩) hTo).trans X1o.out
     have x2 := (hbl.cell (p := ⟨T, 2, none⟩) hTo).trans X2o.out
     have hsb := sum_bd Prod.snd 1099511627776 (yys.take r) (fun y hy => HRO.out y (List.mem_of_mem_take hy))
     have hl2 : (yys.take r).length ≤ 8 := by rw [List.length_take]; omega
     have hS3 : -8796093022208 ≤ S2 ∧ S2 ≤ 11995115116278 := by
      have e := hS2.out
      unfold smU at e
      omega
     clear hsb hl2
     by_cases hrt : r < ym
     ·rcases HX6.out.outs with hnil | ⟨go, oo, hao, horow⟩
      ·have h1 := HYL.out; simp only at hnil; rw [hnil] at h1; simp at h1; omega
      simp only at hao horow
      subst hao
      obtain ⟨o0, o1⟩ := (horow.grown hbl) r (by rw [HYL.out]; exact hrt)
      have hyb := HRO.out _ (gDM yys (0, 0) r (by rw [HYL.out]; exact hrt))
      have HSN : Hid (S2 - (yys.getD r (0, 0)).2 = S - smU (yys.take (r + 1))) := by
       show _ = _
       have e := hS2.out
       have e2 := sum_snoc Prod.snd yys (0, 0) r (by rw [HYL.out]; exact hrt)
       unfold smU at e ⊢
       omega
      clear horow
      generalize yys.getD r (0, 0) = z at o0 o1 hyb HSN
      obtain ⟨za, zv⟩ := z
      simp only at o0 o1 hyb HSN
      have e5 : (0 : Int) ≤ (r : Int) := by omega
      have e6 : (r : Int) < (ym : Int) := by omega
      have hw1 : IntKind.i64.wrap (S2 - zv) = S2 - zv := IntWalk.i64_in _ ⟨by omega, by omega⟩
      go_wp2
      go_roundw
      case rel => exact ⟨r + 1, S2 - zv, by omega, by go_num, rfl, HSN, hbl⟩
      case measure => simp [intOf]; omega
     ·have hrm : r = ym := by omega
      subst hrm
      have HS4 : Hid (S2 = S - smU yys) := by show _ = _; rw [hS2.out, List.take_of_length_le (by rw [HYL.out]; omega)]
      have hfin : Below w.heap.size w wr := by rw [HT.out]; exact HBO.out.trans (hbl.mono (by omega))
      by_cases h0 : 0 < k
      ·have g0 : decide ((0 : Int) < (k : Int)) = true := by rw [decide_eq_true_iff]; omega
       by_cases hneg : S2 < 0
       ·have HR6 : Hid (RES = 7) := by show _ = _; rw [HR5.out, ← HS4.out, if_pos ⟨h0, hneg⟩]
        go_wp2
        go_ret
        exact ⟨riT HR6.out.symm, hfin⟩
       ·have HR6 : Hid (RES = 0) := by show _ = _; rw [HR5.out, ← HS4.out, if_neg (fun h => hneg h.2)]
        go_wp2
        go_ret
        exact ⟨riT HR6.out.symm, hfin⟩
      ·have HR6 : Hid (RES = 0) := by show _ = _; rw [HR5.out, if_neg (fun h => h0 h.1)]
       have g0 : decide ((0 : Int) < (k : Int)) = false := by rw [decide_eq_false_iff_not]; omega
       go_wp2
       go_ret
       exact ⟨riT HR6.out.symm, hfin⟩
def TxD.ok (x : TxD) : Prop := rTx x.t x.ins x.ys = true
def Good (bls : List (List TxD)) : Prop := ∀ bl ∈ bls, bl.length ≤ 6 ∧ ∀ t ∈ bl, t.ok
theorem Good.snoc {bls : List (List TxD)} {bl : List TxD} (h : Good bls) (h6 : bl.length ≤ 6) (ht : ∀ t ∈ bl, t.ok) : Good (bls ++ [bl]) := by
 intro x hx
 rcases List.mem_append.1 hx with hx | hx
 ·exact h x hx
 ·rw [List.mem_singleton] at hx
  subst hx
  exact ⟨h6, ht⟩
theorem Good.take {bls : List (List TxD)} (h : Good bls) (k : Nat) : Good (bls.take k) := fun x hx => h x (List.mem_of_mem_take hx)
theorem Good.small {bls : List (List TxD)} (h : Good bls) (i : Nat) (hi : i < bls.length) : SmallB (bls.getD i []) := by
 obtain ⟨h1, h2⟩ := h _ (gDM bls [] i hi)
 refine ⟨by omega, fun t ht => ?_⟩
 obtain ⟨_, a, _, b, _⟩ := raS (h2 t ht)
 omega
def RV (l : List RCel) : Prop := ∀ y ∈ l, 0 ≤ y.val ∧ y.val ≤ 1099511627776
theorem markI_RV (h : RV l) (i : InD) : RV (markI l i) := by
 unfold markI
 split
 ·exact h
 ·intro y hy
  rcases rfindZ_cases l i.id i.pos with hf | ⟨j, hj, hf, _⟩
  ·rename_i hc; exact absurd (by rw [hf]; omega) hc
  ·rw [hf, show ((j : Int)).toNat = j from Int.toNat_natCast j] at hy
   rcases List.mem_or_eq_of_mem_set hy with hy | hy
   ·exact h y hy
   ·have hz := h _ (gDM l dR j hj)
    rw [hy]
    exact hz
theorem insR_RV (ins : List InD) : ∀ {l : List RCel}, RV l → RV (insR l ins) := by
 unfold insR
 induction ins with
 | nil => intro l h; exact h
 | cons x r ih => intro l h; rw [List.foldl_cons]; exact ih (markI_RV h x)
theorem outR_RV {id : Int} (hy : ∀ j, j < ys.length → rOut (ys.getD j (0, 0)) = true) : RV (outR id ys ys.length) := by
 intro x hx
 simp only [outR, List.mem_map, List.mem_range] at hx
 obtain ⟨j, hj, rfl⟩ := hx
 have := rOut_bd (hy j hj)
 simp only
 omega
theorem txR_RV (h : RV l) {t : TxD} (ht : t.ok) : RV (txR l t) := by
 obtain ⟨_, _, _, _, hy⟩ := raS ht
 intro y hm
 rcases List.mem_append.1 hm with hm | hm
 ·exact insR_RV t.ins h y hm
 ·exact outR_RV hy y hm
theorem blkR_RV (bl : List TxD) : ∀ {l : List RCel}, RV l → (∀ t ∈ bl, t.ok) → RV (blkR l bl) := by
 unfold blkR
 induction bl with
 | nil => intro l h _; exact h
 | cons x r ih => intro l h ht; rw [List.foldl_cons]; exact ih (txR_RV h (ht x (by simp))) (fun t h' => ht t (by simp [h']))
theorem cellsR_RV {bls : List (List TxD)} (h : Good bls) : RV (clR bls) := by
 have : ∀ (bls : List (List TxD)) (l : List RCel), RV l → Good bls → RV (bls.foldl blkR l) := by
  intro bls
  induction bls with
  | nil => intro l h _; exact h
  | cons x r ih => intro l h hg; rw [List.foldl_cons]; exact ih _ (blkR_RV x h (hg x (by simp)).2) (fun b hb => hg b (by simp [hb]))
 exact this bls [] (fun y hy => by simp at hy) h
theorem blkR_len (bl : List TxD) : ∀ (l : List RCel), (∀ t ∈ bl, t.ok) → (blkR l bl).length ≤ l.length + 8 * bl.length := by
 unfold blkR
 induction bl with
 | nil => intro l _; simp
 | cons x r ih =>
  intro l ht
  rw [List.foldl_cons]
  have h1 := ih (txR l x) (fun t h' => ht t (by simp [h']))
  have h2 := txR_len l x
  obtain ⟨_, _, _, h8, _⟩ := raS (ht x (by simp))
  simp only [List.length_cons]
  omega
theorem cellsR_len {bls : List (List TxD)} (h : Good bls) : (clR bls).length ≤ 48 * bls.length := by
 have : ∀ (bls : List (List TxD)) (l : List RCel), Good bls → (bls.foldl blkR l).length ≤ l.length + 48 * bls.length := by
  intro bls
  induction bls with
  | nil => intro l _; simp
  | cons x r ih =>
   intro l hg
   rw [List.foldl_cons]
   have h1 := ih (blkR l x) (fun b hb => hg b (by simp [hb]))
   have h2 := blkR_len x l (hg x (by simp)).2
   have h3 := (hg x (by simp)).1
   simp only [List.length_cons]
   omega
 unfold clR
 simpa using this bls [] h
def jgR (bls : List (List TxD)) (bl : List TxD) (i : Nat) : Int :=
 if rTx (bl.getD i dT).t (bl.getD i dT).ins (bl.getD i dT).ys = false ∨ ((bl.getD i dT).ins = [] ∧ 0 < i) then 2
 else if snZ (bls ++ [bl.take i]) (bl.getD i dT).id = true then 4
 else spendsR (clR (bls ++ [bl.take i])) (bl.getD i dT)
theorem BlkAt.take {bl : List TxD} (h : BlkAt N w ao bl) (k : Nat) : BlkAt N w ao (bl.take k) := by
 refine ⟨?_, fun e => h.na (fun e' => e (by rw [e']; simp)), fun x hx => h.ok x (List.mem_of_mem_take hx)⟩
 rcases h.row with h1 | ⟨b, off, e, hr⟩
 ·exact Or.inl (by rw [h1]; simp)
 ·refine Or.inr ⟨b, off, e, fun j hj => ?_⟩
  rw [rlN TxD.v 3 tx3, List.length_take] at hj
  have hj2 : j < (bl.flatMap TxD.v).length := by
   rw [rlN TxD.v 3 tx3]
   have : min k bl.length * 3 ≤ bl.length * 3 := Nat.mul_le_mul_right 3 (Nat.min_le_right _ _)
   omega
  have := hr j hj2
  rw [this]
  congr 1
  have e1 : bl.flatMap TxD.v = (bl.take k).flatMap TxD.v ++ (bl.drop k).flatMap TxD.v := by rw [← List.flatMap_append, List.take_append_drop]
  rw [e1]
  simp only [List.getD]
  rw [List.getElem?_append_left (by rw [rlN TxD.v 3 tx3, List.length_take]; exact hj)]
theorem judged_any (N : NPr) (ao : OAd) (n c : Nat) (cs : List CbD) (bls : List (List TxD)) (ab : OAd) (m d : Nat) (bl : List TxD) (i : Nat) (w : World) (hx : ChnAt N w ao cs bls) (hn : bls.length = n) (hm : n ≤ 40) (h0 : ao = none → c = 0) (hb : BlkAt N w ab bl) (hbn : bl.length = m) (h6 : m ≤ 6) (hd : m ≤ d) (hi : i < m) (hg : Good bls) (hpre : ∀ t ∈ bl.take i, t.ok) :
 Calls Tryz.prog 203 #[.slice ao n c, .slice ab m d, .int .i64 i] w fun e w' => e = .returned (.int .i64 (jgR bls bl i)) ∧ Below w.heap.size w w' := by
 have HG : Hid (Good (bls ++ [bl.take i])) := hg.snoc (by rw [List.length_take]; omega) hpre
 have HJ : Hid (jgR bls bl i = if rTx (bl.getD i dT).t (bl.getD i dT).ins (bl.getD i dT).ys = false ∨ ((bl.getD i dT).ins = [] ∧ 0 < i) then 2 else if snZ (bls ++ [bl.take i]) (bl.getD i dT).id = true then 4 else spendsR (clR (bls ++ [bl.take i])) (bl.getD i dT)) := rfl
 have HBT : Hid (BlkAt N w ab (bl.take i)) := hb.take i
 have HTL : Hid ((bl.take i).length = i) := by show _ = _; rw [List.length_take]; omega
 rcases hb.row with hnil | ⟨gb, ob, rfl, hrow⟩
 ·rw [hnil] at hbn; simp at hbn; omega
 obtain ⟨t0, t1, t2⟩ := txCells hrow i (by omega)
 have hok := hb.ok _ (gDM bl dT i (by omega))
 have HX := hiD hx
 have HN := hiD hn
 have HAO := hiD h0
 clear hx hn hb hbn hrow hg hpre h0
 generalize jgR bls bl i = RES at *
 generalize bl.getD i dT = y at t0 t1 t2 hok HJ
 generalize bl.take i = blt at *
 have HID : Hid (y.id = idZ y.t y.ins y.ys) := rfl
 have HY : Hid (y = ⟨y.t, y.ai, y.n, y.c, y.ap, y.m, y.d, y.ins, y.ys⟩) := rfl
 have HRS : Hid (∀ l, RV l → l.length ≤ 10000000000 → rTx y.t y.ins y.ys = true → ∀ ao n c w, RcT RCel.v w ao l → l.length = n → TxOk N w y → Calls Tryz.prog 218 #[.slice ao n c, .agg #[.int .i64 y.t, .slice y.ai y.n y.c, .slice y.ap y.m y.d]] w fun e w' => e = .returned (.int .i64 (spendsR l y)) ∧ Below w.heap.size w w') := fun l hv hl hr ao n c w h1 h2 h3 => rspends_any N ao n c l y w h1 h2 (by omega) hv h3 hr
 have HOK := hiD hok
 clear hok
 have e5 : (0 : Int) ≤ (i : Int) := by omega
 have e6 : (i : Int) < (m : Int) := by omega
 go_enter Tryz.func203, Tryz.ntmps203
 go_wp2_with fail
 refine (rRight_any _ _ _ _ _ _ _ y.ins y.ys _ HOK.out.ins HOK.out.il HOK.out.outs HOK.out.ol).mono ?_
 rintro e w1 ⟨rfl, hb1⟩
 have HOK1 : Hid (TxOk N w1 y) := HOK.out.fr (Fr.of_below hb1 (fun _ => False)) (fun _ _ h => h)
 have HX1 := hiD (HX.out.grown hb1)
 have HBT1 : Hid (BlkAt N w1 (some ⟨gb, ob, none⟩) blt) := HBT.out.fr (Fr.of_below hb1 (fun _ => False)) (fun _ _ h => h)
 have s0 := (hb1.cell (p := ⟨gb, ob + i * 3, none⟩) (clT t0)).trans t0
 have s1 := (hb1.cell (p := ⟨gb, ob + i * 3 + 1, none⟩) (clT t1)).trans t1
 have s2 := (hb1.cell (p := ⟨gb, ob + i * 3 + 2, none⟩) (clT t2)).trans t2
 clear t0 t1 t2 HOK HX HBT
 cases hrt : rTx y.t y.ins y.ys
 ·have HR : Hid (RES = 2) := by show _ = _; rw [HJ.out, if_pos (Or.inl hrt)]
  go_wp2
  go_ret
  exact ⟨riT HR.out.symm, hb1⟩
 ·have HIL := hiD HOK1.out.il
  by_cases hbad : y.ins = [] ∧ 0 < i
  ·have HR : Hid (RES = 2) := by show _ = _; rw [HJ.out, if_pos (Or.inr hbad)]
   have hn0 : y.n = 0 := by rw [← HIL.out, hbad.1]; rfl
   rw [hn0] at s1
   have g0 : decide ((0 : Int) < (i : Int)) = true := by rw [decide_eq_true_iff]; omega
   go_wp2
   go_ret
   exact ⟨riT HR.out.symm, hb1⟩
  ·have HJ2 : Hid (RES = if snZ (bls ++ [blt]) y.id = true then 4 else spendsR (clR (bls ++ [blt])) y) := by show _ = _; rw [HJ.out, if_neg (fun h => h.elim (fun h => by rw [hrt] at h; cases h) hbad)]
   have hcond : y.n = 0 → i = 0 := fun h => Classical.byContradiction fun h' => hbad ⟨List.length_eq_zero_iff.1 (by rw [HIL.out, h]), by omega⟩
   have hc2 : (((y.n : Int) == 0) && decide ((0 : Int) < (i : Int))) = false := by
    by_cases hz : y.n = 0
    ·have := hcond hz
     subst this
     simp
    ·have : ((y.n : Int) == 0) = false := by rw [beq_eq_false_iff_ne]; omega
     rw [this]; rfl
   clear hcond hbad HJ
   have hid0 : (0 : Int) ≤ (i : Int) := e5
   have hid1 : (i : Int) ≤ (d : Int) := by omega
   cases hy0 : ((y.n : Int) == 0)
   case' true => rw [hy0] at hc2; simp only [Bool.true_and, decide_eq_false_iff_not] at hc2; have hc3 : decide (0 < i) = false := by rw [decide_eq_false_iff_not]; omega
   all_goals
    go_wp2_with fail
    refine (joined_any N ao n c cs bls (some ⟨gb, ob, none⟩) i d blt _ HX1 HN (by omega) HAO HBT1 HTL).mono ?_
    rintro e w2 ⟨rfl, hch2, hb2⟩
    have HX2 := hiD hch2
    have HOK2 : Hid (TxOk N w2 y) := HOK1.out.fr (Fr.of_below hb2 (fun _ => False)) (fun _ _ h => h)
    have r0 := (hb2.cell (p := ⟨gb, ob + i * 3, none⟩) (clT s0)).trans s0
    have r1 := (hb2.cell (p := ⟨gb, ob + i * 3 + 1, none⟩) (clT s1)).trans s1
    have r2 := (hb2.cell (p := ⟨gb, ob + i * 3 + 2, none⟩) (clT s2)).trans s2
    have hb02 := bwK hb1 hb2
    have HLB : Hid ((bls ++ [blt]).length = n + 1) := by show _ = _; simp [HN.out]
    clear hch2 HX1 HOK1 HBT1 s0 s1 s2 hb1 hb2 HTL HN HAO
    generalize cs ++ [⟨some ⟨gb, ob, none⟩, i, d⟩] = cs2 at HX2
    generalize bls ++ [blt] = bls2 at *
    generalize w1.heap.size = G2 at *
    go_wp2_with fail
    refine (rId_any y.t y.ai y.n y.c y.ap y.m y.d y.ins y.ys _ HOK2.out.ins HOK2.out.il HOK2.out.outs HOK2.out.ol).mono ?_
    rintro e w3 ⟨rfl, hb3⟩
    rw [← HID.out]
    have HX3 := hiD (HX2.out.grown hb3)
    have HOK3 : Hid (TxOk N w3 y) := HOK2.out.fr (Fr.of_below hb3 (fun _ => False)) (fun _ _ h => h)
    have q0 := (hb3.cell (p := ⟨gb, ob + i * 3, none⟩) (clT r0)).trans r0
    have q1 := (hb3.cell (p := ⟨gb, ob + i * 3 + 1, none⟩) (clT r1)).trans r1
    have q2 := (hb3.cell (p := ⟨gb, ob + i * 3 + 2, none⟩) (clT r2)).trans r2
    have hb03 := bwK hb02 hb3
    clear HX2 HOK2 r0 r1 r2 hb02 hb3
    go_wp2_with fail
    refine (stands_any N _ (n + 1) (n + 1) cs2 bls2 y.id _ HX3 HLB (by omega) (fun i' hi' => (HG.out.small i' (by rw [HLB.out]; exact hi')).1)).mono ?_
    rintro e w4 ⟨rfl, hb4⟩
    have HX4 := hiD (HX3.out.grown hb4)
    have HOK4 : Hid (TxOk N w4 y) := HOK3.out.fr (Fr.of_below hb4 (fun _ => False)) (fun _ _ h => h)
    have p0 := (hb4.cell (p := ⟨gb, ob + i * 3, none⟩) (clT q0)).trans q0
    have p1 := (hb4.cell (p := ⟨gb, ob + i * 3 + 1, none⟩) (clT q1)).trans q1
    have p2 := (hb4.cell (p := ⟨gb, ob + i * 3 + 2, none⟩) (clT q2)).trans q2
    have hb04 := bwK hb03 hb4
    clear HX3 HOK3 q0 q1 q2 hb03 hb4
    cases hst : snZ bls2 y.id
    ·have HR : Hid (RES = spendsR (clR bls2) y) := by show _ = _; rw [HJ2.out, if_neg (by rw [hst]; simp)]
     go_wp2_with fail
     refine (cells_any N _ (n + 1) (n + 1) cs2 bls2 _ HX4 HLB (by omega) (fun i' hi' => HG.out.small i' (by rw [HLB.out]; exact hi'))).mono ?_
     rintro e w5 ⟨v5, rfl, hown5, hb5⟩
     obtain ⟨a5, c5, rfl, hat5⟩ := ORC.at rc5 hown5
     have HAT5 := hiD hat5
     have HOK5 : Hid (TxOk N w5 y) := HOK4.out.fr (Fr.of_below hb5 (fun _ => False)) (fun _ _ h => h)
     have o0 := (hb5.cell (p := ⟨gb, ob + i * 3, none⟩) (clT p0)).trans p0
     have o1 := (hb5.cell (p := ⟨gb, ob + i * 3 + 1, none⟩) (clT p1)).trans p1
     have o2 := (hb5.cell (p := ⟨gb, ob + i * 3 + 2, none⟩) (clT p2)).trans p2
     have hb05 := bwK hb04 hb5
     clear hown5 hat5 HX4 HOK4 p0 p1 p2 hb04 hb5
     go_wp2_with fail
     refine (HRS (clR bls2) (cellsR_RV HG) (by have := cellsR_len HG.out; rw [HLB.out] at this; omega) hrt a5 _ c5 _ HAT5 rfl HOK5).mono ?_
     rintro e w6 ⟨rfl, hb6⟩
     rw [← HR.out]
     go_wp2
     go_ret
     exact ⟨rfl, bwK hb05 hb6⟩
    ·have HR : Hid (RES = 4) := by show _ = _; rw [HJ2.out, if_pos hst]
     go_wp2
     go_ret
     exact ⟨riT HR.out.symm, hb04⟩
def verdGo (bls : List (List TxD)) (bl : List TxD) : Nat → Nat → Int × Int
 | 0, _ => (0, 0)
 | f + 1, k => if jgR bls bl k ≠ 0 then (jgR bls bl k, (k : Int)) else verdGo bls bl f (k + 1)
def viR (bls : List (List TxD)) (bl : List TxD) : Int × Int :=
 if 40 ≤ bls.length then (3, 0) else if 6 < bl.length then (2, 0) else verdGo bls bl bl.length 0
theorem judged_ok {bls : List (List TxD)} {bl : List TxD} (h : jgR bls bl i = 0) : (bl.getD i dT).ok := by
 unfold jgR at h
 split at h
 ·omega
 ·rename_i hc
  cases hr : rTx (bl.getD i dT).t (bl.getD i dT).ins (bl.getD i dT).ys
  ·exact absurd (Or.inl hr) hc
  ·exact hr
theorem pre_ok {bls : List (List TxD)} {bl : List TxD} (hk : k ≤ bl.length) (h : ∀ j, j < k → jgR bls bl j = 0) : ∀ t ∈ bl.take k, t.ok := by
 intro t ht
 obtain ⟨j, hj, rfl⟩ := mgD dT ht
 rw [List.length_take] at hj
 have := judged_ok (h j (by omega))
 have e : (bl.take k).getD j dT = bl.getD j dT := by simp only [List.getD]; rw [List.getElem?_take_of_lt (by omega)]
 rw [e]
 exact this
theorem verdict_any (N : NPr) (ao : OAd) (n c : Nat) (cs : List CbD) (bls : List (List TxD)) (ab : OAd) (m d : Nat) (bl : List TxD) (w : World) (hx : ChnAt N w ao cs bls) (hn : bls.length = n) (hm : n ≤ 40) (h0 : ao = none → c = 0) (hb : BlkAt N w ab bl) (hbn : bl.length = m) (hd : m ≤ d) (hm2 : m ≤ 9223372036854775807) (hg : Good bls) :
 Calls Tryz.prog 160 #[.slice ao n c, .slice ab m d] w fun e w' => e = .returned (.tuple #[.int .i64 (viR bls bl).1, .int .i64 (viR bls bl).2]) ∧ ((viR bls bl).1 = 0 → n < 40 ∧ m ≤ 6 ∧ ∀ t ∈ bl, t.ok) ∧ Below w.heap.size w w' := by
 have HV : Hid (viR bls bl = if 40 ≤ n then (3, 0) else if 6 < m then (2, 0) else verdGo bls bl m 0) := by show _ = _; rw [← hn, ← hbn]; rfl
 have HX := hiD hx
 have HN := hiD hn
 have HB := hiD hb
 have HBN := hiD hbn
 have HG := hiD hg
 have HAO := hiD h0
 clear hx hn hb hbn hg h0
 by_cases h40 : 40 ≤ n
 ·have HR : Hid (viR bls bl = (3, 0)) := by show _ = _; rw [HV.out, if_pos h40]
  have g1 : decide ((40 : Int) ≤ (n : Int)) = true := by rw [decide_eq_true_iff]; omega
  go_enter Tryz.func160, Tryz.ntmps160
  go_wp2
  go_ret2
  rw [HR.out]
  exact ⟨rfl, fun h => by simp at h, Below.refl _ _⟩
 ·have g1 : decide ((40 : Int) ≤ (n : Int)) = false := by rw [decide_eq_false_iff_not]; omega
  by_cases h6 : 6 < m
  ·have HR : Hid (viR bls bl = (2, 0)) := by show _ = _; rw [HV.out, if_neg h40, if_pos h6]
   have g2 : decide ((6 : Int) < (m : Int)) = true := by rw [decide_eq_true_iff]; omega
   go_enter Tryz.func160, Tryz.ntmps160
   go_wp2
   go_ret2
   rw [HR.out]
   exact ⟨rfl, fun h => by simp at h, Below.refl _ _⟩
  ·have HR : Hid (viR bls bl = verdGo bls bl m 0) := by show _ = _; rw [HV.out, if_neg h40, if_neg h6]
   have g2 : decide ((6 : Int) < (m : Int)) = false := by rw [decide_eq_false_iff_not]; omega
   clear HV
   generalize viR bls bl = VR at *
   go_enter Tryz.func160, Tryz.ntmps160
   go_wp2
   go_loopw [6] (fun i wr => ∃ k : Nat, k ≤ m ∧ i = .int .i64 k ∧ Hid (VR = verdGo bls bl (m - k) k) ∧ Hid (∀ j, j < k → jgR bls bl j = 0) ∧ Below w.heap.size w wr) (fun i _ => m - (intOf i).toNat)
   case atStart => exact ⟨0, Nat.zero_le _, rfl, HR, fun j hj => absurd hj (Nat.not_lt_zero _), Below.refl _ _⟩
   case round =>
    obtain ⟨k, hk, rfl, hz, hpre, hbl⟩ := hrel
    by_cases hlt : k < m
    ·have HX1 := hiD (HX.out.grown hbl)
     have HB1 : Hid (BlkAt N wr ab bl) := HB.out.fr (Fr.of_below hbl (fun _ => False)) (fun _ _ h => h)
     have HZ : Hid (VR = if jgR bls bl k ≠ 0 then (jgR bls bl k, (k : Int)) else verdGo bls bl (m - (k + 1)) (k + 1)) := by
      show _ = _
      rw [hz.out, show m - k = (m - (k + 1)) + 1 by omega]
      rfl
     go_wp2_with fail
     refine (judged_any N ao n c cs bls ab m d bl k _ HX1 HN hm HAO HB1 HBN (by omega) hd hlt HG (pre_ok (by rw [HBN.out]; exact hk) hpre.out)).mono ?_
     rintro e w1 ⟨rfl, hb1⟩
     have hbl1 := bwK hbl hb1
     have HJ : Hid (∀ J, jgR bls bl k = J → J = 0 → ∀ j, j < k + 1 → jgR bls bl j = 0) := fun J h1 h2 j hj => by
      by_cases e : j < k
      ·exact hpre.out j e
      ·rw [show j = k by omega, h1, h2]
     generalize hJ : jgR bls bl k = J at HZ ⊢
     have HJ2 : Hid _ := HJ.out J hJ
     clear HJ hJ
     by_cases hJ0 : J = 0
     ·subst hJ0
      have HZ2 : Hid (VR = verdGo bls bl (m - (k + 1)) (k + 1)) := by show _ = _; rw [HZ.out, if_neg (by simp)]
      have HP2 : Hid (∀ j, j < k + 1 → jgR bls bl j = 0) := HJ2.out rfl
      go_wp2
      go_roundw
      case rel => exact ⟨k + 1, by omega, by go_num, HZ2, HP2, hbl1⟩
      case measure => simp [intOf]; omega
     ·have HZ2 : Hid (VR = (J, (k : Int))) := by show _ = _; rw [HZ.out, if_pos hJ0]
      have hj1 : (J == 0) = false := by rw [beq_eq_false_iff_ne]; exact hJ0
      have hj2 : (J != 0) = true := by simp [bne, hj1]
      go_wp2
      go_ret2
      rw [HZ2.out]
      exact ⟨rfl, fun h => absurd h hJ0, hbl1⟩
    ·have hkm : k = m := by omega
     subst hkm
     have HZ : Hid (VR = (0, 0)) := by show _ = _; rw [hz.out, Nat.sub_self]; rfl
     have HP : Hid (∀ t ∈ bl, t.ok) := by
      have := pre_ok (by rw [HBN.out]; exact leR) hpre.out
      rwa [List.take_of_length_le (by rw [HBN.out]; exact leR)] at this
     go_wp2
     go_ret2
     rw [HZ.out]
     exact ⟨rfl, fun _ => ⟨by omega, by omega, HP⟩, hbl⟩
def DKeep (D : Nat) (w w' : World) : Prop := ∀ o u, o ≠ 4 → w.cell? ⟨D, o, none⟩ = some u → w'.cell? ⟨D, o, none⟩ = some u
theorem DKeep.of (hb : Below w.heap.size w w1) (v : Value) : DKeep D w (w1.setCell ⟨D, 4, none⟩ v) := fun o u ho hc => by
 rw [World.cell?_setCell_other _ _ _ _ (fun e => ho (congrArg Addr.off e).symm)]
 exact (hb.cell (p := ⟨D, o, none⟩) (clT hc)).trans hc
structure DCh (N : NPr) (w : World) (D : Nat) (ao : OAd) (c : Nat) (bls : List (List TxD)) : Prop where
 c4 : w.cell? ⟨D, 4, none⟩ = some (.slice ao bls.length c)
 f4 : ∀ j, w.frozen? ⟨D, j, none⟩ = false
 ch : ∃ cs, ChnAt N w ao cs bls
 nl : ao = none → c = 0
 cap : bls.length ≤ c
 ne : ∀ a, ao = some a → a.block ≠ D
theorem ChnAt.fr (hf : Fr E w w') {bls : List (List TxD)} (h : ChnAt N w ao cs bls) (hn : ∀ k, N k → ¬ E k) (ha : ∀ a, ao = some a → ¬ E a.block) : ChnAt N w' ao cs bls := by
 refine ⟨?_, h.len, fun i hi => ⟨(h.blk i hi).1.fr hf hn, (h.blk i hi).2⟩⟩
 rcases h.row with h1 | ⟨b, off, rfl, hr⟩
 ·exact Or.inl h1
 ·exact Or.inr ⟨b, off, rfl, hf.vrow hr (ha _ rfl)⟩
theorem DCh.fr (hf : Fr E w w') {bls : List (List TxD)} (h : DCh N w D ao c bls) (hn : ∀ k, N k → ¬ E k) (ha : ∀ a, ao = some a → ¬ E a.block) (hD : ¬ E D) : DCh N w' D ao c bls := by
 obtain ⟨cs, hc⟩ := h.ch
 exact ⟨hf.cell h.c4 hD, fun j => (hf.frozen (clT h.c4) hD).trans (h.f4 j), ⟨cs, hc.fr hf hn ha⟩, h.nl, h.cap, h.ne⟩
theorem rConnect_any (N : NPr) (D : Nat) (ao : OAd) (c : Nat) (bls : List (List TxD)) (ab : OAd) (m d : Nat) (bl : List TxD) (w : World) (hx : DCh N w D ao c bls) (hm : bls.length ≤ 40) (hb : BlkAt N w ab bl) (hbn : bl.length = m) (hd : m ≤ d) (hm2 : m ≤ 9223372036854775807) (hg : Good bls) (hND : ¬ N D) :
 Calls Tryz.prog 110 #[.pointer (some ⟨D, 0, none⟩), .slice ab m d] w fun e w' => e = .returned (.tuple #[.int .i64 (viR bls bl).1, .int .i64 (viR bls bl).2]) ∧
  Fr (fun k => k = D) w w' ∧ DKeep D w w' ∧ ((viR bls bl).1 ≠ 0 ∧ DCh N w' D ao c bls ∨ (viR bls bl).1 = 0 ∧ (bls.length < 40 ∧ m ≤ 6 ∧ ∀ t ∈ bl, t.ok) ∧ ∃ g, w.heap.size ≤ g ∧ g < w'.heap.size ∧ DCh N w' D (some ⟨g, 0, none⟩) (bls.length + 1) (bls ++ [bl])) := by
 obtain ⟨cs, hch⟩ := hx.ch
 have c4 := hx.c4
 have HX := hiD hx
 have HC := hiD hch
 have HB := hiD hb
 have HBN := hiD hbn
 have HG := hiD hg
 have HND := hiD hND
 clear hx hch hb hbn hg hND
 have hDl : D < w.heap.size := clT c4
 generalize hnl : bls.length = n at *
 have HN := hiD hnl
 clear hnl
 go_enter Tryz.func110, Tryz.ntmps110
 go_wp2_with fail
 refine (verdict_any N ao n c cs bls ab m d bl _ HC HN hm HX.out.nl HB HBN hd hm2 HG).mono ?_
 rintro e w1 ⟨rfl, hok1, hb1⟩
 have HC1 := hiD (HC.out.grown hb1)
 have HB1 : Hid (BlkAt N w1 ab bl) := HB.out.fr (Fr.of_below hb1 (fun _ => False)) (fun _ _ h => h)
 have HX1 : Hid (DCh N w1 D ao c bls) := HX.out.fr (Fr.of_below hb1 (fun _ => False)) (fun _ _ h => h) (fun _ _ h => h) (fun h => h)
 have d4 := (hb1.cell (p := ⟨D, 4, none⟩) hDl).trans c4
 have f4 := HX1.out.f4 4
 have HOK1 : Hid _ := hok1
 have hsz1 := hb1.size
 clear hok1 c4
 generalize hV1 : (viR bls bl).1 = V1 at *
 have HV1 := hiD hV1
 generalize hV2 : (viR bls bl).2 = V2 at *
 have HV2 := hiD hV2
 clear hV1 hV2
 by_cases h0 : V1 = 0
 ·subst h0
  obtain ⟨k1, k2, k3⟩ := HOK1.out rfl
  have HK3 := hiD k3
  clear k3
  go_wp2_with fail
  refine (joined_any N ao n c cs bls ab m d bl _ HC1 HN (by omega) HX.out.nl HB1 HBN).mono ?_
  rintro e w2 ⟨rfl, hch2, hb2⟩
  have e4 := (hb2.cell (p := ⟨D, 4, none⟩) (clT d4)).trans d4
  have ef4 := (hb2.frozen (p := ⟨D, 4, none⟩) (clT d4)).trans f4
  have HEF4 : Hid (∀ j, w2.frozen? ⟨D, j, none⟩ = false) := fun j => (hb2.frozen (p := ⟨D, j, none⟩) (show D < w1.heap.size from clT d4)).trans (HX1.out.f4 j)
  have hb02 := bwK hb1 hb2
  have HCH2 := hiD hch2
  have hg2 : w1.heap.size < w2.heap.size := by
   rcases hch2.row with h | ⟨b, off, e, hr⟩
   ·simp at h
   ·injection e with e
    injection e with e _
    rw [e]
    exact hr.lt (by simp [CbD.v])
  clear hch2
  go_wp2
  go_ret2
  rw [HV1.out, HV2.out]
  refine ⟨rfl, (Fr.of_below hb02 _).set D 4 _ (fun _ => rfl), DKeep.of hb02 _, Or.inr ⟨rfl, ⟨k1, k2, HK3⟩, w1.heap.size, hsz1, by simpa using hg2, ?_⟩⟩
  have hne : w1.heap.size ≠ D := by omega
  refine ⟨?_, fun j => by rw [World.frozen?_setCell]; exact HEF4 j, ⟨_, HCH2.out.fr ((Fr.refl (fun k => k = D) w2).set D 4 _ (fun _ => rfl)) (fun k hk e => by subst e; exact HND hk) (fun a ha e => by cases ha; exact hne e)⟩, fun h => (by cases h), by simp [HN.out], fun a ha => (by cases ha; exact hne)⟩
  rw [World.cell?_setCell_same _ _ _ e4]
  simp [HN.out]
 ·have hj1 : (V1 == 0) = false := by rw [beq_eq_false_iff_ne]; exact h0
  go_wp2
  go_ret2
  rw [HV1.out, HV2.out]
  exact ⟨rfl, Fr.of_below hb1 _, fun o u _ hc => (hb1.cell (p := ⟨D, o, none⟩) (clT hc)).trans hc, Or.inl ⟨h0, HX1⟩⟩
theorem ChnAt.pre {bls : List (List TxD)} (h : ChnAt N w ao cs bls) (k : Nat) (hk : k ≤ bls.length) : ChnAt N w ao (cs.take k) (bls.take k) := by
 refine ⟨?_, by rw [List.length_take, List.length_take, h.len], fun i hi => ?_⟩
 ·rcases h.row with h1 | ⟨b, off, e, hr⟩
  ·exact Or.inl (by rw [h1]; simp)
  ·refine Or.inr ⟨b, off, e, fun j hj => ?_⟩
   rw [cb_len, List.length_take] at hj
   have := hr j (by rw [cb_len]; omega)
   rw [this]
   congr 1
   have e1 : cs.flatMap CbD.v = (cs.take k).flatMap CbD.v ++ (cs.drop k).flatMap CbD.v := by rw [← List.flatMap_append, List.take_append_drop]
   rw [e1]
   simp only [List.getD]
   rw [List.getElem?_append_left (by rw [cb_len, List.length_take]; exact hj)]
 ·rw [List.length_take] at hi
  have e1 : (cs.take k).getD i dCb = cs.getD i dCb := by simp only [List.getD]; rw [List.getElem?_take_of_lt (by omega)]
  have e2 : (bls.take k).getD i [] = bls.getD i [] := by simp only [List.getD]; rw [List.getElem?_take_of_lt (by omega)]
  rw [e1, e2]
  exact h.blk i (by omega)
theorem rDis_none (N : NPr) (D : Nat) (ao : OAd) (c : Nat) (w : World) (hx : DCh N w D ao c []) :
 Calls Tryz.prog 67 #[.pointer (some ⟨D, 0, none⟩)] w fun e w' => e = .returned (.int .i64 8) ∧ w = w' := by
 have c4 : w.cell? ⟨D, 4, none⟩ = some (.slice ao 0 c) := hx.c4
 clear hx
 go_enter Tryz.func67, Tryz.ntmps67
 go_wp2
 go_ret
 exact ⟨rfl, rfl⟩
theorem rDis_any (N : NPr) (D : Nat) (ao : OAd) (c : Nat) (bls : List (List TxD)) (n : Nat) (w : World) (hx : DCh N w D ao c bls) (hn : bls.length = n + 1) (hm : n ≤ 40) (hND : ¬ N D) :
 Calls Tryz.prog 67 #[.pointer (some ⟨D, 0, none⟩)] w fun e w' => e = .returned (.int .i64 0) ∧ Fr (fun k => k = D) w w' ∧ DKeep D w w' ∧ DCh N w' D ao c (bls.take n) := by
 have c4 := hx.c4
 have f4 := hx.f4 4
 have hcap := hx.cap
 rw [hn] at c4 hcap
 have HX := hiD hx
 have HN := hiD hn
 have HND := hiD hND
 clear hx hn hND
 obtain ⟨a, rfl⟩ : ∃ a, ao = some a := by
  cases ao with
  | none => have := HX.out.nl rfl; omega
  | some a => exact ⟨a, rfl⟩
 generalize hK : n + 1 = K at *
 have HK := hiD hK
 clear hK
 have k1 : ((K : Int) == 0) = false := by have := HK.out; rw [beq_eq_false_iff_ne]; omega
 have hw1 : IntKind.i64.wrap ((K : Int) - 1) = n := by have := HK.out; rw [show (K : Int) - 1 = n by omega]; exact IntWalk.i64_in _ ⟨by omega, by omega⟩
 have e5 : (0 : Int) ≤ (n : Int) := by omega
 have e6 : (n : Int) ≤ (c : Int) := by have := HK.out; omega
 go_enter Tryz.func67, Tryz.ntmps67
 go_wp2
 go_ret
 have hl : (bls.take n).length = n := by rw [List.length_take, HN.out]; have := HK.out; omega
 obtain ⟨cs, hch⟩ := HX.out.ch
 refine ⟨rfl, (Fr.refl _ w).set D 4 _ (fun _ => rfl), DKeep.of (Below.refl _ _) _, ⟨?_, fun j => by rw [World.frozen?_setCell]; exact HX.out.f4 j, ⟨cs.take n, ((hch.pre n (by rw [HN.out]; have := HK.out; omega)).fr ((Fr.refl (fun k => k = D) w).set D 4 _ (fun _ => rfl)) (fun k hk e => by subst e; exact HND hk) (fun a ha e => HX.out.ne a ha e))⟩, HX.out.nl, by rw [hl]; have := HK.out; omega, HX.out.ne⟩⟩
 rw [World.cell?_setCell_same _ _ _ c4, hl]
end
end Go.Proofs.YtffgpepngcnjeabGreat
