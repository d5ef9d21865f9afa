/-
  Package pursekeep: taken (of a signed payment).
  Package pursekeep: sameInts.
  Package pursekeep: sameNames, sameTx.
  Package pursekeep: opens, has.
  A payment is signed: what the book and the purse keep alike.
  Accepted: Sign where nothing, or one payment, is live; what the walk keeps.
-/
import Derived.Test.YtffgpepngcnjeabGreatQNat
import Derived.Test.YtffgpepngcnjeabGreatQNap
import Derived.BigQuiet
import Derived.Test.YtffgpepngcnjeabGreatQNan
import Derived.Test.YtffgpepngcnjeabGreatQNak
import Derived.Test.YtffgpepngcnjeabGreatQNaq
namespace Go.Proofs.YtffgpepngcnjeabGreatQ
open Go.RowKit
/-- Connect of one transaction, as a block that was just made, in a region that keeps its order -/
theorem conn1N (P : Nat) (s : Int) (g : Nat) (v : Value) (h : Int) (xs : List Cel) (vl vs : Value) (md nx : Int) (N : Nat → Prop) (x : TxD) (er at_ h' : Int) (xs' : List Cel) (w : World)
    (hp : PAe w P s g v h xs vl vs md nx) (hl : xs.length ≤ 5000) (hv : Vals xs) (hh : 0 ≤ h ∧ h ≤ 100) (hx : TxOk N w x) (hN : ∀ k, N k → k < w.heap.size ∧ ¬ chE P v k) (hc : connZ h xs [x] = (er, at_, h', xs')) :
    Calls Tryz.prog 43 #[.pointer (some ⟨P, 0, none⟩), .slice (some ⟨w.heap.size, 0, none⟩) 1 1] (w.alloc (.cells #[.int .i64 x.t, .slice x.ai x.n x.c, .slice x.ap x.m x.d] 35)) fun e w' => e = .returned (.tuple #[.int .i64 er, .int .i64 at_]) ∧ ∃ v', PAe w' P s g v' h' xs' vl vs md nx ∧ ChStep P v v' w w' := by
  have bA : Below w.heap.size w (w.alloc (.cells #[.int .i64 x.t, .slice x.ai x.n x.c, .slice x.ap x.m x.d] 35)) := (Below.refl _ _).alloc (Nat.le_refl _) _
  have hbk : BlkAt (fun q => N q ∨ q = w.heap.size) (w.alloc (.cells #[.int .i64 x.t, .slice x.ai x.n x.c, .slice x.ap x.m x.d] 35)) (some ⟨w.heap.size, 0, none⟩) [x] := by
    refine ⟨Or.inr ⟨w.heap.size, 0, rfl, ?_⟩, fun _ a ha => ?_, fun y hy => ?_⟩
    · have := vrow_new w x.v 35
      simpa [TxD.v] using this
    · injection ha with ha; subst ha; exact Or.inr rfl
    · rw [List.mem_singleton.1 hy]
      exact (hx.fr (Fr.of_below bA (fun _ => False)) (fun _ _ h => h)).weak (fun k hk => Or.inl hk)
  refine (pConnectE P s g v h xs vl vs md nx (fun q => N q ∨ q = w.heap.size) (some ⟨w.heap.size, 0, none⟩) 1 1 [x] _ (hp.grown bA) hl hv hh hbk rfl (fun k hk => ?_) (by omega)).mono ?_
  · rw [World.size_alloc]
    rcases hk with hk | hk
    · exact ⟨by have := (hN k hk).1; omega, (hN k hk).2⟩
    · subst hk
      exact ⟨by omega, fun e => by have := (hp.blk _ e).2; omega⟩
  · rw [hc]
    rintro e w' ⟨rfl, v', h1, h2⟩
    exact ⟨rfl, v', h1, (ChStep.of_below bA P v).trans h2⟩
/-- the memory of taken -/
structure TkI (P Y A : Nat) (N : Nat → Prop) (y : TxD) (a0 a1 a2 a3 a4 : Int) (al : Option Addr) (na ca : Nat) (own : List CoinD) (v : Value) (w : World) : Prop where
  vy : V3 w Y (.int .i64 y.t) (.slice y.ai y.n y.c) (.slice y.ap y.m y.d)
  nY : ¬ chE P v Y
  va : VB w A (.int .i64 a0) (.int .i64 a1) (.int .i64 a2) (.int .i64 a3) (.int .i64 a4) (.slice al na ca)
  nA : ¬ chE P v A
  ra : RecAt CoinD.l w al own
  nl : ∀ x, al = some x → x.block < w.heap.size ∧ ¬ chE P v x.block
  ty : TxOk N w y
  hN : ∀ k, N k → k < w.heap.size ∧ ¬ chE P v k
variable {P Y A : Nat} {N : Nat → Prop} {y : TxD} {a0 a1 a2 a3 a4 : Int} {al : Option Addr} {na ca : Nat} {own : List CoinD} {v v' : Value} {w w' : World}
theorem TkI.grown (u : TkI P Y A N y a0 a1 a2 a3 a4 al na ca own v w) (hb : Below w.heap.size w w') : TkI P Y A N y a0 a1 a2 a3 a4 al na ca own v w' :=
  ⟨u.vy.grown hb, u.nY, u.va.grown hb, u.nA, u.ra.grown hb, fun x hx => ⟨Nat.lt_of_lt_of_le (u.nl x hx).1 hb.size, (u.nl x hx).2⟩, u.ty.fr (Fr.of_below hb (fun _ => False)) (fun _ _ h => h), fun k hk => ⟨Nat.lt_of_lt_of_le (u.hN k hk).1 hb.size, (u.hN k hk).2⟩⟩
theorem TkI.step (u : TkI P Y A N y a0 a1 a2 a3 a4 al na ca own v w) (hst : ChStep P v v' w w') : TkI P Y A N y a0 a1 a2 a3 a4 al na ca own v' w' :=
  ⟨u.vy.fr hst.fr u.nY, nE_one hst (cell_lt u.vy.c0) u.nY, u.va.fr hst.fr u.nA, nE_one hst (cell_lt u.va.c0) u.nA, rec_fr hst.fr u.ra (fun _ x hx => (u.nl x hx).2), fun x hx => ⟨Nat.lt_of_lt_of_le (u.nl x hx).1 hst.fr.size, nE_one hst (u.nl x hx).1 (u.nl x hx).2⟩, u.ty.fr hst.fr (fun k hk => (u.hN k hk).2), nE_step hst u.hN⟩
set_option maxRecDepth 100000 in
set_option maxHeartbeats 8000000 in
theorem taken_any (NP : Nat → Prop) (P : Nat) (s : Int) (g : Nat) (v : Value) (h : Int) (xs xs2 : List Cel) (vl vs : Value) (md nx : Int) (ps : List PayD) (ks : List (Int × Int)) (N : Nat → Prop) (y : TxD) (w : World)
    (u : PP NP w P s g v h xs vl vs md nx ps ks) (hl : xs.length ≤ 2000) (hl2 : xs2.length ≤ 3000) (hv : Vals xs) (hv2 : Vals xs2) (hh : 0 ≤ h ∧ h ≤ 90) (hs : Mk.isM s = true) (hg1 : 1 ≤ g) (hg2 : g ≤ 20) (hpl : ps.length ≤ 9007199254740992) (hkl : ks.length ≤ 9007199254740992)
    (hty : TxOk N w y) (hN : ∀ k, N k → k < w.heap.size ∧ ¬ chE P v k) (hsy : TxSm y) (hyi : y.ins.length ≤ 1000)
    (htk : ∀ z : TxD, z.t = y.t → z.ins.map InD.st = y.ins.map InD.st → z.ys = y.ys → connZ h xs [z] = (0, 0, h + 1, xs2)) (htb : tbZ h xs2 = xs)
    (hgone : (!(y.ins.any fun i => namedB (ownOf xs2 s g) i.id i.pos)) = true) :
    Calls Tryz.prog 59 #[.pointer (some ⟨P, 0, none⟩), .agg #[.int .i64 y.t, .slice y.ai y.n y.c, .slice y.ap y.m y.d]] w fun e w' => e = .returned (.bool true) ∧ ∃ v', PAe w' P s g v' h xs vl vs md nx ∧ ChStep P v v' w w' := by
  obtain ⟨yt, ya, yn, yc, yp, ym, yd, yi, yy⟩ := y
  simp only at hyi htk hgone
  have HV : Hid (Vals xs) := hv
  have HV2 : Hid (Vals xs2) := hv2
  have HSY : Hid (TxSm ⟨yt, ya, yn, yc, yp, ym, yd, yi, yy⟩) := hsy
  have HTK : Hid (∀ z : TxD, z.t = yt → z.ins.map InD.st = yi.map InD.st → z.ys = yy → connZ h xs [z] = (0, 0, h + 1, xs2)) := htk
  have HTB : Hid (tbZ h xs2 = xs) := htb
  have HGO : Hid ((!(yi.any fun i => namedB (ownOf xs2 s g) i.id i.pos)) = true) := hgone
  have HIL : Hid (yi.length = yn) := hty.il
  have HYI : Hid (yn ≤ 1000) := by have := HIL.out; show _ ≤ _; omega
  have bA : Below w.heap.size w (w.alloc (.cells #[.int .i64 yt, .slice ya yn yc, .slice yp ym yd] 35)) := (Below.refl _ _).alloc (Nat.le_refl _) _
  have HY0 : Hid (V3 (w.alloc (.cells #[.int .i64 yt, .slice ya yn yc, .slice yp ym yd] 35)) w.heap.size (.int .i64 yt) (.slice ya yn yc) (.slice yp ym yd)) := V3.new w _ _ _ 35
  have HU0 : Hid (PP NP (w.alloc (.cells #[.int .i64 yt, .slice ya yn yc, .slice yp ym yd] 35)) P s g v h xs vl vs md nx ps ks) := u.grown bA
  have HST0 : Hid (ChStep P v v w (w.alloc (.cells #[.int .i64 yt, .slice ya yn yc, .slice yp ym yd] 35))) := ChStep.of_below bA P v
  have HTY0 : Hid (TxOk N (w.alloc (.cells #[.int .i64 yt, .slice ya yn yc, .slice yp ym yd] 35)) ⟨yt, ya, yn, yc, yp, ym, yd, yi, yy⟩) := hty.fr (Fr.of_below bA (fun _ => False)) (fun _ _ h => h)
  have HN0 : Hid (∀ k, N k → k < (w.alloc (.cells #[.int .i64 yt, .slice ya yn yc, .slice yp ym yd] 35)).heap.size ∧ ¬ chE P v k) := fun k hk => ⟨Nat.lt_of_lt_of_le (hN k hk).1 bA.size, (hN k hk).2⟩
  have HYn : Hid (¬ chE P v w.heap.size) := fun e => by have := (u.pu.blk _ e).2; omega
  clear u hv hv2 hsy htk htb hgone hty hN bA
  go_enter Tryz.func59, Tryz.ntmps59
  go_upto_region 1 with fail
  generalize w.alloc (.cells #[.int .i64 yt, .slice ya yn yc, .slice yp ym yd] 35) = w0 at *
  generalize w.heap.size = Y at *
  obtain ⟨ao0, c0, ev0, hat0⟩ := HU0.out.pu.at
  have HX0 : Hid (CelsAt w0 ao0 xs) := hat0
  have HR0 : Hid (PRow4 w0 P s g (.slice ao0 xs.length c0) h) := by rw [← ev0]; exact paq_row HU0.out.pu
  have HM0 : Hid (PayM NP w0 P 4 ps ks) := HU0.out.ls.payM hpl hkl
  clear ev0 hat0
  go_wp2_with fail
  refine (looked_any NP ps ks P s g ao0 xs.length c0 h xs _ hs hg1 hg2 HR0.out HM0.out HX0.out rfl (by omega) HV.out).mono ?_
  rintro e w1 ⟨al, ca, rfl, hal, hb1⟩
  have bB : Below w1.heap.size w1 (w1.alloc (.cells #[.int .i64 h, .int .i64 (winZ xs s g 0), .int .i64 (winZ xs s g 1), .int .i64 (sumC (ownOf xs s g)), .int .i64 (sumC ((ownOf xs s g).filter (freeB ps ks))), .slice al (ownOf xs s g).length ca] 169)) := (Below.refl _ _).alloc (Nat.le_refl _) _
  have HTI2 : Hid (TkI P Y w1.heap.size N ⟨yt, ya, yn, yc, yp, ym, yd, yi, yy⟩ h (winZ xs s g 0) (winZ xs s g 1) (sumC (ownOf xs s g)) (sumC ((ownOf xs s g).filter (freeB ps ks))) al (ownOf xs s g).length ca (ownOf xs s g) v (w1.alloc (.cells #[.int .i64 h, .int .i64 (winZ xs s g 0), .int .i64 (winZ xs s g 1), .int .i64 (sumC (ownOf xs s g)), .int .i64 (sumC ((ownOf xs s g).filter (freeB ps ks))), .slice al (ownOf xs s g).length ca] 169))) := by
    have hb2 : Below w0.heap.size w0 (w1.alloc (.cells #[.int .i64 h, .int .i64 (winZ xs s g 0), .int .i64 (winZ xs s g 1), .int .i64 (sumC (ownOf xs s g)), .int .i64 (sumC ((ownOf xs s g).filter (freeB ps ks))), .slice al (ownOf xs s g).length ca] 169)) := below_blk hb1 bB
    refine ⟨HY0.out.grown hb2, HYn.out, VB.new w1 _ _ _ _ _ _ 169, fun e => ?_, (own_atS coin6 hal).grown bB, fun x hx => ?_, HTY0.out.fr (Fr.of_below hb2 (fun _ => False)) (fun _ _ h => h), fun k hk => ⟨Nat.lt_of_lt_of_le (HN0.out k hk).1 hb2.size, (HN0.out k hk).2⟩⟩
    · have h1 := (HU0.out.pu.blk _ e).2
      have h2 := hb1.size
      omega
    · have h1 := hal.blk x.block (by rw [hx]; rfl)
      exact ⟨by have := bB.size; omega, fun e => by have := (HU0.out.pu.blk _ e).2; omega⟩
  have HU2 : Hid (PP NP (w1.alloc (.cells #[.int .i64 h, .int .i64 (winZ xs s g 0), .int .i64 (winZ xs s g 1), .int .i64 (sumC (ownOf xs s g)), .int .i64 (sumC ((ownOf xs s g).filter (freeB ps ks))), .slice al (ownOf xs s g).length ca] 169)) P s g v h xs vl vs md nx ps ks) := (HU0.out.grown hb1).grown bB
  have HST2 : Hid (ChStep P v v w (w1.alloc (.cells #[.int .i64 h, .int .i64 (winZ xs s g 0), .int .i64 (winZ xs s g 1), .int .i64 (sumC (ownOf xs s g)), .int .i64 (sumC ((ownOf xs s g).filter (freeB ps ks))), .slice al (ownOf xs s g).length ca] 169))) := (HST0.out.trans (ChStep.of_below hb1 P v)).trans (ChStep.of_below bB P v)
  go_upto_region 2 with fail
  clear bB hb1 hal HU0 HST0 HTY0 HN0 HY0 HYn HX0 HR0 HM0
  generalize w1.alloc (.cells #[.int .i64 h, .int .i64 (winZ xs s g 0), .int .i64 (winZ xs s g 1), .int .i64 (sumC (ownOf xs s g)), .int .i64 (sumC ((ownOf xs s g).filter (freeB ps ks))), .slice al (ownOf xs s g).length ca] 169) = w2 at *
  generalize w1.heap.size = A at *
  have HOL : Hid ((ownOf xs s g).length ≤ 2000) := by
    show _ ≤ _
    have h1 := ownZ_len (keysZ xs s g) (coinsC xs)
    have h2 := coinsC_len xs
    unfold ownOf
    omega
  obtain ⟨⟨y0, y1, y2, _⟩, _⟩ := HTI2.out
  simp only at y0 y1 y2
  go_wp2_with fail
  refine (copyTxOk N ⟨yt, ya, yn, yc, yp, ym, yd, yi, yy⟩ _ HTI2.out.ty HSY.out).mono ?_
  rintro e w3 ⟨r3, rfl, e1, e2, e3, hr3, hb3⟩
  have HC3 : Hid (connZ h xs [r3] = (0, 0, h + 1, xs2)) := HTK.out r3 e1 e2 e3
  have HTI3 : Hid _ := HTI2.out.grown hb3
  have HU3 : Hid _ := HU2.out.grown hb3
  have HST3 : Hid (ChStep P v v w w3) := HST2.out.trans (ChStep.of_below hb3 P v)
  have HTX3 : Hid (TxOk (fun q => w2.heap.size ≤ q ∧ q < w3.heap.size) w3 r3) := hr3
  have HN3 : Hid (∀ k, (w2.heap.size ≤ k ∧ k < w3.heap.size) → k < w3.heap.size ∧ ¬ chE P v k) := fun k hk => ⟨hk.2, fun e => by have := (HU2.out.pu.blk k e).2; omega⟩
  clear y0 y1 y2 e1 e2 e3 hr3 hb3 HTI2 HU2 HST2
  obtain ⟨rt, ra, rn, rc, rp, rm, rd, ri, ry⟩ := r3
  have bC : Below w3.heap.size w3 (w3.alloc (.cells #[.int .i64 rt, .slice ra rn rc, .slice rp rm rd] 35)) := (Below.refl _ _).alloc (Nat.le_refl _) _
  have HT4 : Hid (V3 (w3.alloc (.cells #[.int .i64 rt, .slice ra rn rc, .slice rp rm rd] 35)) w3.heap.size (.int .i64 rt) (.slice ra rn rc) (.slice rp rm rd)) := V3.new w3 _ _ _ 35
  have HTI4 : Hid _ := HTI3.out.grown bC
  have HU4 : Hid (PP NP (w3.alloc (.cells #[.int .i64 rt, .slice ra rn rc, .slice rp rm rd] 35)) P s g v h xs vl vs md nx ps ks) := HU3.out.grown bC
  have HST4 : Hid (ChStep P v v w (w3.alloc (.cells #[.int .i64 rt, .slice ra rn rc, .slice rp rm rd] 35))) := HST3.out.trans (ChStep.of_below bC P v)
  have HTX4 : Hid (TxOk (fun q => w2.heap.size ≤ q ∧ q < w3.heap.size) (w3.alloc (.cells #[.int .i64 rt, .slice ra rn rc, .slice rp rm rd] 35)) ⟨rt, ra, rn, rc, rp, rm, rd, ri, ry⟩) := HTX3.out.fr (Fr.of_below bC (fun _ => False)) (fun _ _ h => h)
  have HN4 : Hid (∀ k, (w2.heap.size ≤ k ∧ k < w3.heap.size) → k < (w3.alloc (.cells #[.int .i64 rt, .slice ra rn rc, .slice rp rm rd] 35)).heap.size ∧ ¬ chE P v k) := fun k hk => ⟨by rw [World.size_alloc]; omega, (HN3.out k hk).2⟩
  go_upto_region 3 with fail
  clear bC HTI3 HU3 HST3 HTX3 HN3
  generalize w3.alloc (.cells #[.int .i64 rt, .slice ra rn rc, .slice rp rm rd] 35) = w4 at *
  generalize w3.heap.size = T at *
  obtain ⟨t0, t1, t2, _⟩ := HT4.out
  go_wp2_with fail
  refine (conn1N P s g v h xs vl vs md nx _ ⟨rt, ra, rn, rc, rp, rm, rd, ri, ry⟩ 0 0 (h + 1) xs2 w4 HU4.out.toE (by omega) HV.out (by omega) HTX4.out HN4.out HC3.out).mono ?_
  rintro e w5 ⟨rfl, v5, hp5, hst5⟩
  have HTI5 : Hid _ := HTI4.out.step hst5
  have HU5 : Hid (PP NP w5 P s g v5 (h + 1) xs2 vl vs md nx ps ks) := HU4.out.chain hp5 hst5
  have HST5 : Hid (ChStep P v v5 w w5) := HST4.out.trans hst5
  clear t0 t1 t2 hp5 hst5 HTI4 HU4 HST4 HTX4 HN4 HC3 HT4
  obtain ⟨ao5, c5, ev5, hat5⟩ := HU5.out.pu.at
  have HX5 : Hid (CelsAt w5 ao5 xs2) := hat5
  have HR5 : Hid (PRow4 w5 P s g (.slice ao5 xs2.length c5) (h + 1)) := by rw [← ev5]; exact paq_row HU5.out.pu
  clear ev5 hat5
  go_wp2_with fail
  refine (pCoins4 P s g ao5 xs2.length c5 (h + 1) xs2 _ hs hg1 hg2 HR5.out HX5.out rfl (by omega)).mono ?_
  rintro e w6 ⟨vc, rfl, hoc, hb6⟩
  obtain ⟨ab, cb, rfl, hab⟩ := OwnRec.at coin6 hoc
  have HAB6 : Hid (RecAt CoinD.l w6 ab (ownOf xs2 s g)) := hab
  have HBL : Hid (∀ x, ab = some x → w5.heap.size ≤ x.block ∧ x.block < w6.heap.size) := fun x hx => hoc.blk x.block (by rw [hx]; rfl)
  have HLL : Hid ((ownOf xs2 s g).length ≤ 3000) := by
    show _ ≤ _
    have h1 := ownZ_len (keysZ xs2 s g) (coinsC xs2)
    have h2 := coinsC_len xs2
    unfold ownOf
    omega
  have HTI6 : Hid _ := HTI5.out.grown hb6
  have HU6 : Hid (PP NP w6 P s g v5 (h + 1) xs2 vl vs md nx ps ks) := HU5.out.grown hb6
  have HST6 : Hid (ChStep P v v5 w w6) := HST5.out.trans (ChStep.of_below hb6 P v5)
  have HBN : Hid (∀ x, ab = some x → ¬ chE P v5 x.block) := fun x hx e => by have h1 := HBL.out x hx; have h2 := (HU5.out.pu.blk _ e).2; omega
  clear hoc hab hb6 HTI5 HU5 HST5 HX5 HR5
  go_wp2_with fail
  refine (pDisE P s g v5 (h + 1) xs2 vl vs md nx _ HU6.out.toE (by omega) (by omega) (by omega)).mono ?_
  rw [show h + 1 - 1 = h by omega, HTB.out]
  rintro e w7 ⟨rfl, v7, hp7, hst7⟩
  have HTI7 : Hid _ := HTI6.out.step hst7
  have HU7 : Hid (PP NP w7 P s g v7 h xs vl vs md nx ps ks) := HU6.out.chain hp7 hst7
  have HST7 : Hid (ChStep P v v7 w w7) := HST6.out.trans hst7
  have HAB7 : Hid (RecAt CoinD.l w7 ab (ownOf xs2 s g)) := rec_fr hst7.fr HAB6.out (fun _ x hx => HBN.out x hx)
  clear hp7 hst7 HTI6 HU6 HST6 HAB6 HBN
  obtain ⟨ao7, c7, ev7, hat7⟩ := HU7.out.pu.at
  have HX7 : Hid (CelsAt w7 ao7 xs) := hat7
  have HR7 : Hid (PRow4 w7 P s g (.slice ao7 xs.length c7) h) := by rw [← ev7]; exact paq_row HU7.out.pu
  have HM7 : Hid (PayM NP w7 P 4 ps ks) := HU7.out.ls.payM hpl hkl
  clear ev7 hat7
  go_wp2_with fail
  refine (looked_any NP ps ks P s g ao7 xs.length c7 h xs _ hs hg1 hg2 HR7.out HM7.out HX7.out rfl (by omega) HV.out).mono ?_
  rintro e w8 ⟨ad, cd, rfl, had, hb8⟩
  have bB : Below w8.heap.size w8 (w8.alloc (.cells #[.int .i64 h, .int .i64 (winZ xs s g 0), .int .i64 (winZ xs s g 1), .int .i64 (sumC (ownOf xs s g)), .int .i64 (sumC ((ownOf xs s g).filter (freeB ps ks))), .slice ad (ownOf xs s g).length cd] 169)) := (Below.refl _ _).alloc (Nat.le_refl _) _
  have hb79 := below_blk hb8 bB
  have HTI9 : Hid _ := HTI7.out.grown hb79
  have HU9 : Hid _ := HU7.out.grown hb79
  have HST9 : Hid _ := HST7.out.trans (ChStep.of_below hb79 P v7)
  have HAB9 : Hid _ := HAB7.out.grown hb79
  have HAD9 : Hid _ := (own_atS coin6 had).grown bB
  have HD9 : Hid _ := VB.new w8 (.int .i64 h) (.int .i64 (winZ xs s g 0)) (.int .i64 (winZ xs s g 1)) (.int .i64 (sumC (ownOf xs s g))) (.int .i64 (sumC ((ownOf xs s g).filter (freeB ps ks)))) (.slice ad (ownOf xs s g).length cd) 169
  go_upto_region 7 with fail
  clear bB hb79 hb8 had HTI7 HU7 HST7 HAB7 HX7 HR7 HM7
  generalize w8.alloc (.cells #[.int .i64 h, .int .i64 (winZ xs s g 0), .int .i64 (winZ xs s g 1), .int .i64 (sumC (ownOf xs s g)), .int .i64 (sumC ((ownOf xs s g).filter (freeB ps ks))), .slice ad (ownOf xs s g).length cd] 169) = w9 at *
  generalize w8.heap.size = D at *
  obtain ⟨⟨y0, y1, y2, _⟩, _⟩ := HTI9.out
  simp only at y0 y1 y2
  go_wp2_with fail
  refine (spent_any ab (ownOf xs2 s g).length cb (ownOf xs2 s g) yt ya yn yc yp ym yd yi _ HAB9.out rfl (by have := HLL.out; omega) HTI9.out.ty.ins HIL.out HYI.out).mono ?_
  rw [HGO.out]
  rintro e w10 ⟨rfl, hb10⟩
  have HTI10 : Hid _ := HTI9.out.grown hb10
  have HU10 : Hid (PP NP w10 P s g v7 h xs vl vs md nx ps ks) := HU9.out.grown hb10
  have HST10 : Hid (ChStep P v v7 w w10) := HST9.out.trans (ChStep.of_below hb10 P v7)
  have HAD10 : Hid (RecAt CoinD.l w10 ad (ownOf xs s g)) := RecAt.grown HAD9.out hb10
  have HD10 : Hid _ := HD9.out.grown hb10
  clear y0 y1 y2 hb10 HTI9 HU9 HST9 HAB9 HAD9 HD9
  obtain ⟨_, _, ⟨l0, l1, l2, l3, l4, l5, _⟩, _⟩ := HTI10.out
  obtain ⟨d0, d1, d2, d3, d4, d5, _⟩ := HD10.out
  go_wp2_with fail
  refine (alike_any h h 0 (winZ xs s g 0) (winZ xs s g 1) (sumC (ownOf xs s g)) (sumC ((ownOf xs s g).filter (freeB ps ks))) al ad (ownOf xs s g).length ca cd (ownOf xs s g) _ HTI10.out.ra HAD10.out rfl (by have := HOL.out; omega) (by omega) (by omega) (by omega)).mono ?_
  rintro e w11 ⟨rfl, hb11⟩
  have HFIN : Hid (PAe w11 P s g v7 h xs vl vs md nx ∧ ChStep P v v7 w w11) := ⟨(HU10.out.grown hb11).toE, HST10.out.trans (ChStep.of_below hb11 P v7)⟩
  clear l0 l1 l2 l3 l4 l5 d0 d1 d2 d3 d4 d5 hb11
  go_wp2
  go_ret
  exact ⟨rfl, v7, HFIN.out.1, HFIN.out.2⟩
end Go.Proofs.YtffgpepngcnjeabGreatQ

namespace Go.Proofs.YtffgpepngcnjeabGreatQ
open Go.RowKit
set_option maxRecDepth 100000 in
set_option maxHeartbeats 1000000 in
theorem kInts_same (a1 o1 a2 o2 : Nat) (n c d : Nat) (l : List Int) (w : World) (h1 : Row w a1 o1 l) (h2 : Row w a2 o2 l) (hn : l.length = n) (hm : n ≤ 1000000) :
    Calls Tryz.prog 47 #[.slice (some ⟨a1, o1, none⟩) n c, .slice (some ⟨a2, o2, none⟩) n d] w fun e w' => e = .returned (.bool true) ∧ Below w.heap.size w w' := by
  have HN : Hid (l.length = n) := hn
  have H1 : Hid (Row w a1 o1 l) := h1
  have H2 : Hid (Row w a2 o2 l) := h2
  clear hn h1 h2
  go_enter Tryz.func47, Tryz.ntmps47
  go_wp2
  go_loopw [5] (fun i wr => ∃ k : Nat, k ≤ n ∧ i = .int .i64 k ∧ Below w.heap.size w wr) (fun i _ => n - (intOf i).toNat)
  case atStart => exact ⟨0, Nat.zero_le _, rfl, Below.refl _ _⟩
  case round =>
    obtain ⟨k, hk, rfl, hbl⟩ := hrel
    by_cases hlt : k < n
    · have hkl : k < l.length := by rw [HN.out]; exact hlt
      have c1 := H1.out.grown hbl k hkl
      have c2 := H2.out.grown hbl k hkl
      generalize l.getD k 0 = y at *
      have hkI : (k : Int) < (n : Int) := by omega
      have hk0 : (0 : Int) ≤ (k : Int) := by omega
      have hyy : (y == y) = true := by simp
      go_wp2
      go_quiet (fail)
      go_wp2
      go_roundw
      case rel => exact ⟨k + 1, by omega, by go_num, below_drewN hbl _⟩
      case measure => simp [intOf]; omega
    · have hkI : ¬ (k : Int) < (n : Int) := by omega
      go_wp2
      go_ret
      exact ⟨rfl, hbl⟩
end Go.Proofs.YtffgpepngcnjeabGreatQ

namespace Go.Proofs.YtffgpepngcnjeabGreatQ
open Go.RowKit
set_option maxRecDepth 100000 in
set_option maxHeartbeats 1000000 in
theorem namesG_row (a1 o1 a2 o2 n c d : Nat) (is js : List InD) (w : World) (h1 : InsRow w a1 o1 is) (h2 : InsRow w a2 o2 js) (hn : is.length = n) (hjn : js.length = n) (he : ∀ k, k < n → (is.getD k dIn).id = (js.getD k dIn).id ∧ (is.getD k dIn).pos = (js.getD k dIn).pos) (hm : n ≤ 1000) :
    Calls Tryz.prog 38 #[.slice (some ⟨a1, o1, none⟩) n c, .slice (some ⟨a2, o2, none⟩) n d] w fun e w' => e = .returned (.bool true) ∧ Below w.heap.size w w' := by
  have H1 : Hid (InsRow w a1 o1 is) := h1
  have H2 : Hid (InsRow w a2 o2 js) := h2
  have HN : Hid (is.length = n) := hn
  have HJ : Hid (js.length = n) := hjn
  have HE : Hid (∀ k, k < n → (is.getD k dIn).id = (js.getD k dIn).id ∧ (is.getD k dIn).pos = (js.getD k dIn).pos) := he
  clear h1 h2 hn hjn he
  go_enter Tryz.func38, Tryz.ntmps38
  go_wp2
  go_loopw [5] (fun i wr => ∃ k : Nat, k ≤ n ∧ i = .int .i64 k ∧ Below w.heap.size w wr) (fun i _ => n - (intOf i).toNat)
  case atStart => exact ⟨0, Nat.zero_le _, rfl, Below.refl _ _⟩
  case round =>
    obtain ⟨k, hk, rfl, hbl⟩ := hrel
    by_cases hlt : k < n
    · have r1 := (H1.out k (by rw [HN.out]; exact hlt)).1
      have r2 := (H2.out k (by rw [HJ.out]; exact hlt)).1
      obtain ⟨c1, c2, _⟩ := r1.below hbl (cell_lt r1.c0)
      obtain ⟨c3, c4, _⟩ := r2.below hbl (cell_lt r2.c0)
      obtain ⟨e1, e2⟩ := HE.out k hlt
      rw [← e1] at c3
      rw [← e2] at c4
      clear r1 r2 e1 e2
      generalize (is.getD k dIn).id = ya at *
      generalize (is.getD k dIn).pos = yv at *
      have k1 : (k : Int) < (n : Int) := by omega
      have k0 : (0 : Int) ≤ (k : Int) := by omega
      have gd : (ya != ya) = false := by simp
      go_wp2
      go_quiet (fail)
      go_wp2
      go_roundw
      case rel => exact ⟨k + 1, by omega, by go_num, below_drewN hbl _⟩
      case measure => simp [intOf]; omega
    · go_wp2
      go_ret
      exact ⟨rfl, hbl⟩
theorem namesG_any (ai bi : Option Addr) (n c d : Nat) (is js : List InD) (w : World) (h1 : InsAt w ai is) (h2 : InsAt w bi js) (hn : is.length = n) (hjn : js.length = n) (he : ∀ k, k < n → (is.getD k dIn).id = (js.getD k dIn).id ∧ (is.getD k dIn).pos = (js.getD k dIn).pos) (h0 : 0 < n) (hm : n ≤ 1000) :
    Calls Tryz.prog 38 #[.slice ai n c, .slice bi n d] w fun e w' => e = .returned (.bool true) ∧ Below w.heap.size w w' := by
  rcases h1 with h | ⟨a1, o1, rfl, r1⟩
  · rw [h] at hn; simp at hn; omega
  · rcases h2 with h | ⟨a2, o2, rfl, r2⟩
    · rw [h] at hjn; simp at hjn; omega
    · exact namesG_row a1 o1 a2 o2 n c d is js w r1 r2 hn hjn he hm
theorem keepC4 {w w' : World} {T a b : Nat} {p q : Nat} {x y z u : Value} (hb : Below w.heap.size w w') (h : w.cell? ⟨T, 1, none⟩ = some x ∧ w.cell? ⟨T + 1, 1, none⟩ = some y ∧ w.cell? ⟨a, p, none⟩ = some z ∧ w.cell? ⟨b, q, none⟩ = some u) : w'.cell? ⟨T, 1, none⟩ = some x ∧ w'.cell? ⟨T + 1, 1, none⟩ = some y ∧ w'.cell? ⟨a, p, none⟩ = some z ∧ w'.cell? ⟨b, q, none⟩ = some u :=
  ⟨(hb.cell (p := ⟨T, 1, none⟩) (cell_lt h.1)).trans h.1, (hb.cell (p := ⟨T + 1, 1, none⟩) (cell_lt h.2.1)).trans h.2.1, (hb.cell (p := ⟨a, p, none⟩) (cell_lt h.2.2.1)).trans h.2.2.1, (hb.cell (p := ⟨b, q, none⟩) (cell_lt h.2.2.2)).trans h.2.2.2⟩
set_option maxRecDepth 100000 in
set_option maxHeartbeats 2000000 in
theorem sameTx_any (t : Int) (ai bi : Option Addr) (ni ci di : Nat) (ap bp : Option Addr) (np cp dp : Nat) (is js : List InD) (ys : List (Int × Int)) (w : World) (h1 : InsAt w ai is) (h2 : InsAt w bi js) (hn : is.length = ni) (hjn : js.length = ni) (he : ∀ k, k < ni → (is.getD k dIn).st = (js.getD k dIn).st ∧ (is.getD k dIn).l.length = 5) (ho1 : OutsAt w ap ys) (ho2 : OutsAt w bp ys) (hyn : ys.length = np) (h0 : 0 < ni) (hm : ni ≤ 1000) (hm2 : np ≤ 1000) :
    Calls Tryz.prog 19 #[.agg #[.int .i64 t, .slice ai ni ci, .slice ap np cp], .agg #[.int .i64 t, .slice bi ni di, .slice bp np dp]] w fun e w' => e = .returned (.bool true) ∧ Below w.heap.size w w' := by
  have HN : Hid (is.length = ni) := hn
  have HJ : Hid (js.length = ni) := hjn
  have HY : Hid (ys.length = np) := hyn
  have HE : Hid (∀ k, k < ni → (is.getD k dIn).st = (js.getD k dIn).st ∧ (is.getD k dIn).l.length = 5) := he
  have HNM : Hid (∀ k, k < ni → (is.getD k dIn).id = (js.getD k dIn).id ∧ (is.getD k dIn).pos = (js.getD k dIn).pos) := fun k hk => by
    have := (he k hk).1
    unfold InD.st at this
    injection this with e1 e2
    exact ⟨e1, e2⟩
  have bA : Below w.heap.size w ((w.alloc (.cells #[.int .i64 t, .slice ai ni ci, .slice ap np cp] 35)).alloc (.cells #[.int .i64 t, .slice bi ni di, .slice bp np dp] 35)) := ((Below.refl _ _).alloc (Nat.le_refl _) _).alloc (by simp) _
  have HI : Hid (InsAt ((w.alloc (.cells #[.int .i64 t, .slice ai ni ci, .slice ap np cp] 35)).alloc (.cells #[.int .i64 t, .slice bi ni di, .slice bp np dp] 35)) ai is) := h1.grown bA
  have HI2 : Hid (InsAt ((w.alloc (.cells #[.int .i64 t, .slice ai ni ci, .slice ap np cp] 35)).alloc (.cells #[.int .i64 t, .slice bi ni di, .slice bp np dp] 35)) bi js) := h2.grown bA
  have HO : Hid (OutsAt ((w.alloc (.cells #[.int .i64 t, .slice ai ni ci, .slice ap np cp] 35)).alloc (.cells #[.int .i64 t, .slice bi ni di, .slice bp np dp] 35)) ap ys) := ho1.grown bA
  have HO2 : Hid (OutsAt ((w.alloc (.cells #[.int .i64 t, .slice ai ni ci, .slice ap np cp] 35)).alloc (.cells #[.int .i64 t, .slice bi ni di, .slice bp np dp] 35)) bp ys) := ho2.grown bA
  have HB : Hid (Below w.heap.size w ((w.alloc (.cells #[.int .i64 t, .slice ai ni ci, .slice ap np cp] 35)).alloc (.cells #[.int .i64 t, .slice bi ni di, .slice bp np dp] 35))) := bA
  have HVA : Hid (V3 ((w.alloc (.cells #[.int .i64 t, .slice ai ni ci, .slice ap np cp] 35)).alloc (.cells #[.int .i64 t, .slice bi ni di, .slice bp np dp] 35)) w.heap.size (.int .i64 t) (.slice ai ni ci) (.slice ap np cp)) := (V3.new w _ _ _ 35).grown ((Below.refl _ _).alloc (Nat.le_refl _) _)
  have HVB : Hid (V3 ((w.alloc (.cells #[.int .i64 t, .slice ai ni ci, .slice ap np cp] 35)).alloc (.cells #[.int .i64 t, .slice bi ni di, .slice bp np dp] 35)) (w.heap.size + 1) (.int .i64 t) (.slice bi ni di) (.slice bp np dp)) := by
    have := V3.new (w.alloc (.cells #[.int .i64 t, .slice ai ni ci, .slice ap np cp] 35)) (.int .i64 t) (.slice bi ni di) (.slice bp np dp) 35
    rwa [World.size_alloc] at this
  clear hn hjn hyn he h1 h2 ho1 ho2 bA
  go_enter Tryz.func19, Tryz.ntmps19
  go_upto_region 1 with fail
  generalize (w.alloc (.cells #[.int .i64 t, .slice ai ni ci, .slice ap np cp] 35)).alloc (.cells #[.int .i64 t, .slice bi ni di, .slice bp np dp] 35) = w0 at *
  generalize hT : w.heap.size = T at *
  have HTe : Hid (w.heap.size = T) := hT
  clear hT
  have hTl : T < w0.heap.size := cell_lt HVA.out.c0
  have hTl2 : T + 1 < w0.heap.size := cell_lt HVB.out.c0
  obtain ⟨x0, x1, x2, _⟩ := HVA.out
  obtain ⟨y0, y1, y2, _⟩ := HVB.out
  go_wp2_with fail
  refine (namesG_any ai bi ni ci di is js _ HI.out HI2.out HN.out HJ.out HNM.out h0 hm).mono ?_
  rintro e w1 ⟨rfl, hb1⟩
  have x0' := (hb1.cell (p := ⟨T, 0, none⟩) hTl).trans x0
  have x1' := (hb1.cell (p := ⟨T, 1, none⟩) hTl).trans x1
  have x2' := (hb1.cell (p := ⟨T, 2, none⟩) hTl).trans x2
  have y0' := (hb1.cell (p := ⟨T + 1, 0, none⟩) hTl2).trans y0
  have y1' := (hb1.cell (p := ⟨T + 1, 1, none⟩) hTl2).trans y1
  have y2' := (hb1.cell (p := ⟨T + 1, 2, none⟩) hTl2).trans y2
  have HO1 : Hid (OutsAt w1 ap ys) := HO.out.grown hb1
  have HO12 : Hid (OutsAt w1 bp ys) := HO2.out.grown hb1
  have HB1 : Hid (Below w0.heap.size w0 w1) := hb1
  have hz1 := hb1.size
  clear x0 x1 x2 y0 y1 y2 hb1
  go_wp2_with fail
  refine (kOuts_any ap bp np cp dp ys _ HO1.out HO12.out HY.out (by omega)).mono ?_
  rintro e w2 ⟨rfl, hb2⟩
  have x0 := (hb2.cell (p := ⟨T, 0, none⟩) (by show T < w1.heap.size; omega)).trans x0'
  have x1 := (hb2.cell (p := ⟨T, 1, none⟩) (by show T < w1.heap.size; omega)).trans x1'
  have y0 := (hb2.cell (p := ⟨T + 1, 0, none⟩) (by show T + 1 < w1.heap.size; omega)).trans y0'
  have y1 := (hb2.cell (p := ⟨T + 1, 1, none⟩) (by show T + 1 < w1.heap.size; omega)).trans y1'
  have HB2 : Hid (Below w0.heap.size w0 w2) := below_blk HB1.out hb2
  clear x0' x1' x2' y0' y1' y2' hb2
  have gd : (t != t) = false := by simp
  go_wp2
  go_loopw [7] (fun i wr => ∃ k : Nat, k ≤ ni ∧ i = .int .i64 k ∧ Below w2.heap.size w2 wr) (fun i _ => ni - (intOf i).toNat)
  case atStart => exact ⟨0, Nat.zero_le _, rfl, Below.refl _ _⟩
  case round =>
    obtain ⟨k, hk, rfl, hbl⟩ := hrel
    have hb0 : Below w0.heap.size w0 wr := below_blk HB2.out hbl
    have hbw : Below T w wr := HB.out.trans (hb0.mono (by omega))
    have z1 := (hbl.cell (p := ⟨T, 1, none⟩) (cell_lt x1)).trans x1
    have z2 := (hbl.cell (p := ⟨T + 1, 1, none⟩) (cell_lt y1)).trans y1
    by_cases hlt : k < ni
    · have hkI : (k : Int) < (ni : Int) := by omega
      have hk0 : (0 : Int) ≤ (k : Int) := by omega
      rcases HI.out.grown hb0 with hnil | ⟨ga, oa, rfl, hra⟩
      · have := HN.out; rw [hnil] at this; simp at this; omega
      rcases HI2.out.grown hb0 with hnil | ⟨gb, ob, rfl, hrb⟩
      · have := HJ.out; rw [hnil] at this; simp at this; omega
      obtain ⟨⟨_, _, i2⟩, iok⟩ := hra k (by rw [HN.out]; exact hlt)
      obtain ⟨⟨_, _, j2⟩, jok⟩ := hrb k (by rw [HJ.out]; exact hlt)
      obtain ⟨e1, e2⟩ := HE.out k hlt
      clear hra hrb
      generalize is.getD k dIn = yi at *
      generalize js.getD k dIn = yj at *
      obtain ⟨a0, a1, a2, a3, a4, a5⟩ := yi
      obtain ⟨b0, b1, b2, b3, b4, b5⟩ := yj
      unfold InD.st at e1
      injection e1 with _ _ _ e3 _ e4
      simp only at e3 e4 e2 i2 j2
      subst e3
      subst e4
      have hl3 := iok.len
      simp only at hl3
      rw [e2] at hl3
      subst hl3
      rcases iok.lies with hnil | ⟨q1, o1, hq1, hr1⟩
      · simp only at hnil; rw [hnil] at e2; cases e2
      rcases jok.lies with hnil | ⟨q2, o2, hq2, hr2⟩
      · simp only at hnil; rw [hnil] at e2; cases e2
      simp only at hq1 hq2 hr1 hr2
      subst hq1
      subst hq2
      have bD : Below wr.heap.size wr wr.drew := (Below.refl _ _).drew
      have HR1 : Hid (Row wr.drew q1 o1 a5) := hr1.grown bD
      have HR2 : Hid (Row wr.drew q2 o2 a5) := hr2.grown bD
      have HL5 : Hid (a5.length = 5) := e2
      have HKX : Hid (wr.drew.cell? ⟨T, 1, none⟩ = some (.slice (some ⟨ga, oa, none⟩) ni ci) ∧ wr.drew.cell? ⟨T + 1, 1, none⟩ = some (.slice (some ⟨gb, ob, none⟩) ni di) ∧ wr.drew.cell? ⟨ga, oa + k * 3 + 2, none⟩ = some (.slice (some ⟨q1, o1, none⟩) 5 a4) ∧ wr.drew.cell? ⟨gb, ob + k * 3 + 2, none⟩ = some (.slice (some ⟨q2, o2, none⟩) 5 b4)) := ⟨z1, z2, i2, j2⟩
      have HBd : Hid (Below w2.heap.size w2 wr.drew) := below_blk hbl bD
      clear bD iok jok hr1 hr2 e2
      go_upto_region 8 with fail
      go_region_held3 (fun w' => w'.cell? ⟨T, 1, none⟩ = some (.slice (some ⟨ga, oa, none⟩) ni ci) ∧ w'.cell? ⟨T + 1, 1, none⟩ = some (.slice (some ⟨gb, ob, none⟩) ni di) ∧ w'.cell? ⟨ga, oa + k * 3 + 2, none⟩ = some (.slice (some ⟨q1, o1, none⟩) 5 a4) ∧ w'.cell? ⟨gb, ob + k * 3 + 2, none⟩ = some (.slice (some ⟨q2, o2, none⟩) 5 b4)) (first | go_keep | with_reducible exact HKX.out | exact keepC4 hb3 HKX.out) ((go_at_call 47; (with_reducible refine (kInts_same q1 o1 q2 o2 5 a4 b4 a5 wr.drew HR1.out HR2.out HL5.out (by omega)).mono ?_); rintro e w3 ⟨rfl, hb3⟩))
      have hb03 := below_blk HBd.out hb3
      go_wp2
      go_roundw
      case rel => exact ⟨k + 1, by omega, by go_num, hb03⟩
      case measure => simp [intOf]; omega
    · go_wp2
      go_ret
      exact ⟨rfl, by rw [HTe.out]; exact hbw⟩
end Go.Proofs.YtffgpepngcnjeabGreatQ

namespace Go.Proofs.YtffgpepngcnjeabGreatQ
open Go.RowKit
set_option maxRecDepth 100000 in
set_option maxHeartbeats 400000 in
theorem pOpen_yes (id : Int) (ao : Option Addr) (n c : Nat) (l : List Int) (w : World) (hm : Mk.isM id = true) (hr : IntsAt w ao l) (hn : l.length = n) (hs : isS l = true) :
    Calls Tryz.prog 41 #[.int .i64 id, .slice ao n c] w fun e w' => e = .returned (.tuple #[.int .i64 (Mk.opn id l), .int .i64 0]) ∧ Below w.heap.size w w' := by
  go_enter Tryz.func41, Tryz.ntmps41
  go_wp2_with fail
  refine (open_yes id ao n c l _ hm hr hn hs).mono ?_
  rintro e w1 ⟨rfl, hb⟩
  go_wp2
  go_ret2
  exact ⟨rfl, hb⟩
theorem keepD5 {w w' : World} {X a : Nat} {p : Nat} {x y z : Value} (hb : Below w.heap.size w w') (h : w.cell? ⟨X, 4, none⟩ = some x ∧ w.cell? ⟨a, p, none⟩ = some y ∧ w.cell? ⟨a, p + 1, none⟩ = some z) : w'.cell? ⟨X, 4, none⟩ = some x ∧ w'.cell? ⟨a, p, none⟩ = some y ∧ w'.cell? ⟨a, p + 1, none⟩ = some z :=
  ⟨(hb.cell (p := ⟨X, 4, none⟩) (cell_lt h.1)).trans h.1, (hb.cell (p := ⟨a, p, none⟩) (cell_lt h.2.1)).trans h.2.1, (hb.cell (p := ⟨a, p + 1, none⟩) (cell_lt h.2.2)).trans h.2.2⟩
set_option maxRecDepth 100000 in
set_option maxHeartbeats 4000000 in
theorem opens_any (s n0 t ch : Int) (ai : Option Addr) (n ci : Nat) (ap : Option Addr) (m cp : Nat) (ak : Option Addr) (ck : Nat) (bi : Option Addr) (di : Nat) (bp : Option Addr) (dp : Nat) (cs : List CoinD) (ys : List (Int × Int)) (js : List InD) (id : Int) (w : World)
    (h1 : InsAt w ai (cs.map fun x => (⟨x.id, x.pos, none, 0, 0, []⟩ : InD))) (hk : RecAt kC w ak cs) (ho1 : OutsAt w ap ys) (h2 : InsAt w bi js) (ho2 : OutsAt w bp ys) (hn : cs.length = n) (hm : ys.length = m) (he : js.map InD.st = cs.map (sgI0 s id)) (hid : idZ t js ys = id) (hkk : ∀ x ∈ cs, Mk.isK s x.br x.ix = true) (h0 : 0 < n) (hn10 : n ≤ 1000) (hm10 : m ≤ 1000) :
    Calls Tryz.prog 17 #[.int .i64 s, .agg #[.int .i64 n0, .int .i64 t, .slice ai n ci, .slice ap m cp, .slice ak n ck, .int .i64 ch], .agg #[.int .i64 t, .slice bi n di, .slice bp m dp]] w fun e w' => e = .returned (.bool true) ∧ Below w.heap.size w w' := by
  have HN : Hid (cs.length = n) := hn
  have HM : Hid (ys.length = m) := hm
  have hjl := congrArg List.length he
  rw [List.length_map, List.length_map, hn] at hjl
  have HJ : Hid (js.length = n) := hjl
  have HRL : Hid ((cs.map fun x => (⟨x.id, x.pos, none, 0, 0, []⟩ : InD)).length = n) := by show _ = _; rw [List.length_map]; exact hn
  have hgt : ∀ k, k < n → (js.getD k dIn).st = sgI0 s id (cs.getD k dN) := fun k hk => by
    have e := congrArg (fun l : List InD => l.getD k dIn) he
    have e1 : (js.map InD.st).getD k dIn = (js.getD k dIn).st := by
      have : k < js.length := by omega
      simp [List.getD, this]
    have e2 : (cs.map (sgI0 s id)).getD k dIn = sgI0 s id (cs.getD k dN) := by
      have : k < cs.length := by omega
      simp [List.getD, this]
    rw [← e1, ← e2]
    exact e
  have HGT : Hid (∀ k, k < n → (js.getD k dIn).st = sgI0 s id (cs.getD k dN)) := hgt
  have HNM : Hid (∀ k, k < n → ((cs.map fun x => (⟨x.id, x.pos, none, 0, 0, []⟩ : InD)).getD k dIn).id = (js.getD k dIn).id ∧ ((cs.map fun x => (⟨x.id, x.pos, none, 0, 0, []⟩ : InD)).getD k dIn).pos = (js.getD k dIn).pos) := fun k hk => by
    have e := hgt k hk
    have e2 : (cs.map fun x => (⟨x.id, x.pos, none, 0, 0, []⟩ : InD)).getD k dIn = ⟨(cs.getD k dN).id, (cs.getD k dN).pos, none, 0, 0, []⟩ := by
      have : k < cs.length := by omega
      simp [List.getD, this]
    rw [e2]
    unfold InD.st sgI0 at e
    injection e with e3 e4
    exact ⟨e3.symm, e4.symm⟩
  have HKK : Hid (∀ x ∈ cs, Mk.isK s x.br x.ix = true) := hkk
  have HIM : Hid (Mk.isM id = true) := by rw [← hid]; exact idZ_bd _ _ _
  have HID : Hid (idZ t js ys = id) := hid
  have bA : Below w.heap.size w ((w.alloc (.cells #[.int .i64 n0, .int .i64 t, .slice ai n ci, .slice ap m cp, .slice ak n ck, .int .i64 ch] 38)).alloc (.cells #[.int .i64 t, .slice bi n di, .slice bp m dp] 35)) := ((Below.refl _ _).alloc (Nat.le_refl _) _).alloc (by simp) _
  have HI : Hid (InsAt ((w.alloc (.cells #[.int .i64 n0, .int .i64 t, .slice ai n ci, .slice ap m cp, .slice ak n ck, .int .i64 ch] 38)).alloc (.cells #[.int .i64 t, .slice bi n di, .slice bp m dp] 35)) ai (cs.map fun x => (⟨x.id, x.pos, none, 0, 0, []⟩ : InD))) := h1.grown bA
  have HK : Hid (RecAt kC ((w.alloc (.cells #[.int .i64 n0, .int .i64 t, .slice ai n ci, .slice ap m cp, .slice ak n ck, .int .i64 ch] 38)).alloc (.cells #[.int .i64 t, .slice bi n di, .slice bp m dp] 35)) ak cs) := hk.grown bA
  have HO : Hid (OutsAt ((w.alloc (.cells #[.int .i64 n0, .int .i64 t, .slice ai n ci, .slice ap m cp, .slice ak n ck, .int .i64 ch] 38)).alloc (.cells #[.int .i64 t, .slice bi n di, .slice bp m dp] 35)) ap ys) := ho1.grown bA
  have HI2 : Hid (InsAt ((w.alloc (.cells #[.int .i64 n0, .int .i64 t, .slice ai n ci, .slice ap m cp, .slice ak n ck, .int .i64 ch] 38)).alloc (.cells #[.int .i64 t, .slice bi n di, .slice bp m dp] 35)) bi js) := h2.grown bA
  have HO2 : Hid (OutsAt ((w.alloc (.cells #[.int .i64 n0, .int .i64 t, .slice ai n ci, .slice ap m cp, .slice ak n ck, .int .i64 ch] 38)).alloc (.cells #[.int .i64 t, .slice bi n di, .slice bp m dp] 35)) bp ys) := ho2.grown bA
  have HB : Hid (Below w.heap.size w ((w.alloc (.cells #[.int .i64 n0, .int .i64 t, .slice ai n ci, .slice ap m cp, .slice ak n ck, .int .i64 ch] 38)).alloc (.cells #[.int .i64 t, .slice bi n di, .slice bp m dp] 35))) := bA
  have HVA : Hid (VB ((w.alloc (.cells #[.int .i64 n0, .int .i64 t, .slice ai n ci, .slice ap m cp, .slice ak n ck, .int .i64 ch] 38)).alloc (.cells #[.int .i64 t, .slice bi n di, .slice bp m dp] 35)) w.heap.size (.int .i64 n0) (.int .i64 t) (.slice ai n ci) (.slice ap m cp) (.slice ak n ck) (.int .i64 ch)) := (VB.new w _ _ _ _ _ _ 38).grown ((Below.refl _ _).alloc (Nat.le_refl _) _)
  have HVB : Hid (V3 ((w.alloc (.cells #[.int .i64 n0, .int .i64 t, .slice ai n ci, .slice ap m cp, .slice ak n ck, .int .i64 ch] 38)).alloc (.cells #[.int .i64 t, .slice bi n di, .slice bp m dp] 35)) (w.heap.size + 1) (.int .i64 t) (.slice bi n di) (.slice bp m dp)) := by
    have := V3.new (w.alloc (.cells #[.int .i64 n0, .int .i64 t, .slice ai n ci, .slice ap m cp, .slice ak n ck, .int .i64 ch] 38)) (.int .i64 t) (.slice bi n di) (.slice bp m dp) 35
    rwa [World.size_alloc] at this
  clear hn hm hjl he hid hkk h1 hk ho1 h2 ho2 bA hgt
  go_enter Tryz.func17, Tryz.ntmps17
  go_upto_region 1 with fail
  generalize (w.alloc (.cells #[.int .i64 n0, .int .i64 t, .slice ai n ci, .slice ap m cp, .slice ak n ck, .int .i64 ch] 38)).alloc (.cells #[.int .i64 t, .slice bi n di, .slice bp m dp] 35) = w0 at *
  generalize hT : w.heap.size = T at *
  have HTe : Hid (w.heap.size = T) := hT
  clear hT
  have hTl : T < w0.heap.size := cell_lt HVA.out.c0
  have hTl2 : T + 1 < w0.heap.size := cell_lt HVB.out.c0
  obtain ⟨x0, x1, x2, x3, x4, x5, _⟩ := HVA.out
  obtain ⟨y0, y1, y2, _⟩ := HVB.out
  go_wp2_with fail
  refine (namesG_any ai bi n ci di _ js _ HI.out HI2.out HRL.out HJ.out HNM.out h0 hn10).mono ?_
  rintro e w1 ⟨rfl, hb1⟩
  have HB1 : Hid (Below w0.heap.size w0 w1) := hb1
  have HVA1 : Hid (VB w1 T (.int .i64 n0) (.int .i64 t) (.slice ai n ci) (.slice ap m cp) (.slice ak n ck) (.int .i64 ch)) := HVA.out.grown hb1
  have HVB1 : Hid (V3 w1 (T + 1) (.int .i64 t) (.slice bi n di) (.slice bp m dp)) := HVB.out.grown hb1
  have HO1 : Hid (OutsAt w1 ap ys) := HO.out.grown hb1
  have HO12 : Hid (OutsAt w1 bp ys) := HO2.out.grown hb1
  have hz1 := hb1.size
  clear x0 x1 x2 x3 x4 x5 y0 y1 y2 hb1 HVA HVB
  obtain ⟨x0, x1, x2, x3, x4, x5, _⟩ := HVA1.out
  obtain ⟨y0, y1, y2, _⟩ := HVB1.out
  go_wp2_with fail
  refine (kOuts_any ap bp m cp dp ys _ HO1.out HO12.out HM.out (by omega)).mono ?_
  rintro e w2 ⟨rfl, hb2⟩
  have HB2 : Hid (Below w0.heap.size w0 w2) := below_blk HB1.out hb2
  have HVA2 : Hid (VB w2 T (.int .i64 n0) (.int .i64 t) (.slice ai n ci) (.slice ap m cp) (.slice ak n ck) (.int .i64 ch)) := HVA1.out.grown hb2
  have HVB2 : Hid (V3 w2 (T + 1) (.int .i64 t) (.slice bi n di) (.slice bp m dp)) := HVB1.out.grown hb2
  have HI2' : Hid (InsAt w2 bi js) := HI2.out.grown HB2.out
  have HO2' : Hid (OutsAt w2 bp ys) := HO2.out.grown HB2.out
  clear x0 x1 x2 x3 x4 x5 y0 y1 y2 hb2 HVA1 HVB1 HO1 HO12
  obtain ⟨x0, x1, x2, x3, x4, x5, _⟩ := HVA2.out
  obtain ⟨y0, y1, y2, _⟩ := HVB2.out
  have gd : (t != t) = false := by simp
  have gn : ((n : Int) == 0) = false := by simp; omega
  have gm : ((n : Int) != (n : Int)) = false := by simp
  go_wp2_with fail
  refine (pId_any t bi n di bp m dp js ys _ HI2'.out HJ.out HO2'.out HM.out).mono ?_
  rw [HID.out]
  rintro e w3 ⟨rfl, hb3⟩
  have HB3 : Hid (Below w0.heap.size w0 w3) := below_blk HB2.out hb3
  have HVA3 : Hid (VB w3 T (.int .i64 n0) (.int .i64 t) (.slice ai n ci) (.slice ap m cp) (.slice ak n ck) (.int .i64 ch)) := HVA2.out.grown hb3
  have HVB3 : Hid (V3 w3 (T + 1) (.int .i64 t) (.slice bi n di) (.slice bp m dp)) := HVB2.out.grown hb3
  clear x0 x1 x2 x3 x4 x5 y0 y1 y2 hb3 HVA2 HVB2 HI2' HO2'
  go_wp2
  go_loopw [10] (fun i wr => ∃ k : Nat, k ≤ n ∧ i = .int .i64 k ∧ Below w3.heap.size w3 wr) (fun i _ => n - (intOf i).toNat)
  case atStart => exact ⟨0, Nat.zero_le _, rfl, Below.refl _ _⟩
  case round =>
    obtain ⟨k, hk, rfl, hbl⟩ := hrel
    have hb0 : Below w0.heap.size w0 wr := below_blk HB3.out hbl
    have hbw : Below T w wr := HB.out.trans (hb0.mono (by omega))
    have x4 := (HVA3.out.grown hbl).c4
    have y1 := (HVB3.out.grown hbl).c1
    by_cases hlt : k < n
    · have hkI : (k : Int) < (n : Int) := by omega
      have hk0 : (0 : Int) ≤ (k : Int) := by omega
      rcases HI2.out.grown hb0 with hnil | ⟨gb, ob, rfl, hrb⟩
      · have := HJ.out; rw [hnil] at this; simp at this; omega
      rcases HK.out.grown hb0 with hnil | ⟨gk, ok, rfl, hrk⟩
      · have := HN.out; rw [hnil] at this; simp at this; omega
      obtain ⟨⟨_, _, j2⟩, jok⟩ := hrb k (by rw [HJ.out]; exact hlt)
      have k0c : wr.cell? ⟨gk, ok + k * 2, none⟩ = some (.int .i64 (cs.getD k dN).br) := rcell kC2 dN hrk k (by rw [HN.out]; exact hlt) 0 (by omega)
      have k1c : wr.cell? ⟨gk, ok + k * 2 + 1, none⟩ = some (.int .i64 (cs.getD k dN).ix) := rcell kC2 dN hrk k (by rw [HN.out]; exact hlt) 1 (by omega)
      have e1 := HGT.out k hlt
      have hkey := HKK.out _ (getD_mem cs dN k (by rw [HN.out]; exact hlt))
      clear hrb hrk
      generalize cs.getD k dN = yc at *
      generalize js.getD k dIn = yj at *
      obtain ⟨b0, b1, b2, b3, b4, b5⟩ := yj
      unfold InD.st sgI0 at e1
      injection e1 with _ _ _ e3 _ e4
      simp only at e3 e4 j2
      subst e3
      generalize hbr : yc.br = br at *
      generalize hix : yc.ix = ix at *
      clear hbr hix
      have HSL : Hid (IntsAt wr b2 b5) := jok.lies
      have HSN : Hid (b5.length = 5) := by show _ = _; rw [e4]; exact Mk.sealL_len _ _ _ _
      have HSS : Hid (isS b5 = true) := by show _ = _; rw [e4]; exact seal_isS _ _ _ _
      have HOP : Hid (Mk.opn id b5 = Mk.adr s br ix) := by show _ = _; rw [e4]; exact Mk.opn_seal _ _ _ _ _ rfl
      have HKE : Hid (Mk.isK s br ix = true) := hkey
      clear jok e4 hkey
      go_wp2_with fail
      refine (pOpen_yes id b2 5 b4 b5 _ HIM.out HSL.out HSN.out HSS.out).mono ?_
      rw [HOP.out]
      rintro e w4 ⟨rfl, hb4⟩
      have hb34 : Below w3.heap.size w3 w4 := below_blk hbl hb4
      have bD : Below w4.heap.size w4 w4.drew := (Below.refl _ _).drew
      have k0' := (hb4.cell (p := ⟨gk, ok + k * 2, none⟩) (cell_lt k0c)).trans k0c
      have k1' := (hb4.cell (p := ⟨gk, ok + k * 2 + 1, none⟩) (cell_lt k1c)).trans k1c
      have x4' := (hb4.cell (p := ⟨T, 4, none⟩) (cell_lt x4)).trans x4
      have HKX : Hid (w4.drew.cell? ⟨T, 4, none⟩ = some (.slice (some ⟨gk, ok, none⟩) n ck) ∧ w4.drew.cell? ⟨gk, ok + k * 2, none⟩ = some (.int .i64 br) ∧ w4.drew.cell? ⟨gk, ok + k * 2 + 1, none⟩ = some (.int .i64 ix)) := ⟨x4', k0', k1'⟩
      have HBd : Hid (Below w3.heap.size w3 w4.drew) := below_blk hb34 bD
      clear bD k0c k1c x4 y1 j2 hb4
      go_upto_region 10 with fail
      go_region_held3 (fun w' => w'.cell? ⟨T, 4, none⟩ = some (.slice (some ⟨gk, ok, none⟩) n ck) ∧ w'.cell? ⟨gk, ok + k * 2, none⟩ = some (.int .i64 br) ∧ w'.cell? ⟨gk, ok + k * 2 + 1, none⟩ = some (.int .i64 ix)) (first | go_keep | with_reducible exact HKX.out | exact keepD5 hb5 HKX.out) ((go_at_call 32; (with_reducible refine (pAddress_yes s br ix w4.drew HKE.out).mono ?_); rintro e w5 ⟨rfl, hb5⟩))
      have hb05 := below_blk HBd.out hb5
      have ga : (Mk.adr s br ix != Mk.adr s br ix) = false := by simp
      go_wp2
      go_roundw
      case rel => exact ⟨k + 1, by omega, by go_num, hb05⟩
      case measure => simp [intOf]; omega
    · go_wp2
      go_ret
      exact ⟨rfl, by rw [HTe.out]; exact hbw⟩
end Go.Proofs.YtffgpepngcnjeabGreatQ

namespace Go.Proofs.YtffgpepngcnjeabGreatQ
open Go.RowKit
theorem used_addKey (ks : List (Int × Int)) (x : CoinD) (b i : Int) : usedB (addKey ks x) (b, i) = (usedB ks (b, i) || (x.br == b && x.ix == i)) := by
  unfold addKey
  split
  · rename_i h
    cases hx : (x.br == b && x.ix == i)
    · simp
    · rw [Bool.and_eq_true, beq_iff_eq, beq_iff_eq] at hx
      obtain ⟨rfl, rfl⟩ := hx
      rw [h]; rfl
  · unfold usedB; rw [List.any_append]; simp
theorem used_addKeys : ∀ (cs : List CoinD) (ks : List (Int × Int)) (b i : Int), usedB (addKeysZ ks cs) (b, i) = (usedB ks (b, i) || cs.any fun x => x.br == b && x.ix == i)
  | [], ks, b, i => by simp [addKeysZ]
  | x :: r, ks, b, i => by
    have e : addKeysZ ks (x :: r) = addKeysZ (addKey ks x) r := rfl
    rw [e, used_addKeys r, used_addKey, List.any_cons, Bool.or_assoc]
def DeedD.sgn (a : DeedD) (y : TxD) : DeedD := { a with sg := true, t2 := y.t, ti := y.ai, tn := y.n, tc := y.c, tp := y.ap, tm := y.m, td := y.d, is := y.ins }
def sgnD (ms : List DeedD) (n : Nat) (y : TxD) : List DeedD := ms.set n ((ms.getD n dDD).sgn y)
def onB (n : Int) (t : BK) : BK := if t.1 = n then (t.1, t.2.1, true, t.2.2.2) else t
theorem sgnD_len (ms : List DeedD) (n : Nat) (y : TxD) : (sgnD ms n y).length = ms.length := by simp [sgnD]
theorem sgnD_map (ms : List DeedD) (n : Nat) (y : TxD) (hnum : ∀ i, i < ms.length → (ms.getD i dDD).num = (i : Nat)) : sgnD ms n y = ms.map fun a : DeedD => if a.num = ((n : Nat) : Int) then a.sgn y else a := by
  apply List.ext_getElem
  · simp [sgnD]
  · intro i h1 h2
    have hi : i < ms.length := by simpa [sgnD] using h1
    have e : ms.getD i dDD = ms[i] := by simp [List.getD, hi]
    have hnn := hnum i hi
    rw [e] at hnn
    simp only [sgnD, List.getElem_set, List.getElem_map]
    by_cases h : n = i
    · subst h
      rw [if_pos rfl, if_pos hnn, e]
    · rw [if_neg h, if_neg (by rw [hnn]; omega)]
theorem sgnD_live (ms : List DeedD) (n : Int) (y : TxD) : ((ms.map fun a => if a.num = n then a.sgn y else a).filter DeedD.lv).map DeedD.b = ((ms.filter DeedD.lv).map DeedD.b).map (onB n) := by
  induction ms with
  | nil => rfl
  | cons a r ih =>
    have hl : (if a.num = n then a.sgn y else a).lv = a.lv := by split <;> rfl
    have hk : (if a.num = n then a.sgn y else a).b = onB n a.b := by
      unfold onB
      by_cases h : a.num = n
      · rw [if_pos h, if_pos (show a.b.1 = n from h)]; rfl
      · rw [if_neg h, if_neg (show ¬ a.b.1 = n from h)]
    simp only [List.map_cons, List.filter_cons, hl]
    split
    · simp only [List.map_cons, ih, hk]
    · exact ih
theorem onP_live (ps : List PayD) (n : Int) : (ps.map fun p => if p.num = n then p.on else p).map PayD.b = (ps.map PayD.b).map (onB n) := by
  rw [List.map_map, List.map_map]
  refine List.map_congr_left (fun p _ => ?_)
  show (if p.num = n then p.on else p).b = onB n p.b
  unfold onB
  by_cases h : p.num = n
  · rw [if_pos h, if_pos (show p.b.1 = n from h)]; rfl
  · rw [if_neg h, if_neg (show ¬ p.b.1 = n from h)]
theorem any_set_or {α : Type} (p : α → Bool) (d x : α) : ∀ (l : List α) (n : Nat), n < l.length → (p (l.getD n d) = true → p x = true) → (l.set n x).any p = (l.any p || p x)
  | [], n, hn, _ => absurd hn (Nat.not_lt_zero _)
  | y :: r, 0, _, h => by
    have h' : p y = true → p x = true := h
    simp only [List.set_cons_zero, List.any_cons]
    cases hy : p y <;> cases hx : p x <;> simp_all
  | y :: r, n + 1, hn, h => by
    have := any_set_or p d x r n (by simpa using hn) (by simpa using h)
    simp only [List.set_cons_succ, List.any_cons, this, Bool.or_assoc]
variable {s : Int} {ps : List PayD} {ks : List (Int × Int)} {ms : List DeedD}
/-- a live payment on both sides -/
theorem LkB.at (h : LkB s ps ks ms) {p : PayD} (hp : p ∈ ps) {n : Nat} (hn : p.num = (n : Nat)) : n < ms.length ∧ (ms.getD n dDD).lv = true ∧ p.b = (ms.getD n dDD).b := by
  have h1 : p.b ∈ (ms.filter DeedD.lv).map DeedD.b := by rw [← h.live]; exact List.mem_map.2 ⟨p, hp, rfl⟩
  obtain ⟨a, ha, hk⟩ := List.mem_map.1 h1
  obtain ⟨ha1, ha2⟩ := List.mem_filter.1 ha
  obtain ⟨i, hi, e⟩ := List.getElem_of_mem ha1
  have e2 : ms.getD i dDD = a := by simp [List.getD, hi, e]
  have e3 := h.num i hi
  rw [e2] at e3
  have e4 : a.num = p.num := congrArg (fun t : BK => t.1) hk
  have e5 : i = n := by omega
  subst e5
  rw [e2]
  exact ⟨hi, ha2, hk.symm⟩
/-- their numbers grow -/
theorem LkB.nums (h : LkB s ps ks ms) : (ps.map PayD.num).Pairwise (· < ·) := by
  have e : ps.map PayD.num = (ms.filter DeedD.lv).map DeedD.num := by
    have h1 := congrArg (List.map (fun t : BK => t.1)) h.live
    rw [List.map_map, List.map_map] at h1
    exact h1
  rw [e, List.pairwise_map]
  refine List.Pairwise.sublist List.filter_sublist ?_
  rw [List.pairwise_iff_getElem]
  intro i j hi hj hij
  have h1 := h.num i hi
  have h2 := h.num j hj
  have e1 : ms.getD i dDD = ms[i] := by simp [List.getD, hi]
  have e2 : ms.getD j dDD = ms[j] := by simp [List.getD, hj]
  rw [e1] at h1
  rw [e2] at h2
  omega
theorem LkB.setP (h : LkB s ps ks ms) {j : Nat} {n : Int} (hj : j < ps.length) (hn : (ps.getD j dP).num = n) : ps.set j (ps.getD j dP).on = ps.map fun p : PayD => if p.num = n then p.on else p := by
  have hp := h.nums
  rw [List.pairwise_map, List.pairwise_iff_getElem] at hp
  have ej : ps.getD j dP = ps[j] := by simp [List.getD, hj]
  rw [ej] at hn ⊢
  apply List.ext_getElem
  · simp
  · intro i h1 h2
    have hi : i < ps.length := by simpa using h1
    simp only [List.getElem_set, List.getElem_map]
    by_cases e : j = i
    · subst e
      rw [if_pos rfl, if_pos hn]
    · rw [if_neg e, if_neg (fun e2 => ?_)]
      rcases Nat.lt_or_gt_of_ne e with e3 | e3
      · have := hp j i hj hi e3; omega
      · have := hp i j hi hj e3; omega
/-- behind a signature -/
theorem LkB.sign (h : LkB s ps ks ms) {n j : Nat} (hn : n < ms.length) (hj : j < ps.length) (hjn : (ps.getD j dP).num = (n : Nat)) (y : TxD) (hy1 : y.t = (ms.getD n dDD).tag) (hy2 : y.ins.map InD.st = (ms.getD n dDD).cs.map (sgI0 s (ms.getD n dDD).id)) : LkB s (ps.set j (ps.getD j dP).on) (addKeysZ ks (ms.getD n dDD).cs) (sgnD ms n y) := by
  rw [h.setP hj hjn]
  refine ⟨?_, fun i hi => ?_, fun b i => ?_, fun q hq => ?_, fun d hd e => ?_⟩
  · rw [onP_live, h.live, sgnD_map ms n y h.num, sgnD_live]
  · rw [sgnD_len] at hi
    rw [sgnD_map ms n y h.num]
    have e : ms.getD i dDD = ms[i] := by simp [List.getD, hi]
    have hnn := h.num i hi
    rw [e] at hnn
    simp only [List.getD, List.getElem?_map, List.getElem?_eq_getElem hi, Option.map_some, Option.getD_some]
    split
    · exact hnn
    · exact hnn
  · rw [used_addKeys, h.used]
    unfold sealD sgnD
    rw [any_set_or (fun a : DeedD => a.cs.any fun x => a.sg && (x.br == b && x.ix == i)) dDD _ ms n hn (fun h9 => ?_)]
    · congr 1
    · show ((ms.getD n dDD).cs.any fun x => true && (x.br == b && x.ix == i)) = true
      rw [List.any_eq_true] at h9 ⊢
      obtain ⟨x, hx, hy⟩ := h9
      refine ⟨x, hx, ?_⟩
      rw [Bool.and_eq_true] at hy
      rw [hy.2]
      rfl
  · obtain ⟨p, hp, rfl⟩ := List.mem_map.1 hq
    split
    · exact h.py p hp
    · exact h.py p hp
  · have hd2 : d ∈ ms ∨ d = (ms.getD n dDD).sgn y := List.mem_or_eq_of_mem_set hd
    rcases hd2 with hd2 | hd2
    · exact h.sd d hd2 e
    · subst hd2
      exact ⟨hy1, hy2⟩
/-- which payment a number names -/
theorem LkB.find (h : LkB s ps ks ms) (n : Int) : (liveD ms n = false ∧ pfindZ ps n < 0) ∨ ∃ k j : Nat, n = (k : Int) ∧ liveD ms n = true ∧ k < ms.length ∧ (ms.getD k dDD).lv = true ∧ pfindZ ps n = (j : Int) ∧ j < ps.length ∧ (ps.getD j dP).num = (k : Nat) ∧ (ps.getD j dP).b = (ms.getD k dDD).b := by
  rcases pfind_spec ps n with ⟨h1, h2⟩ | ⟨j, h1, h2, h3⟩
  · refine Or.inl ⟨?_, by rw [h1]; decide⟩
    cases hl : liveD ms n
    · rfl
    · exfalso
      have := (not_congr (h.alive n)).2 (by rw [hl]; simp)
      rw [left_same] at this
      exact this h2
  · have hm : ps.getD j dP ∈ ps := getD_mem ps dP j h1
    have hal : liveD ms n = true := by
      cases hl : liveD ms n
      · exfalso
        have := (h.alive n).2 hl
        rw [left_same] at this
        exact this ⟨_, hm, h3⟩
      · rfl
    unfold liveD at hal
    rw [Bool.and_eq_true, decide_eq_true_iff] at hal
    obtain ⟨k, hk⟩ : ∃ k : Nat, n = (k : Int) := ⟨n.toNat, by omega⟩
    subst hk
    obtain ⟨g1, g2, g3⟩ := h.at hm h3
    refine Or.inr ⟨k, j, rfl, ?_, g1, g2, h2, h1, h3, g3⟩
    unfold liveD
    rw [Bool.and_eq_true, decide_eq_true_iff]
    exact hal
end Go.Proofs.YtffgpepngcnjeabGreatQ

namespace Go.Proofs.YtffgpepngcnjeabGreatQ
open Go.RowKit
theorem sg_err {N : Nat → Prop} {b o base : Nat} {vl vs : Value} {md nx : Int} {ps : List PayD} {ks : List (Int × Int)} {xs : List Cel} {s n x : Int} {v0 v1 v2 : Value} {er : Int} {w w' : World} (hz : signZ xs ps ks n = .inl x) (h : SignOk N b o base vl vs md nx ps ks xs s n v0 v1 v2 er w w') : er = x ∧ v0 = .int .i64 0 ∧ v1 = .slice none 0 0 ∧ v2 = .slice none 0 0 ∧ Below w.heap.size w w' := by
  rcases h with ⟨y, h1, h2, h3, h4, h5, h6⟩ | ⟨j, L, h1, _⟩
  · rw [hz] at h1
    injection h1 with h1
    exact ⟨by rw [h2, h1], h3, h4, h5, h6⟩
  · rw [hz] at h1; cases h1
/-- what the walk keeps: the scene, the request, the payment as it was told -/
structure AcI (K : Nat → Prop) (S P X : Nat) (s : Int) (g : Nat) (vi : Value) (ac : Option Addr) (cc : Nat) (kp : List CoinD) (gq : Nat) (ys : List (Int × Int)) (n0 t ch : Int) (v2 v3 v4 : Value) (w0 w : World) : Prop where
  sn : Sn S P s g vi ac cc kp w
  oq : OutsAt w (some ⟨gq, 0, none⟩) ys
  vx : VB w X (.int .i64 n0) (.int .i64 t) v2 v3 v4 (.int .i64 ch)
  hb : Below P w0 w
  hP : P < w.heap.size
  kS : K S
  ka : ∀ x, ac = some x → K x.block
  kq : K gq
  kX : K X
variable {K : Nat → Prop} {S P X : Nat} {s : Int} {g : Nat} {vi : Value} {ac : Option Addr} {cc : Nat} {kp : List CoinD} {gq : Nat} {ys : List (Int × Int)} {n0 t ch : Int} {v2 v3 v4 : Value} {w0 w w' : World}
theorem AcI.fr (u : AcI K S P X s g vi ac cc kp gq ys n0 t ch v2 v3 v4 w0 w) {E : Nat → Prop} (hf : Fr E w w') (hE : ∀ k, K k → ¬ E k) (hP : ∀ k, E k → P ≤ k) : AcI K S P X s g vi ac cc kp gq ys n0 t ch v2 v3 v4 w0 w' :=
  ⟨u.sn.fr hf (hE _ u.kS) (fun x hx => hE _ (u.ka x hx)), outsAt_fr hf u.oq (fun _ x hx => by injection hx with hx; subst hx; exact hE _ u.kq), u.vx.fr hf (hE _ u.kX), u.hb.trans (hf.toBelow P (by have := u.hP; omega) hP), Nat.lt_of_lt_of_le u.hP hf.size, u.kS, u.ka, u.kq, u.kX⟩
theorem AcI.grown (u : AcI K S P X s g vi ac cc kp gq ys n0 t ch v2 v3 v4 w0 w) (hb : Below w.heap.size w w') : AcI K S P X s g vi ac cc kp gq ys n0 t ch v2 v3 v4 w0 w' :=
  u.fr (Fr.of_below hb (fun _ => False)) (fun _ _ h => h) (fun _ h => h.elim)
/-- the lists of the payment as it was told -/
structure AcX (K : Nat → Prop) (x : TxD) (ak : Option Addr) (L : List CoinD) (w : World) : Prop where
  tx : TxOk K w x
  rk : RecAt kC w ak L
  nk : L ≠ [] → ∀ a, ak = some a → K a.block
theorem AcX.fr {x : TxD} {ak : Option Addr} {L : List CoinD} (u : AcX K x ak L w) {E : Nat → Prop} (hf : Fr E w w') (hE : ∀ k, K k → ¬ E k) : AcX K x ak L w' :=
  ⟨u.tx.fr hf hE, rec_fr hf u.rk (fun e a ha => hE _ (u.nk e a ha)), u.nk⟩
theorem AcX.grown {x : TxD} {ak : Option Addr} {L : List CoinD} (u : AcX K x ak L w) (hb : Below w.heap.size w w') : AcX K x ak L w' :=
  u.fr (Fr.of_below hb (fun _ => False)) (fun _ _ h => h)
end Go.Proofs.YtffgpepngcnjeabGreatQ
