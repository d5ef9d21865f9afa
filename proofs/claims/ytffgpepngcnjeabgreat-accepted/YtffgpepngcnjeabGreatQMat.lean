/-
  Package pursekeep: mined.
-/
import Derived.Test.YtffgpepngcnjeabGreatQMas
import Derived.Test.YtffgpepngcnjeabGreatQMao
import Derived.Deep.RegionHeld3
namespace Go.Proofs.YtffgpepngcnjeabGreatQ
open Go.RowKit
theorem keepM4 {E : Nat → Prop} {w w' : World} {S T : Nat} {a0 b0 b1 b2 : Value} (hf : Fr E w w') (h : w.cell? ⟨S, 0, none⟩ = some a0 ∧ w.cell? ⟨T, 0, none⟩ = some b0 ∧ w.cell? ⟨T, 1, none⟩ = some b1 ∧ w.cell? ⟨T, 2, none⟩ = some b2) (hS : ¬ E S) (hT : ¬ E T) :
    w'.cell? ⟨S, 0, none⟩ = some a0 ∧ w'.cell? ⟨T, 0, none⟩ = some b0 ∧ w'.cell? ⟨T, 1, none⟩ = some b1 ∧ w'.cell? ⟨T, 2, none⟩ = some b2 :=
  ⟨hf.cell h.1 hS, hf.cell h.2.1 hT, hf.cell h.2.2.1 hT, hf.cell h.2.2.2 hT⟩
theorem paE_row {w : World} {P : Nat} {s : Int} {g : Nat} {v : Value} {h : Int} {xs : List Cel} {vl vs : Value} {md nx : Int} (hp : PAe w P s g v h xs vl vs md nx) : PRow4 w P s g v h :=
  paq_row ⟨hp.c0, hp.c1, hp.f0, hp.f1, hp.own, fun q hq => hp.ext q (by
    simp only [List.mem_cons, List.not_mem_nil, or_false] at hq ⊢
    rcases hq with rfl | rfl <;> simp)⟩
/-- the memory of mined: the scene's first cell, the two transactions that came in -/
structure MnI (S P X Y : Nat) (N : Nat → Prop) (x y : TxD) (n0 ch : Int) (vk : Value) (v : Value) (w : World) : Prop where
  c0 : w.cell? ⟨S, 0, none⟩ = some (.pointer (some ⟨P, 0, none⟩))
  nS : S < w.heap.size ∧ ¬ chE P v S
  vx : VB w X (.int .i64 n0) (.int .i64 x.t) (.slice x.ai x.n x.c) (.slice x.ap x.m x.d) vk (.int .i64 ch)
  vy : V3 w Y (.int .i64 y.t) (.slice y.ai y.n y.c) (.slice y.ap y.m y.d)
  nX : ¬ chE P v X
  nY : ¬ chE P v Y
  tx : TxOk N w x
  ty : TxOk N w y
  hN : ∀ k, N k → k < w.heap.size ∧ ¬ chE P v k
theorem MnI.grown {S P X Y : Nat} {N : Nat → Prop} {x y : TxD} {n0 ch : Int} {vk v : Value} {w w' : World} (u : MnI S P X Y N x y n0 ch vk v w) (hb : Below w.heap.size w w') : MnI S P X Y N x y n0 ch vk v w' :=
  ⟨(hb.cell (p := ⟨S, 0, none⟩) u.nS.1).trans u.c0, ⟨Nat.lt_of_lt_of_le u.nS.1 hb.size, u.nS.2⟩, u.vx.grown hb, u.vy.grown hb, u.nX, u.nY, u.tx.fr (Fr.of_below hb (fun _ => False)) (fun _ _ h => h), u.ty.fr (Fr.of_below hb (fun _ => False)) (fun _ _ h => h), fun k hk => ⟨Nat.lt_of_lt_of_le (u.hN k hk).1 hb.size, (u.hN k hk).2⟩⟩
theorem nE_one {P k : Nat} {v v' : Value} {w w' : World} (hst : ChStep P v v' w w') (hk : k < w.heap.size) (hn : ¬ chE P v k) : ¬ chE P v' k := (nE_step (N := fun q => q = k) hst (fun q hq => by subst hq; exact ⟨hk, hn⟩) k rfl).2
theorem MnI.step {S P X Y : Nat} {N : Nat → Prop} {x y : TxD} {n0 ch : Int} {vk v v' : Value} {w w' : World} (u : MnI S P X Y N x y n0 ch vk v w) (hst : ChStep P v v' w w') : MnI S P X Y N x y n0 ch vk v' w' :=
  ⟨hst.fr.cell u.c0 u.nS.2, ⟨Nat.lt_of_lt_of_le u.nS.1 hst.fr.size, nE_one hst u.nS.1 u.nS.2⟩, u.vx.fr hst.fr u.nX, u.vy.fr hst.fr u.nY, nE_one hst (cell_lt u.vx.c0) u.nX, nE_one hst (cell_lt u.vy.c0) u.nY, u.tx.fr hst.fr (fun k hk => (u.hN k hk).2), u.ty.fr hst.fr (fun k hk => (u.hN k hk).2), nE_step hst u.hN⟩
theorem MnI.frQ {S P X Y Q : Nat} {N : Nat → Prop} {x y : TxD} {n0 ch : Int} {vk v : Value} {w w' : World} (u : MnI S P X Y N x y n0 ch vk v w) (hf : Fr (fun k => k = Q) w w') (hQ : S < Q ∧ X < Q ∧ Y < Q ∧ ∀ k, N k → k < Q) : MnI S P X Y N x y n0 ch vk v w' :=
  ⟨hf.cell u.c0 (by have := hQ.1; omega), ⟨Nat.lt_of_lt_of_le u.nS.1 hf.size, u.nS.2⟩, u.vx.fr hf (by have := hQ.2.1; omega), u.vy.fr hf (by have := hQ.2.2.1; omega), u.nX, u.nY, u.tx.fr hf (fun k hk => by have := hQ.2.2.2 k hk; omega), u.ty.fr hf (fun k hk => by have := hQ.2.2.2 k hk; omega), fun k hk => ⟨Nat.lt_of_lt_of_le (u.hN k hk).1 hf.size, (u.hN k hk).2⟩⟩
set_option maxRecDepth 100000 in
set_option maxHeartbeats 8000000 in
theorem mined_any (S P : Nat) (s : Int) (g : Nat) (v : Value) (h : Int) (xs xs2 : List Cel) (vl vs : Value) (md nx : Int) (N : Nat → Prop) (x y : TxD) (n0 ch id : Int) (ak : Option Addr) (nk ck : Nat) (w : World)
    (hS0 : w.cell? ⟨S, 0, none⟩ = some (.pointer (some ⟨P, 0, none⟩))) (hSn : ¬ chE P v S) (hp : PAe w P s g v h xs vl vs md nx) (hl : xs.length ≤ 1000) (hl2 : xs2.length ≤ 2000) (hv : Vals xs) (hv2 : Vals xs2) (hh : 0 ≤ h ∧ h ≤ 90) (hs : Mk.isM s = true) (hg1 : 1 ≤ g) (hg2 : g ≤ 20)
    (htx : TxOk N w x) (hty : TxOk N w y) (hN : ∀ k, N k → k < w.heap.size ∧ ¬ chE P v k) (hsx : TxSm x) (hsy : TxSm y) (hyi : y.ins.length ≤ 1000)
    (hraw : ∀ z : TxD, z.t = x.t → z.ins.map InD.st = x.ins.map InD.st → z.ys = x.ys → connZ h xs [z] = (6, 0, h, xs))
    (htk : ∀ z : TxD, z.t = y.t → z.ins.map InD.st = y.ins.map InD.st → z.ys = y.ys → connZ h xs [z] = (0, 0, h + 1, xs2))
    (htw : ∀ z : TxD, z.t = y.t → z.ins.map InD.st = y.ins.map InD.st → z.ys = y.ys → connZ (h + 1) xs2 [z] = (4, 0, h + 1, xs2))
    (hgone : (!(y.ins.any fun i => namedB (ownOf xs2 s g) i.id i.pos)) = true) (hid : idZ y.t y.ins y.ys = id)
    (hch : 0 ≤ ch → ∃ k : Nat, y.ys.length = k + 1 ∧ hasZ (ownOf xs2 s g) ⟨id, (k : Int), (y.ys.getD k (0, 0)).1, (y.ys.getD k (0, 0)).2, 0, 0⟩ = true) (hyl : y.ys.length ≤ 1000) :
    Calls Tryz.prog 18 #[.pointer (some ⟨S, 0, none⟩), .agg #[.int .i64 n0, .int .i64 x.t, .slice x.ai x.n x.c, .slice x.ap x.m x.d, .slice ak nk ck, .int .i64 ch], .agg #[.int .i64 y.t, .slice y.ai y.n y.c, .slice y.ap y.m y.d]] w fun e w' => e = .returned (.bool true) ∧ ∃ v', PAe w' P s g v' (h + 1) xs2 vl vs md nx ∧ ChStep P v v' w w' := by
  obtain ⟨yt, ya, yn, yc, yp, ym, yd, yi, yy⟩ := y
  simp only at *
  have HP : Hid (PAe w P s g v h xs vl vs md nx) := hp
  have HV : Hid (Vals xs) := hv
  have HV2 : Hid (Vals xs2) := hv2
  have HSX : Hid (TxSm x) := hsx
  have HSY : Hid (TxSm ⟨yt, ya, yn, yc, yp, ym, yd, yi, yy⟩) := hsy
  have HRAW : Hid (∀ z : TxD, z.t = x.t → z.ins.map InD.st = x.ins.map InD.st → z.ys = x.ys → connZ h xs [z] = (6, 0, h, xs)) := hraw
  have HTK : Hid (∀ z : TxD, z.t = yt → z.ins.map InD.st = yi.map InD.st → z.ys = yy → connZ h xs [z] = (0, 0, h + 1, xs2)) := htk
  have HTW : Hid (∀ z : TxD, z.t = yt → z.ins.map InD.st = yi.map InD.st → z.ys = yy → connZ (h + 1) xs2 [z] = (4, 0, h + 1, xs2)) := htw
  have HGO : Hid ((!(yi.any fun i => namedB (ownOf xs2 s g) i.id i.pos)) = true) := hgone
  have HID : Hid (idZ yt yi yy = id) := hid
  have HCH : Hid (0 ≤ ch → ∃ k : Nat, yy.length = k + 1 ∧ hasZ (ownOf xs2 s g) ⟨id, (k : Int), (yy.getD k (0, 0)).1, (yy.getD k (0, 0)).2, 0, 0⟩ = true) := hch
  have bA : Below w.heap.size w ((w.alloc (.cells #[.int .i64 n0, .int .i64 x.t, .slice x.ai x.n x.c, .slice x.ap x.m x.d, .slice ak nk ck, .int .i64 ch] 38)).alloc (.cells #[.int .i64 yt, .slice ya yn yc, .slice yp ym yd] 35)) := ((Below.refl _ _).alloc (Nat.le_refl _) _).alloc (by simp) _
  have HU0 : Hid (MnI S P w.heap.size (w.heap.size + 1) N x ⟨yt, ya, yn, yc, yp, ym, yd, yi, yy⟩ n0 ch (.slice ak nk ck) v ((w.alloc (.cells #[.int .i64 n0, .int .i64 x.t, .slice x.ai x.n x.c, .slice x.ap x.m x.d, .slice ak nk ck, .int .i64 ch] 38)).alloc (.cells #[.int .i64 yt, .slice ya yn yc, .slice yp ym yd] 35))) := by
    refine ⟨(bA.cell (p := ⟨S, 0, none⟩) (cell_lt hS0)).trans hS0, ⟨Nat.lt_of_lt_of_le (cell_lt hS0) bA.size, hSn⟩, (VB.new w _ _ _ _ _ _ 38).grown ((Below.refl _ _).alloc (Nat.le_refl _) _), ?_, fun e => ?_, fun e => ?_, htx.fr (Fr.of_below bA (fun _ => False)) (fun _ _ h => h), hty.fr (Fr.of_below bA (fun _ => False)) (fun _ _ h => h), fun k hk => ⟨Nat.lt_of_lt_of_le (hN k hk).1 bA.size, (hN k hk).2⟩⟩
    · have := V3.new (w.alloc (.cells #[.int .i64 n0, .int .i64 x.t, .slice x.ai x.n x.c, .slice x.ap x.m x.d, .slice ak nk ck, .int .i64 ch] 38)) (.int .i64 yt) (.slice ya yn yc) (.slice yp ym yd) 35
      rwa [World.size_alloc] at this
    · have := (hp.blk _ e).2; omega
    · have := (hp.blk _ e).2; omega
  have HPA0 : Hid (PAe ((w.alloc (.cells #[.int .i64 n0, .int .i64 x.t, .slice x.ai x.n x.c, .slice x.ap x.m x.d, .slice ak nk ck, .int .i64 ch] 38)).alloc (.cells #[.int .i64 yt, .slice ya yn yc, .slice yp ym yd] 35)) P s g v h xs vl vs md nx) := hp.grown bA
  have HST0 : Hid (ChStep P v v w ((w.alloc (.cells #[.int .i64 n0, .int .i64 x.t, .slice x.ai x.n x.c, .slice x.ap x.m x.d, .slice ak nk ck, .int .i64 ch] 38)).alloc (.cells #[.int .i64 yt, .slice ya yn yc, .slice yp ym yd] 35))) := ChStep.of_below bA P v
  clear hp hv hv2 hsx hsy hraw htk htw hgone hid hch hS0 hSn htx hty hN bA HP
  go_enter Tryz.func18, Tryz.ntmps18
  go_upto_region 1 with fail
  generalize (w.alloc (.cells #[.int .i64 n0, .int .i64 x.t, .slice x.ai x.n x.c, .slice x.ap x.m x.d, .slice ak nk ck, .int .i64 ch] 38)).alloc (.cells #[.int .i64 yt, .slice ya yn yc, .slice yp ym yd] 35) = w0 at *
  generalize hXe : w.heap.size = X at *
  have HXE : Hid (w.heap.size = X) := hXe
  clear hXe
  have HXY : Hid (X < X + 1) := by show _ < _; omega
  generalize X + 1 = Y at *
  obtain ⟨_, _, ⟨x0, x1, x2, x3, x4, x5, _⟩, _⟩ := HU0.out
  go_wp2_with fail
  refine (copyTxOk N x _ HU0.out.tx HSX.out).mono ?_
  rintro e w1 ⟨r1, rfl, e1, e2, e3, hr1, hb1⟩
  have HC1 : Hid (connZ h xs [r1] = (6, 0, h, xs)) := HRAW.out r1 e1 e2 e3
  have HU1 : Hid (MnI S P X Y N x ⟨yt, ya, yn, yc, yp, ym, yd, yi, yy⟩ n0 ch (.slice ak nk ck) v w1) := HU0.out.grown hb1
  have HPA1 : Hid (PAe w1 P s g v h xs vl vs md nx) := HPA0.out.grown hb1
  have HST1 : Hid (ChStep P v v w w1) := HST0.out.trans (ChStep.of_below hb1 P v)
  have HTX1 : Hid (TxOk (fun q => w0.heap.size ≤ q ∧ q < w1.heap.size) w1 r1) := hr1
  have HN1 : Hid (∀ k, (w0.heap.size ≤ k ∧ k < w1.heap.size) → k < w1.heap.size ∧ ¬ chE P v k) := fun k hk => ⟨hk.2, fun e => by have := (HPA0.out.blk k e).2; omega⟩
  clear x0 x1 x2 x3 x4 x5 e1 e2 e3 hr1 hb1 HU0 HPA0 HST0
  obtain ⟨r2t, r2a, r2n, r2c, r2p, r2m, r2d, r2i, r2y⟩ := r1
  have bB : Below w1.heap.size w1 (w1.alloc (.cells #[.int .i64 r2t, .slice r2a r2n r2c, .slice r2p r2m r2d] 35)) := (Below.refl _ _).alloc (Nat.le_refl _) _
  have HT2 : Hid (V3 (w1.alloc (.cells #[.int .i64 r2t, .slice r2a r2n r2c, .slice r2p r2m r2d] 35)) w1.heap.size (.int .i64 r2t) (.slice r2a r2n r2c) (.slice r2p r2m r2d)) := V3.new w1 _ _ _ 35
  have HU2 : Hid (MnI S P X Y N x ⟨yt, ya, yn, yc, yp, ym, yd, yi, yy⟩ n0 ch (.slice ak nk ck) v (w1.alloc (.cells #[.int .i64 r2t, .slice r2a r2n r2c, .slice r2p r2m r2d] 35))) := HU1.out.grown bB
  have HPA2 : Hid (PAe (w1.alloc (.cells #[.int .i64 r2t, .slice r2a r2n r2c, .slice r2p r2m r2d] 35)) P s g v h xs vl vs md nx) := HPA1.out.grown bB
  have HST2 : Hid (ChStep P v v w (w1.alloc (.cells #[.int .i64 r2t, .slice r2a r2n r2c, .slice r2p r2m r2d] 35))) := HST1.out.trans (ChStep.of_below bB P v)
  have HTX2 : Hid (TxOk (fun q => w0.heap.size ≤ q ∧ q < w1.heap.size) (w1.alloc (.cells #[.int .i64 r2t, .slice r2a r2n r2c, .slice r2p r2m r2d] 35)) ⟨r2t, r2a, r2n, r2c, r2p, r2m, r2d, r2i, r2y⟩) := HTX1.out.fr (Fr.of_below bB (fun _ => False)) (fun _ _ h => h)
  have HN2 : Hid (∀ k, (w0.heap.size ≤ k ∧ k < w1.heap.size) → k < (w1.alloc (.cells #[.int .i64 r2t, .slice r2a r2n r2c, .slice r2p r2m r2d] 35)).heap.size ∧ ¬ chE P v k) := fun k hk => ⟨by rw [World.size_alloc]; omega, (HN1.out k hk).2⟩
  have HTn2 : Hid (¬ chE P v w1.heap.size) := fun e => by have := (HPA1.out.blk _ e).2; omega
  go_upto_region 2 with fail
  clear bB HU1 HPA1 HST1 HTX1 HN1
  generalize w1.alloc (.cells #[.int .i64 r2t, .slice r2a r2n r2c, .slice r2p r2m r2d] 35) = w2 at *
  generalize w1.heap.size = T at *
  have HKW2 : Hid (w2.cell? ⟨S, 0, none⟩ = some (.pointer (some ⟨P, 0, none⟩)) ∧ w2.cell? ⟨T, 0, none⟩ = some (.int .i64 r2t) ∧ w2.cell? ⟨T, 1, none⟩ = some (.slice r2a r2n r2c) ∧ w2.cell? ⟨T, 2, none⟩ = some (.slice r2p r2m r2d)) := ⟨HU2.out.c0, HT2.out.c0, HT2.out.c1, HT2.out.c2⟩
  obtain ⟨s0, t0, t1, t2⟩ := HKW2.out
  have hSl : S < w2.heap.size := cell_lt s0
  have hTl : T < w2.heap.size := cell_lt t0
  have HSn : Hid (¬ chE P v S) := HU2.out.nS.2
  go_region_held3 (fun w' => w'.cell? ⟨S, 0, none⟩ = some (.pointer (some ⟨P, 0, none⟩)) ∧ w'.cell? ⟨T, 0, none⟩ = some (.int .i64 r2t) ∧ w'.cell? ⟨T, 1, none⟩ = some (.slice r2a r2n r2c) ∧ w'.cell? ⟨T, 2, none⟩ = some (.slice r2p r2m r2d)) (first | assumption | go_keep | exact keepM4 hst3.fr HKW2.out HSn.out HTn2.out) ((go_at_call 43; refine (conn1 P s g v h xs vl vs md nx _ ⟨r2t, r2a, r2n, r2c, r2p, r2m, r2d, r2i, r2y⟩ 6 0 h xs w2 HPA2.out (by omega) HV.out (by omega) HTX2.out HN2.out HC1.out).mono ?_; rintro e w3 ⟨rfl, v3, hp3, hst3⟩))
  have HU3 : Hid (MnI S P X Y N x ⟨yt, ya, yn, yc, yp, ym, yd, yi, yy⟩ n0 ch (.slice ak nk ck) v3 w3) := HU2.out.step hst3
  have HPA3 : Hid (PAe w3 P s g v3 h xs vl vs md nx) := hp3
  have HST3 : Hid (ChStep P v v3 w w3) := HST2.out.trans hst3
  clear hp3 hst3 s0 t0 t1 t2 hSl hTl HKW2 HSn HU2 HPA2 HST2 HTX2 HN2 HC1 HT2 HTn2
  obtain ⟨_, _, _, ⟨y0, y1, y2, _⟩, _⟩ := HU3.out
  go_wp2_with fail
  refine (copyTxOk N ⟨yt, ya, yn, yc, yp, ym, yd, yi, yy⟩ _ HU3.out.ty HSY.out).mono ?_
  rintro e w4 ⟨r4, rfl, e1, e2, e3, hr4, hb4⟩
  have HC4 : Hid (connZ h xs [r4] = (0, 0, h + 1, xs2)) := HTK.out r4 e1 e2 e3
  have HU4 : Hid (MnI S P X Y N x ⟨yt, ya, yn, yc, yp, ym, yd, yi, yy⟩ n0 ch (.slice ak nk ck) v3 w4) := HU3.out.grown hb4
  have HPA4 : Hid (PAe w4 P s g v3 h xs vl vs md nx) := HPA3.out.grown hb4
  have HST4 : Hid (ChStep P v v3 w w4) := HST3.out.trans (ChStep.of_below hb4 P v3)
  have HTX4 : Hid (TxOk (fun q => w3.heap.size ≤ q ∧ q < w4.heap.size) w4 r4) := hr4
  have HN4 : Hid (∀ k, (w3.heap.size ≤ k ∧ k < w4.heap.size) → k < w4.heap.size ∧ ¬ chE P v3 k) := fun k hk => ⟨hk.2, fun e => by have := (HPA3.out.blk k e).2; omega⟩
  clear y0 y1 y2 e1 e2 e3 hr4 hb4 HU3 HPA3 HST3
  obtain ⟨r5t, r5a, r5n, r5c, r5p, r5m, r5d, r5i, r5y⟩ := r4
  have bB : Below w4.heap.size w4 (w4.alloc (.cells #[.int .i64 r5t, .slice r5a r5n r5c, .slice r5p r5m r5d] 35)) := (Below.refl _ _).alloc (Nat.le_refl _) _
  have HT5 : Hid (V3 (w4.alloc (.cells #[.int .i64 r5t, .slice r5a r5n r5c, .slice r5p r5m r5d] 35)) w4.heap.size (.int .i64 r5t) (.slice r5a r5n r5c) (.slice r5p r5m r5d)) := V3.new w4 _ _ _ 35
  have HU5 : Hid (MnI S P X Y N x ⟨yt, ya, yn, yc, yp, ym, yd, yi, yy⟩ n0 ch (.slice ak nk ck) v3 (w4.alloc (.cells #[.int .i64 r5t, .slice r5a r5n r5c, .slice r5p r5m r5d] 35))) := HU4.out.grown bB
  have HPA5 : Hid (PAe (w4.alloc (.cells #[.int .i64 r5t, .slice r5a r5n r5c, .slice r5p r5m r5d] 35)) P s g v3 h xs vl vs md nx) := HPA4.out.grown bB
  have HST5 : Hid (ChStep P v v3 w (w4.alloc (.cells #[.int .i64 r5t, .slice r5a r5n r5c, .slice r5p r5m r5d] 35))) := HST4.out.trans (ChStep.of_below bB P v3)
  have HTX5 : Hid (TxOk (fun q => w3.heap.size ≤ q ∧ q < w4.heap.size) (w4.alloc (.cells #[.int .i64 r5t, .slice r5a r5n r5c, .slice r5p r5m r5d] 35)) ⟨r5t, r5a, r5n, r5c, r5p, r5m, r5d, r5i, r5y⟩) := HTX4.out.fr (Fr.of_below bB (fun _ => False)) (fun _ _ h => h)
  have HN5 : Hid (∀ k, (w3.heap.size ≤ k ∧ k < w4.heap.size) → k < (w4.alloc (.cells #[.int .i64 r5t, .slice r5a r5n r5c, .slice r5p r5m r5d] 35)).heap.size ∧ ¬ chE P v3 k) := fun k hk => ⟨by rw [World.size_alloc]; omega, (HN4.out k hk).2⟩
  have HQO : Hid (S < w4.heap.size ∧ X < w4.heap.size ∧ Y < w4.heap.size ∧ ∀ k, N k → k < w4.heap.size) := ⟨HU4.out.nS.1, cell_lt HU4.out.vx.c0, cell_lt HU4.out.vy.c0, fun k hk => (HU4.out.hN k hk).1⟩
  have HTn5 : Hid (¬ chE P v3 w4.heap.size) := fun e => by have := (HPA4.out.blk _ e).2; omega
  go_upto_region 6 with fail
  clear bB HU4 HPA4 HST4 HTX4 HN4
  generalize w4.alloc (.cells #[.int .i64 r5t, .slice r5a r5n r5c, .slice r5p r5m r5d] 35) = w5 at *
  generalize w4.heap.size = Q at *
  have HKW5 : Hid (w5.cell? ⟨S, 0, none⟩ = some (.pointer (some ⟨P, 0, none⟩)) ∧ w5.cell? ⟨Q, 0, none⟩ = some (.int .i64 r5t) ∧ w5.cell? ⟨Q, 1, none⟩ = some (.slice r5a r5n r5c) ∧ w5.cell? ⟨Q, 2, none⟩ = some (.slice r5p r5m r5d)) := ⟨HU5.out.c0, HT5.out.c0, HT5.out.c1, HT5.out.c2⟩
  obtain ⟨s0, t0, t1, t2⟩ := HKW5.out
  have hSl : S < w5.heap.size := cell_lt s0
  have hTl : Q < w5.heap.size := cell_lt t0
  have HSn : Hid (¬ chE P v3 S) := HU5.out.nS.2
  go_region_held3 (fun w' => w'.cell? ⟨S, 0, none⟩ = some (.pointer (some ⟨P, 0, none⟩)) ∧ w'.cell? ⟨Q, 0, none⟩ = some (.int .i64 r5t) ∧ w'.cell? ⟨Q, 1, none⟩ = some (.slice r5a r5n r5c) ∧ w'.cell? ⟨Q, 2, none⟩ = some (.slice r5p r5m r5d)) (first | assumption | go_keep | exact keepM4 hst6.fr HKW5.out HSn.out HTn5.out) ((go_at_call 43; refine (conn1 P s g v3 h xs vl vs md nx _ ⟨r5t, r5a, r5n, r5c, r5p, r5m, r5d, r5i, r5y⟩ 0 0 (h + 1) xs2 w5 HPA5.out (by omega) HV.out (by omega) HTX5.out HN5.out HC4.out).mono ?_; rintro e w6 ⟨rfl, v6, hp6, hst6⟩))
  have HU6 : Hid (MnI S P X Y N x ⟨yt, ya, yn, yc, yp, ym, yd, yi, yy⟩ n0 ch (.slice ak nk ck) v6 w6) := HU5.out.step hst6
  have HPA6 : Hid (PAe w6 P s g v6 (h + 1) xs2 vl vs md nx) := hp6
  have HST6 : Hid (ChStep P v v6 w w6) := HST5.out.trans hst6
  have HQ6 : Hid (V3 w6 Q (.int .i64 r5t) (.slice r5a r5n r5c) (.slice r5p r5m r5d)) := HT5.out.fr hst6.fr HTn5.out
  have HQn6 : Hid (¬ chE P v6 Q) := nE_one hst6 (cell_lt HT5.out.c0) HTn5.out
  clear hp6 hst6 s0 t0 t1 t2 hSl hTl HKW5 HSn HU5 HPA5 HST5 HTX5 HN5 HC4 HT5 HTn5
  obtain ⟨ao6, c6, ev6, hat6⟩ := HPA6.out.at
  have HX6 : Hid (CelsAt w6 ao6 xs2) := hat6
  have HR6 : Hid (PRow4 w6 P s g (.slice ao6 xs2.length c6) (h + 1)) := by rw [← ev6]; exact paE_row HPA6.out
  clear ev6 hat6
  have s0 := HU6.out.c0
  go_wp2_with fail
  refine (pCoins4 P s g ao6 xs2.length c6 (h + 1) xs2 _ hs hg1 hg2 HR6.out HX6.out rfl (by omega)).mono ?_
  rintro e w7 ⟨vc, rfl, hoc, hb7⟩
  obtain ⟨al, cl, rfl, hal⟩ := OwnRec.at coin6 hoc
  have HAL : Hid (RecAt CoinD.l w7 al (ownOf xs2 s g)) := hal
  have HLL : Hid ((ownOf xs2 s g).length ≤ 2000) := by
    show _ ≤ _
    have h1 := ownZ_len (keysZ xs2 s g) (coinsC xs2)
    have h2 := coinsC_len xs2
    unfold ownOf
    omega
  have HU7 : Hid (MnI S P X Y N x ⟨yt, ya, yn, yc, yp, ym, yd, yi, yy⟩ n0 ch (.slice ak nk ck) v6 w7) := HU6.out.grown hb7
  have HPA7 : Hid (PAe w7 P s g v6 (h + 1) xs2 vl vs md nx) := HPA6.out.grown hb7
  have HST7 : Hid (ChStep P v v6 w w7) := HST6.out.trans (ChStep.of_below hb7 P v6)
  have HQ7 : Hid (V3 w7 Q (.int .i64 r5t) (.slice r5a r5n r5c) (.slice r5p r5m r5d)) := HQ6.out.grown hb7
  clear hoc hal hb7 HU6 HPA6 HST6 HQ6 HX6 HR6 s0
  have HMM : Hid (yy.length = ym) := HU7.out.ty.ol
  have HIL : Hid (yi.length = yn) := HU7.out.ty.il
  have HYI : Hid (yn ≤ 1000) := by have := HIL.out; show _ ≤ _; omega
  obtain ⟨_, _, ⟨_, _, _, _, _, x5, _⟩, ⟨y0, y1, y2, _⟩, _⟩ := HU7.out
  go_wp2_with fail
  refine (spent_any al (ownOf xs2 s g).length cl (ownOf xs2 s g) yt ya yn yc yp ym yd yi _ HAL.out rfl (by have := HLL.out; omega) HU7.out.ty.ins HIL.out HYI.out).mono ?_
  rw [HGO.out]
  rintro e w8 ⟨rfl, hb8⟩
  have HU8 : Hid (MnI S P X Y N x ⟨yt, ya, yn, yc, yp, ym, yd, yi, yy⟩ n0 ch (.slice ak nk ck) v6 w8) := HU7.out.grown hb8
  have HPA8 : Hid (PAe w8 P s g v6 (h + 1) xs2 vl vs md nx) := HPA7.out.grown hb8
  have HST8 : Hid (ChStep P v v6 w w8) := HST7.out.trans (ChStep.of_below hb8 P v6)
  have HQ8 : Hid (V3 w8 Q (.int .i64 r5t) (.slice r5a r5n r5c) (.slice r5p r5m r5d)) := HQ7.out.grown hb8
  have HAL8 : Hid (RecAt CoinD.l w8 al (ownOf xs2 s g)) := HAL.out.grown hb8
  clear x5 y0 y1 y2 hb8 HU7 HPA7 HST7 HQ7 HAL
  by_cases hc0 : 0 ≤ ch
  · have hd0 : decide (0 ≤ ch) = true := decide_eq_true hc0
    obtain ⟨k, hk, hz⟩ := HCH.out hc0
    have HZ : Hid (hasZ (ownOf xs2 s g) ⟨id, (k : Int), (yy.getD k (0, 0)).1, (yy.getD k (0, 0)).2, 0, 0⟩ = true) := hz
    have HMK : Hid (ym = k + 1) := by show _ = _; have := HMM.out; omega
    have hkl : k < yy.length := by omega
    clear hz
    obtain ⟨_, _, ⟨_, _, _, _, _, x5, _⟩, ⟨y0, y1, y2, _⟩, _⟩ := HU8.out
    have hsub : (ym : Int) - 1 = (k : Int) := by have := HMK.out; omega
    have hwr : IntKind.i64.wrap ((ym : Int) - 1) = (k : Int) := by rw [hsub]; exact IntWalk.i64_in _ ⟨by omega, by have := HMK.out; omega⟩
    have hk0 : ¬ (k : Int) < 0 := by omega
    have hk0' : (0 : Int) ≤ (k : Int) := by omega
    have hk1 : (k : Int) < (ym : Int) := by have := HMK.out; omega
    go_wp2_with fail
    refine (pId_any yt ya yn yc yp ym yd yi yy _ HU8.out.ty.ins HIL.out HU8.out.ty.outs HMM.out).mono ?_
    rw [HID.out]
    rintro e w9 ⟨rfl, hb9⟩
    have HU9 : Hid (MnI S P X Y N x ⟨yt, ya, yn, yc, yp, ym, yd, yi, yy⟩ n0 ch (.slice ak nk ck) v6 w9) := HU8.out.grown hb9
    have HPA9 : Hid (PAe w9 P s g v6 (h + 1) xs2 vl vs md nx) := HPA8.out.grown hb9
    have HST9 : Hid (ChStep P v v6 w w9) := HST8.out.trans (ChStep.of_below hb9 P v6)
    have HQ9 : Hid (V3 w9 Q (.int .i64 r5t) (.slice r5a r5n r5c) (.slice r5p r5m r5d)) := HQ8.out.grown hb9
    have HAL9 : Hid (RecAt CoinD.l w9 al (ownOf xs2 s g)) := HAL8.out.grown hb9
    clear x5 y0 y1 y2 hb9 HU8 HPA8 HST8 HQ8 HAL8
    have hou := HU9.out.ty.outs
    simp only at hou
    rcases hou with hnil | ⟨gp, op, rfl, hrp⟩
    · rw [hnil] at hkl; simp at hkl
    obtain ⟨p0, p1⟩ := hrp k hkl
    clear hrp
    generalize (yy.getD k (0, 0)).1 = za at *
    generalize (yy.getD k (0, 0)).2 = zb at *
    have y2 := HU9.out.vy.c2
    simp only at y2
    have bD : Below w9.heap.size w9 w9.drew := (Below.refl _ _).drew
    have HKX : Hid (w9.drew.cell? ⟨Y, 2, none⟩ = some (.slice (some ⟨gp, op, none⟩) ym yd) ∧ w9.drew.cell? ⟨gp, op + k * 2, none⟩ = some (.int .i64 za) ∧ w9.drew.cell? ⟨gp, op + k * 2 + 1, none⟩ = some (.int .i64 zb)) := ⟨y2, p0, p1⟩
    have HALD : Hid (RecAt CoinD.l w9.drew al (ownOf xs2 s g)) := HAL9.out.grown bD
    have HBD : Hid (Below w9.heap.size w9 w9.drew) := bD
    clear bD
    go_upto_region 16 with fail
    go_region_held3 (fun w' => w'.cell? ⟨Y, 2, none⟩ = some (.slice (some ⟨gp, op, none⟩) ym yd) ∧ w'.cell? ⟨gp, op + k * 2, none⟩ = some (.int .i64 za) ∧ w'.cell? ⟨gp, op + k * 2 + 1, none⟩ = some (.int .i64 zb)) (first | go_keep | with_reducible exact HKX.out | exact keepB3 hb10 HKX.out) ((go_at_call 46; (refine (has_any al (ownOf xs2 s g).length cl (ownOf xs2 s g) ⟨id, (k : Int), za, zb, 0, 0⟩ w9.drew HALD.out rfl (by have := HLL.out; omega)).mono ?_); rw [HZ.out]; rintro e w10 ⟨rfl, hb10⟩))
    have hb910 : Below w9.heap.size w9 w10 := below_blk HBD.out hb10
    have HU10 : Hid (MnI S P X Y N x ⟨yt, ya, yn, yc, (some ⟨gp, op, none⟩), ym, yd, yi, yy⟩ n0 ch (.slice ak nk ck) v6 w10) := HU9.out.grown hb910
    have HPA10 : Hid (PAe w10 P s g v6 (h + 1) xs2 vl vs md nx) := HPA9.out.grown hb910
    have HST10 : Hid (ChStep P v v6 w w10) := HST9.out.trans (ChStep.of_below hb910 P v6)
    have HQ10 : Hid (V3 w10 Q (.int .i64 r5t) (.slice r5a r5n r5c) (.slice r5p r5m r5d)) := HQ9.out.grown hb910
    clear y2 p0 p1 hb910 hb10 HU9 HPA9 HST9 HQ9 HAL9 HALD HKX HBD
    obtain ⟨_, _, _, ⟨y0, y1, y2, _⟩, _⟩ := HU10.out
    obtain ⟨q0, q1, q2, qz⟩ := HQ10.out
    have f0 := qz 0
    have f1 := qz 1
    have f2 := qz 2
    clear qz
    go_wp2_with fail
    refine (copyTxOk N ⟨yt, ya, yn, yc, some ⟨gp, op, none⟩, ym, yd, yi, yy⟩ _ HU10.out.ty HSY.out).mono ?_
    rintro e wA ⟨rA, rfl, e1, e2, e3, hrA, hbA⟩
    have HCA : Hid (connZ (h + 1) xs2 [rA] = (4, 0, h + 1, xs2)) := HTW.out rA e1 e2 e3
    have HUA : Hid (MnI S P X Y N x ⟨yt, ya, yn, yc, some ⟨gp, op, none⟩, ym, yd, yi, yy⟩ n0 ch (.slice ak nk ck) v6 wA) := HU10.out.grown hbA
    have HPAA : Hid (PAe wA P s g v6 (h + 1) xs2 vl vs md nx) := HPA10.out.grown hbA
    have HSTA : Hid (ChStep P v v6 w wA) := HST10.out.trans (ChStep.of_below hbA P v6)
    have HQA : Hid (V3 wA Q (.int .i64 r5t) (.slice r5a r5n r5c) (.slice r5p r5m r5d)) := HQ10.out.grown hbA
    have HTXA : Hid (TxOk (fun q => w10.heap.size ≤ q ∧ q < wA.heap.size) wA rA) := hrA
    have HNA : Hid (∀ k, (w10.heap.size ≤ k ∧ k < wA.heap.size) → k < wA.heap.size ∧ k ≠ Q ∧ ¬ chE P v6 k) := fun k hk => ⟨hk.2, by have : Q < w10.heap.size := cell_lt q0; omega, fun e => by have := (HPA10.out.blk k e).2; omega⟩
    clear y0 y1 y2 q0 q1 q2 f0 f1 f2 e1 e2 e3 hrA hbA HU10 HPA10 HST10 HQ10
    obtain ⟨rBt, rBa, rBn, rBc, rBp, rBm, rBd, rBi, rBy⟩ := rA
    have fQ := fr3K wA Q (.int .i64 rBt) (.slice rBa rBn rBc) (.slice rBp rBm rBd)
    have HTB : Hid (V3 (((wA.setCell ⟨Q, 0, none⟩ (.int .i64 rBt)).setCell ⟨Q, 1, none⟩ (.slice rBa rBn rBc)).setCell ⟨Q, 2, none⟩ (.slice rBp rBm rBd)) Q (.int .i64 rBt) (.slice rBa rBn rBc) (.slice rBp rBm rBd)) := ((HQA.out.s0 _).s1 _).s2 _
    have HUB : Hid (MnI S P X Y N x ⟨yt, ya, yn, yc, some ⟨gp, op, none⟩, ym, yd, yi, yy⟩ n0 ch (.slice ak nk ck) v6 (((wA.setCell ⟨Q, 0, none⟩ (.int .i64 rBt)).setCell ⟨Q, 1, none⟩ (.slice rBa rBn rBc)).setCell ⟨Q, 2, none⟩ (.slice rBp rBm rBd))) := HUA.out.frQ fQ HQO.out
    have HPAB : Hid (PAe (((wA.setCell ⟨Q, 0, none⟩ (.int .i64 rBt)).setCell ⟨Q, 1, none⟩ (.slice rBa rBn rBc)).setCell ⟨Q, 2, none⟩ (.slice rBp rBm rBd)) P s g v6 (h + 1) xs2 vl vs md nx) := HPAA.out.fr fQ (fun k hk e => HQn6.out (by rw [← e]; exact hk))
    have HSTB : Hid (ChStep P v v6 w (((wA.setCell ⟨Q, 0, none⟩ (.int .i64 rBt)).setCell ⟨Q, 1, none⟩ (.slice rBa rBn rBc)).setCell ⟨Q, 2, none⟩ (.slice rBp rBm rBd))) := ⟨frNewQ HSTA.out.fr fQ (fun q hq => by have h1 := HQO.out.2.1; have h2 := HXE.out; omega), HSTA.out.own⟩
    have HTXB : Hid (TxOk (fun q => w10.heap.size ≤ q ∧ q < wA.heap.size) (((wA.setCell ⟨Q, 0, none⟩ (.int .i64 rBt)).setCell ⟨Q, 1, none⟩ (.slice rBa rBn rBc)).setCell ⟨Q, 2, none⟩ (.slice rBp rBm rBd)) ⟨rBt, rBa, rBn, rBc, rBp, rBm, rBd, rBi, rBy⟩) := HTXA.out.fr fQ (fun k hk => (HNA.out k hk).2.1)
    have HNB : Hid (∀ k, (w10.heap.size ≤ k ∧ k < wA.heap.size) → k < (((wA.setCell ⟨Q, 0, none⟩ (.int .i64 rBt)).setCell ⟨Q, 1, none⟩ (.slice rBa rBn rBc)).setCell ⟨Q, 2, none⟩ (.slice rBp rBm rBd)).heap.size ∧ ¬ chE P v6 k) := fun k hk => ⟨Nat.lt_of_lt_of_le (HNA.out k hk).1 fQ.size, (HNA.out k hk).2.2⟩
    obtain ⟨q0, q1, q2, qz⟩ := HQA.out
    have f0 := qz 0
    have f1 := qz 1
    have f2 := qz 2
    clear qz
    go_upto_region 20 with fail
    clear fQ HUA HPAA HSTA HQA HTXA HNA q0 q1 q2 f0 f1 f2
    generalize (((wA.setCell ⟨Q, 0, none⟩ (.int .i64 rBt)).setCell ⟨Q, 1, none⟩ (.slice rBa rBn rBc)).setCell ⟨Q, 2, none⟩ (.slice rBp rBm rBd)) = wB at *
    have HKWB : Hid (wB.cell? ⟨S, 0, none⟩ = some (.pointer (some ⟨P, 0, none⟩)) ∧ wB.cell? ⟨Q, 0, none⟩ = some (.int .i64 rBt) ∧ wB.cell? ⟨Q, 1, none⟩ = some (.slice rBa rBn rBc) ∧ wB.cell? ⟨Q, 2, none⟩ = some (.slice rBp rBm rBd)) := ⟨HUB.out.c0, HTB.out.c0, HTB.out.c1, HTB.out.c2⟩
    obtain ⟨s0, t0, t1, t2⟩ := HKWB.out
    have hSl : S < wB.heap.size := cell_lt s0
    have hTl : Q < wB.heap.size := cell_lt t0
    have HSn : Hid (¬ chE P v6 S) := HUB.out.nS.2
    go_region_held3 (fun w' => w'.cell? ⟨S, 0, none⟩ = some (.pointer (some ⟨P, 0, none⟩)) ∧ w'.cell? ⟨Q, 0, none⟩ = some (.int .i64 rBt) ∧ w'.cell? ⟨Q, 1, none⟩ = some (.slice rBa rBn rBc) ∧ w'.cell? ⟨Q, 2, none⟩ = some (.slice rBp rBm rBd)) (first | assumption | go_keep | exact keepM4 hstC.fr HKWB.out HSn.out HQn6.out) ((go_at_call 43; refine (conn1 P s g v6 (h + 1) xs2 vl vs md nx _ ⟨rBt, rBa, rBn, rBc, rBp, rBm, rBd, rBi, rBy⟩ 4 0 (h + 1) xs2 wB HPAB.out (by omega) HV2.out (by omega) HTXB.out HNB.out HCA.out).mono ?_; rintro e wC ⟨rfl, vC, hpC, hstC⟩))
    have HFIN : Hid (PAe wC P s g vC (h + 1) xs2 vl vs md nx ∧ ChStep P v vC w wC) := ⟨hpC, HSTB.out.trans hstC⟩
    clear hpC hstC s0 t0 t1 t2 hSl hTl
    go_wp2
    go_ret
    exact ⟨rfl, vC, HFIN.out.1, HFIN.out.2⟩
  · have hd0 : decide (0 ≤ ch) = false := decide_eq_false hc0
    have x5 := HU8.out.vx.c5
    obtain ⟨_, _, _, ⟨y0, y1, y2, _⟩, _⟩ := HU8.out
    obtain ⟨q0, q1, q2, qz⟩ := HQ8.out
    have f0 := qz 0
    have f1 := qz 1
    have f2 := qz 2
    clear qz
    go_wp2_with fail
    refine (copyTxOk N ⟨yt, ya, yn, yc, yp, ym, yd, yi, yy⟩ _ HU8.out.ty HSY.out).mono ?_
    rintro e wA ⟨rA, rfl, e1, e2, e3, hrA, hbA⟩
    have HCA : Hid (connZ (h + 1) xs2 [rA] = (4, 0, h + 1, xs2)) := HTW.out rA e1 e2 e3
    have HUA : Hid (MnI S P X Y N x ⟨yt, ya, yn, yc, yp, ym, yd, yi, yy⟩ n0 ch (.slice ak nk ck) v6 wA) := HU8.out.grown hbA
    have HPAA : Hid (PAe wA P s g v6 (h + 1) xs2 vl vs md nx) := HPA8.out.grown hbA
    have HSTA : Hid (ChStep P v v6 w wA) := HST8.out.trans (ChStep.of_below hbA P v6)
    have HQA : Hid (V3 wA Q (.int .i64 r5t) (.slice r5a r5n r5c) (.slice r5p r5m r5d)) := HQ8.out.grown hbA
    have HTXA : Hid (TxOk (fun q => w8.heap.size ≤ q ∧ q < wA.heap.size) wA rA) := hrA
    have HNA : Hid (∀ k, (w8.heap.size ≤ k ∧ k < wA.heap.size) → k < wA.heap.size ∧ k ≠ Q ∧ ¬ chE P v6 k) := fun k hk => ⟨hk.2, by have : Q < w8.heap.size := cell_lt q0; omega, fun e => by have := (HPA8.out.blk k e).2; omega⟩
    clear y0 y1 y2 q0 q1 q2 f0 f1 f2 e1 e2 e3 hrA hbA HU8 HPA8 HST8 HQ8
    obtain ⟨rBt, rBa, rBn, rBc, rBp, rBm, rBd, rBi, rBy⟩ := rA
    have fQ := fr3K wA Q (.int .i64 rBt) (.slice rBa rBn rBc) (.slice rBp rBm rBd)
    have HTB : Hid (V3 (((wA.setCell ⟨Q, 0, none⟩ (.int .i64 rBt)).setCell ⟨Q, 1, none⟩ (.slice rBa rBn rBc)).setCell ⟨Q, 2, none⟩ (.slice rBp rBm rBd)) Q (.int .i64 rBt) (.slice rBa rBn rBc) (.slice rBp rBm rBd)) := ((HQA.out.s0 _).s1 _).s2 _
    have HUB : Hid (MnI S P X Y N x ⟨yt, ya, yn, yc, yp, ym, yd, yi, yy⟩ n0 ch (.slice ak nk ck) v6 (((wA.setCell ⟨Q, 0, none⟩ (.int .i64 rBt)).setCell ⟨Q, 1, none⟩ (.slice rBa rBn rBc)).setCell ⟨Q, 2, none⟩ (.slice rBp rBm rBd))) := HUA.out.frQ fQ HQO.out
    have HPAB : Hid (PAe (((wA.setCell ⟨Q, 0, none⟩ (.int .i64 rBt)).setCell ⟨Q, 1, none⟩ (.slice rBa rBn rBc)).setCell ⟨Q, 2, none⟩ (.slice rBp rBm rBd)) P s g v6 (h + 1) xs2 vl vs md nx) := HPAA.out.fr fQ (fun k hk e => HQn6.out (by rw [← e]; exact hk))
    have HSTB : Hid (ChStep P v v6 w (((wA.setCell ⟨Q, 0, none⟩ (.int .i64 rBt)).setCell ⟨Q, 1, none⟩ (.slice rBa rBn rBc)).setCell ⟨Q, 2, none⟩ (.slice rBp rBm rBd))) := ⟨frNewQ HSTA.out.fr fQ (fun q hq => by have h1 := HQO.out.2.1; have h2 := HXE.out; omega), HSTA.out.own⟩
    have HTXB : Hid (TxOk (fun q => w8.heap.size ≤ q ∧ q < wA.heap.size) (((wA.setCell ⟨Q, 0, none⟩ (.int .i64 rBt)).setCell ⟨Q, 1, none⟩ (.slice rBa rBn rBc)).setCell ⟨Q, 2, none⟩ (.slice rBp rBm rBd)) ⟨rBt, rBa, rBn, rBc, rBp, rBm, rBd, rBi, rBy⟩) := HTXA.out.fr fQ (fun k hk => (HNA.out k hk).2.1)
    have HNB : Hid (∀ k, (w8.heap.size ≤ k ∧ k < wA.heap.size) → k < (((wA.setCell ⟨Q, 0, none⟩ (.int .i64 rBt)).setCell ⟨Q, 1, none⟩ (.slice rBa rBn rBc)).setCell ⟨Q, 2, none⟩ (.slice rBp rBm rBd)).heap.size ∧ ¬ chE P v6 k) := fun k hk => ⟨Nat.lt_of_lt_of_le (HNA.out k hk).1 fQ.size, (HNA.out k hk).2.2⟩
    obtain ⟨q0, q1, q2, qz⟩ := HQA.out
    have f0 := qz 0
    have f1 := qz 1
    have f2 := qz 2
    clear qz
    go_upto_region 20 with fail
    clear fQ HUA HPAA HSTA HQA HTXA HNA q0 q1 q2 f0 f1 f2
    generalize (((wA.setCell ⟨Q, 0, none⟩ (.int .i64 rBt)).setCell ⟨Q, 1, none⟩ (.slice rBa rBn rBc)).setCell ⟨Q, 2, none⟩ (.slice rBp rBm rBd)) = wB at *
    have HKWB : Hid (wB.cell? ⟨S, 0, none⟩ = some (.pointer (some ⟨P, 0, none⟩)) ∧ wB.cell? ⟨Q, 0, none⟩ = some (.int .i64 rBt) ∧ wB.cell? ⟨Q, 1, none⟩ = some (.slice rBa rBn rBc) ∧ wB.cell? ⟨Q, 2, none⟩ = some (.slice rBp rBm rBd)) := ⟨HUB.out.c0, HTB.out.c0, HTB.out.c1, HTB.out.c2⟩
    obtain ⟨s0, t0, t1, t2⟩ := HKWB.out
    have hSl : S < wB.heap.size := cell_lt s0
    have hTl : Q < wB.heap.size := cell_lt t0
    have HSn : Hid (¬ chE P v6 S) := HUB.out.nS.2
    go_region_held3 (fun w' => w'.cell? ⟨S, 0, none⟩ = some (.pointer (some ⟨P, 0, none⟩)) ∧ w'.cell? ⟨Q, 0, none⟩ = some (.int .i64 rBt) ∧ w'.cell? ⟨Q, 1, none⟩ = some (.slice rBa rBn rBc) ∧ w'.cell? ⟨Q, 2, none⟩ = some (.slice rBp rBm rBd)) (first | assumption | go_keep | exact keepM4 hstC.fr HKWB.out HSn.out HQn6.out) ((go_at_call 43; refine (conn1 P s g v6 (h + 1) xs2 vl vs md nx _ ⟨rBt, rBa, rBn, rBc, rBp, rBm, rBd, rBi, rBy⟩ 4 0 (h + 1) xs2 wB HPAB.out (by omega) HV2.out (by omega) HTXB.out HNB.out HCA.out).mono ?_; rintro e wC ⟨rfl, vC, hpC, hstC⟩))
    have HFIN : Hid (PAe wC P s g vC (h + 1) xs2 vl vs md nx ∧ ChStep P v vC w wC) := ⟨hpC, HSTB.out.trans hstC⟩
    clear hpC hstC s0 t0 t1 t2 hSl hTl
    go_wp2
    go_ret
    exact ⟨rfl, vC, HFIN.out.1, HFIN.out.2⟩
end Go.Proofs.YtffgpepngcnjeabGreatQ
