/-
  Undone: the last block goes.
-/
import Derived.Test.YtffgpepngcnjeaaUndC
import Derived.Test.YtffgpepngcnjeaaNewZ
namespace Go.Proofs.Ytffgpepngcnjeaa
open Go.RowKit

theorem getD_take {α : Type} (l : List α) (d : α) (n i : Nat) (h : i < n) : (l.take n).getD i d = l.getD i d := by
  simp only [List.getD]
  rw [List.getElem?_take_of_lt h]

/-- a block and a look less -/
theorem Mid_.pop {B0 P T : Nat} {s : Int} {g h : Nat} {bls : List (List TxD)} {ps : List (List Cel)} {bl : List TxD} {p : List Cel} {v : Value} {gb gl cb cl : Nat} {bs : List BkD} {ls : List LkD} {w : World} (u : Mid_ B0 P T s g (bls ++ [bl]) (ps ++ [p]) v (.slice (some ⟨gb, 0, none⟩) (h + 1) cb) (.slice (some ⟨gl, 0, none⟩) (h + 1) cl) bs ls w) (hb : bls.length = h) (hp : ps.length = h) :
    Mid_ B0 P T s g bls ps v (.slice (some ⟨gb, 0, none⟩) h cb) (.slice (some ⟨gl, 0, none⟩) h cl) (bs.take h) (ls.take h) ((w.setCell ⟨T, 0, none⟩ (.slice (some ⟨gb, 0, none⟩) h cb)).setCell ⟨T, 1, none⟩ (.slice (some ⟨gl, 0, none⟩) h cl)) ∧ Fr (fun k => k = T) w ((w.setCell ⟨T, 0, none⟩ (.slice (some ⟨gb, 0, none⟩) h cb)).setCell ⟨T, 1, none⟩ (.slice (some ⟨gl, 0, none⟩) h cl)) := by
  have hT : T < w.heap.size := cell_lt u.t0
  have hbs : bs.length = h + 1 := by rw [u.bl]; simp [hb]
  have hls : ls.length = h + 1 := by rw [u.ll]; simp [hp]
  have hf : Fr (fun k => k = T) w ((w.setCell ⟨T, 0, none⟩ (.slice (some ⟨gb, 0, none⟩) h cb)).setCell ⟨T, 1, none⟩ (.slice (some ⟨gl, 0, none⟩) h cl)) := ((Fr.refl (fun k => k = T) w).set T 0 _ (fun _ => rfl)).set T 1 _ (fun _ => rfl)
  have hbT := (u.ob.blk gb rfl).1
  have hlT := (u.ol.blk gl rfl).1
  have hB : Below B0 w ((w.setCell ⟨T, 0, none⟩ (.slice (some ⟨gb, 0, none⟩) h cb)).setCell ⟨T, 1, none⟩ (.slice (some ⟨gl, 0, none⟩) h cl)) := hf.toBelow B0 (by have := u.lt; omega) (fun k hk => by have := u.lt; omega)
  have hBw : B0 ≤ w.heap.size := by have := u.lt; omega
  have o1 := OwnRec.take bk1 u.ob hbs h (by omega)
  have o2 := OwnRec.take lk6 u.ol hls h (by omega)
  refine ⟨⟨so (ss u.t0) (by decide), ss (so u.t1 (by decide)), by rw [World.frozen?_setCell, World.frozen?_setCell]; exact u.f0, by rw [World.frozen?_setCell, World.frozen?_setCell]; exact u.f1, hf.own o1 (fun k hk e => ?_), hf.own o2 (fun k hk e => ?_), u.lt, fun k hk => u.s1 k hk, fun k hk => u.s2 k hk, by rw [List.length_take]; omega, fun i hi => ?_, by rw [List.length_take]; omega, fun i hi => ?_, fun i hi a ha => ?_⟩, hf⟩
  · simp [Value.ownBlock] at hk; omega
  · simp [Value.ownBlock] at hk; omega
  · have h1 := u.bo i (by simp; omega)
    rw [getD_app_left _ _ _ _ hi] at h1
    rw [getD_take _ _ _ _ (by omega)]
    exact h1.below hB hBw
  · have h1 := u.lo i (by simp; omega)
    rw [getD_app_left _ _ _ _ hi] at h1
    rw [getD_take _ _ _ _ (by omega)]
    exact h1.fr_ hf (fun a ha e => (u.cb i (by simp; omega) a ha).2 (Or.inr (Or.inl e)))
  · rw [getD_take _ _ _ _ (by omega)] at ha
    have h1 := u.cb i (by simp; omega) a ha
    exact ⟨Nat.lt_of_lt_of_le h1.1 hf.size, h1.2⟩

set_option maxRecDepth 100000 in
set_option maxHeartbeats 2000000 in
theorem off_none (B0 P T : Nat) (s : Int) (g : Nat) (xs : List Cel) (bls : List (List TxD)) (ps : List (List Cel)) (v vb vl : Value) (bs : List BkD) (ls : List LkD) (w : World) (hs : Mk.isM s = true) (hg : 1 ≤ g) (hg2 : g ≤ 20)
    (u : UI B0 P T s g 0 xs bls ps v vb vl bs ls w) :
    Calls Try.prog 38 #[.pointer (some ⟨T, 0, none⟩), .pointer (some ⟨P, 0, none⟩)] w fun e w' => e = .returned (.bool true) ∧ UEx B0 P T s g w' ∧ Below B0 w w' := by
  obtain ⟨fU, fV, fL, f40, fbl, fps⟩ := Hst.facts 0 xs bls ps u.hst
  have hll := u.ll
  rw [fps] at hll
  obtain ⟨al, cl, hvl, _⟩ := OwnRec.at lk6 u.ol
  rw [hll] at hvl
  subst hvl
  have HU : Hid (UI B0 P T s g 0 xs bls ps v vb (.slice al 0 cl) bs ls w) := u
  have HV : Hid (Vals xs) := fV
  have HL : Hid (xs.length ≤ 100) := by show _ ≤ _; omega
  have t1 := u.t1
  have hlt := u.lt
  have hbig := u.big
  clear u fU fV fL hll
  go_enter Try.func38, Try.ntmps38
  go_wp2_with fail
  refine (pLooked_any P s g v 0 xs _ hs hg hg2 HU.out.pat (by have := HL.out; omega) HV.out).mono ?_
  rintro e w1 ⟨ac, cc, rfl, ho1, hb1⟩
  have hbA : Below w1.heap.size w1 (w1.alloc (.cells #[.int .i64 0, .int .i64 (winZ xs s g 0), .int .i64 (winZ xs s g 1), .int .i64 (sumC (ownOf xs s g)), .int .i64 (sumC (ownOf xs s g)), .slice ac (ownOf xs s g).length cc] 81)) := (Below.refl _ _).alloc (Nat.le_refl _) _
  have hL1 : LookIn (w1.alloc (.cells #[.int .i64 0, .int .i64 (winZ xs s g 0), .int .i64 (winZ xs s g 1), .int .i64 (sumC (ownOf xs s g)), .int .i64 (sumC (ownOf xs s g)), .slice ac (ownOf xs s g).length cc] 81)) s g 0 xs w1.heap.size ac cc := ⟨VB.new _ _ _ _ _ _ _ _, owns_lower (ho1.grown hbA) (Nat.zero_le _)⟩
  have hbW2 := hb1.trans (hbA.mono hb1.size)
  go_wp2_with fail
  generalize w1.alloc (.cells #[.int .i64 0, .int .i64 (winZ xs s g 0), .int .i64 (winZ xs s g 1), .int .i64 (sumC (ownOf xs s g)), .int .i64 (sumC (ownOf xs s g)), .slice ac (ownOf xs s g).length cc] 81) = w2 at *
  have HU2 : Hid (UI B0 P T s g 0 xs bls ps v vb (.slice al 0 cl) bs ls w2) := HU.out.grown hbW2
  have HL2 : Hid (LookIn w2 s g 0 xs w1.heap.size ac cc) := hL1
  have HBW2 : Hid (Below w.heap.size w w2) := hbW2
  clear hL1 hbA ho1 hb1 hbW2
  refine (pDis_none P s g v _ (pat_row HU2.out.pat)).mono ?_
  rintro e w' ⟨rfl, rfl⟩
  go_wp2_with fail
  refine (pLooked_any P s g v 0 xs _ hs hg hg2 HU2.out.pat (by have := HL.out; omega) HV.out).mono ?_
  rintro e w5 ⟨ac5, cc5, rfl, ho5, hb5⟩
  have hbA : Below w5.heap.size w5 (w5.alloc (.cells #[.int .i64 0, .int .i64 (winZ xs s g 0), .int .i64 (winZ xs s g 1), .int .i64 (sumC (ownOf xs s g)), .int .i64 (sumC (ownOf xs s g)), .slice ac5 (ownOf xs s g).length cc5] 81)) := (Below.refl _ _).alloc (Nat.le_refl _) _
  have hL6 : LookIn (w5.alloc (.cells #[.int .i64 0, .int .i64 (winZ xs s g 0), .int .i64 (winZ xs s g 1), .int .i64 (sumC (ownOf xs s g)), .int .i64 (sumC (ownOf xs s g)), .slice ac5 (ownOf xs s g).length cc5] 81)) s g 0 xs w5.heap.size ac5 cc5 := ⟨VB.new _ _ _ _ _ _ _ _, owns_lower (ho5.grown hbA) (Nat.zero_le _)⟩
  have hL6b := (HL2.out.grown hb5).grown hbA
  have hb6 := below_blk hb5 hbA
  go_upto_region 6 with fail
  generalize w5.alloc (.cells #[.int .i64 0, .int .i64 (winZ xs s g 0), .int .i64 (winZ xs s g 1), .int .i64 (sumC (ownOf xs s g)), .int .i64 (sumC (ownOf xs s g)), .slice ac5 (ownOf xs s g).length cc5] 81) = w6 at *
  obtain ⟨ca, cca, ea, hata⟩ := OwnRec.at coin6 hL6b.ow
  injection ea with ea1 _ _
  subst ea1
  obtain ⟨cb, ccb, eb, hatb⟩ := OwnRec.at coin6 hL6.ow
  injection eb with eb1 _ _
  subst eb1
  have HTA : Hid (RecAt CoinD.l w6 ac (ownOf xs s g)) := hata
  have HTB : Hid (RecAt CoinD.l w6 ac5 (ownOf xs s g)) := hatb
  have HOL : Hid ((ownOf xs s g).length ≤ 10000) := by show _ ≤ _; have := ownOf_len xs s g; have := HL.out; omega
  obtain ⟨p0, p1, p2, p3, p4, p5, _⟩ := hL6b.vb
  obtain ⟨q0, q1, q2, q3, q4, q5, _⟩ := hL6.vb
  have HFIN : Hid (∀ w7, Below w6.heap.size w6 w7 → UEx B0 P T s g w7 ∧ Below B0 w w7) := fun w7 h7 => by
    have hb7 := below_blk hb6 h7
    refine ⟨⟨0, xs, bls, ps, v, vb, _, bs, ls, HU2.out.grown hb7⟩, (HBW2.out.mono (by omega)).trans (hb7.mono ?_)⟩
    have := HU2.out.big
    omega
  clear hL6 hL6b hb5 hbA hb6 ho5 hata hatb
  generalize w5.heap.size = L2 at *
  generalize w1.heap.size = L1 at *
  clear HL2 HBW2 HU2 HU HV HL
  generalize sumC (ownOf xs s g) = SC at *
  generalize winZ xs s g 0 = W0 at *
  generalize winZ xs s g 1 = W1 at *
  generalize ownOf xs s g = oc at *
  generalize hol : oc.length = ol at *
  have HOE : Hid (oc.length = ol) := hol
  have HOM : Hid (ol ≤ 10000) := HOL.out
  clear hol HOL
  go_wp2_with (go_at_call 42; refine (alike_any 0 0 0 (W0 : Int) (W1 : Int) SC SC ac ac5 ol _ _ oc _ HTA.out HTB.out HOE.out HOM.out (by omega) (by omega) (by omega)).mono ?_; rintro e w7 ⟨rfl, hb7⟩)
  go_ret
  exact ⟨rfl, HFIN.out w7 hb7⟩

theorem hst_last {h : Nat} {xs : List Cel} {bls : List (List TxD)} {ps : List (List Cel)} (hh : Hst (h + 1) xs bls ps) : ∃ p bls0 ps0 bl, bls = bls0 ++ [bl] ∧ ps = ps0 ++ [p] ∧ Hst h p bls0 ps0 ∧ connZ h p bl = (0, 0, (h : Int) + 1, xs) ∧ tbZ h xs = p := by
  obtain ⟨p, bls0, ps0, bl, e1, e2, h0, hc⟩ := hh
  refine ⟨p, bls0, ps0, bl, e1, e2, h0, hc, ?_⟩
  obtain ⟨a1, _⟩ := Hst.facts h p bls0 ps0 h0
  rcases conn_cases h p bl a1 (by omega) with ⟨c1, _⟩ | ⟨_, _, _, _, c5⟩
  · rw [hc] at c1; simp at c1
  · rw [hc] at c5
    exact tb_over c5

set_option maxRecDepth 100000 in
set_option maxHeartbeats 2000000 in
theorem off_some (B0 P T : Nat) (s : Int) (g h : Nat) (xs : List Cel) (bls : List (List TxD)) (ps : List (List Cel)) (v vb vl : Value) (bs : List BkD) (ls : List LkD) (w : World) (hs : Mk.isM s = true) (hg : 1 ≤ g) (hg2 : g ≤ 20)
    (u : UI B0 P T s g (h + 1) xs bls ps v vb vl bs ls w) :
    Calls Try.prog 38 #[.pointer (some ⟨T, 0, none⟩), .pointer (some ⟨P, 0, none⟩)] w fun e w' => e = .returned (.bool true) ∧ UEx B0 P T s g w' ∧ Below B0 w w' := by
  obtain ⟨fU, fV, fL, f40, fbl, fps⟩ := Hst.facts (h + 1) xs bls ps u.hst
  obtain ⟨p, bls0, ps0, bl, rfl, rfl, hst0, _, htb⟩ := hst_last u.hst
  obtain ⟨gU, gV, gL, g40, gbl, gps⟩ := Hst.facts h p bls0 ps0 hst0
  have hll : ls.length = h + 1 := by rw [u.ll, fps]
  have hbb : bs.length = h + 1 := by rw [u.bl, fbl]
  obtain ⟨al, cl, hvl, _⟩ := OwnRec.at lk6 u.ol
  rw [hll] at hvl
  subst hvl
  obtain ⟨ab, cb, hvb, _⟩ := OwnRec.at bk1 u.ob
  rw [hbb] at hvb
  subst hvb
  obtain ⟨gl, hgl, _, _, _, _⟩ := own_some lk6 u.ol hll (by omega)
  subst hgl
  obtain ⟨gb, hgb, _, _, _, _⟩ := own_some bk1 u.ob hbb (by omega)
  subst hgb
  have hcl := OwnRec.cap u.ol hll
  have hcb := OwnRec.cap u.ob hbb
  have hpat : PAt w P s g v ((h : Int) + 1) xs := by have := u.pat; push_cast at this; exact this
  have HU : Hid (UI B0 P T s g (h + 1) xs (bls0 ++ [bl]) (ps0 ++ [p]) v (.slice (some ⟨gb, 0, none⟩) (h + 1) cb) (.slice (some ⟨gl, 0, none⟩) (h + 1) cl) bs ls w) := u
  have HPA : Hid (PAt w P s g v ((h : Int) + 1) xs) := hpat
  have HV : Hid (Vals xs) := fV
  have HGV : Hid (Vals p) := gV
  have HL : Hid (xs.length ≤ 2000) := by show _ ≤ _; omega
  have HGL : Hid (p.length ≤ 2000) := by show _ ≤ _; omega
  have HTB : Hid (tbZ h xs = p) := htb
  have HS0 : Hid (Hst h p bls0 ps0) := hst0
  have t1 := u.t1
  have hlt := u.lt
  have hbig := u.big
  have HPB : Hid (∀ k, chE P v k → P ≤ k ∧ k < w.heap.size) := u.pat.blk
  clear u fU fV fL hpat gU gV gL htb hst0
  go_enter Try.func38, Try.ntmps38
  go_wp2_with fail
  refine (pLooked_any P s g v ((h : Int) + 1) xs _ hs hg hg2 HPA.out (by have := HL.out; omega) HV.out).mono ?_
  rintro e w1 ⟨ac, cc, rfl, ho1, hb1⟩
  have hbA : Below w1.heap.size w1 (w1.alloc (.cells #[.int .i64 ((h : Int) + 1), .int .i64 (winZ xs s g 0), .int .i64 (winZ xs s g 1), .int .i64 (sumC (ownOf xs s g)), .int .i64 (sumC (ownOf xs s g)), .slice ac (ownOf xs s g).length cc] 81)) := (Below.refl _ _).alloc (Nat.le_refl _) _
  have hbW2 := hb1.trans (hbA.mono hb1.size)
  go_wp2_with fail
  generalize w1.alloc (.cells #[.int .i64 ((h : Int) + 1), .int .i64 (winZ xs s g 0), .int .i64 (winZ xs s g 1), .int .i64 (sumC (ownOf xs s g)), .int .i64 (sumC (ownOf xs s g)), .slice ac (ownOf xs s g).length cc] 81) = w2 at *
  have HU2 : Hid (UI B0 P T s g (h + 1) xs (bls0 ++ [bl]) (ps0 ++ [p]) v (.slice (some ⟨gb, 0, none⟩) (h + 1) cb) (.slice (some ⟨gl, 0, none⟩) (h + 1) cl) bs ls w2) := HU.out.grown hbW2
  have HPA2 : Hid (PAt w2 P s g v ((h : Int) + 1) xs) := HPA.out.grown hbW2
  have HBW2 : Hid (Below w.heap.size w w2) := hbW2
  have hz2 := hbW2.size
  clear hbA ho1 hb1 hbW2
  refine (pDis_any P s g v ((h : Int) + 1) xs _ HPA2.out (by have := HL.out; omega) (by omega) (by omega)).mono ?_
  rintro e w3 ⟨rfl, v3, hp3, hst3⟩
  rw [show (h : Int) + 1 - 1 = (h : Int) by omega, HTB.out] at hp3
  have hz3 := hst3.fr.size
  have HM3 : Hid (Mid_ B0 P T s g (bls0 ++ [bl]) (ps0 ++ [p]) v3 (.slice (some ⟨gb, 0, none⟩) (h + 1) cb) (.slice (some ⟨gl, 0, none⟩) (h + 1) cl) bs ls w3) := HU2.out.mid.chain hst3 (fun k hk => (HPB.out k hk).1)
  have HP3 : Hid (PAt w3 P s g v3 h p) := hp3
  have HB3 : Hid (Below B0 w w3) := (HBW2.out.mono (by omega)).trans (hst3.fr.toBelow B0 (by omega) (fun k hk => by have := (HPB.out k hk).1; omega))
  clear hp3 hst3 HU2 HPA2 HBW2
  go_wp2_with fail
  refine (pLooked_any P s g v3 h p _ hs hg hg2 HP3.out (by have := HGL.out; omega) HGV.out).mono ?_
  rintro e w5 ⟨ac5, cc5, rfl, ho5, hb5⟩
  have hbA : Below w5.heap.size w5 (w5.alloc (.cells #[.int .i64 h, .int .i64 (winZ p s g 0), .int .i64 (winZ p s g 1), .int .i64 (sumC (ownOf p s g)), .int .i64 (sumC (ownOf p s g)), .slice ac5 (ownOf p s g).length cc5] 81)) := (Below.refl _ _).alloc (Nat.le_refl _) _
  have hL6 : LookIn (w5.alloc (.cells #[.int .i64 h, .int .i64 (winZ p s g 0), .int .i64 (winZ p s g 1), .int .i64 (sumC (ownOf p s g)), .int .i64 (sumC (ownOf p s g)), .slice ac5 (ownOf p s g).length cc5] 81)) s g h p w5.heap.size ac5 cc5 := ⟨VB.new _ _ _ _ _ _ _ _, owns_lower (ho5.grown hbA) (Nat.zero_le _)⟩
  have hb6 := below_blk hb5 hbA
  go_upto_region 7 with fail
  generalize w5.alloc (.cells #[.int .i64 h, .int .i64 (winZ p s g 0), .int .i64 (winZ p s g 1), .int .i64 (sumC (ownOf p s g)), .int .i64 (sumC (ownOf p s g)), .slice ac5 (ownOf p s g).length cc5] 81) = w6 at *
  have HM6 : Hid _ := HM3.out.grown hb6
  have HP6 : Hid (PAt w6 P s g v3 h p) := HP3.out.grown hb6
  have HB6 : Hid (Below B0 w w6) := HB3.out.trans (hb6.mono (by have hT3 : T < w3.heap.size := cell_lt HM3.out.t0; omega))
  obtain ⟨gl', hgl', _, _, hlrow, _⟩ := own_some lk6 HM6.out.ol hll (by omega)
  injection hgl' with hgl'
  injection hgl' with hgl'
  subst hgl'
  have hh1 : h < ls.length := by omega
  have m0 := rcell lk6 dLk hlrow h hh1 0 (by omega)
  have m1 := rcell lk6 dLk hlrow h hh1 1 (by omega)
  have m2 := rcell lk6 dLk hlrow h hh1 2 (by omega)
  have m3 := rcell lk6 dLk hlrow h hh1 3 (by omega)
  have m4 := rcell lk6 dLk hlrow h hh1 4 (by omega)
  have m5 := rcell lk6 dLk hlrow h hh1 5 (by omega)
  have hlo := HM6.out.lo h (by rw [fps]; omega)
  have epp : (ps0 ++ [p]).getD h [] = p := by rw [getD_app_right _ _ _ _ (by omega), gps, Nat.sub_self]; rfl
  rw [epp] at hlo
  generalize ls.getD h dLk = x at m0 m1 m2 m3 m4 m5 hlo
  obtain ⟨x0, x1, x2, x3, x4, xao, xn, xcp⟩ := x
  obtain ⟨k0, k1, k2, k3, k4, k5, k6, _⟩ := hlo
  simp only at k0 k1 k2 k3 k4 k5 k6
  subst k0 k1 k2 k3 k4 k5
  have r0 : w6.cell? ⟨gl, h * 6, none⟩ = some (.int .i64 h) := by rw [Nat.zero_add] at m0; exact m0
  have r1 : w6.cell? ⟨gl, h * 6 + 1, none⟩ = some (.int .i64 (winZ p s g 0)) := by rw [Nat.zero_add] at m1; exact m1
  have r2 : w6.cell? ⟨gl, h * 6 + 2, none⟩ = some (.int .i64 (winZ p s g 1)) := by rw [Nat.zero_add] at m2; exact m2
  have r3 : w6.cell? ⟨gl, h * 6 + 3, none⟩ = some (.int .i64 (sumC (ownOf p s g))) := by rw [Nat.zero_add] at m3; exact m3
  have r4 : w6.cell? ⟨gl, h * 6 + 4, none⟩ = some (.int .i64 (sumC (ownOf p s g))) := by rw [Nat.zero_add] at m4; exact m4
  have r5 : w6.cell? ⟨gl, h * 6 + 5, none⟩ = some (.slice xao (ownOf p s g).length xcp) := by rw [Nat.zero_add] at m5; exact m5
  clear m0 m1 m2 m3 m4 m5
  obtain ⟨cb2, ccb2, eb, hatb⟩ := OwnRec.at coin6 hL6.ow
  injection eb with eb1 _ _
  subst eb1
  have HTA : Hid (RecAt CoinD.l w6.drew xao (ownOf p s g)) := RecAt.heap k6 rfl
  have HTB2 : Hid (RecAt CoinD.l w6.drew ac5 (ownOf p s g)) := RecAt.heap hatb rfl
  have HOL : Hid ((ownOf p s g).length ≤ 10000) := by show _ ≤ _; have := ownOf_len p s g; have := HGL.out; omega
  obtain ⟨q0, q1, q2, q3, q4, q5, _⟩ := hL6.vb
  have t1' := HM6.out.t1
  have t0' := HM6.out.t0
  have hfin : ∀ w7, Below w6.heap.size w6 w7 → Mid_ B0 P T s g (bls0 ++ [bl]) (ps0 ++ [p]) v3 (.slice (some ⟨gb, 0, none⟩) (h + 1) cb) (.slice (some ⟨gl, 0, none⟩) (h + 1) cl) bs ls w7 ∧ PAt w7 P s g v3 h p ∧ Below B0 w w7 := fun w7 h7 => ⟨HM6.out.grown h7, HP6.out.grown h7, HB6.out.trans (h7.mono (by have hT6 : T < w6.heap.size := cell_lt t1'; omega))⟩
  have HFIN : Hid _ := hfin
  clear hfin hlrow hL6 hb5 hbA hb6 ho5 hatb k6 t1 epp
  generalize w5.heap.size = L2 at *
  generalize w1.heap.size = L1 at *
  clear HM3 HP3 HB3 HM6 HP6 HB6 HU HPA HV HGV HL HTB HPB
  generalize sumC (ownOf p s g) = SC at *
  generalize winZ p s g 0 = W0 at *
  generalize winZ p s g 1 = W1 at *
  generalize ownOf p s g = oc at *
  generalize hol : oc.length = ol at *
  have HOE : Hid (oc.length = ol) := hol
  have HOM : Hid (ol ≤ 10000) := HOL.out
  clear hol HOL
  generalize hki : h + 1 = K at *
  have HKI : Hid (h + 1 = K) := hki
  have hkb : ∀ w2, Below w6.drew.heap.size w6.drew w2 → w2.cell? ⟨T, 1, none⟩ = some (.slice (some ⟨gl, 0, none⟩) K cl) ∧ w2.cell? ⟨gl, h * 6, none⟩ = some (.int .i64 h) ∧ w2.cell? ⟨gl, h * 6 + 1, none⟩ = some (.int .i64 W0) ∧ w2.cell? ⟨gl, h * 6 + 2, none⟩ = some (.int .i64 W1) ∧ w2.cell? ⟨gl, h * 6 + 3, none⟩ = some (.int .i64 SC) ∧ w2.cell? ⟨gl, h * 6 + 4, none⟩ = some (.int .i64 SC) ∧ w2.cell? ⟨gl, h * 6 + 5, none⟩ = some (.slice xao ol xcp) ∧ w2.cell? ⟨L2, 0, none⟩ = some (.int .i64 h) ∧ w2.cell? ⟨L2, 1, none⟩ = some (.int .i64 W0) ∧ w2.cell? ⟨L2, 2, none⟩ = some (.int .i64 W1) ∧ w2.cell? ⟨L2, 3, none⟩ = some (.int .i64 SC) ∧ w2.cell? ⟨L2, 4, none⟩ = some (.int .i64 SC) ∧ w2.cell? ⟨L2, 5, none⟩ = some (.slice ac5 ol cc5) := fun w2 hb =>
    ⟨(hb.cell (p := ⟨T, 1, none⟩) (cell_lt t1')).trans t1', (hb.cell (p := ⟨gl, h * 6, none⟩) (cell_lt r0)).trans r0, (hb.cell (p := ⟨gl, h * 6 + 1, none⟩) (cell_lt r1)).trans r1, (hb.cell (p := ⟨gl, h * 6 + 2, none⟩) (cell_lt r2)).trans r2, (hb.cell (p := ⟨gl, h * 6 + 3, none⟩) (cell_lt r3)).trans r3, (hb.cell (p := ⟨gl, h * 6 + 4, none⟩) (cell_lt r4)).trans r4, (hb.cell (p := ⟨gl, h * 6 + 5, none⟩) (cell_lt r5)).trans r5, (hb.cell (p := ⟨L2, 0, none⟩) (cell_lt q0)).trans q0, (hb.cell (p := ⟨L2, 1, none⟩) (cell_lt q1)).trans q1, (hb.cell (p := ⟨L2, 2, none⟩) (cell_lt q2)).trans q2, (hb.cell (p := ⟨L2, 3, none⟩) (cell_lt q3)).trans q3, (hb.cell (p := ⟨L2, 4, none⟩) (cell_lt q4)).trans q4, (hb.cell (p := ⟨L2, 5, none⟩) (cell_lt q5)).trans q5⟩
  have HKB : Hid _ := hkb
  clear hkb
  have hKc : ((h : Int) + 1) = (K : Int) := by omega
  have e3 : (h : Int) < (K : Int) := by omega
  have e4 : (0 : Int) ≤ (h : Int) := by omega
  have hw1 : IntKind.i64.wrap ((K : Int) - 1) = h := by rw [show (K : Int) - 1 = h by omega]; exact IntWalk.i64_in _ ⟨by omega, by omega⟩
  go_region_held3 (fun w' => w'.cell? ⟨T, 1, none⟩ = some (.slice (some ⟨gl, 0, none⟩) K cl) ∧ w'.cell? ⟨gl, h * 6, none⟩ = some (.int .i64 h) ∧ w'.cell? ⟨gl, h * 6 + 1, none⟩ = some (.int .i64 W0) ∧ w'.cell? ⟨gl, h * 6 + 2, none⟩ = some (.int .i64 W1) ∧ w'.cell? ⟨gl, h * 6 + 3, none⟩ = some (.int .i64 SC) ∧ w'.cell? ⟨gl, h * 6 + 4, none⟩ = some (.int .i64 SC) ∧ w'.cell? ⟨gl, h * 6 + 5, none⟩ = some (.slice xao ol xcp) ∧ w'.cell? ⟨L2, 0, none⟩ = some (.int .i64 h) ∧ w'.cell? ⟨L2, 1, none⟩ = some (.int .i64 W0) ∧ w'.cell? ⟨L2, 2, none⟩ = some (.int .i64 W1) ∧ w'.cell? ⟨L2, 3, none⟩ = some (.int .i64 SC) ∧ w'.cell? ⟨L2, 4, none⟩ = some (.int .i64 SC) ∧ w'.cell? ⟨L2, 5, none⟩ = some (.slice ac5 ol cc5)) (first | assumption | go_keep) ((go_at_call 42; refine (alike_any (h : Int) (h : Int) 0 (W0 : Int) (W1 : Int) SC SC xao ac5 ol _ _ oc _ HTA.out HTB2.out HOE.out HOM.out (by omega) (by omega) (by omega)).mono ?_; rintro e w7 ⟨rfl, hb7⟩; have hk9 := HKB.out w7 hb7))
  obtain ⟨hm7, hp7, hbB7⟩ := HFIN.out w7 (((Below.refl w6.heap.size w6).drew).trans hb7)
  clear hk9 HKB HFIN hb7 r0 r1 r2 r3 r4 r5 q0 q1 q2 q3 q4 q5 t1' t0'
  have hKe := HKI.out
  subst hKe
  obtain ⟨hm8, hf8⟩ := hm7.pop gbl gps
  have t0 := hm7.t0
  have t1 := hm7.t1
  have f0 := hm7.f0
  have f1 := hm7.f1
  have HFIN : Hid (UEx B0 P T s g ((w7.setCell ⟨T, 0, none⟩ (.slice (some ⟨gb, 0, none⟩) h cb)).setCell ⟨T, 1, none⟩ (.slice (some ⟨gl, 0, none⟩) h cl)) ∧ Below B0 w ((w7.setCell ⟨T, 0, none⟩ (.slice (some ⟨gb, 0, none⟩) h cb)).setCell ⟨T, 1, none⟩ (.slice (some ⟨gl, 0, none⟩) h cl))) := by
    have hT7 : T < w7.heap.size := cell_lt t0
    refine ⟨⟨h, p, bls0, ps0, v3, _, _, _, _, hm8.ui (hp7.fr hf8 (fun k hk e => (hm7.s1 k hk).1 e)) HS0.out⟩, hbB7.trans (hf8.toBelow B0 (by omega) (fun k hk => by omega))⟩
  have c1 := hcl.1
  have c2 := hcb.1
  have i1 : (h : Int) ≤ (cb : Int) := by omega
  have i2 : (h : Int) ≤ (cl : Int) := by omega
  have hw2 : IntKind.i64.wrap ((h : Int) + 1 - 1) = h := by rw [show (h : Int) + 1 - 1 = h by omega]; exact IntWalk.i64_in _ ⟨by omega, by omega⟩
  have hsub : (h : Int) + 1 - 1 = h := by omega
  clear hm7 hm8 hf8 hp7 hbB7 hw1 hKc
  go_wp2
  go_ret
  exact ⟨rfl, HFIN.out⟩

theorem off_any (B0 P T : Nat) (s : Int) (g h : Nat) (xs : List Cel) (bls : List (List TxD)) (ps : List (List Cel)) (v vb vl : Value) (bs : List BkD) (ls : List LkD) (w : World) (hs : Mk.isM s = true) (hg : 1 ≤ g) (hg2 : g ≤ 20)
    (u : UI B0 P T s g h xs bls ps v vb vl bs ls w) :
    Calls Try.prog 38 #[.pointer (some ⟨T, 0, none⟩), .pointer (some ⟨P, 0, none⟩)] w fun e w' => e = .returned (.bool true) ∧ UEx B0 P T s g w' ∧ Below B0 w w' := by
  cases h with
  | zero => exact off_none B0 P T s g xs bls ps v vb vl bs ls w hs hg hg2 u
  | succ h => exact off_some B0 P T s g h xs bls ps v vb vl bs ls w hs hg hg2 u

end Go.Proofs.Ytffgpepngcnjeaa
