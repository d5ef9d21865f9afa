/-
  Undone: a block comes.
-/
import Derived.Test.YtffgpepngcnjeaaUndZ
namespace Go.Proofs.Ytffgpepngcnjeaa
open Go.RowKit

/-- what on and off leave -/
def UEx (B0 P T : Nat) (s : Int) (g : Nat) (w : World) : Prop := ∃ h xs bls ps v vb vl bs ls, UI B0 P T s g h xs bls ps v vb vl bs ls w

/-- a look in memory, with its coins -/
structure LookIn (w : World) (s : Int) (g : Nat) (h : Nat) (xs : List Cel) (L : Nat) (ac : Option Addr) (cc : Nat) : Prop where
  vb : VB w L (.int .i64 h) (.int .i64 (winZ xs s g 0)) (.int .i64 (winZ xs s g 1)) (.int .i64 (sumC (ownOf xs s g))) (.int .i64 (sumC (ownOf xs s g))) (.slice ac (ownOf xs s g).length cc)
  ow : OwnRec CoinD.l 143 6 w 0 (.slice ac (ownOf xs s g).length cc) (ownOf xs s g)
theorem LookIn.fr {E : Nat → Prop} {w w' : World} (hf : Fr E w w') {s : Int} {g h : Nat} {xs : List Cel} {L : Nat} {ac : Option Addr} {cc : Nat} (l : LookIn w s g h xs L ac cc) (h1 : ¬ E L) (h2 : ∀ k, (Value.slice ac (ownOf xs s g).length cc).ownBlock = some k → ¬ E k) : LookIn w' s g h xs L ac cc := ⟨l.vb.fr hf h1, hf.own l.ow h2⟩
theorem LookIn.grown {w w' : World} (hb : Below w.heap.size w w') {s : Int} {g h : Nat} {xs : List Cel} {L : Nat} {ac : Option Addr} {cc : Nat} (l : LookIn w s g h xs L ac cc) : LookIn w' s g h xs L ac cc := l.fr (Fr.of_below hb (fun _ => False)) (fun h => h) (fun _ _ h => h)
theorem LookIn.ok {w : World} {s : Int} {g h : Nat} {xs : List Cel} {L : Nat} {ac : Option Addr} {cc : Nat} (l : LookIn w s g h xs L ac cc) : LkOk w s g h xs ⟨h, winZ xs s g 0, winZ xs s g 1, sumC (ownOf xs s g), sumC (ownOf xs s g), ac, (ownOf xs s g).length, cc⟩ := by
  obtain ⟨ao, c, e, hat⟩ := OwnRec.at coin6 l.ow
  injection e with e1 _ _
  subst e1
  refine ⟨rfl, rfl, rfl, rfl, rfl, rfl, hat, fun h0 => ?_⟩
  rcases OwnRec.slice coin6 l.ow with ⟨_, e⟩ | ⟨g', c', e, _⟩
  · simp only
    rw [e]
    rfl
  · injection e with e _ _
    simp only at h0
    rw [h0] at e
    cases e

theorem ownOf_len (xs : List Cel) (s : Int) (g : Nat) : (ownOf xs s g).length ≤ xs.length := Nat.le_trans (ownZ_len _ _) (coinsC_len xs)

set_option maxRecDepth 100000 in
set_option maxHeartbeats 1000000 in
theorem on_any (B0 P T : Nat) (s : Int) (g h : Nat) (xs : List Cel) (bls : List (List TxD)) (ps : List (List Cel)) (v vb vl : Value) (bs : List BkD) (ls : List LkD) (ao : Option Addr) (n c : Nat) (bl : List TxD) (w : World) (hs : Mk.isM s = true) (hg : 1 ≤ g) (hg2 : g ≤ 20)
    (u : UI B0 P T s g h xs bls ps v vb vl bs ls w) (hb : BkOk B0 w ⟨ao, n, c⟩ bl) :
    Calls Try.prog 37 #[.pointer (some ⟨T, 0, none⟩), .pointer (some ⟨P, 0, none⟩), .slice ao n c] w fun e w' => e = .returned (.bool true) ∧ UEx B0 P T s g w' ∧ Below B0 w w' := by
  obtain ⟨fU, fV, fL, f40, fbl, fps⟩ := Hst.facts h xs bls ps u.hst
  have HU : Hid (UI B0 P T s g h xs bls ps v vb vl bs ls w) := u
  have HB : Hid (BkOk B0 w ⟨ao, n, c⟩ bl) := hb
  have HUN : Hid (Und h xs) := fU
  have HV : Hid (Vals xs) := fV
  have HL : Hid (xs.length ≤ 48 * h) := fL
  have hlt := u.lt
  have hbig := u.big
  clear u hb fU fV fL
  go_enter Try.func37, Try.ntmps37
  go_wp2_with fail
  refine (pLooked_any P s g v h xs _ hs hg hg2 HU.out.pat (by have := HL.out; omega) HV.out).mono ?_
  rintro e w1 ⟨ac, cc, rfl, ho1, hb1⟩
  have hz1 := hb1.size
  have hbA : Below w1.heap.size w1 (w1.alloc (.cells #[.int .i64 h, .int .i64 (winZ xs s g 0), .int .i64 (winZ xs s g 1), .int .i64 (sumC (ownOf xs s g)), .int .i64 (sumC (ownOf xs s g)), .slice ac (ownOf xs s g).length cc] 81)) := (Below.refl _ _).alloc (Nat.le_refl _) _
  have hL1 : LookIn (w1.alloc (.cells #[.int .i64 h, .int .i64 (winZ xs s g 0), .int .i64 (winZ xs s g 1), .int .i64 (sumC (ownOf xs s g)), .int .i64 (sumC (ownOf xs s g)), .slice ac (ownOf xs s g).length cc] 81)) s g h xs w1.heap.size ac cc := ⟨VB.new _ _ _ _ _ _ _ _, owns_lower (ho1.grown hbA) (Nat.zero_le _)⟩
  have hcb := ho1.blk
  have HCB : Hid (∀ k, (Value.slice ac (ownOf xs s g).length cc).ownBlock = some k → w.heap.size ≤ k ∧ k < w1.heap.size) := hcb
  have hbW2 := hb1.trans (hbA.mono hz1)
  have hz2 : (w1.alloc (.cells #[.int .i64 h, .int .i64 (winZ xs s g 0), .int .i64 (winZ xs s g 1), .int .i64 (sumC (ownOf xs s g)), .int .i64 (sumC (ownOf xs s g)), .slice ac (ownOf xs s g).length cc] 81)).heap.size = w1.heap.size + 1 := by simp
  go_wp2_with fail
  generalize w1.alloc (.cells #[.int .i64 h, .int .i64 (winZ xs s g 0), .int .i64 (winZ xs s g 1), .int .i64 (sumC (ownOf xs s g)), .int .i64 (sumC (ownOf xs s g)), .slice ac (ownOf xs s g).length cc] 81) = w2 at *
  have HU2 : Hid (UI B0 P T s g h xs bls ps v vb vl bs ls w2) := HU.out.grown hbW2
  have HB2 : Hid (BkOk B0 w2 ⟨ao, n, c⟩ bl) := HB.out.below (hbW2.mono (by omega)) (by omega)
  have HL1 : Hid (LookIn w2 s g h xs w1.heap.size ac cc) := hL1
  clear ho1 hbA hL1 hcb
  refine (copyBlock_any (fun q => q < B0) ao n c bl _ HB2.out.at_ HB2.out.len HB2.out.sm HB2.out.sz (fun k hk => by omega)).mono ?_
  rintro e w3 ⟨ao', c', bl', rfl, hbl', hkk, hblk', hb3⟩
  have hz3 := hb3.size
  have HU3 : Hid (UI B0 P T s g h xs bls ps v vb vl bs ls w3) := HU2.out.grown hb3
  have HL3 : Hid (LookIn w3 s g h xs w1.heap.size ac cc) := HL1.out.grown hb3
  have HBK : Hid (BlkAt (fun q => w2.heap.size ≤ q ∧ q < w3.heap.size) w3 ao' bl') := hblk'
  have HKK : Hid (connZ h xs bl' = connZ h xs bl) := connZ_k h xs bl' bl hkk
  have HBL : Hid (bl'.length = n) := hbl'
  have HPB : Hid (∀ k, chE P v k → P ≤ k ∧ k < w.heap.size) := HU.out.pat.blk
  have hbW3 := hbW2.trans (hb3.mono (by omega))
  clear HU2 HB2 HL1 hblk' hkk hbl'
  go_wp2_with fail
  refine (pConnect_any P s g v h xs (fun q => w2.heap.size ≤ q ∧ q < w3.heap.size) ao' n c' bl' _ HU3.out.pat (by have := HL.out; omega) HV.out (by omega) HBK.out HBL.out (fun k hk => ⟨hk.2, fun e => by have := (HPB.out k e).2; omega⟩) (by have := HB.out.sz; simp only at this; omega)).mono ?_
  rintro e w4 ⟨rfl, v4, hp4, hst4⟩
  rw [HKK.out] at hp4 ⊢
  have hz4 := hst4.fr.size
  have HM4 : Hid (Mid_ B0 P T s g bls ps v4 vb vl bs ls w4) := HU3.out.mid.chain hst4 (fun k hk => (HPB.out k hk).1)
  have HL4 : Hid (LookIn w4 s g h xs w1.heap.size ac cc) := HL3.out.fr hst4.fr (fun e => by have := (HPB.out _ e).2; omega) (fun k hk e => by have := (HPB.out _ e).2; have := (HCB.out k hk).1; omega)
  have HB4 : Hid (Below B0 w w4) := (hbW3.mono (by omega)).trans (hst4.fr.toBelow B0 (by omega) (fun k hk => by have := (HPB.out k hk).1; omega))
  clear HU3 HL3 HBK HBL hbW2 hbW3 hb1 hb3
  rcases conn_cases h xs bl HUN.out (by omega) with ⟨hne, heq⟩ | ⟨hlt40, he0, hk0, hh1, hov⟩
  · rw [heq] at hp4
    simp only at hp4
    have HP4 : Hid (PAt w4 P s g v4 h xs) := hp4
    clear hp4 heq
    generalize (connZ h xs bl).1 = e9 at *
    generalize (connZ h xs bl).2.1 = k9 at *
    have hn1 : (e9 == 0) = false := by rw [beq_eq_false_iff_ne]; exact hne
    have hn2 : (e9 != 0) = true := by simp [bne, hn1]
    go_wp2_with fail
    refine (pLooked_any P s g v4 h xs _ hs hg hg2 HP4.out (by have := HL.out; omega) HV.out).mono ?_
    rintro e w5 ⟨ac5, cc5, rfl, ho5, hb5⟩
    have hbA : Below w5.heap.size w5 (w5.alloc (.cells #[.int .i64 h, .int .i64 (winZ xs s g 0), .int .i64 (winZ xs s g 1), .int .i64 (sumC (ownOf xs s g)), .int .i64 (sumC (ownOf xs s g)), .slice ac5 (ownOf xs s g).length cc5] 81)) := (Below.refl _ _).alloc (Nat.le_refl _) _
    have hL6 : LookIn (w5.alloc (.cells #[.int .i64 h, .int .i64 (winZ xs s g 0), .int .i64 (winZ xs s g 1), .int .i64 (sumC (ownOf xs s g)), .int .i64 (sumC (ownOf xs s g)), .slice ac5 (ownOf xs s g).length cc5] 81)) s g h xs w5.heap.size ac5 cc5 := ⟨VB.new _ _ _ _ _ _ _ _, owns_lower (ho5.grown hbA) (Nat.zero_le _)⟩
    have hL6b := (HL4.out.grown hb5).grown hbA
    have hb6 := below_blk hb5 hbA
    go_upto_region 6 with fail
    generalize w5.alloc (.cells #[.int .i64 h, .int .i64 (winZ xs s g 0), .int .i64 (winZ xs s g 1), .int .i64 (sumC (ownOf xs s g)), .int .i64 (sumC (ownOf xs s g)), .slice ac5 (ownOf xs s g).length cc5] 81) = w6 at *
    obtain ⟨ca, cca, ea, hata⟩ := OwnRec.at coin6 hL6b.ow
    injection ea with ea1 _ _
    subst ea1
    obtain ⟨cb, ccb, eb, hatb⟩ := OwnRec.at coin6 hL6.ow
    injection eb with eb1 _ _
    subst eb1
    have HTA : Hid (RecAt CoinD.l w6 ac (ownOf xs s g)) := hata
    have HTB : Hid (RecAt CoinD.l w6 ac5 (ownOf xs s g)) := hatb
    have HOL : Hid ((ownOf xs s g).length ≤ 10000) := by show _ ≤ _; have := ownOf_len xs s g; have := HL.out; omega
    obtain ⟨p0, p1, p2, p3, p4, p5, _⟩ := hL6b.vb
    obtain ⟨q0, q1, q2, q3, q4, q5, _⟩ := hL6.vb
    have HFIN : Hid (∀ w7, Below w6.heap.size w6 w7 → UEx B0 P T s g w7 ∧ Below B0 w w7) := fun w7 h7 => by
      have hb7 := below_blk hb6 h7
      have hT := cell_lt HM4.out.t0
      refine ⟨⟨h, xs, bls, ps, v4, vb, vl, bs, ls, (HM4.out.grown hb7).ui (HP4.out.grown hb7) HU.out.hst⟩, HB4.out.trans (hb7.mono ?_)⟩
      have : T < w4.heap.size := hT
      omega
    clear hL6 hL6b hb5 hbA hb6 ho5 hata hatb
    generalize w5.heap.size = L2 at *
    generalize w1.heap.size = L1 at *
    clear HL4 HB4 HM4 HP4 HU HB HUN HV HL HCB HPB HKK
    generalize sumC (ownOf xs s g) = SC at *
    generalize winZ xs s g 0 = W0 at *
    generalize winZ xs s g 1 = W1 at *
    generalize ownOf xs s g = oc at *
    generalize hol : oc.length = ol at *
    have HOE : Hid (oc.length = ol) := hol
    have HOM : Hid (ol ≤ 10000) := HOL.out
    clear hol HOL
    generalize hhi : (h : Int) = hi at *
    have HH : Hid (0 ≤ hi ∧ hi ≤ 100) := by show _ ∧ _; omega
    clear hhi
    go_wp2_with (go_at_call 42; refine (alike_any hi hi 0 (W0 : Int) (W1 : Int) SC SC ac ac5 ol _ _ oc _ HTA.out HTB.out HOE.out HOM.out (by omega) HH.out (by omega)).mono ?_; rintro e w7 ⟨rfl, hb7⟩)
    go_ret
    exact ⟨rfl, HFIN.out w7 hb7⟩
  · have hcl := conn_len h xs bl HV.out he0
    rw [he0, hk0]
    have hcon : connZ h xs bl = (0, 0, (h : Int) + 1, (connZ h xs bl).2.2.2) := Prod.ext he0 (Prod.ext hk0 (Prod.ext hh1 rfl))
    rw [hh1] at hp4
    generalize hx4 : (connZ h xs bl).2.2.2 = x4 at *
    have HP4 : Hid (PAt w4 P s g v4 ((h : Int) + 1) x4) := hp4
    have HCON : Hid (connZ h xs bl = (0, 0, (h : Int) + 1, x4)) := hcon
    have HV4 : Hid (Vals x4) := hcl.1
    have HLL : Hid (x4.length ≤ 2000) := by show _ ≤ _; have := hcl.2; have := HL.out; omega
    clear hp4 hcon hcl he0 hk0 hh1 hov hx4
    go_wp2_with fail
    refine (pLooked_any P s g v4 ((h : Int) + 1) x4 _ hs hg hg2 HP4.out (by have := HLL.out; omega) HV4.out).mono ?_
    rintro e w5 ⟨ac5, cc5, rfl, ho5, hb5⟩
    have hbA : Below w5.heap.size w5 (w5.alloc (.cells #[.int .i64 ((h : Int) + 1), .int .i64 (winZ x4 s g 0), .int .i64 (winZ x4 s g 1), .int .i64 (sumC (ownOf x4 s g)), .int .i64 (sumC (ownOf x4 s g)), .slice ac5 (ownOf x4 s g).length cc5] 81)) := (Below.refl _ _).alloc (Nat.le_refl _) _
    have hL6 : VB (w5.alloc (.cells #[.int .i64 ((h : Int) + 1), .int .i64 (winZ x4 s g 0), .int .i64 (winZ x4 s g 1), .int .i64 (sumC (ownOf x4 s g)), .int .i64 (sumC (ownOf x4 s g)), .slice ac5 (ownOf x4 s g).length cc5] 81)) w5.heap.size (.int .i64 ((h : Int) + 1)) (.int .i64 (winZ x4 s g 0)) (.int .i64 (winZ x4 s g 1)) (.int .i64 (sumC (ownOf x4 s g))) (.int .i64 (sumC (ownOf x4 s g))) (.slice ac5 (ownOf x4 s g).length cc5) := VB.new _ _ _ _ _ _ _ _
    have hL6b := (HL4.out.grown hb5).grown hbA
    have hb6 := below_blk hb5 hbA
    have hb5z := hb5.size
    go_upto_region 7 with fail
    generalize w5.alloc (.cells #[.int .i64 ((h : Int) + 1), .int .i64 (winZ x4 s g 0), .int .i64 (winZ x4 s g 1), .int .i64 (sumC (ownOf x4 s g)), .int .i64 (sumC (ownOf x4 s g)), .slice ac5 (ownOf x4 s g).length cc5] 81) = w6 at *
    have HM6 : Hid (Mid_ B0 P T s g bls ps v4 vb vl bs ls w6) := HM4.out.grown hb6
    have HP6 : Hid (PAt w6 P s g v4 ((h : Int) + 1) x4) := HP4.out.grown hb6
    have HB6 : Hid (Below B0 w w6) := HB4.out.trans (hb6.mono (by have hT4 : T < w4.heap.size := cell_lt HM4.out.t0; omega))
    have hT6 := HM6.out.t0
    have hTf := HM6.out.f0
    have hTl : T < w6.heap.size := cell_lt hT6
    have HPB6 : Hid (∀ k, chE P v4 k → P ≤ k ∧ k < w6.heap.size) := HP6.out.blk
    have HL6b : Hid (LookIn w6 s g h xs w1.heap.size ac cc) := hL6b
    have HL6 : Hid _ := hL6
    have HBLn : Hid (bs.length = h) := by show _ = _; rw [HM6.out.bl, fbl]
    have HLLn : Hid (ls.length = h) := by show _ = _; rw [HM6.out.ll, fps]
    have hvbT : some T ≠ vb.ownBlock := fun e => by have := (HM6.out.ob.blk T e.symm).1; omega
    clear hL6 hL6b hb5 hbA hb6 ho5
    have HBk6 : Hid (BkOk B0 w6 ⟨ao, n, c⟩ bl) := HB.out.below HB6.out (by omega)
    have hbN : Below w6.heap.size w6 (w6.alloc (.cells #[.slice ao n c] 75)) := (Below.refl _ _).alloc (Nat.le_refl _) _
    have HM7 : Hid (Mid_ B0 P T s g bls ps v4 vb vl bs ls (w6.alloc (.cells #[.slice ao n c] 75))) := HM6.out.grown hbN
    have HP7 : Hid (PAt (w6.alloc (.cells #[.slice ao n c] 75)) P s g v4 ((h : Int) + 1) x4) := HP6.out.grown hbN
    have HLb7 : Hid (LookIn (w6.alloc (.cells #[.slice ao n c] 75)) s g h xs w1.heap.size ac cc) := HL6b.out.grown hbN
    have HL7 : Hid _ := HL6.out.grown hbN
    have HBk7 : Hid (BkOk B0 (w6.alloc (.cells #[.slice ao n c] 75)) ⟨ao, n, c⟩ bl) := HBk6.out.below (hbN.mono (by omega)) (by omega)
    have HB7 : Hid (Below B0 w (w6.alloc (.cells #[.slice ao n c] 75))) := HB6.out.trans (hbN.mono (by omega))
    go_upto_region 8 with (at_builtin; refine wpList_appR 71 24 _ Try.underlying71 info75 rfl (by decide) bk1 bk_one (w6.alloc (.cells #[.slice ao n c] 75)) rfl _ _ rfl (T + 1) w6.heap.size 1 _ bs ⟨ao, n, c⟩ (by rfl) (by rfl) HM7.out.ob (vrow_new _ _ _) (by simp; omega) (by rw [HBLn.out]; unfold maxLen; omega) (by rw [HBLn.out]; omega) ?_; intro gb capb w8 hown8 hg8 hl8 hlt8; have k0 := gb_cell hg8 HM7.out.t0 hvbT; have k1 := (gb_frozen hg8 (cell_lt HM7.out.t0) hvbT).trans HM7.out.f0)
    have hzA : (w6.alloc (.cells #[.slice ao n c] 75)).heap.size = w6.heap.size + 1 := by simp
    obtain ⟨hm9, hf9⟩ := HM7.out.pushB (b := ⟨ao, n, c⟩) (bl := bl) (fun k hk => by have := (HPB6.out k hk).2; omega) hown8 hg8 hl8 HBk7.out
    have hvbB : ∀ k, vb.ownBlock = some k → k < w.heap.size := fun k hk => (HU.out.ob.blk k hk).2
    have hE1 : ∀ k, w.heap.size ≤ k → ¬ (k = T ∨ vb.ownBlock = some k) := fun k hk e => by
      rcases e with e | e
      · omega
      · have := hvbB k e; omega
    have HM9 : Hid _ := hm9
    have HP9 : Hid (PAt (w8.setCell ⟨T, 0, none⟩ (.slice (some ⟨gb, 0, none⟩) (bs.length + 1) capb)) P s g v4 ((h : Int) + 1) x4) := HP7.out.fr hf9 (fun k hk e => by
      rcases e with e | e
      · exact (HM7.out.s1 k hk).1 e
      · exact (HM7.out.s1 k hk).2.1 e)
    have HLb9 : Hid (LookIn (w8.setCell ⟨T, 0, none⟩ (.slice (some ⟨gb, 0, none⟩) (bs.length + 1) capb)) s g h xs w1.heap.size ac cc) := HLb7.out.fr hf9 (hE1 _ hz1) (fun k hk => hE1 k (HCB.out k hk).1)
    have hz56 : w5.heap.size < w6.heap.size := cell_lt HL6.out.c0
    have hz5 : w.heap.size ≤ w5.heap.size := by have := cell_lt HL6.out.c0; have h9 : w4.heap.size ≤ w5.heap.size := hb5z; omega
    have HL9 : Hid _ := HL7.out.fr hf9 (hE1 _ hz5)
    have HB9 : Hid (Below B0 w (w8.setCell ⟨T, 0, none⟩ (.slice (some ⟨gb, 0, none⟩) (bs.length + 1) capb))) := HB7.out.trans (hf9.toBelow B0 (by omega) (fun k hk => by
      rcases hk with e | e
      · omega
      · have := (HU.out.ob.blk k e).1; omega))
    have hgbz : gb < w8.heap.size := hlt8
    have hgbT := (hown8.blk gb rfl).1
    have hgbw : vb.ownBlock = some gb ∨ w6.heap.size ≤ gb := hl8.imp id (fun h => by omega)
    clear hm9 hf9 hown8 hg8 hl8 hlt8 k0 k1 HM7 HP7 HLb7 HL7 HBk7 HB7 HM6 HP6 HL6b HL6 HBk6 HB6 hbN hT6 hTf
    generalize w8.setCell ⟨T, 0, none⟩ (.slice (some ⟨gb, 0, none⟩) (bs.length + 1) capb) = w9 at *
    have s1 := HM9.out.t1
    have sf := HM9.out.f1
    have hTl9 : T < w9.heap.size := cell_lt s1
    have hvlT : some T ≠ vl.ownBlock := fun e => by have := (HM9.out.ol.blk T e.symm).1; omega
    obtain ⟨p0, p1, p2, p3, p4, p5, _⟩ := HLb9.out.vb
    have q0 := HL9.out.c0
    have hL1l : w1.heap.size < w9.heap.size := cell_lt p0
    have hL2l : w5.heap.size < w9.heap.size := cell_lt q0
    have HPB9 : Hid (∀ k, chE P v4 k → P ≤ k ∧ k < w9.heap.size) := HP9.out.blk
    have hvlL1 : some w1.heap.size ≠ vl.ownBlock := fun e => by have := (HU.out.ol.blk _ e.symm).2; omega
    have hvlL2 : some w5.heap.size ≠ vl.ownBlock := fun e => by have := (HU.out.ol.blk _ e.symm).2; omega
    go_region_law (refine step_appR 72 64 _ Try.underlying72 info81 rfl (by decide) lk6 lk_one _ ?_ (.tmp 43) (.tmp 45) ?_ (T + 1) w9.heap.size 1 vl ls ⟨h, winZ xs s g 0, winZ xs s g 1, sumC (ownOf xs s g), sumC (ownOf xs s g), ac, (ownOf xs s g).length, cc⟩ ?_ ?_ ?_ ?_ ?_ ?_ ?_ ?_; rfl; rfl; rfl; rfl; exact OwnRec.drew (HM9.out.ol.alloc _); exact VRow.drew (vrow_new w9 _ _); (rw [World.size_drew, World.size_alloc]; omega); (rw [HLLn.out]; unfold maxLen; omega); (rw [HLLn.out]; omega); intro gl capl w10 hown10 hg10 hl10 hlt10; have k0 := keepO hg10 s1 hvlT; have k1 := keepF hg10 sf hTl9 hvlT)
    all_goals
      have bW : Below w9.heap.size w9 ((w9.alloc (.cells #[.int .i64 (h : Int), .int .i64 (winZ xs s g 0), .int .i64 (winZ xs s g 1), .int .i64 (sumC (ownOf xs s g)), .int .i64 (sumC (ownOf xs s g)), .slice ac (ownOf xs s g).length cc] 81)).drew) := ((Below.refl _ _).alloc (Nat.le_refl _) _).drew
      have hzW : ((w9.alloc (.cells #[.int .i64 (h : Int), .int .i64 (winZ xs s g 0), .int .i64 (winZ xs s g 1), .int .i64 (sumC (ownOf xs s g)), .int .i64 (sumC (ownOf xs s g)), .slice ac (ownOf xs s g).length cc] 81)).drew).heap.size = w9.heap.size + 1 := by rw [World.size_drew, World.size_alloc]
      have hLW := HLb9.out.grown bW
      obtain ⟨hm11, hf11⟩ := (HM9.out.grown bW).pushL (p := xs) (fun k hk => by have := (HPB9.out k hk).2; omega) hown10 hg10 hl10 (by rw [fps]; exact hLW.ok) (fun a ha => by
        have hk1 := HCB.out a.block (by show (Value.slice ac (ownOf xs s g).length cc).ownBlock = _; simp only at ha; rw [ha]; rfl)
        refine ⟨by omega, fun e => ?_⟩
        rcases e with e | e | e | e
        · rcases e with e | e
          · omega
          · rcases hst4.own _ e with e' | e'
            · have := (HPB.out _ (Or.inr e')).2; omega
            · omega
        · omega
        · simp [Value.ownBlock] at e
          rcases hgbw with e' | e'
          · have := hvbB gb e'; omega
          · omega
        · have := (HU.out.ol.blk _ e).2; omega)
      have hE2 : ∀ k, k ≠ T → some k ≠ vl.ownBlock → ¬ (k = T ∨ vl.ownBlock = some k) := fun k h1 h2 e => e.elim h1 (fun e => h2 e.symm)
      have p0' := hf11.cell ((bW.cell (p := ⟨w1.heap.size, 0, none⟩) hL1l).trans p0) (hE2 _ (by omega) hvlL1)
      have q0' := hf11.cell ((bW.cell (p := ⟨w5.heap.size, 0, none⟩) hL2l).trans q0) (hE2 _ (by omega) hvlL2)
      have hp11 := (HP9.out.grown bW).fr hf11 (fun k hk e => by
        have := HM9.out.s1 k hk
        rcases e with e | e
        · exact this.1 e
        · exact this.2.2 e)
      have HFIN : Hid (UEx B0 P T s g (w10.setCell ⟨T, 1, none⟩ (.slice (some ⟨gl, 0, none⟩) (ls.length + 1) capl)) ∧ Below B0 w (w10.setCell ⟨T, 1, none⟩ (.slice (some ⟨gl, 0, none⟩) (ls.length + 1) capl))) := by
        refine ⟨⟨h + 1, x4, bls ++ [bl], ps ++ [xs], v4, _, _, _, _, hm11.ui (by push_cast; exact hp11) ⟨xs, bls, ps, bl, rfl, rfl, HU.out.hst, HCON.out⟩⟩, ?_⟩
        refine (HB9.out.trans (bW.mono (by omega))).trans (hf11.toBelow B0 (by omega) (fun k hk => ?_))
        rcases hk with e | e
        · omega
        · have := (HU.out.ol.blk k e).1; omega
      have hw1 : IntKind.i64.wrap ((h : Int) + 1) = (h : Int) + 1 := IntWalk.i64_in _ ⟨by omega, by omega⟩
      clear hm11 hf11 hp11 hown10 hg10 hl10 k0 k1 hLW bW hzW
      generalize w10.setCell ⟨T, 1, none⟩ (.slice (some ⟨gl, 0, none⟩) (ls.length + 1) capl) = w11 at *
      go_wp2
      go_ret
      exact ⟨ret_bool (by simp), HFIN.out⟩

end Go.Proofs.Ytffgpepngcnjeaa
