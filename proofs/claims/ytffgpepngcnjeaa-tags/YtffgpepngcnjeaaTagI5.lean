import Derived.Test.YtffgpepngcnjeaaTagH
namespace Go.Proofs.Ytffgpepngcnjeaa
open Go.RowKit

set_option maxRecDepth 100000 in
set_option maxHeartbeats 4000000 in
theorem other_tag (t : Int) (ai : Option Addr) (n c : Nat) (ap : Option Addr) (m d : Nat) (xs : List InD) (ys : List (Int × Int)) (wh pl b' : Int) (w : World) (hx : InsAt w ai xs) (hn : xs.length = n) (hy : OutsAt w ap ys) (hm : ys.length = m) (hr : rTx t xs ys = true) (h0 : ap = none → d = 0)
    (a1 : -9223372036854775808 ≤ wh) (a2 : wh ≤ 9223372036854775807) (p1 : -9223372036854775808 ≤ pl) (p2 : pl ≤ 9223372036854775807) (b1 : -9223372036854775808 ≤ b') (b2 : b' ≤ 9223372036854775807) (pw : Int) (hw0 : Mk.pk wh 5 = pw) (hpw : pw = 4 ∨ ((pw = 0 ∨ pw = 1) ∧ n ≤ 0)) :
    Calls Try.prog 26 #[.agg #[.int .i64 t, .slice ai n c, .slice ap m d], .int .i64 wh, .int .i64 pl, .int .i64 b'] w (OtherPost t xs ys w) := by
  have hp := rTx_parts hr
  have hn10 : n ≤ 10 := by rw [← hn]; exact hp.2.1
  have hm8 : 1 ≤ m ∧ m ≤ 8 := by rw [← hm]; exact hp.2.2.2.1
  have HP : Hid _ := hp
  have HR : Hid (rTx t xs ys = true) := hr
  have HN : Hid (xs.length = n) := hn
  have HM : Hid (ys.length = m) := hm
  have HX : Hid (InsAt w ai xs) := hx
  have HY : Hid (OutsAt w ap ys) := hy
  have H0 : Hid _ := h0
  have HW0 : Hid (Mk.pk wh 5 = pw) := hw0
  obtain ⟨idx, hidx⟩ : ∃ idx : Nat, Mk.pk pl (m : Int) = (idx : Int) := ⟨_, (Int.toNat_of_nonneg (Mk.pk_bd pl (m : Int) (by omega)).1).symm⟩
  have hidn : idx < m := by have := (Mk.pk_bd pl (m : Int) (by omega)).2; omega
  clear hp hn hm hx hy h0 hw0 hidx
  go_enter Try.func26, Try.ntmps26
  go_wp2_with fail
  obtain ⟨W2, HW2, hsz2, hbel2, bx, rs⟩ := htx_start w t ai ap n c m d
  rw [← HW2.out]
  refine (copyTx_any _ _ _ _ _ _ _ xs ys _ (HX.out.grown hbel2) HN.out (HY.out.grown hbel2) HM.out (by omega) (by omega) H0.out).mono ?_
  rintro e w1 ⟨vi, vo, zs, rfl, hfr, hzl, hb1⟩
  rw [hsz2] at hb1 hfr
  have hfin : ∀ {wB : World} {t2 : Int} {ai2 : Option Addr} {c2 : Nat} {ap2 : Option Addr} {d2 : Nat} {xs2 : List InD} {ys2 : List (Int × Int)}, Turned wB (w.heap.size + 1 + 1) t xs ys t2 ai2 xs2 ap2 ys2 → Below (w.heap.size + 1 + 1) W2 wB → OtherPost t xs ys w (.returned (.agg #[.int .i64 t2, .slice ai2 n c2, .slice ap2 m d2])) (put3 wB (w.heap.size + 1) 0 (.int .i64 t2) (.slice ai2 n c2) (.slice ap2 m d2)) := fun ht hb => other_end rfl ht (hbel2.trans (hb.mono (by omega))) HN.out HM.out
  have HFIN : Hid _ := @hfin
  have HRS : Hid _ := rs
  clear hfin rs bx hbel2
  obtain ⟨gi, dd, rfl, hgi, hgi2, hcells, hfro⟩ : ∃ g cc, vo = .slice (some ⟨g, 0, none⟩) m cc ∧ w.heap.size + 1 + 1 ≤ g ∧ g < w1.heap.size ∧ OutsRow w1 g 0 ys ∧ (∀ j, w1.frozen? ⟨g, j, none⟩ = false) := by
    rcases hfr.outs.cells with ⟨_, h2⟩ | ⟨g, cc, h1, h2, h3, h4, h5⟩
    · have := HM.out; rw [h2] at this; simp at this; omega
    · rw [HM.out] at h1; exact ⟨g, cc, h1, h2, h3, h4, h5⟩
  obtain ⟨aio, ci, rfl⟩ : ∃ aio ci, vi = .slice aio n ci := by
    rcases hfr.ins.cells with ⟨h1, h2⟩ | ⟨g, cc, h1, _⟩
    · rw [h2] at hzl
      have : n = 0 := by simpa using hzl.symm
      subst this
      exact ⟨_, _, h1⟩
    · rw [hzl] at h1; exact ⟨_, _, h1⟩
  obtain ⟨i0, i1⟩ := hcells idx (by rw [HM.out]; exact hidn)
  rw [Nat.zero_add] at i0 i1
  have hrout := rOut_bd (HP.out.2.2.2.2 idx (by rw [HM.out]; exact hidn))
  have hbO : Below w1.heap.size w1 (w1.alloc (.cells #[.int .i64 t, .slice aio n ci, .slice (some ⟨gi, 0, none⟩) m dd] 25)) := (Below.refl _ _).alloc (Nat.le_refl _) _
  have hfrA := hfr.grown hbO
  have txA := Tx3.new w1 (.int .i64 t) (.slice aio n ci) (.slice (some ⟨gi, 0, none⟩) m dd) 25
  have hbA : Below (w.heap.size + 1 + 1) W2 (w1.alloc (.cells #[.int .i64 t, .slice aio n ci, .slice (some ⟨gi, 0, none⟩) m dd] 25)) := hb1.trans (hbO.mono (by omega))
  have j0 := cell_move hbO i0 (cell_lt i0)
  have j1 := cell_move hbO i1 (cell_lt i1)
  have jf := (hbO.frozen (p := ⟨gi, idx * 2, none⟩) hgi2).trans (hfro (idx * 2))
  have jf1 := (hbO.frozen (p := ⟨gi, idx * 2 + 1, none⟩) hgi2).trans (hfro (idx * 2 + 1))
  have hzn : zs.length = xs.length := hzl.trans HN.out.symm
  have hfrS : ∀ v : Int, Fresh ((w1.alloc (.cells #[.int .i64 t, .slice aio n ci, .slice (some ⟨gi, 0, none⟩) m dd] 25)).setCell ⟨w1.heap.size, 0, none⟩ (.int .i64 v)) (w.heap.size + 1 + 1) (.slice aio n ci) (.slice (some ⟨gi, 0, none⟩) m dd) (fun j x => Same (xs.getD j dIn) x) zs ys := fun v => hfr.grown (hbO.setCell (Nat.le_refl _) _)
  clear hfr hcells hfro i0 i1 hbO hb1
  go_wp2_with fail
  generalize w1.alloc (.cells #[.int .i64 t, .slice aio n ci, .slice (some ⟨gi, 0, none⟩) m dd] 25) = wA at *
  have hCB := cell_lt txA.c0
  have hCBX : w.heap.size + 1 + 1 ≤ w1.heap.size := by omega
  generalize w1.heap.size = CB at *
  obtain ⟨⟨r0, r1, r2⟩, s0, s1, s2⟩ := HRS.out wA hbA
  obtain ⟨c0, c1, c2, f0, f1, f2⟩ := txA
  have ht0 := HP.out.1
  have hdone : ∀ v : Int, 0 ≤ v → v ≤ 1099511627776 → t ≠ v → t - v < 99991 → v - t < 99991 → OtherPost t xs ys w (.returned (.agg #[.int .i64 v, .slice aio n ci, .slice (some ⟨gi, 0, none⟩) m dd])) (put3 (wA.setCell ⟨CB, 0, none⟩ (.int .i64 v)) (w.heap.size + 1) 0 (.int .i64 v) (.slice aio n ci) (.slice (some ⟨gi, 0, none⟩) m dd)) := fun v v1 v2 v3 v4 v5 => HFIN.out (turned_tag (hfrS v) hzn HR.out v ⟨v1, v2⟩ v3 v4 v5) (hbA.setCell hCBX _)
  have HD : Hid _ := hdone
  clear hdone hbA hfrA hfrS hzn hzl HFIN HRS
  generalize w.heap.size = X at *
  refine (pick_any _ _ _ (by omega) (by omega) a1 a2).mono ?_
  rintro e w' ⟨rfl, rfl⟩
  rw [HW0.out]
  clear HW0
  rcases hpw with rfl | ⟨rfl | rfl, hn0⟩
  all_goals
    go_wp2_with fail
    refine (pick_any _ _ _ (by omega) (by omega) p1 p2).mono ?_
    rintro e w' ⟨rfl, rfl⟩
    go_wp2_with fail
    refine (moved_any _ _ _ _ (by omega) (by omega) (by omega) (by omega) b1 b2).mono ?_
    rintro e w' ⟨rv, rfl, v1, v2, v3, v4, v5, rfl⟩
    go_wp2
    refine bodyPost_ret (v := .agg #[.int .i64 rv, .slice aio n ci, .slice (some ⟨gi, 0, none⟩) m dd]) ?_ rfl ?_
    · simp [results, Try.results26, go_sem, r0, r1, r2]
    · exact HD.out rv v1 v2 v3 v4 v5

end Go.Proofs.Ytffgpepngcnjeaa
