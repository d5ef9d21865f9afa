import Derived.Test.YtffgpepngcnjeaaTagH
namespace Go.Proofs.Ytffgpepngcnjeaa
open Go.RowKit

theorem hidI2 {p : Prop} (h : p) : Hid p := h

set_option maxRecDepth 100000 in
set_option maxHeartbeats 4000000 in
theorem other_pos (t : Int) (ai : Option Addr) (n c : Nat) (ap : Option Addr) (m d : Nat) (xs : List InD) (ys : List (Int × Int)) (wh pl b' : Int) (w : World) (hx : InsAt w ai xs) (hn : xs.length = n) (hy : OutsAt w ap ys) (hm : ys.length = m) (hr : rTx t xs ys = true) (h0 : ap = none → d = 0)
    (a1 : -9223372036854775808 ≤ wh) (a2 : wh ≤ 9223372036854775807) (p1 : -9223372036854775808 ≤ pl) (p2 : pl ≤ 9223372036854775807) (b1 : -9223372036854775808 ≤ b') (b2 : b' ≤ 9223372036854775807) (hw0 : Mk.pk wh 5 = 1) (hn0 : 0 < n) :
    Calls Try.prog 26 #[.agg #[.int .i64 t, .slice ai n c, .slice ap m d], .int .i64 wh, .int .i64 pl, .int .i64 b'] w (OtherPost t xs ys w) := by
  have hp := rTx_parts hr
  have hn10 : n ≤ 10 := by rw [← hn]; exact hp.2.1
  have hm8 : 1 ≤ m ∧ m ≤ 8 := by rw [← hm]; exact hp.2.2.2.1
  have HP : Hid _ := hp
  have HR : Hid (rTx t xs ys = true) := hr
  have HN : Hid (xs.length = n) := hn
  have HM : Hid (ys.length = m) := hm
  have HX : Hid (InsAt w ai xs) := hx
  have HY : Hid (OutsAt w ap ys) := hy
  have H0 : Hid _ := h0
  have HW0 : Hid (Mk.pk wh 5 = 1) := hw0
  obtain ⟨idx, hidx⟩ : ∃ idx : Nat, Mk.pk pl (n : Int) = (idx : Int) := ⟨_, (Int.toNat_of_nonneg (Mk.pk_bd pl (n : Int) (by omega)).1).symm⟩
  have hidn : idx < n := by have := (Mk.pk_bd pl (n : Int) (by omega)).2; omega
  have HIDX : Hid (Mk.pk pl (n : Int) = (idx : Int)) := hidx
  clear hp hn hm hx hy h0 hw0 hidx
  go_enter Try.func26, Try.ntmps26
  go_wp2_with fail
  obtain ⟨W2, HW2, hsz2, hbel2, bx, rs⟩ := htx_start w t ai ap n c m d
  rw [← HW2.out]
  refine (copyTx_any _ _ _ _ _ _ _ xs ys _ (HX.out.grown hbel2) HN.out (HY.out.grown hbel2) HM.out (by omega) (by omega) H0.out).mono ?_
  rintro e w1 ⟨vi, vo, zs, rfl, hfr, hzl, hb1⟩
  rw [hsz2] at hb1 hfr
  have hfin : ∀ {wB : World} {t2 : Int} {ai2 : Option Addr} {c2 : Nat} {ap2 : Option Addr} {d2 : Nat} {xs2 : List InD} {ys2 : List (Int × Int)}, Turned wB (w.heap.size + 1 + 1) t xs ys t2 ai2 xs2 ap2 ys2 → Below (w.heap.size + 1 + 1) W2 wB → OtherPost t xs ys w (.returned (.agg #[.int .i64 t2, .slice ai2 n c2, .slice ap2 m d2])) (put3 wB (w.heap.size + 1) 0 (.int .i64 t2) (.slice ai2 n c2) (.slice ap2 m d2)) := fun ht hb => other_end rfl ht (hbel2.trans (hb.mono (by omega))) HN.out HM.out
  have HFIN : Hid _ := @hfin
  have HRS : Hid _ := rs
  clear hfin rs bx hbel2
  have hpb := Mk.pk_bd b' 7 (by decide)
  obtain ⟨gi, ci, rfl, hgi, hgi2, hcells, hfro⟩ : ∃ g cc, vi = .slice (some ⟨g, 0, none⟩) n cc ∧ w.heap.size + 1 + 1 ≤ g ∧ g < w1.heap.size ∧ (∀ j, j < zs.length → InCells w1 g (j * 3) (zs.getD j dIn)) ∧ (∀ j, w1.frozen? ⟨g, j, none⟩ = false) := by
    rcases hfr.ins.cells with ⟨_, h2⟩ | ⟨g, cc, h1, h2, h3, h4, h5⟩
    · rw [h2] at hzl; simp at hzl; omega
    · rw [hzl] at h1; exact ⟨g, cc, h1, h2, h3, h4, h5⟩
  obtain ⟨apo, dd, rfl⟩ : ∃ apo dd, vo = .slice apo m dd := by
    rcases hfr.outs.cells with ⟨h1, h2⟩ | ⟨g, cc, h1, _⟩
    · have := HM.out; rw [h2] at this; simp at this; omega
    · rw [HM.out] at h1; exact ⟨_, _, h1⟩
  have hsame := (hfr.ok idx (by omega)).2.1
  obtain ⟨i0, i1, _⟩ := hcells idx (by omega)
  rw [hsame.1] at i0
  rw [hsame.2.1] at i1
  have hrin := rIn_bd (HP.out.2.2.1 idx (by rw [HN.out]; exact hidn))
  have hbO : Below w1.heap.size w1 (w1.alloc (.cells #[.int .i64 t, .slice (some ⟨gi, 0, none⟩) n ci, .slice apo m dd] 25)) := (Below.refl _ _).alloc (Nat.le_refl _) _
  have hfrA := hfr.grown hbO
  have txA := Tx3.new w1 (.int .i64 t) (.slice (some ⟨gi, 0, none⟩) n ci) (.slice apo m dd) 25
  have hbA : Below (w.heap.size + 1 + 1) W2 (w1.alloc (.cells #[.int .i64 t, .slice (some ⟨gi, 0, none⟩) n ci, .slice apo m dd] 25)) := hb1.trans (hbO.mono (by omega))
  have j0 := cell_move hbO i1 (cell_lt i1)
  have jf := (hbO.frozen (p := ⟨gi, idx * 3 + 1, none⟩) hgi2).trans (hfro (idx * 3 + 1))
  have hzn : zs.length = xs.length := hzl.trans HN.out.symm
  clear hfr hcells hfro i0 i1 hbO hb1 hsame
  go_wp2_with fail
  generalize w1.alloc (.cells #[.int .i64 t, .slice (some ⟨gi, 0, none⟩) n ci, .slice apo m dd] 25) = wA at *
  have hCB := cell_lt txA.c0
  generalize w1.heap.size = CB at *
  obtain ⟨⟨r0, r1, r2⟩, s0, s1, s2⟩ := HRS.out wA hbA
  obtain ⟨c0, c1, c2, _, _, _⟩ := txA
  have hturn := fun (v : Int) (hv : 0 ≤ v ∧ v < 8) (hne : (xs.getD idx dIn).pos ≠ v) => turned_pos hfrA hzn HR.out idx (by rw [HN.out]; exact hidn) v hv hne
  have hdone : OtherPost t xs ys w (.returned (.agg #[.int .i64 t, .slice (some ⟨gi, 0, none⟩) n ci, .slice apo m dd])) (put3 (wA.setCell ⟨gi, idx * 3 + 1, none⟩ (.int .i64 (((xs.getD idx dIn).pos + 1 + Mk.pk b' 7) % 8))) (w.heap.size + 1) 0 (.int .i64 t) (.slice (some ⟨gi, 0, none⟩) n ci) (.slice apo m dd)).drew := other_drew (HFIN.out (hturn _ (by omega) (by omega)) (hbA.setCell hgi _))
  have HD := hidI2 hdone
  clear hturn hdone hbA hfrA hzn hzl HFIN HRS
  generalize w.heap.size = X at *
  generalize (xs.getD idx dIn).pos = ypos at *
  obtain ⟨⟨y0, y1⟩, y2, y3⟩ := hrin
  refine (pick_any _ _ _ (by omega) (by omega) a1 a2).mono ?_
  rintro e w' ⟨rfl, rfl⟩
  rw [HW0.out]
  go_wp2_with fail
  refine (pick_any _ _ _ (by omega) (by omega) p1 p2).mono ?_
  rintro e w' ⟨rfl, rfl⟩
  rw [HIDX.out]
  have e1 : (idx : Int) < (n : Int) := by omega
  have e2 : (0 : Int) ≤ (idx : Int) := by omega
  have hwa : IntKind.i64.wrap (ypos + 1) = ypos + 1 := IntWalk.i64_in _ ⟨by omega, by omega⟩
  have hwb : IntKind.i64.wrap (ypos + 1 + Mk.pk b' 7) = ypos + 1 + Mk.pk b' 7 := IntWalk.i64_in _ ⟨by omega, by omega⟩
  go_wp2
  go_region_with (go_at_call 27; refine (pick_any _ _ _ (by omega) (by omega) b1 b2).mono ?_; rintro e w' ⟨rfl, rfl⟩)
  all_goals
    go_wp2
    refine bodyPost_ret (v := .agg #[.int .i64 t, .slice (some ⟨gi, 0, none⟩) n ci, .slice apo m dd]) ?_ rfl ?_
    · simp [results, Try.results26, go_sem, r0, r1, r2]
    · exact HD.out

end Go.Proofs.Ytffgpepngcnjeaa
