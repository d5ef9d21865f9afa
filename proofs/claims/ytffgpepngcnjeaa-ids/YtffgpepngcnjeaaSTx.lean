/-
  A transaction that was handed in reads the same.
-/
import Derived.Test.YtffgpepngcnjeaaHTx
namespace Go.Proofs.Ytffgpepngcnjeaa
open Go.RowKit

theorem two_boxes (w : World) (a b c a' b' c' : Value) :
    ∃ W2, Hid (W2 = (w.alloc (.cells #[a, b, c] 25)).alloc (.cells #[a', b', c'] 25)) ∧ W2.heap.size = w.heap.size + 1 + 1 ∧ Below w.heap.size w W2 ∧
      (∀ wr, Below (w.heap.size + 1 + 1) W2 wr → (wr.cell? ⟨w.heap.size, 0, none⟩ = some a ∧ wr.cell? ⟨w.heap.size, 1, none⟩ = some b ∧ wr.cell? ⟨w.heap.size, 2, none⟩ = some c) ∧
        (wr.cell? ⟨w.heap.size + 1, 0, none⟩ = some a' ∧ wr.cell? ⟨w.heap.size + 1, 1, none⟩ = some b' ∧ wr.cell? ⟨w.heap.size + 1, 2, none⟩ = some c')) := by
  refine ⟨_, rfl, by simp, ((Below.refl _ _).alloc (Nat.le_refl _) _).alloc (by simp) _, fun wr h => ⟨?_, ?_⟩⟩
  · refine ⟨cell_move h ?_ (by omega), cell_move h ?_ (by omega), cell_move h ?_ (by omega)⟩
    all_goals
      rw [World.cell?_alloc_past _ _ _ (by simp), World.cell?_alloc_new]
      rfl
  · refine ⟨cell_move h ?_ (by omega), cell_move h ?_ (by omega), cell_move h ?_ (by omega)⟩
    all_goals
      rw [World.cell?_alloc_at _ _ _ _ (by simp)]
      rfl

theorem keep4 {w w2 : World} {p q r s : Nat × Nat} {x y z u : Value} (hb : Below w.drew.heap.size w.drew w2) (h1 : w.cell? ⟨p.1, p.2, none⟩ = some x) (h2 : w.cell? ⟨q.1, q.2, none⟩ = some y) (h3 : w.cell? ⟨r.1, r.2, none⟩ = some z) (h4 : w.cell? ⟨s.1, s.2, none⟩ = some u) :
    w2.cell? ⟨p.1, p.2, none⟩ = some x ∧ w2.cell? ⟨q.1, q.2, none⟩ = some y ∧ w2.cell? ⟨r.1, r.2, none⟩ = some z ∧ w2.cell? ⟨s.1, s.2, none⟩ = some u :=
  ⟨cell_move hb h1 (cell_lt h1), cell_move hb h2 (cell_lt h2), cell_move hb h3 (cell_lt h3), cell_move hb h4 (cell_lt h4)⟩

set_option maxRecDepth 100000 in
set_option maxHeartbeats 2000000 in
theorem stillTx_any (t : Int) (BI BO : Nat) (ai : Option Addr) (n c : Nat) (ap : Option Addr) (m d : Nat) (xs : List InD) (ys : List (Int × Int)) (w : World) (hh : HTx w BI BO xs ys) (hx : InsAt w ai xs) (hn : xs.length = n) (hy : OutsAt w ap ys) (hm : ys.length = m) (n1 : n ≤ 3518437208883) (m1 : m ≤ 8796093022208) :
    Calls Try.prog 13 #[.agg #[.int .i64 t, .slice (some ⟨BI, 0, none⟩) n (n + 1), .slice (some ⟨BO, 0, none⟩) m (m + 1)], .agg #[.int .i64 t, .slice ai n c, .slice ap m d]] w fun e w' => e = .returned (.bool true) ∧ Below w.heap.size w w' := by
  have HN : Hid (xs.length = n) := hn
  have HM : Hid (ys.length = m) := hm
  have HX : Hid (InsAt w ai xs) := hx
  have HY : Hid (OutsAt w ap ys) := hy
  have HH : Hid (HTx w BI BO xs ys) := hh
  clear hn hm hx hy hh
  go_enter Try.func13, Try.ntmps13
  go_wp2
  obtain ⟨W2, HW2, hsz2, hbel2, bx⟩ := two_boxes w (.int .i64 t) (.slice (some ⟨BI, 0, none⟩) n (n + 1)) (.slice (some ⟨BO, 0, none⟩) m (m + 1)) (.int .i64 t) (.slice ai n c) (.slice ap m d)
  rw [← HW2.out]
  have HBL2 : Hid _ := hbel2
  have HBX : Hid _ := bx
  clear hbel2 bx
  generalize hX : w.heap.size = X at *
  have HXX : Hid _ := hX
  clear hX
  have HSZ2 : Hid (W2.heap.size = X + 1 + 1) := hsz2
  clear hsz2
  go_loopw [6] (fun i wr => ∃ k : Nat, k ≤ n ∧ i = .int .i64 k ∧ Below (X + 1 + 1) W2 wr) (fun i _ => n - (intOf i).toNat)
  case atStart => exact ⟨0, Nat.zero_le _, rfl, Below.refl _ _⟩
  case round =>
    obtain ⟨k, hk, rfl, hbl⟩ := hrel
    obtain ⟨⟨x0, x1, x2⟩, z0, z1, z2⟩ := HBX.out wr hbl
    have hw : Below X w wr := HBL2.out.trans (hbl.mono (by omega))
    have hww : Below w.heap.size w wr := by rw [HXX.out]; exact hw
    by_cases hlt : k < n
    · rcases HX.out with hnil | ⟨b, off, rfl, hrow⟩
      · have := HN.out; rw [hnil] at this; simp at this; omega
      obtain ⟨⟨c0, c1, c2⟩, hok⟩ := (hrow.grown hww) k (by rw [HN.out]; exact hlt)
      obtain ⟨bs, hins⟩ := (HH.out.grown hww).ins
      obtain ⟨⟨d0, d1, d2⟩, hrB, _⟩ := hins.done k (by rw [HN.out]; exact hlt)
      clear hrow hins
      generalize xs.getD k dIn = y at c0 c1 c2 hok d0 d1 d2 hrB
      generalize bs.getD k 0 = B at d0 d1 d2 hrB
      obtain ⟨yid, ypos, yao, yn, yc, yl⟩ := y
      obtain ⟨k1, k2, k3, k4⟩ := hok
      simp only [hIn] at c0 c1 c2 k1 k2 k3 k4 d0 d1 d2 hrB
      have K1 : Hid (IntsAt wr yao yl) := k1
      have K2 : Hid (yl.length = yn) := k2
      have KR : Hid (Row wr B 0 (yl ++ [-5])) := hrB
      have hkeep := fun (w2 : World) (hb : Below wr.drew.heap.size wr.drew w2) => keep4 (p := (X, 1)) (q := (BI, k * 3 + 2)) (r := (X + 1, 1)) (s := (b, off + k * 3 + 2)) hb x1 d2 z1 c2
      have HKEEP : Hid _ := hkeep
      clear k1 k2 k4 hrB hkeep
      have e1 : (k : Int) < (n : Int) := by omega
      have e2 : (0 : Int) ≤ (k : Int) := by omega
      go_wp2
      go_region_held3 (fun w' => w'.cell? ⟨X, 1, none⟩ = some (.slice (some ⟨BI, 0, none⟩) n (n + 1)) ∧ w'.cell? ⟨BI, k * 3 + 2, none⟩ = some (.slice (some ⟨B, 0, none⟩) yn (yn + 1)) ∧ w'.cell? ⟨X + 1, 1, none⟩ = some (.slice (some ⟨b, off, none⟩) n c) ∧ w'.cell? ⟨b, off + k * 3 + 2, none⟩ = some (.slice yao yn yc)) (first | go_keep | exact HKEEP.out _ (by assumption)) ((go_at_call 24; refine (stillInts_any _ _ _ _ yl _ ?_ ?_ K2.out k3).mono ?_; exact KR.out; exact K1.out; rintro e w2 ⟨rfl, hb2⟩))
      all_goals
        have a1 := cell_move hb2 x1 (cell_lt x1)
        have a2 := cell_move hb2 d0 (cell_lt d0)
        have a3 := cell_move hb2 d1 (cell_lt d1)
        have a4 := cell_move hb2 z1 (cell_lt z1)
        have a5 := cell_move hb2 c0 (cell_lt c0)
        have a6 := cell_move hb2 c1 (cell_lt c1)
        have g1 : (yid != yid) = false := by simp
        have g2 : (ypos != ypos) = false := by simp
        have hszw : X + 1 + 1 ≤ wr.heap.size := by have := hbl.size; rw [HSZ2.out] at this; exact this
        go_wp2
        go_quiet (fail)
        go_wp2
        go_roundw
        case rel => exact ⟨k + 1, by omega, by go_num, below_drewN (hbl.drew.trans (hb2.mono (by simpa using hszw))) _⟩
        case measure => simp [intOf]; omega
    · have hkn : k = n := by omega
      subst hkn
      obtain ⟨l0, l1, l2⟩ := (HH.out.grown hww).last
      rw [HN.out] at l0 l1 l2
      have hso := (HH.out.grown hww).outs
      have HSO : Hid _ := hso
      clear hso
      have hyo := HY.out.grown hww
      have HYO : Hid _ := hyo
      clear hyo
      go_wp2_with fail
      refine (stillOuts_any _ _ _ _ ys _ HSO.out HYO.out HM.out m1).mono ?_
      rintro e w3 ⟨rfl, hb3⟩
      have p0 := cell_move hb3 l0 (cell_lt l0)
      have p1 := cell_move hb3 l1 (cell_lt l1)
      have p2 := cell_move hb3 l2 (cell_lt l2)
      clear l0 l1 l2 x0 x1 x2 z0 z1 z2
      go_wp2
      go_ret
      exact ⟨rfl, below_blk hww hb3⟩

end Go.Proofs.Ytffgpepngcnjeaa
