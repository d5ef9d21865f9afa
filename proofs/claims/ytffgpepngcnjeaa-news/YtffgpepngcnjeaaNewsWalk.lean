/-
  The walk of News.
-/
import Derived.Test.YtffgpepngcnjeaaNewZ
namespace Go.Proofs.Ytffgpepngcnjeaa
open Go.RowKit

theorem wgo_none (hit : Nat → Bool) (g : Nat) (h : ∀ i, hit i = false) : ∀ f i v, wgo hit g f i v = v := by
  intro f
  induction f with
  | zero => intro i v; rfl
  | succ f ih =>
    intro i v
    unfold wgo
    rw [h i]
    simp [ih]
theorem winZ_nil (s : Int) (g : Nat) (br : Int) (hg : g ≤ 20) : winZ [] s g br = g := by
  unfold winZ
  rw [wgo_none (hitAt [] s br) g (fun i => rfl)]
  omega

theorem vrow3 {w : World} {G : Nat} {a b c : Value} (h : VRow w G 0 [a, b, c]) : w.cell? ⟨G, 0, none⟩ = some a := h 0 (by simp)

set_option maxRecDepth 100000 in
set_option maxHeartbeats 2000000 in
theorem news_any (s g : Int) (w : World) :
    Calls Try.prog 7 #[.int .i64 s, .int .i64 g] w fun e w' => e = .returned (.bool true) ∧ Below w.heap.size w w' := by
  cases hf : fitZ s g
  · go_enter Try.func7, Try.ntmps7
    go_wp2_with (go_at_call 29; refine (begin_no _ _ _ hf).mono ?_; rintro e w1 ⟨rfl, hb1⟩)
    go_ret
    exact ⟨rfl, hb1⟩
  · obtain ⟨hs, h1, h2⟩ := fitZ_yes hf
    obtain ⟨gn, rfl⟩ := Int.eq_ofNat_of_zero_le (show 0 ≤ g by omega)
    have hg1 : 1 ≤ gn := by omega
    have hg2 : gn ≤ 20 := by omega
    have HF : Hid (fitZ s gn = true) := hf
    clear hf
    go_enter Try.func7, Try.ntmps7
    go_wp2_with fail
    refine (begin_yes _ _ _ HF.out).mono ?_
    rintro e w1 ⟨G, D, vr, vc, V, rfl, hD, hG, hGl, hp, _, hrow, hb1⟩
    have cG := vrow3 hrow
    clear hrow
    have HB1 : Hid (Below w.heap.size w w1) := hb1
    clear hb1
    have HP : Hid (PurseRow w1 w.heap.size s gn (.slice none 0 0) 0) := hp
    clear hp hD hG
    generalize hP : w.heap.size = P at *
    have HPe : Hid (w.heap.size = P) := hP
    clear hP
    go_wp2_with (go_at_call 30; refine (pHeight_any P s gn _ 0 _ HP.out).mono ?_; rintro e w' ⟨rfl, rfl⟩)
    have HW0 : Hid (winZ [] s gn 0 = gn) := winZ_nil s gn 0 hg2
    have HW1 : Hid (winZ [] s gn 1 = gn) := winZ_nil s gn 1 hg2
    refine (pWindows_any P s gn none 0 0 0 [] _ hs hg1 hg2 HP.out (Or.inl rfl) rfl (by omega)).mono ?_
    rintro e w2 ⟨rfl, hb2⟩
    rw [HW0.out, HW1.out]
    have HP2 : Hid (PurseRow w2 P s gn (.slice none 0 0) 0) := VRow.grown HP.out hb2
    have cG2 := (hb2.cell (p := ⟨G, 0, none⟩) hGl).trans cG
    have hs2 := hb2.size
    clear cG
    go_wp2_with fail
    refine (pCoins_nil P s gn 0 _ hs hg1 hg2 HP2.out).mono ?_
    rintro e w3 ⟨rfl, hb3⟩
    have HP3 : Hid (PurseRow w3 P s gn (.slice none 0 0) 0) := VRow.grown HP2.out hb3
    have hs3 := hb3.size
    have cG3 := (hb3.cell (p := ⟨G, 0, none⟩) (by show G < _; omega)).trans cG2
    clear cG2
    go_wp2_with fail
    refine (pBalance_nil P s gn 0 _ hs hg1 hg2 HP3.out).mono ?_
    rintro e w4 ⟨rfl, hb4⟩
    have HP4 : Hid (PurseRow w4 P s gn (.slice none 0 0) 0) := VRow.grown HP3.out hb4
    have hs4 := hb4.size
    have cG4 := (hb4.cell (p := ⟨G, 0, none⟩) (by show G < _; omega)).trans cG3
    clear cG3
    have hbb : Below w.heap.size w w4 := by
      have h0 := HB1.out
      rw [← HPe.out] at h0
      exact below_blk (below_blk (below_blk h0 hb2) hb3) hb4
    clear hb2 hb3 hb4
    go_wp2_with (first | (go_at_call 34; refine (pDis_none P s gn _ _ HP4.out).mono ?_; rintro e w' ⟨rfl, rfl⟩) | (go_at_call 17; refine (num_any _ _).mono ?_; rintro e w' ⟨rfl, rfl⟩))
    go_ret
    exact ⟨rfl, hbb⟩

end Go.Proofs.Ytffgpepngcnjeaa
