/-
  Package watch: the window of a branch.
-/
import Derived.Test.YtffgpepngcnjeaaChA
namespace Go.Proofs.Ytffgpepngcnjeaa
open Go.RowKit

def wgo (hit : Nat → Bool) (g : Nat) : Nat → Nat → Nat → Nat
  | 0, _, v => v
  | f + 1, i, v => if i < v then wgo hit g f (i + 1) (if hit i = true then min 100 (i + 1 + g) else v) else v
def hitAt (xs : List Cel) (s br : Int) (i : Nat) : Bool := paidTo xs (Mk.adr s br i)
def winZ (xs : List Cel) (s : Int) (g : Nat) (br : Int) : Nat := wgo (hitAt xs s br) g 101 0 (min 100 g)

theorem key_ok {s br : Int} (hs : Mk.isM s = true) (hb : br = 0 ∨ br = 1) {i : Int} (h0 : 0 ≤ i) (h1 : i < 100) : Mk.isK s br i = true := by
  have hm := (Mk.isM_iff s).1 hs
  unfold Mk.isK
  exact decide_eq_true ⟨hb, ⟨h0, h1⟩, hm⟩

set_option maxRecDepth 100000 in
set_option maxHeartbeats 400000 in
theorem atMost_any (x : Int) (w : World) : Calls Try.prog 108 #[.int .i64 x] w fun e w' => e = .returned (.int .i64 (min 100 x)) ∧ w = w' := by
  by_cases h : x ≤ 100
  · go_enter Try.func108, Try.ntmps108
    go_wp2
    go_ret
    exact ⟨ret_int (by omega), rfl⟩
  · go_enter Try.func108, Try.ntmps108
    go_wp2
    go_ret
    exact ⟨ret_int (by omega), rfl⟩

set_option maxRecDepth 100000 in
set_option maxHeartbeats 2000000 in
theorem window_any (b o : Nat) (ao : Option Addr) (n c : Nat) (xs : List Cel) (s : Int) (g : Nat) (br : Int) (w : World) (hs : Mk.isM s = true) (hg : 1 ≤ g) (hg2 : g ≤ 20) (hb : br = 0 ∨ br = 1)
    (hp : w.cell? ⟨b, o, none⟩ = some (.slice ao n c)) (hx : CelsAt w ao xs) (hn : xs.length = n) (hm : n ≤ 1000000) :
    Calls Try.prog 77 #[.pointer (some ⟨b, o, none⟩), .int .i64 s, .int .i64 g, .int .i64 br] w fun e w' => e = .returned (.int .i64 (winZ xs s g br)) ∧ Below w.heap.size w w' := by
  have HN : Hid (xs.length = n) := hn
  have HX : Hid (CelsAt w ao xs) := hx
  have HP : Hid (w.cell? ⟨b, o, none⟩ = some (.slice ao n c)) := hp
  have HB : Hid (br = 0 ∨ br = 1) := hb
  clear hn hx hp hb
  have ea : min 100 (g : Int) = ((min 100 g : Nat) : Int) := by omega
  go_enter Try.func77, Try.ntmps77
  go_wp2_with (go_at_call 108; refine (atMost_any _ _).mono ?_; rintro e w' ⟨rfl, rfl⟩; rw [ea])
  go_loopw [9, 10] (fun v i wr => ∃ k W : Nat, k ≤ W ∧ W ≤ 100 ∧ i = .int .i64 k ∧ v = .int .i64 W ∧ Hid (wgo (hitAt xs s br) g (101 - k) k W = winZ xs s g br) ∧ Below w.heap.size w wr) (fun _ i _ => 100 - (intOf i).toNat)
  case atStart => exact ⟨0, min 100 g, by omega, by omega, rfl, rfl, rfl, Below.refl _ _⟩
  case round =>
    obtain ⟨k, W, hk, hW, rfl, rfl, hz, hbl⟩ := hrel
    have hsz := hbl.size
    by_cases hlt : k < W
    · have hK := key_ok hs HB.out (show (0 : Int) ≤ (k : Int) by omega) (show (k : Int) < 100 by omega)
      have hz' := hz.out
      rw [show 101 - k = (101 - (k + 1)) + 1 by omega] at hz'
      unfold wgo at hz'
      rw [if_pos hlt] at hz'
      have HZ : Hid (wgo (hitAt xs s br) g (101 - (k + 1)) (k + 1) (if hitAt xs s br k = true then min 100 (k + 1 + g) else W) = winZ xs s g br) := hz'
      clear hz'
      go_wp2_with fail
      refine (address_yes _ _ _ _ hK).mono ?_
      rintro e w1 ⟨rfl, hb1⟩
      have hbw1 := hbl.trans (hb1.mono hsz)
      have hp1 := (hbw1.cell (p := ⟨b, o, none⟩) (cell_lt HP.out)).trans HP.out
      have HX1 : Hid (CelsAt w1 ao xs) := HX.out.grown hbw1
      go_wp2_with fail
      refine (isPaid_any b o ao n c xs _ _ hp1 HX1.out HN.out hm).mono ?_
      rintro e w2 ⟨rfl, hb2⟩
      have hbw2 := hbw1.trans (hb2.mono hbw1.size)
      cases hh : paidTo xs (Mk.adr s br k)
      · rw [show hitAt xs s br k = false from hh] at HZ
        go_wp2
        go_roundw
        case rel => exact ⟨k + 1, W, by omega, hW, by go_num, rfl, HZ.out, hbw2⟩
        case measure => simp [intOf]; omega
      · rw [show hitAt xs s br k = true from hh] at HZ
        have eb : min 100 ((k : Int) + 1 + (g : Int)) = ((min 100 (k + 1 + g) : Nat) : Int) := by omega
        go_wp2_with (go_at_call 108; refine (atMost_any _ _).mono ?_; rintro e w' ⟨rfl, rfl⟩; rw [eb])
        go_roundw
        case rel => exact ⟨k + 1, min 100 (k + 1 + g), by omega, by omega, by go_num, rfl, HZ.out, hbw2⟩
        case measure => simp [intOf]; omega
    · have hkW : k = W := by omega
      subst hkW
      go_wp2
      go_ret
      refine ⟨ret_int ?_, hbl⟩
      rw [← hz.out, show 101 - k = (100 - k) + 1 by omega]
      unfold wgo
      rw [if_neg (by omega)]

end Go.Proofs.Ytffgpepngcnjeaa
