/-
  New, and the document's purse; the game that a script is played with.
-/
import Derived.Test.YtdafkhdgobdhaaaWinC
namespace Go.Proofs.Ytdafkhdgobdhaaa
open Go.RowKit

def fitZ (s g : Int) : Bool := Mk.isM s && decide (1 ≤ g ∧ g ≤ 20)
theorem fitZ_yes {s g : Int} (h : fitZ s g = true) : Mk.isM s = true ∧ 1 ≤ g ∧ g ≤ 20 := by
  simp only [fitZ, Bool.and_eq_true, decide_eq_true_iff] at h
  exact ⟨h.1, h.2.1, h.2.2⟩

set_option maxHeartbeats 400000 in
theorem new_yes (s g : Int) (w : World) (hs : Mk.isM s = true) (h1 : 1 ≤ g) (h2 : g ≤ 20) :
    Calls Try.prog 65 #[.int .i64 s, .int .i64 g] w fun e w' => e = .returned (.tuple #[.pointer (some ⟨w.heap.size, 0, none⟩), .int .i64 0]) ∧ w.alloc (.cells #[.int .i64 s, .int .i64 g, .slice none 0 0, .int .i64 0] 120) = w' := by
  go_enter Try.func65, Try.ntmps65
  go_wp2_with (go_at_call 87; refine (is_any _ _).mono ?_; rintro e w' ⟨rfl, rfl⟩; rw [hs])
  go_ret2
  exact ⟨rfl, rfl⟩

set_option maxHeartbeats 400000 in
theorem new_no (s g : Int) (w : World) (h : fitZ s g = false) :
    Calls Try.prog 65 #[.int .i64 s, .int .i64 g] w fun e w' => e = .returned (.tuple #[.pointer none, .int .i64 1]) ∧ w = w' := by
  cases hs : Mk.isM s
  · go_enter Try.func65, Try.ntmps65
    go_wp2_with (go_at_call 87; refine (is_any _ _).mono ?_; rintro e w' ⟨rfl, rfl⟩; rw [hs])
    go_ret2
    exact ⟨rfl, rfl⟩
  · simp only [fitZ, hs, Bool.true_and, decide_eq_false_iff_not] at h
    by_cases h1 : 1 ≤ g
    · have h2 : 20 < g := by omega
      go_enter Try.func65, Try.ntmps65
      go_wp2_with (go_at_call 87; refine (is_any _ _).mono ?_; rintro e w' ⟨rfl, rfl⟩; rw [hs])
      go_ret2
      exact ⟨rfl, rfl⟩
    · go_enter Try.func65, Try.ntmps65
      go_wp2_with (go_at_call 87; refine (is_any _ _).mono ?_; rintro e w' ⟨rfl, rfl⟩; rw [hs])
      go_ret2
      exact ⟨rfl, rfl⟩

set_option maxHeartbeats 400000 in
theorem fit_any (s g : Int) (w : World) :
    Calls Try.prog 66 #[.int .i64 s, .int .i64 g] w fun e w' => e = .returned (.bool (fitZ s g)) ∧ w = w' := by
  cases hs : Mk.isM s
  · go_enter Try.func66, Try.ntmps66
    go_wp2_with (go_at_call 57; refine (rMark_any _ _).mono ?_; rintro e w' ⟨rfl, rfl⟩; rw [hs])
    go_ret
    exact ⟨ret_bool (by simp [fitZ, hs]), rfl⟩
  · by_cases h1 : 1 ≤ g
    · by_cases h2 : g ≤ 20
      · go_enter Try.func66, Try.ntmps66
        go_wp2_with (go_at_call 57; refine (rMark_any _ _).mono ?_; rintro e w' ⟨rfl, rfl⟩; rw [hs])
        go_ret
        exact ⟨ret_bool (by simp [fitZ, hs, h1, h2]), rfl⟩
      · go_enter Try.func66, Try.ntmps66
        go_wp2_with (go_at_call 57; refine (rMark_any _ _).mono ?_; rintro e w' ⟨rfl, rfl⟩; rw [hs])
        go_ret
        exact ⟨ret_bool (by simp [fitZ, hs]; omega), rfl⟩
    · go_enter Try.func66, Try.ntmps66
      go_wp2_with (go_at_call 57; refine (rMark_any _ _).mono ?_; rintro e w' ⟨rfl, rfl⟩; rw [hs])
      go_ret
      exact ⟨ret_bool (by simp [fitZ, hs]; omega), rfl⟩

def adrs (s br : Int) (k : Nat) : List Int := (List.range k).map fun i : Nat => Mk.adr s br i

set_option maxHeartbeats 1000000 in
theorem addresses_any (s br : Int) (w : World) (hs : Mk.isM s = true) (hb : br = 0 ∨ br = 1) :
    Calls Try.prog 91 #[.int .i64 s, .int .i64 br] w fun e w' => ∃ v, e = .returned v ∧ OwnInts w' w.heap.size v (adrs s br 100) ∧ Below w.heap.size w w' := by
  have HBR : Hid (br = 0 ∨ br = 1) := hb
  clear hb
  generalize hB : w.heap.size = B
  have HB : Hid (w.heap.size = B) := hB
  clear hB
  go_enter Try.func91, Try.ntmps91
  go_wp2
  go_loopw [5, 6] (fun v j wr => ∃ k : Nat, k ≤ 100 ∧ j = .int .i64 k ∧ OwnInts wr B v (adrs s br k) ∧ Below B w wr) (fun _ j _ => 100 - (intOf j).toNat)
  case atStart => exact ⟨0, by omega, rfl, OwnInts.nil _ _, Below.refl _ _⟩
  case round =>
    obtain ⟨k, hk5, rfl, hown, hbl⟩ := hrel
    have hsz := hbl.size
    rw [HB.out] at hsz
    by_cases hlt : k < 100
    · have hK := key_ok hs HBR.out (show (0 : Int) ≤ (k : Int) by omega) (show (k : Int) < 100 by omega)
      go_wp2_with fail
      refine (to_any _ _ _ _ hK).mono ?_
      rintro e w1 ⟨rfl, hb1⟩
      have hown1 := hown.grown hb1
      have hbl1 := hbl.trans (hb1.mono hsz)
      have hsz1 : B ≤ w1.heap.size := Nat.le_trans hsz hb1.size
      have HE : Hid (adrs s br (k + 1) = adrs s br k ++ [Mk.adr s br k]) := by show _ = _; unfold adrs; rw [List.range_succ, List.map_append]; rfl
      have HL : Hid ((adrs s br k).length = k) := by show _ = _; simp [adrs]
      clear hown hbl hb1 hsz
      generalize adrs s br k = L at *
      go_wp2_with (at_builtin; refine wpList_app1 w1 rfl _ _ rfl B _ _ _ (by rfl) (by rfl) hown1 hsz1 (by rw [HL.out]; omega) ?_; intro v' w2 hown2 hb2)
      go_roundw
      case rel => exact ⟨k + 1, by omega, by go_num, by rw [HE.out]; exact hown2, hbl1.trans hb2⟩
      case measure => simp [intOf]; omega
    · have hk : k = 100 := by omega
      subst hk
      go_wp2
      go_ret
      exact ⟨_, rfl, hown, hbl⟩

end Go.Proofs.Ytdafkhdgobdhaaa
