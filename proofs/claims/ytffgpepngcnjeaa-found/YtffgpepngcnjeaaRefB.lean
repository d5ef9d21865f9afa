/-
  Contracts of the document's answer: addresses, seals, what opens.
-/
import Derived.Test.YtffgpepngcnjeaaRefA
import Derived.Test.YtffgpepngcnjeaaOpen
namespace Go.Proofs.Ytffgpepngcnjeaa
open Go.RowKit

theorem range_snoc (f : Nat → Int) (k : Nat) : (List.range k).map f ++ [f k] = (List.range (k + 1)).map f := by
  rw [List.range_succ, List.map_append]; rfl
theorem range_len (f : Nat → Int) (k : Nat) : ((List.range k).map f).length = k := by simp
theorem mixable_marks {l : List Int} (h : ∀ x ∈ l, 0 ≤ x ∧ x < 99991) : Mixable l := by
  intro j hj
  have := h _ (List.getElem_mem hj)
  simp only [List.getD, List.getElem?_eq_getElem hj, Option.getD_some]
  omega

set_option maxRecDepth 100000 in
set_option maxHeartbeats 1000000 in
theorem to_any (s b i : Int) (w : World) (hk : Mk.isK s b i = true) :
    Calls Try.prog 63 #[.int .i64 s, .int .i64 b, .int .i64 i] w fun e w' => e = .returned (.int .i64 (Mk.adr s b i)) ∧ Below w.heap.size w w' := by
  generalize hB : w.heap.size = B
  have HB : Hid (w.heap.size = B) := hB
  clear hB
  go_enter Try.func63, Try.ntmps63
  go_wp2
  go_loopw [7, 8] (fun v j wr => ∃ k : Nat, k ≤ 5 ∧ j = .int .i64 k ∧ OwnInts wr B v ((List.range k).map fun j => Mk.tnN (Mk.sec s b i j) 7) ∧ Below B w wr) (fun _ j _ => 5 - (intOf j).toNat)
  case atStart => exact ⟨0, by omega, rfl, OwnInts.nil _ _, Below.refl _ _⟩
  case round =>
    obtain ⟨k, hk5, rfl, hown, hbl⟩ := hrel
    have hsz := hbl.size
    rw [HB.out] at hsz
    by_cases hlt : k < 5
    · have bs := Mk.sec_bd s b i k
      have ek : ((k : Int)).toNat = k := Int.toNat_natCast k
      go_wp2_with fail
      refine (secret_any _ _ _ _ _ hk (by omega) (by omega)).mono ?_
      rintro e w1 ⟨rfl, hb1⟩
      rw [ek]
      clear ek
      have hown1 := hown.grown hb1
      have hbl1 := hbl.trans (hb1.mono hsz)
      have hsz1 : B ≤ w1.heap.size := Nat.le_trans hsz hb1.size
      clear hown hbl hb1
      go_wp2_with (first | (go_at_call 102; refine (turned_any _ _ _ (by omega) (by omega) (by omega) (by omega)).mono ?_; rintro e w' ⟨rfl, rfl⟩) | (at_builtin; refine wpList_app1 w1 rfl _ _ rfl B _ _ _ (by rfl) (by rfl) hown1 hsz1 (by rw [range_len]; omega) ?_; intro v' w2 hown2 hb2))
      go_roundw
      case rel => exact ⟨k + 1, by omega, by go_num, by rw [← range_snoc]; exact hown2, hbl1.trans hb2⟩
      case measure => simp [intOf]; omega
    · have hk : k = 5 := by omega
      subst hk
      obtain ⟨ao, c, rfl, hat, _⟩ := hown.slice
      rw [range_len]
      go_wp2_with (go_at_call 60; refine (mixed_any _ _ _ _ _ _ (by omega) (by omega) hat (range_len _ _) (mixable_marks ?_) (by omega)).mono ?_; intro x hx; obtain ⟨j, _, rfl⟩ := List.mem_map.1 hx; exact Mk.tnN_bd _ (Mk.sec_bd s b i j).1 (Mk.sec_bd s b i j).2 _; rintro e w' ⟨rfl, rfl⟩)
      go_ret
      exact ⟨rfl, hbl⟩

end Go.Proofs.Ytffgpepngcnjeaa
