import Derived.Test.YtffgpepngcnjeaaHand
import Derived.Test.YtffgpepngcnjeaaWrap
namespace Go.Proofs.Ytffgpepngcnjeaa
open Go.RowKit

/-- the second half of Keys: what opens -/
theorem open_both (id : Int) (B : Nat) (ao : Option Addr) (n c : Nat) (l : List Int) (hm : n ≤ 17592186044416) (hn : l.length = n) :
    ∃ a e : Int, (∀ w : World, Row w B 0 (l ++ [-5]) → Calls Try.prog 22 #[.int .i64 id, .slice (some ⟨B, 0, none⟩) n (n + 1)] w fun r w' => r = .returned (.tuple #[.int .i64 a, .int .i64 e]) ∧ Below w.heap.size w w') ∧
      (∀ w : World, IntsAt w ao l → Calls Try.prog 23 #[.int .i64 id, .slice ao n c] w fun r w' => r = .returned (.tuple #[.int .i64 a, .int .i64 e]) ∧ Below w.heap.size w w') := by
  cases hi : Mk.isM id
  · refine ⟨0, 1, fun w _ => (pOpen_noMark id _ w hi).mono ?_, fun w _ => (rOpen_noMark id _ w hi).mono ?_⟩
    all_goals
      rintro r w' ⟨rfl, rfl⟩
      exact ⟨rfl, Below.refl _ _⟩
  · cases hs : isS l
    · refine ⟨0, 2, fun w h => (pOpen_noSeal id _ n _ l w hi (Or.inr ⟨_, _, rfl, h.head⟩) hn (by omega) hs).mono ?_, fun w h => (rOpen_noSeal id _ n _ l w hi h hn hs).mono ?_⟩
      all_goals
        rintro r w' ⟨rfl, rfl⟩
        exact ⟨rfl, Below.refl _ _⟩
    · exact ⟨_, _, fun w h => pOpen_yes id _ n _ l w hi (Or.inr ⟨_, _, rfl, h.head⟩) hn hs, fun w h => rOpen_yes id _ n _ l w hi h hn hs⟩

/-- the first half: addresses -/
theorem address_both (s b i : Int) :
    ∃ a e : Int, (∀ w : World, Calls Try.prog 15 #[.int .i64 s, .int .i64 b, .int .i64 i] w fun r w' => r = .returned (.tuple #[.int .i64 a, .int .i64 e]) ∧ Below w.heap.size w w') ∧
      (∀ w : World, Calls Try.prog 16 #[.int .i64 s, .int .i64 b, .int .i64 i] w fun r w' => r = .returned (.tuple #[.int .i64 a, .int .i64 e]) ∧ Below w.heap.size w w') := by
  cases hk : Mk.isK s b i
  · refine ⟨0, 1, fun w => (pAddress_no s b i w hk).mono ?_, fun w => (rAddress_no s b i w hk).mono ?_⟩
    all_goals
      rintro r w' ⟨rfl, rfl⟩
      exact ⟨rfl, Below.refl _ _⟩
  · exact ⟨_, _, fun w => pAddress_yes s b i w hk, fun w => rAddress_yes s b i w hk⟩

theorem seal_both (s b i id : Int) :
    ∃ (l : List Int) (e : Int), l.length ≤ 5 ∧ (∀ w : World, Calls Try.prog 18 #[.int .i64 s, .int .i64 b, .int .i64 i, .int .i64 id] w fun r w' => ∃ ao c, r = .returned (.tuple #[.slice ao l.length c, .int .i64 e]) ∧ IntsAt w' ao l ∧ Below w.heap.size w w') ∧
      (∀ w : World, Calls Try.prog 19 #[.int .i64 s, .int .i64 b, .int .i64 i, .int .i64 id] w fun r w' => ∃ ao c, r = .returned (.tuple #[.slice ao l.length c, .int .i64 e]) ∧ IntsAt w' ao l ∧ Below w.heap.size w w') := by
  by_cases hk : Mk.isK s b i = true ∧ Mk.isM id = true
  · refine ⟨Mk.sealL s b i id, 0, by rw [Mk.sealL_len]; exact Nat.le_refl _, fun w => (pSeal_yes s b i id w hk.1 hk.2).mono ?_, fun w => (rSeal_yes s b i id w hk.1 hk.2).mono ?_⟩
    · rintro r w' ⟨B, rfl, hr, hb⟩
      exact ⟨_, _, rfl, Or.inr ⟨_, _, rfl, hr⟩, hb⟩
    · rintro r w' ⟨v, rfl, ho, hb⟩
      obtain ⟨ao, c, rfl, hat, _⟩ := ho.slice
      exact ⟨_, _, rfl, hat, hb⟩
  · have hk' : Mk.isK s b i = false ∨ (Mk.isK s b i = true ∧ Mk.isM id = false) := by
      cases h1 : Mk.isK s b i
      · exact Or.inl rfl
      · cases h2 : Mk.isM id
        · exact Or.inr ⟨rfl, rfl⟩
        · exact absurd ⟨h1, h2⟩ hk
    refine ⟨[], 1, by simp, fun w => (pSeal_no s b i id w hk').mono ?_, fun w => (rSeal_no s b i id w hk').mono ?_⟩
    all_goals
      rintro r w' ⟨rfl, rfl⟩
      exact ⟨_, _, rfl, Or.inl rfl, Below.refl _ _⟩

set_option maxRecDepth 100000 in
set_option maxHeartbeats 1000000 in
theorem keys_any (s b i id : Int) (ao : Option Addr) (n c : Nat) (l : List Int) (w : World) (hr : IntsAt w ao l) (hn : l.length = n) (hm : n ≤ 17592186044416) (h0 : ao = none → c = 0) :
    Calls Try.prog 4 #[.int .i64 s, .int .i64 b, .int .i64 i, .int .i64 id, .slice ao n c] w fun e w' => e = .returned (.bool true) ∧ Below w.heap.size w w' := by
  obtain ⟨a, e1, hA, hA'⟩ := address_both s b i
  obtain ⟨q, e2, hq, hS, hS'⟩ := seal_both s b i id
  have HA : Hid _ := hA
  have HA' : Hid _ := hA'
  have HS : Hid _ := hS
  have HS' : Hid _ := hS'
  have HN : Hid (l.length = n) := hn
  have HR : Hid (IntsAt w ao l) := hr
  have H0 : Hid _ := h0
  clear hA hA' hS hS' hn hr h0
  go_enter Try.func4, Try.ntmps4
  go_wp2_with fail
  refine (HA.out _).mono ?_
  rintro e w1 ⟨rfl, hb1⟩
  go_wp2_with fail
  refine (HA'.out _).mono ?_
  rintro e w2 ⟨rfl, hb2⟩
  have h2 := below_blk hb1 hb2
  clear hb1 hb2
  go_wp2_with fail
  refine (num_any _ _).mono ?_
  rintro e w' ⟨rfl, rfl⟩
  go_wp2_with fail
  refine (HS.out _).mono ?_
  rintro e w3 ⟨ao3, c3, rfl, hat3, hb3⟩
  have h3 := below_blk h2 hb3
  clear h2 hb3
  go_wp2_with fail
  refine (HS'.out _).mono ?_
  rintro e w4 ⟨ao4, c4, rfl, hat4, hb4⟩
  have h4 := below_blk h3 hb4
  have hat3' := hat3.grown hb4
  clear h3 hb4 hat3
  go_wp2_with fail
  refine (sameInts_any _ _ _ _ _ q _ hat3' hat4 rfl (by omega)).mono ?_
  rintro e w5 ⟨rfl, hb5⟩
  have h5 := below_blk h4 hb5
  clear h4 hb5 hat3' hat4
  go_wp2_with fail
  refine (num_any _ _).mono ?_
  rintro e w' ⟨rfl, rfl⟩
  go_wp2_with fail
  refine (handedInts_any _ _ _ l _ (HR.out.grown h5) HN.out hm H0.out).mono ?_
  rintro e w6 ⟨B, rfl, hrow6, _, hb6⟩
  have h6 := below_blk h5 hb6
  clear h5 hb6
  obtain ⟨x, e3, hO, hO'⟩ := open_both id B ao n c l hm HN.out
  have HO : Hid _ := hO
  have HO' : Hid _ := hO'
  clear hO hO'
  go_wp2_with fail
  refine (HO.out _ hrow6).mono ?_
  rintro e w7 ⟨rfl, hb7⟩
  have h7 := below_blk h6 hb7
  have hrow7 := hrow6.grown hb7
  clear h6 hb7 hrow6
  go_wp2_with fail
  refine (HO'.out _ (HR.out.grown h7)).mono ?_
  rintro e w8 ⟨rfl, hb8⟩
  have h8 := below_blk h7 hb8
  have hrow8 := hrow7.grown hb8
  clear h7 hb8 hrow7
  go_wp2_with fail
  refine (stillInts_any _ _ _ _ l _ hrow8 (HR.out.grown h8) HN.out hm).mono ?_
  rintro e w9 ⟨rfl, hb9⟩
  have h9 := below_blk h8 hb9
  clear h8 hb9 hrow8
  go_wp2_with fail
  refine (num_any _ _).mono ?_
  rintro e w' ⟨rfl, rfl⟩
  go_wp2
  go_ret
  exact ⟨rfl, h9⟩

end Go.Proofs.Ytffgpepngcnjeaa
