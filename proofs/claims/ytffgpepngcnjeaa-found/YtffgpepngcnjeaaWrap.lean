import Derived.Test.YtffgpepngcnjeaaOpen
namespace Go.Proofs.Ytffgpepngcnjeaa
open Go.RowKit

set_option maxRecDepth 100000 in
set_option maxHeartbeats 400000 in
theorem pAddress_yes (s b i : Int) (w : World) (hk : Mk.isK s b i = true) :
    Calls Try.prog 15 #[.int .i64 s, .int .i64 b, .int .i64 i] w fun e w' => e = .returned (.tuple #[.int .i64 (Mk.adr s b i), .int .i64 0]) ∧ Below w.heap.size w w' := by
  go_enter Try.func15, Try.ntmps15
  go_wp2_with (go_at_call 61; refine (address_yes _ _ _ _ hk).mono ?_; rintro e w' ⟨rfl, hb⟩)
  go_ret2
  exact ⟨rfl, hb⟩
set_option maxRecDepth 100000 in
set_option maxHeartbeats 400000 in
theorem pAddress_no (s b i : Int) (w : World) (hk : Mk.isK s b i = false) :
    Calls Try.prog 15 #[.int .i64 s, .int .i64 b, .int .i64 i] w fun e w' => e = .returned (.tuple #[.int .i64 0, .int .i64 1]) ∧ w = w' := by
  go_enter Try.func15, Try.ntmps15
  go_wp2_with (go_at_call 61; refine (address_no _ _ _ _ hk).mono ?_; rintro e w' ⟨rfl, rfl⟩)
  go_ret2
  exact ⟨rfl, rfl⟩
set_option maxRecDepth 100000 in
set_option maxHeartbeats 400000 in
theorem pSeal_yes (s b i id : Int) (w : World) (hk : Mk.isK s b i = true) (hm : Mk.isM id = true) :
    Calls Try.prog 18 #[.int .i64 s, .int .i64 b, .int .i64 i, .int .i64 id] w fun e w' => ∃ B, e = .returned (.tuple #[.slice (some ⟨B, 0, none⟩) 5 5, .int .i64 0]) ∧ Row w' B 0 (Mk.sealL s b i id) ∧ Below w.heap.size w w' := by
  go_enter Try.func18, Try.ntmps18
  go_wp2_with (go_at_call 64; refine (seal_yes _ _ _ _ _ hk hm).mono ?_; rintro e w' ⟨B, rfl, hr, hb⟩)
  go_ret2
  exact ⟨_, rfl, hr, hb⟩
set_option maxRecDepth 100000 in
set_option maxHeartbeats 400000 in
theorem pSeal_noKey (s b i id : Int) (w : World) (hk : Mk.isK s b i = false) :
    Calls Try.prog 18 #[.int .i64 s, .int .i64 b, .int .i64 i, .int .i64 id] w fun e w' => e = .returned (.tuple #[.slice none 0 0, .int .i64 1]) ∧ w = w' := by
  go_enter Try.func18, Try.ntmps18
  go_wp2_with (go_at_call 64; refine (seal_noKey _ _ _ _ _ hk).mono ?_; rintro e w' ⟨rfl, rfl⟩)
  go_ret2
  exact ⟨rfl, rfl⟩
set_option maxRecDepth 100000 in
set_option maxHeartbeats 400000 in
theorem pSeal_noMark (s b i id : Int) (w : World) (hk : Mk.isK s b i = true) (hm : Mk.isM id = false) :
    Calls Try.prog 18 #[.int .i64 s, .int .i64 b, .int .i64 i, .int .i64 id] w fun e w' => e = .returned (.tuple #[.slice none 0 0, .int .i64 1]) ∧ w = w' := by
  go_enter Try.func18, Try.ntmps18
  go_wp2_with (go_at_call 64; refine (seal_noMark _ _ _ _ _ hk hm).mono ?_; rintro e w' ⟨rfl, rfl⟩)
  go_ret2
  exact ⟨rfl, rfl⟩
theorem pSeal_no (s b i id : Int) (w : World) (hk : Mk.isK s b i = false ∨ (Mk.isK s b i = true ∧ Mk.isM id = false)) :
    Calls Try.prog 18 #[.int .i64 s, .int .i64 b, .int .i64 i, .int .i64 id] w fun e w' => e = .returned (.tuple #[.slice none 0 0, .int .i64 1]) ∧ w = w' := by
  rcases hk with h | ⟨h, h'⟩
  · exact pSeal_noKey _ _ _ _ _ h
  · exact pSeal_noMark _ _ _ _ _ h h'
set_option maxRecDepth 100000 in
set_option maxHeartbeats 400000 in
theorem pOpen_yes (id : Int) (ao : Option Addr) (n c : Nat) (l : List Int) (w : World) (hm : Mk.isM id = true) (hr : IntsAt w ao l) (hn : l.length = n) (hs : isS l = true) :
    Calls Try.prog 22 #[.int .i64 id, .slice ao n c] w fun e w' => e = .returned (.tuple #[.int .i64 (Mk.opn id l), .int .i64 0]) ∧ Below w.heap.size w w' := by
  have HN : Hid (l.length = n) := hn
  clear hn
  go_enter Try.func22, Try.ntmps22
  go_wp2_with (go_at_call 67; refine (open_yes _ _ _ _ l _ hm hr HN.out hs).mono ?_; rintro e w' ⟨rfl, hb⟩)
  go_ret2
  exact ⟨rfl, hb⟩
set_option maxRecDepth 100000 in
set_option maxHeartbeats 400000 in
theorem pOpen_noMark (id : Int) (v : Value) (w : World) (hm : Mk.isM id = false) :
    Calls Try.prog 22 #[.int .i64 id, v] w fun e w' => e = .returned (.tuple #[.int .i64 0, .int .i64 1]) ∧ w = w' := by
  go_enter Try.func22, Try.ntmps22
  go_wp2_with (go_at_call 67; refine (open_noMark _ _ _ hm).mono ?_; rintro e w' ⟨rfl, rfl⟩)
  go_ret2
  exact ⟨rfl, rfl⟩
set_option maxRecDepth 100000 in
set_option maxHeartbeats 400000 in
theorem pOpen_noSeal (id : Int) (ao : Option Addr) (n c : Nat) (l : List Int) (w : World) (hm : Mk.isM id = true) (hr : IntsAt w ao l) (hn : l.length = n) (hx : n ≤ 9223372036854775807) (hs : isS l = false) :
    Calls Try.prog 22 #[.int .i64 id, .slice ao n c] w fun e w' => e = .returned (.tuple #[.int .i64 0, .int .i64 2]) ∧ w = w' := by
  have HN : Hid (l.length = n) := hn
  clear hn
  go_enter Try.func22, Try.ntmps22
  go_wp2_with (go_at_call 67; refine (open_noSeal _ _ _ _ l _ hm hr HN.out hx hs).mono ?_; rintro e w' ⟨rfl, rfl⟩)
  go_ret2
  exact ⟨rfl, rfl⟩

theorem pk_neg (c n : Int) (h : c < 0) : -(c + 1).tmod n = Mk.pk c n := by
  unfold Mk.pk
  rw [if_pos h, ← Int.neg_tmod, Int.tmod_eq_emod_of_nonneg (by omega)]
theorem pk_pos (c n : Int) (h : 0 ≤ c) : c % n = Mk.pk c n := by
  unfold Mk.pk
  rw [if_neg (by omega)]

set_option maxRecDepth 100000 in
set_option maxHeartbeats 400000 in
theorem pick_any (c n : Int) (w : World) (h1 : 1 ≤ n) (h2 : n ≤ 9223372036854775807) (c1 : -9223372036854775808 ≤ c) (c2 : c ≤ 9223372036854775807) :
    Calls Try.prog 27 #[.int .i64 c, .int .i64 n] w fun e w' => e = .returned (.int .i64 (Mk.pk c n)) ∧ w = w' := by
  by_cases h : c < 0
  · go_enter Try.func27, Try.ntmps27
    go_wp2
    go_ret
    exact ⟨ret_int (pk_neg c n h), rfl⟩
  · go_enter Try.func27, Try.ntmps27
    go_wp2
    go_ret
    exact ⟨ret_int (pk_pos c n (by omega)), rfl⟩

set_option maxRecDepth 100000 in
set_option maxHeartbeats 400000 in
theorem key_any (s b i : Int) (w : World) :
    Calls Try.prog 28 #[.int .i64 s, .int .i64 b, .int .i64 i] w fun e w' => e = .returned (.bool (Mk.isK s b i)) ∧ w = w' := by
  have hno := (isK_no s b i).2
  have hyes := (isK_iff s b i).2
  have HNO : Hid _ := hno
  have HYES : Hid _ := hyes
  clear hno hyes
  by_cases h1 : 0 ≤ s
  · by_cases h2 : s < 99991
    · by_cases h3 : 0 ≤ b
      · by_cases h4 : b ≤ 1
        · by_cases h5 : 0 ≤ i
          · by_cases h6 : i < 100
            · go_enter Try.func28, Try.ntmps28
              go_wp2
              go_ret
              exact ⟨ret_bool (HYES.out (by omega)).symm, rfl⟩
            · go_enter Try.func28, Try.ntmps28
              go_wp2
              go_ret
              exact ⟨ret_bool (HNO.out (by omega)).symm, rfl⟩
          · go_enter Try.func28, Try.ntmps28
            go_wp2
            go_ret
            exact ⟨ret_bool (HNO.out (by omega)).symm, rfl⟩
        · go_enter Try.func28, Try.ntmps28
          go_wp2
          go_ret
          exact ⟨ret_bool (HNO.out (by omega)).symm, rfl⟩
      · go_enter Try.func28, Try.ntmps28
        go_wp2
        go_ret
        exact ⟨ret_bool (HNO.out (by omega)).symm, rfl⟩
    · go_enter Try.func28, Try.ntmps28
      go_wp2
      go_ret
      exact ⟨ret_bool (HNO.out (by omega)).symm, rfl⟩
  · go_enter Try.func28, Try.ntmps28
    go_wp2
    go_ret
    exact ⟨ret_bool (HNO.out (by omega)).symm, rfl⟩

end Go.Proofs.Ytffgpepngcnjeaa
