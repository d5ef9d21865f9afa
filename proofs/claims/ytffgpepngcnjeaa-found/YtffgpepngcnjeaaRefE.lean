import Derived.Test.YtffgpepngcnjeaaRefD
namespace Go.Proofs.Ytffgpepngcnjeaa
open Go.RowKit

set_option maxRecDepth 100000 in
set_option maxHeartbeats 400000 in
theorem rAddress_yes (s b i : Int) (w : World) (hk : Mk.isK s b i = true) :
    Calls Try.prog 16 #[.int .i64 s, .int .i64 b, .int .i64 i] w fun e w' => e = .returned (.tuple #[.int .i64 (Mk.adr s b i), .int .i64 0]) ∧ Below w.heap.size w w' := by
  go_enter Try.func16, Try.ntmps16
  go_wp2_with (first | (go_at_call 62; refine (rIsKey_any _ _ _ _).mono ?_; rintro e w' ⟨rfl, rfl⟩) | (go_at_call 63; refine (to_any _ _ _ _ hk).mono ?_; rintro e w' ⟨rfl, hb⟩))
  go_ret2
  exact ⟨rfl, hb⟩
set_option maxRecDepth 100000 in
set_option maxHeartbeats 400000 in
theorem rAddress_no (s b i : Int) (w : World) (hk : Mk.isK s b i = false) :
    Calls Try.prog 16 #[.int .i64 s, .int .i64 b, .int .i64 i] w fun e w' => e = .returned (.tuple #[.int .i64 0, .int .i64 1]) ∧ w = w' := by
  go_enter Try.func16, Try.ntmps16
  go_wp2_with (go_at_call 62; refine (rIsKey_any _ _ _ _).mono ?_; rintro e w' ⟨rfl, rfl⟩)
  go_ret2
  exact ⟨rfl, rfl⟩
set_option maxRecDepth 100000 in
set_option maxHeartbeats 400000 in
theorem rSeal_yes (s b i id : Int) (w : World) (hk : Mk.isK s b i = true) (hm : Mk.isM id = true) :
    Calls Try.prog 19 #[.int .i64 s, .int .i64 b, .int .i64 i, .int .i64 id] w fun e w' => ∃ v, e = .returned (.tuple #[v, .int .i64 0]) ∧ OwnInts w' w.heap.size v (Mk.sealL s b i id) ∧ Below w.heap.size w w' := by
  go_enter Try.func19, Try.ntmps19
  go_wp2_with (first | (go_at_call 62; refine (rIsKey_any _ _ _ _).mono ?_; rintro e w' ⟨rfl, rfl⟩) | (go_at_call 65; refine (rMark_any _ _).mono ?_; rintro e w' ⟨rfl, rfl⟩) | (go_at_call 66; refine (sealed_any _ _ _ _ _ hk hm).mono ?_; rintro e w' ⟨v, rfl, ho, hb⟩))
  go_ret2
  exact ⟨_, rfl, ho, hb⟩
set_option maxRecDepth 100000 in
set_option maxHeartbeats 400000 in
theorem rSeal_no (s b i id : Int) (w : World) (hk : Mk.isK s b i = false ∨ (Mk.isK s b i = true ∧ Mk.isM id = false)) :
    Calls Try.prog 19 #[.int .i64 s, .int .i64 b, .int .i64 i, .int .i64 id] w fun e w' => e = .returned (.tuple #[.slice none 0 0, .int .i64 1]) ∧ w = w' := by
  rcases hk with h | ⟨h, h'⟩
  · go_enter Try.func19, Try.ntmps19
    go_wp2_with (first | (go_at_call 62; refine (rIsKey_any _ _ _ _).mono ?_; rintro e w' ⟨rfl, rfl⟩) | (go_at_call 65; refine (rMark_any _ _).mono ?_; rintro e w' ⟨rfl, rfl⟩))
    go_ret2
    exact ⟨rfl, rfl⟩
  · go_enter Try.func19, Try.ntmps19
    go_wp2_with (first | (go_at_call 62; refine (rIsKey_any _ _ _ _).mono ?_; rintro e w' ⟨rfl, rfl⟩) | (go_at_call 65; refine (rMark_any _ _).mono ?_; rintro e w' ⟨rfl, rfl⟩))
    go_ret2
    exact ⟨rfl, rfl⟩

theorem opened_any (id : Int) (ao : Option Addr) (n c : Nat) (l : List Int) (w : World) (hm : Mk.isM id = true) (hr : IntsAt w ao l) (hn : l.length = n) (hs : isS l = true) :
    Calls Try.prog 69 #[.int .i64 id, .slice ao n c] w fun e w' => e = .returned (.int .i64 (Mk.opn id l)) ∧ Below w.heap.size w w' := by
  have h5 := (isS_iff hs).1
  obtain rfl : n = 5 := by omega
  rcases hr with rfl | ⟨b, off, rfl, hr⟩
  · simp at h5
  · exact opened_row id b off c l w hm hs hr

set_option maxRecDepth 100000 in
set_option maxHeartbeats 400000 in
theorem rOpen_yes (id : Int) (ao : Option Addr) (n c : Nat) (l : List Int) (w : World) (hm : Mk.isM id = true) (hr : IntsAt w ao l) (hn : l.length = n) (hs : isS l = true) :
    Calls Try.prog 23 #[.int .i64 id, .slice ao n c] w fun e w' => e = .returned (.tuple #[.int .i64 (Mk.opn id l), .int .i64 0]) ∧ Below w.heap.size w w' := by
  have HN : Hid (l.length = n) := hn
  clear hn
  go_enter Try.func23, Try.ntmps23
  go_wp2_with (first | (go_at_call 65; refine (rMark_any _ _).mono ?_; rintro e w' ⟨rfl, rfl⟩) | (go_at_call 68; refine (rIsSeal_any _ _ _ l _ hr HN.out).mono ?_; rintro e w' ⟨rfl, rfl⟩) | (go_at_call 69; refine (opened_any _ _ _ _ l _ hm hr HN.out hs).mono ?_; rintro e w' ⟨rfl, hb⟩))
  go_ret2
  exact ⟨rfl, hb⟩
set_option maxRecDepth 100000 in
set_option maxHeartbeats 400000 in
theorem rOpen_noMark (id : Int) (v : Value) (w : World) (hm : Mk.isM id = false) :
    Calls Try.prog 23 #[.int .i64 id, v] w fun e w' => e = .returned (.tuple #[.int .i64 0, .int .i64 1]) ∧ w = w' := by
  go_enter Try.func23, Try.ntmps23
  go_wp2_with (go_at_call 65; refine (rMark_any _ _).mono ?_; rintro e w' ⟨rfl, rfl⟩)
  go_ret2
  exact ⟨rfl, rfl⟩
set_option maxRecDepth 100000 in
set_option maxHeartbeats 400000 in
theorem rOpen_noSeal (id : Int) (ao : Option Addr) (n c : Nat) (l : List Int) (w : World) (hm : Mk.isM id = true) (hr : IntsAt w ao l) (hn : l.length = n) (hs : isS l = false) :
    Calls Try.prog 23 #[.int .i64 id, .slice ao n c] w fun e w' => e = .returned (.tuple #[.int .i64 0, .int .i64 2]) ∧ w = w' := by
  have HN : Hid (l.length = n) := hn
  clear hn
  go_enter Try.func23, Try.ntmps23
  go_wp2_with (first | (go_at_call 65; refine (rMark_any _ _).mono ?_; rintro e w' ⟨rfl, rfl⟩) | (go_at_call 68; refine (rIsSeal_any _ _ _ l _ hr HN.out).mono ?_; rintro e w' ⟨rfl, rfl⟩))
  go_ret2
  exact ⟨rfl, rfl⟩

set_option maxRecDepth 100000 in
set_option maxHeartbeats 400000 in
theorem num_any (x : Int) (w : World) :
    Calls Try.prog 17 #[.int .i64 x] w fun e w' => e = .returned (.int .i64 x) ∧ w = w' := by
  go_enter Try.func17, Try.ntmps17
  go_wp2
  go_ret
  exact ⟨rfl, rfl⟩

set_option maxRecDepth 100000 in
set_option maxHeartbeats 400000 in
theorem sameInts_nil (ao bo : Option Addr) (c d : Nat) (w : World) :
    Calls Try.prog 20 #[.slice ao 0 c, .slice bo 0 d] w fun e w' => e = .returned (.bool true) ∧ w = w' := by
  go_enter Try.func20, Try.ntmps20
  go_wp2
  refine wp_loop_rounds 1 ?_
  rw [rounds_succ]
  go_wp2
  go_ret
  exact ⟨rfl, rfl⟩

set_option maxRecDepth 100000 in
set_option maxHeartbeats 400000 in
theorem sameInts_row (a1 o1 a2 o2 n c d : Nat) (l : List Int) (w : World) (h1 : Row w a1 o1 l) (h2 : Row w a2 o2 l) (hn : l.length = n) (hm : n ≤ 9223372036854775807) :
    Calls Try.prog 20 #[.slice (some ⟨a1, o1, none⟩) n c, .slice (some ⟨a2, o2, none⟩) n d] w fun e w' => e = .returned (.bool true) ∧ Below w.heap.size w w' := by
  have H1 : Hid (Row w a1 o1 l) := h1
  have H2 : Hid (Row w a2 o2 l) := h2
  have HN : Hid (l.length = n) := hn
  clear h1 h2 hn
  go_enter Try.func20, Try.ntmps20
  go_wp2
  go_loopw [5] (fun i wr => ∃ k : Nat, k ≤ n ∧ i = .int .i64 k ∧ Below w.heap.size w wr) (fun i _ => n - (intOf i).toNat)
  case atStart => exact ⟨0, Nat.zero_le _, rfl, Below.refl _ _⟩
  case round =>
    obtain ⟨k, hk, rfl, hbl⟩ := hrel
    by_cases hlt : k < n
    · have c1 := (H1.out.grown hbl) k (by rw [HN.out]; exact hlt)
      have c2 := (H2.out.grown hbl) k (by rw [HN.out]; exact hlt)
      generalize l.getD k 0 = x at c1 c2
      go_wp2
      go_region
      all_goals
        go_wp2
        go_roundw
        case rel => exact ⟨k + 1, by omega, by go_num, hbl.drew⟩
        case measure => simp [intOf]; omega
    · go_wp2
      go_ret
      exact ⟨rfl, hbl⟩

theorem sameInts_any (ao bo : Option Addr) (n c d : Nat) (l : List Int) (w : World) (h1 : IntsAt w ao l) (h2 : IntsAt w bo l) (hn : l.length = n) (hm : n ≤ 9223372036854775807) :
    Calls Try.prog 20 #[.slice ao n c, .slice bo n d] w fun e w' => e = .returned (.bool true) ∧ Below w.heap.size w w' := by
  rcases h1 with rfl | ⟨a1, o1, rfl, h1⟩
  · have h0 : n = 0 := by rw [← hn]; rfl
    subst h0
    refine (sameInts_nil ao bo c d w).mono ?_
    rintro e w' ⟨rfl, rfl⟩
    exact ⟨rfl, Below.refl _ _⟩
  · rcases h2 with rfl | ⟨a2, o2, rfl, h2⟩
    · have h0 : n = 0 := by rw [← hn]; rfl
      subst h0
      refine (sameInts_nil _ _ c d w).mono ?_
      rintro e w' ⟨rfl, rfl⟩
      exact ⟨rfl, Below.refl _ _⟩
    · exact sameInts_row a1 o1 a2 o2 n c d l w h1 h2 hn hm

end Go.Proofs.Ytffgpepngcnjeaa
