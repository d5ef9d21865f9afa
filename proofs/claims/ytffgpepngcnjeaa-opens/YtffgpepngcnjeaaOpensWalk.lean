import Derived.Test.YtffgpepngcnjeaaWrap
namespace Go.Proofs.Ytffgpepngcnjeaa
open Go.RowKit

theorem isS_seal (s b i id : Int) : isS (Mk.sealL s b i id) = true := by
  unfold isS
  rw [Mk.sealL_len, Bool.and_eq_true]
  refine ⟨rfl, ?_⟩
  unfold allM
  rw [List.all_eq_true]
  intro x hx
  exact (Mk.isM_iff x).2 (Mk.sealL_bd s b i id x hx)
theorem isS_four (s b i id : Int) : isS ((Mk.sealL s b i id).take 4) = false := by
  unfold isS
  rw [List.length_take, Mk.sealL_len]
  rfl
theorem Row.take {w : World} {b off : Nat} {l : List Int} (h : Row w b off l) (n : Nat) : Row w b off (l.take n) := by
  intro j hj
  rw [List.length_take] at hj
  rw [h j (by omega)]
  simp only [List.getD]
  rw [List.getElem?_take_of_lt (by omega)]

set_option maxRecDepth 100000 in
set_option maxHeartbeats 1000000 in
theorem opens_noKey (s b i id m : Int) (w : World) (hk : Mk.isK s b i = false) :
    Calls Try.prog 6 #[.int .i64 s, .int .i64 b, .int .i64 i, .int .i64 id, .int .i64 m] w fun e w' => e = .returned (.bool true) ∧ Below w.heap.size w w' := by
  go_enter Try.func6, Try.ntmps6
  go_wp2_with (first | (go_at_call 15; refine (pAddress_no _ _ _ _ hk).mono ?_; rintro e w' ⟨rfl, rfl⟩) | (go_at_call 18; refine (pSeal_noKey _ _ _ _ _ hk).mono ?_; rintro e w' ⟨rfl, rfl⟩) | (go_at_call 28; refine (key_any _ _ _ _).mono ?_; rintro e w' ⟨rfl, rfl⟩))
  go_ret
  exact ⟨rfl, Below.refl _ _⟩

set_option maxRecDepth 100000 in
set_option maxHeartbeats 1000000 in
theorem opens_noMark (s b i id m : Int) (w : World) (hk : Mk.isK s b i = true) (hm : Mk.isM id = false) :
    Calls Try.prog 6 #[.int .i64 s, .int .i64 b, .int .i64 i, .int .i64 id, .int .i64 m] w fun e w' => e = .returned (.bool true) ∧ Below w.heap.size w w' := by
  have ha := Mk.adr_bd s b i
  have hm' := (Mk.isM_no id).1 hm
  by_cases h0 : id < 0
  · clear hm'
    go_enter Try.func6, Try.ntmps6
    go_wp2_with (first | (go_at_call 15; refine (pAddress_yes _ _ _ _ hk).mono ?_; rintro e w1 ⟨rfl, hb1⟩) | (go_at_call 18; refine (pSeal_noMark _ _ _ _ _ hk hm).mono ?_; rintro e w' ⟨rfl, rfl⟩) | (go_at_call 28; refine (key_any _ _ _ _).mono ?_; rintro e w' ⟨rfl, rfl⟩) | (go_at_call 22; refine (pOpen_noMark _ _ _ hm).mono ?_; rintro e w' ⟨rfl, rfl⟩))
    go_ret
    exact ⟨rfl, hb1⟩
  · have h1 : 99991 ≤ id := by omega
    clear hm'
    go_enter Try.func6, Try.ntmps6
    go_wp2_with (first | (go_at_call 15; refine (pAddress_yes _ _ _ _ hk).mono ?_; rintro e w1 ⟨rfl, hb1⟩) | (go_at_call 18; refine (pSeal_noMark _ _ _ _ _ hk hm).mono ?_; rintro e w' ⟨rfl, rfl⟩) | (go_at_call 28; refine (key_any _ _ _ _).mono ?_; rintro e w' ⟨rfl, rfl⟩) | (go_at_call 22; refine (pOpen_noMark _ _ _ hm).mono ?_; rintro e w' ⟨rfl, rfl⟩))
    go_ret
    exact ⟨rfl, hb1⟩

set_option maxRecDepth 100000 in
set_option maxHeartbeats 1000000 in
theorem opens_yes (s b i id m : Int) (w : World) (hk : Mk.isK s b i = true) (hm : Mk.isM id = true) (m1 : -9223372036854775808 ≤ m) (m2 : m ≤ 9223372036854775807) :
    Calls Try.prog 6 #[.int .i64 s, .int .i64 b, .int .i64 i, .int .i64 id, .int .i64 m] w fun e w' => e = .returned (.bool true) ∧ Below w.heap.size w w' := by
  have ha := Mk.adr_bd s b i
  obtain ⟨i0, i1⟩ := (Mk.isM_iff id).1 hm
  have hp := Mk.pk_bd m 195 (by decide)
  have hm2 : Mk.isM (id % 512 + 512 * Mk.pk m 195) = true := (Mk.isM_iff _).2 (by omega)
  have ho1 := Mk.opn_seal s b i id id rfl
  have ho2 := Mk.opn_seal s b i id (id % 512 + 512 * Mk.pk m 195) (by omega)
  have HO1 : Hid _ := ho1
  have HO2 : Hid _ := ho2
  clear ho1 ho2
  go_enter Try.func6, Try.ntmps6
  go_wp2_with fail
  refine (pAddress_yes _ _ _ _ hk).mono ?_
  rintro e w1 ⟨rfl, hb1⟩
  go_wp2_with fail
  refine (pSeal_yes _ _ _ _ _ hk hm).mono ?_
  rintro e w2 ⟨B, rfl, hr2, hb2⟩
  have h12 := below_blk hb1 hb2
  clear hb1 hb2
  go_wp2_with fail
  refine (key_any _ _ _ _).mono ?_
  rintro e w' ⟨rfl, rfl⟩
  go_wp2_with fail
  refine (pOpen_yes _ _ _ _ _ _ hm (Or.inr ⟨_, _, rfl, hr2⟩) (Mk.sealL_len _ _ _ _) (isS_seal _ _ _ _)).mono ?_
  rintro e w3 ⟨rfl, hb3⟩
  rw [HO1.out]
  have h13 := below_blk h12 hb3
  have hr3 := hr2.grown hb3
  clear h12 hb3 hr2
  go_wp2_with fail
  refine (pick_any _ _ _ (by omega) (by omega) m1 m2).mono ?_
  rintro e w' ⟨rfl, rfl⟩
  go_wp2_with fail
  refine (pOpen_yes _ _ _ _ _ _ hm2 (Or.inr ⟨_, _, rfl, hr3⟩) (Mk.sealL_len _ _ _ _) (isS_seal _ _ _ _)).mono ?_
  rintro e w4 ⟨rfl, hb4⟩
  rw [HO2.out]
  have h14 := below_blk h13 hb4
  have hr4 := hr3.grown hb4
  clear h13 hb4 hr3
  go_wp2_with fail
  refine (pOpen_noSeal _ _ _ _ _ _ hm (Or.inr ⟨_, _, rfl, hr4.take 4⟩) (by rw [List.length_take, Mk.sealL_len]; rfl) (by omega) (isS_four _ _ _ _)).mono ?_
  rintro e w' ⟨rfl, rfl⟩
  go_wp2
  go_ret
  exact ⟨rfl, h14⟩

theorem opens_any (s b i id m : Int) (w : World) (m1 : -9223372036854775808 ≤ m) (m2 : m ≤ 9223372036854775807) :
    Calls Try.prog 6 #[.int .i64 s, .int .i64 b, .int .i64 i, .int .i64 id, .int .i64 m] w fun e w' => e = .returned (.bool true) ∧ Below w.heap.size w w' := by
  cases hk : Mk.isK s b i
  · exact opens_noKey _ _ _ _ _ _ hk
  · cases hm : Mk.isM id
    · exact opens_noMark _ _ _ _ _ _ hk hm
    · exact opens_yes _ _ _ _ _ _ hk hm m1 m2

end Go.Proofs.Ytffgpepngcnjeaa
