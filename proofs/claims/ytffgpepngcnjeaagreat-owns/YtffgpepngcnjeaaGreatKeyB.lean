/-
-/
import Derived.Test.YtffgpepngcnjeaaGreatMem
namespace Go.Proofs.YtffgpepngcnjeaaGreat
open Go.RowKit

abbrev ag5 (a b c d e : Int) : Value := .agg #[.int .i64 a, .int .i64 b, .int .i64 c, .int .i64 d, .int .i64 e]

theorem isK_iff (s b i : Int) : Mk.isK s b i = true ↔ ((b = 0 ∨ b = 1) ∧ (0 ≤ i ∧ i < 100) ∧ (0 ≤ s ∧ s < 99991)) := by simp [Mk.isK]
theorem isK_no (s b i : Int) : Mk.isK s b i = false ↔ ¬ ((b = 0 ∨ b = 1) ∧ (0 ≤ i ∧ i < 100) ∧ (0 ≤ s ∧ s < 99991)) := by
  unfold Mk.isK; rw [decide_eq_false_iff_not]

theorem isM_isK (s b i : Int) (hb : b = 0 ∨ b = 1) (hi : 0 ≤ i ∧ i < 100) : Mk.isM s = Mk.isK s b i := by
  unfold Mk.isM Mk.isK
  rw [decide_eq_decide]
  exact ⟨fun h => ⟨hb, hi, h⟩, fun h => h.2.2⟩

set_option maxRecDepth 100000 in
set_option maxHeartbeats 400000 in
theorem keyIs_any (s b i : Int) (w : World) :
    Calls Tryz.prog 165 #[.int .i64 s, .int .i64 b, .int .i64 i] w fun e w' => e = .returned (.bool (Mk.isK s b i)) ∧ w = w' := by
  by_cases hb0 : b = 0
  · subst hb0
    by_cases hi : 0 ≤ i
    · by_cases hi2 : i < 100
      · go_enter Tryz.func165, Tryz.ntmps165
        go_wp2_with (go_at_call 27; refine (is_any _ _).mono ?_; rintro e w' ⟨rfl, rfl⟩)
        go_ret
        exact ⟨ret_bool (isM_isK _ _ _ (by simp) ⟨hi, hi2⟩), rfl⟩
      · go_enter Tryz.func165, Tryz.ntmps165
        go_wp2
        go_ret
        exact ⟨ret_bool ((isK_no _ _ _).2 (by omega)).symm, rfl⟩
    · go_enter Tryz.func165, Tryz.ntmps165
      go_wp2
      go_ret
      exact ⟨ret_bool ((isK_no _ _ _).2 (by omega)).symm, rfl⟩
  · by_cases hb1 : b = 1
    · subst hb1
      by_cases hi : 0 ≤ i
      · by_cases hi2 : i < 100
        · go_enter Tryz.func165, Tryz.ntmps165
          go_wp2_with (go_at_call 27; refine (is_any _ _).mono ?_; rintro e w' ⟨rfl, rfl⟩)
          go_ret
          exact ⟨ret_bool (isM_isK _ _ _ (by simp) ⟨hi, hi2⟩), rfl⟩
        · go_enter Tryz.func165, Tryz.ntmps165
          go_wp2
          go_ret
          exact ⟨ret_bool ((isK_no _ _ _).2 (by omega)).symm, rfl⟩
      · go_enter Tryz.func165, Tryz.ntmps165
        go_wp2
        go_ret
        exact ⟨ret_bool ((isK_no _ _ _).2 (by omega)).symm, rfl⟩
    · have h0 : (b != 0) = true := by simpa using hb0
      have h1 : (b != 1) = true := by simpa using hb1
      go_enter Tryz.func165, Tryz.ntmps165
      go_wp2
      go_ret
      exact ⟨ret_bool ((isK_no _ _ _).2 (by omega)).symm, rfl⟩

set_option maxRecDepth 100000 in
set_option maxHeartbeats 400000 in
theorem digits_any (id : Int) (w : World) (h0 : 0 ≤ id) (h1 : id < 99991) :
    Calls Tryz.prog 177 #[.int .i64 id] w fun e w' => e = .returned (ag5 (Mk.d0 id) (Mk.d1 id) (Mk.d2 id) (Mk.lk id / 8) (Mk.lk id % 8)) ∧ Below w.heap.size w w' := by
  go_enter Tryz.func177, Tryz.ntmps177
  go_wp2
  refine bodyPost_ret (v := ag5 (Mk.d0 id) (Mk.d1 id) (Mk.d2 id) (Mk.lk id / 8) (Mk.lk id % 8)) ?_ rfl ⟨rfl, ?_⟩
  · simp [results, Tryz.results177, go_sem, ag5, Mk.d0, Mk.d1, Mk.d2, Mk.lk]
  · exact (Below.refl _ _).alloc (Nat.le_refl _) _

set_option maxRecDepth 100000 in
set_option maxHeartbeats 1000000 in
theorem mixAll_any (a b c d f : Int) (w : World) (ha : 0 ≤ a ∧ a < 99991) (hb : 0 ≤ b ∧ b < 99991) (hc : 0 ≤ c ∧ c < 99991) (hd : 0 ≤ d ∧ d < 99991) (hf : 0 ≤ f ∧ f < 99991) :
    Calls Tryz.prog 168 #[.agg #[.int .i64 a, .int .i64 b, .int .i64 c, .int .i64 d, .int .i64 f]] w fun e w' => e = .returned (.int .i64 (Mk.mixL 1 [a, b, c, d, f])) ∧ Below w.heap.size w w' := by
  have b1 := Mk.mx_bd 1 a
  have b2 := Mk.mx_bd (Mk.mx 1 a) b
  have b3 := Mk.mx_bd (Mk.mx (Mk.mx 1 a) b) c
  have b4 := Mk.mx_bd (Mk.mx (Mk.mx (Mk.mx 1 a) b) c) d
  go_enter Tryz.func168, Tryz.ntmps168
  go_wp2
  refine wp_loop_rounds 6 ?_
  iterate 5
    rw [rounds_succ]
    go_wp2_with (go_at_call 125; refine (mix_any _ _ _ (by omega) (by omega) (by omega) (by omega)).mono ?_; rintro e w' ⟨rfl, rfl⟩)
  rw [rounds_succ]
  go_wp2
  go_ret
  exact ⟨rfl, (Below.refl _ _).alloc (Nat.le_refl _) _⟩

set_option maxRecDepth 100000 in
set_option maxHeartbeats 2000000 in
theorem secrets_any (s b i : Int) (w : World) (hk : Mk.isK s b i = true) :
    Calls Tryz.prog 166 #[.int .i64 s, .int .i64 b, .int .i64 i] w fun e w' => e = .returned (ag5 (Mk.sec s b i 0) (Mk.sec s b i 1) (Mk.sec s b i 2) (Mk.sec s b i 3) (Mk.sec s b i 4)) ∧ Below w.heap.size w w' := by
  have hk' := (isK_iff _ _ _).1 hk
  have hb1 : 0 ≤ b ∧ b ≤ 1 := by omega
  have hi1 := hk'.2.1
  have hs1 := hk'.2.2
  clear hk hk'
  have c1 := Mk.mx_bd s b
  have c2 := Mk.mx_bd (Mk.mx s b) i
  have e0 := Mk.mx_bd (Mk.mx (Mk.mx s b) i) 0
  have e1 := Mk.mx_bd (Mk.mx (Mk.mx s b) i) 1
  have e2 := Mk.mx_bd (Mk.mx (Mk.mx s b) i) 2
  have e3 := Mk.mx_bd (Mk.mx (Mk.mx s b) i) 3
  have e4 := Mk.mx_bd (Mk.mx (Mk.mx s b) i) 4
  go_enter Tryz.func166, Tryz.ntmps166
  go_wp2_with (go_at_call 125; refine (mix_any _ _ _ (by omega) (by omega) (by omega) (by omega)).mono ?_; rintro e w' ⟨rfl, rfl⟩)
  refine wp_loop_rounds 6 ?_
  iterate 5
    rw [rounds_succ]
    go_wp2_with (first | (go_at_call 125; refine (mix_any _ _ _ (by omega) (by omega) (by omega) (by omega)).mono ?_; rintro e w' ⟨rfl, rfl⟩) | (go_at_call 178; refine (turn_any _ _ (by omega) (by omega)).mono ?_; rintro e w' ⟨rfl, rfl⟩))
  rw [rounds_succ]
  go_wp2
  refine bodyPost_ret (v := ag5 (Mk.sec s b i 0) (Mk.sec s b i 1) (Mk.sec s b i 2) (Mk.sec s b i 3) (Mk.sec s b i 4)) ?_ rfl ⟨rfl, ?_⟩
  · simp [results, Tryz.results166, go_sem, ag5, Mk.sec]
  · exact ((Below.refl _ _).alloc (Nat.le_refl _) _).alloc (by simp) _

end Go.Proofs.YtffgpepngcnjeaaGreat
namespace Go.Proofs.YtffgpepngcnjeaaGreat
open Go.RowKit

theorem adr_eq (s b i : Int) : Mk.adr s b i = Mk.mixL 1 [Mk.tnN (Mk.sec s b i 0) 7, Mk.tnN (Mk.sec s b i 1) 7, Mk.tnN (Mk.sec s b i 2) 7, Mk.tnN (Mk.sec s b i 3) 7, Mk.tnN (Mk.sec s b i 4) 7] := rfl

set_option maxRecDepth 100000 in
set_option maxHeartbeats 2000000 in
theorem address_yes (s b i : Int) (w : World) (hk : Mk.isK s b i = true) :
    Calls Tryz.prog 141 #[.int .i64 s, .int .i64 b, .int .i64 i] w fun e w' => e = .returned (.tuple #[.int .i64 (Mk.adr s b i), .int .i64 0]) ∧ Below w.heap.size w w' := by
  have e0 := Mk.sec_bd s b i 0
  have e1 := Mk.sec_bd s b i 1
  have e2 := Mk.sec_bd s b i 2
  have e3 := Mk.sec_bd s b i 3
  have e4 := Mk.sec_bd s b i 4
  have t0 := Mk.tnN_bd _ e0.1 e0.2 7
  have t1 := Mk.tnN_bd _ e1.1 e1.2 7
  have t2 := Mk.tnN_bd _ e2.1 e2.2 7
  have t3 := Mk.tnN_bd _ e3.1 e3.2 7
  have t4 := Mk.tnN_bd _ e4.1 e4.2 7
  go_enter Tryz.func141, Tryz.ntmps141
  go_wp2_with (first | (go_at_call 165; refine (keyIs_any _ _ _ _).mono ?_; rintro e w' ⟨rfl, rfl⟩) | (go_at_call 166; refine (secrets_any _ _ _ _ hk).mono ?_; rintro e w1 ⟨rfl, hb1⟩))
  refine wp_loop_rounds 6 ?_
  iterate 5
    rw [rounds_succ]
    go_wp2_with (go_at_call 167; refine (times_any _ _ _ (by omega) (by omega) (by omega) (by omega)).mono ?_; rintro e w' ⟨rfl, rfl⟩)
  rw [rounds_succ]
  go_wp2_with (go_at_call 168; refine (mixAll_any _ _ _ _ _ _ t0 t1 t2 t3 t4).mono ?_; rintro e w2 ⟨rfl, hb2⟩)
  go_ret2
  refine ⟨rfl, ?_⟩
  have hb1 : Below w.heap.size w w1 := by assumption
  have hs := hb1.size
  exact (hb1.alloc hs _).trans (hb2.mono (by simp; omega))

set_option maxRecDepth 100000 in
set_option maxHeartbeats 400000 in
theorem address_no (s b i : Int) (w : World) (hk : Mk.isK s b i = false) :
    Calls Tryz.prog 141 #[.int .i64 s, .int .i64 b, .int .i64 i] w fun e w' => e = .returned (.tuple #[.int .i64 0, .int .i64 1]) ∧ w = w' := by
  go_enter Tryz.func141, Tryz.ntmps141
  go_wp2_with (go_at_call 165; refine (keyIs_any _ _ _ _).mono ?_; rintro e w' ⟨rfl, rfl⟩)
  go_ret2
  exact ⟨rfl, rfl⟩

end Go.Proofs.YtffgpepngcnjeaaGreat
