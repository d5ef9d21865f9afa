import Derived.Test.YtffgpepngcnjeaaKeyA
namespace Go.Proofs.Ytffgpepngcnjeaa
open Go.RowKit

theorem adr_eq (s b i : Int) : Mk.adr s b i = Mk.mixL 1 [Mk.tnN (Mk.sec s b i 0) 7, Mk.tnN (Mk.sec s b i 1) 7, Mk.tnN (Mk.sec s b i 2) 7, Mk.tnN (Mk.sec s b i 3) 7, Mk.tnN (Mk.sec s b i 4) 7] := rfl

set_option maxRecDepth 100000 in
set_option maxHeartbeats 2000000 in
theorem address_yes (s b i : Int) (w : World) (hk : Mk.isK s b i = true) :
    Calls Try.prog 61 #[.int .i64 s, .int .i64 b, .int .i64 i] w fun e w' => e = .returned (.tuple #[.int .i64 (Mk.adr s b i), .int .i64 0]) ∧ Below w.heap.size w w' := by
  have e0 := Mk.sec_bd s b i 0
  have e1 := Mk.sec_bd s b i 1
  have e2 := Mk.sec_bd s b i 2
  have e3 := Mk.sec_bd s b i 3
  have e4 := Mk.sec_bd s b i 4
  have t0 := Mk.tnN_bd _ e0.1 e0.2 7
  have t1 := Mk.tnN_bd _ e1.1 e1.2 7
  have t2 := Mk.tnN_bd _ e2.1 e2.2 7
  have t3 := Mk.tnN_bd _ e3.1 e3.2 7
  have t4 := Mk.tnN_bd _ e4.1 e4.2 7
  go_enter Try.func61, Try.ntmps61
  go_wp2_with (first | (go_at_call 97; refine (keyIs_any _ _ _ _).mono ?_; rintro e w' ⟨rfl, rfl⟩) | (go_at_call 98; refine (secrets_any _ _ _ _ hk).mono ?_; rintro e w1 ⟨rfl, hb1⟩))
  refine wp_loop_rounds 6 ?_
  iterate 5
    rw [rounds_succ]
    go_wp2_with (go_at_call 99; refine (times_any _ _ _ (by omega) (by omega) (by omega) (by omega)).mono ?_; rintro e w' ⟨rfl, rfl⟩)
  rw [rounds_succ]
  go_wp2_with (go_at_call 100; refine (mixAll_any _ _ _ _ _ _ t0 t1 t2 t3 t4).mono ?_; rintro e w2 ⟨rfl, hb2⟩)
  go_ret2
  refine ⟨rfl, ?_⟩
  have hb1 : Below w.heap.size w w1 := by assumption
  have hs := hb1.size
  exact (hb1.alloc hs _).trans (hb2.mono (by simp; omega))

set_option maxRecDepth 100000 in
set_option maxHeartbeats 400000 in
theorem address_no (s b i : Int) (w : World) (hk : Mk.isK s b i = false) :
    Calls Try.prog 61 #[.int .i64 s, .int .i64 b, .int .i64 i] w fun e w' => e = .returned (.tuple #[.int .i64 0, .int .i64 1]) ∧ w = w' := by
  go_enter Try.func61, Try.ntmps61
  go_wp2_with (go_at_call 97; refine (keyIs_any _ _ _ _).mono ?_; rintro e w' ⟨rfl, rfl⟩)
  go_ret2
  exact ⟨rfl, rfl⟩

end Go.Proofs.Ytffgpepngcnjeaa
