import Derived.Test.YtffgpepngcnjeaaSeal
namespace Go.Proofs.Ytffgpepngcnjeaa
open Go.RowKit

structure OpenInv (w : World) (id : Int) (l : List Int) (b off B1 B2 : Nat) (k : Nat) (wr : World) : Prop where
  r0 : Row wr b off l
  r1 : Row wr B1 0 (dgL id)
  r2 : Row wr B2 0 (partL (fun j => Mk.tnN (l.getD j 0) (7 - Mk.dg id j).toNat) k)
  fr : Free wr B2 0 5
  bl : Below w.heap.size w wr
  n0 : B2 ≠ b
  n1 : B2 ≠ B1
  lo : w.heap.size ≤ B2

theorem OpenInv.step {w : World} {id : Int} {l : List Int} {b off B1 B2 k : Nat} {wr : World} (h : OpenInv w id l b off B1 B2 k wr) (hk : k < 5) :
    OpenInv w id l b off B1 B2 (k + 1) (wr.setCell ⟨B2, k, none⟩ (.int .i64 (Mk.tnN (l.getD k 0) (7 - Mk.dg id k).toNat))) := by
  refine ⟨h.r0.other (by simpa using h.n0) _, h.r1.other (by simpa using h.n1) _, ?_, h.fr.set _ _, h.bl.setCell (by simpa using h.lo) _, h.n0, h.n1, h.lo⟩
  have := h.r2.set (k := k) (by rw [partL_len]; exact hk) (Mk.tnN (l.getD k 0) (7 - Mk.dg id k).toNat)
  rw [Nat.zero_add, partL_set (fun j => Mk.tnN (l.getD j 0) (7 - Mk.dg id j).toNat) k] at this
  exact this
theorem OpenInv.drew {w : World} {id : Int} {l : List Int} {b off B1 B2 k : Nat} {wr : World} (h : OpenInv w id l b off B1 B2 k wr) : OpenInv w id l b off B1 B2 k wr.drew :=
  ⟨h.r0, h.r1, h.r2, h.fr, h.bl.drew, h.n0, h.n1, h.lo⟩

theorem open_start {w w1 : World} {id : Int} {l : List Int} {b off : Nat} (hl : l ≠ []) (hr : Row w b off l) (hb1 : Below w.heap.size w w1) :
    OpenInv w id l b off w1.heap.size (w1.heap.size + 1) 0 ((w1.alloc (.cells #[.int .i64 (Mk.d0 id), .int .i64 (Mk.d1 id), .int .i64 (Mk.d2 id), .int .i64 (Mk.lk id / 8), .int .i64 (Mk.lk id % 8)] 155)).alloc (.cells #[.int .i64 0, .int .i64 0, .int .i64 0, .int .i64 0, .int .i64 0] 155)) := by
  have hs1 := hb1.size
  have hlt := hr.lt hl
  refine ⟨((hr.grown hb1).alloc _).alloc _, (row_new w1 _ _ _ _ _ 155).alloc _, ?_, ?_, ?_, by omega, by omega, by omega⟩
  · have := row_new (w1.alloc (.cells #[.int .i64 (Mk.d0 id), .int .i64 (Mk.d1 id), .int .i64 (Mk.d2 id), .int .i64 (Mk.lk id / 8), .int .i64 (Mk.lk id % 8)] 155)) 0 0 0 0 0 155
    rw [World.size_alloc] at this
    exact this
  · intro j hj
    exact World.frozen?_alloc_at _ _ _ _ (by simp)
  · exact (hb1.alloc hs1 _).alloc (by simp; omega) _

theorem opn_eq (id : Int) (l : List Int) : Mk.opn id l = Mk.mixL 1 [Mk.tnN (l.getD 0 0) (7 - Mk.dg id 0).toNat, Mk.tnN (l.getD 1 0) (7 - Mk.dg id 1).toNat, Mk.tnN (l.getD 2 0) (7 - Mk.dg id 2).toNat, Mk.tnN (l.getD 3 0) (7 - Mk.dg id 3).toNat, Mk.tnN (l.getD 4 0) (7 - Mk.dg id 4).toNat] := rfl

theorem allM_bd {l : List Int} (h : allM l = true) (k : Nat) (hk : k < l.length) : 0 ≤ l.getD k 0 ∧ l.getD k 0 < 99991 := by
  unfold allM at h
  rw [List.all_eq_true] at h
  have := h _ (List.getElem_mem hk)
  rw [Mk.isM_iff] at this
  simpa [List.getD, hk] using this
theorem isS_iff {l : List Int} (h : isS l = true) : l.length = 5 ∧ allM l = true := by
  simpa [isS] using h

set_option maxRecDepth 100000 in
set_option maxHeartbeats 1000000 in
theorem open_row (id : Int) (b off c : Nat) (l : List Int) (w : World) (hm : Mk.isM id = true) (hs : isS l = true) (hr : Row w b off l) :
    Calls Try.prog 67 #[.int .i64 id, .slice (some ⟨b, off, none⟩) 5 c] w fun e w' => e = .returned (.tuple #[.int .i64 (Mk.opn id l), .int .i64 0]) ∧ Below w.heap.size w w' := by
  have hm' := (Mk.isM_iff id).1 hm
  obtain ⟨h5, hall⟩ := isS_iff hs
  have HR : Hid (Row w b off l) := hr
  have H5 : Hid (l.length = 5) := h5
  have HA : Hid (allM l = true) := hall
  have hne : l ≠ [] := by intro e; rw [e] at h5; simp at h5
  clear hr h5 hall
  go_enter Try.func67, Try.ntmps67
  go_wp2_with (first | (go_at_call 103; refine (is_any _ _).mono ?_; rintro e w' ⟨rfl, rfl⟩) | (go_at_call 106; refine (isSeal_any _ _ _ _ _ (Or.inr ⟨_, _, rfl, HR.out⟩) H5.out (by omega)).mono ?_; rintro e w' ⟨rfl, rfl⟩) | (go_at_call 104; refine (digits_any _ _ hm'.1 hm'.2).mono ?_; rintro e w1 ⟨rfl, hb1⟩))
  have hinv := open_start (id := id) hne HR.out hb1
  have HI : Hid _ := hinv
  clear hinv hb1
  generalize hB1 : w1.heap.size = B1 at *
  clear hB1
  go_loopw [8] (fun v wr => ∃ k : Nat, k ≤ 5 ∧ v = .int .i64 k ∧ OpenInv w id l b off B1 (B1 + 1) k wr) (fun v _ => 5 - (intOf v).toNat)
  case atStart => exact ⟨0, by omega, rfl, HI.out⟩
  case round =>
    obtain ⟨k, hk5, rfl, hinv⟩ := hrel
    by_cases hlt : k < 5
    · have c0 : wr.cell? ⟨b, off + k, none⟩ = some (.int .i64 (l.getD k 0)) := hinv.r0 k (by rw [H5.out]; exact hlt)
      have c1 : wr.cell? ⟨B1, k, none⟩ = some (.int .i64 (Mk.dg id k)) := by
        have := hinv.r1 k (by simpa [dgL] using hlt); rw [Nat.zero_add, dgL_at id k hlt] at this; exact this
      obtain ⟨v3, c3⟩ : ∃ v3, wr.cell? ⟨B1 + 1, k, none⟩ = some v3 := by
        have := hinv.r2 k (by rw [partL_len]; exact hlt); rw [Nat.zero_add] at this; exact ⟨_, this⟩
      have f3 : wr.frozen? ⟨B1 + 1, k, none⟩ = false := by
        have := hinv.fr k hlt; rw [Nat.zero_add] at this; exact this
      have bs := allM_bd HA.out k (by rw [H5.out]; exact hlt)
      have bd := Mk.dg_bd id k
      have hw7 : IntKind.i64.wrap (7 - Mk.dg id k) = 7 - Mk.dg id k := IntWalk.i64_in _ ⟨by omega, by omega⟩
      have hst := hinv.drew.step hlt
      generalize l.getD k 0 = x at c0 bs hst
      have HS : Hid _ := hst
      clear hst
      go_wp2
      go_region_with (go_at_call 99; refine (times_any _ _ _ (by omega) (by omega) (by omega) (by omega)).mono ?_; rintro e w' ⟨rfl, rfl⟩)
      all_goals go_wp2
      all_goals go_roundw
      all_goals first | exact ⟨k + 1, by omega, by go_num, HS.out⟩ | (simp [intOf]; omega)
    · have hk : k = 5 := by omega
      subst hk
      have r2 := hinv.r2
      rw [partL_all] at r2
      have t0 := Mk.tnN_bd _ (allM_bd HA.out 0 (by rw [H5.out]; decide)).1 (allM_bd HA.out 0 (by rw [H5.out]; decide)).2 (7 - Mk.dg id 0).toNat
      have t1 := Mk.tnN_bd _ (allM_bd HA.out 1 (by rw [H5.out]; decide)).1 (allM_bd HA.out 1 (by rw [H5.out]; decide)).2 (7 - Mk.dg id 1).toNat
      have t2 := Mk.tnN_bd _ (allM_bd HA.out 2 (by rw [H5.out]; decide)).1 (allM_bd HA.out 2 (by rw [H5.out]; decide)).2 (7 - Mk.dg id 2).toNat
      have t3 := Mk.tnN_bd _ (allM_bd HA.out 3 (by rw [H5.out]; decide)).1 (allM_bd HA.out 3 (by rw [H5.out]; decide)).2 (7 - Mk.dg id 3).toNat
      have t4 := Mk.tnN_bd _ (allM_bd HA.out 4 (by rw [H5.out]; decide)).1 (allM_bd HA.out 4 (by rw [H5.out]; decide)).2 (7 - Mk.dg id 4).toNat
      have q0 : wr.cell? ⟨B1 + 1, 0, none⟩ = some (.int .i64 (Mk.tnN (l.getD 0 0) (7 - Mk.dg id 0).toNat)) := r2 0 (by simp)
      have q1 : wr.cell? ⟨B1 + 1, 1, none⟩ = some (.int .i64 (Mk.tnN (l.getD 1 0) (7 - Mk.dg id 1).toNat)) := r2 1 (by simp)
      have q2 : wr.cell? ⟨B1 + 1, 2, none⟩ = some (.int .i64 (Mk.tnN (l.getD 2 0) (7 - Mk.dg id 2).toNat)) := r2 2 (by simp)
      have q3 : wr.cell? ⟨B1 + 1, 3, none⟩ = some (.int .i64 (Mk.tnN (l.getD 3 0) (7 - Mk.dg id 3).toNat)) := r2 3 (by simp)
      have q4 : wr.cell? ⟨B1 + 1, 4, none⟩ = some (.int .i64 (Mk.tnN (l.getD 4 0) (7 - Mk.dg id 4).toNat)) := r2 4 (by simp)
      have HO : Hid _ := opn_eq id l
      generalize Mk.tnN (l.getD 0 0) (7 - Mk.dg id 0).toNat = x0 at *
      generalize Mk.tnN (l.getD 1 0) (7 - Mk.dg id 1).toNat = x1 at *
      generalize Mk.tnN (l.getD 2 0) (7 - Mk.dg id 2).toNat = x2 at *
      generalize Mk.tnN (l.getD 3 0) (7 - Mk.dg id 3).toNat = x3 at *
      generalize Mk.tnN (l.getD 4 0) (7 - Mk.dg id 4).toNat = x4 at *
      clear r2
      go_wp2_with (go_at_call 100; refine (mixAll_any _ _ _ _ _ _ t0 t1 t2 t3 t4).mono ?_; rintro e w2 ⟨rfl, hb2⟩)
      go_ret2
      exact ⟨by rw [HO.out]; rfl, below_blk hinv.bl hb2⟩

set_option maxRecDepth 100000 in
set_option maxHeartbeats 400000 in
theorem open_noMark (id : Int) (v : Value) (w : World) (hm : Mk.isM id = false) :
    Calls Try.prog 67 #[.int .i64 id, v] w fun e w' => e = .returned (.tuple #[.int .i64 0, .int .i64 1]) ∧ w = w' := by
  go_enter Try.func67, Try.ntmps67
  go_wp2_with (go_at_call 103; refine (is_any _ _).mono ?_; rintro e w' ⟨rfl, rfl⟩)
  go_ret2
  exact ⟨rfl, rfl⟩

set_option maxRecDepth 100000 in
set_option maxHeartbeats 400000 in
theorem open_noSeal (id : Int) (ao : Option Addr) (n c : Nat) (l : List Int) (w : World) (hm : Mk.isM id = true) (hr : IntsAt w ao l) (hn : l.length = n) (hx : n ≤ 9223372036854775807) (hs : isS l = false) :
    Calls Try.prog 67 #[.int .i64 id, .slice ao n c] w fun e w' => e = .returned (.tuple #[.int .i64 0, .int .i64 2]) ∧ w = w' := by
  have HR : Hid (IntsAt w ao l) := hr
  have HN : Hid (l.length = n) := hn
  clear hr hn
  go_enter Try.func67, Try.ntmps67
  go_wp2_with (first | (go_at_call 103; refine (is_any _ _).mono ?_; rintro e w' ⟨rfl, rfl⟩) | (go_at_call 106; refine (isSeal_any _ _ _ _ _ HR.out HN.out (by omega)).mono ?_; rintro e w' ⟨rfl, rfl⟩))
  go_ret2
  exact ⟨rfl, rfl⟩

theorem open_yes (id : Int) (ao : Option Addr) (n c : Nat) (l : List Int) (w : World) (hm : Mk.isM id = true) (hr : IntsAt w ao l) (hn : l.length = n) (hs : isS l = true) :
    Calls Try.prog 67 #[.int .i64 id, .slice ao n c] w fun e w' => e = .returned (.tuple #[.int .i64 (Mk.opn id l), .int .i64 0]) ∧ Below w.heap.size w w' := by
  have h5 := (isS_iff hs).1
  obtain rfl : n = 5 := by omega
  rcases hr with rfl | ⟨b, off, rfl, hr⟩
  · simp at h5
  · exact open_row id b off c l w hm hs hr

end Go.Proofs.Ytffgpepngcnjeaa
