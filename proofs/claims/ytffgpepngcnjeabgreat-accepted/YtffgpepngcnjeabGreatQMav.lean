/-
  The proof of Rows.AcceptedSaid: the frame round the walk of AcM.
-/
import Derived.Test.YtffgpepngcnjeabGreatQMau
import Derived.WalkKit
import Derived.ProofKit
import Derived.OpenShut
import Derived.ShutString
import Derived.ChangeOld
import Derived.Below
import Derived.SizedLaws
namespace Go.Proofs.YtffgpepngcnjeabGreat.accepted
open Go.Proofs.YtffgpepngcnjeabGreatQ Go.ChangeShapes Go.WideShapes Go.ChangeAt Go.RowKit
set_option linter.unusedVariables false
theorem own : ownKnob Tryz.prog.godebug = none := by kernel_rfl
theorem laidOut : laidOutB Tryz.prog = true := by kernel_rfl
theorem cells87 : Tryz.prog.cellsOf 87 = 3 := by kernel_rfl
section
variable {H : Type} {enc : TypeId × Value → H} {W : World} {fuel : Nat} {cs : List Value} {x : DataW H × List MemPlace}
theorem outs_in {a : Option Addr} {len cap : Nat} (h : DataW.trod enc Tryz.prog W 0 (fun _ => true) true fuel 28 (Value.slice a len cap).cells.toList = some x) :
    ∃ ys, OutsAt W a ys ∧ ys.length = len ∧ ∀ y ∈ ys, (-9223372036854775808 ≤ y.1 ∧ y.1 ≤ 9223372036854775807) ∧ (-9223372036854775808 ≤ y.2 ∧ y.2 ≤ 9223372036854775807) := by
  rcases Go.Deep.open_slice Tryz.underlying28 h with ⟨hcs, _⟩ | ⟨a', len', cap', m, n, D, Pl, hcs, _, hl, hm, hmm, hx, hel⟩
  · simp [Value.cells] at hcs
    obtain ⟨rfl, rfl, rfl⟩ := hcs
    exact ⟨[], Or.inl rfl, rfl, fun y hy => by cases hy⟩
  · simp [Value.cells] at hcs
    obtain ⟨rfl, rfl, rfl⟩ := hcs
    have hmm' : m = cap := by simpa using hmm
    rw [tCells93] at hel
    have each : ∀ i, i < len → ∃ y : Int × Int, (W.cells? 0 (a'.add (i * 2)) 2 = some [.int .i64 y.1, .int .i64 y.2]) ∧ I64 y.1 ∧ I64 y.2 := by
      intro i hi
      obtain ⟨cs', hc, ht⟩ := hel i (by omega)
      obtain ⟨y, rfl, h64⟩ := open_out ht
      exact ⟨y, hc, h64⟩
    obtain ⟨ys, hyl, hys⟩ := choose_upto (0, 0) each
    refine ⟨ys, ?_, hyl, fun y hy => ?_⟩
    · by_cases h0 : len = 0
      · exact Or.inl (List.length_eq_zero_iff.1 (by omega))
      · have ha : a'.spot = none := by
          have := (cells_at (hys 0 (by omega)).1 (by omega)).1
          simpa [Addr.add] using this
        obtain ⟨b, off, spot⟩ := a'
        simp only at ha
        subst ha
        refine Or.inr ⟨b, off, rfl, fun j hj => ?_⟩
        obtain ⟨hc, _⟩ := hys j (by omega)
        obtain ⟨_, hcc⟩ := cells_at hc (by omega)
        rw [add_plain] at hcc
        simp only at hcc
        exact ⟨by simpa using hcc 0 (by omega), by simpa using hcc 1 (by omega)⟩
    · obtain ⟨j, hj, e⟩ := mem_getD (0, 0) hy
      rw [e]
      exact (hys j (by omega)).2
theorem open_dep (h : DataW.trod enc Tryz.prog W 0 (fun _ => true) true fuel 87 cs = some x) : ∃ y : DepR, cs = y.l ∧ I64 y.br ∧ I64 y.ix ∧ I64 y.val := by
  obtain ⟨y0, y1, y2, n, hx, hlen, h0, h1, h2⟩ := Go.Deep.trod_struct3 Tryz.underlying87 h
  rw [cells87] at hlen
  obtain ⟨a, b, c, rfl⟩ := len3 hlen
  simp only [tCells3, List.drop, List.take] at h0 h1 h2
  obtain ⟨i, hi, bi⟩ := open_num h0
  obtain ⟨p, hp, bp⟩ := open_num h1
  obtain ⟨q, hq, bq⟩ := open_num h2
  cases hi
  cases hp
  cases hq
  exact ⟨⟨i, p, q⟩, rfl, bi, bp, bq⟩
theorem deps_in {a : Option Addr} {len cap : Nat} (h : DataW.trod enc Tryz.prog W 0 (fun _ => true) true fuel 27 (Value.slice a len cap).cells.toList = some x) :
    ∃ ds : List DepR, RecAt DepR.l W a ds ∧ ds.length = len ∧ ∀ y ∈ ds, (-9223372036854775808 ≤ y.br ∧ y.br ≤ 9223372036854775807) ∧ (-9223372036854775808 ≤ y.ix ∧ y.ix ≤ 9223372036854775807) ∧ (-9223372036854775808 ≤ y.val ∧ y.val ≤ 9223372036854775807) := by
  rcases Go.Deep.open_slice Tryz.underlying27 h with ⟨hcs, _⟩ | ⟨a', len', cap', m, n, D, Pl, hcs, _, hl, hm, hmm, hx, hel⟩
  · simp [Value.cells] at hcs
    obtain ⟨rfl, rfl, rfl⟩ := hcs
    exact ⟨[], Or.inl rfl, rfl, fun y hy => by cases hy⟩
  · simp [Value.cells] at hcs
    obtain ⟨rfl, rfl, rfl⟩ := hcs
    have hmm' : m = cap := by simpa using hmm
    rw [cells87] at hel
    have each : ∀ i, i < len → ∃ y : DepR, (W.cells? 0 (a'.add (i * 3)) 3 = some y.l) ∧ I64 y.br ∧ I64 y.ix ∧ I64 y.val := by
      intro i hi
      obtain ⟨cs', hc, ht⟩ := hel i (by omega)
      obtain ⟨y, rfl, h64⟩ := open_dep ht
      exact ⟨y, hc, h64⟩
    obtain ⟨ds, hyl, hys⟩ := choose_upto dDR each
    refine ⟨ds, ?_, hyl, fun y hy => ?_⟩
    · by_cases h0 : len = 0
      · exact Or.inl (List.length_eq_zero_iff.1 (by omega))
      · have ha : a'.spot = none := by
          have := (cells_at (hys 0 (by omega)).1 (by omega)).1
          simpa [Addr.add] using this
        obtain ⟨b, off, spot⟩ := a'
        simp only at ha
        subst ha
        refine Or.inr ⟨b, off, rfl, fun j hj => ?_⟩
        rw [rec_len DepR.l 3 depR3] at hj
        have hj3 : j / 3 < ds.length := by omega
        obtain ⟨hc, _⟩ := hys (j / 3) (by omega)
        obtain ⟨_, hcc⟩ := cells_at hc (by omega)
        rw [add_plain] at hcc
        simp only at hcc
        have h1 := hcc (j % 3) (by omega)
        have h2 := rec_get DepR.l 3 depR3 dDR ds (j / 3) (j % 3) hj3 (by omega)
        rw [show j / 3 * 3 + j % 3 = j by omega] at h2
        rw [show off + j / 3 * 3 + j % 3 = off + j by omega] at h1
        rw [h1, h2]
        have h3 : j % 3 < 3 := by omega
        simp [List.getD, DepR.l]
        match hm3 : j % 3, h3 with
        | 0, _ => rfl
        | 1, _ => rfl
        | 2, _ => rfl
    · obtain ⟨j, hj, e⟩ := mem_getD dDR hy
      rw [e]
      exact (hys j (by omega)).2
end
set_option maxRecDepth 100000 in
theorem lifted (os : Os) (started : os.Started) (H : Type) (enc : TypeId × Value → H) :
    ReturnsInHanded {} Tryz.checked os 4 .any (Rows.acceptedSpec.pre6 enc Tryz.prog Tryz.f4 Rows.acceptedRow.domain false) (Rows.acceptedSpec.post enc Tryz.prog Tryz.f4 false true false false) := by
  refine returnsInHanded_of_change_sized (C := Tryz.checked) own started (by kernel_rfl) Tryz.func4
    (ChangeSpec.witness6 (enc := enc) (C := Tryz.checked) false ⟨#[], #[.int .i64 0, .int .i64 0, .slice none 0 0, .slice none 0 0, .int .i64 0], []⟩ 8 (by kernel_rfl) (by kernel_rfl) (by kernel_rfl) (by kernel_rfl)) ?_
  intro W base args ds gs before hval0 hW _ hsz0 _
  clear hsz0
  have hval : ∀ (j : Nat) t v, Tryz.f4.params[j]? = some t → args[j]? = some v → Value.okWide Tryz.prog W .any base t v := hval0
  have hW' := hW
  obtain ⟨p, q, hA0, hV, rfl, hfz, hnd⟩ := hW
  have hA : DataW.TrodAll enc Tryz.prog W 0 (fun _ => true) true Tryz.f4.params.toList args.toList ds p := hA0
  rw [Tryz.params4] at hA hval
  obtain ⟨v0, vs0, d0, ds0, p0, q0, hargs, rfl, rfl, h0, r0⟩ := trodAll_cons hA
  obtain ⟨v1, vs1, d1, ds1, p1, q1, rfl, rfl, rfl, h1, r1⟩ := trodAll_cons r0
  obtain ⟨v2, vs2, d2, ds2, p2, q2, rfl, rfl, rfl, h2, r2⟩ := trodAll_cons r1
  obtain ⟨v3, vs3, d3, ds3, p3, q3, rfl, rfl, rfl, h3, r3⟩ := trodAll_cons r2
  obtain ⟨v4, vs4, d4, ds4, p4, q4, rfl, rfl, rfl, h4, r4⟩ := trodAll_cons r3
  obtain ⟨rfl, rfl, rfl⟩ := trodAll_nil r4
  obtain rfl : args = #[v0, v1, v2, v3, v4] := by cases args; simp_all
  obtain ⟨rfl, rfl⟩ := trodVars_none hV
  obtain ⟨a0, rfl, rfl, rfl, w0⟩ := open_int Tryz.underlying3 (hval 0 3 v0 rfl rfl) h0
  obtain ⟨a1, rfl, rfl, rfl, w1⟩ := open_int Tryz.underlying3 (hval 1 3 v1 rfl rfl) h1
  obtain ⟨a2, len2, cap2, rfl⟩ := okWide_slice Tryz.underlying27 (hval 2 27 v2 rfl rfl)
  obtain ⟨a3, len3, cap3, rfl⟩ := okWide_slice Tryz.underlying28 (hval 3 28 v3 rfl rfl)
  obtain ⟨a4, rfl, rfl, rfl, w4⟩ := open_int Tryz.underlying3 (hval 4 3 v4 rfl rfl) h4
  have k2 := h2
  have k3 := h3
  have lt2 : ∀ x ∈ p2, x.block < W.heap.size := by obtain ⟨m, hm⟩ := k2; exact DataW.trod_lt m _ _ _ hm
  have lt3 : ∀ x ∈ p3, x.block < W.heap.size := by obtain ⟨m, hm⟩ := k3; exact DataW.trod_lt m _ _ _ hm
  obtain ⟨f2, hf2⟩ := h2
  obtain ⟨f3, hf3⟩ := h3
  obtain ⟨z2, hat2, hlen2, hr2⟩ := deps_in hf2
  obtain ⟨z3, hat3, hlen3, hr3⟩ := outs_in hf3
  clear hA0 hval0
  have c0 := bounds_i64 w0
  have c1 := bounds_i64 w1
  have c4 := bounds_i64 w4
  refine (accepted_any a0 a1 a4 a2 len2 cap2 z2 a3 len3 cap3 z3 W c0.1 c0.2 c1.1 c1.2 c4.1 c4.2 hat2 hlen2 hr2 hat3 hlen3 hr3).mono fun e W' ⟨he, bel⟩ => ?_
  subst he
  exact ⟨_, rfl, _, _, _, [], _, [], hW', trodAll_mk1 (shut_bool Tryz.underlying4 _), (trodAll_cons_mk (shut_int Tryz.underlying3 w0) (trodAll_cons_mk (shut_int Tryz.underlying3 w1) (trodAll_cons_mk (Below.trod laidOut (by kernel_rfl) (of_decide_eq_true (by kernel_rfl)) k2 bel lt2) (trodAll_cons_mk (Below.trod laidOut (by kernel_rfl) (of_decide_eq_true (by kernel_rfl)) k3 bel lt3) (trodAll_cons_mk (shut_int Tryz.underlying3 w4) trodAll_mk0))))), rfl, bel.frame _, fun h => by cases h⟩
theorem over : Rows.acceptedRow.holds Tryz.pinned (OpenSpec.ofChange Rows.acceptedSpec) :=
  OpenClaim.holds_of_wide 4 Tryz.f4 rfl rfl rfl rfl rfl rfl rfl ⟨rfl, rfl, rfl, rfl, rfl⟩ rfl rfl rfl rfl rfl (by kernel_rfl) Tryz.func4 (by kernel_rfl)
    (of_decide_eq_true (by kernel_rfl)) (by unfold Func.isWrapper; first | (rw [if_pos (by decide +kernel)]; kernel_rfl) | (rw [if_neg (by decide +kernel)]; exact ⟨rfl, rfl⟩))
    (fun os started H enc _ => lifted os started H enc)
end Go.Proofs.YtffgpepngcnjeabGreat.accepted
namespace Go.Proofs.YtffgpepngcnjeabGreat
theorem accepted_holds : Rows.AcceptedSaid := accepted.over
#print axioms accepted_holds
end Go.Proofs.YtffgpepngcnjeabGreat
