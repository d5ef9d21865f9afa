/-
  Found: its small functions.
-/
import Derived.Test.YtffgpepngcnjeaaFnA
namespace Go.Proofs.Ytffgpepngcnjeaa
open Go.RowKit

def iV (x : Int) : List Value := [.int .i64 x]
theorem iv1 (x : Int) : (iV x).length = 1 := rfl
theorem iv_one (x : Int) : ∀ u ∈ iV x, u.oneCell' = true := by
  intro u hu
  simp [iV] at hu
  subst hu
  rfl
theorem iCell {w : World} {b off : Nat} {xs : List Int} (h : VRow w b off (xs.flatMap iV)) (j : Nat) (hj : j < xs.length) : w.cell? ⟨b, off + j, none⟩ = some (.int .i64 (xs.getD j 0)) := by
  have := rcell iv1 0 h j hj 0 (by omega)
  rw [Nat.mul_one, Nat.add_zero] at this
  exact this
def ints (A : List Nat) : List Int := A.map fun i : Nat => (i : Int)
theorem ints_len (A : List Nat) : (ints A).length = A.length := List.length_map _
theorem ints_get (A : List Nat) (k : Nat) (h : k < A.length) : (ints A).getD k 0 = ((A.getD k 0 : Nat) : Int) := by
  simp [ints, List.getD, h]
theorem ints_app (A : List Nat) (x : Nat) : ints (A ++ [x]) = ints A ++ [(x : Int)] := by simp [ints]

set_option maxRecDepth 100000 in
set_option maxHeartbeats 1000000 in
theorem among_any (ao : Option Addr) (n c : Nat) (l : List Int) (x : Int) (w : World) (hx : RecAt iV w ao l) (hn : l.length = n) (hm : n ≤ 1000000) :
    Calls Try.prog 83 #[.slice ao n c, .int .i64 x] w fun e w' => e = .returned (.bool (l.any fun y => y == x)) ∧ Below w.heap.size w w' := by
  have HN : Hid (l.length = n) := hn
  have HX : Hid (RecAt iV w ao l) := hx
  clear hn hx
  go_enter Try.func83, Try.ntmps83
  go_wp2
  go_loopw [5] (fun i wr => ∃ k : Nat, k ≤ n ∧ i = .int .i64 k ∧ Hid ((l.take k).any (fun y => y == x) = false) ∧ Below w.heap.size w wr) (fun i _ => n - (intOf i).toNat)
  case atStart => exact ⟨0, Nat.zero_le _, rfl, by show List.any _ _ = false; simp, Below.refl _ _⟩
  case round =>
    obtain ⟨k, hk, rfl, hany, hbl⟩ := hrel
    by_cases hlt : k < n
    · rcases HX.out with hnil | ⟨g, off, rfl, hrow⟩
      · have := HN.out; rw [hnil] at this; simp at this; omega
      have c0 := iCell (hrow.grown hbl) k (by rw [HN.out]; exact hlt)
      have HS : Hid _ := any_no (fun y : Int => y == x) l 0 k (by rw [HN.out]; exact hlt) hany.out
      have HZ : Hid _ := any_yes (fun y : Int => y == x) l 0 k (by rw [HN.out]; exact hlt)
      clear hrow
      generalize l.getD k 0 = y at c0 HS HZ
      cases hy : (y == x)
      · go_wp2
        go_roundw
        case rel => exact ⟨k + 1, by omega, by go_num, HS.out hy, hbl⟩
        case measure => simp [intOf]; omega
      · go_wp2
        go_ret
        exact ⟨ret_bool (HZ.out hy).symm, hbl⟩
    · go_wp2
      go_ret
      exact ⟨ret_bool (any_done _ l n HN.out k (by omega) hany.out), hbl⟩

set_option maxRecDepth 100000 in
set_option maxHeartbeats 2000000 in
theorem far_any (ao : Option Addr) (n c : Nat) (A : List Nat) (g V : Nat) (w : World) (hx : RecAt iV w ao (ints A)) (hn : A.length = n) (hm : n ≤ 1000000) (hg : g ≤ 20) (hV : g ≤ V) (hV2 : V ≤ 100) (hA : ∀ i ∈ A, i < 100 ∧ (i < V → min 100 (i + 1 + g) ≤ V)) :
    Calls Try.prog 84 #[.slice ao n c, .int .i64 (g : Int)] w fun e w' => ∃ W : Nat, e = .returned (.int .i64 (W : Int)) ∧ W ≤ V ∧ Below w.heap.size w w' := by
  have HN : Hid (A.length = n) := hn
  have HX : Hid (RecAt iV w ao (ints A)) := hx
  have HA : Hid (∀ i ∈ A, i < 100 ∧ (i < V → min 100 (i + 1 + g) ≤ V)) := hA
  clear hn hx hA
  go_enter Try.func84, Try.ntmps84
  go_wp2
  go_loopw [5, 6] (fun v i wr => ∃ k W : Nat, k ≤ n ∧ i = .int .i64 k ∧ v = .int .i64 W ∧ W ≤ 200 ∧ min 100 W ≤ V ∧ Below w.heap.size w wr) (fun _ i _ => n - (intOf i).toNat)
  case atStart => exact ⟨0, g, Nat.zero_le _, rfl, rfl, by omega, by omega, Below.refl _ _⟩
  case round =>
    obtain ⟨k, W, hk, rfl, rfl, hW, hWV, hbl⟩ := hrel
    by_cases hlt : k < n
    · obtain ⟨wo, rfl⟩ : ∃ wo : World, wo = wr := ⟨_, rfl⟩
      go_wp2
      go_loopw [5, 7] (fun v i wr => ∃ j W : Nat, j ≤ n ∧ i = .int .i64 j ∧ v = .int .i64 W ∧ W ≤ 200 ∧ min 100 W ≤ V ∧ Below w.heap.size w wr) (fun _ i _ => n - (intOf i).toNat)
      case atStart => exact ⟨0, W, Nat.zero_le _, rfl, rfl, hW, hWV, hbl⟩
      case round =>
        obtain ⟨j, W2, hj, rfl, rfl, hW2, hWV2, hbl2⟩ := hrel
        by_cases hlt2 : j < n
        · rcases HX.out with hnil | ⟨gg, off, rfl, hrow⟩
          · have := HN.out; rw [← ints_len, hnil] at this; simp at this; omega
          have c0 := iCell (hrow.grown hbl2) j (by rw [ints_len, HN.out]; exact hlt2)
          rw [ints_get A j (by rw [HN.out]; exact hlt2)] at c0
          have hy := HA.out (A.getD j 0) (getD_mem A 0 j (by rw [HN.out]; exact hlt2))
          clear hrow
          generalize A.getD j 0 = y at c0 hy
          by_cases h1 : y < W2
          · by_cases h2 : W2 < y + 1 + g
            · go_wp2
              go_roundw
              case rel => exact ⟨j + 1, y + 1 + g, by omega, by go_num, by go_num, by omega, by omega, hbl2⟩
              case measure => simp [intOf]; omega
            · go_wp2
              go_roundw
              case rel => exact ⟨j + 1, W2, by omega, by go_num, rfl, hW2, hWV2, hbl2⟩
              case measure => simp [intOf]; omega
          · go_wp2
            go_roundw
            case rel => exact ⟨j + 1, W2, by omega, by go_num, rfl, hW2, hWV2, hbl2⟩
            case measure => simp [intOf]; omega
        · go_wp2
          go_roundw
          case rel => exact ⟨k + 1, W2, by omega, by go_num, rfl, hW2, hWV2, hbl2⟩
          case measure => simp [intOf]; omega
    · by_cases h1 : 100 < W
      · go_wp2
        go_ret
        exact ⟨100, rfl, by omega, hbl⟩
      · go_wp2
        go_ret
        exact ⟨W, rfl, by omega, hbl⟩

set_option maxRecDepth 100000 in
set_option maxHeartbeats 2000000 in
theorem has_any (ao : Option Addr) (n c : Nat) (l : List CoinD) (x : CoinD) (w : World) (hx : RecAt CoinD.l w ao l) (hn : l.length = n) (hm : n ≤ 1000000) :
    Calls Try.prog 85 #[.slice ao n c, coinV x] w fun e w' => e = .returned (.bool (hasZ l x)) ∧ Below w.heap.size w w' := by
  have HN : Hid (l.length = n) := hn
  have HX : Hid (RecAt CoinD.l w ao l) := hx
  clear hn hx
  obtain ⟨x0, x1, x2, x3, x4, x5⟩ := x
  go_enter Try.func85, Try.ntmps85
  go_wp2
  go_loopw [5] (fun i wr => ∃ k : Nat, k ≤ n ∧ i = .int .i64 k ∧ Hid ((l.take k).any (fun y => y.id == x0 && (y.pos == x1 && (y.tt == x2 && y.val == x3))) = false) ∧ wr.cell? ⟨w.heap.size, 0, none⟩ = some (.int .i64 x0) ∧ wr.cell? ⟨w.heap.size, 1, none⟩ = some (.int .i64 x1) ∧ wr.cell? ⟨w.heap.size, 2, none⟩ = some (.int .i64 x2) ∧ wr.cell? ⟨w.heap.size, 3, none⟩ = some (.int .i64 x3) ∧ Below w.heap.size w wr) (fun i _ => n - (intOf i).toNat)
  case atStart => exact ⟨0, Nat.zero_le _, rfl, by show List.any _ _ = false; simp, by go_simp, by go_simp, by go_simp, by go_simp, (Below.refl _ _).alloc (Nat.le_refl _) _⟩
  case round =>
    obtain ⟨k, hk, rfl, hany, b0, b1, b2, b3, hbl⟩ := hrel
    by_cases hlt : k < n
    · rcases HX.out with hnil | ⟨g, off, rfl, hrow⟩
      · have := HN.out; rw [hnil] at this; simp at this; omega
      obtain ⟨a0, a1, a2, a3, a4, a5⟩ := coinCells (hrow.grown hbl) k (by rw [HN.out]; exact hlt)
      have HS : Hid _ := any_no (fun y : CoinD => y.id == x0 && (y.pos == x1 && (y.tt == x2 && y.val == x3))) l dN k (by rw [HN.out]; exact hlt) hany.out
      have HZ : Hid _ := any_yes (fun y : CoinD => y.id == x0 && (y.pos == x1 && (y.tt == x2 && y.val == x3))) l dN k (by rw [HN.out]; exact hlt)
      clear hrow
      generalize l.getD k dN = y at a0 a1 a2 a3 a4 a5 HS HZ
      obtain ⟨y0, y1, y2, y3, y4, y5⟩ := y
      simp only at a0 a1 a2 a3 a4 a5
      have k1 : (k : Int) < (n : Int) := by omega
      have k0 : (0 : Int) ≤ (k : Int) := by omega
      clear a4 a5
      cases h0 : (y0 == x0)
      · go_wp2
        go_quiet (fail)
        have hbq : Below w.heap.size w (wr.drewN nq) := ⟨hbl.os, hbl.tape, hbl.output, hbl.size, hbl.block⟩
        have HR : Hid ((wr.drewN nq).cell? ⟨w.heap.size, 0, none⟩ = some (.int .i64 x0) ∧ (wr.drewN nq).cell? ⟨w.heap.size, 1, none⟩ = some (.int .i64 x1) ∧ (wr.drewN nq).cell? ⟨w.heap.size, 2, none⟩ = some (.int .i64 x2) ∧ (wr.drewN nq).cell? ⟨w.heap.size, 3, none⟩ = some (.int .i64 x3)) := ⟨b0, b1, b2, b3⟩
        go_wp2
        go_roundw
        case rel => exact ⟨k + 1, by omega, by go_num, HS.out (by simp [h0]), HR.out.1, HR.out.2.1, HR.out.2.2.1, HR.out.2.2.2, hbq⟩
        case measure => simp [intOf]; omega
      · cases h1 : (y1 == x1)
        · go_wp2
          go_quiet (fail)
          have hbq : Below w.heap.size w (wr.drewN nq) := ⟨hbl.os, hbl.tape, hbl.output, hbl.size, hbl.block⟩
          have HR : Hid ((wr.drewN nq).cell? ⟨w.heap.size, 0, none⟩ = some (.int .i64 x0) ∧ (wr.drewN nq).cell? ⟨w.heap.size, 1, none⟩ = some (.int .i64 x1) ∧ (wr.drewN nq).cell? ⟨w.heap.size, 2, none⟩ = some (.int .i64 x2) ∧ (wr.drewN nq).cell? ⟨w.heap.size, 3, none⟩ = some (.int .i64 x3)) := ⟨b0, b1, b2, b3⟩
          go_wp2
          go_roundw
          case rel => exact ⟨k + 1, by omega, by go_num, HS.out (by simp [h1]), HR.out.1, HR.out.2.1, HR.out.2.2.1, HR.out.2.2.2, hbq⟩
          case measure => simp [intOf]; omega
        · cases h2 : (y2 == x2)
          · go_wp2
            go_quiet (fail)
            have hbq : Below w.heap.size w (wr.drewN nq) := ⟨hbl.os, hbl.tape, hbl.output, hbl.size, hbl.block⟩
            have HR : Hid ((wr.drewN nq).cell? ⟨w.heap.size, 0, none⟩ = some (.int .i64 x0) ∧ (wr.drewN nq).cell? ⟨w.heap.size, 1, none⟩ = some (.int .i64 x1) ∧ (wr.drewN nq).cell? ⟨w.heap.size, 2, none⟩ = some (.int .i64 x2) ∧ (wr.drewN nq).cell? ⟨w.heap.size, 3, none⟩ = some (.int .i64 x3)) := ⟨b0, b1, b2, b3⟩
            go_wp2
            go_roundw
            case rel => exact ⟨k + 1, by omega, by go_num, HS.out (by simp [h2]), HR.out.1, HR.out.2.1, HR.out.2.2.1, HR.out.2.2.2, hbq⟩
            case measure => simp [intOf]; omega
          · cases h3 : (y3 == x3)
            · go_wp2
              go_quiet (fail)
              have hbq : Below w.heap.size w (wr.drewN nq) := ⟨hbl.os, hbl.tape, hbl.output, hbl.size, hbl.block⟩
              have HR : Hid ((wr.drewN nq).cell? ⟨w.heap.size, 0, none⟩ = some (.int .i64 x0) ∧ (wr.drewN nq).cell? ⟨w.heap.size, 1, none⟩ = some (.int .i64 x1) ∧ (wr.drewN nq).cell? ⟨w.heap.size, 2, none⟩ = some (.int .i64 x2) ∧ (wr.drewN nq).cell? ⟨w.heap.size, 3, none⟩ = some (.int .i64 x3)) := ⟨b0, b1, b2, b3⟩
              go_wp2
              go_roundw
              case rel => exact ⟨k + 1, by omega, by go_num, HS.out (by simp [h3]), HR.out.1, HR.out.2.1, HR.out.2.2.1, HR.out.2.2.2, hbq⟩
              case measure => simp [intOf]; omega
            · go_wp2
              go_quiet (fail)
              have hbq : Below w.heap.size w (wr.drewN nq) := ⟨hbl.os, hbl.tape, hbl.output, hbl.size, hbl.block⟩
              go_wp2
              go_ret
              exact ⟨ret_bool (HZ.out (by show (y0 == x0 && (y1 == x1 && (y2 == x2 && y3 == x3))) = true; rw [h0, h1, h2, h3]; rfl)).symm, hbq⟩
    · go_wp2
      go_ret
      exact ⟨ret_bool (any_done _ l n HN.out k (by omega) hany.out), hbl⟩

set_option maxRecDepth 100000 in
set_option maxHeartbeats 1000000 in
theorem total_any (S : Nat) (ao : Option Addr) (n c : Nat) (cs : List CoinD) (w : World) (hp : w.cell? ⟨S, 4, none⟩ = some (.slice ao n c)) (hx : RecAt CoinD.l w ao cs) (hn : cs.length = n) (hm : n ≤ 100000) (hv : ∀ x ∈ cs, 0 ≤ x.val ∧ x.val ≤ 1099511627776) :
    Calls Try.prog 48 #[.pointer (some ⟨S, 0, none⟩)] w fun e w' => e = .returned (.int .i64 (sumC cs)) ∧ Below w.heap.size w w' := by
  have HV : Hid (∀ x ∈ cs, 0 ≤ x.val ∧ x.val ≤ 1099511627776) := hv
  have HA : Hid (RecAt CoinD.l w ao cs) := hx
  have HM : Hid (cs.length = n) := hn
  clear hv hx hn
  have hS := cell_lt hp
  simp only at hS
  go_enter Try.func48, Try.ntmps48
  go_wp2
  go_loopw [3, 4] (fun v i wr => ∃ (k : Nat) (T : Int), k ≤ n ∧ i = .int .i64 k ∧ v = .int .i64 T ∧ Hid (((cs.take k).map CoinD.val).sum = T) ∧ Below w.heap.size w wr) (fun _ i _ => n - (intOf i).toNat)
  case atStart => exact ⟨0, 0, Nat.zero_le _, rfl, rfl, rfl, Below.refl _ _⟩
  case round =>
    obtain ⟨k, T, hk, rfl, rfl, hT, hbl⟩ := hrel
    have p0 := (hbl.cell (p := ⟨S, 4, none⟩) hS).trans hp
    by_cases hlt : k < n
    · rcases HA.out with hnil | ⟨gg, off, rfl, hrow⟩
      · have := HM.out; rw [hnil] at this; simp at this; omega
      obtain ⟨c0, c1, c2, c3, c4, c5⟩ := coinCells (hrow.grown hbl) k (by rw [HM.out]; exact hlt)
      have HS : Hid _ := sum_snoc CoinD.val cs dN k (by rw [HM.out]; exact hlt)
      have hSb := sum_bd CoinD.val 1099511627776 (cs.take k) (fun x hx => HV.out x (List.mem_of_mem_take hx))
      have hyb := HV.out (cs.getD k dN) (getD_mem cs dN k (by rw [HM.out]; exact hlt))
      rw [hT.out] at hSb
      have hl2 : (cs.take k).length ≤ 100000 := by rw [List.length_take]; omega
      have hS2 : 0 ≤ T ∧ T ≤ 110000000000000000 := ⟨hSb.1, by omega⟩
      clear hrow hSb hl2
      generalize cs.getD k dN = y at c0 c1 c2 c3 c4 c5 HS hyb
      obtain ⟨y0, y1, y2, yval, y4, y5⟩ := y
      simp only at c0 c1 c2 c3 c4 c5 hyb
      go_wp2
      go_roundw
      case rel => exact ⟨k + 1, T + yval, by omega, by go_num, rfl, by show _ = _; rw [HS.out, hT.out], hbl⟩
      case measure => simp [intOf]; omega
    · have HSe : Hid (sumC cs = T) := by show _ = _; rw [← hT.out, List.take_of_length_le (by rw [HM.out]; omega)]; rfl
      go_wp2
      go_ret
      exact ⟨ret_int HSe.out.symm, hbl⟩

end Go.Proofs.Ytffgpepngcnjeaa
