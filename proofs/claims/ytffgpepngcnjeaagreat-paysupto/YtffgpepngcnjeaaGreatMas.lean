/-
  The document: which keys have sealed; which coins are free.
  The document: the sets of candidates, and the one that fits.
  The document: the set that fits.
  The document: what is chosen.
  The document: a request for itself; its target; its outputs copied; the key for a change.
-/
import Derived.Test.YtffgpepngcnjeaaGreatMar
namespace Go.Proofs.YtffgpepngcnjeaaGreat
open Go.RowKit
theorem kcCells {w : World} {b off : Nat} {xs : List CoinD} (h : VRow w b off (xs.flatMap kC)) (j : Nat) (hj : j < xs.length) : w.cell? ⟨b, off + j * 2, none⟩ = some (.int .i64 (xs.getD j dN).br) ∧ w.cell? ⟨b, off + j * 2 + 1, none⟩ = some (.int .i64 (xs.getD j dN).ix) :=
  ⟨rcell kC2 dN h j hj 0 (by omega), rcell kC2 dN h j hj 1 (by omega)⟩
set_option maxRecDepth 100000 in
set_option maxHeartbeats 4000000 in
theorem used_any (N : Nat → Prop) (D : Nat) (ao : Option Addr) (n c : Nat) (ms : List MadeD) (kb ki : Int) (w : World) (hp : w.cell? ⟨D, 5, none⟩ = some (.slice ao n c)) (hx : RecAt MadeD.v w ao ms) (hn : ms.length = n) (hm : n ≤ 9007199254740992) (hok : ∀ a ∈ ms, MadeOk N w a) :
    Calls Tryz.prog 90 #[.pointer (some ⟨D, 0, none⟩), .agg #[.int .i64 kb, .int .i64 ki]] w fun e w' => e = .returned (.bool (usedR ms kb ki)) ∧ Below w.heap.size w w' := by
  have HN : Hid (ms.length = n) := hn
  have HX : Hid (RecAt MadeD.v w ao ms) := hx
  have HO : Hid (∀ a ∈ ms, MadeOk N w a) := hok
  have hDl : D < w.heap.size := cell_lt hp
  clear hn hx hok
  go_enter Tryz.func90, Tryz.ntmps90
  go_wp2
  go_loopw [5] (fun i wr => ∃ k : Nat, k ≤ n ∧ i = .int .i64 k ∧ Hid ((ms.take k).any (fun a => a.cs.any fun x => a.sg && (x.br == kb && x.ix == ki)) = false) ∧ wr.cell? ⟨w.heap.size, 0, none⟩ = some (.int .i64 kb) ∧ wr.cell? ⟨w.heap.size, 1, none⟩ = some (.int .i64 ki) ∧ Below w.heap.size w wr) (fun i _ => n - (intOf i).toNat)
  case atStart => exact ⟨0, Nat.zero_le _, rfl, by show List.any _ _ = false; simp, by go_simp, by go_simp, (Below.refl _ _).alloc (Nat.le_refl _) _⟩
  case round =>
    obtain ⟨k, hk, rfl, hany, b0, b1, hbl⟩ := hrel
    have p0 := (hbl.cell (p := ⟨D, 5, none⟩) hDl).trans hp
    by_cases hlt : k < n
    · rcases HX.out with hnil | ⟨g, off, rfl, hrow⟩
      · have := HN.out; rw [hnil] at this; simp at this; omega
      have HM : Hid _ := madeCells hrow k (by rw [HN.out]; exact hlt)
      have HS : Hid _ := any_no (fun a : MadeD => a.cs.any fun x => a.sg && (x.br == kb && x.ix == ki)) ms dM k (by rw [HN.out]; exact hlt) hany.out
      have HZ : Hid _ := any_yes (fun a : MadeD => a.cs.any fun x => a.sg && (x.br == kb && x.ix == ki)) ms dM k (by rw [HN.out]; exact hlt)
      have hk0 := HO.out (ms.getD k dM) (getD_mem ms dM k (by rw [HN.out]; exact hlt))
      have HCO : Hid (RecAt kC w (ms.getD k dM).ak (ms.getD k dM).cs) := hk0.keys
      have HCL : Hid ((ms.getD k dM).cs.length = (ms.getD k dM).q) := hk0.lq
      have hb10 : (ms.getD k dM).q ≤ 10 := by rw [← hk0.lq]; exact hk0.b1
      clear hrow hk0
      generalize ms.getD k dM = y at *
      obtain ⟨ynum, ytag, yai, yn, yc, yap, ym, yd, yak, yq, ye, ych, yac, yx, yy, ylv, ysg, ycs, yzs⟩ := y
      simp only at HM HCO HCL hb10
      have hkI : (k : Int) < (n : Int) := by omega
      have hk0 : (0 : Int) ≤ (k : Int) := by omega
      have m6 := (hbl.cell (p := ⟨g, off + k * 9 + 4, none⟩) (cell_lt HM.out.c4)).trans HM.out.c4
      have m7 := (hbl.cell (p := ⟨g, off + k * 9 + 8, none⟩) (cell_lt HM.out.c8)).trans HM.out.c8
      obtain ⟨wo, rfl⟩ : ∃ wo : World, wo = wr := ⟨_, rfl⟩
      go_wp2
      go_loopw [6] (fun i wr => ∃ j : Nat, j ≤ yq ∧ i = .int .i64 j ∧ Hid ((ycs.take j).any (fun x => ysg && (x.br == kb && x.ix == ki)) = false) ∧ Below wo.heap.size wo wr) (fun i _ => yq - (intOf i).toNat)
      case atStart => exact ⟨0, Nat.zero_le _, rfl, by show List.any _ _ = false; simp, Below.refl _ _⟩
      case round =>
        obtain ⟨j, hj, rfl, hany2, hbo⟩ := hrel
        have hszo := hbo.size
        have hbw : Below w.heap.size w wr := hbl.trans (hbo.mono hbl.size)
        have q0 := (hbo.cell (p := ⟨D, 5, none⟩) (cell_lt p0)).trans p0
        have q6 := (hbo.cell (p := ⟨g, off + k * 9 + 4, none⟩) (cell_lt m6)).trans m6
        have q7 := (hbo.cell (p := ⟨g, off + k * 9 + 8, none⟩) (cell_lt m7)).trans m7
        have r0 := (hbo.cell (p := ⟨w.heap.size, 0, none⟩) (cell_lt b0)).trans b0
        have r1 := (hbo.cell (p := ⟨w.heap.size, 1, none⟩) (cell_lt b1)).trans b1
        by_cases hlt2 : j < yq
        · rcases HCO.out with hnil | ⟨g2, off2, rfl, hrow⟩
          · have := HCL.out; rw [hnil] at this; simp at this; omega
          obtain ⟨d0, d1⟩ := kcCells (hrow.grown hbw) j (by rw [HCL.out]; exact hlt2)
          have HS2 : Hid _ := any_no (fun x : CoinD => ysg && (x.br == kb && x.ix == ki)) ycs dN j (by rw [HCL.out]; exact hlt2) hany2.out
          have HZ2 : Hid _ := any_yes (fun x : CoinD => ysg && (x.br == kb && x.ix == ki)) ycs dN j (by rw [HCL.out]; exact hlt2)
          have hjI : (j : Int) < (yq : Int) := by omega
          have hj0 : (0 : Int) ≤ (j : Int) := by omega
          clear hrow
          generalize ycs.getD j dN = z at d0 d1 HS2 HZ2
          obtain ⟨z0, z1, z2, z3, z4, z5⟩ := z
          simp only at d0 d1
          have bX : Below wr.heap.size wr (wr.alloc (.cells #[.int .i64 z4, .int .i64 z5] 61)) := (Below.refl _ _).alloc (Nat.le_refl _) _
          have s0 := (bX.cell (p := ⟨D, 5, none⟩) (cell_lt q0)).trans q0
          have s7 := (bX.cell (p := ⟨g, off + k * 9 + 8, none⟩) (cell_lt q7)).trans q7
          have t0 := (bX.cell (p := ⟨w.heap.size, 0, none⟩) (cell_lt r0)).trans r0
          have t1 := (bX.cell (p := ⟨w.heap.size, 1, none⟩) (cell_lt r1)).trans r1
          have v0 : (wr.alloc (.cells #[.int .i64 z4, .int .i64 z5] 61)).cell? ⟨wr.heap.size, 0, none⟩ = some (.int .i64 z4) := by go_simp
          have v1 : (wr.alloc (.cells #[.int .i64 z4, .int .i64 z5] 61)).cell? ⟨wr.heap.size, 1, none⟩ = some (.int .i64 z5) := by go_simp
          have hb9 : Below wo.heap.size wo (wr.alloc (.cells #[.int .i64 z4, .int .i64 z5] 61)) := hbo.alloc hszo _
          have HBF : Hid (Below w.heap.size w (wr.alloc (.cells #[.int .i64 z4, .int .i64 z5] 61))) := hbl.trans (hb9.mono hbl.size)
          go_upto_region 8 with fail
          clear d0 d1 q0 q6 q7 r0 r1 bX
          generalize wr.alloc (.cells #[.int .i64 z4, .int .i64 z5] 61) = w9 at *
          generalize wr.heap.size = X at *
          cases hlv : ysg
          · go_wp2
            go_roundw
            case rel => exact ⟨j + 1, by omega, by go_num, HS2.out (by rw [hlv]; rfl), hb9⟩
            case measure => simp [intOf]; omega
          · cases h1 : (z4 == kb)
            · go_wp2
              go_roundw
              case rel => exact ⟨j + 1, by omega, by go_num, HS2.out (by simp [h1]), hb9⟩
              case measure => simp [intOf]; omega
            · cases h2 : (z5 == ki)
              · go_wp2
                go_roundw
                case rel => exact ⟨j + 1, by omega, by go_num, HS2.out (by simp [h2]), hb9⟩
                case measure => simp [intOf]; omega
              · go_wp2
                go_ret
                exact ⟨ret_bool (HZ.out (HZ2.out (by show (ysg && (z4 == kb && z5 == ki)) = true; rw [hlv, h1, h2]; rfl))).symm, HBF.out⟩
        · have HE : Hid _ := any_done (fun x : CoinD => ysg && (x.br == kb && x.ix == ki)) ycs yq HCL.out j (by omega) hany2.out
          go_wp2
          go_roundw
          case rel => exact ⟨k + 1, by omega, by go_num, HS.out HE.out.symm, r0, r1, hbw⟩
          case measure => simp [intOf]; omega
    · go_wp2
      go_ret
      exact ⟨ret_bool (any_done _ ms n HN.out k (by omega) hany.out), hbl⟩
set_option maxRecDepth 100000 in
set_option maxHeartbeats 1000000 in
theorem dFree_any (N : Nat → Prop) (D : Nat) (ao : Option Addr) (n c : Nat) (ms : List MadeD) (x : CoinD) (w : World) (hp : w.cell? ⟨D, 5, none⟩ = some (.slice ao n c)) (hx : RecAt MadeD.v w ao ms) (hn : ms.length = n) (hm : n ≤ 9007199254740992) (hok : ∀ a ∈ ms, MadeOk N w a) :
    Calls Tryz.prog 102 #[.pointer (some ⟨D, 0, none⟩), coinV x] w fun e w' => e = .returned (.bool (!takenB ms x.id x.pos && !usedR ms x.br x.ix)) ∧ Below w.heap.size w w' := by
  obtain ⟨x0, x1, x2, x3, x4, x5⟩ := x
  simp only
  have HP : Hid (w.cell? ⟨D, 5, none⟩ = some (.slice ao n c)) := hp
  have HN : Hid (ms.length = n) := hn
  have HX : Hid (RecAt MadeD.v w ao ms) := hx
  have HO : Hid (∀ a ∈ ms, MadeOk N w a) := hok
  have hDl : D < w.heap.size := cell_lt hp
  clear hn hx hok hp
  have bA : Below w.heap.size w (w.alloc (.cells #[.int .i64 x0, .int .i64 x1, .int .i64 x2, .int .i64 x3, .int .i64 x4, .int .i64 x5] 64)) := (Below.refl _ _).alloc (Nat.le_refl _) _
  have HV : Hid (VRow (w.alloc (.cells #[.int .i64 x0, .int .i64 x1, .int .i64 x2, .int .i64 x3, .int .i64 x4, .int .i64 x5] 64)) w.heap.size 0 (CoinD.l ⟨x0, x1, x2, x3, x4, x5⟩)) := vrow_new w _ _
  go_enter Tryz.func102, Tryz.ntmps102
  go_upto_region 1 with fail
  generalize w.alloc (.cells #[.int .i64 x0, .int .i64 x1, .int .i64 x2, .int .i64 x3, .int .i64 x4, .int .i64 x5] 64) = w0 at *
  obtain ⟨v0, v1, v2, v3, v4, v5⟩ := xrow HV.out
  go_wp2_with fail
  refine (taken_any N D ao n c ms ⟨x0, x1, x2, x3, x4, x5⟩ _ ((bA.cell (p := ⟨D, 5, none⟩) hDl).trans HP.out) (HX.out.grown bA) HN.out hm (fun a ha => (HO.out a ha).grown bA)).mono ?_
  rintro e w1 ⟨rfl, hb1⟩
  simp only
  have b1 : Below w.heap.size w w1 := below_blk bA hb1
  obtain ⟨u0, u1, u2, u3, u4, u5⟩ := xrow (VRow.grown HV.out hb1)
  have HP1 : Hid (w1.cell? ⟨D, 5, none⟩ = some (.slice ao n c)) := (b1.cell (p := ⟨D, 5, none⟩) hDl).trans HP.out
  clear v0 v1 v2 v3 v4 v5 HV hb1 bA
  go_wp2_with fail
  refine (used_any N D ao n c ms x4 x5 _ HP1.out (HX.out.grown b1) HN.out hm (fun a ha => (HO.out a ha).grown b1)).mono ?_
  rintro e w2 ⟨rfl, hb2⟩
  have b2 : Below w.heap.size w w2 := below_blk b1 hb2
  generalize htk : takenB ms x0 x1 = tk at *
  generalize hus : usedR ms x4 x5 = us at *
  have HTK : Hid (takenB ms x0 x1 = tk) := htk
  have HUS : Hid (usedR ms x4 x5 = us) := hus
  clear htk hus
  cases tk
  · cases us
    · go_wp2
      go_ret
      exact ⟨ret_bool (by rw [HTK.out, HUS.out]; rfl), b2⟩
    · go_wp2
      go_ret
      exact ⟨ret_bool (by rw [HTK.out, HUS.out]; rfl), b2⟩
  · go_wp2
    go_ret
    exact ⟨ret_bool (by rw [HTK.out, HUS.out]; rfl), b2⟩
end Go.Proofs.YtffgpepngcnjeaaGreat

namespace Go.Proofs.YtffgpepngcnjeaaGreat
open Go.RowKit
set_option maxRecDepth 100000 in
set_option maxHeartbeats 400000 in
theorem dWorth_any (x : CoinD) (r : Int) (w : World) (hr : 0 ≤ r ∧ r ≤ 1000) (hx : 0 ≤ x.val ∧ x.val ≤ 1099511627776) :
    Calls Tryz.prog 127 #[coinV x, .int .i64 r] w fun e w' => e = .returned (.int .i64 (worthZ r x)) ∧ Below w.heap.size w w' := by
  obtain ⟨x0, x1, x2, x3, x4, x5⟩ := x
  simp only at hx
  have hw1 : IntKind.i64.wrap (7 * r) = 7 * r := IntWalk.i64_in _ ⟨by omega, by omega⟩
  have hw2 : IntKind.i64.wrap (x3 - 7 * r) = x3 - 7 * r := IntWalk.i64_in _ ⟨by omega, by omega⟩
  go_enter Tryz.func127, Tryz.ntmps127
  go_wp2
  go_ret
  exact ⟨rfl, (Below.refl _ _).alloc (Nat.le_refl _) _⟩
set_option maxRecDepth 100000 in
set_option maxHeartbeats 1000000 in
theorem dHas_any (m n i : Nat) (w : World) (hn : n ≤ 8) (hi : i < n) :
    Calls Tryz.prog 129 #[.int .i64 (m : Int), .int .i64 (n : Int), .int .i64 (i : Int)] w fun e w' => e = .returned (.bool (bitN m n i)) ∧ w = w' := by
  obtain ⟨t, ht⟩ : ∃ t : Nat, t = n - 1 - i := ⟨_, rfl⟩
  have e1 : (n : Int) - 1 - (i : Int) = (t : Int) := by omega
  have hw1 : IntKind.i64.wrap ((n : Int) - 1) = (n : Int) - 1 := IntWalk.i64_in _ ⟨by omega, by omega⟩
  have hw2 : IntKind.i64.wrap ((n : Int) - 1 - (i : Int)) = (t : Int) := by rw [e1]; exact IntWalk.i64_in _ ⟨by omega, by omega⟩
  have HT : Hid (t = n - 1 - i) := ht
  have ht8 : t < 8 := by omega
  clear ht e1
  go_enter Tryz.func129, Tryz.ntmps129
  go_wp2
  go_ret
  refine ⟨ret_bool ?_, rfl⟩
  have e : (m : Int) / 2 ^ t % 2 = ((m / 2 ^ t % 2 : Nat) : Int) := by push_cast; rfl
  rw [i64_and1, e]
  unfold bitN
  rw [← HT.out]
  generalize m / 2 ^ t % 2 = z
  by_cases hz : z = 1
  · subst hz; rfl
  · have h1 : ((z : Int) == 1) = false := by rw [beq_eq_false_iff_ne]; omega
    have h2 : (z == 1) = false := by rw [beq_eq_false_iff_ne]; exact hz
    rw [h1, h2]
set_option maxRecDepth 100000 in
set_option maxHeartbeats 2000000 in
theorem sumOf_any (ao : Option Addr) (q c : Nat) (cs : List CoinD) (r : Int) (m n : Nat) (w : World) (hx : RecAt CoinD.l w ao cs) (hq : cs.length = q) (hn : n ≤ 8) (hnq : n ≤ q) (hr : 0 ≤ r ∧ r ≤ 1000) (hv : CVals cs) :
    Calls Tryz.prog 160 #[.slice ao q c, .int .i64 r, .int .i64 (m : Int), .int .i64 (n : Int)] w fun e w' => (∃ T, e = .returned (.int .i64 T) ∧ T = sumD r cs n m ∧ -56000 ≤ T ∧ T ≤ 8796093022208) ∧ Below w.heap.size w w' := by
  have HX : Hid (RecAt CoinD.l w ao cs) := hx
  have HQ : Hid (cs.length = q) := hq
  have HV : Hid (CVals cs) := hv
  clear hx hq hv
  go_enter Tryz.func160, Tryz.ntmps160
  go_wp2
  go_loopw [9, 10] (fun v i wr => ∃ (k : Nat) (T : Int), k ≤ n ∧ i = .int .i64 k ∧ v = .int .i64 T ∧ Hid (((List.range k).map fun i => if bitN m n i then worthZ r (cs.getD i dN) else 0).sum = T) ∧ -(7000 * (k : Int)) ≤ T ∧ T ≤ 1099511627776 * (k : Int) ∧ Below w.heap.size w wr) (fun _ i _ => n - (intOf i).toNat)
  case atStart => exact ⟨0, 0, Nat.zero_le _, rfl, rfl, rfl, by simp, by simp, Below.refl _ _⟩
  case round =>
    obtain ⟨k, T, hk, rfl, rfl, hT, hT1, hT2, hbl⟩ := hrel
    have hsz := hbl.size
    by_cases hlt : k < n
    · have HS : Hid _ := rangeM_snoc (fun i => if bitN m n i then worthZ r (cs.getD i dN) else 0) k
      cases hb : bitN m n k
      · go_wp2_with (go_at_call 129; refine (dHas_any m n k _ hn hlt).mono ?_; rintro e w' ⟨rfl, rfl⟩; rw [hb])
        go_roundw
        case rel => exact ⟨k + 1, T, by omega, by go_num, rfl, by show _ = _; rw [HS.out, List.sum_append, hT.out, hb]; simp, by push_cast; omega, by push_cast; omega, hbl⟩
        case measure => simp [intOf]; omega
      · have hkl : k < cs.length := by rw [HQ.out]; omega
        have hvk := HV.out (cs.getD k dN) (getD_mem cs dN k hkl)
        rcases HX.out.grown hbl with hnil | ⟨gc, oc, rfl, hrow⟩
        · rw [hnil] at hkl; simp at hkl
        obtain ⟨e0, e1, e2, e3, e4, e5⟩ := coinCells hrow k hkl
        have hkI : (k : Int) < (q : Int) := by omega
        have hk0 : (0 : Int) ≤ (k : Int) := by omega
        clear hrow
        generalize cs.getD k dN = y at *
        obtain ⟨y0, y1, y2, y3, y4, y5⟩ := y
        simp only at e0 e1 e2 e3 e4 e5 hvk
        have HWD : Hid (worthZ r ⟨y0, y1, y2, y3, y4, y5⟩ = y3 - 7 * r) := rfl
        have hw : IntKind.i64.wrap (T + (y3 - 7 * r)) = T + (y3 - 7 * r) := IntWalk.i64_in _ ⟨by omega, by omega⟩
        go_wp2_with (first | (go_at_call 129; refine (dHas_any m n k _ hn hlt).mono ?_; rintro e w' ⟨rfl, rfl⟩; rw [hb]) | (go_at_call 127; refine (dWorth_any ⟨y0, y1, y2, y3, y4, y5⟩ r _ hr hvk).mono ?_; rintro e w7 ⟨rfl, hb7⟩; rw [HWD.out]))
        go_roundw
        case rel => exact ⟨k + 1, T + (y3 - 7 * r), by omega, by go_num, rfl, by show _ = _; rw [HS.out, List.sum_append, hT.out, if_pos hb, HWD.out]; simp, by push_cast; omega, by push_cast; omega, hbl.trans (hb7.mono hsz)⟩
        case measure => simp [intOf]; omega
    · have hkn : k = n := by omega
      subst hkn
      go_wp2
      go_ret
      exact ⟨⟨T, rfl, hT.out.symm, by omega, by omega⟩, hbl⟩
end Go.Proofs.YtffgpepngcnjeaaGreat

namespace Go.Proofs.YtffgpepngcnjeaaGreat
open Go.RowKit
set_option maxRecDepth 100000 in
set_option maxHeartbeats 2000000 in
theorem fitting_any (ao : Option Addr) (q c : Nat) (cs : List CoinD) (r : Int) (n : Nat) (lo hi : Int) (w : World) (hx : RecAt CoinD.l w ao cs) (hq : cs.length = q) (hn : n ≤ 8) (hnq : n ≤ q) (hr : 0 ≤ r ∧ r ≤ 1000) (hv : CVals cs) :
    Calls Tryz.prog 128 #[.slice ao q c, .int .i64 r, .int .i64 (n : Int), .int .i64 lo, .int .i64 hi] w fun e w' => e = .returned (.int .i64 (bestD r cs n lo hi : Nat)) ∧ bestD r cs n lo hi ≤ 255 ∧ Below w.heap.size w w' := by
  have HX : Hid (RecAt CoinD.l w ao cs) := hx
  have HQ : Hid (cs.length = q) := hq
  have HV : Hid (CVals cs) := hv
  clear hx hq hv
  obtain ⟨M, hM⟩ : ∃ M : Nat, M = 2 ^ n - 1 := ⟨_, rfl⟩
  have hp : 2 ^ n ≤ 256 := by have := Nat.pow_le_pow_right (n := 2) (by omega) hn; simpa using this
  have hp0 : 0 < 2 ^ n := Nat.two_pow_pos _
  have hM1 : ((2 : Int) ^ n) = (M : Int) + 1 := by
    have : ((2 ^ n : Nat) : Int) = (M : Int) + 1 := by omega
    rw [← this]; push_cast; rfl
  have hM255 : M ≤ 255 := by omega
  have HM : Hid (2 ^ n - 1 = M) := hM.symm
  have hw1 : IntKind.i64.wrap ((2 : Int) ^ n) = (M : Int) + 1 := by rw [hM1]; exact IntWalk.i64_in _ ⟨by omega, by omega⟩
  have hw2 : IntKind.i64.wrap ((M : Int) + 1 - 1) = (M : Int) := by rw [show (M : Int) + 1 - 1 = (M : Int) by omega]; exact IntWalk.i64_in _ ⟨by omega, by omega⟩
  clear hM hp hp0
  go_enter Tryz.func128, Tryz.ntmps128
  go_wp2
  have HB : Hid (bestD r cs n lo hi = (fitZD (sumD r cs n) lo hi M (0, 0)).1) := by show _ = _; unfold bestD; rw [HM.out]
  clear hM1 hw1 hw2
  go_loopw [11, 12, 13] (fun bv sv i wr => ∃ (k b : Nat) (t : Int), k ≤ M ∧ b ≤ M ∧ i = .int .i64 k ∧ bv = .int .i64 b ∧ sv = .int .i64 t ∧ Hid ((fitZD (sumD r cs n) lo hi k (b, t)).1 = bestD r cs n lo hi) ∧ Below w.heap.size w wr) (fun _ _ i _ => (intOf i).toNat)
  case atStart => exact ⟨M, 0, 0, Nat.le_refl _, Nat.zero_le _, rfl, rfl, rfl, HB.out.symm, Below.refl _ _⟩
  case round =>
    obtain ⟨k, b, t, hk, hb, rfl, rfl, rfl, hz, hbl⟩ := hrel
    have hsz := hbl.size
    cases k with
    | zero =>
      have HZ : Hid (b = bestD r cs n lo hi) := hz.out
      go_wp2
      go_ret
      rw [← HZ.out]
      exact ⟨rfl, by omega, hbl⟩
    | succ k =>
      have hz' := hz.out
      rw [fitZD] at hz'
      have HZ : Hid ((fitZD (sumD r cs n) lo hi k (if lo ≤ sumD r cs n (k + 1) ∧ sumD r cs n (k + 1) ≤ hi ∧ (b = 0 ∨ sumD r cs n (k + 1) < t) then (k + 1, sumD r cs n (k + 1)) else (b, t))).1 = bestD r cs n lo hi) := hz'
      clear hz' hz
      generalize hK : k + 1 = K at *
      have hK0 : 0 < K := by omega
      have hkK : k < K := by omega
      have hkM : k ≤ M := by omega
      have hd0 : decide ((0 : Int) < (K : Int)) = true := by rw [decide_eq_true_iff]; omega
      have hKm : ((K : Int) - 1) = (k : Int) := by omega
      have hw1 : IntKind.i64.wrap ((K : Int) - 1) = (k : Int) := by rw [hKm]; exact IntWalk.i64_in _ ⟨by omega, by omega⟩
      clear hKm hK
      go_wp2_with fail
      refine (sumOf_any ao q c cs r K n _ (HX.out.grown hbl) HQ.out hn hnq hr HV.out).mono ?_
      rintro e w5 ⟨⟨T, rfl, hT, t1, t2⟩, hb5⟩
      rw [← hT] at HZ
      clear hT
      have hb05 : Below w.heap.size w w5 := hbl.trans (hb5.mono hsz)
      by_cases h1 : lo ≤ T
      · by_cases h2 : T ≤ hi
        · by_cases h3 : b = 0
          · subst h3
            rw [if_pos ⟨h1, h2, Or.inl rfl⟩] at HZ
            go_wp2
            go_roundw
            case rel => exact ⟨k, K, T, by omega, hk, rfl, rfl, rfl, HZ.out, hb05⟩
            case measure => simp [intOf]; omega
          · have hb0 : ((b : Int) == 0) = false := by rw [beq_eq_false_iff_ne]; omega
            by_cases h4 : T < t
            · rw [if_pos ⟨h1, h2, Or.inr h4⟩] at HZ
              go_wp2
              go_roundw
              case rel => exact ⟨k, K, T, by omega, hk, rfl, rfl, rfl, HZ.out, hb05⟩
              case measure => simp [intOf]; omega
            · rw [if_neg (fun h => h.2.2.elim h3 h4)] at HZ
              go_wp2
              go_roundw
              case rel => exact ⟨k, b, t, by omega, hb, rfl, rfl, rfl, HZ.out, hb05⟩
              case measure => simp [intOf]; omega
        · rw [if_neg (fun h => h2 h.2.1)] at HZ
          go_wp2
          go_roundw
          case rel => exact ⟨k, b, t, by omega, hb, rfl, rfl, rfl, HZ.out, hb05⟩
          case measure => simp [intOf]; omega
      · rw [if_neg (fun h => h1 h.1)] at HZ
        go_wp2
        go_roundw
        case rel => exact ⟨k, b, t, by omega, hb, rfl, rfl, rfl, HZ.out, hb05⟩
        case measure => simp [intOf]; omega
end Go.Proofs.YtffgpepngcnjeaaGreat

namespace Go.Proofs.YtffgpepngcnjeaaGreat
open Go.RowKit
theorem bitN_zero (n i : Nat) : bitN 0 n i = false := by
  unfold bitN
  rw [Nat.zero_div]
  rfl
theorem memD_zero (cs : List CoinD) (n : Nat) : memD cs n 0 = [] := by
  unfold memD
  rw [List.filter_eq_nil_iff.2 (fun i _ => by rw [bitN_zero]; simp)]
  rfl
theorem seD_drop (r : Int) (ds : List CoinD) (k : Nat) (h : k < ds.length) (T : Int) : seD r (ds.drop k) (ds.take k) T = if 0 ≤ T + worthZ r (ds.getD k dN) then some (ds.take (k + 1), T + worthZ r (ds.getD k dN)) else seD r (ds.drop (k + 1)) (ds.take (k + 1)) (T + worthZ r (ds.getD k dN)) := by
  rw [List.drop_eq_getElem_cons h, seD]
  simp only [List.getD, List.getElem?_eq_getElem h, Option.getD_some]
  rw [List.take_succ_eq_append_getElem h]
/-- what the document chooses: a list of its own, the change -/
def ChD (r : Int) (cs : List CoinD) (want : Int) (v : Value) (ch : Int) (w w' : World) : Prop :=
  OwnRec CoinD.l 64 6 w' w.heap.size v (chosenD r cs want).1 ∧ ch = (chosenD r cs want).2 ∧ Below w.heap.size w w'
set_option maxRecDepth 100000 in
set_option maxHeartbeats 4000000 in
theorem chosen_any (ao : Option Addr) (q c : Nat) (cs : List CoinD) (r want : Int) (w : World) (hx : RecAt CoinD.l w ao cs) (hq : cs.length = q) (hq2 : q ≤ 10000) (hr : 0 ≤ r ∧ r ≤ 1000) (hv : CVals cs) (hwt : 0 ≤ want ∧ want ≤ 200000000000000) :
    Calls Tryz.prog 80 #[.slice ao q c, .int .i64 r, .int .i64 want] w fun e w' => ∃ v ch, e = .returned (.tuple #[v, .int .i64 ch]) ∧ ChD r cs want v ch w w' := by
  have HX : Hid (RecAt CoinD.l w ao cs) := hx
  have HQ : Hid (cs.length = q) := hq
  have HV : Hid (CVals cs) := hv
  have HCH : Hid (∀ v ch w', ChD r cs want v ch w w' ↔ (OwnRec CoinD.l 64 6 w' w.heap.size v (chosenD r cs want).1 ∧ ch = (chosenD r cs want).2 ∧ Below w.heap.size w w')) := fun _ _ _ => Iff.rfl
  have HCD : Hid (chosenD r cs want = if 0 < bestD r cs (min 8 q) want (want + 2 * r + 10 - 1) then (memD cs (min 8 q) (bestD r cs (min 8 q) want (want + 2 * r + 10 - 1)), 0)
  else match seD r (cs.take 10) [] (-want) with
    | none => ([], 0)
    | some (out, left) => (out, if 10 ≤ left - 2 * r then left - 2 * r else 0)) := by show _ = _; subst hq; rfl
  clear hx hq hv
  generalize hB : w.heap.size = B at *
  have HB : Hid (w.heap.size = B) := hB
  clear hB
  generalize hN : min 8 q = n at *
  have hn8 : n ≤ 8 := by omega
  have hnq : n ≤ q := by omega
  go_enter Tryz.func80, Tryz.ntmps80
  go_upto_if 19 with fail
  go_cut [8] (fun u wx => u = .int .i64 (n : Int) ∧ w = wx)
  case first =>
    by_cases h8 : 8 < q
    · have h : n = 8 := by omega
      subst h
      go_wp2
      go_meet
      exact ⟨rfl, rfl⟩
    · have h : n = q := by omega
      subst h
      go_wp2
      go_meet
      exact ⟨rfl, rfl⟩
  case rest =>
    obtain ⟨rfl, rfl⟩ := hcut
    have hw1 : IntKind.i64.wrap (2 * r) = 2 * r := IntWalk.i64_in _ ⟨by omega, by omega⟩
    have hw2 : IntKind.i64.wrap (want + 2 * r) = want + 2 * r := IntWalk.i64_in _ ⟨by omega, by omega⟩
    have hw3 : IntKind.i64.wrap (want + 2 * r + 10) = want + 2 * r + 10 := IntWalk.i64_in _ ⟨by omega, by omega⟩
    have hw4 : IntKind.i64.wrap (want + 2 * r + 10 - 1) = want + 2 * r + 10 - 1 := IntWalk.i64_in _ ⟨by omega, by omega⟩
    have hw5 : IntKind.i64.wrap (-want) = -want := IntWalk.i64_in _ ⟨by omega, by omega⟩
    go_wp2_with fail
    refine (fitting_any ao q c cs r n want (want + 2 * r + 10 - 1) _ HX.out HQ.out hn8 hnq hr HV.out).mono ?_
    rintro e w1 ⟨rfl, hb255, hb1⟩
    rw [HB.out] at hb1
    generalize bestD r cs n want (want + 2 * r + 10 - 1) = m at *
    clear hw2 hw3 hw4
    have hs1 := hb1.size
    rw [HB.out] at hs1
    have HX1 : Hid (RecAt CoinD.l w1 ao cs) := HX.out.grown (by rw [HB.out]; exact hb1)
    go_wp2
    go_loopw [10, 11] (fun v i wr => ∃ k : Nat, k ≤ n ∧ i = .int .i64 k ∧ OwnRec CoinD.l 64 6 wr B v (((List.range k).filter fun i => bitN m n i).map fun i => cs.getD i dN) ∧ Below B w wr) (fun _ i _ => n - (intOf i).toNat)
    case atStart => exact ⟨0, Nat.zero_le _, rfl, OwnRec.nil _ _ _ _ _, hb1⟩
    case round =>
      obtain ⟨k, hk, rfl, hown, hbl⟩ := hrel
      have hsz := hbl.size
      rw [HB.out] at hsz
      by_cases hlt : k < n
      · have HS : Hid _ := range_filter_snoc (fun i => bitN m n i) (fun i => cs.getD i dN) k
        have HL : Hid _ := range_filter_len (fun i => bitN m n i) (fun i => cs.getD i dN) k
        have HO : Hid (OwnRec CoinD.l 64 6 wr B u10 (((List.range k).filter fun i => bitN m n i).map fun i => cs.getD i dN)) := hown
        clear hown
        generalize ((List.range k).filter fun i => bitN m n i).map (fun i => cs.getD i dN) = acc at *
        cases hb : bitN m n k
        · go_wp2_with (go_at_call 129; refine (dHas_any m n k _ hn8 hlt).mono ?_; rintro e w' ⟨rfl, rfl⟩; rw [hb])
          go_roundw
          case rel => exact ⟨k + 1, by omega, by go_num, by rw [HS.out, hb, if_neg (by simp), List.append_nil]; exact HO.out, hbl⟩
          case measure => simp [intOf]; omega
        · have hkl : k < cs.length := by rw [HQ.out]; omega
          rcases (HX.out.grown (by rw [HB.out]; exact hbl) : RecAt CoinD.l wr ao cs) with hnil | ⟨gc, oc, rfl, hrow⟩
          · rw [hnil] at hkl; simp at hkl
          obtain ⟨e0, e1, e2, e3, e4, e5⟩ := coinCells hrow k hkl
          have hkI : (k : Int) < (q : Int) := by omega
          have hk0 : (0 : Int) ≤ (k : Int) := by omega
          clear hrow
          generalize cs.getD k dN = y at *
          obtain ⟨y0, y1, y2, y3, y4, y5⟩ := y
          simp only at e0 e1 e2 e3 e4 e5
          go_wp2_with (first | (go_at_call 129; refine (dHas_any m n k _ hn8 hlt).mono ?_; rintro e w' ⟨rfl, rfl⟩; rw [hb]) | (at_builtin; refine wpList_appR 62 48 _ Tryz.underlying62 info64 rfl (by decide) coin6 coin_one (wr.alloc (.cells #[.int .i64 y0, .int .i64 y1, .int .i64 y2, .int .i64 y3, .int .i64 y4, .int .i64 y5] 64)) rfl _ _ rfl B wr.heap.size 1 u10 acc ⟨y0, y1, y2, y3, y4, y5⟩ (by rfl) (by rfl) (HO.out.alloc _) (vrow_new _ _ _) (by simp; omega) (by have := HL.out; unfold maxLen; omega) (by have := HL.out; omega) ?_; intro g' cap w5 hown5 hg5 _ _))
          go_roundw
          case rel => exact ⟨k + 1, by omega, by go_num, by rw [HS.out, if_pos hb]; exact hown5, hbl.trans (gb_to_below (gb_trans (gb_alloc _ _ _) hg5) (by omega) (fun r hr => (HO.out.blk r hr).1))⟩
          case measure => simp [intOf]; omega
      · have hkn : k = n := by omega
        subst hkn
        have HO : Hid (OwnRec CoinD.l 64 6 wr B u10 (memD cs k m)) := hown
        clear hown hk hlt
        by_cases hm : 0 < m
        · have HCD1 : Hid (chosenD r cs want = (memD cs k m, 0)) := by show _ = _; rw [HCD.out, if_pos hm]
          go_wp2
          go_ret2
          exact ⟨_, _, rfl, (HCH.out _ _ _).2 ⟨by rw [HCD1.out]; exact HO.out, by rw [HCD1.out], hbl⟩⟩
        · have hm0 : m = 0 := by omega
          subst hm0
          have hc' := HCD.out
          rw [if_neg hm] at hc'
          have HCD1 : Hid (chosenD r cs want = match seD r (cs.take 10) [] (-want) with
            | none => ([], 0)
            | some (out, left) => (out, if 10 ≤ left - 2 * r then left - 2 * r else 0)) := hc'
          clear hc' HCD hm hb255
          have ho := HO.out
          rw [memD_zero] at ho
          have HD : Hid ((cs.take 10).length = min 10 q) := by show _ = _; rw [List.length_take, HQ.out]
          have HDG : Hid (∀ i, i < min 10 q → (cs.take 10).getD i dN = cs.getD i dN) := fun i hi => by
            rw [List.getD, List.getD, List.getElem?_take, if_pos (by omega)]
          generalize hds : cs.take 10 = ds at *
          clear hds HO HX1
          have HBW : Hid (Below B w wr) := hbl
          obtain ⟨wo, rfl⟩ : ∃ wo : World, wo = wr := ⟨_, rfl⟩
          generalize hdl : min 10 q = dl at *
          clear hs1 hb1 hnq
          go_wp2
          go_loopw [10, 13, 14] (fun v lv i wr => ∃ (k : Nat) (T : Int), k ≤ dl ∧ i = .int .i64 k ∧ lv = .int .i64 T ∧ OwnRec CoinD.l 64 6 wr B v (ds.take k) ∧ Hid (seD r (ds.drop k) (ds.take k) T = seD r ds [] (-want)) ∧ -200000000000000 - (7000 * (k : Int)) ≤ T ∧ T ≤ 1099511627776 * (k : Int) ∧ Below B w wr) (fun _ _ i _ => dl - (intOf i).toNat)
          case atStart => exact ⟨0, -want, Nat.zero_le _, rfl, rfl, ho, rfl, by simp; omega, by simp; omega, hbl⟩
          case round =>
            obtain ⟨k, T, hk, rfl, rfl, hown, hz, hT1, hT2, hbl2⟩ := hrel
            have hsz2 := hbl2.size
            rw [HB.out] at hsz2
            by_cases hlt : k < dl
            · have hkd : k < ds.length := by rw [HD.out]; exact hlt
              have hkl : k < cs.length := by rw [HQ.out]; omega
              have hz' := hz.out
              rw [seD_drop r ds k hkd T, HDG.out k hlt] at hz'
              have HS : Hid (ds.take (k + 1) = ds.take k ++ [cs.getD k dN]) := by
                show _ = _
                rw [← HDG.out k hlt, List.take_succ_eq_append_getElem hkd]
                simp [List.getD, hkd]
              have HL : Hid ((ds.take k).length ≤ 10) := by show _ ≤ _; rw [List.length_take]; omega
              have HO : Hid (OwnRec CoinD.l 64 6 wr B u10 (ds.take k)) := hown
              have hvk := HV.out (cs.getD k dN) (getD_mem cs dN k hkl)
              rcases (HX.out.grown (by rw [HB.out]; exact hbl2) : RecAt CoinD.l wr ao cs) with hnil | ⟨gc, oc, rfl, hrow⟩
              · rw [hnil] at hkl; simp at hkl
              obtain ⟨e0, e1, e2, e3, e4, e5⟩ := coinCells hrow k hkl
              have hkI : (k : Int) < (q : Int) := by omega
              have hk0 : (0 : Int) ≤ (k : Int) := by omega
              have hk10 : (k : Int) < 10 := by omega
              clear hrow hz hown
              generalize cs.getD k dN = y at *
              obtain ⟨y0, y1, y2, y3, y4, y5⟩ := y
              simp only at e0 e1 e2 e3 e4 e5 hvk
              have HWD : Hid (worthZ r ⟨y0, y1, y2, y3, y4, y5⟩ = y3 - 7 * r) := rfl
              have HZ : Hid ((if 0 ≤ T + (y3 - 7 * r) then some (ds.take (k + 1), T + (y3 - 7 * r)) else seD r (ds.drop (k + 1)) (ds.take (k + 1)) (T + (y3 - 7 * r))) = seD r ds [] (-want)) := hz'
              clear hz'
              generalize ds.take k = acc at *
              go_upto_region 19 with (go_at_call 127; refine (dWorth_any ⟨y0, y1, y2, y3, y4, y5⟩ r _ hr hvk).mono ?_; rintro e w7 ⟨rfl, hb7⟩; rw [HWD.out])
              have hw : IntKind.i64.wrap (T + (y3 - 7 * r)) = T + (y3 - 7 * r) := IntWalk.i64_in _ ⟨by omega, by omega⟩
              have HO7 : Hid (OwnRec CoinD.l 64 6 w7 B u10 acc) := HO.out.grown hb7
              have e0 := (hb7.cell (p := ⟨gc, oc + k * 6, none⟩) (cell_lt e0)).trans e0
              have e1 := (hb7.cell (p := ⟨gc, oc + k * 6 + 1, none⟩) (cell_lt e1)).trans e1
              have e2 := (hb7.cell (p := ⟨gc, oc + k * 6 + 2, none⟩) (cell_lt e2)).trans e2
              have e3 := (hb7.cell (p := ⟨gc, oc + k * 6 + 3, none⟩) (cell_lt e3)).trans e3
              have e4 := (hb7.cell (p := ⟨gc, oc + k * 6 + 4, none⟩) (cell_lt e4)).trans e4
              have e5 := (hb7.cell (p := ⟨gc, oc + k * 6 + 5, none⟩) (cell_lt e5)).trans e5
              have hb07 : Below B w w7 := hbl2.trans (hb7.mono hsz2)
              have hsz7 := hb07.size
              rw [HB.out] at hsz7
              go_upto_region 21 with (at_builtin; refine wpList_appR 62 48 _ Tryz.underlying62 info64 rfl (by decide) coin6 coin_one (w7.alloc (.cells #[.int .i64 y0, .int .i64 y1, .int .i64 y2, .int .i64 y3, .int .i64 y4, .int .i64 y5] 64)) rfl _ _ rfl B w7.heap.size 1 u10 acc ⟨y0, y1, y2, y3, y4, y5⟩ (by rfl) (by rfl) (HO7.out.alloc _) (vrow_new _ _ _) (by simp; omega) (by have := HL.out; unfold maxLen; omega) (by have := HL.out; omega) ?_; intro g' cap w5 hown5 hg5 _ _)
              have hb05 : Below B w w5 := hb07.trans (gb_to_below (gb_trans (gb_alloc _ _ _) hg5) (by omega) (fun r hr => (HO.out.blk r hr).1))
              rw [← HS.out] at hown5
              have HO5 : Hid _ := hown5
              clear hown5 hg5
              clear hw
              generalize hT' : T + (y3 - 7 * r) = T' at *
              have t1 : -200000000000000 - (7000 * ((k + 1 : Nat) : Int)) ≤ T' := by push_cast; omega
              have t2 : T' ≤ 1099511627776 * ((k + 1 : Nat) : Int) := by push_cast; omega
              have hw6 : IntKind.i64.wrap (T' - 2 * r) = T' - 2 * r := IntWalk.i64_in _ ⟨by omega, by omega⟩
              clear hT'
              by_cases h0 : 0 ≤ T'
              · rw [if_pos h0] at HZ
                rw [← HZ.out] at HCD1
                by_cases h1 : 10 ≤ T' - 2 * r
                · have HF : Hid (chosenD r cs want = (ds.take (k + 1), T' - 2 * r)) := by show _ = _; rw [HCD1.out]; simp only; rw [if_pos h1]
                  go_wp2
                  go_ret2
                  exact ⟨_, _, rfl, (HCH.out _ _ _).2 ⟨by rw [HF.out]; exact HO5.out, by rw [HF.out], hb05⟩⟩
                · have HF : Hid (chosenD r cs want = (ds.take (k + 1), 0)) := by show _ = _; rw [HCD1.out]; simp only; rw [if_neg h1]
                  go_wp2
                  go_ret2
                  exact ⟨_, _, rfl, (HCH.out _ _ _).2 ⟨by rw [HF.out]; exact HO5.out, by rw [HF.out], hb05⟩⟩
              · rw [if_neg h0] at HZ
                go_wp2
                go_roundw
                case rel => exact ⟨_, _, _, _, _, ⟨k + 1, by omega, by go_num, T', rfl, HO5.out, HZ.out, t1, t2⟩, rfl, rfl, rfl, rfl, rfl⟩
                case measure => simp [intOf]; omega
            · have hkd : k = dl := by omega
              have HZ : Hid (none = seD r ds [] (-want)) := by
                have := hz.out
                rw [List.drop_of_length_le (by rw [HD.out]; omega), seD] at this
                exact this
              rw [← HZ.out] at HCD1
              have HF : Hid (chosenD r cs want = ([], 0)) := HCD1.out
              by_cases hkq : k < q
              · have hk10 : ¬ ((k : Int) < 10) := by omega
                go_wp2
                go_ret2
                exact ⟨_, _, rfl, (HCH.out _ _ _).2 ⟨by rw [HF.out]; exact OwnRec.nil _ _ _ _ _, by rw [HF.out], hbl2⟩⟩
              · go_wp2
                go_ret2
                exact ⟨_, _, rfl, (HCH.out _ _ _).2 ⟨by rw [HF.out]; exact OwnRec.nil _ _ _ _ _, by rw [HF.out], hbl2⟩⟩
end Go.Proofs.YtffgpepngcnjeaaGreat

namespace Go.Proofs.YtffgpepngcnjeaaGreat
open Go.RowKit
def askedZ (ys : List (Int × Int)) (r tag : Int) : Int :=
  if r < 0 ∨ 1000 < r ∨ ¬ (0 ≤ tag ∧ tag ≤ 1099511627776) then 1 else if 7 < ys.length ∨ rOuts ys = false then 2 else 0
theorem asked_arg {ys : List (Int × Int)} {r tag : Int} (h : r < 0 ∨ 1000 < r ∨ ¬ (0 ≤ tag ∧ tag ≤ 1099511627776)) : askedZ ys r tag = 1 := by unfold askedZ; rw [if_pos h]
theorem asked_shape {ys : List (Int × Int)} {r tag : Int} (h : ¬ (r < 0 ∨ 1000 < r ∨ ¬ (0 ≤ tag ∧ tag ≤ 1099511627776))) (h2 : 7 < ys.length ∨ rOuts ys = false) : askedZ ys r tag = 2 := by unfold askedZ; rw [if_neg h, if_pos h2]
theorem asked_ok {ys : List (Int × Int)} {r tag : Int} (h : ¬ (r < 0 ∨ 1000 < r ∨ ¬ (0 ≤ tag ∧ tag ≤ 1099511627776))) (h2 : ¬ (7 < ys.length ∨ rOuts ys = false)) : askedZ ys r tag = 0 := by unfold askedZ; rw [if_neg h, if_neg h2]
set_option maxRecDepth 100000 in
set_option maxHeartbeats 2000000 in
theorem asked_any (ao : Option Addr) (n c : Nat) (ys : List (Int × Int)) (r tag : Int) (w : World) (hx : OutsAt w ao ys) (hn : ys.length = n) :
    Calls Tryz.prog 77 #[.slice ao n c, .int .i64 r, .int .i64 tag] w fun e w' => e = .returned (.int .i64 (askedZ ys r tag)) ∧ Below w.heap.size w w' := by
  have HX : Hid (OutsAt w ao ys) := hx
  have HN : Hid (ys.length = n) := hn
  clear hx hn
  by_cases h1 : r < 0
  · rw [asked_arg (Or.inl h1)]
    go_enter Tryz.func77, Tryz.ntmps77
    go_wp2
    go_ret
    exact ⟨rfl, Below.refl _ _⟩
  by_cases h2 : 1000 < r
  · rw [asked_arg (Or.inr (Or.inl h2))]
    go_enter Tryz.func77, Tryz.ntmps77
    go_wp2
    go_ret
    exact ⟨rfl, Below.refl _ _⟩
  by_cases h3 : tag < 0
  · rw [asked_arg (Or.inr (Or.inr (by omega)))]
    go_enter Tryz.func77, Tryz.ntmps77
    go_wp2
    go_ret
    exact ⟨rfl, Below.refl _ _⟩
  by_cases h4 : 1099511627776 < tag
  · rw [asked_arg (Or.inr (Or.inr (by omega)))]
    go_enter Tryz.func77, Tryz.ntmps77
    go_wp2
    go_ret
    exact ⟨rfl, Below.refl _ _⟩
  have hno : ¬ (r < 0 ∨ 1000 < r ∨ ¬ (0 ≤ tag ∧ tag ≤ 1099511627776)) := by omega
  by_cases h5 : n < 1
  · rw [asked_shape hno (Or.inr (by unfold rOuts; rw [decide_eq_false (by rw [HN.out]; omega)]; rfl))]
    go_enter Tryz.func77, Tryz.ntmps77
    go_wp2
    go_ret
    exact ⟨rfl, Below.refl _ _⟩
  by_cases h6 : 7 < n
  · rw [asked_shape hno (Or.inl (by rw [HN.out]; exact h6))]
    go_enter Tryz.func77, Tryz.ntmps77
    go_wp2
    go_ret
    exact ⟨rfl, Below.refl _ _⟩
  have HRO : Hid (rOuts ys = ys.all rOut) := by show _ = _; unfold rOuts; rw [decide_eq_true (by rw [HN.out]; omega)]; rfl
  have HNO : Hid (¬ (r < 0 ∨ 1000 < r ∨ ¬ (0 ≤ tag ∧ tag ≤ 1099511627776))) := hno
  clear hno
  go_enter Tryz.func77, Tryz.ntmps77
  go_wp2
  go_loopw [7] (fun i wr => ∃ k : Nat, k ≤ n ∧ i = .int .i64 k ∧ Hid ((ys.take k).all rOut = true) ∧ Below w.heap.size w wr) (fun i _ => n - (intOf i).toNat)
  case atStart => exact ⟨0, Nat.zero_le _, rfl, by show List.all _ _ = true; simp, Below.refl _ _⟩
  case round =>
    obtain ⟨k, hk, rfl, hall, hbl⟩ := hrel
    have hsz := hbl.size
    by_cases hlt : k < n
    · rcases HX.out with hnil | ⟨gg, off, rfl, hrow⟩
      · have := HN.out; rw [hnil] at this; simp at this; omega
      obtain ⟨c0, c1⟩ := (hrow.grown hbl) k (by rw [HN.out]; exact hlt)
      have HS : Hid ((ys.take (k + 1)).all rOut = rOut (ys.getD k (0, 0))) := by
        show _ = _
        rw [List.take_succ_eq_append_getElem (by rw [HN.out]; exact hlt), List.all_append, hall.out]
        simp [List.getD, HN.out, hlt]
      have HM : Hid (ys.getD k (0, 0) ∈ ys) := getD_mem ys (0, 0) k (by rw [HN.out]; exact hlt)
      have hkI : (k : Int) < (n : Int) := by omega
      have hk0 : (0 : Int) ≤ (k : Int) := by omega
      clear hrow
      generalize ys.getD k (0, 0) = y at *
      obtain ⟨y0, y1⟩ := y
      simp only at c0 c1
      cases hro : rOut (y0, y1)
      · have HF : Hid (askedZ ys r tag = 2) := asked_shape HNO.out (Or.inr (by
          rw [HRO.out, List.all_eq_false]
          exact ⟨_, HM.out, by rw [hro]; simp⟩))
        go_wp2_with (go_at_call 126; refine (rRightOut_any y0 y1 _).mono ?_; rintro e w5 ⟨rfl, hb5⟩; rw [hro])
        go_ret
        exact ⟨ret_int HF.out.symm, hbl.trans (hb5.mono hsz)⟩
      · go_wp2_with (go_at_call 126; refine (rRightOut_any y0 y1 _).mono ?_; rintro e w5 ⟨rfl, hb5⟩; rw [hro])
        go_roundw
        case rel => exact ⟨k + 1, by omega, by go_num, by show _ = _; rw [HS.out, hro], hbl.trans (hb5.mono hsz)⟩
        case measure => simp [intOf]; omega
    · have HF : Hid (askedZ ys r tag = 0) := asked_ok HNO.out (by
        rw [HRO.out]
        have h := hall.out
        rw [List.take_of_length_le (by rw [HN.out]; omega)] at h
        rw [h, HN.out]
        rintro (h | h)
        · omega
        · cases h)
      go_wp2
      go_ret
      exact ⟨ret_int HF.out.symm, hbl⟩
set_option maxRecDepth 100000 in
set_option maxHeartbeats 1000000 in
theorem dTarget_any (ao : Option Addr) (n c : Nat) (ys : List (Int × Int)) (r : Int) (w : World) (hx : OutsAt w ao ys) (hn : ys.length = n) (hm : n ≤ 100) (hr : 0 ≤ r ∧ r ≤ 1000) (hb : ∀ y ∈ ys, 0 ≤ y.2 ∧ y.2 ≤ 1099511627776) :
    Calls Tryz.prog 79 #[.slice ao n c, .int .i64 r] w fun e w' => e = .returned (.int .i64 (targetZ ys r)) ∧ Below w.heap.size w w' := by
  have HX : Hid (OutsAt w ao ys) := hx
  have HN : Hid (ys.length = n) := hn
  have HB : Hid (∀ y ∈ ys, 0 ≤ y.2 ∧ y.2 ≤ 1099511627776) := hb
  clear hx hn hb
  have hrn : 0 ≤ r * (3 + 2 * (n : Int)) ∧ r * (3 + 2 * (n : Int)) ≤ 203000 := ⟨Int.mul_nonneg hr.1 (by omega), by
    have h1 : r * (3 + 2 * (n : Int)) ≤ 1000 * (3 + 2 * (n : Int)) := Int.mul_le_mul_of_nonneg_right hr.2 (by omega)
    omega⟩
  have hw1 : IntKind.i64.wrap (2 * (n : Int)) = 2 * (n : Int) := IntWalk.i64_in _ ⟨by omega, by omega⟩
  have hw2 : IntKind.i64.wrap (3 + 2 * (n : Int)) = 3 + 2 * (n : Int) := IntWalk.i64_in _ ⟨by omega, by omega⟩
  have hw3 : IntKind.i64.wrap (r * (3 + 2 * (n : Int))) = r * (3 + 2 * (n : Int)) := IntWalk.i64_in _ ⟨by omega, by omega⟩
  have HT : Hid (targetZ ys r = r * (3 + 2 * (n : Int)) + sumOu ys) := by show _ = _; unfold targetZ; rw [HN.out]
  go_enter Tryz.func79, Tryz.ntmps79
  go_wp2
  generalize r * (3 + 2 * (n : Int)) = F at *
  go_loopw [5, 6] (fun v i wr => ∃ (k : Nat) (T : Int), k ≤ n ∧ i = .int .i64 k ∧ v = .int .i64 T ∧ Hid (F + ((ys.take k).map Prod.snd).sum = T) ∧ w = wr) (fun _ i _ => n - (intOf i).toNat)
  case atStart => exact ⟨0, F, Nat.zero_le _, rfl, rfl, by show F + _ = F; simp, rfl⟩
  case round =>
    obtain ⟨k, T, hk, rfl, rfl, hT, rfl⟩ := hrel
    by_cases hlt : k < n
    · rcases HX.out with hnil | ⟨gg, off, rfl, hrow⟩
      · have := HN.out; rw [hnil] at this; simp at this; omega
      obtain ⟨c0, c1⟩ := hrow k (by rw [HN.out]; exact hlt)
      have HS : Hid _ := sum_snoc Prod.snd ys (0, 0) k (by rw [HN.out]; exact hlt)
      have hSb := sum_bd Prod.snd 1099511627776 (ys.take k) (fun x hx => HB.out x (List.mem_of_mem_take hx))
      have hyb := HB.out (ys.getD k (0, 0)) (getD_mem ys (0, 0) k (by rw [HN.out]; exact hlt))
      have hl2 : (ys.take k).length ≤ 100 := by rw [List.length_take]; omega
      have hT2 : 0 ≤ T ∧ T ≤ 120000000000000 := by have := hT.out; omega
      clear hrow hSb hl2
      generalize ys.getD k (0, 0) = y at c0 c1 HS hyb
      obtain ⟨y0, y1⟩ := y
      simp only at c0 c1 hyb
      have hw : IntKind.i64.wrap (T + y1) = T + y1 := IntWalk.i64_in _ ⟨by omega, by omega⟩
      go_wp2
      go_roundw
      case rel => exact ⟨k + 1, T + y1, by omega, by go_num, rfl, (by show _ = _; rw [HS.out, ← Int.add_assoc, hT.out]), trivial⟩
      case measure => simp [intOf]; omega
    · have HSe : Hid (targetZ ys r = T) := by show _ = _; rw [HT.out, ← hT.out, List.take_of_length_le (by rw [HN.out]; omega)]; rfl
      go_wp2
      go_ret
      exact ⟨ret_int HSe.out.symm, Below.refl _ _⟩
theorem kV_outL (ys : List (Int × Int)) : (outL ys).map (Value.int .i64) = ys.flatMap kV := by
  induction ys with
  | nil => rfl
  | cons y t ih => rw [List.flatMap_cons, ← ih]; rfl
theorem copy_outsN (a : Addr) (n c : Nat) (ys : List (Int × Int)) (w : World) (hr : OutsAt w (some a) ys) (hn : ys.length = n) (hm : n ≤ 1000) :
    ∃ w1, Sem.run Tryz.prog (Builtin.copy_ #[31, 31] 3 #[.slice (some ⟨w.heap.size, 0, none⟩) n n, .slice (some a) n c]) (w.alloc (.cells (Go.madeCells #[.int .i64 0, .int .i64 0] (n * 2)) 115)) = .ok (.int .i64 n) w1 ∧
      OwnRec kV 115 2 w1 w.heap.size (.slice (some ⟨w.heap.size, 0, none⟩) n n) ys ∧ Below w.heap.size w w1 := by
  have hheap := heap_made w (Go.madeCells #[Value.int .i64 0, .int .i64 0] (n * 2)) 115
  have hl : (outL ys).length = n * 2 := by rw [outL_len, hn]; omega
  have hcs := copy_src (W := w.alloc (.cells (Go.madeCells #[.int .i64 0, .int .i64 0] (n * 2)) 115)) (ints_of_outs hr) ((Below.refl _ _).alloc (Nat.le_refl _) _) w.heap.size
  have hsrc : ∀ (j : Nat) (v : Value), ((outL ys).map (Value.int .i64))[j]? = some v → (w.alloc (.cells (Go.madeCells #[.int .i64 0, .int .i64 0] (n * 2)) 115)).cell? (a.add j) = some v := by
    intro j v hj
    by_cases hp : 0 < ((outL ys).map (Value.int .i64)).length
    · obtain ⟨_, ad, e, h⟩ := hcs hp
      cases e
      exact h j v hj
    · have : (outL ys).map (Value.int .i64) = [] := List.length_eq_zero_iff.1 (by omega)
      rw [this] at hj
      simp at hj
  have hlm : ((outL ys).map (Value.int .i64)).length = n * 2 := by rw [List.length_map, hl]
  have hrun := run_copy_wide Tryz.prog (w.alloc (.cells (Go.madeCells #[.int .i64 0, .int .i64 0] (n * 2)) 115)) 31 31 3 115 w.heap.size 0 n n a n c (Go.madeCells #[Value.int .i64 0, .int .i64 0] (n * 2)) 115 ((outL ys).map (Value.int .i64)) 2 Tryz.underlying31 sizeInfo56 hheap (by rw [hlm, show n.min n = n from Nat.min_self n]) hsrc (by rw [hlm, size_madeCells]; omega) (ints_one _)
  have hh := setRow_heap (w.alloc (.cells (Go.madeCells #[.int .i64 0, .int .i64 0] (n * 2)) 115)) w.heap.size (Go.madeCells #[Value.int .i64 0, .int .i64 0] (n * 2)) (splice (Go.madeCells #[Value.int .i64 0, .int .i64 0] (n * 2)).toList 0 ((outL ys).map (Value.int .i64))).toArray 115 (0, 0) hheap
  refine ⟨(w.alloc (.cells (Go.madeCells #[.int .i64 0, .int .i64 0] (n * 2)) 115)).setRow w.heap.size (splice (Go.madeCells #[Value.int .i64 0, .int .i64 0] (n * 2)).toList 0 ((outL ys).map (Value.int .i64))).toArray, ?_, ?_, below_setRow ((Below.refl _ _).alloc (Nat.le_refl _) _) (Nat.le_refl _) _⟩
  · rw [hrun, show n.min n = n from Nat.min_self n]
    simp [splice, goInt]
  · have hsp : splice (Go.madeCells #[Value.int .i64 0, .int .i64 0] (n * 2)).toList 0 ((outL ys).map (Value.int .i64)) = ys.flatMap kV := by
      unfold splice
      rw [List.take_zero, List.nil_append, List.drop_of_length_le (by rw [Array.length_toList, size_madeCells, hlm]; omega), List.append_nil, kV_outL]
    rw [hsp] at hh
    have hfl : (ys.flatMap kV).length = n * 2 := by rw [← kV_outL, hlm]
    refine ⟨by rw [hfl, hn], Or.inr ⟨w.heap.size, n, (ys.flatMap kV).toArray, by rw [hn], Nat.le_refl _, ?_, by omega, by unfold maxLen; omega, by rw [List.size_toArray]; exact hfl, ?_⟩⟩
    · rw [hsp]; exact hh
    · rw [List.take_of_length_le (by simp [hfl, hn])]
theorem make_outsN (n : Nat) (hn : n ≤ 8796093022208) : ∀ u : World, (Instr.makeSlice 31 (.int .i64 (n : Int)) (.int .i64 (n : Int))).run Tryz.prog u =
    .ok (.slice (some ⟨u.heap.size, 0, none⟩) n n) (u.alloc (.cells (Go.madeCells #[.int .i64 0, .int .i64 0] (n * 2)) 115)) := fun u => by
  obtain ⟨i0, hi, hz0, hz1, hz2⟩ := info_parts info115
  have h := run_make (P := Tryz.prog) u 31 115 i0 (.agg #[.int .i64 0, .int .i64 0]) Tryz.underlying31 hi hz0 .i64 .i64 (n : Int) (n : Int) (by omega) (Int.le_refl _) (by rw [hz2]; omega) (by omega)
  have e : (n : Int).toNat = n := by omega
  rw [e] at h
  simpa [hz1, Value.cells] using h
set_option maxRecDepth 100000 in
set_option maxHeartbeats 400000 in
theorem copiedOuts_any (a : Addr) (n c : Nat) (ys : List (Int × Int)) (w : World) (hr : OutsAt w (some a) ys) (hn : ys.length = n) (hm : n ≤ 1000) :
    Calls Tryz.prog 81 #[.slice (some a) n c] w fun e w' => e = .returned (.slice (some ⟨w.heap.size, 0, none⟩) n n) ∧ OwnRec kV 115 2 w' w.heap.size (.slice (some ⟨w.heap.size, 0, none⟩) n n) ys ∧ Below w.heap.size w w' := by
  have hmk := make_outsN n (by omega)
  obtain ⟨w1, hrun, hown, hb1⟩ := copy_outsN a n c ys w hr hn hm
  have HO : Hid _ := hown
  clear hown hr hn
  go_enter Tryz.func81, Tryz.ntmps81
  go_wp2
  go_ret
  exact ⟨rfl, HO.out, hb1⟩
end Go.Proofs.YtffgpepngcnjeaaGreat
