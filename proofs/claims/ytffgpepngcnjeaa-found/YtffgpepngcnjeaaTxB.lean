/-
  The id of a transaction, by the program.
-/
import Derived.Test.YtffgpepngcnjeaaTxA
namespace Go.Proofs.Ytffgpepngcnjeaa
open Go.RowKit

def inL (xs : List InD) : List Int := xs.flatMap fun x => [x.id, x.pos]
def outL (ys : List (Int × Int)) : List Int := ys.flatMap fun y => [y.1, y.2]
def idL (t : Int) (xs : List InD) (ys : List (Int × Int)) : List Int := [t, (xs.length : Int)] ++ inL xs ++ [(ys.length : Int)] ++ outL ys
def idZ (t : Int) (xs : List InD) (ys : List (Int × Int)) : Int := if rTx t xs ys = true then Mk.mixL 1 (idL t xs ys) else 0

theorem inL_snoc (xs : List InD) (k : Nat) (h : k < xs.length) : inL (xs.take (k + 1)) = inL (xs.take k) ++ [(xs.getD k dIn).id, (xs.getD k dIn).pos] := by
  unfold inL
  rw [List.take_succ_eq_append_getElem h, List.flatMap_append]
  simp [List.getD, h]
theorem outL_snoc (ys : List (Int × Int)) (k : Nat) (h : k < ys.length) : outL (ys.take (k + 1)) = outL (ys.take k) ++ [(ys.getD k (0, 0)).1, (ys.getD k (0, 0)).2] := by
  unfold outL
  rw [List.take_succ_eq_append_getElem h, List.flatMap_append]
  simp [List.getD, h]
theorem mixIn_snoc (h : Int) (xs : List InD) (k : Nat) (hk : k < xs.length) : Mk.mixL h (inL (xs.take (k + 1))) = Mk.mx (Mk.mx (Mk.mixL h (inL (xs.take k))) (xs.getD k dIn).id) (xs.getD k dIn).pos := by
  rw [inL_snoc xs k hk, Mk.mixL_append]; rfl
theorem mixOut_snoc (h : Int) (ys : List (Int × Int)) (k : Nat) (hk : k < ys.length) : Mk.mixL h (outL (ys.take (k + 1))) = Mk.mx (Mk.mx (Mk.mixL h (outL (ys.take k))) (ys.getD k (0, 0)).1) (ys.getD k (0, 0)).2 := by
  rw [outL_snoc ys k hk, Mk.mixL_append]; rfl

theorem rTx_parts {t : Int} {xs : List InD} {ys : List (Int × Int)} (h : rTx t xs ys = true) :
    (0 ≤ t ∧ t ≤ 1099511627776) ∧ xs.length ≤ 10 ∧ (∀ j, j < xs.length → rIn (xs.getD j dIn) = true) ∧ (1 ≤ ys.length ∧ ys.length ≤ 8) ∧ (∀ j, j < ys.length → rOut (ys.getD j (0, 0)) = true) := by
  simp only [rTx, rIns, rOuts, Bool.and_eq_true, decide_eq_true_iff, List.all_eq_true] at h
  obtain ⟨h1, ⟨h2, h3⟩, h4, h5⟩ := h
  refine ⟨h1, h2, fun j hj => ?_, h4, fun j hj => ?_⟩
  · have := h3 _ (List.getElem_mem hj)
    simpa [List.getD, hj] using this
  · have := h5 _ (List.getElem_mem hj)
    simpa [List.getD, hj] using this
theorem rIn_bd {x : InD} (h : rIn x = true) : (0 ≤ x.id ∧ x.id < 99991) ∧ (0 ≤ x.pos ∧ x.pos < 8) := by
  simp only [rIn, Bool.and_eq_true, decide_eq_true_iff] at h
  exact ⟨(Mk.isM_iff _).1 h.1, h.2.1⟩
theorem rOut_bd {y : Int × Int} (h : rOut y = true) : (0 ≤ y.1 ∧ y.1 < 99991) ∧ (10 ≤ y.2 ∧ y.2 ≤ 1099511627776) := by
  simp only [rOut, Bool.and_eq_true, decide_eq_true_iff] at h
  exact ⟨(Mk.isM_iff _).1 h.1, h.2⟩

theorem idL_split (t : Int) (xs : List InD) (ys : List (Int × Int)) : Mk.mixL 1 (idL t xs ys) = Mk.mixL (Mk.mx (Mk.mixL (Mk.mx (Mk.mx 1 t) (xs.length : Int)) (inL xs)) (ys.length : Int)) (outL ys) := by
  unfold idL
  rw [Mk.mixL_append, Mk.mixL_append, Mk.mixL_append]
  rfl

set_option maxRecDepth 100000 in
set_option maxHeartbeats 400000 in
theorem txId_no (t : Int) (ai : Option Addr) (n c : Nat) (ap : Option Addr) (m d : Nat) (xs : List InD) (ys : List (Int × Int)) (w : World) (hx : InsAt w ai xs) (hn : xs.length = n) (hy : OutsAt w ap ys) (hm : ys.length = m) (hr : rTx t xs ys = false) :
    Calls Try.prog 57 #[.agg #[.int .i64 t, .slice ai n c, .slice ap m d]] w fun e w' => e = .returned (.int .i64 0) ∧ Below w.heap.size w w' := by
  have HN : Hid (xs.length = n) := hn
  have HM : Hid (ys.length = m) := hm
  have HX : Hid (InsAt w ai xs) := hx
  have HY : Hid (OutsAt w ap ys) := hy
  clear hn hm hx hy
  have bl : ∀ o, Below w.heap.size w (w.alloc o) := fun o => (Below.refl _ _).alloc (Nat.le_refl _) _
  have HB : Hid _ := bl
  clear bl
  go_enter Try.func57, Try.ntmps57
  go_wp2_with fail
  refine (rightShape_any _ _ _ _ _ _ _ xs ys _ (HX.out.grown (HB.out _)) HN.out (HY.out.grown (HB.out _)) HM.out).mono ?_
  rintro e w1 ⟨rfl, hb1⟩
  rw [hr]
  go_wp2
  go_ret
  exact ⟨rfl, below_blk (HB.out _) hb1⟩

set_option maxRecDepth 100000 in
set_option maxHeartbeats 1000000 in
theorem txId_yes (t : Int) (ai : Option Addr) (n c : Nat) (ap : Option Addr) (m d : Nat) (xs : List InD) (ys : List (Int × Int)) (w : World) (hx : InsAt w ai xs) (hn : xs.length = n) (hy : OutsAt w ap ys) (hm : ys.length = m) (hr : rTx t xs ys = true) :
    Calls Try.prog 57 #[.agg #[.int .i64 t, .slice ai n c, .slice ap m d]] w fun e w' => e = .returned (.int .i64 (Mk.mixL 1 (idL t xs ys))) ∧ Below w.heap.size w w' := by
  obtain ⟨ht, hn10, hin, hm8, hout⟩ := rTx_parts hr
  rw [hn] at hn10
  rw [hm] at hm8
  have HN : Hid (xs.length = n) := hn
  have HM : Hid (ys.length = m) := hm
  have HX : Hid (InsAt w ai xs) := hx
  have HY : Hid (OutsAt w ap ys) := hy
  have HI : Hid _ := hin
  have HO : Hid _ := hout
  clear hn hm hx hy hin hout
  have bl : ∀ o, Below w.heap.size w (w.alloc o) := fun o => (Below.refl _ _).alloc (Nat.le_refl _) _
  have HB : Hid _ := bl
  clear bl
  have HE : Hid _ := idL_split t xs ys
  rw [HN.out, HM.out] at HE
  have b1 := Mk.mx_bd 1 t
  have b2 := Mk.mx_bd (Mk.mx 1 t) (n : Int)
  go_enter Try.func57, Try.ntmps57
  go_wp2_with fail
  refine (rightShape_any _ _ _ _ _ _ _ xs ys _ (HX.out.grown (HB.out _)) HN.out (HY.out.grown (HB.out _)) HM.out).mono ?_
  rintro e w1 ⟨rfl, hb1⟩
  rw [hr]
  have hw1 := below_blk (HB.out _) hb1
  obtain ⟨cc, _⟩ := bcell hb1
  go_wp2_with (go_at_call 93; refine (mix_any _ _ _ (by omega) (by omega) (by omega) (by omega)).mono ?_; rintro e w' ⟨rfl, rfl⟩)
  clear cc
  generalize hh0 : Mk.mx (Mk.mx 1 t) (n : Int) = h0 at *
  clear b1
  go_loopw [3, 22] (fun v i wr => ∃ k : Nat, k ≤ n ∧ i = .int .i64 k ∧ v = .int .i64 (Mk.mixL h0 (inL (xs.take k))) ∧ Below w1.heap.size w1 wr) (fun _ i _ => n - (intOf i).toNat)
  case atStart => exact ⟨0, Nat.zero_le _, rfl, rfl, Below.refl _ _⟩
  case round =>
    obtain ⟨k, hk, rfl, rfl, hbl⟩ := hrel
    have hsz := hbl.size
    have hw := below_blk hw1 hbl
    have hmb := Mk.mixL_bd h0 (inL (xs.take k)) b2.1 b2.2
    by_cases hlt : k < n
    · rcases HX.out with hnil | ⟨b, off, rfl, hrow⟩
      · have := HN.out; rw [hnil] at this; simp at this; omega
      obtain ⟨⟨c0, c1, c2⟩, _⟩ := (hrow.grown hw) k (by rw [HN.out]; exact hlt)
      have HS : Hid _ := mixIn_snoc h0 xs k (by rw [HN.out]; exact hlt)
      have hb := rIn_bd (HI.out k (by rw [HN.out]; exact hlt))
      clear hrow
      generalize xs.getD k dIn = y at c0 c1 c2 HS hb
      obtain ⟨yid, ypos, yao, yn, yc, yl⟩ := y
      simp only at c0 c1 c2 hb
      generalize Mk.mixL h0 (inL (xs.take k)) = hh at *
      have bb := Mk.mx_bd hh yid
      go_wp2_with (go_at_call 93; refine (mix_any _ _ _ (by omega) (by omega) (by omega) (by omega)).mono ?_; rintro e w' ⟨rfl, rfl⟩)
      go_roundw
      case rel => exact ⟨k + 1, by omega, by go_num, by rw [HS.out], hbl.alloc hsz _⟩
      case measure => simp [intOf]; omega
    · have hkn : k = n := by omega
      subst hkn
      have HT : Hid (inL (xs.take k) = inL xs) := by show _ = _; rw [List.take_of_length_le (by rw [HN.out]; omega)]
      rw [HT.out] at hmb ⊢
      generalize hh1 : Mk.mixL h0 (inL xs) = h1 at *
      have b3 := Mk.mx_bd h1 (m : Int)
      have hbx := hb1.trans (hbl.mono hb1.size)
      obtain ⟨cc, _⟩ := bcell hbx
      clear hlt
      go_wp2_with (go_at_call 93; refine (mix_any _ _ _ (by omega) (by omega) (by omega) (by omega)).mono ?_; rintro e w' ⟨rfl, rfl⟩)
      clear cc
      generalize hh2 : Mk.mx h1 (m : Int) = h2 at *
      go_loopw [3, 43] (fun v i ws => ∃ j : Nat, j ≤ m ∧ i = .int .i64 j ∧ v = .int .i64 (Mk.mixL h2 (outL (ys.take j))) ∧ Below wr.heap.size wr ws) (fun _ i _ => m - (intOf i).toNat)
      case atStart => exact ⟨0, Nat.zero_le _, rfl, rfl, Below.refl _ _⟩
      case round =>
        obtain ⟨j, hj, rfl, rfl, hbl2⟩ := hrel
        have hsz2 := hbl2.size
        have hv := below_blk hw hbl2
        have hmb2 := Mk.mixL_bd h2 (outL (ys.take j)) b3.1 b3.2
        by_cases hjt : j < m
        · rcases HY.out with hnil | ⟨b, off, rfl, hrow⟩
          · have := HM.out; rw [hnil] at this; simp at this; omega
          obtain ⟨c0, c1⟩ := (hrow.grown hv) j (by rw [HM.out]; exact hjt)
          have HS : Hid _ := mixOut_snoc h2 ys j (by rw [HM.out]; exact hjt)
          have hb := rOut_bd (HO.out j (by rw [HM.out]; exact hjt))
          clear hrow
          generalize ys.getD j (0, 0) = y at c0 c1 HS hb
          obtain ⟨ya, yv⟩ := y
          simp only at c0 c1 hb
          generalize Mk.mixL h2 (outL (ys.take j)) = hh at *
          have bb := Mk.mx_bd hh ya
          go_wp2_with (go_at_call 93; refine (mix_any _ _ _ (by omega) (by omega) (by omega) (by omega)).mono ?_; rintro e w' ⟨rfl, rfl⟩)
          go_roundw
          case rel => exact ⟨j + 1, by omega, by go_num, by rw [HS.out], hbl2.alloc hsz2 _⟩
          case measure => simp [intOf]; omega
        · go_wp2
          go_ret
          refine ⟨ret_int ?_, hv⟩
          rw [HE.out, List.take_of_length_le (by rw [HM.out]; omega)]

theorem txId_any (t : Int) (ai : Option Addr) (n c : Nat) (ap : Option Addr) (m d : Nat) (xs : List InD) (ys : List (Int × Int)) (w : World) (hx : InsAt w ai xs) (hn : xs.length = n) (hy : OutsAt w ap ys) (hm : ys.length = m) :
    Calls Try.prog 57 #[.agg #[.int .i64 t, .slice ai n c, .slice ap m d]] w fun e w' => e = .returned (.int .i64 (idZ t xs ys)) ∧ Below w.heap.size w w' := by
  unfold idZ
  cases hr : rTx t xs ys
  · rw [if_neg (by simp)]
    exact txId_no t ai n c ap m d xs ys w hx hn hy hm hr
  · rw [if_pos rfl]
    exact txId_yes t ai n c ap m d xs ys w hx hn hy hm hr

set_option maxRecDepth 100000 in
set_option maxHeartbeats 400000 in
theorem pId_any (t : Int) (ai : Option Addr) (n c : Nat) (ap : Option Addr) (m d : Nat) (xs : List InD) (ys : List (Int × Int)) (w : World) (hx : InsAt w ai xs) (hn : xs.length = n) (hy : OutsAt w ap ys) (hm : ys.length = m) :
    Calls Try.prog 12 #[.agg #[.int .i64 t, .slice ai n c, .slice ap m d]] w fun e w' => e = .returned (.int .i64 (idZ t xs ys)) ∧ Below w.heap.size w w' := by
  have HN : Hid (xs.length = n) := hn
  have HM : Hid (ys.length = m) := hm
  have HX : Hid (InsAt w ai xs) := hx
  have HY : Hid (OutsAt w ap ys) := hy
  clear hn hm hx hy
  have bl : ∀ o, Below w.heap.size w (w.alloc o) := fun o => (Below.refl _ _).alloc (Nat.le_refl _) _
  have HB : Hid _ := bl
  clear bl
  go_enter Try.func12, Try.ntmps12
  go_wp2_with fail
  refine (txId_any _ _ _ _ _ _ _ xs ys _ (HX.out.grown (HB.out _)) HN.out (HY.out.grown (HB.out _)) HM.out).mono ?_
  rintro e w1 ⟨rfl, hb1⟩
  go_wp2
  go_ret
  exact ⟨rfl, below_blk (HB.out _) hb1⟩

end Go.Proofs.Ytffgpepngcnjeaa
