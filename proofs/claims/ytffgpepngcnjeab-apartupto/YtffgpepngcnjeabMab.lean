/-
  The id of a transaction, by the program.
  The right shape and the id of a transaction, by the document's answer.
  copy of elements of several cells into a row that is known whole.
  A transaction that is handed in, in lists of its own.
  Lists of inputs and of outputs that a call makes by append; what stays behind it.
  Rows of records: each of k cells.
  The chain in memory: its outputs, what is looked up in them.
  Package watch: the window of a branch.
-/
import Derived.Test.YtffgpepngcnjeabMaa
import Derived.Deep.QuietTactic
import Derived.BigQuiet
import Derived.WalkSmall
import Derived.Deep.AppendLies
namespace Go.Proofs.Ytffgpepngcnjeab
open Go.RowKit
def inL (xs : List InD) : List Int := xs.flatMap fun x => [x.id, x.pos]
def outL (ys : List (Int × Int)) : List Int := ys.flatMap fun y => [y.1, y.2]
def idL (t : Int) (xs : List InD) (ys : List (Int × Int)) : List Int := [t, (xs.length : Int)] ++ inL xs ++ [(ys.length : Int)] ++ outL ys
def idZ (t : Int) (xs : List InD) (ys : List (Int × Int)) : Int := if rTx t xs ys = true then Mk.mixL 1 (idL t xs ys) else 0
theorem inL_snoc (xs : List InD) (k : Nat) (h : k < xs.length) : inL (xs.take (k + 1)) = inL (xs.take k) ++ [(xs.getD k dIn).id, (xs.getD k dIn).pos] := by
  unfold inL
  rw [List.take_succ_eq_append_getElem h, List.flatMap_append]
  simp [List.getD, h]
theorem outL_snoc (ys : List (Int × Int)) (k : Nat) (h : k < ys.length) : outL (ys.take (k + 1)) = outL (ys.take k) ++ [(ys.getD k (0, 0)).1, (ys.getD k (0, 0)).2] := by
  unfold outL
  rw [List.take_succ_eq_append_getElem h, List.flatMap_append]
  simp [List.getD, h]
theorem mixIn_snoc (h : Int) (xs : List InD) (k : Nat) (hk : k < xs.length) : Mk.mixL h (inL (xs.take (k + 1))) = Mk.mx (Mk.mx (Mk.mixL h (inL (xs.take k))) (xs.getD k dIn).id) (xs.getD k dIn).pos := by
  rw [inL_snoc xs k hk, Mk.mixL_append]; rfl
theorem mixOut_snoc (h : Int) (ys : List (Int × Int)) (k : Nat) (hk : k < ys.length) : Mk.mixL h (outL (ys.take (k + 1))) = Mk.mx (Mk.mx (Mk.mixL h (outL (ys.take k))) (ys.getD k (0, 0)).1) (ys.getD k (0, 0)).2 := by
  rw [outL_snoc ys k hk, Mk.mixL_append]; rfl
theorem rTx_parts {t : Int} {xs : List InD} {ys : List (Int × Int)} (h : rTx t xs ys = true) :
    (0 ≤ t ∧ t ≤ 1099511627776) ∧ xs.length ≤ 10 ∧ (∀ j, j < xs.length → rIn (xs.getD j dIn) = true) ∧ (1 ≤ ys.length ∧ ys.length ≤ 8) ∧ (∀ j, j < ys.length → rOut (ys.getD j (0, 0)) = true) := by
  simp only [rTx, rIns, rOuts, Bool.and_eq_true, decide_eq_true_iff, List.all_eq_true] at h
  obtain ⟨h1, ⟨h2, h3⟩, h4, h5⟩ := h
  refine ⟨h1, h2, fun j hj => ?_, h4, fun j hj => ?_⟩
  · have := h3 _ (List.getElem_mem hj)
    simpa [List.getD, hj] using this
  · have := h5 _ (List.getElem_mem hj)
    simpa [List.getD, hj] using this
theorem rIn_bd {x : InD} (h : rIn x = true) : (0 ≤ x.id ∧ x.id < 99991) ∧ (0 ≤ x.pos ∧ x.pos < 8) := by
  simp only [rIn, Bool.and_eq_true, decide_eq_true_iff] at h
  exact ⟨(Mk.isM_iff _).1 h.1, h.2.1⟩
theorem rOut_bd {y : Int × Int} (h : rOut y = true) : (0 ≤ y.1 ∧ y.1 < 99991) ∧ (10 ≤ y.2 ∧ y.2 ≤ 1099511627776) := by
  simp only [rOut, Bool.and_eq_true, decide_eq_true_iff] at h
  exact ⟨(Mk.isM_iff _).1 h.1, h.2⟩
theorem idL_split (t : Int) (xs : List InD) (ys : List (Int × Int)) : Mk.mixL 1 (idL t xs ys) = Mk.mixL (Mk.mx (Mk.mixL (Mk.mx (Mk.mx 1 t) (xs.length : Int)) (inL xs)) (ys.length : Int)) (outL ys) := by
  unfold idL
  rw [Mk.mixL_append, Mk.mixL_append, Mk.mixL_append]
  rfl
set_option maxRecDepth 100000 in
set_option maxHeartbeats 400000 in
theorem txId_no (t : Int) (ai : Option Addr) (n c : Nat) (ap : Option Addr) (m d : Nat) (xs : List InD) (ys : List (Int × Int)) (w : World) (hx : InsAt w ai xs) (hn : xs.length = n) (hy : OutsAt w ap ys) (hm : ys.length = m) (hr : rTx t xs ys = false) :
    Calls Try.prog 52 #[.agg #[.int .i64 t, .slice ai n c, .slice ap m d]] w fun e w' => e = .returned (.int .i64 0) ∧ Below w.heap.size w w' := by
  have HN : Hid (xs.length = n) := hn
  have HM : Hid (ys.length = m) := hm
  have HX : Hid (InsAt w ai xs) := hx
  have HY : Hid (OutsAt w ap ys) := hy
  clear hn hm hx hy
  have bl : ∀ o, Below w.heap.size w (w.alloc o) := fun o => (Below.refl _ _).alloc (Nat.le_refl _) _
  have HB : Hid _ := bl
  clear bl
  go_enter Try.func52, Try.ntmps52
  go_wp2_with fail
  refine (rightShape_any _ _ _ _ _ _ _ xs ys _ (HX.out.grown (HB.out _)) HN.out (HY.out.grown (HB.out _)) HM.out).mono ?_
  rintro e w1 ⟨rfl, hb1⟩
  rw [hr]
  go_wp2
  go_ret
  exact ⟨rfl, below_blk (HB.out _) hb1⟩
set_option maxRecDepth 100000 in
set_option maxHeartbeats 1000000 in
theorem txId_yes (t : Int) (ai : Option Addr) (n c : Nat) (ap : Option Addr) (m d : Nat) (xs : List InD) (ys : List (Int × Int)) (w : World) (hx : InsAt w ai xs) (hn : xs.length = n) (hy : OutsAt w ap ys) (hm : ys.length = m) (hr : rTx t xs ys = true) :
    Calls Try.prog 52 #[.agg #[.int .i64 t, .slice ai n c, .slice ap m d]] w fun e w' => e = .returned (.int .i64 (Mk.mixL 1 (idL t xs ys))) ∧ Below w.heap.size w w' := by
  obtain ⟨ht, hn10, hin, hm8, hout⟩ := rTx_parts hr
  rw [hn] at hn10
  rw [hm] at hm8
  have HN : Hid (xs.length = n) := hn
  have HM : Hid (ys.length = m) := hm
  have HX : Hid (InsAt w ai xs) := hx
  have HY : Hid (OutsAt w ap ys) := hy
  have HI : Hid _ := hin
  have HO : Hid _ := hout
  clear hn hm hx hy hin hout
  have bl : ∀ o, Below w.heap.size w (w.alloc o) := fun o => (Below.refl _ _).alloc (Nat.le_refl _) _
  have HB : Hid _ := bl
  clear bl
  have HE : Hid _ := idL_split t xs ys
  rw [HN.out, HM.out] at HE
  have b1 := Mk.mx_bd 1 t
  have b2 := Mk.mx_bd (Mk.mx 1 t) (n : Int)
  go_enter Try.func52, Try.ntmps52
  go_wp2_with fail
  refine (rightShape_any _ _ _ _ _ _ _ xs ys _ (HX.out.grown (HB.out _)) HN.out (HY.out.grown (HB.out _)) HM.out).mono ?_
  rintro e w1 ⟨rfl, hb1⟩
  rw [hr]
  have hw1 := below_blk (HB.out _) hb1
  obtain ⟨cc, _⟩ := bcell hb1
  go_wp2_with (go_at_call 80; refine (mix_any _ _ _ (by omega) (by omega) (by omega) (by omega)).mono ?_; rintro e w' ⟨rfl, rfl⟩)
  clear cc
  generalize hh0 : Mk.mx (Mk.mx 1 t) (n : Int) = h0 at *
  clear b1
  go_loopw [3, 22] (fun v i wr => ∃ k : Nat, k ≤ n ∧ i = .int .i64 k ∧ v = .int .i64 (Mk.mixL h0 (inL (xs.take k))) ∧ Below w1.heap.size w1 wr) (fun _ i _ => n - (intOf i).toNat)
  case atStart => exact ⟨0, Nat.zero_le _, rfl, rfl, Below.refl _ _⟩
  case round =>
    obtain ⟨k, hk, rfl, rfl, hbl⟩ := hrel
    have hsz := hbl.size
    have hw := below_blk hw1 hbl
    have hmb := Mk.mixL_bd h0 (inL (xs.take k)) b2.1 b2.2
    by_cases hlt : k < n
    · rcases HX.out with hnil | ⟨b, off, rfl, hrow⟩
      · have := HN.out; rw [hnil] at this; simp at this; omega
      obtain ⟨⟨c0, c1, c2⟩, _⟩ := (hrow.grown hw) k (by rw [HN.out]; exact hlt)
      have HS : Hid _ := mixIn_snoc h0 xs k (by rw [HN.out]; exact hlt)
      have hb := rIn_bd (HI.out k (by rw [HN.out]; exact hlt))
      clear hrow
      generalize xs.getD k dIn = y at c0 c1 c2 HS hb
      obtain ⟨yid, ypos, yao, yn, yc, yl⟩ := y
      simp only at c0 c1 c2 hb
      generalize Mk.mixL h0 (inL (xs.take k)) = hh at *
      have bb := Mk.mx_bd hh yid
      go_wp2_with (go_at_call 80; refine (mix_any _ _ _ (by omega) (by omega) (by omega) (by omega)).mono ?_; rintro e w' ⟨rfl, rfl⟩)
      go_roundw
      case rel => exact ⟨k + 1, by omega, by go_num, by rw [HS.out], hbl.alloc hsz _⟩
      case measure => simp [intOf]; omega
    · have hkn : k = n := by omega
      subst hkn
      have HT : Hid (inL (xs.take k) = inL xs) := by show _ = _; rw [List.take_of_length_le (by rw [HN.out]; omega)]
      rw [HT.out] at hmb ⊢
      generalize hh1 : Mk.mixL h0 (inL xs) = h1 at *
      have b3 := Mk.mx_bd h1 (m : Int)
      have hbx := hb1.trans (hbl.mono hb1.size)
      obtain ⟨cc, _⟩ := bcell hbx
      clear hlt
      go_wp2_with (go_at_call 80; refine (mix_any _ _ _ (by omega) (by omega) (by omega) (by omega)).mono ?_; rintro e w' ⟨rfl, rfl⟩)
      clear cc
      generalize hh2 : Mk.mx h1 (m : Int) = h2 at *
      go_loopw [3, 43] (fun v i ws => ∃ j : Nat, j ≤ m ∧ i = .int .i64 j ∧ v = .int .i64 (Mk.mixL h2 (outL (ys.take j))) ∧ Below wr.heap.size wr ws) (fun _ i _ => m - (intOf i).toNat)
      case atStart => exact ⟨0, Nat.zero_le _, rfl, rfl, Below.refl _ _⟩
      case round =>
        obtain ⟨j, hj, rfl, rfl, hbl2⟩ := hrel
        have hsz2 := hbl2.size
        have hv := below_blk hw hbl2
        have hmb2 := Mk.mixL_bd h2 (outL (ys.take j)) b3.1 b3.2
        by_cases hjt : j < m
        · rcases HY.out with hnil | ⟨b, off, rfl, hrow⟩
          · have := HM.out; rw [hnil] at this; simp at this; omega
          obtain ⟨c0, c1⟩ := (hrow.grown hv) j (by rw [HM.out]; exact hjt)
          have HS : Hid _ := mixOut_snoc h2 ys j (by rw [HM.out]; exact hjt)
          have hb := rOut_bd (HO.out j (by rw [HM.out]; exact hjt))
          clear hrow
          generalize ys.getD j (0, 0) = y at c0 c1 HS hb
          obtain ⟨ya, yv⟩ := y
          simp only at c0 c1 hb
          generalize Mk.mixL h2 (outL (ys.take j)) = hh at *
          have bb := Mk.mx_bd hh ya
          go_wp2_with (go_at_call 80; refine (mix_any _ _ _ (by omega) (by omega) (by omega) (by omega)).mono ?_; rintro e w' ⟨rfl, rfl⟩)
          go_roundw
          case rel => exact ⟨j + 1, by omega, by go_num, by rw [HS.out], hbl2.alloc hsz2 _⟩
          case measure => simp [intOf]; omega
        · go_wp2
          go_ret
          refine ⟨ret_int ?_, hv⟩
          rw [HE.out, List.take_of_length_le (by rw [HM.out]; omega)]
theorem txId_any (t : Int) (ai : Option Addr) (n c : Nat) (ap : Option Addr) (m d : Nat) (xs : List InD) (ys : List (Int × Int)) (w : World) (hx : InsAt w ai xs) (hn : xs.length = n) (hy : OutsAt w ap ys) (hm : ys.length = m) :
    Calls Try.prog 52 #[.agg #[.int .i64 t, .slice ai n c, .slice ap m d]] w fun e w' => e = .returned (.int .i64 (idZ t xs ys)) ∧ Below w.heap.size w w' := by
  unfold idZ
  cases hr : rTx t xs ys
  · rw [if_neg (by simp)]
    exact txId_no t ai n c ap m d xs ys w hx hn hy hm hr
  · rw [if_pos rfl]
    exact txId_yes t ai n c ap m d xs ys w hx hn hy hm hr
end Go.Proofs.Ytffgpepngcnjeab

namespace Go.Proofs.Ytffgpepngcnjeab
open Go.RowKit
end Go.Proofs.Ytffgpepngcnjeab

namespace Go.Proofs.Ytffgpepngcnjeab
open Go.RowKit
theorem outL_len (ys : List (Int × Int)) : (outL ys).length = 2 * ys.length := by
  induction ys with
  | nil => rfl
  | cons x r ih => simp only [outL, List.flatMap_cons, List.length_append, List.length_cons] at ih ⊢; simp only [List.length_nil]; omega
theorem cell_move {w w2 : World} {B : Nat} (h : Below B w w2) {b o : Nat} {v : Value} (hc : w.cell? ⟨b, o, none⟩ = some v) (hb : b < B) : w2.cell? ⟨b, o, none⟩ = some v :=
  (h.cell (p := ⟨b, o, none⟩) hb).trans hc
end Go.Proofs.Ytffgpepngcnjeab

namespace Go.Proofs.Ytffgpepngcnjeab
open Go.RowKit
theorem run_copy_wide (P : Program) (w : World) (dT sT ty elem : TypeId) (g o dLen dCap : Nat) (a : Addr) (sLen sCap : Nat) (cur : Array Value) (t : TypeId) (cs : List Value) (sz : Nat)
    (hu : P.underlying dT = some (.slice elem)) (hs : (P.info? elem).map (·.size) = some sz)
    (hg : w.heap[g]? = some (.cells cur t (0, 0))) (hn : cs.length = Nat.min sLen dLen * sz)
    (hsrc : ∀ j v, cs[j]? = some v → w.cell? (a.add j) = some v) (hfit : o + cs.length ≤ cur.size) (h1 : ∀ v ∈ cs, v.oneCell' = true) :
    (Builtin.copy_ #[dT, sT] ty #[.slice (some ⟨g, o, none⟩) dLen dCap, .slice (some a) sLen sCap]).run P w =
      .ok (goInt (Nat.min sLen dLen : Nat)) (w.setRow g (cur.toList.take o ++ cs ++ cur.toList.drop (o + cs.length)).toArray) := by
  have hl := run_loadCells_list (P := P) w a cs hsrc
  have hst := run_storeCells_at P g o t cs 0 cur w hg (by simpa using hfit) h1
  cases hq : P.info? elem with
  | none => simp [hq] at hs
  | some i =>
    have hi : i.size = sz := by simpa [hq] using hs
    have hn' : min sLen dLen * sz = cs.length := hn.symm
    simp [Builtin.copy_, run_underlying hu, Builtin.lenOf, Builtin.firstCells, sizeOf, typeInfo, hq, hi, hn', hl, hst]
theorem info68 : (Try.prog.info? 68).map (fun i => (i.zero, i.size, i.bytes)) = some (some (.agg #[.int .i64 0, .int .i64 0]), 2, 16) := by kernel_rfl
theorem sizeInfo56 : Option.map (fun x : TypeInfo => x.size) (Try.prog.info? 68) = some 2 := by kernel_rfl
theorem outL_get (ys : List (Int × Int)) : ∀ j, j < ys.length → (outL ys).getD (j * 2) 0 = (ys.getD j (0, 0)).1 ∧ (outL ys).getD (j * 2 + 1) 0 = (ys.getD j (0, 0)).2 := by
  induction ys with
  | nil => intro j hj; simp at hj
  | cons y r ih =>
    intro j hj
    cases j with
    | zero => exact ⟨rfl, rfl⟩
    | succ j =>
      have := ih j (by simpa using hj)
      have e1 : (j + 1) * 2 = j * 2 + 2 := by omega
      rw [e1]
      exact this
theorem row_of_outs {w : World} {b off : Nat} {ys : List (Int × Int)} (h : OutsRow w b off ys) : Row w b off (outL ys) := by
  intro j hj
  have hl := outL_len ys
  have hj2 : j / 2 < ys.length := by omega
  have g := outL_get ys (j / 2) hj2
  have c := h (j / 2) hj2
  by_cases e : j % 2 = 0
  · have ej : j / 2 * 2 = j := by omega
    rw [ej] at g c
    rw [g.1]
    exact c.1
  · have ej : j / 2 * 2 + 1 = j := by omega
    rw [ej] at g
    have c2 := c.2
    rw [Nat.add_assoc, ej] at c2
    rw [g.2]
    exact c2
theorem ints_of_outs {w : World} {ao : Option Addr} {ys : List (Int × Int)} (h : OutsAt w ao ys) : IntsAt w ao (outL ys) := by
  rcases h with rfl | ⟨b, off, rfl, hr⟩
  · exact Or.inl rfl
  · exact Or.inr ⟨b, off, rfl, row_of_outs hr⟩
theorem OutsRow.last {w : World} {b n : Nat} {ys : List (Int × Int)} {y : Int × Int} (h : OutsRow w b 0 (ys ++ [y])) (hn : ys.length = n) : OutCells w b (n * 2) y := by
  have := h n (by simp [hn])
  rw [Nat.zero_add] at this
  subst hn
  simpa [List.getD] using this
end Go.Proofs.Ytffgpepngcnjeab

namespace Go.Proofs.Ytffgpepngcnjeab
open Go.RowKit
theorem info85 : (Try.prog.info? 85).map (fun i => (i.zero, i.size, i.bytes)) = some (some (.agg #[.int .i64 0, .int .i64 0, .slice none 0 0]), 3, 40) := by kernel_rfl
/-- the input x as it is handed in: its seal in a list of its own -/
def hIn (x : InD) (b : Nat) : InD := ⟨x.id, x.pos, some ⟨b, 0, none⟩, x.n, x.n + 1, x.l⟩
structure HIns (w : World) (BI : Nat) (xs : List InD) (k : Nat) (bs : List Nat) : Prop where
  len : bs.length = k
  done : ∀ j, j < k → InCells w BI (j * 3) (hIn (xs.getD j dIn) (bs.getD j 0)) ∧ Row w (bs.getD j 0) 0 ((xs.getD j dIn).l ++ [-5]) ∧ BI < bs.getD j 0
structure Room (w : World) (BI N : Nat) : Prop where
  here : ∀ j, j < N → ∃ v, w.cell? ⟨BI, j, none⟩ = some v
  free : ∀ j, j < N → w.frozen? ⟨BI, j, none⟩ = false
theorem Room.below {w w' : World} {BI N B : Nat} (h : Room w BI N) (hb : Below B w w') (hB : BI < B) : Room w' BI N :=
  ⟨fun j hj => by obtain ⟨v, hv⟩ := h.here j hj; exact ⟨v, cell_move hb hv hB⟩, fun j hj => (hb.frozen (p := ⟨BI, j, none⟩) hB).trans (h.free j hj)⟩
theorem Room.set {w : World} {BI N : Nat} (h : Room w BI N) (a : Addr) (v : Value) : Room (w.setCell a v) BI N := by
  refine ⟨fun j hj => ?_, fun j hj => by rw [World.frozen?_setCell]; exact h.free j hj⟩
  obtain ⟨u, hu⟩ := h.here j hj
  by_cases e : a = ⟨BI, j, none⟩
  · subst e
    exact ⟨v, World.cell?_setCell_same _ _ _ hu⟩
  · exact ⟨u, by rw [World.cell?_setCell_other _ _ _ _ e]; exact hu⟩
theorem Room.drew {w : World} {BI N : Nat} (h : Room w BI N) : Room w.drew BI N := ⟨h.here, h.free⟩
/-- three cells written -/
def put3 (w : World) (b o : Nat) (x y z : Value) : World := ((w.setCell ⟨b, o, none⟩ x).setCell ⟨b, o + 1, none⟩ y).setCell ⟨b, o + 2, none⟩ z
theorem put3_cells {w : World} {b o : Nat} {x y z : Value} (h0 : ∃ v, w.cell? ⟨b, o, none⟩ = some v) (h1 : ∃ v, w.cell? ⟨b, o + 1, none⟩ = some v) (h2 : ∃ v, w.cell? ⟨b, o + 2, none⟩ = some v) :
    (put3 w b o x y z).cell? ⟨b, o, none⟩ = some x ∧ (put3 w b o x y z).cell? ⟨b, o + 1, none⟩ = some y ∧ (put3 w b o x y z).cell? ⟨b, o + 2, none⟩ = some z := by
  obtain ⟨v0, h0⟩ := h0
  obtain ⟨v1, h1⟩ := h1
  obtain ⟨v2, h2⟩ := h2
  have ne : ∀ i j : Nat, i ≠ j → (⟨b, o + i, none⟩ : Addr) ≠ ⟨b, o + j, none⟩ := fun i j h e => h (by have := congrArg Addr.off e; simp only at this; omega)
  have n01 := ne 0 1 (by decide)
  have n02 := ne 0 2 (by decide)
  have n12 := ne 1 2 (by decide)
  simp only [Nat.add_zero] at n01 n02
  unfold put3
  refine ⟨?_, ?_, ?_⟩
  · rw [World.cell?_setCell_other _ _ _ _ n02.symm, World.cell?_setCell_other _ _ _ _ n01.symm, World.cell?_setCell_same _ _ _ h0]
  · rw [World.cell?_setCell_other _ _ _ _ n12.symm]
    refine World.cell?_setCell_same _ _ _ (u := v1) ?_
    rw [World.cell?_setCell_other _ _ _ _ n01]
    exact h1
  · refine World.cell?_setCell_same _ _ _ (u := v2) ?_
    rw [World.cell?_setCell_other _ _ _ _ n12, World.cell?_setCell_other _ _ _ _ n02]
    exact h2
theorem put3_other {w : World} {b o : Nat} {x y z : Value} {a : Addr} (h : a.block ≠ b ∨ (a.off < o ∨ o + 3 ≤ a.off)) : (put3 w b o x y z).cell? a = w.cell? a := by
  have ne : ∀ i : Nat, i < 3 → (⟨b, o + i, none⟩ : Addr) ≠ a := by
    intro i hi e
    subst e
    simp only at h
    omega
  have n0 := ne 0 (by decide)
  simp only [Nat.add_zero] at n0
  unfold put3
  rw [World.cell?_setCell_other _ _ _ _ (ne 2 (by decide)), World.cell?_setCell_other _ _ _ _ (ne 1 (by decide)), World.cell?_setCell_other _ _ _ _ n0]
theorem put3_below {w W : World} {b o B : Nat} {x y z : Value} (h : Below B W w) (hb : B ≤ b) : Below B W (put3 w b o x y z) := ((h.setCell hb _).setCell hb _).setCell hb _
theorem HIns.below {w w' : World} {BI k : Nat} {xs : List InD} {bs : List Nat} (h : HIns w BI xs k bs) (hb : Below w.heap.size w w') : HIns w' BI xs k bs := by
  refine ⟨h.len, fun j hj => ?_⟩
  obtain ⟨h1, h2, h3⟩ := h.done j hj
  exact ⟨h1.below hb (cell_lt h1.c0), h2.grown hb, h3⟩
theorem HIns.step {w : World} {BI k n b : Nat} {xs : List InD} {bs : List Nat} (h : HIns w BI xs k bs) (hroom : Room w BI ((n + 1) * 3)) (hk : k < n) (hb : BI < b) (hr : Row w b 0 ((xs.getD k dIn).l ++ [-5])) :
    HIns (put3 w BI (k * 3) (.int .i64 (xs.getD k dIn).id) (.int .i64 (xs.getD k dIn).pos) (.slice (some ⟨b, 0, none⟩) (xs.getD k dIn).n ((xs.getD k dIn).n + 1))) BI xs (k + 1) (bs ++ [b]) := by
  refine ⟨by simp [h.len], fun j hj => ?_⟩
  by_cases e : j = k
  · subst e
    have eb : (bs ++ [b]).getD j 0 = b := by rw [← h.len]; simp [List.getD]
    rw [eb]
    obtain ⟨q0, q1, q2⟩ := put3_cells (x := .int .i64 (xs.getD j dIn).id) (y := .int .i64 (xs.getD j dIn).pos) (z := .slice (some ⟨b, 0, none⟩) (xs.getD j dIn).n ((xs.getD j dIn).n + 1)) (hroom.here (j * 3) (by omega)) (hroom.here (j * 3 + 1) (by omega)) (hroom.here (j * 3 + 2) (by omega))
    exact ⟨⟨q0, q1, q2⟩, fun i hi => (put3_other (Or.inl (by simp only; omega))).trans (hr i hi), hb⟩
  · have hj' : j < k := by omega
    have eb : (bs ++ [b]).getD j 0 = bs.getD j 0 := by simp only [List.getD]; rw [List.getElem?_append_left (by rw [h.len]; exact hj')]
    rw [eb]
    obtain ⟨h1, h2, h3⟩ := h.done j hj'
    refine ⟨⟨(put3_other (Or.inr (by simp only; omega))).trans h1.c0, (put3_other (Or.inr (by simp only; omega))).trans h1.c1, (put3_other (Or.inr (by simp only; omega))).trans h1.c2⟩, fun i hi => (put3_other (Or.inl (by simp only; omega))).trans (h2 i hi), h3⟩
theorem HIns.end {w : World} {BI k n : Nat} {xs : List InD} {bs : List Nat} {x y z : Value} (h : HIns w BI xs k bs) (hk : k = n) : HIns (put3 w BI (n * 3) x y z) BI xs k bs := by
  refine ⟨h.len, fun j hj => ?_⟩
  obtain ⟨h1, h2, h3⟩ := h.done j hj
  exact ⟨⟨(put3_other (Or.inr (by simp only; omega))).trans h1.c0, (put3_other (Or.inr (by simp only; omega))).trans h1.c1, (put3_other (Or.inr (by simp only; omega))).trans h1.c2⟩, fun i hi => (put3_other (Or.inl (by simp only; omega))).trans (h2 i hi), h3⟩
theorem HIns.drew {w : World} {BI k : Nat} {xs : List InD} {bs : List Nat} (h : HIns w BI xs k bs) : HIns w.drew BI xs k bs :=
  ⟨h.len, fun j hj => ⟨⟨(h.done j hj).1.c0, (h.done j hj).1.c1, (h.done j hj).1.c2⟩, (h.done j hj).2.1, (h.done j hj).2.2⟩⟩
/-- what handedTx leaves: the inputs in the block BI, the outputs in BO -/
structure HTx (w : World) (BI BO : Nat) (xs : List InD) (ys : List (Int × Int)) : Prop where
  ins : ∃ bs, HIns w BI xs xs.length bs
  last : w.cell? ⟨BI, xs.length * 3, none⟩ = some (.int .i64 (-5)) ∧ w.cell? ⟨BI, xs.length * 3 + 1, none⟩ = some (.int .i64 (-5)) ∧ w.cell? ⟨BI, xs.length * 3 + 2, none⟩ = some (.slice none 0 0)
  outs : OutsRow w BO 0 (ys ++ [(-5, -5)])
theorem HTx.drew {w : World} {BI BO : Nat} {xs : List InD} {ys : List (Int × Int)} (h : HTx w BI BO xs ys) : HTx w.drew BI BO xs ys := by
  obtain ⟨⟨bs, h1⟩, h2, h3⟩ := h
  exact ⟨⟨bs, h1.drew⟩, h2, h3⟩
theorem HTx.grown {w w' : World} {BI BO : Nat} {xs : List InD} {ys : List (Int × Int)} (h : HTx w BI BO xs ys) (hb : Below w.heap.size w w') : HTx w' BI BO xs ys := by
  obtain ⟨⟨bs, h1⟩, ⟨l0, l1, l2⟩, h3⟩ := h
  exact ⟨⟨bs, h1.below hb⟩, ⟨cell_move hb l0 (cell_lt l0), cell_move hb l1 (cell_lt l1), cell_move hb l2 (cell_lt l2)⟩, h3.grown hb⟩
/-- a struct of three cells, in the block ahead of the inputs', written -/
theorem HTx.put {w : World} {X BO : Nat} {xs : List InD} {ys : List (Int × Int)} {x y z : Value} (h : HTx w (X + 1 + 1) BO xs ys) (hBO : X + 1 + 1 < BO) : HTx (put3 w (X + 1) 0 x y z) (X + 1 + 1) BO xs ys := by
  obtain ⟨⟨bs, h1⟩, ⟨l0, l1, l2⟩, h3⟩ := h
  refine ⟨⟨bs, h1.len, fun j hj => ?_⟩, ⟨(put3_other (Or.inl (by simp only; omega))).trans l0, (put3_other (Or.inl (by simp only; omega))).trans l1, (put3_other (Or.inl (by simp only; omega))).trans l2⟩, fun j hj => ?_⟩
  · obtain ⟨a, b, c⟩ := h1.done j hj
    exact ⟨⟨(put3_other (Or.inl (by simp only; omega))).trans a.c0, (put3_other (Or.inl (by simp only; omega))).trans a.c1, (put3_other (Or.inl (by simp only; omega))).trans a.c2⟩, fun i hi => (put3_other (Or.inl (by simp only; omega))).trans (b i hi), c⟩
  · exact ⟨(put3_other (Or.inl (by simp only; omega))).trans (h3 j hj).1, (put3_other (Or.inl (by simp only; omega))).trans (h3 j hj).2⟩
theorem htx_start (w : World) (t : Int) (ai ap : Option Addr) (n c m d : Nat) :
    ∃ W2, Hid (W2 = (w.alloc (.cells #[.int .i64 t, .slice ai n c, .slice ap m d] 31)).alloc (.cells #[.int .i64 0, .slice none 0 0, .slice none 0 0] 31)) ∧ W2.heap.size = w.heap.size + 1 + 1 ∧ Below w.heap.size w W2 ∧
      (∀ wr, Below (w.heap.size + 1 + 1) W2 wr → wr.cell? ⟨w.heap.size, 0, none⟩ = some (.int .i64 t) ∧ wr.cell? ⟨w.heap.size, 1, none⟩ = some (.slice ai n c) ∧ wr.cell? ⟨w.heap.size, 2, none⟩ = some (.slice ap m d)) ∧
      (∀ wr, Below (w.heap.size + 1 + 1) W2 wr → (wr.cell? ⟨w.heap.size + 1, 0, none⟩ = some (.int .i64 0) ∧ wr.cell? ⟨w.heap.size + 1, 1, none⟩ = some (.slice none 0 0) ∧ wr.cell? ⟨w.heap.size + 1, 2, none⟩ = some (.slice none 0 0)) ∧
        wr.frozen? ⟨w.heap.size + 1, 0, none⟩ = false ∧ wr.frozen? ⟨w.heap.size + 1, 1, none⟩ = false ∧ wr.frozen? ⟨w.heap.size + 1, 2, none⟩ = false) := by
  refine ⟨_, rfl, by simp, ((Below.refl _ _).alloc (Nat.le_refl _) _).alloc (by simp) _, fun wr h => ?_, fun wr h => ?_⟩
  · refine ⟨cell_move h ?_ (by omega), cell_move h ?_ (by omega), cell_move h ?_ (by omega)⟩
    all_goals
      rw [World.cell?_alloc_past _ _ _ (by simp), World.cell?_alloc_new]
      rfl
  · refine ⟨⟨cell_move h ?_ (by omega), cell_move h ?_ (by omega), cell_move h ?_ (by omega)⟩, (h.frozen (p := ⟨w.heap.size + 1, 0, none⟩) (by simp only; omega)).trans ?_, (h.frozen (p := ⟨w.heap.size + 1, 1, none⟩) (by simp only; omega)).trans ?_, (h.frozen (p := ⟨w.heap.size + 1, 2, none⟩) (by simp only; omega)).trans ?_⟩
    · rw [World.cell?_alloc_at _ _ _ _ (by simp)]; rfl
    · rw [World.cell?_alloc_at _ _ _ _ (by simp)]; rfl
    · rw [World.cell?_alloc_at _ _ _ _ (by simp)]; rfl
    · exact World.frozen?_alloc_at _ _ _ _ (by simp)
    · exact World.frozen?_alloc_at _ _ _ _ (by simp)
    · exact World.frozen?_alloc_at _ _ _ _ (by simp)
end Go.Proofs.Ytffgpepngcnjeab

namespace Go.Proofs.Ytffgpepngcnjeab
open Go.RowKit
theorem pk_neg (c n : Int) (h : c < 0) : -(c + 1).tmod n = Mk.pk c n := by
  unfold Mk.pk
  rw [if_pos h, ← Int.neg_tmod, Int.tmod_eq_emod_of_nonneg (by omega)]
theorem pk_pos (c n : Int) (h : 0 ≤ c) : c % n = Mk.pk c n := by
  unfold Mk.pk
  rw [if_neg (by omega)]
set_option maxRecDepth 100000 in
set_option maxHeartbeats 400000 in
theorem pick_any (c n : Int) (w : World) (h1 : 1 ≤ n) (h2 : n ≤ 9223372036854775807) (c1 : -9223372036854775808 ≤ c) (c2 : c ≤ 9223372036854775807) :
    Calls Try.prog 7 #[.int .i64 c, .int .i64 n] w fun e w' => e = .returned (.int .i64 (Mk.pk c n)) ∧ w = w' := by
  by_cases h : c < 0
  · go_enter Try.func7, Try.ntmps7
    go_wp2
    go_ret
    exact ⟨ret_int (pk_neg c n h), rfl⟩
  · go_enter Try.func7, Try.ntmps7
    go_wp2
    go_ret
    exact ⟨ret_int (pk_pos c n (by omega)), rfl⟩
end Go.Proofs.Ytffgpepngcnjeab

namespace Go.Proofs.Ytffgpepngcnjeab
open Go.RowKit
theorem gb_trans {a b c : World} {row : Option Nat} (h : a.grownBy b row) (k : b.grownBy c row) : a.grownBy c row :=
  ⟨k.os.trans h.os, k.tape.trans h.tape, k.output.trans h.output, Nat.le_trans h.size k.size, fun i hi hne => (k.block i (Nat.lt_of_lt_of_le hi h.size) hne).trans (h.block i hi hne)⟩
theorem gb_below {w w' : World} (h : Below w.heap.size w w') (row : Option Nat) : w.grownBy w' row := ⟨h.os, h.tape, h.output, h.size, fun k hk _ => h.block k hk⟩
theorem gb_alloc (w : World) (o : Obj) (row : Option Nat) : w.grownBy (w.alloc o) row := gb_below ((Below.refl _ _).alloc (Nat.le_refl _) _) row
theorem gb_drew (w : World) (row : Option Nat) : w.grownBy w.drew row := ⟨rfl, rfl, rfl, Nat.le_refl _, fun _ _ _ => rfl⟩
theorem gb_set (w : World) (g o : Nat) (v : Value) : w.grownBy (w.setCell ⟨g, o, none⟩ v) (some g) :=
  ⟨rfl, rfl, rfl, by simp, fun k _ hne => Below.heap_setCell w ⟨g, o, none⟩ v k (fun e => hne (by rw [e]))⟩
theorem gb_to_below {w w' : World} {row : Option Nat} {B : Nat} (h : w.grownBy w' row) (hB : B ≤ w.heap.size) (hr : ∀ k, row = some k → B ≤ k) : Below B w w' := Below.grown (Below.refl _ _) h hB hr
theorem gb_cell {w w' : World} {row : Option Nat} (h : w.grownBy w' row) {b o : Nat} {v : Value} (hc : w.cell? ⟨b, o, none⟩ = some v) (hne : some b ≠ row) : w'.cell? ⟨b, o, none⟩ = some v := h.cell (a := ⟨b, o, none⟩) hc hne
theorem gb_frozen {w w' : World} {row : Option Nat} (h : w.grownBy w' row) {b o : Nat} (hb : b < w.heap.size) (hne : some b ≠ row) : w'.frozen? ⟨b, o, none⟩ = w.frozen? ⟨b, o, none⟩ :=
  World.frozen?_of_block (h.block b hb hne)
theorem gb_row {w w' : World} {row : Option Nat} (h : w.grownBy w' row) {b off : Nat} {l : List Int} (hr : Row w b off l) (hne : some b ≠ row) : Row w' b off l :=
  fun j hj => gb_cell h (hr j hj) hne
/-- the list at ao does not lie in the block row -/
def Off (ao : Option Addr) (row : Option Nat) : Prop := ∀ a, ao = some a → some a.block ≠ row
theorem gb_ints {w w' : World} {row : Option Nat} (h : w.grownBy w' row) {ao : Option Addr} {l : List Int} (hr : IntsAt w ao l) (hne : Off ao row) : IntsAt w' ao l := by
  rcases hr with hr | ⟨b, off, rfl, hr⟩
  · exact Or.inl hr
  · exact Or.inr ⟨b, off, rfl, gb_row h hr (hne _ rfl)⟩
theorem gb_ok {w w' : World} {row : Option Nat} (h : w.grownBy w' row) {x : InD} (hx : InOk w x) (hne : Off x.ao row) : InOk w' x := ⟨gb_ints h hx.lies hne, hx.len, hx.sz, hx.nil⟩
theorem gb_outs {w w' : World} {row : Option Nat} (h : w.grownBy w' row) {b off : Nat} {ys : List (Int × Int)} (hr : OutsRow w b off ys) (hne : some b ≠ row) : OutsRow w' b off ys :=
  fun j hj => ⟨gb_cell h (hr j hj).1 hne, gb_cell h (hr j hj).2 hne⟩
def inCs (xs : List InD) : List Value := xs.flatMap fun x => [.int .i64 x.id, .int .i64 x.pos, .slice x.ao x.n x.c]
def outCs (ys : List (Int × Int)) : List Value := ys.flatMap fun y => [.int .i64 y.1, .int .i64 y.2]
def OwnIns (w : World) (base : Nat) (v : Value) (xs : List InD) : Prop := w.ownsRow base 85 3 v xs.length (inCs xs)
def OwnOuts (w : World) (base : Nat) (v : Value) (ys : List (Int × Int)) : Prop := w.ownsRow base 68 2 v ys.length (outCs ys)
theorem inCs_get (xs : List InD) : ∀ j, j < xs.length → (inCs xs)[j * 3]? = some (.int .i64 (xs.getD j dIn).id) ∧ (inCs xs)[j * 3 + 1]? = some (.int .i64 (xs.getD j dIn).pos) ∧ (inCs xs)[j * 3 + 2]? = some (.slice (xs.getD j dIn).ao (xs.getD j dIn).n (xs.getD j dIn).c) := by
  induction xs with
  | nil => intro j hj; simp at hj
  | cons y r ih =>
    intro j hj
    cases j with
    | zero => exact ⟨rfl, rfl, rfl⟩
    | succ j =>
      have := ih j (by simpa using hj)
      have e1 : (j + 1) * 3 = j * 3 + 3 := by omega
      rw [e1]
      exact this
theorem outCs_get (ys : List (Int × Int)) : ∀ j, j < ys.length → (outCs ys)[j * 2]? = some (.int .i64 (ys.getD j (0, 0)).1) ∧ (outCs ys)[j * 2 + 1]? = some (.int .i64 (ys.getD j (0, 0)).2) := by
  induction ys with
  | nil => intro j hj; simp at hj
  | cons y r ih =>
    intro j hj
    cases j with
    | zero => exact ⟨rfl, rfl⟩
    | succ j =>
      have := ih j (by simpa using hj)
      have e1 : (j + 1) * 2 = j * 2 + 2 := by omega
      rw [e1]
      exact this
/-- an owned row: its block, its cells, that they may be written -/
theorem owned_row {w : World} {base e size : Nat} {v : Value} {n : Nat} {cs : List Value} (h : w.ownsRow base e size v n cs) :
    (v = .slice none 0 0 ∧ n = 0) ∨ ∃ g c, v = .slice (some ⟨g, 0, none⟩) n c ∧ base ≤ g ∧ g < w.heap.size ∧ (∀ j, j < n * size → w.cell? ⟨g, j, none⟩ = cs[j]?) ∧ (∀ j, w.frozen? ⟨g, j, none⟩ = false) := by
  obtain ⟨h1, h | ⟨g, cap, cur, rfl, hb, hg, hn, _, hs, ht⟩⟩ := h
  · exact Or.inl h
  · refine Or.inr ⟨g, cap, rfl, hb, ?_, fun j hj => ?_, fun j => ?_⟩
    · apply Classical.byContradiction
      intro hc
      rw [Array.getElem?_eq_none (by omega)] at hg
      cases hg
    · rw [← ht, List.getElem?_take_of_lt hj]
      simp [World.cell?, hg]
    · simp [World.frozen?, hg]
theorem OwnIns.nil (w : World) (base : Nat) : OwnIns w base (.slice none 0 0) [] := World.ownsRow_nil _ _ _ _
theorem OwnOuts.nil (w : World) (base : Nat) : OwnOuts w base (.slice none 0 0) [] := World.ownsRow_nil _ _ _ _
theorem OwnIns.cells {w : World} {base : Nat} {v : Value} {xs : List InD} (h : OwnIns w base v xs) :
    (v = .slice none 0 0 ∧ xs = []) ∨ ∃ g c, v = .slice (some ⟨g, 0, none⟩) xs.length c ∧ base ≤ g ∧ g < w.heap.size ∧ (∀ j, j < xs.length → InCells w g (j * 3) (xs.getD j dIn)) ∧ (∀ j, w.frozen? ⟨g, j, none⟩ = false) := by
  rcases owned_row h with ⟨h1, h2⟩ | ⟨g, c, h1, h2, h3, h4, h5⟩
  · exact Or.inl ⟨h1, List.length_eq_zero_iff.1 h2⟩
  · refine Or.inr ⟨g, c, h1, h2, h3, fun j hj => ?_, h5⟩
    obtain ⟨a, b, d⟩ := inCs_get xs j hj
    exact ⟨(h4 (j * 3) (by omega)).trans a, (h4 (j * 3 + 1) (by omega)).trans b, (h4 (j * 3 + 2) (by omega)).trans d⟩
theorem OwnOuts.cells {w : World} {base : Nat} {v : Value} {ys : List (Int × Int)} (h : OwnOuts w base v ys) :
    (v = .slice none 0 0 ∧ ys = []) ∨ ∃ g c, v = .slice (some ⟨g, 0, none⟩) ys.length c ∧ base ≤ g ∧ g < w.heap.size ∧ OutsRow w g 0 ys ∧ (∀ j, w.frozen? ⟨g, j, none⟩ = false) := by
  rcases owned_row h with ⟨h1, h2⟩ | ⟨g, c, h1, h2, h3, h4, h5⟩
  · exact Or.inl ⟨h1, List.length_eq_zero_iff.1 h2⟩
  · refine Or.inr ⟨g, c, h1, h2, h3, fun j hj => ?_, h5⟩
    obtain ⟨a, b⟩ := outCs_get ys j hj
    rw [Nat.zero_add]
    exact ⟨(h4 (j * 2) (by omega)).trans a, (h4 (j * 2 + 1) (by omega)).trans b⟩
theorem owns_gb {w w' : World} {row : Option Nat} (h : w.grownBy w' row) {base e size : Nat} {v : Value} {n : Nat} {cs : List Value} (ho : w.ownsRow base e size v n cs) (hne : ∀ k, v.ownBlock = some k → some k ≠ row) : w'.ownsRow base e size v n cs := by
  obtain ⟨h1, h2 | ⟨g, cap, cur, rfl, hb, hg, hn⟩⟩ := ho
  · exact ⟨h1, Or.inl h2⟩
  · refine ⟨h1, Or.inr ⟨g, cap, cur, rfl, hb, ?_, hn⟩⟩
    have hlt : g < w.heap.size := by
      apply Classical.byContradiction
      intro hc
      rw [Array.getElem?_eq_none (by omega)] at hg
      cases hg
    exact (h.block g hlt (hne g rfl)).trans hg
theorem owns_blk {w : World} {base e size : Nat} {v : Value} {n : Nat} {cs : List Value} (ho : w.ownsRow base e size v n cs) : ∀ k, v.ownBlock = some k → base ≤ k ∧ k < w.heap.size := by
  intro k hk
  rcases owned_row ho with ⟨h1, _⟩ | ⟨g, c, h1, h2, h3, _⟩
  · subst h1; simp [Value.ownBlock] at hk
  · subst h1
    simp [Value.ownBlock] at hk
    subst hk
    exact ⟨h2, h3⟩
theorem one3 (a b : Int) (ao : Option Addr) (n c : Nat) : ∀ u ∈ [Value.int .i64 a, .int .i64 b, .slice ao n c], u.oneCell' = true := by
  intro u hu
  simp at hu
  rcases hu with rfl | rfl | rfl <;> rfl
theorem inCs_snoc (xs : List InD) (x : InD) : inCs xs ++ [.int .i64 x.id, .int .i64 x.pos, .slice x.ao x.n x.c] = inCs (xs ++ [x]) := by simp [inCs]
end Go.Proofs.Ytffgpepngcnjeab

namespace Go.Proofs.Ytffgpepngcnjeab
open Go.RowKit
def dV : Value := .bool false
/-- the values l lie from ⟨b, off⟩ on -/
def VRow (w : World) (b off : Nat) (l : List Value) : Prop := ∀ j, j < l.length → w.cell? ⟨b, off + j, none⟩ = some (l.getD j dV)
theorem VRow.lt {w : World} {b off : Nat} {l : List Value} (h : VRow w b off l) (hl : l ≠ []) : b < w.heap.size := cell_lt (h 0 (List.length_pos_iff.2 hl))
theorem VRow.below {w w' : World} {b off : Nat} {l : List Value} (h : VRow w b off l) {B : Nat} (hb : Below B w w') (hB : b < B) : VRow w' b off l :=
  fun j hj => (hb.cell (p := ⟨b, off + j, none⟩) hB).trans (h j hj)
theorem VRow.grown {w w' : World} {b off : Nat} {l : List Value} (h : VRow w b off l) (hb : Below w.heap.size w w') : VRow w' b off l := by
  by_cases hl : l = []
  · subst hl; intro j hj; simp at hj
  · exact h.below hb (h.lt hl)
theorem VRow.gb {w w' : World} {row : Option Nat} (hg : w.grownBy w' row) {b off : Nat} {l : List Value} (h : VRow w b off l) (hne : some b ≠ row) : VRow w' b off l :=
  fun j hj => gb_cell hg (h j hj) hne
theorem rec_get {α : Type} (f : α → List Value) (k : Nat) (hf : ∀ x, (f x).length = k) (d : α) (xs : List α) : ∀ j i, j < xs.length → i < k → (xs.flatMap f).getD (j * k + i) dV = (f (xs.getD j d)).getD i dV := by
  induction xs with
  | nil => intro j i hj; simp at hj
  | cons x r ih =>
    intro j i hj hi
    rw [List.flatMap_cons]
    cases j with
    | zero =>
      simp only [List.getD]
      rw [List.getElem?_append_left (by rw [hf]; omega)]
      simp
    | succ j =>
      have h := ih j i (by simpa using hj) hi
      simp only [List.getD] at h ⊢
      rw [List.getElem?_append_right (by rw [hf, Nat.succ_mul]; omega), hf, show (j + 1) * k + i - k = j * k + i by rw [Nat.succ_mul]; omega, h]
      simp
theorem rec_len {α : Type} (f : α → List Value) (k : Nat) (hf : ∀ x, (f x).length = k) (xs : List α) : (xs.flatMap f).length = xs.length * k := by
  induction xs with
  | nil => simp
  | cons x r ih => rw [List.flatMap_cons, List.length_append, ih, hf, List.length_cons, Nat.succ_mul]; omega
theorem rec_lt {k n j i : Nat} (hj : j < n) (hi : i < k) : j * k + i < n * k := by
  have := Nat.mul_le_mul_right k (show j + 1 ≤ n from hj)
  rw [Nat.succ_mul] at this
  omega
theorem rcell {α : Type} {f : α → List Value} {k : Nat} (hf : ∀ x, (f x).length = k) (d : α) {w : World} {b off : Nat} {xs : List α} (h : VRow w b off (xs.flatMap f)) (j : Nat) (hj : j < xs.length) (i : Nat) (hi : i < k) :
    w.cell? ⟨b, off + j * k + i, none⟩ = some ((f (xs.getD j d)).getD i dV) := by
  have := h _ (by rw [rec_len f k hf]; exact rec_lt hj hi)
  rw [rec_get f k hf d xs j i hj hi] at this
  rw [Nat.add_assoc]
  exact this
/-- the records xs lie where the slice at ao does -/
def RecAt {α : Type} (f : α → List Value) (w : World) (ao : Option Addr) (xs : List α) : Prop := xs = [] ∨ ∃ b off, ao = some ⟨b, off, none⟩ ∧ VRow w b off (xs.flatMap f)
theorem RecAt.grown {α : Type} {f : α → List Value} {w w' : World} {ao : Option Addr} {xs : List α} (h : RecAt f w ao xs) (hb : Below w.heap.size w w') : RecAt f w' ao xs := by
  rcases h with h | ⟨b, off, h, hr⟩
  · exact Or.inl h
  · exact Or.inr ⟨b, off, h, hr.grown hb⟩
theorem RecAt.gb {α : Type} {f : α → List Value} {w w' : World} {row : Option Nat} (hg : w.grownBy w' row) {ao : Option Addr} {xs : List α} (h : RecAt f w ao xs) (hne : Off ao row) : RecAt f w' ao xs := by
  rcases h with h | ⟨b, off, rfl, hr⟩
  · exact Or.inl h
  · exact Or.inr ⟨b, off, rfl, hr.gb hg (hne _ rfl)⟩
/-- the slice value v owns the records xs, in a block from base on -/
def OwnRec {α : Type} (f : α → List Value) (e k : Nat) (w : World) (base : Nat) (v : Value) (xs : List α) : Prop := w.ownsRow base e k v xs.length (xs.flatMap f)
theorem OwnRec.nil {α : Type} (f : α → List Value) (e k : Nat) (w : World) (base : Nat) : OwnRec f e k w base (.slice none 0 0) [] := World.ownsRow_nil _ _ _ _
theorem OwnRec.slice {α : Type} {f : α → List Value} {e k : Nat} (hf : ∀ x, (f x).length = k) {w : World} {base : Nat} {v : Value} {xs : List α} (h : OwnRec f e k w base v xs) :
    (v = .slice none 0 0 ∧ xs = []) ∨ ∃ g c, v = .slice (some ⟨g, 0, none⟩) xs.length c ∧ base ≤ g ∧ g < w.heap.size ∧ VRow w g 0 (xs.flatMap f) ∧ (∀ j, w.frozen? ⟨g, j, none⟩ = false) := by
  rcases owned_row h with ⟨h1, h2⟩ | ⟨g, c, h1, h2, h3, h4, h5⟩
  · exact Or.inl ⟨h1, List.length_eq_zero_iff.1 h2⟩
  · refine Or.inr ⟨g, c, h1, h2, h3, fun j hj => ?_, h5⟩
    rw [rec_len f k hf] at hj
    have hj' : j < (xs.flatMap f).length := by rw [rec_len f k hf]; exact hj
    rw [Nat.zero_add, h4 j hj]
    simp only [List.getD]
    rw [List.getElem?_eq_getElem hj', Option.getD_some]
theorem OwnRec.at {α : Type} {f : α → List Value} {e k : Nat} (hf : ∀ x, (f x).length = k) {w : World} {base : Nat} {v : Value} {xs : List α} (h : OwnRec f e k w base v xs) : ∃ ao c, v = .slice ao xs.length c ∧ RecAt f w ao xs := by
  rcases h.slice hf with ⟨rfl, rfl⟩ | ⟨g, c, rfl, _, _, hr, _⟩
  · exact ⟨none, 0, rfl, Or.inl rfl⟩
  · exact ⟨_, c, rfl, Or.inr ⟨g, 0, rfl, hr⟩⟩
theorem OwnRec.gb {α : Type} {f : α → List Value} {e k : Nat} {w w' : World} {row : Option Nat} (hg : w.grownBy w' row) {base : Nat} {v : Value} {xs : List α} (h : OwnRec f e k w base v xs) (hne : ∀ k, v.ownBlock = some k → some k ≠ row) : OwnRec f e k w' base v xs := owns_gb hg h hne
theorem OwnRec.grown {α : Type} {f : α → List Value} {e k : Nat} {w w' : World} {base : Nat} {v : Value} {xs : List α} (h : OwnRec f e k w base v xs) (hb : Below w.heap.size w w') : OwnRec f e k w' base v xs := h.gb (gb_below hb Option.none) (fun _ _ => by simp)
theorem OwnRec.blk {α : Type} {f : α → List Value} {e k : Nat} {w : World} {base : Nat} {v : Value} {xs : List α} (h : OwnRec f e k w base v xs) : ∀ k, v.ownBlock = some k → base ≤ k ∧ k < w.heap.size := owns_blk h
theorem OwnRec.alloc {α : Type} {f : α → List Value} {e k : Nat} {w : World} {base : Nat} {v : Value} {xs : List α} (h : OwnRec f e k w base v xs) (o : Obj) : OwnRec f e k (w.alloc o) base v xs := World.ownsRow.alloc h o
theorem vrow_src {W : World} {g : Nat} {l : List Value} (h : VRow W g 0 l) : ∀ j u, l[j]? = some u → W.cell? ((⟨g, 0, none⟩ : Addr).add j) = some u := by
  intro j u hj
  obtain ⟨hl, e⟩ := List.getElem?_eq_some_iff.1 hj
  have := h j hl
  simp only [List.getD, hj, Option.getD_some] at this
  rw [Go.WideShapes.add_plain]
  exact this
/-- append(xs, y), y in a row of its own -/
theorem wpList_appR {α : Type} {f : α → List Value} {e k : Nat} (sT bytes : Nat) (z : Value) (hu : Try.prog.underlying sT = some (.slice e)) (hinf : (Try.prog.info? e).map (fun i => (i.zero, i.size, i.bytes)) = some (some z, k, bytes)) (hzs : z.cells.size = k) (hk : 0 < k) (hf : ∀ x, (f x).length = k) (h1 : ∀ x, ∀ u ∈ f x, u.oneCell' = true)
    (W : World) {ops : Array Oper} {rest : List Oper} {o : Oper} {a : Act} {Q : Exit → Act → World → Prop} (hgd : o.guard = none) (s x : Operand)
    (ho : o.op = .call { callee := .builtin .append, args := #[s, x], argTypes := #[sT, sT] })
    (base g0 c : Nat) (v : Value) (xs : List α) (y : α) (hs : a.eval s = v) (hx : a.eval x = .slice (some ⟨g0, 0, none⟩) 1 c) (hown : OwnRec f e k W base v xs) (hc : VRow W g0 0 (f y)) (hbase : base ≤ W.heap.size) (hlen : xs.length + 1 ≤ maxLen) (hby : (xs.length + 1) * bytes ≤ 140737488355328)
    (h : ∀ g cap w', OwnRec f e k w' base (.slice (some ⟨g, 0, none⟩) (xs.length + 1) cap) (xs ++ [y]) → W.grownBy w' v.ownBlock → (v.ownBlock = some g ∨ W.heap.size ≤ g) → g < w'.heap.size → wpList Try.prog ops Q rest (a.put o.dst (.slice (some ⟨g, 0, none⟩) (xs.length + 1) cap)) w') :
    wpList Try.prog ops Q (o :: rest) a W := by
  obtain ⟨i0, hi, hz0, hz1, hz2⟩ := info_parts hinf
  refine wpList_append_lies _ hgd s x sT ho base e i0 z k bytes hu hi hz0 hz1 hz2 hzs hk v xs.length (xs.flatMap f) hs hown ⟨g0, 0, none⟩ 1 c (f y) hx (by rw [hf]; omega) (vrow_src hc) (h1 y) (by decide) hlen hby hbase W.heap.size rfl ?_
  intro g cap w' hown' hg hlies hlt
  refine h g cap w' ?_ hg (hlies.imp id fun e => by omega) hlt
  unfold OwnRec
  rw [List.length_append, List.flatMap_append]
  simpa using hown'
/-- the same, at a step of a region that draws its order -/
theorem step_appR {α : Type} {f : α → List Value} {e k : Nat} (sT bytes : Nat) (z : Value) (hu : Try.prog.underlying sT = some (.slice e)) (hinf : (Try.prog.info? e).map (fun i => (i.zero, i.size, i.bytes)) = some (some z, k, bytes)) (hzs : z.cells.size = k) (hk : 0 < k) (hf : ∀ x, (f x).length = k) (h1 : ∀ x, ∀ u ∈ f x, u.oneCell' = true)
    (W : World) {ops : Array Oper} {o : Oper} {a : Act} {K : Act → World → Prop} {Q : Exit → Act → World → Prop} {E : Prop} (hgd : o.guard = none) (s x : Operand)
    (ho : o.op = .call { callee := .builtin .append, args := #[s, x], argTypes := #[sT, sT] })
    (base g0 c : Nat) (v : Value) (xs : List α) (y : α) (hs : a.eval s = v) (hx : a.eval x = .slice (some ⟨g0, 0, none⟩) 1 c) (hown : OwnRec f e k W base v xs) (hc : VRow W g0 0 (f y)) (hbase : base ≤ W.heap.size) (hlen : xs.length + 1 ≤ maxLen) (hby : (xs.length + 1) * bytes ≤ 140737488355328)
    (h : ∀ g cap w', OwnRec f e k w' base (.slice (some ⟨g, 0, none⟩) (xs.length + 1) cap) (xs ++ [y]) → W.grownBy w' v.ownBlock → (v.ownBlock = some g ∨ W.heap.size ≤ g) → g < w'.heap.size → K (a.put o.dst (.slice (some ⟨g, 0, none⟩) (xs.length + 1) cap)) w') :
    if Region.wanted o (yielded ops a.tmps) = true then Oper.wp Try.prog o a W K Q else E := by
  obtain ⟨i0, hi, hz0, hz1, hz2⟩ := info_parts hinf
  refine step_append_lies W hgd s x sT ho base e i0 z k bytes hu hi hz0 hz1 hz2 hzs hk v xs.length (xs.flatMap f) hs hown ⟨g0, 0, none⟩ 1 c (f y) hx (by rw [hf]; omega) (vrow_src hc) (h1 y) (by decide) hlen hby hbase W.heap.size rfl ?_
  intro g cap w' hown' hg hlies hlt
  refine h g cap w' ?_ hg (hlies.imp id fun e => by omega) hlt
  unfold OwnRec
  rw [List.length_append, List.flatMap_append]
  simpa using hown'
theorem vrow_new (w : World) (l : List Value) (t : TypeId) : VRow (w.alloc (.cells l.toArray t)) w.heap.size 0 l := by
  intro j hj
  rw [Nat.zero_add, World.cell?_alloc_new]
  simp [List.getD, hj]
end Go.Proofs.Ytffgpepngcnjeab

namespace Go.Proofs.Ytffgpepngcnjeab
open Go.RowKit
/-- an output of the chain -/
structure Cel where
  id : Int
  pos : Int
  to : Int
  val : Int
  made : Int
  spent : Int
def dC : Cel := ⟨0, 0, 0, 0, 0, 0⟩
def Cel.l (x : Cel) : List Value := [.int .i64 x.id, .int .i64 x.pos, .int .i64 x.to, .int .i64 x.val, .int .i64 x.made, .int .i64 x.spent]
structure CelCells (w : World) (b off : Nat) (x : Cel) : Prop where
  c0 : w.cell? ⟨b, off, none⟩ = some (.int .i64 x.id)
  c1 : w.cell? ⟨b, off + 1, none⟩ = some (.int .i64 x.pos)
  c2 : w.cell? ⟨b, off + 2, none⟩ = some (.int .i64 x.to)
  c3 : w.cell? ⟨b, off + 3, none⟩ = some (.int .i64 x.val)
  c4 : w.cell? ⟨b, off + 4, none⟩ = some (.int .i64 x.made)
  c5 : w.cell? ⟨b, off + 5, none⟩ = some (.int .i64 x.spent)
theorem cel6 (x : Cel) : x.l.length = 6 := rfl
theorem celCells {w : World} {b off : Nat} {xs : List Cel} (h : VRow w b off (xs.flatMap Cel.l)) (j : Nat) (hj : j < xs.length) : CelCells w b (off + j * 6) (xs.getD j dC) :=
  ⟨rcell cel6 dC h j hj 0 (by omega), rcell cel6 dC h j hj 1 (by omega), rcell cel6 dC h j hj 2 (by omega), rcell cel6 dC h j hj 3 (by omega), rcell cel6 dC h j hj 4 (by omega), rcell cel6 dC h j hj 5 (by omega)⟩
/-- the outputs xs lie where the slice at ao does -/
def CelsAt (w : World) (ao : Option Addr) (xs : List Cel) : Prop := RecAt Cel.l w ao xs
theorem CelsAt.grown {w w' : World} {ao : Option Addr} {xs : List Cel} (h : CelsAt w ao xs) (hb : Below w.heap.size w w') : CelsAt w' ao xs := RecAt.grown h hb
def paidTo (xs : List Cel) (a : Int) : Bool := xs.any fun x => x.to == a
def hasId (xs : List Cel) (a : Int) : Bool := xs.any fun x => x.id == a
theorem any_no {α : Type} (p : α → Bool) (l : List α) (d : α) (k : Nat) (h : k < l.length) (h0 : (l.take k).any p = false) (h1 : p (l.getD k d) = false) : (l.take (k + 1)).any p = false := by
  rw [List.take_succ_eq_append_getElem h, List.any_append, h0]
  simp only [List.getD, List.getElem?_eq_getElem h, Option.getD_some] at h1
  simp [h1]
theorem any_yes {α : Type} (p : α → Bool) (l : List α) (d : α) (k : Nat) (h : k < l.length) (h' : p (l.getD k d) = true) : l.any p = true := by
  rw [List.any_eq_true]
  refine ⟨l[k], List.getElem_mem h, ?_⟩
  simpa only [List.getD, List.getElem?_eq_getElem h, Option.getD_some] using h'
theorem any_done {α : Type} (p : α → Bool) (l : List α) (n : Nat) (hn : l.length = n) (k : Nat) (hk : n ≤ k) (h : (l.take k).any p = false) : false = l.any p := by
  rw [← h, List.take_of_length_le (by omega)]
set_option maxRecDepth 100000 in
set_option maxHeartbeats 1000000 in
theorem isPaid_any (b o : Nat) (ao : Option Addr) (n c : Nat) (xs : List Cel) (a : Int) (w : World) (hp : w.cell? ⟨b, o, none⟩ = some (.slice ao n c)) (hx : CelsAt w ao xs) (hn : xs.length = n) (hm : n ≤ 1000000) :
    Calls Try.prog 78 #[.pointer (some ⟨b, o, none⟩), .int .i64 a] w fun e w' => e = .returned (.bool (paidTo xs a)) ∧ Below w.heap.size w w' := by
  have HN : Hid (xs.length = n) := hn
  have HX : Hid (CelsAt w ao xs) := hx
  clear hn hx
  go_enter Try.func78, Try.ntmps78
  go_wp2
  go_loopw [12] (fun i wr => ∃ k : Nat, k ≤ n ∧ i = .int .i64 k ∧ Hid ((xs.take k).any (fun x => x.to == a) = false) ∧ Below w.heap.size w wr) (fun i _ => n - (intOf i).toNat)
  case atStart => exact ⟨0, Nat.zero_le _, rfl, by show List.any _ _ = false; simp, Below.refl _ _⟩
  case round =>
    obtain ⟨k, hk, rfl, hany, hbl⟩ := hrel
    have hsz := hbl.size
    by_cases hlt : k < n
    · rcases HX.out with hnil | ⟨g, off, rfl, hrow⟩
      · have := HN.out; rw [hnil] at this; simp at this; omega
      obtain ⟨c0, c1, c2, c3, c4, c5⟩ := celCells (hrow.grown hbl) k (by rw [HN.out]; exact hlt)
      have HS : Hid _ := any_no (fun x : Cel => x.to == a) xs dC k (by rw [HN.out]; exact hlt) hany.out
      have HZ : Hid _ := any_yes (fun x : Cel => x.to == a) xs dC k (by rw [HN.out]; exact hlt)
      clear hrow
      generalize xs.getD k dC = y at c0 c1 c2 c3 c4 c5 HS HZ
      obtain ⟨yid, ypos, yto, yval, ymade, yspent⟩ := y
      simp only at c0 c1 c2 c3 c4 c5
      cases hy : (yto == a)
      · go_wp2
        go_roundw
        case rel => exact ⟨k + 1, by omega, by go_num, HS.out hy, hbl.alloc hsz _⟩
        case measure => simp [intOf]; omega
      · go_wp2
        go_ret
        exact ⟨ret_bool (HZ.out hy).symm, hbl.alloc hsz _⟩
    · go_wp2
      go_ret
      exact ⟨ret_bool (any_done _ xs n HN.out k (by omega) hany.out), hbl⟩
set_option maxRecDepth 100000 in
set_option maxHeartbeats 1000000 in
theorem hasId_any (b o : Nat) (ao : Option Addr) (n c : Nat) (xs : List Cel) (a : Int) (w : World) (hp : w.cell? ⟨b, o, none⟩ = some (.slice ao n c)) (hx : CelsAt w ao xs) (hn : xs.length = n) (hm : n ≤ 1000000) :
    Calls Try.prog 53 #[.pointer (some ⟨b, o, none⟩), .int .i64 a] w fun e w' => e = .returned (.bool (hasId xs a)) ∧ Below w.heap.size w w' := by
  have HN : Hid (xs.length = n) := hn
  have HX : Hid (CelsAt w ao xs) := hx
  clear hn hx
  go_enter Try.func53, Try.ntmps53
  go_wp2
  go_loopw [12] (fun i wr => ∃ k : Nat, k ≤ n ∧ i = .int .i64 k ∧ Hid ((xs.take k).any (fun x => x.id == a) = false) ∧ Below w.heap.size w wr) (fun i _ => n - (intOf i).toNat)
  case atStart => exact ⟨0, Nat.zero_le _, rfl, by show List.any _ _ = false; simp, Below.refl _ _⟩
  case round =>
    obtain ⟨k, hk, rfl, hany, hbl⟩ := hrel
    have hsz := hbl.size
    by_cases hlt : k < n
    · rcases HX.out with hnil | ⟨g, off, rfl, hrow⟩
      · have := HN.out; rw [hnil] at this; simp at this; omega
      obtain ⟨c0, c1, c2, c3, c4, c5⟩ := celCells (hrow.grown hbl) k (by rw [HN.out]; exact hlt)
      have HS : Hid _ := any_no (fun x : Cel => x.id == a) xs dC k (by rw [HN.out]; exact hlt) hany.out
      have HZ : Hid _ := any_yes (fun x : Cel => x.id == a) xs dC k (by rw [HN.out]; exact hlt)
      clear hrow
      generalize xs.getD k dC = y at c0 c1 c2 c3 c4 c5 HS HZ
      obtain ⟨yid, ypos, yto, yval, ymade, yspent⟩ := y
      simp only at c0 c1 c2 c3 c4 c5
      cases hy : (yid == a)
      · go_wp2
        go_roundw
        case rel => exact ⟨k + 1, by omega, by go_num, HS.out hy, hbl.alloc hsz _⟩
        case measure => simp [intOf]; omega
      · go_wp2
        go_ret
        exact ⟨ret_bool (HZ.out hy).symm, hbl.alloc hsz _⟩
    · go_wp2
      go_ret
      exact ⟨ret_bool (any_done _ xs n HN.out k (by omega) hany.out), hbl⟩
end Go.Proofs.Ytffgpepngcnjeab

namespace Go.Proofs.Ytffgpepngcnjeab
open Go.RowKit
def wgo (hit : Nat → Bool) (g : Nat) : Nat → Nat → Nat → Nat
  | 0, _, v => v
  | f + 1, i, v => if i < v then wgo hit g f (i + 1) (if hit i = true then min 100 (i + 1 + g) else v) else v
def hitAt (xs : List Cel) (s br : Int) (i : Nat) : Bool := paidTo xs (Mk.adr s br i)
def winZ (xs : List Cel) (s : Int) (g : Nat) (br : Int) : Nat := wgo (hitAt xs s br) g 101 0 (min 100 g)
theorem key_ok {s br : Int} (hs : Mk.isM s = true) (hb : br = 0 ∨ br = 1) {i : Int} (h0 : 0 ≤ i) (h1 : i < 100) : Mk.isK s br i = true := by
  have hm := (Mk.isM_iff s).1 hs
  unfold Mk.isK
  exact decide_eq_true ⟨hb, ⟨h0, h1⟩, hm⟩
set_option maxRecDepth 100000 in
set_option maxHeartbeats 400000 in
theorem atMost_any (x : Int) (w : World) : Calls Try.prog 87 #[.int .i64 x] w fun e w' => e = .returned (.int .i64 (min 100 x)) ∧ w = w' := by
  by_cases h : x ≤ 100
  · go_enter Try.func87, Try.ntmps87
    go_wp2
    go_ret
    exact ⟨ret_int (by omega), rfl⟩
  · go_enter Try.func87, Try.ntmps87
    go_wp2
    go_ret
    exact ⟨ret_int (by omega), rfl⟩
set_option maxRecDepth 100000 in
set_option maxHeartbeats 2000000 in
theorem window_any (b o : Nat) (ao : Option Addr) (n c : Nat) (xs : List Cel) (s : Int) (g : Nat) (br : Int) (w : World) (hs : Mk.isM s = true) (hg : 1 ≤ g) (hg2 : g ≤ 20) (hb : br = 0 ∨ br = 1)
    (hp : w.cell? ⟨b, o, none⟩ = some (.slice ao n c)) (hx : CelsAt w ao xs) (hn : xs.length = n) (hm : n ≤ 1000000) :
    Calls Try.prog 57 #[.pointer (some ⟨b, o, none⟩), .int .i64 s, .int .i64 g, .int .i64 br] w fun e w' => e = .returned (.int .i64 (winZ xs s g br)) ∧ Below w.heap.size w w' := by
  have HN : Hid (xs.length = n) := hn
  have HX : Hid (CelsAt w ao xs) := hx
  have HP : Hid (w.cell? ⟨b, o, none⟩ = some (.slice ao n c)) := hp
  have HB : Hid (br = 0 ∨ br = 1) := hb
  clear hn hx hp hb
  have ea : min 100 (g : Int) = ((min 100 g : Nat) : Int) := by omega
  go_enter Try.func57, Try.ntmps57
  go_wp2_with (go_at_call 87; refine (atMost_any _ _).mono ?_; rintro e w' ⟨rfl, rfl⟩; rw [ea])
  go_loopw [9, 10] (fun v i wr => ∃ k W : Nat, k ≤ W ∧ W ≤ 100 ∧ i = .int .i64 k ∧ v = .int .i64 W ∧ Hid (wgo (hitAt xs s br) g (101 - k) k W = winZ xs s g br) ∧ Below w.heap.size w wr) (fun _ i _ => 100 - (intOf i).toNat)
  case atStart => exact ⟨0, min 100 g, by omega, by omega, rfl, rfl, rfl, Below.refl _ _⟩
  case round =>
    obtain ⟨k, W, hk, hW, rfl, rfl, hz, hbl⟩ := hrel
    have hsz := hbl.size
    by_cases hlt : k < W
    · have hK := key_ok hs HB.out (show (0 : Int) ≤ (k : Int) by omega) (show (k : Int) < 100 by omega)
      have hz' := hz.out
      rw [show 101 - k = (101 - (k + 1)) + 1 by omega] at hz'
      unfold wgo at hz'
      rw [if_pos hlt] at hz'
      have HZ : Hid (wgo (hitAt xs s br) g (101 - (k + 1)) (k + 1) (if hitAt xs s br k = true then min 100 (k + 1 + g) else W) = winZ xs s g br) := hz'
      clear hz'
      go_wp2_with fail
      refine (address_yes _ _ _ _ hK).mono ?_
      rintro e w1 ⟨rfl, hb1⟩
      have hbw1 := hbl.trans (hb1.mono hsz)
      have hp1 := (hbw1.cell (p := ⟨b, o, none⟩) (cell_lt HP.out)).trans HP.out
      have HX1 : Hid (CelsAt w1 ao xs) := HX.out.grown hbw1
      go_wp2_with fail
      refine (isPaid_any b o ao n c xs _ _ hp1 HX1.out HN.out hm).mono ?_
      rintro e w2 ⟨rfl, hb2⟩
      have hbw2 := hbw1.trans (hb2.mono hbw1.size)
      cases hh : paidTo xs (Mk.adr s br k)
      · rw [show hitAt xs s br k = false from hh] at HZ
        go_wp2
        go_roundw
        case rel => exact ⟨k + 1, W, by omega, hW, by go_num, rfl, HZ.out, hbw2⟩
        case measure => simp [intOf]; omega
      · rw [show hitAt xs s br k = true from hh] at HZ
        have eb : min 100 ((k : Int) + 1 + (g : Int)) = ((min 100 (k + 1 + g) : Nat) : Int) := by omega
        go_wp2_with (go_at_call 87; refine (atMost_any _ _).mono ?_; rintro e w' ⟨rfl, rfl⟩; rw [eb])
        go_roundw
        case rel => exact ⟨k + 1, min 100 (k + 1 + g), by omega, by omega, by go_num, rfl, HZ.out, hbw2⟩
        case measure => simp [intOf]; omega
    · have hkW : k = W := by omega
      subst hkW
      go_wp2
      go_ret
      refine ⟨ret_int ?_, hbl⟩
      rw [← hz.out, show 101 - k = (100 - k) + 1 by omega]
      unfold wgo
      rw [if_neg (by omega)]
end Go.Proofs.Ytffgpepngcnjeab
