/-
  The plain mathematics of marks: mix, turn, digits, secrets. Nothing of the program in it.
  Contracts of the small functions of marks: Mix, Turn, TurnTimes, Is.
  Slices of numbers that a call makes by append: one element at a time.
  Contracts of the document's answer: marks.
  Contracts of the document's answer: addresses, seals, what opens.
  Transactions in memory; the right shape, by the program.
-/
import Derived.Test.YtffgpepngcnjeabRows
import Derived.WalkKit
import Derived.WalkSpells
import Derived.WalkLawsBesides
import Derived.Handy
import Derived.Deep.RegionHeld3
import Derived.Deep.RegionWith
import Derived.Laws.CopyOwn
namespace Go.Proofs.Ytffgpepngcnjeab.Mk
def mx (h x : Int) : Int := (1009 * h + x) % 99991
def tn (x : Int) : Int := (x * x + 7) % 99991
def tnN (x : Int) : Nat → Int
  | 0 => x
  | n + 1 => tn (tnN x n)
def sec (s b i : Int) (j : Nat) : Int := tn (mx (mx (mx s b) i) (j : Int))
def d0 (id : Int) : Int := id / 64 % 8
def d1 (id : Int) : Int := id / 8 % 8
def d2 (id : Int) : Int := id % 8
def lk (id : Int) : Int := 21 - d0 id - d1 id - d2 id
/-- the j-th digit of an id -/
def dg (id : Int) : Nat → Int
  | 0 => d0 id
  | 1 => d1 id
  | 2 => d2 id
  | 3 => lk id / 8
  | _ => lk id % 8
def mixL (h : Int) : List Int → Int
  | [] => h
  | x :: r => mixL (mx h x) r
def isM (x : Int) : Bool := decide (0 ≤ x ∧ x < 99991)
def isK (s b i : Int) : Bool := decide ((b = 0 ∨ b = 1) ∧ (0 ≤ i ∧ i < 100) ∧ (0 ≤ s ∧ s < 99991))
def adr (s b i : Int) : Int := mixL 1 ((List.range 5).map fun j => tnN (sec s b i j) 7)
def sealL (s b i id : Int) : List Int := (List.range 5).map fun j => tnN (sec s b i j) (dg id j).toNat
def opn (id : Int) (l : List Int) : Int := mixL 1 ((List.range 5).map fun j => tnN (l.getD j 0) (7 - dg id j).toNat)
theorem mx_bd (h x : Int) : 0 ≤ mx h x ∧ mx h x < 99991 := by unfold mx; omega
theorem tn_bd (x : Int) : 0 ≤ tn x ∧ tn x < 99991 := by unfold tn; omega
theorem tnN_bd (x : Int) (h0 : 0 ≤ x) (h1 : x < 99991) (n : Nat) : 0 ≤ tnN x n ∧ tnN x n < 99991 := by
  cases n with
  | zero => exact ⟨h0, h1⟩
  | succ n => exact tn_bd _
theorem sec_bd (s b i : Int) (j : Nat) : 0 ≤ sec s b i j ∧ sec s b i j < 99991 := tn_bd _
theorem d_bd (id : Int) : (0 ≤ d0 id ∧ d0 id ≤ 7) ∧ (0 ≤ d1 id ∧ d1 id ≤ 7) ∧ (0 ≤ d2 id ∧ d2 id ≤ 7) ∧ (0 ≤ lk id ∧ lk id ≤ 21) := by
  unfold lk d0 d1 d2; omega
theorem dg_bd (id : Int) (j : Nat) : 0 ≤ dg id j ∧ dg id j ≤ 7 := by
  have h := d_bd id
  unfold dg
  split <;> omega
theorem mixL_bd (h : Int) (l : List Int) (h0 : 0 ≤ h) (h1 : h < 99991) : 0 ≤ mixL h l ∧ mixL h l < 99991 := by
  induction l generalizing h with
  | nil => exact ⟨h0, h1⟩
  | cons x r ih => exact ih _ (mx_bd h x).1 (mx_bd h x).2
theorem mixL_append (h : Int) (l r : List Int) : mixL h (l ++ r) = mixL (mixL h l) r := by
  induction l generalizing h with
  | nil => rfl
  | cons x l ih => exact ih _
theorem isM_iff (x : Int) : isM x = true ↔ (0 ≤ x ∧ x < 99991) := by simp [isM]
theorem isM_no (x : Int) : isM x = false ↔ (x < 0 ∨ 99991 ≤ x) := by
  unfold isM; rw [decide_eq_false_iff_not]; omega
/-- which of n things the raw number c speaks of -/
def pk (c n : Int) : Int := (if c < 0 then -(c + 1) else c) % n
theorem pk_bd (c n : Int) (h : 1 ≤ n) : 0 ≤ pk c n ∧ pk c n < n := by
  unfold pk
  exact ⟨Int.emod_nonneg _ (by omega), Int.emod_lt_of_pos _ (by omega)⟩
end Go.Proofs.Ytffgpepngcnjeab.Mk

namespace Go.Proofs.Ytffgpepngcnjeab
open Go.RowKit
theorem ret_int {k : IntKind} {a b : Int} (h : a = b) : Ending.returned (.int k a) = .returned (.int k b) := by rw [h]
theorem ret_bool {a b : Bool} (h : a = b) : Ending.returned (.bool a) = .returned (.bool b) := by rw [h]
set_option maxRecDepth 100000 in
set_option maxHeartbeats 400000 in
theorem mix_any (h x : Int) (w : World) (h0 : 0 ≤ h) (h1 : h < 99991) (x0 : 0 ≤ x) (x1 : x ≤ 1099511627776) :
    Calls Try.prog 80 #[.int .i64 h, .int .i64 x] w fun e w' => e = .returned (.int .i64 (Mk.mx h x)) ∧ w = w' := by
  go_enter Try.func80, Try.ntmps80
  go_wp2
  go_ret
  exact ⟨ret_int (by unfold Mk.mx; rfl), rfl⟩
theorem sq_bd {x : Int} (h0 : 0 ≤ x) (h1 : x < 99991) : 0 ≤ x * x ∧ x * x ≤ 9998000100 := by
  have a := Int.mul_le_mul (show x ≤ 99990 by omega) (show x ≤ 99990 by omega) h0 (by omega)
  exact ⟨Int.mul_nonneg h0 h0, by omega⟩
set_option maxRecDepth 100000 in
set_option maxHeartbeats 400000 in
theorem turn_any (x : Int) (w : World) (h0 : 0 ≤ x) (h1 : x < 99991) :
    Calls Try.prog 91 #[.int .i64 x] w fun e w' => e = .returned (.int .i64 (Mk.tn x)) ∧ w = w' := by
  have hb := sq_bd h0 h1
  go_enter Try.func91, Try.ntmps91
  go_wp2
  go_ret
  exact ⟨ret_int (by unfold Mk.tn; rfl), rfl⟩
set_option maxRecDepth 100000 in
set_option maxHeartbeats 400000 in
theorem times_any (x n : Int) (w : World) (h0 : 0 ≤ x) (h1 : x < 99991) (n0 : 0 ≤ n) (n1 : n ≤ 7) :
    Calls Try.prog 65 #[.int .i64 x, .int .i64 n] w fun e w' => e = .returned (.int .i64 (Mk.tnN x n.toNat)) ∧ w = w' := by
  go_enter Try.func65, Try.ntmps65
  go_wp2
  go_loop [0, 5] (fun v i => ∃ k : Nat, (k : Int) ≤ n ∧ i = .int .i64 k ∧ v = .int .i64 (Mk.tnN x k)) (fun _ i => (n - intOf i).toNat)
  case atStart => exact ⟨0, by omega, rfl, rfl⟩
  case round =>
    obtain ⟨k, hk, rfl, rfl⟩ := hrel
    have hb := Mk.tnN_bd x h0 h1 k
    by_cases hlt : (k : Int) < n
    · go_wp2_with (go_at_call 91; refine (turn_any _ _ (by omega) (by omega)).mono ?_; rintro e w' ⟨rfl, rfl⟩)
      go_round
      case rel => exact ⟨k + 1, by omega, by go_num, rfl⟩
      case measure => simp [intOf]; omega
    · go_wp2
      go_ret
      exact ⟨ret_int (by rw [show n.toNat = k by omega]), rfl⟩
set_option maxRecDepth 100000 in
set_option maxHeartbeats 400000 in
theorem is_any (x : Int) (w : World) :
    Calls Try.prog 88 #[.int .i64 x] w fun e w' => e = .returned (.bool (Mk.isM x)) ∧ w = w' := by
  by_cases h0 : 0 ≤ x
  · by_cases h1 : x < 99991
    · go_enter Try.func88, Try.ntmps88
      go_wp2
      go_ret
      exact ⟨ret_bool ((Mk.isM_iff x).2 ⟨h0, h1⟩).symm, rfl⟩
    · go_enter Try.func88, Try.ntmps88
      go_wp2
      go_ret
      exact ⟨ret_bool ((Mk.isM_no x).2 (by omega)).symm, rfl⟩
  · go_enter Try.func88, Try.ntmps88
    go_wp2
    go_ret
    exact ⟨ret_bool ((Mk.isM_no x).2 (by omega)).symm, rfl⟩
end Go.Proofs.Ytffgpepngcnjeab

namespace Go.Proofs.Ytffgpepngcnjeab
open Go.RowKit
/-- the numbers l lie from ⟨b, off⟩ on -/
def Row (w : World) (b off : Nat) (l : List Int) : Prop := ∀ j, j < l.length → w.cell? ⟨b, off + j, none⟩ = some (.int .i64 (l.getD j 0))
/-- n cells from ⟨b, off⟩ on may be written -/
def Free (w : World) (b off n : Nat) : Prop := ∀ j, j < n → w.frozen? ⟨b, off + j, none⟩ = false
/-- the address of a slice whose elements are l -/
def IntsAt (w : World) (ao : Option Addr) (l : List Int) : Prop := l = [] ∨ ∃ b off, ao = some ⟨b, off, none⟩ ∧ Row w b off l
theorem cell_lt {w : World} {a : Addr} {v : Value} (h : w.cell? a = some v) : a.block < w.heap.size := by
  apply Classical.byContradiction
  intro hn
  have : w.heap[a.block]? = none := Array.getElem?_eq_none (by omega)
  simp [World.cell?, this] at h
theorem Row.lt {w : World} {b off : Nat} {l : List Int} (h : Row w b off l) (hl : l ≠ []) : b < w.heap.size := by
  have h0 := h 0 (List.length_pos_iff.2 hl)
  exact cell_lt h0
theorem Row.below {w w' : World} {b off : Nat} {l : List Int} (h : Row w b off l) {B : Nat} (hb : Below B w w') (hB : b < B) : Row w' b off l :=
  fun j hj => (hb.cell (p := ⟨b, off + j, none⟩) hB).trans (h j hj)
theorem Row.grown {w w' : World} {b off : Nat} {l : List Int} (h : Row w b off l) (hb : Below w.heap.size w w') : Row w' b off l := by
  by_cases hl : l = []
  · subst hl; intro j hj; simp at hj
  · exact h.below hb (h.lt hl)
theorem IntsAt.grown {w w' : World} {ao : Option Addr} {l : List Int} (h : IntsAt w ao l) (hb : Below w.heap.size w w') : IntsAt w' ao l := by
  rcases h with h | ⟨b, off, h, hr⟩
  · exact Or.inl h
  · exact Or.inr ⟨b, off, h, hr.grown hb⟩
theorem Free.below {w w' : World} {b off n : Nat} (h : Free w b off n) {B : Nat} (hb : Below B w w') (hB : b < B) : Free w' b off n :=
  fun j hj => (hb.frozen (p := ⟨b, off + j, none⟩) hB).trans (h j hj)
theorem Free.set {w : World} {b off n : Nat} (h : Free w b off n) (a : Addr) (v : Value) : Free (w.setCell a v) b off n :=
  fun j hj => by rw [World.frozen?_setCell]; exact h j hj
theorem Row.other {w : World} {b off : Nat} {l : List Int} (h : Row w b off l) {a : Addr} (hb : a.block ≠ b) (v : Value) : Row (w.setCell a v) b off l :=
  fun j hj => by rw [World.cell?_setCell_other _ _ _ _ (by intro e; subst e; exact hb rfl)]; exact h j hj
theorem Row.set {w : World} {b off : Nat} {l : List Int} (h : Row w b off l) {k : Nat} (hk : k < l.length) (v : Int) : Row (w.setCell ⟨b, off + k, none⟩ (.int .i64 v)) b off (l.set k v) := by
  intro j hj
  rw [List.length_set] at hj
  by_cases e : j = k
  · subst e
    rw [World.cell?_setCell_same _ _ _ (h j hj)]
    simp [List.getD, hj]
  · rw [World.cell?_setCell_other _ _ _ _ (fun e' => e (by have h2 := congrArg Addr.off e'; simp only at h2; omega)), h j hj]
    simp only [List.getD]
    rw [List.getElem?_set_ne (by omega)]
theorem Row.alloc {w : World} {b off : Nat} {l : List Int} (h : Row w b off l) (o : Obj) : Row (w.alloc o) b off l :=
  h.grown ((Below.refl _ _).alloc (Nat.le_refl _) _)
theorem below_blk {w w1 w2 : World} (h1 : Below w.heap.size w w1) (h2 : Below w1.heap.size w1 w2) : Below w.heap.size w w2 :=
  h1.trans (h2.mono h1.size)
def allM (l : List Int) : Bool := l.all Mk.isM
theorem allM_snoc (l : List Int) (k : Nat) (h : k < l.length) : allM (l.take (k + 1)) = (allM (l.take k) && Mk.isM (l.getD k 0)) := by
  unfold allM
  rw [List.take_succ_eq_append_getElem h, List.all_append]
  simp [List.getD, h]
theorem allM_no (l : List Int) (k : Nat) (h : k < l.length) (h' : Mk.isM (l.getD k 0) = false) : allM l = false := by
  unfold allM
  rw [List.all_eq_false]
  refine ⟨l[k], List.getElem_mem h, ?_⟩
  simp only [List.getD, List.getElem?_eq_getElem h, Option.getD_some] at h'
  simp [h']
set_option maxRecDepth 100000 in
set_option maxHeartbeats 400000 in
theorem areAll_nil (ao : Option Addr) (c : Nat) (w : World) :
    Calls Try.prog 107 #[.slice ao 0 c] w fun e w' => e = .returned (.bool true) ∧ w = w' := by
  go_enter Try.func107, Try.ntmps107
  go_wp2
  refine wp_loop_rounds 1 ?_
  rw [rounds_succ]
  go_wp2
  go_ret
  exact ⟨rfl, rfl⟩
set_option maxRecDepth 100000 in
set_option maxHeartbeats 400000 in
theorem areAll_row (b off c : Nat) (l : List Int) (w : World) (hr : Row w b off l) (hm : l.length ≤ 9223372036854775807) :
    Calls Try.prog 107 #[.slice (some ⟨b, off, none⟩) l.length c] w fun e w' => e = .returned (.bool (allM l)) ∧ w = w' := by
  have HR : Hid (Row w b off l) := hr
  clear hr
  generalize hn : l.length = n at *
  have HN : Hid (l.length = n) := hn
  clear hn
  go_enter Try.func107, Try.ntmps107
  go_wp2
  go_loop [7] (fun i => ∃ k : Nat, k ≤ n ∧ i = .int .i64 k ∧ Hid (allM (l.take k) = true)) (fun i => n - (intOf i).toNat)
  case atStart => exact ⟨0, Nat.zero_le _, rfl, by show allM _ = true; simp [allM]⟩
  case round =>
    obtain ⟨k, hk, rfl, hall⟩ := hrel
    by_cases hlt : k < n
    · have hc := HR.out k (by rw [HN.out]; exact hlt)
      generalize hx : l.getD k 0 = x at hc
      have HX : Hid (l.getD k 0 = x) := hx
      clear hx
      cases hmk : Mk.isM x
      · go_wp2_with (go_at_call 88; refine (is_any _ _).mono ?_; rintro e w' ⟨rfl, rfl⟩)
        go_ret
        exact ⟨ret_bool (allM_no l k (by rw [HN.out]; exact hlt) (by rw [HX.out]; exact hmk)).symm, rfl⟩
      · go_wp2_with (go_at_call 88; refine (is_any _ _).mono ?_; rintro e w' ⟨rfl, rfl⟩)
        go_round
        case rel => exact ⟨k + 1, by omega, by go_num, by show allM _ = true; rw [allM_snoc l k (by rw [HN.out]; exact hlt), hall.out, HX.out, hmk]; rfl⟩
        case measure => simp [intOf]; omega
    · go_wp2
      go_ret
      exact ⟨ret_bool (by rw [← hall.out, List.take_of_length_le (by rw [HN.out]; omega)]), rfl⟩
theorem areAll_any (ao : Option Addr) (n c : Nat) (l : List Int) (w : World) (hr : IntsAt w ao l) (hn : l.length = n) (hm : n ≤ 9223372036854775807) :
    Calls Try.prog 107 #[.slice ao n c] w fun e w' => e = .returned (.bool (allM l)) ∧ w = w' := by
  rcases hr with rfl | ⟨b, off, rfl, hr⟩
  · have h0 : n = 0 := by rw [← hn]; rfl
    subst h0
    exact areAll_nil ao c w
  · subst hn
    exact areAll_row b off c l w hr hm
def isS (l : List Int) : Bool := decide (l.length = 5) && allM l
set_option maxRecDepth 100000 in
set_option maxHeartbeats 400000 in
theorem isSeal_any (ao : Option Addr) (n c : Nat) (l : List Int) (w : World) (hr : IntsAt w ao l) (hn : l.length = n) (hm : n ≤ 9223372036854775807) :
    Calls Try.prog 105 #[.slice ao n c] w fun e w' => e = .returned (.bool (isS l)) ∧ w = w' := by
  have HR : Hid (IntsAt w ao l) := hr
  have HN : Hid (l.length = n) := hn
  clear hr hn
  by_cases h5 : n = 5
  · subst h5
    go_enter Try.func105, Try.ntmps105
    go_wp2_with (go_at_call 107; refine (areAll_any _ _ _ _ _ HR.out HN.out (by omega)).mono ?_; rintro e w' ⟨rfl, rfl⟩)
    go_ret
    exact ⟨ret_bool (by unfold isS; rw [HN.out]; rfl), rfl⟩
  · have h5' : ((n : Int) == 5) = false := by rw [beq_eq_false_iff_ne]; omega
    go_enter Try.func105, Try.ntmps105
    go_wp2
    go_ret
    exact ⟨ret_bool (by unfold isS; rw [HN.out, decide_eq_false h5]; rfl), rfl⟩
end Go.Proofs.Ytffgpepngcnjeab

namespace Go.Proofs.Ytffgpepngcnjeab
open Go.RowKit
theorem info3 : (Try.prog.info? 3).map (fun i => (i.zero, i.size, i.bytes)) = some (some (.int .i64 0), 1, 8) := by kernel_rfl
/-- the slice value v owns the numbers l, in blocks from base on -/
def OwnInts (w : World) (base : Nat) (v : Value) (l : List Int) : Prop := w.ownsRow base 3 1 v l.length (l.map (Value.int .i64))
theorem OwnInts.nil (w : World) (base : Nat) : OwnInts w base (.slice none 0 0) [] := World.ownsRow_nil _ _ _ _
theorem OwnInts.drew {w : World} {base : Nat} {v : Value} {l : List Int} (h : OwnInts w base v l) : OwnInts w.drew base v l := h
theorem OwnInts.slice {w : World} {base : Nat} {v : Value} {l : List Int} (h : OwnInts w base v l) : ∃ ao c, v = .slice ao l.length c ∧ IntsAt w ao l ∧ l.length ≤ c := by
  obtain ⟨_, h | ⟨g, cap, cur, rfl, _, hg, hn, _, hs, ht⟩⟩ := h
  · obtain ⟨rfl, h0⟩ := h
    have : l = [] := List.length_eq_zero_iff.1 h0
    subst this
    exact ⟨none, 0, rfl, Or.inl rfl, Nat.le_refl _⟩
  · refine ⟨_, cap, rfl, Or.inr ⟨g, 0, rfl, ?_⟩, hn⟩
    intro j hj
    have e : (cur.toList.take (l.length * 1))[j]? = (l.map (Value.int .i64))[j]? := by rw [ht]
    rw [List.getElem?_take_of_lt (by omega), List.getElem?_map, List.getElem?_eq_getElem hj] at e
    simp [World.cell?, hg, List.getD, hj]
    simpa using e
/-- what lies in blocks from base on and was owned is owned in a world that below some greater number is as it was -/
theorem OwnInts.below {w w' : World} {base B : Nat} {v : Value} {l : List Int} (h : OwnInts w base v l) (hb : Below B w w') (hB : ∀ k, v.ownBlock = some k → k < B) : OwnInts w' base v l := by
  obtain ⟨h1, h | ⟨g, cap, cur, rfl, hbg, hg, hn⟩⟩ := h
  · exact ⟨h1, Or.inl h⟩
  · exact ⟨h1, Or.inr ⟨g, cap, cur, rfl, hbg, (hb.block g (hB g rfl)).trans hg, hn⟩⟩
theorem OwnInts.blk {w : World} {base : Nat} {v : Value} {l : List Int} (h : OwnInts w base v l) : ∀ k, v.ownBlock = some k → base ≤ k ∧ k < w.heap.size := by
  intro k hk
  obtain ⟨_, h | ⟨g, cap, cur, rfl, hbg, hg, _⟩⟩ := h
  · obtain ⟨rfl, _⟩ := h
    simp [Value.ownBlock] at hk
  · simp [Value.ownBlock] at hk
    subst hk
    refine ⟨hbg, ?_⟩
    apply Classical.byContradiction
    intro hc
    rw [Array.getElem?_eq_none (by omega)] at hg
    cases hg
theorem OwnInts.grown {w w' : World} {base : Nat} {v : Value} {l : List Int} (h : OwnInts w base v l) (hb : Below w.heap.size w w') : OwnInts w' base v l :=
  h.below hb (fun k hk => (h.blk k hk).2)
theorem OwnInts.alloc {w : World} {base : Nat} {v : Value} {l : List Int} (h : OwnInts w base v l) (o : Obj) : OwnInts (w.alloc o) base v l := World.ownsRow.alloc h o
end Go.Proofs.Ytffgpepngcnjeab

namespace Go.Proofs.Ytffgpepngcnjeab
open Go.RowKit
abbrev ag5 (a b c d e : Int) : Value := .agg #[.int .i64 a, .int .i64 b, .int .i64 c, .int .i64 d, .int .i64 e]
theorem isK_iff (s b i : Int) : Mk.isK s b i = true ↔ ((b = 0 ∨ b = 1) ∧ (0 ≤ i ∧ i < 100) ∧ (0 ≤ s ∧ s < 99991)) := by simp [Mk.isK]
theorem isK_no (s b i : Int) : Mk.isK s b i = false ↔ ¬ ((b = 0 ∨ b = 1) ∧ (0 ≤ i ∧ i < 100) ∧ (0 ≤ s ∧ s < 99991)) := by
  unfold Mk.isK; rw [decide_eq_false_iff_not]
theorem isM_isK (s b i : Int) (hb : b = 0 ∨ b = 1) (hi : 0 ≤ i ∧ i < 100) : Mk.isM s = Mk.isK s b i := by
  unfold Mk.isM Mk.isK
  rw [decide_eq_decide]
  exact ⟨fun h => ⟨hb, hi, h⟩, fun h => h.2.2⟩
set_option maxRecDepth 100000 in
set_option maxHeartbeats 400000 in
theorem keyIs_any (s b i : Int) (w : World) :
    Calls Try.prog 63 #[.int .i64 s, .int .i64 b, .int .i64 i] w fun e w' => e = .returned (.bool (Mk.isK s b i)) ∧ w = w' := by
  by_cases hb0 : b = 0
  · subst hb0
    by_cases hi : 0 ≤ i
    · by_cases hi2 : i < 100
      · go_enter Try.func63, Try.ntmps63
        go_wp2_with (go_at_call 88; refine (is_any _ _).mono ?_; rintro e w' ⟨rfl, rfl⟩)
        go_ret
        exact ⟨ret_bool (isM_isK _ _ _ (by simp) ⟨hi, hi2⟩), rfl⟩
      · go_enter Try.func63, Try.ntmps63
        go_wp2
        go_ret
        exact ⟨ret_bool ((isK_no _ _ _).2 (by omega)).symm, rfl⟩
    · go_enter Try.func63, Try.ntmps63
      go_wp2
      go_ret
      exact ⟨ret_bool ((isK_no _ _ _).2 (by omega)).symm, rfl⟩
  · by_cases hb1 : b = 1
    · subst hb1
      by_cases hi : 0 ≤ i
      · by_cases hi2 : i < 100
        · go_enter Try.func63, Try.ntmps63
          go_wp2_with (go_at_call 88; refine (is_any _ _).mono ?_; rintro e w' ⟨rfl, rfl⟩)
          go_ret
          exact ⟨ret_bool (isM_isK _ _ _ (by simp) ⟨hi, hi2⟩), rfl⟩
        · go_enter Try.func63, Try.ntmps63
          go_wp2
          go_ret
          exact ⟨ret_bool ((isK_no _ _ _).2 (by omega)).symm, rfl⟩
      · go_enter Try.func63, Try.ntmps63
        go_wp2
        go_ret
        exact ⟨ret_bool ((isK_no _ _ _).2 (by omega)).symm, rfl⟩
    · have h0 : (b != 0) = true := by simpa using hb0
      have h1 : (b != 1) = true := by simpa using hb1
      go_enter Try.func63, Try.ntmps63
      go_wp2
      go_ret
      exact ⟨ret_bool ((isK_no _ _ _).2 (by omega)).symm, rfl⟩
set_option maxRecDepth 100000 in
set_option maxHeartbeats 400000 in
theorem digits_any (id : Int) (w : World) (h0 : 0 ≤ id) (h1 : id < 99991) :
    Calls Try.prog 106 #[.int .i64 id] w fun e w' => e = .returned (ag5 (Mk.d0 id) (Mk.d1 id) (Mk.d2 id) (Mk.lk id / 8) (Mk.lk id % 8)) ∧ Below w.heap.size w w' := by
  go_enter Try.func106, Try.ntmps106
  go_wp2
  refine bodyPost_ret (v := ag5 (Mk.d0 id) (Mk.d1 id) (Mk.d2 id) (Mk.lk id / 8) (Mk.lk id % 8)) ?_ rfl ⟨rfl, ?_⟩
  · simp [results, Try.results106, go_sem, ag5, Mk.d0, Mk.d1, Mk.d2, Mk.lk]
  · exact (Below.refl _ _).alloc (Nat.le_refl _) _
set_option maxRecDepth 100000 in
set_option maxHeartbeats 1000000 in
theorem mixAll_any (a b c d f : Int) (w : World) (ha : 0 ≤ a ∧ a < 99991) (hb : 0 ≤ b ∧ b < 99991) (hc : 0 ≤ c ∧ c < 99991) (hd : 0 ≤ d ∧ d < 99991) (hf : 0 ≤ f ∧ f < 99991) :
    Calls Try.prog 66 #[.agg #[.int .i64 a, .int .i64 b, .int .i64 c, .int .i64 d, .int .i64 f]] w fun e w' => e = .returned (.int .i64 (Mk.mixL 1 [a, b, c, d, f])) ∧ Below w.heap.size w w' := by
  have b1 := Mk.mx_bd 1 a
  have b2 := Mk.mx_bd (Mk.mx 1 a) b
  have b3 := Mk.mx_bd (Mk.mx (Mk.mx 1 a) b) c
  have b4 := Mk.mx_bd (Mk.mx (Mk.mx (Mk.mx 1 a) b) c) d
  go_enter Try.func66, Try.ntmps66
  go_wp2
  refine wp_loop_rounds 6 ?_
  iterate 5
    rw [rounds_succ]
    go_wp2_with (go_at_call 80; refine (mix_any _ _ _ (by omega) (by omega) (by omega) (by omega)).mono ?_; rintro e w' ⟨rfl, rfl⟩)
  rw [rounds_succ]
  go_wp2
  go_ret
  exact ⟨rfl, (Below.refl _ _).alloc (Nat.le_refl _) _⟩
set_option maxRecDepth 100000 in
set_option maxHeartbeats 2000000 in
theorem secrets_any (s b i : Int) (w : World) (hk : Mk.isK s b i = true) :
    Calls Try.prog 64 #[.int .i64 s, .int .i64 b, .int .i64 i] w fun e w' => e = .returned (ag5 (Mk.sec s b i 0) (Mk.sec s b i 1) (Mk.sec s b i 2) (Mk.sec s b i 3) (Mk.sec s b i 4)) ∧ Below w.heap.size w w' := by
  have hk' := (isK_iff _ _ _).1 hk
  have hb1 : 0 ≤ b ∧ b ≤ 1 := by omega
  have hi1 := hk'.2.1
  have hs1 := hk'.2.2
  clear hk hk'
  have c1 := Mk.mx_bd s b
  have c2 := Mk.mx_bd (Mk.mx s b) i
  have e0 := Mk.mx_bd (Mk.mx (Mk.mx s b) i) 0
  have e1 := Mk.mx_bd (Mk.mx (Mk.mx s b) i) 1
  have e2 := Mk.mx_bd (Mk.mx (Mk.mx s b) i) 2
  have e3 := Mk.mx_bd (Mk.mx (Mk.mx s b) i) 3
  have e4 := Mk.mx_bd (Mk.mx (Mk.mx s b) i) 4
  go_enter Try.func64, Try.ntmps64
  go_wp2_with (go_at_call 80; refine (mix_any _ _ _ (by omega) (by omega) (by omega) (by omega)).mono ?_; rintro e w' ⟨rfl, rfl⟩)
  refine wp_loop_rounds 6 ?_
  iterate 5
    rw [rounds_succ]
    go_wp2_with (first | (go_at_call 80; refine (mix_any _ _ _ (by omega) (by omega) (by omega) (by omega)).mono ?_; rintro e w' ⟨rfl, rfl⟩) | (go_at_call 91; refine (turn_any _ _ (by omega) (by omega)).mono ?_; rintro e w' ⟨rfl, rfl⟩))
  rw [rounds_succ]
  go_wp2
  refine bodyPost_ret (v := ag5 (Mk.sec s b i 0) (Mk.sec s b i 1) (Mk.sec s b i 2) (Mk.sec s b i 3) (Mk.sec s b i 4)) ?_ rfl ⟨rfl, ?_⟩
  · simp [results, Try.results64, go_sem, ag5, Mk.sec]
  · exact ((Below.refl _ _).alloc (Nat.le_refl _) _).alloc (by simp) _
end Go.Proofs.Ytffgpepngcnjeab

namespace Go.Proofs.Ytffgpepngcnjeab
open Go.RowKit
set_option maxRecDepth 100000 in
set_option maxHeartbeats 2000000 in
theorem address_yes (s b i : Int) (w : World) (hk : Mk.isK s b i = true) :
    Calls Try.prog 43 #[.int .i64 s, .int .i64 b, .int .i64 i] w fun e w' => e = .returned (.tuple #[.int .i64 (Mk.adr s b i), .int .i64 0]) ∧ Below w.heap.size w w' := by
  have e0 := Mk.sec_bd s b i 0
  have e1 := Mk.sec_bd s b i 1
  have e2 := Mk.sec_bd s b i 2
  have e3 := Mk.sec_bd s b i 3
  have e4 := Mk.sec_bd s b i 4
  have t0 := Mk.tnN_bd _ e0.1 e0.2 7
  have t1 := Mk.tnN_bd _ e1.1 e1.2 7
  have t2 := Mk.tnN_bd _ e2.1 e2.2 7
  have t3 := Mk.tnN_bd _ e3.1 e3.2 7
  have t4 := Mk.tnN_bd _ e4.1 e4.2 7
  go_enter Try.func43, Try.ntmps43
  go_wp2_with (first | (go_at_call 63; refine (keyIs_any _ _ _ _).mono ?_; rintro e w' ⟨rfl, rfl⟩) | (go_at_call 64; refine (secrets_any _ _ _ _ hk).mono ?_; rintro e w1 ⟨rfl, hb1⟩))
  refine wp_loop_rounds 6 ?_
  iterate 5
    rw [rounds_succ]
    go_wp2_with (go_at_call 65; refine (times_any _ _ _ (by omega) (by omega) (by omega) (by omega)).mono ?_; rintro e w' ⟨rfl, rfl⟩)
  rw [rounds_succ]
  go_wp2_with (go_at_call 66; refine (mixAll_any _ _ _ _ _ _ t0 t1 t2 t3 t4).mono ?_; rintro e w2 ⟨rfl, hb2⟩)
  go_ret2
  refine ⟨rfl, ?_⟩
  have hb1 : Below w.heap.size w w1 := by assumption
  have hs := hb1.size
  exact (hb1.alloc hs _).trans (hb2.mono (by simp; omega))
end Go.Proofs.Ytffgpepngcnjeab

namespace Go.Proofs.Ytffgpepngcnjeab
open Go.RowKit
def secL (s b i : Int) : List Int := [Mk.sec s b i 0, Mk.sec s b i 1, Mk.sec s b i 2, Mk.sec s b i 3, Mk.sec s b i 4]
def dgL (id : Int) : List Int := [Mk.dg id 0, Mk.dg id 1, Mk.dg id 2, Mk.dg id 3, Mk.dg id 4]
/-- what five cells hold once the first k of them are written -/
def partL (f : Nat → Int) (k : Nat) : List Int := (List.range 5).map fun j => if j < k then f j else 0
theorem partL_len (f : Nat → Int) (k : Nat) : (partL f k).length = 5 := by simp [partL]
theorem partL_set (f : Nat → Int) (k : Nat) : (partL f k).set k (f k) = partL f (k + 1) := by
  apply List.ext_getElem
  · simp [partL]
  · intro j h1 h2
    simp only [partL, List.getElem_set, List.getElem_map, List.getElem_range]
    by_cases e : k = j
    · subst e; simp
    · have : (j < k) ↔ (j < k + 1) := by omega
      simp [e, this]
theorem partL_all (f : Nat → Int) : partL f 5 = (List.range 5).map f := by
  unfold partL
  apply List.map_congr_left
  intro j hj
  have : j < 5 := by simpa using hj
  simp [this]
theorem dgL_at (id : Int) (k : Nat) (h : k < 5) : (dgL id).getD k 0 = Mk.dg id k := by
  match k, h with
  | 0, _ | 1, _ | 2, _ | 3, _ | 4, _ => rfl
theorem row_new (w : World) (a b c d e : Int) (t : TypeId) : Row (w.alloc (.cells #[.int .i64 a, .int .i64 b, .int .i64 c, .int .i64 d, .int .i64 e] t)) w.heap.size 0 [a, b, c, d, e] := by
  intro j hj
  rw [World.cell?_alloc_new]
  match j, hj with
  | 0, _ | 1, _ | 2, _ | 3, _ | 4, _ => rfl
structure SealInv (w : World) (s b i id : Int) (B1 B2 B3 : Nat) (k : Nat) (wr : World) : Prop where
  r1 : Row wr B1 0 (secL s b i)
  r2 : Row wr B2 0 (dgL id)
  r3 : Row wr B3 0 (partL (fun j => Mk.tnN (Mk.sec s b i j) (Mk.dg id j).toNat) k)
  fr : Free wr B3 0 5
  bl : Below w.heap.size w wr
  n1 : B3 ≠ B1
  n2 : B3 ≠ B2
  lo : w.heap.size ≤ B3
theorem SealInv.step {w : World} {s b i id : Int} {B1 B2 B3 k : Nat} {wr : World} (h : SealInv w s b i id B1 B2 B3 k wr) (hk : k < 5) :
    SealInv w s b i id B1 B2 B3 (k + 1) (wr.setCell ⟨B3, k, none⟩ (.int .i64 (Mk.tnN (Mk.sec s b i k) (Mk.dg id k).toNat))) := by
  refine ⟨h.r1.other (by simpa using h.n1) _, h.r2.other (by simpa using h.n2) _, ?_, h.fr.set _ _, h.bl.setCell (by simpa using h.lo) _, h.n1, h.n2, h.lo⟩
  have := h.r3.set (k := k) (by rw [partL_len]; exact hk) (Mk.tnN (Mk.sec s b i k) (Mk.dg id k).toNat)
  rw [Nat.zero_add, partL_set (fun j => Mk.tnN (Mk.sec s b i j) (Mk.dg id j).toNat) k] at this
  exact this
theorem SealInv.drew {w : World} {s b i id : Int} {B1 B2 B3 k : Nat} {wr : World} (h : SealInv w s b i id B1 B2 B3 k wr) : SealInv w s b i id B1 B2 B3 k wr.drew :=
  ⟨h.r1, h.r2, h.r3, h.fr, h.bl.drew, h.n1, h.n2, h.lo⟩
end Go.Proofs.Ytffgpepngcnjeab

namespace Go.Proofs.Ytffgpepngcnjeab
open Go.RowKit
/-- numbers that may be mixed in -/
def Mixable (l : List Int) : Prop := ∀ j, j < l.length → 0 ≤ l.getD j 0 ∧ l.getD j 0 ≤ 1099511627776
end Go.Proofs.Ytffgpepngcnjeab

namespace Go.Proofs.Ytffgpepngcnjeab
open Go.RowKit
structure OpenInv (w : World) (id : Int) (l : List Int) (b off B1 B2 : Nat) (k : Nat) (wr : World) : Prop where
  r0 : Row wr b off l
  r1 : Row wr B1 0 (dgL id)
  r2 : Row wr B2 0 (partL (fun j => Mk.tnN (l.getD j 0) (7 - Mk.dg id j).toNat) k)
  fr : Free wr B2 0 5
  bl : Below w.heap.size w wr
  n0 : B2 ≠ b
  n1 : B2 ≠ B1
  lo : w.heap.size ≤ B2
theorem OpenInv.step {w : World} {id : Int} {l : List Int} {b off B1 B2 k : Nat} {wr : World} (h : OpenInv w id l b off B1 B2 k wr) (hk : k < 5) :
    OpenInv w id l b off B1 B2 (k + 1) (wr.setCell ⟨B2, k, none⟩ (.int .i64 (Mk.tnN (l.getD k 0) (7 - Mk.dg id k).toNat))) := by
  refine ⟨h.r0.other (by simpa using h.n0) _, h.r1.other (by simpa using h.n1) _, ?_, h.fr.set _ _, h.bl.setCell (by simpa using h.lo) _, h.n0, h.n1, h.lo⟩
  have := h.r2.set (k := k) (by rw [partL_len]; exact hk) (Mk.tnN (l.getD k 0) (7 - Mk.dg id k).toNat)
  rw [Nat.zero_add, partL_set (fun j => Mk.tnN (l.getD j 0) (7 - Mk.dg id j).toNat) k] at this
  exact this
theorem OpenInv.drew {w : World} {id : Int} {l : List Int} {b off B1 B2 k : Nat} {wr : World} (h : OpenInv w id l b off B1 B2 k wr) : OpenInv w id l b off B1 B2 k wr.drew :=
  ⟨h.r0, h.r1, h.r2, h.fr, h.bl.drew, h.n0, h.n1, h.lo⟩
theorem open_start {w w1 : World} {id : Int} {l : List Int} {b off : Nat} (hl : l ≠ []) (hr : Row w b off l) (hb1 : Below w.heap.size w w1) :
    OpenInv w id l b off w1.heap.size (w1.heap.size + 1) 0 ((w1.alloc (.cells #[.int .i64 (Mk.d0 id), .int .i64 (Mk.d1 id), .int .i64 (Mk.d2 id), .int .i64 (Mk.lk id / 8), .int .i64 (Mk.lk id % 8)] 128)).alloc (.cells #[.int .i64 0, .int .i64 0, .int .i64 0, .int .i64 0, .int .i64 0] 128)) := by
  have hs1 := hb1.size
  have hlt := hr.lt hl
  refine ⟨((hr.grown hb1).alloc _).alloc _, (row_new w1 _ _ _ _ _ 128).alloc _, ?_, ?_, ?_, by omega, by omega, by omega⟩
  · have := row_new (w1.alloc (.cells #[.int .i64 (Mk.d0 id), .int .i64 (Mk.d1 id), .int .i64 (Mk.d2 id), .int .i64 (Mk.lk id / 8), .int .i64 (Mk.lk id % 8)] 128)) 0 0 0 0 0 128
    rw [World.size_alloc] at this
    exact this
  · intro j hj
    exact World.frozen?_alloc_at _ _ _ _ (by simp)
  · exact (hb1.alloc hs1 _).alloc (by simp; omega) _
theorem opn_eq (id : Int) (l : List Int) : Mk.opn id l = Mk.mixL 1 [Mk.tnN (l.getD 0 0) (7 - Mk.dg id 0).toNat, Mk.tnN (l.getD 1 0) (7 - Mk.dg id 1).toNat, Mk.tnN (l.getD 2 0) (7 - Mk.dg id 2).toNat, Mk.tnN (l.getD 3 0) (7 - Mk.dg id 3).toNat, Mk.tnN (l.getD 4 0) (7 - Mk.dg id 4).toNat] := rfl
theorem allM_bd {l : List Int} (h : allM l = true) (k : Nat) (hk : k < l.length) : 0 ≤ l.getD k 0 ∧ l.getD k 0 < 99991 := by
  unfold allM at h
  rw [List.all_eq_true] at h
  have := h _ (List.getElem_mem hk)
  rw [Mk.isM_iff] at this
  simpa [List.getD, hk] using this
theorem isS_iff {l : List Int} (h : isS l = true) : l.length = 5 ∧ allM l = true := by
  simpa [isS] using h
set_option maxRecDepth 100000 in
set_option maxHeartbeats 1000000 in
theorem open_row (id : Int) (b off c : Nat) (l : List Int) (w : World) (hm : Mk.isM id = true) (hs : isS l = true) (hr : Row w b off l) :
    Calls Try.prog 104 #[.int .i64 id, .slice (some ⟨b, off, none⟩) 5 c] w fun e w' => e = .returned (.tuple #[.int .i64 (Mk.opn id l), .int .i64 0]) ∧ Below w.heap.size w w' := by
  have hm' := (Mk.isM_iff id).1 hm
  obtain ⟨h5, hall⟩ := isS_iff hs
  have HR : Hid (Row w b off l) := hr
  have H5 : Hid (l.length = 5) := h5
  have HA : Hid (allM l = true) := hall
  have hne : l ≠ [] := by intro e; rw [e] at h5; simp at h5
  clear hr h5 hall
  go_enter Try.func104, Try.ntmps104
  go_wp2_with (first | (go_at_call 88; refine (is_any _ _).mono ?_; rintro e w' ⟨rfl, rfl⟩) | (go_at_call 105; refine (isSeal_any _ _ _ _ _ (Or.inr ⟨_, _, rfl, HR.out⟩) H5.out (by omega)).mono ?_; rintro e w' ⟨rfl, rfl⟩) | (go_at_call 106; refine (digits_any _ _ hm'.1 hm'.2).mono ?_; rintro e w1 ⟨rfl, hb1⟩))
  have hinv := open_start (id := id) hne HR.out hb1
  have HI : Hid _ := hinv
  clear hinv hb1
  generalize hB1 : w1.heap.size = B1 at *
  clear hB1
  go_loopw [8] (fun v wr => ∃ k : Nat, k ≤ 5 ∧ v = .int .i64 k ∧ OpenInv w id l b off B1 (B1 + 1) k wr) (fun v _ => 5 - (intOf v).toNat)
  case atStart => exact ⟨0, by omega, rfl, HI.out⟩
  case round =>
    obtain ⟨k, hk5, rfl, hinv⟩ := hrel
    by_cases hlt : k < 5
    · have c0 : wr.cell? ⟨b, off + k, none⟩ = some (.int .i64 (l.getD k 0)) := hinv.r0 k (by rw [H5.out]; exact hlt)
      have c1 : wr.cell? ⟨B1, k, none⟩ = some (.int .i64 (Mk.dg id k)) := by
        have := hinv.r1 k (by simpa [dgL] using hlt); rw [Nat.zero_add, dgL_at id k hlt] at this; exact this
      obtain ⟨v3, c3⟩ : ∃ v3, wr.cell? ⟨B1 + 1, k, none⟩ = some v3 := by
        have := hinv.r2 k (by rw [partL_len]; exact hlt); rw [Nat.zero_add] at this; exact ⟨_, this⟩
      have f3 : wr.frozen? ⟨B1 + 1, k, none⟩ = false := by
        have := hinv.fr k hlt; rw [Nat.zero_add] at this; exact this
      have bs := allM_bd HA.out k (by rw [H5.out]; exact hlt)
      have bd := Mk.dg_bd id k
      have hw7 : IntKind.i64.wrap (7 - Mk.dg id k) = 7 - Mk.dg id k := IntWalk.i64_in _ ⟨by omega, by omega⟩
      have hst := hinv.drew.step hlt
      generalize l.getD k 0 = x at c0 bs hst
      have HS : Hid _ := hst
      clear hst
      go_wp2
      go_region_with (go_at_call 65; refine (times_any _ _ _ (by omega) (by omega) (by omega) (by omega)).mono ?_; rintro e w' ⟨rfl, rfl⟩)
      all_goals go_wp2
      all_goals go_roundw
      all_goals first | exact ⟨k + 1, by omega, by go_num, HS.out⟩ | (simp [intOf]; omega)
    · have hk : k = 5 := by omega
      subst hk
      have r2 := hinv.r2
      rw [partL_all] at r2
      have t0 := Mk.tnN_bd _ (allM_bd HA.out 0 (by rw [H5.out]; decide)).1 (allM_bd HA.out 0 (by rw [H5.out]; decide)).2 (7 - Mk.dg id 0).toNat
      have t1 := Mk.tnN_bd _ (allM_bd HA.out 1 (by rw [H5.out]; decide)).1 (allM_bd HA.out 1 (by rw [H5.out]; decide)).2 (7 - Mk.dg id 1).toNat
      have t2 := Mk.tnN_bd _ (allM_bd HA.out 2 (by rw [H5.out]; decide)).1 (allM_bd HA.out 2 (by rw [H5.out]; decide)).2 (7 - Mk.dg id 2).toNat
      have t3 := Mk.tnN_bd _ (allM_bd HA.out 3 (by rw [H5.out]; decide)).1 (allM_bd HA.out 3 (by rw [H5.out]; decide)).2 (7 - Mk.dg id 3).toNat
      have t4 := Mk.tnN_bd _ (allM_bd HA.out 4 (by rw [H5.out]; decide)).1 (allM_bd HA.out 4 (by rw [H5.out]; decide)).2 (7 - Mk.dg id 4).toNat
      have q0 : wr.cell? ⟨B1 + 1, 0, none⟩ = some (.int .i64 (Mk.tnN (l.getD 0 0) (7 - Mk.dg id 0).toNat)) := r2 0 (by simp)
      have q1 : wr.cell? ⟨B1 + 1, 1, none⟩ = some (.int .i64 (Mk.tnN (l.getD 1 0) (7 - Mk.dg id 1).toNat)) := r2 1 (by simp)
      have q2 : wr.cell? ⟨B1 + 1, 2, none⟩ = some (.int .i64 (Mk.tnN (l.getD 2 0) (7 - Mk.dg id 2).toNat)) := r2 2 (by simp)
      have q3 : wr.cell? ⟨B1 + 1, 3, none⟩ = some (.int .i64 (Mk.tnN (l.getD 3 0) (7 - Mk.dg id 3).toNat)) := r2 3 (by simp)
      have q4 : wr.cell? ⟨B1 + 1, 4, none⟩ = some (.int .i64 (Mk.tnN (l.getD 4 0) (7 - Mk.dg id 4).toNat)) := r2 4 (by simp)
      have HO : Hid _ := opn_eq id l
      generalize Mk.tnN (l.getD 0 0) (7 - Mk.dg id 0).toNat = x0 at *
      generalize Mk.tnN (l.getD 1 0) (7 - Mk.dg id 1).toNat = x1 at *
      generalize Mk.tnN (l.getD 2 0) (7 - Mk.dg id 2).toNat = x2 at *
      generalize Mk.tnN (l.getD 3 0) (7 - Mk.dg id 3).toNat = x3 at *
      generalize Mk.tnN (l.getD 4 0) (7 - Mk.dg id 4).toNat = x4 at *
      clear r2
      go_wp2_with (go_at_call 66; refine (mixAll_any _ _ _ _ _ _ t0 t1 t2 t3 t4).mono ?_; rintro e w2 ⟨rfl, hb2⟩)
      go_ret2
      exact ⟨by rw [HO.out]; rfl, below_blk hinv.bl hb2⟩
set_option maxRecDepth 100000 in
set_option maxHeartbeats 400000 in
theorem open_noSeal (id : Int) (ao : Option Addr) (n c : Nat) (l : List Int) (w : World) (hm : Mk.isM id = true) (hr : IntsAt w ao l) (hn : l.length = n) (hx : n ≤ 9223372036854775807) (hs : isS l = false) :
    Calls Try.prog 104 #[.int .i64 id, .slice ao n c] w fun e w' => e = .returned (.tuple #[.int .i64 0, .int .i64 2]) ∧ w = w' := by
  have HR : Hid (IntsAt w ao l) := hr
  have HN : Hid (l.length = n) := hn
  clear hr hn
  go_enter Try.func104, Try.ntmps104
  go_wp2_with (first | (go_at_call 88; refine (is_any _ _).mono ?_; rintro e w' ⟨rfl, rfl⟩) | (go_at_call 105; refine (isSeal_any _ _ _ _ _ HR.out HN.out (by omega)).mono ?_; rintro e w' ⟨rfl, rfl⟩))
  go_ret2
  exact ⟨rfl, rfl⟩
theorem open_yes (id : Int) (ao : Option Addr) (n c : Nat) (l : List Int) (w : World) (hm : Mk.isM id = true) (hr : IntsAt w ao l) (hn : l.length = n) (hs : isS l = true) :
    Calls Try.prog 104 #[.int .i64 id, .slice ao n c] w fun e w' => e = .returned (.tuple #[.int .i64 (Mk.opn id l), .int .i64 0]) ∧ Below w.heap.size w w' := by
  have h5 := (isS_iff hs).1
  obtain rfl : n = 5 := by omega
  rcases hr with rfl | ⟨b, off, rfl, hr⟩
  · simp at h5
  · exact open_row id b off c l w hm hs hr
end Go.Proofs.Ytffgpepngcnjeab

namespace Go.Proofs.Ytffgpepngcnjeab
open Go.RowKit
end Go.Proofs.Ytffgpepngcnjeab

namespace Go.Proofs.Ytffgpepngcnjeab
open Go.RowKit
theorem hsz1 {w w1 : World} {B : Nat} {o p : Obj} (h : w.heap.size = B) (hl : Below B ((w.alloc o).alloc p).drew w1) : B ≤ w1.heap.size := by
  have := hl.size
  rw [World.size_drew, World.size_alloc, World.size_alloc] at this
  omega
end Go.Proofs.Ytffgpepngcnjeab

namespace Go.Proofs.Ytffgpepngcnjeab
open Go.RowKit
theorem le_oned (w : World) (o : Obj) : w.heap.size ≤ (w.alloc o).drew.heap.size := by rw [World.size_drew, World.size_alloc]; omega
end Go.Proofs.Ytffgpepngcnjeab

namespace Go.Proofs.Ytffgpepngcnjeab
open Go.RowKit
end Go.Proofs.Ytffgpepngcnjeab

namespace Go.Proofs.Ytffgpepngcnjeab
open Go.RowKit
theorem sizeInfo3 : Option.map (fun x : TypeInfo => x.size) (Try.prog.info? 3) = some 1 := by kernel_rfl
theorem copy_src {w W : World} {ao : Option Addr} {l : List Int} (h : IntsAt w ao l) (hW : Below w.heap.size w W) (g : Nat) : 0 < (l.map (Value.int .i64)).length →
    some (⟨g, 0, none⟩ : Addr) = some ⟨g, 0, none⟩ ∧ ∃ ad, ao = some ad ∧ ∀ (j : Nat) (v : Value), (l.map (Value.int .i64))[j]? = some v → W.cell? (ad.add j) = some v := by
  intro hp
  refine ⟨rfl, ?_⟩
  rcases h with rfl | ⟨b, off, rfl, hr⟩
  · simp at hp
  · refine ⟨_, rfl, ?_⟩
    intro j v hj
    have hlt : j < l.length := by
      apply Classical.byContradiction
      intro hc
      rw [List.getElem?_eq_none (by rw [List.length_map]; omega)] at hj
      cases hj
    have := (hr.grown hW) j hlt
    rw [List.getElem?_map, List.getElem?_eq_getElem hlt] at hj
    simp at hj
    rw [← hj]
    rw [Go.WideShapes.add_plain]
    simpa [List.getD, hlt] using this
theorem ints_one (l : List Int) : ∀ v ∈ l.map (Value.int .i64), v.oneCell' = true := by
  intro v hv
  obtain ⟨x, _, rfl⟩ := List.mem_map.1 hv
  rfl
theorem heap_made (w : World) (a : Array Value) (t : TypeId) : (w.alloc (.cells a t)).heap[w.heap.size]? = some (.cells a.toList.toArray t) := by
  show (w.heap.push _)[w.heap.size]? = _
  rw [Array.getElem?_push_size]
theorem Row.last {w : World} {b n : Nat} {l : List Int} {y : Int} (h : Row w b 0 (l ++ [y])) (hn : l.length = n) : w.cell? ⟨b, n, none⟩ = some (.int .i64 y) := by
  have := h n (by simp [hn])
  rw [Nat.zero_add] at this
  rw [this]
  subst hn
  simp [List.getD]
end Go.Proofs.Ytffgpepngcnjeab

namespace Go.Proofs.Ytffgpepngcnjeab
open Go.RowKit
/-- an input: its numbers, its seal as a slice, the seal's numbers -/
structure InD where
  id : Int
  pos : Int
  ao : Option Addr
  n : Nat
  c : Nat
  l : List Int
def dIn : InD := ⟨0, 0, none, 0, 0, []⟩
structure InOk (w : World) (x : InD) : Prop where
  lies : IntsAt w x.ao x.l
  len : x.l.length = x.n
  sz : x.n ≤ 17592186044416
  nil : x.ao = none → x.c = 0
structure InCells (w : World) (b off : Nat) (x : InD) : Prop where
  c0 : w.cell? ⟨b, off, none⟩ = some (.int .i64 x.id)
  c1 : w.cell? ⟨b, off + 1, none⟩ = some (.int .i64 x.pos)
  c2 : w.cell? ⟨b, off + 2, none⟩ = some (.slice x.ao x.n x.c)
def InsRow (w : World) (b off : Nat) (xs : List InD) : Prop := ∀ j, j < xs.length → InCells w b (off + j * 3) (xs.getD j dIn) ∧ InOk w (xs.getD j dIn)
def InsAt (w : World) (ao : Option Addr) (xs : List InD) : Prop := xs = [] ∨ ∃ b off, ao = some ⟨b, off, none⟩ ∧ InsRow w b off xs
def OutCells (w : World) (b off : Nat) (x : Int × Int) : Prop := w.cell? ⟨b, off, none⟩ = some (.int .i64 x.1) ∧ w.cell? ⟨b, off + 1, none⟩ = some (.int .i64 x.2)
def OutsRow (w : World) (b off : Nat) (ys : List (Int × Int)) : Prop := ∀ j, j < ys.length → OutCells w b (off + j * 2) (ys.getD j (0, 0))
def OutsAt (w : World) (ao : Option Addr) (ys : List (Int × Int)) : Prop := ys = [] ∨ ∃ b off, ao = some ⟨b, off, none⟩ ∧ OutsRow w b off ys
theorem InCells.below {w w' : World} {b off : Nat} {x : InD} (h : InCells w b off x) {B : Nat} (hb : Below B w w') (hB : b < B) : InCells w' b off x :=
  ⟨(hb.cell (p := ⟨b, off, none⟩) hB).trans h.c0, (hb.cell (p := ⟨b, off + 1, none⟩) hB).trans h.c1, (hb.cell (p := ⟨b, off + 2, none⟩) hB).trans h.c2⟩
theorem InOk.grown {w w' : World} {x : InD} (h : InOk w x) (hb : Below w.heap.size w w') : InOk w' x := ⟨h.lies.grown hb, h.len, h.sz, h.nil⟩
theorem InsRow.grown {w w' : World} {b off : Nat} {xs : List InD} (h : InsRow w b off xs) (hb : Below w.heap.size w w') : InsRow w' b off xs :=
  fun j hj => ⟨(h j hj).1.below hb (cell_lt (h j hj).1.c0), (h j hj).2.grown hb⟩
theorem InsAt.grown {w w' : World} {ao : Option Addr} {xs : List InD} (h : InsAt w ao xs) (hb : Below w.heap.size w w') : InsAt w' ao xs := by
  rcases h with h | ⟨b, off, h, hr⟩
  · exact Or.inl h
  · exact Or.inr ⟨b, off, h, hr.grown hb⟩
theorem OutsRow.grown {w w' : World} {b off : Nat} {ys : List (Int × Int)} (h : OutsRow w b off ys) (hb : Below w.heap.size w w') : OutsRow w' b off ys :=
  fun j hj => ⟨(hb.cell (p := ⟨b, off + j * 2, none⟩) (cell_lt (h j hj).1)).trans (h j hj).1, (hb.cell (p := ⟨b, off + j * 2 + 1, none⟩) (cell_lt (h j hj).2)).trans (h j hj).2⟩
theorem OutsAt.grown {w w' : World} {ao : Option Addr} {ys : List (Int × Int)} (h : OutsAt w ao ys) (hb : Below w.heap.size w w') : OutsAt w' ao ys := by
  rcases h with h | ⟨b, off, h, hr⟩
  · exact Or.inl h
  · exact Or.inr ⟨b, off, h, hr.grown hb⟩
/-- behind what only makes new blocks all old cells read as before -/
theorem bcell {W w1 : World} (hb : Below W.heap.size W w1) : (∀ b o, b < W.heap.size → w1.cell? ⟨b, o, none⟩ = W.cell? ⟨b, o, none⟩) ∧ (∀ b o, b < W.heap.size → w1.frozen? ⟨b, o, none⟩ = W.frozen? ⟨b, o, none⟩) :=
  ⟨fun b o h => hb.cell (p := ⟨b, o, none⟩) h, fun b o h => hb.frozen (p := ⟨b, o, none⟩) h⟩
def rIn (x : InD) : Bool := Mk.isM x.id && (decide (0 ≤ x.pos ∧ x.pos < 8) && (decide (x.n = 0) || isS x.l))
def rOut (y : Int × Int) : Bool := Mk.isM y.1 && decide (10 ≤ y.2 ∧ y.2 ≤ 1099511627776)
def rIns (xs : List InD) : Bool := decide (xs.length ≤ 10) && xs.all rIn
def rOuts (ys : List (Int × Int)) : Bool := decide (1 ≤ ys.length ∧ ys.length ≤ 8) && ys.all rOut
def rTx (t : Int) (xs : List InD) (ys : List (Int × Int)) : Bool := decide (0 ≤ t ∧ t ≤ 1099511627776) && (rIns xs && rOuts ys)
set_option maxRecDepth 100000 in
set_option maxHeartbeats 400000 in
theorem rightOut_any (a v : Int) (w : World) :
    Calls Try.prog 67 #[.agg #[.int .i64 a, .int .i64 v]] w fun e w' => e = .returned (.bool (rOut (a, v))) ∧ Below w.heap.size w w' := by
  cases hm : Mk.isM a
  · go_enter Try.func67, Try.ntmps67
    go_wp2_with (go_at_call 88; refine (is_any _ _).mono ?_; rintro e w' ⟨rfl, rfl⟩)
    go_ret
    exact ⟨ret_bool (by simp [rOut, hm]), (Below.refl _ _).alloc (Nat.le_refl _) _⟩
  · by_cases h1 : 10 ≤ v
    · by_cases h2 : v ≤ 1099511627776
      · go_enter Try.func67, Try.ntmps67
        go_wp2_with (go_at_call 88; refine (is_any _ _).mono ?_; rintro e w' ⟨rfl, rfl⟩)
        go_ret
        exact ⟨ret_bool (by simp [rOut, hm, h1, h2]), (Below.refl _ _).alloc (Nat.le_refl _) _⟩
      · go_enter Try.func67, Try.ntmps67
        go_wp2_with (go_at_call 88; refine (is_any _ _).mono ?_; rintro e w' ⟨rfl, rfl⟩)
        go_ret
        exact ⟨ret_bool (by simp [rOut, hm]; omega), (Below.refl _ _).alloc (Nat.le_refl _) _⟩
    · go_enter Try.func67, Try.ntmps67
      go_wp2_with (go_at_call 88; refine (is_any _ _).mono ?_; rintro e w' ⟨rfl, rfl⟩)
      go_ret
      exact ⟨ret_bool (by simp [rOut, hm]; omega), (Below.refl _ _).alloc (Nat.le_refl _) _⟩
theorem all_snoc {α : Type} (p : α → Bool) (l : List α) (d : α) (k : Nat) (h : k < l.length) : (l.take (k + 1)).all p = ((l.take k).all p && p (l.getD k d)) := by
  rw [List.take_succ_eq_append_getElem h, List.all_append]
  simp [List.getD, h]
theorem all_no {α : Type} (p : α → Bool) (l : List α) (d : α) (k : Nat) (h : k < l.length) (h' : p (l.getD k d) = false) : l.all p = false := by
  rw [List.all_eq_false]
  refine ⟨l[k], List.getElem_mem h, ?_⟩
  simp only [List.getD, List.getElem?_eq_getElem h, Option.getD_some] at h'
  simp [h']
theorem all_done {α : Type} (p : α → Bool) (l : List α) (n : Nat) (hn : l.length = n) (k : Nat) (hk : n ≤ k) (h : (l.take k).all p = true) : true = l.all p := by
  rw [← h, List.take_of_length_le (by omega)]
set_option maxRecDepth 100000 in
set_option maxHeartbeats 400000 in
theorem rightOuts_row (b off n c : Nat) (ys : List (Int × Int)) (w : World) (hr : OutsRow w b off ys) (hn : ys.length = n) (h1 : 1 ≤ n) (h8 : n ≤ 8) :
    Calls Try.prog 47 #[.slice (some ⟨b, off, none⟩) n c] w fun e w' => e = .returned (.bool (ys.all rOut)) ∧ Below w.heap.size w w' := by
  have HR : Hid (OutsRow w b off ys) := hr
  have HN : Hid (ys.length = n) := hn
  have g1 : decide ((n : Int) < 1) = false := by rw [decide_eq_false_iff_not]; omega
  have g2 : decide (8 < (n : Int)) = false := by rw [decide_eq_false_iff_not]; omega
  clear hr hn
  go_enter Try.func47, Try.ntmps47
  go_wp2
  go_loopw [15] (fun i wr => ∃ k : Nat, k ≤ n ∧ i = .int .i64 k ∧ Hid ((ys.take k).all rOut = true) ∧ Below w.heap.size w wr) (fun i _ => n - (intOf i).toNat)
  case atStart => exact ⟨0, Nat.zero_le _, rfl, by show List.all _ _ = true; simp, Below.refl _ _⟩
  case round =>
    obtain ⟨k, hk, rfl, hall, hbl⟩ := hrel
    have hsz := hbl.size
    by_cases hlt : k < n
    · obtain ⟨c0, c1⟩ := (HR.out.grown hbl) k (by rw [HN.out]; exact hlt)
      have HS : Hid _ := all_snoc rOut ys (0, 0) k (by rw [HN.out]; exact hlt)
      have HZ : Hid _ := all_no rOut ys (0, 0) k (by rw [HN.out]; exact hlt)
      generalize ys.getD k (0, 0) = y at c0 c1 HS HZ
      obtain ⟨ya, yv⟩ := y
      simp only at c0 c1
      cases hy : rOut (ya, yv)
      · go_wp2_with (go_at_call 67; refine (rightOut_any _ _ _).mono ?_; rintro e w2 ⟨rfl, hb2⟩; simp only [hy])
        go_ret
        exact ⟨ret_bool (HZ.out hy).symm, below_blk (hbl.alloc hsz _) (by simpa using hb2)⟩
      · go_wp2_with (go_at_call 67; refine (rightOut_any _ _ _).mono ?_; rintro e w2 ⟨rfl, hb2⟩; simp only [hy])
        go_roundw
        case rel => exact ⟨k + 1, by omega, by go_num, by show List.all _ _ = true; rw [HS.out, hall.out, hy]; rfl, below_blk (hbl.alloc hsz _) hb2⟩
        case measure => simp [intOf]; omega
    · go_wp2
      go_ret
      exact ⟨ret_bool (all_done rOut ys n HN.out k (by omega) hall.out), hbl⟩
set_option maxRecDepth 100000 in
set_option maxHeartbeats 400000 in
theorem rightOuts_few (ao : Option Addr) (n c : Nat) (w : World) (hn : n < 1 ∨ 8 < n) :
    Calls Try.prog 47 #[.slice ao n c] w fun e w' => e = .returned (.bool false) ∧ Below w.heap.size w w' := by
  by_cases h : n < 1
  · have g1 : decide ((n : Int) < 1) = true := by rw [decide_eq_true_iff]; omega
    go_enter Try.func47, Try.ntmps47
    go_wp2
    go_ret
    exact ⟨rfl, Below.refl _ _⟩
  · have g1 : decide ((n : Int) < 1) = false := by rw [decide_eq_false_iff_not]; omega
    have g2 : decide (8 < (n : Int)) = true := by rw [decide_eq_true_iff]; omega
    go_enter Try.func47, Try.ntmps47
    go_wp2
    go_ret
    exact ⟨rfl, Below.refl _ _⟩
theorem rightOuts_any (ao : Option Addr) (n c : Nat) (ys : List (Int × Int)) (w : World) (hr : OutsAt w ao ys) (hn : ys.length = n) :
    Calls Try.prog 47 #[.slice ao n c] w fun e w' => e = .returned (.bool (rOuts ys)) ∧ Below w.heap.size w w' := by
  by_cases h : 1 ≤ n ∧ n ≤ 8
  · have e : rOuts ys = ys.all rOut := by unfold rOuts; rw [hn, decide_eq_true h]; rfl
    rw [e]
    rcases hr with rfl | ⟨b, off, rfl, hr⟩
    · simp at hn; omega
    · exact rightOuts_row b off n c ys w hr hn h.1 h.2
  · have e : rOuts ys = false := by unfold rOuts; rw [hn, decide_eq_false h]; rfl
    rw [e]
    exact rightOuts_few ao n c w (by omega)
set_option maxRecDepth 100000 in
set_option maxHeartbeats 1000000 in
theorem rightIn_any (x : InD) (w : World) (hx : InOk w x) :
    Calls Try.prog 101 #[.agg #[.int .i64 x.id, .int .i64 x.pos, .slice x.ao x.n x.c]] w fun e w' => e = .returned (.bool (rIn x)) ∧ Below w.heap.size w w' := by
  obtain ⟨id, pos, ao, n, c, l⟩ := x
  obtain ⟨h1, h2, h3, h4⟩ := hx
  simp only at h1 h2 h3 h4 ⊢
  have HN : Hid (l.length = n) := h2
  have HR : Hid (IntsAt w ao l) := h1
  clear h1 h2 h4
  have bl : ∀ o, Below w.heap.size w (w.alloc o) := fun o => (Below.refl _ _).alloc (Nat.le_refl _) _
  have HB : Hid _ := bl
  clear bl
  cases hm : Mk.isM id
  · go_enter Try.func101, Try.ntmps101
    go_wp2_with (go_at_call 88; refine (is_any _ _).mono ?_; rintro e w' ⟨rfl, rfl⟩)
    go_ret
    exact ⟨ret_bool (by simp [rIn, hm]), HB.out _⟩
  · by_cases p0 : 0 ≤ pos
    · by_cases p1 : pos < 8
      · by_cases hn0 : n = 0
        · subst hn0
          go_enter Try.func101, Try.ntmps101
          go_wp2_with (go_at_call 88; refine (is_any _ _).mono ?_; rintro e w' ⟨rfl, rfl⟩)
          go_ret
          exact ⟨ret_bool (by simp [rIn, hm, p0, p1]), HB.out _⟩
        · have hn0' : ((n : Int) == 0) = false := by rw [beq_eq_false_iff_ne]; omega
          go_enter Try.func101, Try.ntmps101
          go_wp2_with (first | (go_at_call 88; refine (is_any _ _).mono ?_; rintro e w' ⟨rfl, rfl⟩) | (go_at_call 105; refine (isSeal_any _ _ _ l _ (HR.out.grown (HB.out _)) HN.out (by omega)).mono ?_; rintro e w' ⟨rfl, rfl⟩))
          go_ret
          exact ⟨ret_bool (by simp [rIn, hm, p0, p1, hn0]), HB.out _⟩
      · go_enter Try.func101, Try.ntmps101
        go_wp2_with (go_at_call 88; refine (is_any _ _).mono ?_; rintro e w' ⟨rfl, rfl⟩)
        go_ret
        exact ⟨ret_bool (by simp [rIn, hm]; omega), HB.out _⟩
    · go_enter Try.func101, Try.ntmps101
      go_wp2_with (go_at_call 88; refine (is_any _ _).mono ?_; rintro e w' ⟨rfl, rfl⟩)
      go_ret
      exact ⟨ret_bool (by simp [rIn, hm]; omega), HB.out _⟩
set_option maxRecDepth 100000 in
set_option maxHeartbeats 400000 in
theorem rightIns_none (ao : Option Addr) (c : Nat) (w : World) :
    Calls Try.prog 95 #[.slice ao 0 c] w fun e w' => e = .returned (.bool true) ∧ Below w.heap.size w w' := by
  go_enter Try.func95, Try.ntmps95
  go_wp2
  refine wp_loop_rounds 1 ?_
  rw [rounds_succ]
  go_wp2
  go_ret
  exact ⟨rfl, Below.refl _ _⟩
set_option maxRecDepth 100000 in
set_option maxHeartbeats 400000 in
theorem rightIns_row (b off n c : Nat) (xs : List InD) (w : World) (hr : InsRow w b off xs) (hn : xs.length = n) (h8 : n ≤ 10) :
    Calls Try.prog 95 #[.slice (some ⟨b, off, none⟩) n c] w fun e w' => e = .returned (.bool (xs.all rIn)) ∧ Below w.heap.size w w' := by
  have HR : Hid (InsRow w b off xs) := hr
  have HN : Hid (xs.length = n) := hn
  have g2 : decide (10 < (n : Int)) = false := by rw [decide_eq_false_iff_not]; omega
  clear hr hn
  go_enter Try.func95, Try.ntmps95
  go_wp2
  go_loopw [10] (fun i wr => ∃ k : Nat, k ≤ n ∧ i = .int .i64 k ∧ Hid ((xs.take k).all rIn = true) ∧ Below w.heap.size w wr) (fun i _ => n - (intOf i).toNat)
  case atStart => exact ⟨0, Nat.zero_le _, rfl, by show List.all _ _ = true; simp, Below.refl _ _⟩
  case round =>
    obtain ⟨k, hk, rfl, hall, hbl⟩ := hrel
    have hsz := hbl.size
    by_cases hlt : k < n
    · obtain ⟨⟨c0, c1, c2⟩, hok⟩ := (HR.out.grown hbl) k (by rw [HN.out]; exact hlt)
      have HS : Hid _ := all_snoc rIn xs dIn k (by rw [HN.out]; exact hlt)
      have HZ : Hid _ := all_no rIn xs dIn k (by rw [HN.out]; exact hlt)
      generalize xs.getD k dIn = y at c0 c1 c2 hok HS HZ
      have hok' := fun o => hok.grown (w' := wr.alloc o) ((Below.refl _ _).alloc (Nat.le_refl _) _)
      have HK : Hid _ := hok'
      clear hok hok'
      cases hy : rIn y
      · go_wp2_with (go_at_call 101; refine (rightIn_any y _ (HK.out _)).mono ?_; rintro e w2 ⟨rfl, hb2⟩; simp only [hy])
        go_ret
        exact ⟨ret_bool (HZ.out hy).symm, below_blk (hbl.alloc hsz _) (by simpa using hb2)⟩
      · go_wp2_with (go_at_call 101; refine (rightIn_any y _ (HK.out _)).mono ?_; rintro e w2 ⟨rfl, hb2⟩; simp only [hy])
        go_roundw
        case rel => exact ⟨k + 1, by omega, by go_num, by show List.all _ _ = true; rw [HS.out, hall.out, hy]; rfl, below_blk (hbl.alloc hsz _) hb2⟩
        case measure => simp [intOf]; omega
    · go_wp2
      go_ret
      exact ⟨ret_bool (all_done rIn xs n HN.out k (by omega) hall.out), hbl⟩
set_option maxRecDepth 100000 in
set_option maxHeartbeats 400000 in
theorem rightIns_many (ao : Option Addr) (n c : Nat) (w : World) (hn : 10 < n) :
    Calls Try.prog 95 #[.slice ao n c] w fun e w' => e = .returned (.bool false) ∧ Below w.heap.size w w' := by
  have g2 : decide (10 < (n : Int)) = true := by rw [decide_eq_true_iff]; omega
  go_enter Try.func95, Try.ntmps95
  go_wp2
  go_ret
  exact ⟨rfl, Below.refl _ _⟩
theorem rightIns_any (ao : Option Addr) (n c : Nat) (xs : List InD) (w : World) (hr : InsAt w ao xs) (hn : xs.length = n) :
    Calls Try.prog 95 #[.slice ao n c] w fun e w' => e = .returned (.bool (rIns xs)) ∧ Below w.heap.size w w' := by
  by_cases h : n ≤ 10
  · have e : rIns xs = xs.all rIn := by unfold rIns; rw [hn, decide_eq_true h]; rfl
    rw [e]
    rcases hr with rfl | ⟨b, off, rfl, hr⟩
    · have h0 : n = 0 := by rw [← hn]; rfl
      subst h0
      exact rightIns_none ao c w
    · exact rightIns_row b off n c xs w hr hn h
  · have e : rIns xs = false := by unfold rIns; rw [hn, decide_eq_false h]; rfl
    rw [e]
    exact rightIns_many ao n c w (by omega)
set_option maxRecDepth 100000 in
set_option maxHeartbeats 400000 in
theorem rightTag_any (t : Int) (w : World) : Calls Try.prog 46 #[.int .i64 t] w fun e w' => e = .returned (.bool (decide (0 ≤ t ∧ t ≤ 1099511627776))) ∧ w = w' := by
  by_cases t0 : 0 ≤ t
  · by_cases t1 : t ≤ 1099511627776
    · go_enter Try.func46, Try.ntmps46
      go_wp2
      go_ret
      exact ⟨ret_bool (by simp [t0, t1]), rfl⟩
    · go_enter Try.func46, Try.ntmps46
      go_wp2
      go_ret
      exact ⟨ret_bool (by simp; omega), rfl⟩
  · go_enter Try.func46, Try.ntmps46
    go_wp2
    go_ret
    exact ⟨ret_bool (by simp; omega), rfl⟩
set_option maxRecDepth 100000 in
set_option maxHeartbeats 1000000 in
theorem rightShape_any (t : Int) (ai : Option Addr) (n c : Nat) (ap : Option Addr) (m d : Nat) (xs : List InD) (ys : List (Int × Int)) (w : World) (hx : InsAt w ai xs) (hn : xs.length = n) (hy : OutsAt w ap ys) (hm : ys.length = m) :
    Calls Try.prog 79 #[.agg #[.int .i64 t, .slice ai n c, .slice ap m d]] w fun e w' => e = .returned (.bool (rTx t xs ys)) ∧ Below w.heap.size w w' := by
  have HN : Hid (xs.length = n) := hn
  have HM : Hid (ys.length = m) := hm
  have HX : Hid (InsAt w ai xs) := hx
  have HY : Hid (OutsAt w ap ys) := hy
  clear hn hm hx hy
  have bl : ∀ o, Below w.heap.size w (w.alloc o) := fun o => (Below.refl _ _).alloc (Nat.le_refl _) _
  have HB : Hid _ := bl
  clear bl
  cases ht : decide (0 ≤ t ∧ t ≤ 1099511627776)
  · go_enter Try.func79, Try.ntmps79
    go_wp2_with (go_at_call 46; refine (rightTag_any _ _).mono ?_; rintro e w' ⟨rfl, rfl⟩; rw [ht])
    go_ret
    exact ⟨ret_bool (by simp only [rTx, ht]; rfl), HB.out _⟩
  · cases hi : rIns xs
    · go_enter Try.func79, Try.ntmps79
      go_wp2_with (first | (go_at_call 46; refine (rightTag_any _ _).mono ?_; rintro e w' ⟨rfl, rfl⟩; rw [ht]) | (go_at_call 95; refine (rightIns_any _ _ _ xs _ (HX.out.grown (HB.out _)) HN.out).mono ?_; rintro e w1 ⟨rfl, hb1⟩; rw [hi]))
      go_ret
      exact ⟨ret_bool (by simp [rTx, hi]), below_blk (HB.out _) hb1⟩
    · go_enter Try.func79, Try.ntmps79
      go_wp2_with (first | (go_at_call 46; refine (rightTag_any _ _).mono ?_; rintro e w' ⟨rfl, rfl⟩; rw [ht]) | fail)
      refine (rightIns_any _ _ _ xs _ (HX.out.grown (HB.out _)) HN.out).mono ?_
      rintro e w1 ⟨rfl, hb1⟩
      rw [hi]
      have hw1 := below_blk (HB.out _) hb1
      obtain ⟨c1, _⟩ := bcell hb1
      go_wp2_with fail
      refine (rightOuts_any _ _ _ ys _ (HY.out.grown hw1) HM.out).mono ?_
      rintro e w2 ⟨rfl, hb2⟩
      go_wp2
      go_ret
      exact ⟨ret_bool (by simp only [rTx, hi, ht]; rfl), below_blk hw1 hb2⟩
end Go.Proofs.Ytffgpepngcnjeab
