import Derived.Test.YtffgpepngcnjeaaSmall
namespace Go.Proofs.Ytffgpepngcnjeaa
open Go.RowKit

/-- the numbers l lie from ⟨b, off⟩ on -/
def Row (w : World) (b off : Nat) (l : List Int) : Prop := ∀ j, j < l.length → w.cell? ⟨b, off + j, none⟩ = some (.int .i64 (l.getD j 0))
/-- n cells from ⟨b, off⟩ on may be written -/
def Free (w : World) (b off n : Nat) : Prop := ∀ j, j < n → w.frozen? ⟨b, off + j, none⟩ = false
/-- the address of a slice whose elements are l -/
def IntsAt (w : World) (ao : Option Addr) (l : List Int) : Prop := l = [] ∨ ∃ b off, ao = some ⟨b, off, none⟩ ∧ Row w b off l

theorem cell_lt {w : World} {a : Addr} {v : Value} (h : w.cell? a = some v) : a.block < w.heap.size := by
  apply Classical.byContradiction
  intro hn
  have : w.heap[a.block]? = none := Array.getElem?_eq_none (by omega)
  simp [World.cell?, this] at h
theorem Row.lt {w : World} {b off : Nat} {l : List Int} (h : Row w b off l) (hl : l ≠ []) : b < w.heap.size := by
  have h0 := h 0 (List.length_pos_iff.2 hl)
  exact cell_lt h0
theorem Row.below {w w' : World} {b off : Nat} {l : List Int} (h : Row w b off l) {B : Nat} (hb : Below B w w') (hB : b < B) : Row w' b off l :=
  fun j hj => (hb.cell (p := ⟨b, off + j, none⟩) hB).trans (h j hj)
theorem Row.grown {w w' : World} {b off : Nat} {l : List Int} (h : Row w b off l) (hb : Below w.heap.size w w') : Row w' b off l := by
  by_cases hl : l = []
  · subst hl; intro j hj; simp at hj
  · exact h.below hb (h.lt hl)
theorem IntsAt.grown {w w' : World} {ao : Option Addr} {l : List Int} (h : IntsAt w ao l) (hb : Below w.heap.size w w') : IntsAt w' ao l := by
  rcases h with h | ⟨b, off, h, hr⟩
  · exact Or.inl h
  · exact Or.inr ⟨b, off, h, hr.grown hb⟩
theorem Free.below {w w' : World} {b off n : Nat} (h : Free w b off n) {B : Nat} (hb : Below B w w') (hB : b < B) : Free w' b off n :=
  fun j hj => (hb.frozen (p := ⟨b, off + j, none⟩) hB).trans (h j hj)
theorem Free.set {w : World} {b off n : Nat} (h : Free w b off n) (a : Addr) (v : Value) : Free (w.setCell a v) b off n :=
  fun j hj => by rw [World.frozen?_setCell]; exact h j hj
theorem Row.other {w : World} {b off : Nat} {l : List Int} (h : Row w b off l) {a : Addr} (hb : a.block ≠ b) (v : Value) : Row (w.setCell a v) b off l :=
  fun j hj => by rw [World.cell?_setCell_other _ _ _ _ (by intro e; subst e; exact hb rfl)]; exact h j hj
theorem Row.set {w : World} {b off : Nat} {l : List Int} (h : Row w b off l) {k : Nat} (hk : k < l.length) (v : Int) : Row (w.setCell ⟨b, off + k, none⟩ (.int .i64 v)) b off (l.set k v) := by
  intro j hj
  rw [List.length_set] at hj
  by_cases e : j = k
  · subst e
    rw [World.cell?_setCell_same _ _ _ (h j hj)]
    simp [List.getD, hj]
  · rw [World.cell?_setCell_other _ _ _ _ (fun e' => e (by have h2 := congrArg Addr.off e'; simp only at h2; omega)), h j hj]
    simp only [List.getD]
    rw [List.getElem?_set_ne (by omega)]
theorem Row.alloc {w : World} {b off : Nat} {l : List Int} (h : Row w b off l) (o : Obj) : Row (w.alloc o) b off l :=
  h.grown ((Below.refl _ _).alloc (Nat.le_refl _) _)
theorem below_blk {w w1 w2 : World} (h1 : Below w.heap.size w w1) (h2 : Below w1.heap.size w1 w2) : Below w.heap.size w w2 :=
  h1.trans (h2.mono h1.size)

def allM (l : List Int) : Bool := l.all Mk.isM
theorem allM_snoc (l : List Int) (k : Nat) (h : k < l.length) : allM (l.take (k + 1)) = (allM (l.take k) && Mk.isM (l.getD k 0)) := by
  unfold allM
  rw [List.take_succ_eq_append_getElem h, List.all_append]
  simp [List.getD, h]
theorem allM_no (l : List Int) (k : Nat) (h : k < l.length) (h' : Mk.isM (l.getD k 0) = false) : allM l = false := by
  unfold allM
  rw [List.all_eq_false]
  refine ⟨l[k], List.getElem_mem h, ?_⟩
  simp only [List.getD, List.getElem?_eq_getElem h, Option.getD_some] at h'
  simp [h']

set_option maxRecDepth 100000 in
set_option maxHeartbeats 400000 in
theorem areAll_nil (ao : Option Addr) (c : Nat) (w : World) :
    Calls Try.prog 128 #[.slice ao 0 c] w fun e w' => e = .returned (.bool true) ∧ w = w' := by
  go_enter Try.func128, Try.ntmps128
  go_wp2
  refine wp_loop_rounds 1 ?_
  rw [rounds_succ]
  go_wp2
  go_ret
  exact ⟨rfl, rfl⟩

set_option maxRecDepth 100000 in
set_option maxHeartbeats 400000 in
theorem areAll_row (b off c : Nat) (l : List Int) (w : World) (hr : Row w b off l) (hm : l.length ≤ 9223372036854775807) :
    Calls Try.prog 128 #[.slice (some ⟨b, off, none⟩) l.length c] w fun e w' => e = .returned (.bool (allM l)) ∧ w = w' := by
  have HR : Hid (Row w b off l) := hr
  clear hr
  generalize hn : l.length = n at *
  have HN : Hid (l.length = n) := hn
  clear hn
  go_enter Try.func128, Try.ntmps128
  go_wp2
  go_loop [7] (fun i => ∃ k : Nat, k ≤ n ∧ i = .int .i64 k ∧ Hid (allM (l.take k) = true)) (fun i => n - (intOf i).toNat)
  case atStart => exact ⟨0, Nat.zero_le _, rfl, by show allM _ = true; simp [allM]⟩
  case round =>
    obtain ⟨k, hk, rfl, hall⟩ := hrel
    by_cases hlt : k < n
    · have hc := HR.out k (by rw [HN.out]; exact hlt)
      generalize hx : l.getD k 0 = x at hc
      have HX : Hid (l.getD k 0 = x) := hx
      clear hx
      cases hmk : Mk.isM x
      · go_wp2_with (go_at_call 103; refine (is_any _ _).mono ?_; rintro e w' ⟨rfl, rfl⟩)
        go_ret
        exact ⟨ret_bool (allM_no l k (by rw [HN.out]; exact hlt) (by rw [HX.out]; exact hmk)).symm, rfl⟩
      · go_wp2_with (go_at_call 103; refine (is_any _ _).mono ?_; rintro e w' ⟨rfl, rfl⟩)
        go_round
        case rel => exact ⟨k + 1, by omega, by go_num, by show allM _ = true; rw [allM_snoc l k (by rw [HN.out]; exact hlt), hall.out, HX.out, hmk]; rfl⟩
        case measure => simp [intOf]; omega
    · go_wp2
      go_ret
      exact ⟨ret_bool (by rw [← hall.out, List.take_of_length_le (by rw [HN.out]; omega)]), rfl⟩

theorem areAll_any (ao : Option Addr) (n c : Nat) (l : List Int) (w : World) (hr : IntsAt w ao l) (hn : l.length = n) (hm : n ≤ 9223372036854775807) :
    Calls Try.prog 128 #[.slice ao n c] w fun e w' => e = .returned (.bool (allM l)) ∧ w = w' := by
  rcases hr with rfl | ⟨b, off, rfl, hr⟩
  · have h0 : n = 0 := by rw [← hn]; rfl
    subst h0
    exact areAll_nil ao c w
  · subst hn
    exact areAll_row b off c l w hr hm

def isS (l : List Int) : Bool := decide (l.length = 5) && allM l

set_option maxRecDepth 100000 in
set_option maxHeartbeats 400000 in
theorem isSeal_any (ao : Option Addr) (n c : Nat) (l : List Int) (w : World) (hr : IntsAt w ao l) (hn : l.length = n) (hm : n ≤ 9223372036854775807) :
    Calls Try.prog 106 #[.slice ao n c] w fun e w' => e = .returned (.bool (isS l)) ∧ w = w' := by
  have HR : Hid (IntsAt w ao l) := hr
  have HN : Hid (l.length = n) := hn
  clear hr hn
  by_cases h5 : n = 5
  · subst h5
    go_enter Try.func106, Try.ntmps106
    go_wp2_with (go_at_call 128; refine (areAll_any _ _ _ _ _ HR.out HN.out (by omega)).mono ?_; rintro e w' ⟨rfl, rfl⟩)
    go_ret
    exact ⟨ret_bool (by unfold isS; rw [HN.out]; rfl), rfl⟩
  · have h5' : ((n : Int) == 5) = false := by rw [beq_eq_false_iff_ne]; omega
    go_enter Try.func106, Try.ntmps106
    go_wp2
    go_ret
    exact ⟨ret_bool (by unfold isS; rw [HN.out, decide_eq_false h5]; rfl), rfl⟩

end Go.Proofs.Ytffgpepngcnjeaa
