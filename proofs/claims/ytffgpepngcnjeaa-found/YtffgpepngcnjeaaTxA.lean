/-
  Transactions in memory; the right shape, by the program.
-/
import Derived.Test.YtffgpepngcnjeaaHand
namespace Go.Proofs.Ytffgpepngcnjeaa
open Go.RowKit

/-- an input: its numbers, its seal as a slice, the seal's numbers -/
structure InD where
  id : Int
  pos : Int
  ao : Option Addr
  n : Nat
  c : Nat
  l : List Int

def dIn : InD := ⟨0, 0, none, 0, 0, []⟩

structure InOk (w : World) (x : InD) : Prop where
  lies : IntsAt w x.ao x.l
  len : x.l.length = x.n
  sz : x.n ≤ 17592186044416
  nil : x.ao = none → x.c = 0

structure InCells (w : World) (b off : Nat) (x : InD) : Prop where
  c0 : w.cell? ⟨b, off, none⟩ = some (.int .i64 x.id)
  c1 : w.cell? ⟨b, off + 1, none⟩ = some (.int .i64 x.pos)
  c2 : w.cell? ⟨b, off + 2, none⟩ = some (.slice x.ao x.n x.c)

def InsRow (w : World) (b off : Nat) (xs : List InD) : Prop := ∀ j, j < xs.length → InCells w b (off + j * 3) (xs.getD j dIn) ∧ InOk w (xs.getD j dIn)
def InsAt (w : World) (ao : Option Addr) (xs : List InD) : Prop := xs = [] ∨ ∃ b off, ao = some ⟨b, off, none⟩ ∧ InsRow w b off xs

def OutCells (w : World) (b off : Nat) (x : Int × Int) : Prop := w.cell? ⟨b, off, none⟩ = some (.int .i64 x.1) ∧ w.cell? ⟨b, off + 1, none⟩ = some (.int .i64 x.2)
def OutsRow (w : World) (b off : Nat) (ys : List (Int × Int)) : Prop := ∀ j, j < ys.length → OutCells w b (off + j * 2) (ys.getD j (0, 0))
def OutsAt (w : World) (ao : Option Addr) (ys : List (Int × Int)) : Prop := ys = [] ∨ ∃ b off, ao = some ⟨b, off, none⟩ ∧ OutsRow w b off ys

theorem InCells.below {w w' : World} {b off : Nat} {x : InD} (h : InCells w b off x) {B : Nat} (hb : Below B w w') (hB : b < B) : InCells w' b off x :=
  ⟨(hb.cell (p := ⟨b, off, none⟩) hB).trans h.c0, (hb.cell (p := ⟨b, off + 1, none⟩) hB).trans h.c1, (hb.cell (p := ⟨b, off + 2, none⟩) hB).trans h.c2⟩
theorem InOk.grown {w w' : World} {x : InD} (h : InOk w x) (hb : Below w.heap.size w w') : InOk w' x := ⟨h.lies.grown hb, h.len, h.sz, h.nil⟩
theorem InsRow.grown {w w' : World} {b off : Nat} {xs : List InD} (h : InsRow w b off xs) (hb : Below w.heap.size w w') : InsRow w' b off xs :=
  fun j hj => ⟨(h j hj).1.below hb (cell_lt (h j hj).1.c0), (h j hj).2.grown hb⟩
theorem InsAt.grown {w w' : World} {ao : Option Addr} {xs : List InD} (h : InsAt w ao xs) (hb : Below w.heap.size w w') : InsAt w' ao xs := by
  rcases h with h | ⟨b, off, h, hr⟩
  · exact Or.inl h
  · exact Or.inr ⟨b, off, h, hr.grown hb⟩
theorem OutsRow.grown {w w' : World} {b off : Nat} {ys : List (Int × Int)} (h : OutsRow w b off ys) (hb : Below w.heap.size w w') : OutsRow w' b off ys :=
  fun j hj => ⟨(hb.cell (p := ⟨b, off + j * 2, none⟩) (cell_lt (h j hj).1)).trans (h j hj).1, (hb.cell (p := ⟨b, off + j * 2 + 1, none⟩) (cell_lt (h j hj).2)).trans (h j hj).2⟩
theorem OutsAt.grown {w w' : World} {ao : Option Addr} {ys : List (Int × Int)} (h : OutsAt w ao ys) (hb : Below w.heap.size w w') : OutsAt w' ao ys := by
  rcases h with h | ⟨b, off, h, hr⟩
  · exact Or.inl h
  · exact Or.inr ⟨b, off, h, hr.grown hb⟩

/-- behind what only makes new blocks all old cells read as before -/
theorem bcell {W w1 : World} (hb : Below W.heap.size W w1) : (∀ b o, b < W.heap.size → w1.cell? ⟨b, o, none⟩ = W.cell? ⟨b, o, none⟩) ∧ (∀ b o, b < W.heap.size → w1.frozen? ⟨b, o, none⟩ = W.frozen? ⟨b, o, none⟩) :=
  ⟨fun b o h => hb.cell (p := ⟨b, o, none⟩) h, fun b o h => hb.frozen (p := ⟨b, o, none⟩) h⟩

def rIn (x : InD) : Bool := Mk.isM x.id && (decide (0 ≤ x.pos ∧ x.pos < 8) && (decide (x.n = 0) || isS x.l))
def rOut (y : Int × Int) : Bool := Mk.isM y.1 && decide (10 ≤ y.2 ∧ y.2 ≤ 1099511627776)
def rIns (xs : List InD) : Bool := decide (xs.length ≤ 10) && xs.all rIn
def rOuts (ys : List (Int × Int)) : Bool := decide (1 ≤ ys.length ∧ ys.length ≤ 8) && ys.all rOut
def rTx (t : Int) (xs : List InD) (ys : List (Int × Int)) : Bool := decide (0 ≤ t ∧ t ≤ 1099511627776) && (rIns xs && rOuts ys)

set_option maxRecDepth 100000 in
set_option maxHeartbeats 400000 in
theorem rightOut_any (a v : Int) (w : World) :
    Calls Try.prog 137 #[.agg #[.int .i64 a, .int .i64 v]] w fun e w' => e = .returned (.bool (rOut (a, v))) ∧ Below w.heap.size w w' := by
  cases hm : Mk.isM a
  · go_enter Try.func137, Try.ntmps137
    go_wp2_with (go_at_call 103; refine (is_any _ _).mono ?_; rintro e w' ⟨rfl, rfl⟩)
    go_ret
    exact ⟨ret_bool (by simp [rOut, hm]), (Below.refl _ _).alloc (Nat.le_refl _) _⟩
  · by_cases h1 : 10 ≤ v
    · by_cases h2 : v ≤ 1099511627776
      · go_enter Try.func137, Try.ntmps137
        go_wp2_with (go_at_call 103; refine (is_any _ _).mono ?_; rintro e w' ⟨rfl, rfl⟩)
        go_ret
        exact ⟨ret_bool (by simp [rOut, hm, h1, h2]), (Below.refl _ _).alloc (Nat.le_refl _) _⟩
      · go_enter Try.func137, Try.ntmps137
        go_wp2_with (go_at_call 103; refine (is_any _ _).mono ?_; rintro e w' ⟨rfl, rfl⟩)
        go_ret
        exact ⟨ret_bool (by simp [rOut, hm]; omega), (Below.refl _ _).alloc (Nat.le_refl _) _⟩
    · go_enter Try.func137, Try.ntmps137
      go_wp2_with (go_at_call 103; refine (is_any _ _).mono ?_; rintro e w' ⟨rfl, rfl⟩)
      go_ret
      exact ⟨ret_bool (by simp [rOut, hm]; omega), (Below.refl _ _).alloc (Nat.le_refl _) _⟩

theorem all_snoc {α : Type} (p : α → Bool) (l : List α) (d : α) (k : Nat) (h : k < l.length) : (l.take (k + 1)).all p = ((l.take k).all p && p (l.getD k d)) := by
  rw [List.take_succ_eq_append_getElem h, List.all_append]
  simp [List.getD, h]
theorem all_no {α : Type} (p : α → Bool) (l : List α) (d : α) (k : Nat) (h : k < l.length) (h' : p (l.getD k d) = false) : l.all p = false := by
  rw [List.all_eq_false]
  refine ⟨l[k], List.getElem_mem h, ?_⟩
  simp only [List.getD, List.getElem?_eq_getElem h, Option.getD_some] at h'
  simp [h']
theorem all_done {α : Type} (p : α → Bool) (l : List α) (n : Nat) (hn : l.length = n) (k : Nat) (hk : n ≤ k) (h : (l.take k).all p = true) : true = l.all p := by
  rw [← h, List.take_of_length_le (by omega)]

set_option maxRecDepth 100000 in
set_option maxHeartbeats 400000 in
theorem rightOuts_row (b off n c : Nat) (ys : List (Int × Int)) (w : World) (hr : OutsRow w b off ys) (hn : ys.length = n) (h1 : 1 ≤ n) (h8 : n ≤ 8) :
    Calls Try.prog 118 #[.slice (some ⟨b, off, none⟩) n c] w fun e w' => e = .returned (.bool (ys.all rOut)) ∧ Below w.heap.size w w' := by
  have HR : Hid (OutsRow w b off ys) := hr
  have HN : Hid (ys.length = n) := hn
  have g1 : decide ((n : Int) < 1) = false := by rw [decide_eq_false_iff_not]; omega
  have g2 : decide (8 < (n : Int)) = false := by rw [decide_eq_false_iff_not]; omega
  clear hr hn
  go_enter Try.func118, Try.ntmps118
  go_wp2
  go_loopw [15] (fun i wr => ∃ k : Nat, k ≤ n ∧ i = .int .i64 k ∧ Hid ((ys.take k).all rOut = true) ∧ Below w.heap.size w wr) (fun i _ => n - (intOf i).toNat)
  case atStart => exact ⟨0, Nat.zero_le _, rfl, by show List.all _ _ = true; simp, Below.refl _ _⟩
  case round =>
    obtain ⟨k, hk, rfl, hall, hbl⟩ := hrel
    have hsz := hbl.size
    by_cases hlt : k < n
    · obtain ⟨c0, c1⟩ := (HR.out.grown hbl) k (by rw [HN.out]; exact hlt)
      have HS : Hid _ := all_snoc rOut ys (0, 0) k (by rw [HN.out]; exact hlt)
      have HZ : Hid _ := all_no rOut ys (0, 0) k (by rw [HN.out]; exact hlt)
      generalize ys.getD k (0, 0) = y at c0 c1 HS HZ
      obtain ⟨ya, yv⟩ := y
      simp only at c0 c1
      cases hy : rOut (ya, yv)
      · go_wp2_with (go_at_call 137; refine (rightOut_any _ _ _).mono ?_; rintro e w2 ⟨rfl, hb2⟩; simp only [hy])
        go_ret
        exact ⟨ret_bool (HZ.out hy).symm, below_blk (hbl.alloc hsz _) (by simpa using hb2)⟩
      · go_wp2_with (go_at_call 137; refine (rightOut_any _ _ _).mono ?_; rintro e w2 ⟨rfl, hb2⟩; simp only [hy])
        go_roundw
        case rel => exact ⟨k + 1, by omega, by go_num, by show List.all _ _ = true; rw [HS.out, hall.out, hy]; rfl, below_blk (hbl.alloc hsz _) hb2⟩
        case measure => simp [intOf]; omega
    · go_wp2
      go_ret
      exact ⟨ret_bool (all_done rOut ys n HN.out k (by omega) hall.out), hbl⟩

set_option maxRecDepth 100000 in
set_option maxHeartbeats 400000 in
theorem rightOuts_few (ao : Option Addr) (n c : Nat) (w : World) (hn : n < 1 ∨ 8 < n) :
    Calls Try.prog 118 #[.slice ao n c] w fun e w' => e = .returned (.bool false) ∧ Below w.heap.size w w' := by
  by_cases h : n < 1
  · have g1 : decide ((n : Int) < 1) = true := by rw [decide_eq_true_iff]; omega
    go_enter Try.func118, Try.ntmps118
    go_wp2
    go_ret
    exact ⟨rfl, Below.refl _ _⟩
  · have g1 : decide ((n : Int) < 1) = false := by rw [decide_eq_false_iff_not]; omega
    have g2 : decide (8 < (n : Int)) = true := by rw [decide_eq_true_iff]; omega
    go_enter Try.func118, Try.ntmps118
    go_wp2
    go_ret
    exact ⟨rfl, Below.refl _ _⟩

theorem rightOuts_any (ao : Option Addr) (n c : Nat) (ys : List (Int × Int)) (w : World) (hr : OutsAt w ao ys) (hn : ys.length = n) :
    Calls Try.prog 118 #[.slice ao n c] w fun e w' => e = .returned (.bool (rOuts ys)) ∧ Below w.heap.size w w' := by
  by_cases h : 1 ≤ n ∧ n ≤ 8
  · have e : rOuts ys = ys.all rOut := by unfold rOuts; rw [hn, decide_eq_true h]; rfl
    rw [e]
    rcases hr with rfl | ⟨b, off, rfl, hr⟩
    · simp at hn; omega
    · exact rightOuts_row b off n c ys w hr hn h.1 h.2
  · have e : rOuts ys = false := by unfold rOuts; rw [hn, decide_eq_false h]; rfl
    rw [e]
    exact rightOuts_few ao n c w (by omega)

set_option maxRecDepth 100000 in
set_option maxHeartbeats 1000000 in
theorem rightIn_any (x : InD) (w : World) (hx : InOk w x) :
    Calls Try.prog 147 #[.agg #[.int .i64 x.id, .int .i64 x.pos, .slice x.ao x.n x.c]] w fun e w' => e = .returned (.bool (rIn x)) ∧ Below w.heap.size w w' := by
  obtain ⟨id, pos, ao, n, c, l⟩ := x
  obtain ⟨h1, h2, h3, h4⟩ := hx
  simp only at h1 h2 h3 h4 ⊢
  have HN : Hid (l.length = n) := h2
  have HR : Hid (IntsAt w ao l) := h1
  clear h1 h2 h4
  have bl : ∀ o, Below w.heap.size w (w.alloc o) := fun o => (Below.refl _ _).alloc (Nat.le_refl _) _
  have HB : Hid _ := bl
  clear bl
  cases hm : Mk.isM id
  · go_enter Try.func147, Try.ntmps147
    go_wp2_with (go_at_call 103; refine (is_any _ _).mono ?_; rintro e w' ⟨rfl, rfl⟩)
    go_ret
    exact ⟨ret_bool (by simp [rIn, hm]), HB.out _⟩
  · by_cases p0 : 0 ≤ pos
    · by_cases p1 : pos < 8
      · by_cases hn0 : n = 0
        · subst hn0
          go_enter Try.func147, Try.ntmps147
          go_wp2_with (go_at_call 103; refine (is_any _ _).mono ?_; rintro e w' ⟨rfl, rfl⟩)
          go_ret
          exact ⟨ret_bool (by simp [rIn, hm, p0, p1]), HB.out _⟩
        · have hn0' : ((n : Int) == 0) = false := by rw [beq_eq_false_iff_ne]; omega
          go_enter Try.func147, Try.ntmps147
          go_wp2_with (first | (go_at_call 103; refine (is_any _ _).mono ?_; rintro e w' ⟨rfl, rfl⟩) | (go_at_call 106; refine (isSeal_any _ _ _ l _ (HR.out.grown (HB.out _)) HN.out (by omega)).mono ?_; rintro e w' ⟨rfl, rfl⟩))
          go_ret
          exact ⟨ret_bool (by simp [rIn, hm, p0, p1, hn0]), HB.out _⟩
      · go_enter Try.func147, Try.ntmps147
        go_wp2_with (go_at_call 103; refine (is_any _ _).mono ?_; rintro e w' ⟨rfl, rfl⟩)
        go_ret
        exact ⟨ret_bool (by simp [rIn, hm]; omega), HB.out _⟩
    · go_enter Try.func147, Try.ntmps147
      go_wp2_with (go_at_call 103; refine (is_any _ _).mono ?_; rintro e w' ⟨rfl, rfl⟩)
      go_ret
      exact ⟨ret_bool (by simp [rIn, hm]; omega), HB.out _⟩

set_option maxRecDepth 100000 in
set_option maxHeartbeats 400000 in
theorem rightIns_none (ao : Option Addr) (c : Nat) (w : World) :
    Calls Try.prog 126 #[.slice ao 0 c] w fun e w' => e = .returned (.bool true) ∧ Below w.heap.size w w' := by
  go_enter Try.func126, Try.ntmps126
  go_wp2
  refine wp_loop_rounds 1 ?_
  rw [rounds_succ]
  go_wp2
  go_ret
  exact ⟨rfl, Below.refl _ _⟩

set_option maxRecDepth 100000 in
set_option maxHeartbeats 400000 in
theorem rightIns_row (b off n c : Nat) (xs : List InD) (w : World) (hr : InsRow w b off xs) (hn : xs.length = n) (h8 : n ≤ 10) :
    Calls Try.prog 126 #[.slice (some ⟨b, off, none⟩) n c] w fun e w' => e = .returned (.bool (xs.all rIn)) ∧ Below w.heap.size w w' := by
  have HR : Hid (InsRow w b off xs) := hr
  have HN : Hid (xs.length = n) := hn
  have g2 : decide (10 < (n : Int)) = false := by rw [decide_eq_false_iff_not]; omega
  clear hr hn
  go_enter Try.func126, Try.ntmps126
  go_wp2
  go_loopw [10] (fun i wr => ∃ k : Nat, k ≤ n ∧ i = .int .i64 k ∧ Hid ((xs.take k).all rIn = true) ∧ Below w.heap.size w wr) (fun i _ => n - (intOf i).toNat)
  case atStart => exact ⟨0, Nat.zero_le _, rfl, by show List.all _ _ = true; simp, Below.refl _ _⟩
  case round =>
    obtain ⟨k, hk, rfl, hall, hbl⟩ := hrel
    have hsz := hbl.size
    by_cases hlt : k < n
    · obtain ⟨⟨c0, c1, c2⟩, hok⟩ := (HR.out.grown hbl) k (by rw [HN.out]; exact hlt)
      have HS : Hid _ := all_snoc rIn xs dIn k (by rw [HN.out]; exact hlt)
      have HZ : Hid _ := all_no rIn xs dIn k (by rw [HN.out]; exact hlt)
      generalize xs.getD k dIn = y at c0 c1 c2 hok HS HZ
      have hok' := fun o => hok.grown (w' := wr.alloc o) ((Below.refl _ _).alloc (Nat.le_refl _) _)
      have HK : Hid _ := hok'
      clear hok hok'
      cases hy : rIn y
      · go_wp2_with (go_at_call 147; refine (rightIn_any y _ (HK.out _)).mono ?_; rintro e w2 ⟨rfl, hb2⟩; simp only [hy])
        go_ret
        exact ⟨ret_bool (HZ.out hy).symm, below_blk (hbl.alloc hsz _) (by simpa using hb2)⟩
      · go_wp2_with (go_at_call 147; refine (rightIn_any y _ (HK.out _)).mono ?_; rintro e w2 ⟨rfl, hb2⟩; simp only [hy])
        go_roundw
        case rel => exact ⟨k + 1, by omega, by go_num, by show List.all _ _ = true; rw [HS.out, hall.out, hy]; rfl, below_blk (hbl.alloc hsz _) hb2⟩
        case measure => simp [intOf]; omega
    · go_wp2
      go_ret
      exact ⟨ret_bool (all_done rIn xs n HN.out k (by omega) hall.out), hbl⟩

set_option maxRecDepth 100000 in
set_option maxHeartbeats 400000 in
theorem rightIns_many (ao : Option Addr) (n c : Nat) (w : World) (hn : 10 < n) :
    Calls Try.prog 126 #[.slice ao n c] w fun e w' => e = .returned (.bool false) ∧ Below w.heap.size w w' := by
  have g2 : decide (10 < (n : Int)) = true := by rw [decide_eq_true_iff]; omega
  go_enter Try.func126, Try.ntmps126
  go_wp2
  go_ret
  exact ⟨rfl, Below.refl _ _⟩

theorem rightIns_any (ao : Option Addr) (n c : Nat) (xs : List InD) (w : World) (hr : InsAt w ao xs) (hn : xs.length = n) :
    Calls Try.prog 126 #[.slice ao n c] w fun e w' => e = .returned (.bool (rIns xs)) ∧ Below w.heap.size w w' := by
  by_cases h : n ≤ 10
  · have e : rIns xs = xs.all rIn := by unfold rIns; rw [hn, decide_eq_true h]; rfl
    rw [e]
    rcases hr with rfl | ⟨b, off, rfl, hr⟩
    · have h0 : n = 0 := by rw [← hn]; rfl
      subst h0
      exact rightIns_none ao c w
    · exact rightIns_row b off n c xs w hr hn h
  · have e : rIns xs = false := by unfold rIns; rw [hn, decide_eq_false h]; rfl
    rw [e]
    exact rightIns_many ao n c w (by omega)

set_option maxRecDepth 100000 in
set_option maxHeartbeats 400000 in
theorem rightTag_any (t : Int) (w : World) : Calls Try.prog 117 #[.int .i64 t] w fun e w' => e = .returned (.bool (decide (0 ≤ t ∧ t ≤ 1099511627776))) ∧ w = w' := by
  by_cases t0 : 0 ≤ t
  · by_cases t1 : t ≤ 1099511627776
    · go_enter Try.func117, Try.ntmps117
      go_wp2
      go_ret
      exact ⟨ret_bool (by simp [t0, t1]), rfl⟩
    · go_enter Try.func117, Try.ntmps117
      go_wp2
      go_ret
      exact ⟨ret_bool (by simp; omega), rfl⟩
  · go_enter Try.func117, Try.ntmps117
    go_wp2
    go_ret
    exact ⟨ret_bool (by simp; omega), rfl⟩

set_option maxRecDepth 100000 in
set_option maxHeartbeats 1000000 in
theorem rightShape_any (t : Int) (ai : Option Addr) (n c : Nat) (ap : Option Addr) (m d : Nat) (xs : List InD) (ys : List (Int × Int)) (w : World) (hx : InsAt w ai xs) (hn : xs.length = n) (hy : OutsAt w ap ys) (hm : ys.length = m) :
    Calls Try.prog 92 #[.agg #[.int .i64 t, .slice ai n c, .slice ap m d]] w fun e w' => e = .returned (.bool (rTx t xs ys)) ∧ Below w.heap.size w w' := by
  have HN : Hid (xs.length = n) := hn
  have HM : Hid (ys.length = m) := hm
  have HX : Hid (InsAt w ai xs) := hx
  have HY : Hid (OutsAt w ap ys) := hy
  clear hn hm hx hy
  have bl : ∀ o, Below w.heap.size w (w.alloc o) := fun o => (Below.refl _ _).alloc (Nat.le_refl _) _
  have HB : Hid _ := bl
  clear bl
  cases ht : decide (0 ≤ t ∧ t ≤ 1099511627776)
  · go_enter Try.func92, Try.ntmps92
    go_wp2_with (go_at_call 117; refine (rightTag_any _ _).mono ?_; rintro e w' ⟨rfl, rfl⟩; rw [ht])
    go_ret
    exact ⟨ret_bool (by simp only [rTx, ht]; rfl), HB.out _⟩
  · cases hi : rIns xs
    · go_enter Try.func92, Try.ntmps92
      go_wp2_with (first | (go_at_call 117; refine (rightTag_any _ _).mono ?_; rintro e w' ⟨rfl, rfl⟩; rw [ht]) | (go_at_call 126; refine (rightIns_any _ _ _ xs _ (HX.out.grown (HB.out _)) HN.out).mono ?_; rintro e w1 ⟨rfl, hb1⟩; rw [hi]))
      go_ret
      exact ⟨ret_bool (by simp [rTx, hi]), below_blk (HB.out _) hb1⟩
    · go_enter Try.func92, Try.ntmps92
      go_wp2_with (first | (go_at_call 117; refine (rightTag_any _ _).mono ?_; rintro e w' ⟨rfl, rfl⟩; rw [ht]) | fail)
      refine (rightIns_any _ _ _ xs _ (HX.out.grown (HB.out _)) HN.out).mono ?_
      rintro e w1 ⟨rfl, hb1⟩
      rw [hi]
      have hw1 := below_blk (HB.out _) hb1
      obtain ⟨c1, _⟩ := bcell hb1
      go_wp2_with fail
      refine (rightOuts_any _ _ _ ys _ (HY.out.grown hw1) HM.out).mono ?_
      rintro e w2 ⟨rfl, hb2⟩
      go_wp2
      go_ret
      exact ⟨ret_bool (by simp only [rTx, hi, ht]; rfl), below_blk hw1 hb2⟩

end Go.Proofs.Ytffgpepngcnjeaa
