/-
  Package chain: the coin that an input names, what the inputs spend.
-/
import Derived.Test.YtffgpepngcnjeaaWinC
namespace Go.Proofs.Ytffgpepngcnjeaa
open Go.RowKit

theorem idxOf_cases {α : Type} (p : α → Bool) (d : α) : ∀ (l : List α) (i : Nat), idxOf p l i = -1 ∨ ∃ j, j < l.length ∧ idxOf p l i = ((i + j : Nat) : Int) ∧ p (l.getD j d) = true := by
  intro l
  induction l with
  | nil => intro i; exact Or.inl rfl
  | cons x r ih =>
    intro i
    unfold idxOf
    by_cases h : p x = true
    · rw [if_pos h]
      exact Or.inr ⟨0, by simp, by simp, by simpa using h⟩
    · rw [if_neg h]
      rcases ih (i + 1) with h1 | ⟨j, h1, h2, h3⟩
      · exact Or.inl h1
      · exact Or.inr ⟨j + 1, by simpa using h1, by rw [h2]; omega, by simpa using h3⟩

def isCoin (id pos : Int) (x : Cel) : Bool := x.id == id && (x.pos == pos && x.spent == -1)
def findZ (xs : List Cel) (id pos : Int) : Int := idxOf (isCoin id pos) xs 0

theorem findZ_cases (xs : List Cel) (id pos : Int) : findZ xs id pos = -1 ∨ ∃ j, j < xs.length ∧ findZ xs id pos = (j : Int) ∧ isCoin id pos (xs.getD j dC) = true := by
  rcases idxOf_cases (isCoin id pos) dC xs 0 with h | ⟨j, h1, h2, h3⟩
  · exact Or.inl h
  · exact Or.inr ⟨j, h1, by rw [findZ, h2]; simp, h3⟩

set_option maxRecDepth 100000 in
set_option maxHeartbeats 2000000 in
theorem find_any (b o : Nat) (ao : Option Addr) (n c : Nat) (xs : List Cel) (id pos : Int) (w : World) (hp : w.cell? ⟨b, o, none⟩ = some (.slice ao n c)) (hx : CelsAt w ao xs) (hn : xs.length = n) (hm : n ≤ 1000000) :
    Calls Try.prog 148 #[.pointer (some ⟨b, o, none⟩), .int .i64 id, .int .i64 pos] w fun e w' => e = .returned (.int .i64 (findZ xs id pos)) ∧ Below w.heap.size w w' := by
  have HN : Hid (xs.length = n) := hn
  have HX : Hid (CelsAt w ao xs) := hx
  clear hn hx
  go_enter Try.func148, Try.ntmps148
  go_wp2
  go_loopw [14] (fun i wr => ∃ k : Nat, k ≤ n ∧ i = .int .i64 k ∧ Hid (idxOf (isCoin id pos) (xs.drop k) k = findZ xs id pos) ∧ Below w.heap.size w wr) (fun i _ => n - (intOf i).toNat)
  case atStart => exact ⟨0, Nat.zero_le _, rfl, rfl, Below.refl _ _⟩
  case round =>
    obtain ⟨k, hk, rfl, hz, hbl⟩ := hrel
    have hsz := hbl.size
    by_cases hlt : k < n
    · rcases HX.out with hnil | ⟨g, off, rfl, hrow⟩
      · have := HN.out; rw [hnil] at this; simp at this; omega
      obtain ⟨c0, c1, c2, c3, c4, c5⟩ := celCells (hrow.grown hbl) k (by rw [HN.out]; exact hlt)
      have HS : Hid _ := hz.out
      rw [idxOf_drop _ _ dC k k (by rw [HN.out]; exact hlt)] at HS
      clear hrow
      generalize xs.getD k dC = y at c0 c1 c2 c3 c4 c5 HS
      obtain ⟨yid, ypos, yto, yval, ymade, yspent⟩ := y
      simp only at c0 c1 c2 c3 c4 c5
      cases h1 : (yid == id)
      · go_wp2
        go_roundw
        case rel => exact ⟨k + 1, by omega, by go_num, by show _ = _; have := HS.out; simp only [isCoin, h1] at this; simpa using this, hbl.alloc hsz _⟩
        case measure => simp [intOf]; omega
      · cases h2 : (ypos == pos)
        · go_wp2
          go_roundw
          case rel => exact ⟨k + 1, by omega, by go_num, by show _ = _; have := HS.out; simp only [isCoin, h1, h2] at this; simpa using this, hbl.alloc hsz _⟩
          case measure => simp [intOf]; omega
        · cases h3 : (yspent == -1)
          · go_wp2
            go_roundw
            case rel => exact ⟨k + 1, by omega, by go_num, by show _ = _; have := HS.out; simp only [isCoin, h1, h2, h3] at this; simpa using this, hbl.alloc hsz _⟩
            case measure => simp [intOf]; omega
          · go_wp2
            go_ret
            exact ⟨ret_int (by have := HS.out; simp only [isCoin, h1, h2, h3] at this; simpa using this), hbl.alloc hsz _⟩
    · go_wp2
      go_ret
      refine ⟨ret_int ?_, hbl⟩
      rw [← hz.out, List.drop_of_length_le (by rw [HN.out]; omega)]
      rfl

/-- an input with the output that it names -/
structure SpD where
  pl : Int
  to : Int
  val : Int
  ao : Option Addr
  n : Nat
  c : Nat
  l : List Int
def dS : SpD := ⟨0, 0, 0, none, 0, 0, []⟩
def SpD.v (x : SpD) : List Value := [.int .i64 x.pl, .int .i64 x.to, .int .i64 x.val, .slice x.ao x.n x.c]
theorem sp4 (x : SpD) : x.v.length = 4 := rfl
theorem sp_one (x : SpD) : ∀ u ∈ x.v, u.oneCell' = true := by
  intro u hu
  simp [SpD.v] at hu
  rcases hu with rfl | rfl | rfl | rfl <;> rfl
theorem info204 : (Try.prog.info? 204).map (fun i => (i.zero, i.size, i.bytes)) = some (some (.agg #[.int .i64 0, .int .i64 0, .int .i64 0, .slice none 0 0]), 4, 48) := by kernel_rfl
structure SpCells (w : World) (b off : Nat) (x : SpD) : Prop where
  c0 : w.cell? ⟨b, off, none⟩ = some (.int .i64 x.pl)
  c1 : w.cell? ⟨b, off + 1, none⟩ = some (.int .i64 x.to)
  c2 : w.cell? ⟨b, off + 2, none⟩ = some (.int .i64 x.val)
  c3 : w.cell? ⟨b, off + 3, none⟩ = some (.slice x.ao x.n x.c)
theorem spCells {w : World} {b off : Nat} {xs : List SpD} (h : VRow w b off (xs.flatMap SpD.v)) (j : Nat) (hj : j < xs.length) : SpCells w b (off + j * 4) (xs.getD j dS) :=
  ⟨rcell sp4 dS h j hj 0 (by omega), rcell sp4 dS h j hj 1 (by omega), rcell sp4 dS h j hj 2 (by omega), rcell sp4 dS h j hj 3 (by omega)⟩

def isSp (ss : List SpD) (p : Int) : Bool := ss.any fun x => x.pl == p

set_option maxRecDepth 100000 in
set_option maxHeartbeats 1000000 in
theorem isSpent_any (ao : Option Addr) (n c : Nat) (ss : List SpD) (a : Int) (w : World) (hx : RecAt SpD.v w ao ss) (hn : ss.length = n) (hm : n ≤ 1000000) :
    Calls Try.prog 149 #[.slice ao n c, .int .i64 a] w fun e w' => e = .returned (.bool (isSp ss a)) ∧ Below w.heap.size w w' := by
  have HN : Hid (ss.length = n) := hn
  have HX : Hid (RecAt SpD.v w ao ss) := hx
  clear hn hx
  go_enter Try.func149, Try.ntmps149
  go_wp2
  go_loopw [9] (fun i wr => ∃ k : Nat, k ≤ n ∧ i = .int .i64 k ∧ Hid ((ss.take k).any (fun x => x.pl == a) = false) ∧ Below w.heap.size w wr) (fun i _ => n - (intOf i).toNat)
  case atStart => exact ⟨0, Nat.zero_le _, rfl, by show List.any _ _ = false; simp, Below.refl _ _⟩
  case round =>
    obtain ⟨k, hk, rfl, hany, hbl⟩ := hrel
    have hsz := hbl.size
    by_cases hlt : k < n
    · rcases HX.out with hnil | ⟨g, off, rfl, hrow⟩
      · have := HN.out; rw [hnil] at this; simp at this; omega
      obtain ⟨c0, c1, c2, c3⟩ := spCells (hrow.grown hbl) k (by rw [HN.out]; exact hlt)
      have HS : Hid _ := any_no (fun x : SpD => x.pl == a) ss dS k (by rw [HN.out]; exact hlt) hany.out
      have HZ : Hid _ := any_yes (fun x : SpD => x.pl == a) ss dS k (by rw [HN.out]; exact hlt)
      clear hrow
      generalize ss.getD k dS = y at c0 c1 c2 c3 HS HZ
      obtain ⟨ypl, yto, yval, yao, yn, yc, yl⟩ := y
      simp only at c0 c1 c2 c3
      cases hy : (ypl == a)
      · go_wp2
        go_roundw
        case rel => exact ⟨k + 1, by omega, by go_num, HS.out hy, hbl.alloc hsz _⟩
        case measure => simp [intOf]; omega
      · go_wp2
        go_ret
        exact ⟨ret_bool (HZ.out hy).symm, hbl.alloc hsz _⟩
    · go_wp2
      go_ret
      exact ⟨ret_bool (any_done _ ss n HN.out k (by omega) hany.out), hbl⟩

def sumSp (ss : List SpD) : Int := (ss.map SpD.val).sum
def sumOu (ys : List (Int × Int)) : Int := (ys.map Prod.snd).sum
theorem sum_snoc {α : Type} (f : α → Int) (l : List α) (d : α) (k : Nat) (h : k < l.length) : ((l.take (k + 1)).map f).sum = ((l.take k).map f).sum + f (l.getD k d) := by
  rw [List.take_succ_eq_append_getElem h, List.map_append, List.sum_append_int]
  simp [List.getD, h]
theorem sum_bd {α : Type} (f : α → Int) (M : Int) (l : List α) (hb : ∀ x ∈ l, 0 ≤ f x ∧ f x ≤ M) : 0 ≤ (l.map f).sum ∧ (l.map f).sum ≤ l.length * M := by
  induction l with
  | nil => simp
  | cons x r ih =>
    have h1 := hb x (by simp)
    have h2 := ih (fun y hy => hb y (by simp [hy]))
    simp only [List.map_cons, List.sum_cons, List.length_cons]
    refine ⟨by omega, ?_⟩
    have : ((r.length + 1 : Nat) : Int) * M = r.length * M + M := by
      push_cast
      rw [Int.add_mul]
      omega
    omega

end Go.Proofs.Ytffgpepngcnjeaa
