/-
  The chain in memory: its outputs, what is looked up in them.
-/
import Derived.Test.YtffgpepngcnjeaaRec
namespace Go.Proofs.Ytffgpepngcnjeaa
open Go.RowKit

/-- an output of the chain -/
structure Cel where
  id : Int
  pos : Int
  to : Int
  val : Int
  made : Int
  spent : Int

def dC : Cel := ⟨0, 0, 0, 0, 0, 0⟩
def Cel.l (x : Cel) : List Value := [.int .i64 x.id, .int .i64 x.pos, .int .i64 x.to, .int .i64 x.val, .int .i64 x.made, .int .i64 x.spent]

structure CelCells (w : World) (b off : Nat) (x : Cel) : Prop where
  c0 : w.cell? ⟨b, off, none⟩ = some (.int .i64 x.id)
  c1 : w.cell? ⟨b, off + 1, none⟩ = some (.int .i64 x.pos)
  c2 : w.cell? ⟨b, off + 2, none⟩ = some (.int .i64 x.to)
  c3 : w.cell? ⟨b, off + 3, none⟩ = some (.int .i64 x.val)
  c4 : w.cell? ⟨b, off + 4, none⟩ = some (.int .i64 x.made)
  c5 : w.cell? ⟨b, off + 5, none⟩ = some (.int .i64 x.spent)

theorem cel6 (x : Cel) : x.l.length = 6 := rfl
theorem celCells {w : World} {b off : Nat} {xs : List Cel} (h : VRow w b off (xs.flatMap Cel.l)) (j : Nat) (hj : j < xs.length) : CelCells w b (off + j * 6) (xs.getD j dC) :=
  ⟨rcell cel6 dC h j hj 0 (by omega), rcell cel6 dC h j hj 1 (by omega), rcell cel6 dC h j hj 2 (by omega), rcell cel6 dC h j hj 3 (by omega), rcell cel6 dC h j hj 4 (by omega), rcell cel6 dC h j hj 5 (by omega)⟩

/-- the outputs xs lie where the slice at ao does -/
def CelsAt (w : World) (ao : Option Addr) (xs : List Cel) : Prop := RecAt Cel.l w ao xs
theorem CelsAt.grown {w w' : World} {ao : Option Addr} {xs : List Cel} (h : CelsAt w ao xs) (hb : Below w.heap.size w w') : CelsAt w' ao xs := RecAt.grown h hb

def paidTo (xs : List Cel) (a : Int) : Bool := xs.any fun x => x.to == a
def hasId (xs : List Cel) (a : Int) : Bool := xs.any fun x => x.id == a

theorem any_no {α : Type} (p : α → Bool) (l : List α) (d : α) (k : Nat) (h : k < l.length) (h0 : (l.take k).any p = false) (h1 : p (l.getD k d) = false) : (l.take (k + 1)).any p = false := by
  rw [List.take_succ_eq_append_getElem h, List.any_append, h0]
  simp only [List.getD, List.getElem?_eq_getElem h, Option.getD_some] at h1
  simp [h1]
theorem any_yes {α : Type} (p : α → Bool) (l : List α) (d : α) (k : Nat) (h : k < l.length) (h' : p (l.getD k d) = true) : l.any p = true := by
  rw [List.any_eq_true]
  refine ⟨l[k], List.getElem_mem h, ?_⟩
  simpa only [List.getD, List.getElem?_eq_getElem h, Option.getD_some] using h'
theorem any_done {α : Type} (p : α → Bool) (l : List α) (n : Nat) (hn : l.length = n) (k : Nat) (hk : n ≤ k) (h : (l.take k).any p = false) : false = l.any p := by
  rw [← h, List.take_of_length_le (by omega)]

set_option maxRecDepth 100000 in
set_option maxHeartbeats 1000000 in
theorem isPaid_any (b o : Nat) (ao : Option Addr) (n c : Nat) (xs : List Cel) (a : Int) (w : World) (hp : w.cell? ⟨b, o, none⟩ = some (.slice ao n c)) (hx : CelsAt w ao xs) (hn : xs.length = n) (hm : n ≤ 1000000) :
    Calls Try.prog 109 #[.pointer (some ⟨b, o, none⟩), .int .i64 a] w fun e w' => e = .returned (.bool (paidTo xs a)) ∧ Below w.heap.size w w' := by
  have HN : Hid (xs.length = n) := hn
  have HX : Hid (CelsAt w ao xs) := hx
  clear hn hx
  go_enter Try.func109, Try.ntmps109
  go_wp2
  go_loopw [12] (fun i wr => ∃ k : Nat, k ≤ n ∧ i = .int .i64 k ∧ Hid ((xs.take k).any (fun x => x.to == a) = false) ∧ Below w.heap.size w wr) (fun i _ => n - (intOf i).toNat)
  case atStart => exact ⟨0, Nat.zero_le _, rfl, by show List.any _ _ = false; simp, Below.refl _ _⟩
  case round =>
    obtain ⟨k, hk, rfl, hany, hbl⟩ := hrel
    have hsz := hbl.size
    by_cases hlt : k < n
    · rcases HX.out with hnil | ⟨g, off, rfl, hrow⟩
      · have := HN.out; rw [hnil] at this; simp at this; omega
      obtain ⟨c0, c1, c2, c3, c4, c5⟩ := celCells (hrow.grown hbl) k (by rw [HN.out]; exact hlt)
      have HS : Hid _ := any_no (fun x : Cel => x.to == a) xs dC k (by rw [HN.out]; exact hlt) hany.out
      have HZ : Hid _ := any_yes (fun x : Cel => x.to == a) xs dC k (by rw [HN.out]; exact hlt)
      clear hrow
      generalize xs.getD k dC = y at c0 c1 c2 c3 c4 c5 HS HZ
      obtain ⟨yid, ypos, yto, yval, ymade, yspent⟩ := y
      simp only at c0 c1 c2 c3 c4 c5
      cases hy : (yto == a)
      · go_wp2
        go_roundw
        case rel => exact ⟨k + 1, by omega, by go_num, HS.out hy, hbl.alloc hsz _⟩
        case measure => simp [intOf]; omega
      · go_wp2
        go_ret
        exact ⟨ret_bool (HZ.out hy).symm, hbl.alloc hsz _⟩
    · go_wp2
      go_ret
      exact ⟨ret_bool (any_done _ xs n HN.out k (by omega) hany.out), hbl⟩

set_option maxRecDepth 100000 in
set_option maxHeartbeats 1000000 in
theorem hasId_any (b o : Nat) (ao : Option Addr) (n c : Nat) (xs : List Cel) (a : Int) (w : World) (hp : w.cell? ⟨b, o, none⟩ = some (.slice ao n c)) (hx : CelsAt w ao xs) (hn : xs.length = n) (hm : n ≤ 1000000) :
    Calls Try.prog 123 #[.pointer (some ⟨b, o, none⟩), .int .i64 a] w fun e w' => e = .returned (.bool (hasId xs a)) ∧ Below w.heap.size w w' := by
  have HN : Hid (xs.length = n) := hn
  have HX : Hid (CelsAt w ao xs) := hx
  clear hn hx
  go_enter Try.func123, Try.ntmps123
  go_wp2
  go_loopw [12] (fun i wr => ∃ k : Nat, k ≤ n ∧ i = .int .i64 k ∧ Hid ((xs.take k).any (fun x => x.id == a) = false) ∧ Below w.heap.size w wr) (fun i _ => n - (intOf i).toNat)
  case atStart => exact ⟨0, Nat.zero_le _, rfl, by show List.any _ _ = false; simp, Below.refl _ _⟩
  case round =>
    obtain ⟨k, hk, rfl, hany, hbl⟩ := hrel
    have hsz := hbl.size
    by_cases hlt : k < n
    · rcases HX.out with hnil | ⟨g, off, rfl, hrow⟩
      · have := HN.out; rw [hnil] at this; simp at this; omega
      obtain ⟨c0, c1, c2, c3, c4, c5⟩ := celCells (hrow.grown hbl) k (by rw [HN.out]; exact hlt)
      have HS : Hid _ := any_no (fun x : Cel => x.id == a) xs dC k (by rw [HN.out]; exact hlt) hany.out
      have HZ : Hid _ := any_yes (fun x : Cel => x.id == a) xs dC k (by rw [HN.out]; exact hlt)
      clear hrow
      generalize xs.getD k dC = y at c0 c1 c2 c3 c4 c5 HS HZ
      obtain ⟨yid, ypos, yto, yval, ymade, yspent⟩ := y
      simp only at c0 c1 c2 c3 c4 c5
      cases hy : (yid == a)
      · go_wp2
        go_roundw
        case rel => exact ⟨k + 1, by omega, by go_num, HS.out hy, hbl.alloc hsz _⟩
        case measure => simp [intOf]; omega
      · go_wp2
        go_ret
        exact ⟨ret_bool (HZ.out hy).symm, hbl.alloc hsz _⟩
    · go_wp2
      go_ret
      exact ⟨ret_bool (any_done _ xs n HN.out k (by omega) hany.out), hbl⟩

end Go.Proofs.Ytffgpepngcnjeaa
