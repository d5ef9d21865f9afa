/-
  The chain's coins; the first key of an address.
-/
import Derived.Test.YtffgpepngcnjeaaWinB
namespace Go.Proofs.Ytffgpepngcnjeaa
open Go.RowKit

/-- a coin of the chain -/
structure CoinC where
  id : Int
  pos : Int
  to : Int
  val : Int
def dCC : CoinC := ⟨0, 0, 0, 0⟩
def CoinC.l (x : CoinC) : List Value := [.int .i64 x.id, .int .i64 x.pos, .int .i64 x.to, .int .i64 x.val]
theorem coinC4 (x : CoinC) : x.l.length = 4 := rfl
theorem coinC_one (x : CoinC) : ∀ u ∈ x.l, u.oneCell' = true := by
  intro u hu
  simp [CoinC.l] at hu
  rcases hu with rfl | rfl | rfl | rfl <;> rfl
theorem info171 : (Try.prog.info? 171).map (fun i => (i.zero, i.size, i.bytes)) = some (some (.agg #[.int .i64 0, .int .i64 0, .int .i64 0, .int .i64 0]), 4, 32) := by kernel_rfl
def Cel.c (x : Cel) : CoinC := ⟨x.id, x.pos, x.to, x.val⟩
def coinsC (xs : List Cel) : List CoinC := (xs.filter fun x => x.spent == -1).map Cel.c
theorem coinsC_snoc (xs : List Cel) (k : Nat) (h : k < xs.length) : coinsC (xs.take (k + 1)) = coinsC (xs.take k) ++ (if (xs.getD k dC).spent == -1 then [(xs.getD k dC).c] else []) := by
  unfold coinsC
  rw [List.take_succ_eq_append_getElem h, List.filter_append, List.map_append]
  simp only [List.getD, List.getElem?_eq_getElem h, Option.getD_some]
  congr 1
  simp only [List.filter_cons, List.filter_nil]
  split <;> rfl
theorem coinsC_len (xs : List Cel) : (coinsC xs).length ≤ xs.length := by
  unfold coinsC
  rw [List.length_map]
  exact List.length_filter_le _ _

abbrev OwnCC (w : World) (base : Nat) (v : Value) (xs : List CoinC) : Prop := OwnRec CoinC.l 171 4 w base v xs

set_option maxRecDepth 100000 in
set_option maxHeartbeats 2000000 in
theorem chCoins_any (b o : Nat) (ao : Option Addr) (n c : Nat) (xs : List Cel) (w : World) (hp : w.cell? ⟨b, o, none⟩ = some (.slice ao n c)) (hx : CelsAt w ao xs) (hn : xs.length = n) (hm : n ≤ 1000000) :
    Calls Try.prog 111 #[.pointer (some ⟨b, o, none⟩)] w fun e w' => ∃ v, e = .returned v ∧ OwnCC w' w.heap.size v (coinsC xs) ∧ Below w.heap.size w w' := by
  have HN : Hid (xs.length = n) := hn
  have HX : Hid (CelsAt w ao xs) := hx
  clear hn hx
  generalize hB : w.heap.size = B
  have HB : Hid (w.heap.size = B) := hB
  clear hB
  go_enter Try.func111, Try.ntmps111
  go_wp2
  go_loopw [3, 11] (fun v i wr => ∃ k : Nat, k ≤ n ∧ i = .int .i64 k ∧ OwnCC wr B v (coinsC (xs.take k)) ∧ Below B w wr) (fun _ i _ => n - (intOf i).toNat)
  case atStart => exact ⟨0, Nat.zero_le _, rfl, OwnRec.nil _ _ _ _ _, Below.refl _ _⟩
  case round =>
    obtain ⟨k, hk, rfl, hown, hbl⟩ := hrel
    have hsz := hbl.size
    rw [HB.out] at hsz
    by_cases hlt : k < n
    · rcases HX.out with hnil | ⟨g, off, rfl, hrow⟩
      · have := HN.out; rw [hnil] at this; simp at this; omega
      obtain ⟨c0, c1, c2, c3, c4, c5⟩ := celCells (hrow.grown (by rw [HB.out]; exact hbl)) k (by rw [HN.out]; exact hlt)
      have HS : Hid _ := coinsC_snoc xs k (by rw [HN.out]; exact hlt)
      have hll : (coinsC (xs.take k)).length ≤ 1000000 := Nat.le_trans (coinsC_len _) (by rw [List.length_take, HN.out]; omega)
      have HL : Hid ((coinsC (xs.take k)).length ≤ 1000000) := hll
      clear hrow hll
      generalize coinsC (xs.take k) = L at *
      generalize xs.getD k dC = y at c0 c1 c2 c3 c4 c5 HS
      obtain ⟨yid, ypos, yto, yval, ymade, yspent⟩ := y
      simp only at c0 c1 c2 c3 c4 c5
      cases hy : (yspent == -1)
      · go_wp2
        go_roundw
        case rel => exact ⟨k + 1, by omega, by go_num, by have := HS.out; simp only [hy] at this; rw [this]; simpa using hown.alloc _, hbl.alloc hsz _⟩
        case measure => simp [intOf]; omega
      · have hown1 := hown.alloc (.cells #[.int .i64 yid, .int .i64 ypos, .int .i64 yto, .int .i64 yval, .int .i64 ymade, .int .i64 yspent] 191)
        have hbl1 := hbl.alloc hsz (.cells #[.int .i64 yid, .int .i64 ypos, .int .i64 yto, .int .i64 yval, .int .i64 ymade, .int .i64 yspent] 191)
        go_wp2_with (at_builtin; refine wpList_appR 168 32 _ Try.underlying168 info171 rfl (by decide) coinC4 coinC_one ((wr.alloc (.cells #[.int .i64 yid, .int .i64 ypos, .int .i64 yto, .int .i64 yval, .int .i64 ymade, .int .i64 yspent] 191)).alloc (.cells #[.int .i64 yid, .int .i64 ypos, .int .i64 yto, .int .i64 yval] 171)) rfl _ _ rfl B (wr.alloc (.cells #[.int .i64 yid, .int .i64 ypos, .int .i64 yto, .int .i64 yval, .int .i64 ymade, .int .i64 yspent] 191)).heap.size 1 _ L ⟨yid, ypos, yto, yval⟩ (by rfl) (by simp [World.size_alloc]; rfl) (hown1.alloc _) (vrow_new _ _ _) (by simp; omega) (by have := HL.out; unfold maxLen; omega) (by have := HL.out; omega) ?_; intro g' cap w3 hown4 hg4 _ _)
        go_roundw
        case rel => exact ⟨k + 1, by omega, by go_num, by have := HS.out; simp only [hy] at this; rw [this]; exact hown4, hbl1.trans (gb_to_below (gb_trans (gb_alloc _ _ _) hg4) (by simp; omega) (fun q hq => (hown1.blk q hq).1))⟩
        case measure => simp [intOf]; omega
    · rw [List.take_of_length_le (by rw [HN.out]; omega)] at hown
      go_wp2
      go_ret
      exact ⟨_, rfl, hown, hbl⟩

/-- the number of the first that p holds of, counted from i on; -1: there is none -/
def idxOf {α : Type} (p : α → Bool) : List α → Nat → Int
  | [], _ => -1
  | x :: r, i => if p x = true then i else idxOf p r (i + 1)
theorem idxOf_drop {α : Type} (p : α → Bool) (l : List α) (d : α) (k i : Nat) (h : k < l.length) : idxOf p (l.drop k) i = if p (l.getD k d) = true then (i : Int) else idxOf p (l.drop (k + 1)) (i + 1) := by
  rw [List.drop_eq_getElem_cons h]
  simp only [List.getD, List.getElem?_eq_getElem h, Option.getD_some]
  rfl

structure KeyCells (w : World) (b off : Nat) (x : KeyD) : Prop where
  c0 : w.cell? ⟨b, off, none⟩ = some (.int .i64 x.br)
  c1 : w.cell? ⟨b, off + 1, none⟩ = some (.int .i64 x.ix)
  c2 : w.cell? ⟨b, off + 2, none⟩ = some (.int .i64 x.ad)
theorem keyCells {w : World} {b off : Nat} {xs : List KeyD} (h : VRow w b off (xs.flatMap KeyD.l)) (j : Nat) (hj : j < xs.length) : KeyCells w b (off + j * 3) (xs.getD j dK) :=
  ⟨rcell key3 dK h j hj 0 (by omega), rcell key3 dK h j hj 1 (by omega), rcell key3 dK h j hj 2 (by omega)⟩

def firstZ (ks : List KeyD) (a : Int) : Int := idxOf (fun x => x.ad == a) ks 0

set_option maxRecDepth 100000 in
set_option maxHeartbeats 2000000 in
theorem first_any (ao : Option Addr) (n c : Nat) (ks : List KeyD) (a : Int) (w : World) (hx : RecAt KeyD.l w ao ks) (hn : ks.length = n) (hm : n ≤ 1000000) :
    Calls Try.prog 112 #[.slice ao n c, .int .i64 a] w fun e w' => e = .returned (.int .i64 (firstZ ks a)) ∧ Below w.heap.size w w' := by
  have HN : Hid (ks.length = n) := hn
  have HX : Hid (RecAt KeyD.l w ao ks) := hx
  clear hn hx
  go_enter Try.func112, Try.ntmps112
  go_wp2
  go_loopw [9] (fun i wr => ∃ k : Nat, k ≤ n ∧ i = .int .i64 k ∧ Hid (idxOf (fun x : KeyD => x.ad == a) (ks.drop k) k = firstZ ks a) ∧ Below w.heap.size w wr) (fun i _ => n - (intOf i).toNat)
  case atStart => exact ⟨0, Nat.zero_le _, rfl, rfl, Below.refl _ _⟩
  case round =>
    obtain ⟨k, hk, rfl, hz, hbl⟩ := hrel
    have hsz := hbl.size
    by_cases hlt : k < n
    · rcases HX.out with hnil | ⟨g, off, rfl, hrow⟩
      · have := HN.out; rw [hnil] at this; simp at this; omega
      obtain ⟨c0, c1, c2⟩ := keyCells (hrow.grown hbl) k (by rw [HN.out]; exact hlt)
      have HS : Hid _ := hz.out
      rw [idxOf_drop _ _ dK k k (by rw [HN.out]; exact hlt)] at HS
      clear hrow
      generalize ks.getD k dK = y at c0 c1 c2 HS
      obtain ⟨ybr, yix, yad⟩ := y
      simp only at c0 c1 c2
      cases hy : (yad == a)
      · go_wp2
        go_roundw
        case rel => exact ⟨k + 1, by omega, by go_num, by show _ = _; have := HS.out; simp only [hy] at this; simpa using this, hbl.alloc hsz _⟩
        case measure => simp [intOf]; omega
      · go_wp2
        go_ret
        exact ⟨ret_int (by have := HS.out; simp only [hy] at this; simpa using this), hbl.alloc hsz _⟩
    · go_wp2
      go_ret
      refine ⟨ret_int ?_, hbl⟩
      rw [← hz.out, List.drop_of_length_le (by rw [HN.out]; omega)]
      rfl

end Go.Proofs.Ytffgpepngcnjeaa
