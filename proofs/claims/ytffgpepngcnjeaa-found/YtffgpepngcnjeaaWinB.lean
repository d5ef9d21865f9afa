/-
  Package watch: the watched keys, the first key of an address.
-/
import Derived.Test.YtffgpepngcnjeaaWinA
namespace Go.Proofs.Ytffgpepngcnjeaa
open Go.RowKit

/-- a watched key -/
structure KeyD where
  br : Int
  ix : Int
  ad : Int
def dK : KeyD := ⟨0, 0, 0⟩
def KeyD.l (x : KeyD) : List Value := [.int .i64 x.br, .int .i64 x.ix, .int .i64 x.ad]
theorem key3 (x : KeyD) : x.l.length = 3 := rfl
theorem key_one (x : KeyD) : ∀ u ∈ x.l, u.oneCell' = true := by
  intro u hu
  simp [KeyD.l] at hu
  rcases hu with rfl | rfl | rfl <;> rfl
theorem info174 : (Try.prog.info? 174).map (fun i => (i.zero, i.size, i.bytes)) = some (some (.agg #[.int .i64 0, .int .i64 0, .int .i64 0]), 3, 24) := by kernel_rfl

def keysB (s br : Int) (n : Nat) : List KeyD := (List.range n).map fun i : Nat => ⟨br, i, Mk.adr s br i⟩
def keysP (xs : List Cel) (s : Int) (g : Nat) : Nat → List KeyD
  | 0 => []
  | k + 1 => keysP xs s g k ++ keysB s k (winZ xs s g k)
def keysZ (xs : List Cel) (s : Int) (g : Nat) : List KeyD := keysB s 0 (winZ xs s g 0) ++ keysB s 1 (winZ xs s g 1)
theorem keysP_two (xs : List Cel) (s : Int) (g : Nat) : keysP xs s g 2 = keysZ xs s g := by simp [keysP, keysZ]
theorem keysB_snoc (s br : Int) (k : Nat) : keysB s br (k + 1) = keysB s br k ++ [⟨br, k, Mk.adr s br k⟩] := by
  unfold keysB
  rw [List.range_succ, List.map_append]
  rfl
theorem keysB_len (s br : Int) (k : Nat) : (keysB s br k).length = k := by simp [keysB]

theorem wgo_le (hit : Nat → Bool) (g : Nat) : ∀ f i v, v ≤ 100 → wgo hit g f i v ≤ 100 := by
  intro f
  induction f with
  | zero => intro i v h; exact h
  | succ f ih =>
    intro i v h
    unfold wgo
    split
    · apply ih
      split <;> omega
    · exact h
theorem winZ_le (xs : List Cel) (s : Int) (g : Nat) (br : Int) : winZ xs s g br ≤ 100 := wgo_le _ _ _ _ _ (by omega)
theorem keysP_len (xs : List Cel) (s : Int) (g : Nat) : ∀ k, (keysP xs s g k).length ≤ k * 100 := by
  intro k
  induction k with
  | zero => simp [keysP]
  | succ k ih =>
    have := winZ_le xs s g k
    rw [keysP, List.length_append, keysB_len]
    omega

abbrev OwnKeys (w : World) (base : Nat) (v : Value) (xs : List KeyD) : Prop := OwnRec KeyD.l 174 3 w base v xs

set_option maxRecDepth 100000 in
set_option maxHeartbeats 4000000 in
theorem keys_any (b o : Nat) (ao : Option Addr) (n c : Nat) (xs : List Cel) (s : Int) (g : Nat) (w : World) (hs : Mk.isM s = true) (hg : 1 ≤ g) (hg2 : g ≤ 20)
    (hp : w.cell? ⟨b, o, none⟩ = some (.slice ao n c)) (hx : CelsAt w ao xs) (hn : xs.length = n) (hm : n ≤ 1000000) :
    Calls Try.prog 110 #[.pointer (some ⟨b, o, none⟩), .int .i64 s, .int .i64 g] w fun e w' => ∃ v, e = .returned v ∧ OwnKeys w' w.heap.size v (keysZ xs s g) ∧ Below w.heap.size w w' := by
  have HN : Hid (xs.length = n) := hn
  have HX : Hid (CelsAt w ao xs) := hx
  have HP : Hid (w.cell? ⟨b, o, none⟩ = some (.slice ao n c)) := hp
  clear hn hx hp
  generalize hB : w.heap.size = B
  have HB : Hid (w.heap.size = B) := hB
  clear hB
  go_enter Try.func110, Try.ntmps110
  go_wp2
  go_loopw [7, 8] (fun v i wr => ∃ k : Nat, k ≤ 2 ∧ i = .int .i64 k ∧ OwnKeys wr B v (keysP xs s g k) ∧ Below B w wr) (fun _ i _ => 2 - (intOf i).toNat)
  case atStart => exact ⟨0, by omega, rfl, OwnRec.nil _ _ _ _ _, Below.refl _ _⟩
  case round =>
    obtain ⟨k, hk, rfl, hown, hbl⟩ := hrel
    have hsz := hbl.size
    rw [HB.out] at hsz
    by_cases hlt : k < 2
    · have hbr : (k : Int) = 0 ∨ (k : Int) = 1 := by omega
      have HBR : Hid ((k : Int) = 0 ∨ (k : Int) = 1) := hbr
      clear hbr
      have hp1 := (hbl.cell (p := ⟨b, o, none⟩) (by have := cell_lt HP.out; rw [HB.out] at this; exact this)).trans HP.out
      have HX1 : Hid (CelsAt wr ao xs) := HX.out.grown (by rw [HB.out]; exact hbl)
      go_wp2_with fail
      refine (window_any b o ao n c xs s g k _ hs hg hg2 HBR.out hp1 HX1.out HN.out hm).mono ?_
      rintro e w1 ⟨rfl, hb1⟩
      have hown1 := OwnRec.grown hown hb1
      have hbl1 := hbl.trans (hb1.mono hsz)
      have hsz1 : B ≤ w1.heap.size := Nat.le_trans hsz hb1.size
      have HL : Hid ((keysP xs s g k).length ≤ k * 100) := keysP_len xs s g k
      have HE : Hid (keysP xs s g (k + 1) = keysP xs s g k ++ keysB s k (winZ xs s g k)) := rfl
      have hW := winZ_le xs s g k
      generalize winZ xs s g k = W at *
      generalize keysP xs s g k = L at *
      clear hown hbl hb1 hp1 HX1 hsz
      go_wp2
      go_loopw [7, 10] (fun v i wr => ∃ j : Nat, j ≤ W ∧ i = .int .i64 j ∧ OwnKeys wr B v (L ++ keysB s k j) ∧ Below B w wr) (fun _ i _ => W - (intOf i).toNat)
      case atStart => exact ⟨0, by omega, rfl, by simpa [keysB] using hown1, hbl1⟩
      case round =>
        obtain ⟨j, hj, rfl, hown2, hbl2⟩ := hrel
        have hsz2 := hbl2.size
        rw [HB.out] at hsz2
        by_cases hjt : j < W
        · have hK := key_ok hs HBR.out (show (0 : Int) ≤ (j : Int) by omega) (show (j : Int) < 100 by omega)
          go_wp2_with fail
          refine (address_yes _ _ _ _ hK).mono ?_
          rintro e w2 ⟨rfl, hb2⟩
          have hown3 := OwnRec.grown hown2 hb2
          have hbl3 := hbl2.trans (hb2.mono hsz2)
          have hsz3 : B ≤ w2.heap.size := Nat.le_trans hsz2 hb2.size
          have hll : (L ++ keysB s k j).length ≤ 300 := by rw [List.length_append, keysB_len]; have := HL.out; omega
          have HL2 : Hid ((L ++ keysB s k j).length ≤ 300) := hll
          have HE2 : Hid (L ++ keysB s k (j + 1) = (L ++ keysB s k j) ++ [⟨k, j, Mk.adr s k j⟩]) := by show _ = _; rw [keysB_snoc, List.append_assoc]
          clear hown2 hbl2 hb2 hsz2 hll
          generalize L ++ keysB s k j = L2 at *
          go_wp2_with (at_builtin; refine wpList_appR 164 24 _ Try.underlying164 info174 rfl (by decide) key3 key_one (w2.alloc (.cells #[.int .i64 k, .int .i64 j, .int .i64 (Mk.adr s k j)] 174)) rfl _ _ rfl B w2.heap.size 1 _ L2 ⟨k, j, Mk.adr s k j⟩ (by rfl) (by rfl) (hown3.alloc _) (vrow_new _ _ _) (by simp; omega) (by have := HL2.out; unfold maxLen; omega) (by have := HL2.out; omega) ?_; intro g' cap w3 hown4 hg4 _ _)
          go_roundw
          case rel => exact ⟨j + 1, by omega, by go_num, by rw [HE2.out]; exact hown4, hbl3.trans (gb_to_below (gb_trans (gb_alloc _ _ _) hg4) hsz3 (fun q hq => (hown3.blk q hq).1))⟩
          case measure => simp [intOf]; omega
        · have hjW : j = W := by omega
          subst hjW
          go_wp2
          go_roundw
          case rel => exact ⟨k + 1, by omega, by go_num, by rw [HE.out]; exact hown2, hbl2⟩
          case measure => simp [intOf]; omega
    · have hk2 : k = 2 := by omega
      subst hk2
      rw [keysP_two] at hown
      go_wp2
      go_ret
      exact ⟨_, rfl, hown, hbl⟩

end Go.Proofs.Ytffgpepngcnjeaa
