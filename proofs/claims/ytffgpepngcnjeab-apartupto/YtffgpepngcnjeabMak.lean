/-
  The key of a change: NextChange, Unpaid.
  Package payments: the list in memory; Add.
  Package payments: Add, walked.
  Funds: its small functions: size, nothing, sameOuts, value, request.
  Funds: inputs.
  A purse with its payments; Pay: what it answers.
  Windows, Coins and Balance of a purse, whatever its payments are.
  Funds: change, full.
  Funds: fair.
-/
import Derived.Test.YtffgpepngcnjeabMaj
import Derived.Deep.RegionLaw
import Derived.Test.YtffgpepngcnjeabMah
import Derived.Test.YtffgpepngcnjeabMab
import Derived.Deep.RegionHeld3
import Derived.Test.YtffgpepngcnjeabMai
namespace Go.Proofs.Ytffgpepngcnjeab
open Go.RowKit
set_option maxRecDepth 100000 in
set_option maxHeartbeats 400000 in
theorem nextChange_any (b o : Nat) (x : Int) (w : World) (h : w.cell? ⟨b, o + 3, none⟩ = some (.int .i64 x)) : Calls Try.prog 50 #[.pointer (some ⟨b, o, none⟩)] w fun e w' => e = .returned (.int .i64 x) ∧ w = w' := by
  go_enter Try.func50, Try.ntmps50
  go_wp2
  go_ret
  exact ⟨rfl, rfl⟩
/-- a key for a change -/
def unpB (xs : List Cel) (fr : Int) (k : KeyD) : Bool := k.br == 1 && (decide (fr ≤ k.ix) && !paidTo xs k.ad)
def unpZ (xs : List Cel) (s : Int) (g : Nat) (fr : Int) : Option KeyD := (keysZ xs s g).find? (unpB xs fr)
set_option maxRecDepth 100000 in
set_option maxHeartbeats 2000000 in
theorem unpaid_any (b o : Nat) (ao : Option Addr) (n c : Nat) (xs : List Cel) (s : Int) (g : Nat) (fr : Int) (w : World) (hs : Mk.isM s = true) (hg : 1 ≤ g) (hg2 : g ≤ 20) (hp : w.cell? ⟨b, o, none⟩ = some (.slice ao n c)) (hx : CelsAt w ao xs) (hn : xs.length = n) (hm : n ≤ 1000000) :
    Calls Try.prog 51 #[.pointer (some ⟨b, o, none⟩), .int .i64 s, .int .i64 (g : Int), .int .i64 fr] w fun e w' => (∃ x f, e = .returned (.tuple #[.agg #[.int .i64 x.br, .int .i64 x.ix, .int .i64 x.ad], .bool f]) ∧ ((f = false ∧ unpZ xs s g fr = none) ∨ (f = true ∧ unpZ xs s g fr = some x))) ∧ Below w.heap.size w w' := by
  have HN : Hid (xs.length = n) := hn
  have HX : Hid (CelsAt w ao xs) := hx
  have HP : Hid (w.cell? ⟨b, o, none⟩ = some (.slice ao n c)) := hp
  clear hn hx hp
  have hbA : Below w.heap.size w (w.alloc (.cells #[.int .i64 0, .int .i64 0, .int .i64 0] 112)) := (Below.refl _ _).alloc (Nat.le_refl _) _
  have r0 : (w.alloc (.cells #[.int .i64 0, .int .i64 0, .int .i64 0] 112)).cell? ⟨w.heap.size, 0, none⟩ = some (.int .i64 0) := by go_simp
  have r1 : (w.alloc (.cells #[.int .i64 0, .int .i64 0, .int .i64 0] 112)).cell? ⟨w.heap.size, 1, none⟩ = some (.int .i64 0) := by go_simp
  have r2 : (w.alloc (.cells #[.int .i64 0, .int .i64 0, .int .i64 0] 112)).cell? ⟨w.heap.size, 2, none⟩ = some (.int .i64 0) := by go_simp
  have HF : Hid (∀ j, (w.alloc (.cells #[.int .i64 0, .int .i64 0, .int .i64 0] 112)).frozen? ⟨w.heap.size, j, none⟩ = false) := fun j => World.frozen?_alloc_at _ _ _ _ rfl
  go_enter Try.func51, Try.ntmps51
  go_upto_region 1 with fail
  generalize w.alloc (.cells #[.int .i64 0, .int .i64 0, .int .i64 0] 112) = w0 at *
  have hz0 : w.heap.size < w0.heap.size := cell_lt r0
  have HP0 : Hid (w0.cell? ⟨b, o, none⟩ = some (.slice ao n c)) := (hbA.cell (p := ⟨b, o, none⟩) (cell_lt HP.out)).trans HP.out
  have HX0 : Hid (CelsAt w0 ao xs) := HX.out.grown hbA
  clear HP HX
  generalize hB : w.heap.size = B at *
  have HBe : Hid (w.heap.size = B) := hB
  clear hB
  go_wp2_with fail
  refine (keys_any b o ao n c xs s g _ hs hg hg2 HP0.out HX0.out HN.out (by omega)).mono ?_
  rintro e w1 ⟨vk, rfl, hk1, hb1⟩
  have HKL : Hid ((keysZ xs s g).length ≤ 200) := keysZ_len xs s g
  have HUN : Hid (unpZ xs s g fr = (keysZ xs s g).find? (unpB xs fr)) := rfl
  generalize keysZ xs s g = ks at *
  obtain ⟨ak, ck, rfl, hkat⟩ := OwnRec.at key3 hk1
  generalize hkl : ks.length = kl at *
  have HKN : Hid (ks.length = kl) := hkl
  have hkl2 : kl ≤ 200 := HKL.out
  have HKA : Hid (RecAt KeyD.l w1 ak ks) := hkat
  have HP1 : Hid (w1.cell? ⟨b, o, none⟩ = some (.slice ao n c)) := (hb1.cell (p := ⟨b, o, none⟩) (cell_lt HP0.out)).trans HP0.out
  have HX1 : Hid (CelsAt w1 ao xs) := HX0.out.grown hb1
  have HB1 : Hid (Below B w w1) := hbA.trans (hb1.mono (by omega))
  have q0 := (hb1.cell (p := ⟨B, 0, none⟩) hz0).trans r0
  have q1 := (hb1.cell (p := ⟨B, 1, none⟩) hz0).trans r1
  have q2 := (hb1.cell (p := ⟨B, 2, none⟩) hz0).trans r2
  have HF1 : Hid (∀ j, w1.frozen? ⟨B, j, none⟩ = false) := fun j => (hb1.frozen (p := ⟨B, j, none⟩) hz0).trans (HF.out j)
  have hz1 : B < w1.heap.size := cell_lt q0
  clear hkl hk1 hkat hb1 hbA r0 r1 r2 HP0 HX0 HF HKL
  go_wp2
  go_loopw [17] (fun i wr => ∃ k : Nat, k ≤ kl ∧ i = .int .i64 k ∧ Hid (unpZ xs s g fr = (ks.drop k).find? (unpB xs fr)) ∧ Below w1.heap.size w1 wr) (fun i _ => kl - (intOf i).toNat)
  case atStart => exact ⟨0, Nat.zero_le _, rfl, HUN.out, Below.refl _ _⟩
  case round =>
    obtain ⟨k, hk, rfl, hz, hbl⟩ := hrel
    have hsz := hbl.size
    by_cases hlt : k < kl
    · rcases HKA.out with hnil | ⟨gk, ok, rfl, hrow⟩
      · have := HKN.out; rw [hnil] at this; simp at this; omega
      obtain ⟨k0, k1, k2⟩ := keyCells (hrow.grown hbl) k (by rw [HKN.out]; exact hlt)
      have hz' := hz.out
      rw [show ks.drop k = ks.getD k dK :: ks.drop (k + 1) by
        rw [List.drop_eq_getElem_cons (by rw [HKN.out]; exact hlt)]
        simp [List.getD, HKN.out, hlt], List.find?_cons] at hz'
      have HZ : Hid _ := hz'
      clear hz' hz hrow
      generalize ks.getD k dK = y at *
      obtain ⟨y0, y1, y2⟩ := y
      simp only at k0 k1 k2
      have hb4 : Below wr.heap.size wr (wr.alloc (.cells #[.int .i64 y0, .int .i64 y1, .int .i64 y2] 112)) := (Below.refl _ _).alloc (Nat.le_refl _) _
      have hbw4 : Below w1.heap.size w1 (wr.alloc (.cells #[.int .i64 y0, .int .i64 y1, .int .i64 y2] 112)) := hbl.alloc hsz _
      have HP4 : Hid ((wr.alloc (.cells #[.int .i64 y0, .int .i64 y1, .int .i64 y2] 112)).cell? ⟨b, o, none⟩ = some (.slice ao n c)) := (hbw4.cell (p := ⟨b, o, none⟩) (cell_lt HP1.out)).trans HP1.out
      have HX4 : Hid (CelsAt (wr.alloc (.cells #[.int .i64 y0, .int .i64 y1, .int .i64 y2] 112)) ao xs) := HX1.out.grown hbw4
      have x0 : (wr.alloc (.cells #[.int .i64 y0, .int .i64 y1, .int .i64 y2] 112)).cell? ⟨wr.heap.size, 0, none⟩ = some (.int .i64 y0) := by go_simp
      have x1 : (wr.alloc (.cells #[.int .i64 y0, .int .i64 y1, .int .i64 y2] 112)).cell? ⟨wr.heap.size, 1, none⟩ = some (.int .i64 y1) := by go_simp
      have x2 : (wr.alloc (.cells #[.int .i64 y0, .int .i64 y1, .int .i64 y2] 112)).cell? ⟨wr.heap.size, 2, none⟩ = some (.int .i64 y2) := by go_simp
      go_upto_region 4 with fail
      generalize wr.alloc (.cells #[.int .i64 y0, .int .i64 y1, .int .i64 y2] 112) = w4 at *
      generalize wr.heap.size = X at *
      clear k0 k1 k2 hb4
      have hXl : X < w4.heap.size := cell_lt x0
      cases h1 : (y0 == 1)
      · have HZ2 : Hid (unpZ xs s g fr = (ks.drop (k + 1)).find? (unpB xs fr)) := by have := HZ.out; simp only [unpB, h1, Bool.false_and] at this; exact this
        go_wp2
        go_roundw
        case rel => exact ⟨k + 1, by omega, by go_num, HZ2.out, hbw4⟩
        case measure => simp [intOf]; omega
      · by_cases h2 : fr ≤ y1
        · have hd2 : decide (fr ≤ y1) = true := decide_eq_true h2
          go_wp2_with fail
          refine (isPaid_any b o ao n c xs y2 _ HP4.out HX4.out HN.out hm).mono ?_
          rintro e w5 ⟨rfl, hb5⟩
          have hbw5 : Below w1.heap.size w1 w5 := hbw4.trans (hb5.mono (by have := hbw4.size; omega))
          have p0 := (hb5.cell (p := ⟨X, 0, none⟩) hXl).trans x0
          have p1 := (hb5.cell (p := ⟨X, 1, none⟩) hXl).trans x1
          have p2 := (hb5.cell (p := ⟨X, 2, none⟩) hXl).trans x2
          clear x0 x1 x2 hb5
          cases h3 : paidTo xs y2
          · have HZ2 : Hid (unpZ xs s g fr = some ⟨y0, y1, y2⟩) := by have := HZ.out; simp only [unpB, h1, hd2, h3] at this; exact this
            have s0 := (hbw5.cell (p := ⟨B, 0, none⟩) hz1).trans q0
            have s1 := (hbw5.cell (p := ⟨B, 1, none⟩) hz1).trans q1
            have s2 := (hbw5.cell (p := ⟨B, 2, none⟩) hz1).trans q2
            have f0 := (hbw5.frozen (p := ⟨B, 0, none⟩) hz1).trans (HF1.out 0)
            have f1 := (hbw5.frozen (p := ⟨B, 1, none⟩) hz1).trans (HF1.out 1)
            have f2 := (hbw5.frozen (p := ⟨B, 2, none⟩) hz1).trans (HF1.out 2)
            have HBF : Hid _ := ((((HB1.out.trans (hbw5.mono (by omega))).setCell (p := ⟨B, 0, none⟩) (Nat.le_refl _) (.int .i64 y0)).setCell (p := ⟨B, 1, none⟩) (Nat.le_refl _) (.int .i64 y1)).setCell (p := ⟨B, 2, none⟩) (Nat.le_refl _) (.int .i64 y2))
            go_wp2
            have z0 : (((w5.setCell ⟨B, 0, none⟩ (.int .i64 y0)).setCell ⟨B, 1, none⟩ (.int .i64 y1)).setCell ⟨B, 2, none⟩ (.int .i64 y2)).cell? ⟨B, 0, none⟩ = some (.int .i64 y0) := so (so (ss s0) (by decide)) (by decide)
            have z1 : (((w5.setCell ⟨B, 0, none⟩ (.int .i64 y0)).setCell ⟨B, 1, none⟩ (.int .i64 y1)).setCell ⟨B, 2, none⟩ (.int .i64 y2)).cell? ⟨B, 1, none⟩ = some (.int .i64 y1) := so (ss (so s1 (by decide))) (by decide)
            have z2 : (((w5.setCell ⟨B, 0, none⟩ (.int .i64 y0)).setCell ⟨B, 1, none⟩ (.int .i64 y1)).setCell ⟨B, 2, none⟩ (.int .i64 y2)).cell? ⟨B, 2, none⟩ = some (.int .i64 y2) := ss (so (so s2 (by decide)) (by decide))
            refine bodyPost_ret (v := .tuple #[.agg #[.int .i64 y0, .int .i64 y1, .int .i64 y2], .bool true]) ?_ rfl ⟨⟨⟨y0, y1, y2⟩, true, rfl, Or.inr ⟨rfl, HZ2.out⟩⟩, ?_⟩
            · simp [results, Try.results51, go_sem, z0, z1, z2]
            · rw [HBe.out]; exact HBF.out
          · have HZ2 : Hid (unpZ xs s g fr = (ks.drop (k + 1)).find? (unpB xs fr)) := by have := HZ.out; simp only [unpB, h1, hd2, h3] at this; exact this
            go_wp2
            go_roundw
            case rel => exact ⟨k + 1, by omega, by go_num, HZ2.out, hbw5⟩
            case measure => simp [intOf]; omega
        · have hd2 : decide (fr ≤ y1) = false := decide_eq_false h2
          have HZ2 : Hid (unpZ xs s g fr = (ks.drop (k + 1)).find? (unpB xs fr)) := by have := HZ.out; simp only [unpB, h1, hd2, Bool.false_and] at this; exact this
          go_wp2
          go_roundw
          case rel => exact ⟨k + 1, by omega, by go_num, HZ2.out, hbw4⟩
          case measure => simp [intOf]; omega
    · have HZ2 : Hid (unpZ xs s g fr = none) := by have := hz.out; rw [List.drop_of_length_le (by rw [HKN.out]; omega)] at this; exact this
      have s0 := (hbl.cell (p := ⟨B, 0, none⟩) hz1).trans q0
      have s1 := (hbl.cell (p := ⟨B, 1, none⟩) hz1).trans q1
      have s2 := (hbl.cell (p := ⟨B, 2, none⟩) hz1).trans q2
      have f0 := (hbl.frozen (p := ⟨B, 0, none⟩) hz1).trans (HF1.out 0)
      have f1 := (hbl.frozen (p := ⟨B, 1, none⟩) hz1).trans (HF1.out 1)
      have f2 := (hbl.frozen (p := ⟨B, 2, none⟩) hz1).trans (HF1.out 2)
      have HBF : Hid _ := ((((HB1.out.trans (hbl.mono (by omega))).setCell (p := ⟨B, 0, none⟩) (Nat.le_refl _) (.int .i64 0)).setCell (p := ⟨B, 1, none⟩) (Nat.le_refl _) (.int .i64 0)).setCell (p := ⟨B, 2, none⟩) (Nat.le_refl _) (.int .i64 0))
      go_wp2
      have z0 : (((wr.setCell ⟨B, 0, none⟩ (.int .i64 0)).setCell ⟨B, 1, none⟩ (.int .i64 0)).setCell ⟨B, 2, none⟩ (.int .i64 0)).cell? ⟨B, 0, none⟩ = some (.int .i64 0) := so (so (ss s0) (by decide)) (by decide)
      have z1 : (((wr.setCell ⟨B, 0, none⟩ (.int .i64 0)).setCell ⟨B, 1, none⟩ (.int .i64 0)).setCell ⟨B, 2, none⟩ (.int .i64 0)).cell? ⟨B, 1, none⟩ = some (.int .i64 0) := so (ss (so s1 (by decide))) (by decide)
      have z2 : (((wr.setCell ⟨B, 0, none⟩ (.int .i64 0)).setCell ⟨B, 1, none⟩ (.int .i64 0)).setCell ⟨B, 2, none⟩ (.int .i64 0)).cell? ⟨B, 2, none⟩ = some (.int .i64 0) := ss (so (so s2 (by decide)) (by decide))
      refine bodyPost_ret (v := .tuple #[.agg #[.int .i64 0, .int .i64 0, .int .i64 0], .bool false]) ?_ rfl ⟨⟨⟨0, 0, 0⟩, false, rfl, Or.inl ⟨rfl, HZ2.out⟩⟩, ?_⟩
      · simp [results, Try.results51, go_sem, z0, z1, z2]
      · rw [HBe.out]; exact HBF.out
end Go.Proofs.Ytffgpepngcnjeab

namespace Go.Proofs.Ytffgpepngcnjeab
open Go.RowKit
theorem info119 : (Try.prog.info? 119).map (fun i => (i.zero, i.size, i.bytes)) = some (some (.agg #[.int .i64 0, .slice none 0 0, .slice none 0 0, .int .i64 0, .bool false]), 5, 72) := by kernel_rfl
/-- the payments at ⟨b, o⟩: the live ones, the keys that have sealed, how many were made, the next change's index -/
structure LsAt (N : Nat → Prop) (w : World) (b o base : Nat) (vl vs : Value) (md nx : Int) (ps : List PayD) (ks : List (Int × Int)) : Prop where
  c0 : w.cell? ⟨b, o, none⟩ = some vl
  c1 : w.cell? ⟨b, o + 1, none⟩ = some vs
  c2 : w.cell? ⟨b, o + 2, none⟩ = some (.int .i64 md)
  c3 : w.cell? ⟨b, o + 3, none⟩ = some (.int .i64 nx)
  fz : ∀ j, w.frozen? ⟨b, j, none⟩ = false
  ol : OwnRec PayD.v 119 5 w base vl ps
  os : OwnRec kV 93 2 w base vs ks
  ok : ∀ p ∈ ps, PayOk N w p
  nb : b < base
  nl : ∀ k, vl.ownBlock = some k → vs.ownBlock ≠ some k
  nN : ∀ k, N k → k < w.heap.size ∧ k ≠ b ∧ vl.ownBlock ≠ some k ∧ vs.ownBlock ≠ some k
/-- the blocks of the list -/
def lsE (b : Nat) (vl vs : Value) (k : Nat) : Prop := k = b ∨ vl.ownBlock = some k ∨ vs.ownBlock = some k
variable {N : Nat → Prop} {w : World} {b o base : Nat} {vl vs : Value} {md nx : Int} {ps : List PayD} {ks : List (Int × Int)}
theorem LsAt.blk (h : LsAt N w b o base vl vs md nx ps ks) : ∀ k, lsE b vl vs k → k < w.heap.size := by
  intro k hk
  rcases hk with e | e | e
  · rw [e]; exact cell_lt h.c0
  · exact (h.ol.blk k e).2
  · exact (h.os.blk k e).2
theorem LsAt.fr {E : Nat → Prop} {w' : World} (h : LsAt N w b o base vl vs md nx ps ks) (hf : Fr E w w') (he : ∀ k, lsE b vl vs k → ¬ E k) (hn : ∀ k, N k → ¬ E k) : LsAt N w' b o base vl vs md nx ps ks := by
  have hb : ¬ E b := he b (Or.inl rfl)
  have hl := cell_lt h.c0
  exact ⟨hf.cell h.c0 hb, hf.cell h.c1 hb, hf.cell h.c2 hb, hf.cell h.c3 hb, fun j => (hf.frozen hl hb).trans (h.fz j), hf.own h.ol (fun k hk => he k (Or.inr (Or.inl hk))), hf.own h.os (fun k hk => he k (Or.inr (Or.inr hk))), fun p hp => (h.ok p hp).fr hf hn, h.nb, h.nl, fun k hk => ⟨Nat.lt_of_lt_of_le (h.nN k hk).1 hf.size, (h.nN k hk).2⟩⟩
theorem LsAt.grown {w' : World} (h : LsAt N w b o base vl vs md nx ps ks) (hb : Below w.heap.size w w') : LsAt N w' b o base vl vs md nx ps ks := h.fr (Fr.of_below hb (fun _ => False)) (fun _ _ h => h) (fun _ _ h => h)
theorem LsAt.more {M : Nat → Prop} (h : LsAt N w b o base vl vs md nx ps ks) (h1 : ∀ k, N k → M k) (h2 : ∀ k, M k → k < w.heap.size ∧ k ≠ b ∧ vl.ownBlock ≠ some k ∧ vs.ownBlock ≠ some k) : LsAt M w b o base vl vs md nx ps ks :=
  ⟨h.c0, h.c1, h.c2, h.c3, h.fz, h.ol, h.os, fun p hp => by
    have := h.ok p hp
    exact ⟨this.co, this.cl, this.ou, this.ol, fun e a ha => h1 _ (this.nc e a ha), fun e a ha => h1 _ (this.np e a ha), this.b1, this.b2⟩, h.nb, h.nl, h2⟩
theorem LsAt.payM (h : LsAt N w b o base vl vs md nx ps ks) (h1 : ps.length ≤ 9007199254740992) (h2 : ks.length ≤ 9007199254740992) : PayM N w b o ps ks := by
  obtain ⟨a1, c1, e1, r1⟩ := OwnRec.at pay5 h.ol
  obtain ⟨a2, c2, e2, r2⟩ := OwnRec.at kv2 h.os
  exact ⟨⟨a1, c1, by rw [h.c0, e1], r1⟩, ⟨a2, c2, by rw [h.c1, e2], r2⟩, h.ok, h1, h2⟩
/-- a payment more -/
theorem LsAt.push (h : LsAt N w b o base vl vs md nx ps ks) {w1 : World} {g n c : Nat} {x : PayD} (hown : OwnRec PayD.v 119 5 w1 base (.slice (some ⟨g, 0, none⟩) n c) (ps ++ [x])) (hg : w.grownBy w1 vl.ownBlock) (hl : vl.ownBlock = some g ∨ w.heap.size ≤ g) (hx : PayOk N w x) :
    LsAt N (w1.setCell ⟨b, o, none⟩ (.slice (some ⟨g, 0, none⟩) n c)) b o base (.slice (some ⟨g, 0, none⟩) n c) vs md nx (ps ++ [x]) ks ∧ Fr (fun k => k = b ∨ vl.ownBlock = some k) w (w1.setCell ⟨b, o, none⟩ (.slice (some ⟨g, 0, none⟩) n c)) := by
  have hbl := cell_lt h.c0
  have hvb : some b ≠ vl.ownBlock := fun e => by have := (h.ol.blk b e.symm).1; have := h.nb; omega
  have hgb := (hown.blk g rfl).1
  have hnb := h.nb
  have hf : Fr (fun k => k = b ∨ vl.ownBlock = some k) w (w1.setCell ⟨b, o, none⟩ (.slice (some ⟨g, 0, none⟩) n c)) := (Fr.of_gb hg (fun k hk _ => Or.inr hk)).set b o _ (fun _ => Or.inl rfl)
  have hnE : ∀ k, N k → ¬ (k = b ∨ vl.ownBlock = some k) := fun k hk e => e.elim (h.nN k hk).2.1 (h.nN k hk).2.2.1
  refine ⟨⟨World.cell?_setCell_same _ _ _ (gb_cell hg h.c0 hvb), so (gb_cell hg h.c1 hvb) (by omega), so (gb_cell hg h.c2 hvb) (by omega), so (gb_cell hg h.c3 hvb) (by omega), fun j => by rw [World.frozen?_setCell]; exact (gb_frozen hg hbl hvb).trans (h.fz j), hown.gb (gb_set w1 b o _) (fun k hk e => by simp [Value.ownBlock] at hk; injection e with e; omega), hf.own h.os (fun k hk e => ?_), fun p hp => ?_, h.nb, fun k hk e => ?_, fun k hk => ⟨Nat.lt_of_lt_of_le (h.nN k hk).1 hf.size, (h.nN k hk).2.1, fun e => ?_, (h.nN k hk).2.2.2⟩⟩, hf⟩
  · rcases e with e | e
    · have := (h.os.blk k hk).1; omega
    · exact h.nl k e hk
  · rcases List.mem_append.1 hp with hp | hp
    · exact (h.ok p hp).fr hf hnE
    · rw [List.mem_singleton.1 hp]; exact hx.fr hf hnE
  · simp [Value.ownBlock] at hk
    subst hk
    rcases hl with h1 | h1
    · exact h.nl _ h1 e
    · have := (h.os.blk _ e).2; omega
  · simp [Value.ownBlock] at e
    subst e
    rcases hl with h1 | h1
    · exact (h.nN _ hk).2.2.1 h1
    · have := (h.nN _ hk).1; omega
theorem LsAt.set2 (h : LsAt N w b o base vl vs md nx ps ks) (x : Int) : LsAt N (w.setCell ⟨b, o + 2, none⟩ (.int .i64 x)) b o base vl vs x nx ps ks := by
  have hnb := h.nb
  have hf : Fr (fun k => k = b) w (w.setCell ⟨b, o + 2, none⟩ (.int .i64 x)) := (Fr.refl _ w).set b (o + 2) _ (fun _ => rfl)
  exact ⟨so h.c0 (by omega), so h.c1 (by omega), ss h.c2, so h.c3 (by omega), fun j => by rw [World.frozen?_setCell]; exact h.fz j, hf.own h.ol (fun k hk e => by have := (h.ol.blk k hk).1; omega), hf.own h.os (fun k hk e => by have := (h.os.blk k hk).1; omega), fun p hp => (h.ok p hp).fr hf (fun k hk => (h.nN k hk).2.1), h.nb, h.nl, fun k hk => ⟨by simpa using (h.nN k hk).1, (h.nN k hk).2⟩⟩
theorem LsAt.set3 (h : LsAt N w b o base vl vs md nx ps ks) (x : Int) : LsAt N (w.setCell ⟨b, o + 3, none⟩ (.int .i64 x)) b o base vl vs md x ps ks := by
  have hnb := h.nb
  have hf : Fr (fun k => k = b) w (w.setCell ⟨b, o + 3, none⟩ (.int .i64 x)) := (Fr.refl _ w).set b (o + 3) _ (fun _ => rfl)
  exact ⟨so h.c0 (by omega), so h.c1 (by omega), so h.c2 (by omega), ss h.c3, fun j => by rw [World.frozen?_setCell]; exact h.fz j, hf.own h.ol (fun k hk e => by have := (h.ol.blk k hk).1; omega), hf.own h.os (fun k hk e => by have := (h.os.blk k hk).1; omega), fun p hp => (h.ok p hp).fr hf (fun k hk => (h.nN k hk).2.1), h.nb, h.nl, fun k hk => ⟨by simpa using (h.nN k hk).1, (h.nN k hk).2⟩⟩
end Go.Proofs.Ytffgpepngcnjeab

namespace Go.Proofs.Ytffgpepngcnjeab
open Go.RowKit
/-- five cells -/
structure P5 (w : World) (T : Nat) (a0 a1 a2 a3 a4 : Value) : Prop where
  c0 : w.cell? ⟨T, 0, none⟩ = some a0
  c1 : w.cell? ⟨T, 1, none⟩ = some a1
  c2 : w.cell? ⟨T, 2, none⟩ = some a2
  c3 : w.cell? ⟨T, 3, none⟩ = some a3
  c4 : w.cell? ⟨T, 4, none⟩ = some a4
  fz : ∀ j, w.frozen? ⟨T, j, none⟩ = false
theorem P5.fr {E : Nat → Prop} {w w' : World} (hf : Fr E w w') {T : Nat} {a0 a1 a2 a3 a4 : Value} (h : P5 w T a0 a1 a2 a3 a4) (he : ¬ E T) : P5 w' T a0 a1 a2 a3 a4 :=
  ⟨hf.cell h.c0 he, hf.cell h.c1 he, hf.cell h.c2 he, hf.cell h.c3 he, hf.cell h.c4 he, fun j => (hf.frozen (cell_lt h.c0) he).trans (h.fz j)⟩
theorem P5.grown {w w' : World} (hb : Below w.heap.size w w') {T : Nat} {a0 a1 a2 a3 a4 : Value} (h : P5 w T a0 a1 a2 a3 a4) : P5 w' T a0 a1 a2 a3 a4 := h.fr (Fr.of_below hb (fun _ => False)) (fun h => h)
theorem P5.new (w : World) (a0 a1 a2 a3 a4 : Value) (t : TypeId) : P5 (w.alloc (.cells #[a0, a1, a2, a3, a4] t)) w.heap.size a0 a1 a2 a3 a4 := by
  have hv := vrow_new w [a0, a1, a2, a3, a4] t
  exact ⟨hv 0 (by simp), hv 1 (by simp), hv 2 (by simp), hv 3 (by simp), hv 4 (by simp), fun j => World.frozen?_alloc_at _ _ _ _ rfl⟩
theorem P5.s1 {w : World} {T : Nat} {a0 a1 a2 a3 a4 : Value} (h : P5 w T a0 a1 a2 a3 a4) (u : Value) : P5 (w.setCell ⟨T, 1, none⟩ u) T a0 u a2 a3 a4 :=
  ⟨so h.c0 (by decide), ss h.c1, so h.c2 (by decide), so h.c3 (by decide), so h.c4 (by decide), fun j => by rw [World.frozen?_setCell]; exact h.fz j⟩
theorem P5.s2 {w : World} {T : Nat} {a0 a1 a2 a3 a4 : Value} (h : P5 w T a0 a1 a2 a3 a4) (u : Value) : P5 (w.setCell ⟨T, 2, none⟩ u) T a0 a1 u a3 a4 :=
  ⟨so h.c0 (by decide), so h.c1 (by decide), ss h.c2, so h.c3 (by decide), so h.c4 (by decide), fun j => by rw [World.frozen?_setCell]; exact h.fz j⟩
theorem rec_lt' {α : Type} {f : α → List Value} {q : Nat} (hq : ∀ x, (f x).length = q) (hq0 : 0 < q) {w : World} {ao : Option Addr} {l : List α} (h : RecAt f w ao l) (hl : 0 < l.length) : ∃ g off, ao = some ⟨g, off, none⟩ ∧ VRow w g off (l.flatMap f) ∧ g < w.heap.size := by
  rcases h with h | ⟨g, off, e, hr⟩
  · rw [h] at hl; simp at hl
  · refine ⟨g, off, e, hr, hr.lt (fun e3 => ?_)⟩
    have h3 := rec_len f q hq l
    rw [e3] at h3
    simp only [List.length_nil] at h3
    rcases Nat.mul_eq_zero.1 h3.symm with h4 | h4 <;> omega
theorem own_atS {α : Type} {f : α → List Value} {e k : Nat} (hf : ∀ x, (f x).length = k) {w : World} {base n c : Nat} {ao : Option Addr} {xs : List α} (h : OwnRec f e k w base (.slice ao n c) xs) : RecAt f w ao xs := by
  obtain ⟨a2, c2, e2, hat⟩ := OwnRec.at hf h
  injection e2 with e2 _ _
  subst e2
  exact hat
theorem cell_oth (w : World) (L i j : Nat) (u : Value) (hne : i ≠ j) : (w.setCell ⟨L, i, none⟩ u).cell? ⟨L, j, none⟩ = w.cell? ⟨L, j, none⟩ :=
  World.cell?_setCell_other _ _ _ _ (by intro e; have := congrArg Addr.off e; simp only at this; exact hne this)
/-- what Add leaves -/
def AddOk (N : Nat → Prop) (b o base : Nat) (vl vs : Value) (md nx : Int) (ps : List PayD) (ks : List (Int × Int)) (n : Nat) (cs : List CoinD) (m : Nat) (ys : List (Int × Int)) (tag ch : Int) (w w' : World) : Prop :=
  ∃ vl' gc cc go co, LsAt (fun k => N k ∨ k = gc ∨ k = go) w' b o base vl' vs (md + 1) (if nx ≤ ch then ch + 1 else nx) (ps ++ [⟨md, some ⟨gc, 0, none⟩, n, cc, some ⟨go, 0, none⟩, m, co, tag, false, cs, ys⟩]) ks ∧ Fr (fun k => k = b ∨ vl.ownBlock = some k) w w' ∧ w.heap.size ≤ gc ∧ w.heap.size ≤ go ∧ (∀ k, vl'.ownBlock = some k → vl.ownBlock = some k ∨ w.heap.size ≤ k) ∧ (∀ j, j < o → w'.cell? ⟨b, j, none⟩ = w.cell? ⟨b, j, none⟩)
set_option maxRecDepth 100000 in
set_option maxHeartbeats 4000000 in
theorem payAdd_any (N : Nat → Prop) (b o base : Nat) (vl vs : Value) (md nx : Int) (ps : List PayD) (ks : List (Int × Int)) (ac : Option Addr) (n c : Nat) (cs : List CoinD) (ap : Option Addr) (m d : Nat) (ys : List (Int × Int)) (tag ch : Int) (w : World) (hL : LsAt N w b o base vl vs md nx ps ks) (hbs : base ≤ w.heap.size)
    (hx : RecAt CoinD.l w ac cs) (hn : cs.length = n) (h0n : 0 < n) (hn10 : n ≤ 10) (hy : OutsAt w ap ys) (hyn : ys.length = m) (hy0 : 0 < m) (hy8 : m ≤ 8) (hmd : 0 ≤ md ∧ md ≤ 4611686018427387904) (hpl : ps.length ≤ 1000000000000) (hch : -1 ≤ ch ∧ ch ≤ 100) :
    Calls Try.prog 54 #[.pointer (some ⟨b, o, none⟩), .slice ac n c, .slice ap m d, .int .i64 tag, .int .i64 ch] w fun e w' => e = .returned (.int .i64 md) ∧ AddOk N b o base vl vs md nx ps ks n cs m ys tag ch w w' := by
  obtain ⟨gx, ox, eac, hxr, hxl⟩ := rec_lt' coin6 (by omega) hx (by omega)
  obtain ⟨gy, oy, eap, hyr, hyl⟩ := rec_lt' kv2 (by omega) (outs_rec hy) (by omega)
  subst eac
  subst eap
  have HN : Hid (cs.length = n) := hn
  have HYN : Hid (ys.length = m) := hyn
  have HL : Hid (LsAt N w b o base vl vs md nx ps ks) := hL
  have l2 := hL.c2
  have hbl : b < w.heap.size := cell_lt l2
  have HBK : Hid (∀ k, lsE b vl vs k → k < w.heap.size) := hL.blk
  have HNB : Hid (∀ k, N k → k < w.heap.size) := fun k hk => (hL.nN k hk).1
  have HXR : Hid (VRow w gx ox (cs.flatMap CoinD.l)) := hxr
  have HYR : Hid (VRow w gy oy (ys.flatMap kV)) := hyr
  clear hx hn hy hyn hxr hyr hL
  have hbA : Below w.heap.size w (w.alloc (.cells #[.int .i64 md, .slice none 0 0, .slice none 0 0, .int .i64 tag, .bool false] 119)) := (Below.refl _ _).alloc (Nat.le_refl _) _
  have HT1 : Hid (P5 (w.alloc (.cells #[.int .i64 md, .slice none 0 0, .slice none 0 0, .int .i64 tag, .bool false] 119)) w.heap.size (.int .i64 md) (.slice none 0 0) (.slice none 0 0) (.int .i64 tag) (.bool false)) := P5.new w _ _ _ _ _ 119
  go_enter Try.func54, Try.ntmps54
  go_upto_region 2 with fail
  have HL1 : Hid (LsAt N (w.alloc (.cells #[.int .i64 md, .slice none 0 0, .slice none 0 0, .int .i64 tag, .bool false] 119)) b o base vl vs md nx ps ks) := HL.out.grown hbA
  have HXR1 : Hid (VRow (w.alloc (.cells #[.int .i64 md, .slice none 0 0, .slice none 0 0, .int .i64 tag, .bool false] 119)) gx ox (cs.flatMap CoinD.l)) := HXR.out.grown hbA
  have HYR1 : Hid (VRow (w.alloc (.cells #[.int .i64 md, .slice none 0 0, .slice none 0 0, .int .i64 tag, .bool false] 119)) gy oy (ys.flatMap kV)) := HYR.out.grown hbA
  have hz1 : w.heap.size < (w.alloc (.cells #[.int .i64 md, .slice none 0 0, .slice none 0 0, .int .i64 tag, .bool false] 119)).heap.size := by simp
  have HFA : Hid (Fr (fun _ => False) w (w.alloc (.cells #[.int .i64 md, .slice none 0 0, .slice none 0 0, .int .i64 tag, .bool false] 119))) := Fr.of_below hbA _
  generalize w.alloc (.cells #[.int .i64 md, .slice none 0 0, .slice none 0 0, .int .i64 tag, .bool false] 119) = w1 at *
  generalize hT : w.heap.size = T at *
  have HTe : Hid (w.heap.size = T) := hT
  clear hT hbA HXR HYR l2
  have t1 := HT1.out.c1
  have tf1 := HT1.out.fz 1
  go_upto_region 3 with (at_builtin; refine wpList_appN 40 48 _ Try.underlying40 info70 rfl (by decide) coin6 coin_one w1 rfl _ _ rfl (T + 1) gx ox n c (.slice none 0 0) [] cs (by rfl) (by rfl) HN.out h0n (OwnRec.nil _ _ _ _ _) HXR1.out (by omega) (by unfold maxLen; simp; omega) (by simp; omega) ?_; intro gc cc w3 hown3 hg3 hl3 hlt3; simp only [List.length_nil, Nat.zero_add, List.nil_append] at hown3 ⊢; have k2 := gb_cell hg3 t1 (by simp [Value.ownBlock]); have kf := (gb_frozen hg3 (by exact hz1) (by simp [Value.ownBlock])).trans tf1)
  have b3 : Below w1.heap.size w1 w3 := gb_to_below hg3 (Nat.le_refl _) (fun r hr => by simp [Value.ownBlock] at hr)
  have hgc : w1.heap.size ≤ gc := hl3.resolve_left (by simp [Value.ownBlock])
  have hz3 := b3.size
  have HOC4 : Hid (OwnRec CoinD.l 70 6 (w3.setCell ⟨T, 1, none⟩ (.slice (some ⟨gc, 0, none⟩) n cc)) (T + 1) (.slice (some ⟨gc, 0, none⟩) n cc) cs) := own_set hown3 _ _ _ (fun e => by simp [Value.ownBlock] at e; omega)
  have HT4 : Hid (P5 (w3.setCell ⟨T, 1, none⟩ (.slice (some ⟨gc, 0, none⟩) n cc)) T (.int .i64 md) (.slice (some ⟨gc, 0, none⟩) n cc) (.slice none 0 0) (.int .i64 tag) (.bool false)) := (HT1.out.grown b3).s1 _
  have hf34 : Fr (fun k => k = T) w1 (w3.setCell ⟨T, 1, none⟩ (.slice (some ⟨gc, 0, none⟩) n cc)) := (Fr.of_below b3 _).set T 1 _ (fun _ => rfl)
  have HL4 : Hid (LsAt N (w3.setCell ⟨T, 1, none⟩ (.slice (some ⟨gc, 0, none⟩) n cc)) b o base vl vs md nx ps ks) := HL1.out.fr hf34 (fun k hk e => by have := HBK.out k hk; omega) (fun k hk e => by have := HNB.out k hk; omega)
  have HYR4 : Hid (VRow (w3.setCell ⟨T, 1, none⟩ (.slice (some ⟨gc, 0, none⟩) n cc)) gy oy (ys.flatMap kV)) := hf34.vrow HYR1.out (by omega)
  have HF4 : Hid (Fr (fun k => k = T) w1 (w3.setCell ⟨T, 1, none⟩ (.slice (some ⟨gc, 0, none⟩) n cc))) := hf34
  have hz4 : w3.heap.size = (w3.setCell ⟨T, 1, none⟩ (.slice (some ⟨gc, 0, none⟩) n cc)).heap.size := by simp
  clear hown3 hg3 hl3 k2 kf b3 hf34 HL1 HYR1 HXR1 HT1 t1 tf1
  generalize w3.setCell ⟨T, 1, none⟩ (.slice (some ⟨gc, 0, none⟩) n cc) = w4 at *
  have t2 := HT4.out.c2
  have tf2 := HT4.out.fz 2
  have hTl4 : T < w4.heap.size := by omega
  go_upto_region 4 with (at_builtin; refine wpList_appN 23 16 _ Try.underlying23 info68 rfl (by decide) kv2 kv_one w4 rfl _ _ rfl (T + 1) gy oy m d (.slice none 0 0) [] ys (by rfl) (by rfl) HYN.out hy0 (OwnRec.nil _ _ _ _ _) HYR4.out (by omega) (by unfold maxLen; simp; omega) (by simp; omega) ?_; intro go co w5 hown5 hg5 hl5 hlt5; simp only [List.length_nil, Nat.zero_add, List.nil_append] at hown5 ⊢; have k2 := gb_cell hg5 t2 (by simp [Value.ownBlock]); have kf := (gb_frozen hg5 (by exact hTl4) (by simp [Value.ownBlock])).trans tf2)
  have b5 : Below w4.heap.size w4 w5 := gb_to_below hg5 (Nat.le_refl _) (fun r hr => by simp [Value.ownBlock] at hr)
  have hgo : w4.heap.size ≤ go := hl5.resolve_left (by simp [Value.ownBlock])
  have hz5 := b5.size
  have hf56 : Fr (fun k => k = T) w4 (w5.setCell ⟨T, 2, none⟩ (.slice (some ⟨go, 0, none⟩) m co)) := (Fr.of_below b5 _).set T 2 _ (fun _ => rfl)
  have HOO6 : Hid (OwnRec kV 68 2 (w5.setCell ⟨T, 2, none⟩ (.slice (some ⟨go, 0, none⟩) m co)) (T + 1) (.slice (some ⟨go, 0, none⟩) m co) ys) := own_set hown5 _ _ _ (fun e => by simp [Value.ownBlock] at e; omega)
  have HOC6 : Hid (OwnRec CoinD.l 70 6 (w5.setCell ⟨T, 2, none⟩ (.slice (some ⟨go, 0, none⟩) m co)) (T + 1) (.slice (some ⟨gc, 0, none⟩) n cc) cs) := hf56.own HOC4.out (fun k hk e => by simp [Value.ownBlock] at hk; omega)
  have HT6 : Hid (P5 (w5.setCell ⟨T, 2, none⟩ (.slice (some ⟨go, 0, none⟩) m co)) T (.int .i64 md) (.slice (some ⟨gc, 0, none⟩) n cc) (.slice (some ⟨go, 0, none⟩) m co) (.int .i64 tag) (.bool false)) := (HT4.out.grown b5).s2 _
  have HL6 : Hid (LsAt N (w5.setCell ⟨T, 2, none⟩ (.slice (some ⟨go, 0, none⟩) m co)) b o base vl vs md nx ps ks) := HL4.out.fr hf56 (fun k hk e => by have := HBK.out k hk; omega) (fun k hk e => by have := HNB.out k hk; omega)
  have HF6 : Hid (Fr (fun _ => False) w (w5.setCell ⟨T, 2, none⟩ (.slice (some ⟨go, 0, none⟩) m co))) := by
    have h1 := HF4.out.trans hf56
    exact ⟨h1.os.trans HFA.out.os, h1.tape.trans HFA.out.tape, h1.output.trans HFA.out.output, Nat.le_trans HFA.out.size h1.size, fun k hk he => (h1.block k (Nat.lt_of_lt_of_le hk HFA.out.size) (fun e => by have := HTe.out; omega)).trans (HFA.out.block k hk he)⟩
  have hz6 : w5.heap.size = (w5.setCell ⟨T, 2, none⟩ (.slice (some ⟨go, 0, none⟩) m co)).heap.size := by simp
  clear hown5 hg5 hl5 k2 kf b5 hf56 HL4 HYR4 HT4 HOC4 HF4 HFA t2 tf2
  generalize w5.setCell ⟨T, 2, none⟩ (.slice (some ⟨go, 0, none⟩) m co) = w6 at *
  have l0 := HL6.out.c0
  have lf := HL6.out.fz o
  have hvlb : some b ≠ vl.ownBlock := fun e => by have := (HL6.out.ol.blk b e.symm).1; have := HL6.out.nb; omega
  have hb6 : b < w6.heap.size := by omega
  obtain ⟨t0, t1, t2, t3, t4, tz⟩ := HT6.out
  have hT6 : T < w6.heap.size := cell_lt t0
  clear tz
  go_region_law (refine step_appR 75 72 _ Try.underlying75 info119 rfl (by decide) pay5 pay_one _ ?_ (.tmp 32) (.tmp 34) ?_ base w6.heap.size 1 vl ps ⟨md, some ⟨gc, 0, none⟩, n, cc, some ⟨go, 0, none⟩, m, co, tag, false, cs, ys⟩ ?_ ?_ ?_ ?_ ?_ ?_ ?_ ?_; rfl; rfl; rfl; rfl; exact OwnRec.drew (HL6.out.ol.alloc _); exact VRow.drew (vrow_new w6 _ _); (rw [World.size_drew, World.size_alloc]; omega); (unfold maxLen; omega); (omega); intro gl capl w10 hown10 hg10 hl10 hlt10; have k0 := keepO hg10 l0 hvlb; have k1 := keepF hg10 lf hb6 hvlb)
  all_goals
    have bW : Below w6.heap.size w6 ((w6.alloc (.cells #[.int .i64 md, .slice (some ⟨gc, 0, none⟩) n cc, .slice (some ⟨go, 0, none⟩) m co, .int .i64 tag, .bool false] 119)).drew) := ((Below.refl _ _).alloc (Nat.le_refl _) _).drew
    have hzW : ((w6.alloc (.cells #[.int .i64 md, .slice (some ⟨gc, 0, none⟩) n cc, .slice (some ⟨go, 0, none⟩) m co, .int .i64 tag, .bool false] 119)).drew).heap.size = w6.heap.size + 1 := by rw [World.size_drew, World.size_alloc]
    have hLM : LsAt (fun k => N k ∨ k = gc ∨ k = go) ((w6.alloc (.cells #[.int .i64 md, .slice (some ⟨gc, 0, none⟩) n cc, .slice (some ⟨go, 0, none⟩) m co, .int .i64 tag, .bool false] 119)).drew) b o base vl vs md nx ps ks := (HL6.out.grown bW).more (fun k hk => Or.inl hk) (fun k hk => by
      rcases hk with hk | hk | hk
      · exact (HL6.out.grown bW).nN k hk
      · subst hk
        exact ⟨by omega, by omega, fun e => by have := HBK.out _ (Or.inr (Or.inl e)); omega, fun e => by have := HBK.out _ (Or.inr (Or.inr e)); omega⟩
      · subst hk
        exact ⟨by omega, by omega, fun e => by have := HBK.out _ (Or.inr (Or.inl e)); omega, fun e => by have := HBK.out _ (Or.inr (Or.inr e)); omega⟩)
    have hPX : PayOk (fun k => N k ∨ k = gc ∨ k = go) ((w6.alloc (.cells #[.int .i64 md, .slice (some ⟨gc, 0, none⟩) n cc, .slice (some ⟨go, 0, none⟩) m co, .int .i64 tag, .bool false] 119)).drew) ⟨md, some ⟨gc, 0, none⟩, n, cc, some ⟨go, 0, none⟩, m, co, tag, false, cs, ys⟩ := ⟨own_atS coin6 (HOC6.out.grown bW), HN.out, rec_outs (own_atS kv2 (HOO6.out.grown bW)), HYN.out, fun _ a ha => by injection ha with ha; subst ha; exact Or.inr (Or.inl rfl), fun _ a ha => by injection ha with ha; subst ha; exact Or.inr (Or.inr rfl), hn10, hy8⟩
    obtain ⟨hL11, hf11⟩ := hLM.push hown10 hg10 hl10 hPX
    have HL11 : Hid _ := hL11
    have HF11 : Hid (Fr (fun k => k = b ∨ vl.ownBlock = some k) w (w10.setCell ⟨b, o, none⟩ (.slice (some ⟨gl, 0, none⟩) (ps.length + 1) capl))) := (HF6.out.weak (fun _ _ e => e.elim)).trans ((Fr.of_below bW _).trans hf11)
    have hnT : ¬ (T = b ∨ vl.ownBlock = some T) := fun e => by
      rcases e with e | e
      · omega
      · have := HBK.out _ (Or.inr (Or.inl e)); omega
    have x0 := hf11.cell ((bW.cell (p := ⟨T, 0, none⟩) hT6).trans t0) hnT
    have HVL : Hid (∀ k, (Value.slice (some ⟨gl, 0, none⟩) (ps.length + 1) capl).ownBlock = some k → vl.ownBlock = some k ∨ T ≤ k) := fun k hk => by
      simp [Value.ownBlock] at hk
      subst hk
      exact hl10.imp id (fun h => by omega)
    have HCJ : Hid (∀ j, j < o → (w10.setCell ⟨b, o, none⟩ (.slice (some ⟨gl, 0, none⟩) (ps.length + 1) capl)).cell? ⟨b, j, none⟩ = w.cell? ⟨b, j, none⟩) := fun j hj => by
      rw [cell_oth _ _ _ _ _ (by omega), World.cell?_of_block (hg10.block b (by omega) hvlb), World.cell?_of_block (bW.block b hb6), World.cell?_of_block (HF6.out.block b (by rw [HTe.out]; exact hbl) (fun h => h))]
    clear hown10 hg10 hl10 hlt10 k0 k1 hL11 hf11 hLM hPX bW hzW t0 t1 t2 t3 t4 l0 lf
    generalize w10.setCell ⟨b, o, none⟩ (.slice (some ⟨gl, 0, none⟩) (ps.length + 1) capl) = w11 at *
    have y2 := HL11.out.c2
    have g2 := HL11.out.fz (o + 2)
    have y3 := HL11.out.c3
    have g3 := HL11.out.fz (o + 3)
    have hw1 : IntKind.i64.wrap (md + 1) = md + 1 := IntWalk.i64_in _ ⟨by omega, by omega⟩
    have hw2 : IntKind.i64.wrap (ch + 1) = ch + 1 := IntWalk.i64_in _ ⟨by omega, by omega⟩
    have HL12 : Hid _ := HL11.out.set2 (md + 1)
    have HF12 : Hid (Fr (fun k => k = b ∨ vl.ownBlock = some k) w (w11.setCell ⟨b, o + 2, none⟩ (.int .i64 (md + 1)))) := HF11.out.set b (o + 2) _ (fun _ => Or.inl rfl)
    have z0 := sob (K := b) (i := o + 2) (u := .int .i64 (md + 1)) x0 (by omega)
    have z3 := so (i := o + 2) (u := .int .i64 (md + 1)) y3 (by omega)
    have h3 := HL12.out.fz (o + 3)
    by_cases hnc : nx ≤ ch
    · have HL13 : Hid _ := HL12.out.set3 (ch + 1)
      have HF13 : Hid (Fr (fun k => k = b ∨ vl.ownBlock = some k) w ((w11.setCell ⟨b, o + 2, none⟩ (.int .i64 (md + 1))).setCell ⟨b, o + 3, none⟩ (.int .i64 (ch + 1)))) := HF12.out.set b (o + 3) _ (fun _ => Or.inl rfl)
      have q0 := sob (K := b) (i := o + 3) (u := .int .i64 (ch + 1)) z0 (by omega)
      go_wp2
      go_ret
      refine ⟨rfl, ?_⟩
      unfold AddOk
      rw [HTe.out, if_pos (show nx ≤ ch by omega)]
      exact ⟨_, gc, cc, go, co, HL13.out, HF13.out, by omega, by omega, HVL.out, fun j hj => by rw [cell_oth _ _ _ _ _ (by omega), cell_oth _ _ _ _ _ (by omega)]; exact HCJ.out j hj⟩
    · have hnd : decide (nx ≤ ch) = false := decide_eq_false hnc
      go_wp2
      go_ret
      refine ⟨rfl, ?_⟩
      unfold AddOk
      rw [HTe.out, if_neg (show ¬ nx ≤ ch by omega)]
      exact ⟨_, gc, cc, go, co, HL12.out, HF12.out, by omega, by omega, HVL.out, fun j hj => by rw [cell_oth _ _ _ _ _ (by omega)]; exact HCJ.out j hj⟩
end Go.Proofs.Ytffgpepngcnjeab

namespace Go.Proofs.Ytffgpepngcnjeab
open Go.RowKit
set_option maxRecDepth 100000 in
set_option maxHeartbeats 400000 in
theorem bare_zero (w : World) : Calls Try.prog 59 #[.agg #[.int .i64 0, .slice none 0 0, .slice none 0 0]] w fun e w' => e = .returned (.bool true) ∧ Below w.heap.size w w' := by
  have hb : Below w.heap.size w (w.alloc (.cells #[.int .i64 0, .slice none 0 0, .slice none 0 0] 31)) := (Below.refl _ _).alloc (Nat.le_refl _) _
  go_enter Try.func59, Try.ntmps59
  go_wp2
  go_ret
  exact ⟨rfl, hb⟩
set_option maxRecDepth 100000 in
set_option maxHeartbeats 400000 in
theorem nothing_zero (w : World) : Calls Try.prog 36 #[.agg #[.int .i64 0, .int .i64 0, .slice none 0 0, .slice none 0 0, .slice none 0 0, .int .i64 0]] w fun e w' => e = .returned (.bool true) ∧ Below w.heap.size w w' := by
  have hb : Below w.heap.size w (w.alloc (.cells #[.int .i64 0, .int .i64 0, .slice none 0 0, .slice none 0 0, .slice none 0 0, .int .i64 0] 34)) := (Below.refl _ _).alloc (Nat.le_refl _) _
  have HV : Hid (VB (w.alloc (.cells #[.int .i64 0, .int .i64 0, .slice none 0 0, .slice none 0 0, .slice none 0 0, .int .i64 0] 34)) w.heap.size (.int .i64 0) (.int .i64 0) (.slice none 0 0) (.slice none 0 0) (.slice none 0 0) (.int .i64 0)) := VB.new w _ _ _ _ _ _ 34
  go_enter Try.func36, Try.ntmps36
  go_upto_region 1 with fail
  generalize w.alloc (.cells #[.int .i64 0, .int .i64 0, .slice none 0 0, .slice none 0 0, .slice none 0 0, .int .i64 0] 34) = w1 at *
  obtain ⟨q0, q1, q2, q3, q4, q5, _⟩ := HV.out
  go_wp2_with fail
  refine (bare_zero _).mono ?_
  rintro e w2 ⟨rfl, hb2⟩
  generalize hB : w.heap.size = B at *
  have r0 := (hb2.cell (p := ⟨B, 0, none⟩) (cell_lt q0)).trans q0
  have r4 := (hb2.cell (p := ⟨B, 4, none⟩) (cell_lt q4)).trans q4
  have r5 := (hb2.cell (p := ⟨B, 5, none⟩) (cell_lt q5)).trans q5
  have hb3 : Below B w w2 := hb.trans (hb2.mono (Nat.le_of_lt (cell_lt q0)))
  clear hb hb2 q0 q1 q2 q3 q4 q5
  go_wp2
  go_ret
  exact ⟨rfl, by rw [hB]; exact hb3⟩
set_option maxRecDepth 100000 in
set_option maxHeartbeats 400000 in
theorem kOuts_nil (ao bo : Option Addr) (c d : Nat) (w : World) :
    Calls Try.prog 38 #[.slice ao 0 c, .slice bo 0 d] w fun e w' => e = .returned (.bool true) ∧ w = w' := by
  go_enter Try.func38, Try.ntmps38
  go_wp2
  refine wp_loop_rounds 1 ?_
  rw [rounds_succ]
  go_wp2
  go_ret
  exact ⟨rfl, rfl⟩
set_option maxRecDepth 100000 in
set_option maxHeartbeats 400000 in
theorem kOuts_row (a1 o1 a2 o2 n c d : Nat) (ys : List (Int × Int)) (w : World) (h1 : OutsRow w a1 o1 ys) (h2 : OutsRow w a2 o2 ys) (hn : ys.length = n) (hm : n ≤ 9223372036854775807) :
    Calls Try.prog 38 #[.slice (some ⟨a1, o1, none⟩) n c, .slice (some ⟨a2, o2, none⟩) n d] w fun e w' => e = .returned (.bool true) ∧ Below w.heap.size w w' := by
  have H1 : Hid (OutsRow w a1 o1 ys) := h1
  have H2 : Hid (OutsRow w a2 o2 ys) := h2
  have HN : Hid (ys.length = n) := hn
  clear h1 h2 hn
  go_enter Try.func38, Try.ntmps38
  go_wp2
  go_loopw [5] (fun i wr => ∃ k : Nat, k ≤ n ∧ i = .int .i64 k ∧ Below w.heap.size w wr) (fun i _ => n - (intOf i).toNat)
  case atStart => exact ⟨0, Nat.zero_le _, rfl, Below.refl _ _⟩
  case round =>
    obtain ⟨k, hk, rfl, hbl⟩ := hrel
    by_cases hlt : k < n
    · obtain ⟨c1, c2⟩ := (H1.out.grown hbl) k (by rw [HN.out]; exact hlt)
      obtain ⟨c3, c4⟩ := (H2.out.grown hbl) k (by rw [HN.out]; exact hlt)
      generalize ys.getD k (0, 0) = y at c1 c2 c3 c4
      obtain ⟨ya, yv⟩ := y
      simp only at c1 c2 c3 c4
      have k1 : (k : Int) < (n : Int) := by omega
      have k0 : (0 : Int) ≤ (k : Int) := by omega
      have gd : (ya != ya) = false := by simp
      go_wp2
      go_quiet (fail)
      go_wp2
      go_roundw
      case rel => exact ⟨k + 1, by omega, by go_num, below_drewN hbl _⟩
      case measure => simp [intOf]; omega
    · go_wp2
      go_ret
      exact ⟨rfl, hbl⟩
theorem kOuts_any (ao bo : Option Addr) (n c d : Nat) (ys : List (Int × Int)) (w : World) (h1 : OutsAt w ao ys) (h2 : OutsAt w bo ys) (hn : ys.length = n) (hm : n ≤ 9223372036854775807) :
    Calls Try.prog 38 #[.slice ao n c, .slice bo n d] w fun e w' => e = .returned (.bool true) ∧ Below w.heap.size w w' := by
  rcases h1 with rfl | ⟨a1, o1, rfl, h1⟩
  · have h0 : n = 0 := by rw [← hn]; rfl
    subst h0
    refine (kOuts_nil ao bo c d w).mono ?_
    rintro e w' ⟨rfl, rfl⟩
    exact ⟨rfl, Below.refl _ _⟩
  · rcases h2 with rfl | ⟨a2, o2, rfl, h2⟩
    · have h0 : n = 0 := by rw [← hn]; rfl
      subst h0
      refine (kOuts_nil _ bo c d w).mono ?_
      rintro e w' ⟨rfl, rfl⟩
      exact ⟨rfl, Below.refl _ _⟩
    · exact kOuts_row a1 o1 a2 o2 n c d ys w h1 h2 hn hm
/-- the value of the deposit of this name -/
def valZ : List CoinD → Int → Int → Int
  | [], _, _ => -1
  | x :: r, id, pos => if (x.id == id && pos == 0) = true then x.val else valZ r id pos
/-- what is asked for -/
def rqZ (y : Int × Int) : Int × Int := (Mk.pk y.1 99991, 10 + Mk.pk y.2 1099511627767)
def reqZ (raw : List (Int × Int)) : List (Int × Int) := if raw.length = 0 then [(0, 10)] else (raw.take 7).map rqZ
end Go.Proofs.Ytffgpepngcnjeab

namespace Go.Proofs.Ytffgpepngcnjeab
open Go.RowKit
/-- what is read of a scene -/
structure Sn (S P : Nat) (s : Int) (g : Nat) (vi : Value) (ac : Option Addr) (cc : Nat) (cs : List CoinD) (w : World) : Prop where
  c0 : w.cell? ⟨S, 0, none⟩ = some (.pointer (some ⟨P, 0, none⟩))
  c1 : w.cell? ⟨S, 1, none⟩ = some (.int .i64 s)
  c2 : w.cell? ⟨S, 2, none⟩ = some (.int .i64 (g : Int))
  c3 : w.cell? ⟨S, 3, none⟩ = some vi
  c4 : w.cell? ⟨S, 4, none⟩ = some (.slice ac cs.length cc)
  at_ : RecAt CoinD.l w ac cs
theorem Sn.grown {S P : Nat} {s : Int} {g : Nat} {vi : Value} {ac : Option Addr} {cc : Nat} {cs : List CoinD} {w w' : World} (h : Sn S P s g vi ac cc cs w) (hb : Below w.heap.size w w') : Sn S P s g vi ac cc cs w' :=
  ⟨(hb.cell (p := ⟨S, 0, none⟩) (cell_lt h.c0)).trans h.c0, (hb.cell (p := ⟨S, 1, none⟩) (cell_lt h.c1)).trans h.c1, (hb.cell (p := ⟨S, 2, none⟩) (cell_lt h.c2)).trans h.c2, (hb.cell (p := ⟨S, 3, none⟩) (cell_lt h.c3)).trans h.c3, (hb.cell (p := ⟨S, 4, none⟩) (cell_lt h.c4)).trans h.c4, h.at_.grown hb⟩
/-- a coin of the scene that a payment may take -/
structure DpsOk (s : Int) (cs : List CoinD) (x : CoinD) : Prop where
  k : Mk.isK s x.br x.ix = true
  a : Mk.adr s x.br x.ix = x.tt
  h : hasZ cs ⟨x.id, x.pos, x.tt, x.val, 0, 0⟩ = true
  v : valZ cs x.id x.pos = x.val
  b : 0 ≤ x.val ∧ x.val ≤ 1099511627776
theorem keepB3 {w w' : World} {a b c p q r : Nat} {x y z : Value} (hb : Below w.heap.size w w') (h : w.cell? ⟨a, p, none⟩ = some x ∧ w.cell? ⟨b, q, none⟩ = some y ∧ w.cell? ⟨c, r, none⟩ = some z) : w'.cell? ⟨a, p, none⟩ = some x ∧ w'.cell? ⟨b, q, none⟩ = some y ∧ w'.cell? ⟨c, r, none⟩ = some z :=
  ⟨(hb.cell (p := ⟨a, p, none⟩) (cell_lt h.1)).trans h.1, (hb.cell (p := ⟨b, q, none⟩) (cell_lt h.2.1)).trans h.2.1, (hb.cell (p := ⟨c, r, none⟩) (cell_lt h.2.2)).trans h.2.2⟩
theorem keepB4 {w w' : World} {a b c d p q r t : Nat} {x y z u : Value} (hb : Below w.heap.size w w') (h : w.cell? ⟨a, p, none⟩ = some x ∧ w.cell? ⟨b, q, none⟩ = some y ∧ w.cell? ⟨c, r, none⟩ = some z ∧ w.cell? ⟨d, t, none⟩ = some u) : w'.cell? ⟨a, p, none⟩ = some x ∧ w'.cell? ⟨b, q, none⟩ = some y ∧ w'.cell? ⟨c, r, none⟩ = some z ∧ w'.cell? ⟨d, t, none⟩ = some u :=
  ⟨(hb.cell (p := ⟨a, p, none⟩) (cell_lt h.1)).trans h.1, (hb.cell (p := ⟨b, q, none⟩) (cell_lt h.2.1)).trans h.2.1, (hb.cell (p := ⟨c, r, none⟩) (cell_lt h.2.2.1)).trans h.2.2.1, (hb.cell (p := ⟨d, t, none⟩) (cell_lt h.2.2.2)).trans h.2.2.2⟩
end Go.Proofs.Ytffgpepngcnjeab

namespace Go.Proofs.Ytffgpepngcnjeab
open Go.RowKit
/-- a purse, whatever its payments are -/
abbrev PAq (w : World) (P : Nat) (s : Int) (g : Nat) (v : Value) (h : Int) (xs : List Cel) : Prop := ChOwn [(0, .int .i64 s), (1, .int .i64 (g : Int))] w P 2 v h xs
/-- an input without a seal -/
def CoinD.inD (x : CoinD) : InD := ⟨x.id, x.pos, none, 0, 0, []⟩
def payFin (xs : List Cel) (tag : Int) (cs : List CoinD) (ys : List (Int × Int)) (ch : Int) : Sum Int (List CoinD × List (Int × Int) × Int) :=
  if hasId xs (idZ tag (cs.map CoinD.inD) ys) = true then .inl 4 else .inr (cs, ys, ch)
/-- what Pay answers: the error, or the coins, the outputs and the change's index -/
def payZ (xs : List Cel) (s : Int) (g : Nat) (ps : List PayD) (ks : List (Int × Int)) (nx : Int) (ys : List (Int × Int)) (r tag : Int) : Sum Int (List CoinD × List (Int × Int) × Int) :=
  if r < 0 ∨ 1000 < r ∨ ¬ (0 ≤ tag ∧ tag ≤ 1099511627776) then .inl 1
  else if 7 < ys.length ∨ rOuts ys = false then .inl 2
  else match chooseZ r (orderZ r ((ownOf xs s g).filter (freeB ps ks))) (targetZ ys r) with
    | none => .inl 9
    | some (cs, ch) => if 0 < ch then (match unpZ xs s g nx with
        | none => .inl 10
        | some k => payFin xs tag cs (ys ++ [(k.ad, ch)]) k.ix) else payFin xs tag cs ys (-1)
/-- a purse in block P, with its payments -/
structure PP (N : Nat → Prop) (w : World) (P : Nat) (s : Int) (g : Nat) (v : Value) (h : Int) (xs : List Cel) (vl vs : Value) (md nx : Int) (ps : List PayD) (ks : List (Int × Int)) : Prop where
  pu : PAq w P s g v h xs
  ls : LsAt N w P 4 (P + 1) vl vs md nx ps ks
  dj : ∀ k, v.ownBlock = some k → vl.ownBlock ≠ some k ∧ vs.ownBlock ≠ some k ∧ ¬ N k
theorem PP.fr {E N : Nat → Prop} {w w' : World} {P : Nat} {s : Int} {g : Nat} {v : Value} {h : Int} {xs : List Cel} {vl vs : Value} {md nx : Int} {ps : List PayD} {ks : List (Int × Int)} (u : PP N w P s g v h xs vl vs md nx ps ks) (hf : Fr E w w') (h1 : ∀ k, chE P v k → ¬ E k) (h2 : ∀ k, lsE P vl vs k → ¬ E k) (h3 : ∀ k, N k → ¬ E k) : PP N w' P s g v h xs vl vs md nx ps ks :=
  ⟨u.pu.fr hf h1, u.ls.fr hf h2 h3, u.dj⟩
theorem PP.grown {N : Nat → Prop} {w w' : World} {P : Nat} {s : Int} {g : Nat} {v : Value} {h : Int} {xs : List Cel} {vl vs : Value} {md nx : Int} {ps : List PayD} {ks : List (Int × Int)} (u : PP N w P s g v h xs vl vs md nx ps ks) (hb : Below w.heap.size w w') : PP N w' P s g v h xs vl vs md nx ps ks :=
  u.fr (Fr.of_below hb (fun _ => False)) (fun _ _ h => h) (fun _ _ h => h) (fun _ _ h => h)
/-- the purse behind a payment: two blocks more in N, the list of the live ones longer -/
def PayGo (N : Nat → Prop) (P : Nat) (s : Int) (g : Nat) (v : Value) (h : Int) (xs : List Cel) (vl vs : Value) (md nx : Int) (ps : List PayD) (ks : List (Int × Int)) (tag : Int) (cs : List CoinD) (ys : List (Int × Int)) (ch : Int) (vi vo vk : Value) (w w' : World) : Prop :=
  ∃ vl' gc cc go co, PP (fun k => N k ∨ k = gc ∨ k = go) w' P s g v h xs vl' vs (md + 1) (if nx ≤ ch then ch + 1 else nx) (ps ++ [⟨md, some ⟨gc, 0, none⟩, cs.length, cc, some ⟨go, 0, none⟩, ys.length, co, tag, false, cs, ys⟩]) ks ∧ PdOk w.heap.size vi vo vk cs ys cs w' ∧ Fr (fun k => k = P ∨ vl.ownBlock = some k) w w' ∧ (∀ k, (vl'.ownBlock = some k ∨ k = gc ∨ k = go) → vl.ownBlock = some k ∨ (w.heap.size ≤ k ∧ vi.ownBlock ≠ some k ∧ vo.ownBlock ≠ some k ∧ vk.ownBlock ≠ some k))
/-- the answer of Pay: number, tag, inputs, outputs, keys, change, error -/
def PayOkR (N : Nat → Prop) (P : Nat) (s : Int) (g : Nat) (v : Value) (h : Int) (xs : List Cel) (vl vs : Value) (md nx : Int) (ps : List PayD) (ks : List (Int × Int)) (ys : List (Int × Int)) (r tag : Int) (a0 a1 a2 a3 a4 a5 : Value) (er : Int) (w w' : World) : Prop :=
  (∃ x, payZ xs s g ps ks nx ys r tag = .inl x ∧ er = x ∧ a0 = .int .i64 0 ∧ a1 = .int .i64 0 ∧ a2 = .slice none 0 0 ∧ a3 = .slice none 0 0 ∧ a4 = .slice none 0 0 ∧ a5 = .int .i64 0 ∧ Below w.heap.size w w') ∨
  (∃ cs zs ch, payZ xs s g ps ks nx ys r tag = .inr (cs, zs, ch) ∧ er = 0 ∧ a0 = .int .i64 md ∧ a1 = .int .i64 tag ∧ a5 = .int .i64 ch ∧ PayGo N P s g v h xs vl vs md nx ps ks tag cs zs ch a2 a3 a4 w w')
theorem mem_choose {r : Int} {l : List CoinD} {want : Int} {cs : List CoinD} {ch : Int} (h : chooseZ r l want = some (cs, ch)) : (∀ x ∈ cs, x ∈ l) ∧ cs.length ≤ 10 := by
  unfold chooseZ at h
  split at h
  · injection h with h
    injection h with h1 _
    subst h1
    unfold memP
    refine ⟨fun x hx => ?_, ?_⟩
    · obtain ⟨i, hi, rfl⟩ := List.mem_map.1 hx
      have := (List.mem_filter.1 hi).2
      rw [Bool.and_eq_true, decide_eq_true_iff] at this
      exact getD_mem l dN i this.1
    · have := range_filter_len (fun i => decide (i < l.length) && bitN (bestP r l want (want + slackZ r)) 8 i) (fun i => l.getD i dN) 8
      omega
  · split at h
    · cases h
    · rename_i hn
      injection h with h
      injection h with h1 _
      subst h1
      exact ⟨fun x hx => List.mem_of_mem_take hx, by rw [List.length_take]; omega⟩
end Go.Proofs.Ytffgpepngcnjeab

namespace Go.Proofs.Ytffgpepngcnjeab
open Go.RowKit
def PRow4 (w : World) (P : Nat) (s g : Int) (v : Value) (h : Int) : Prop := VRow w P 0 [.int .i64 s, .int .i64 g, v, .int .i64 h]
theorem PRow4.c0 {w : World} {P : Nat} {s g : Int} {v : Value} {h : Int} (hr : PRow4 w P s g v h) : w.cell? ⟨P, 0, none⟩ = some (.int .i64 s) := hr 0 (by simp)
theorem PRow4.c1 {w : World} {P : Nat} {s g : Int} {v : Value} {h : Int} (hr : PRow4 w P s g v h) : w.cell? ⟨P, 1, none⟩ = some (.int .i64 g) := hr 1 (by simp)
theorem PRow4.c2 {w : World} {P : Nat} {s g : Int} {v : Value} {h : Int} (hr : PRow4 w P s g v h) : w.cell? ⟨P, 2, none⟩ = some v := hr 2 (by simp)
theorem PRow4.c3 {w : World} {P : Nat} {s g : Int} {v : Value} {h : Int} (hr : PRow4 w P s g v h) : w.cell? ⟨P, 3, none⟩ = some (.int .i64 h) := hr 3 (by simp)
set_option maxRecDepth 100000 in
set_option maxHeartbeats 1000000 in
theorem pCoins4 (P : Nat) (s : Int) (g : Nat) (ao : Option Addr) (n c : Nat) (h : Int) (xs : List Cel) (w : World) (hs : Mk.isM s = true) (hg : 1 ≤ g) (hg2 : g ≤ 20) (hp : PRow4 w P s g (.slice ao n c) h) (hx : CelsAt w ao xs) (hn : xs.length = n) (hm : n ≤ 10000) :
    Calls Try.prog 26 #[.pointer (some ⟨P, 0, none⟩)] w fun e w' => ∃ v, e = .returned v ∧ OwnRec CoinD.l 70 6 w' w.heap.size v (ownZ (keysZ xs s g) (coinsC xs)) ∧ Below w.heap.size w w' := by
  have c0 := hp.c0
  have c1 := hp.c1
  have hc2 : w.drew.cell? ⟨P, 2, none⟩ = some (.slice ao n c) := hp.c2
  have HC : Hid (w.drew.cell? ⟨P, 2, none⟩ = some (.slice ao n c)) := hc2
  have HX : Hid (CelsAt w.drew ao xs) := RecAt.heap hx rfl
  have HN : Hid (xs.length = n) := hn
  clear hp hc2 hx hn
  go_enter Try.func26, Try.ntmps26
  go_wp2
  go_region_held3 (fun w' => w'.cell? ⟨P, 0, none⟩ = some (.int .i64 s) ∧ w'.cell? ⟨P, 1, none⟩ = some (.int .i64 g)) (first | go_keep | exact keepP (w' := w.drew) c0 c1 rfl (by assumption)) ((go_at_call 55; refine (wCoins_any P 2 ao n c xs s g w.drew hs hg hg2 HC.out HX.out HN.out hm).mono ?_; rintro e w1 ⟨v, rfl, ho1, hb1⟩))
  go_wp2
  go_ret
  exact ⟨v, rfl, ho1, ((Below.refl w.heap.size w).drew).trans hb1⟩
set_option maxRecDepth 100000 in
set_option maxHeartbeats 2000000 in
theorem pBalance4 (N : Nat → Prop) (ps : List PayD) (ks : List (Int × Int)) (P : Nat) (s : Int) (g : Nat) (ao : Option Addr) (n c : Nat) (h : Int) (xs : List Cel) (w : World) (hs : Mk.isM s = true) (hg : 1 ≤ g) (hg2 : g ≤ 20) (hp : PRow4 w P s g (.slice ao n c) h) (hl : PayM N w P 4 ps ks) (hx : CelsAt w ao xs) (hn : xs.length = n) (hm : n ≤ 10000) (hv : ∀ x ∈ ownZ (keysZ xs s g) (coinsC xs), 0 ≤ x.val ∧ x.val ≤ 1099511627776) :
    Calls Try.prog 11 #[.pointer (some ⟨P, 0, none⟩)] w fun e w' => e = .returned (.tuple #[.int .i64 (sumC (ownZ (keysZ xs s g) (coinsC xs))), .int .i64 (sumC ((ownZ (keysZ xs s g) (coinsC xs)).filter (freeB ps ks)))]) ∧ Below w.heap.size w w' := by
  have HV : Hid (∀ x ∈ ownZ (keysZ xs s g) (coinsC xs), 0 ≤ x.val ∧ x.val ≤ 1099511627776) := hv
  have HP : Hid (PRow4 w P s g (.slice ao n c) h) := hp
  have HX : Hid (CelsAt w ao xs) := hx
  have HN : Hid (xs.length = n) := hn
  have HL4 : Hid (PayM N w P 4 ps ks) := hl
  have hl0 : (ownZ (keysZ xs s g) (coinsC xs)).length ≤ 10000 := by
    have h1 := ownZ_len (keysZ xs s g) (coinsC xs)
    have h2 := coinsC_len xs
    omega
  have HL : Hid ((ownZ (keysZ xs s g) (coinsC xs)).length ≤ 10000) := hl0
  clear hv hp hx hn hl0 hl
  go_enter Try.func11, Try.ntmps11
  go_wp2_with fail
  refine (pCoins4 P s g ao n c h xs _ hs hg hg2 HP.out HX.out HN.out hm).mono ?_
  rintro e w1 ⟨v, rfl, ho1, hb1⟩
  generalize hcs : ownZ (keysZ xs s g) (coinsC xs) = cs at *
  have HCS : Hid (ownZ (keysZ xs s g) (coinsC xs) = cs) := hcs
  clear hcs
  obtain ⟨ac, cc, rfl, hat⟩ := OwnRec.at coin6 ho1
  have HA : Hid (RecAt CoinD.l w1 ac cs) := hat
  have HL1 : Hid (PayM N w1 P 4 ps ks) := HL4.out.grown hb1
  clear hat ho1
  generalize hm2 : cs.length = m at *
  have HM : Hid (cs.length = m) := hm2
  have hml : m ≤ 10000 := HL.out
  clear hm2
  go_wp2_with fail
  refine (free_any N P ps ks ac m cc cs _ HL1.out HA.out HM.out (by omega)).mono ?_
  rintro e w2 ⟨v2, rfl, ho2, hb2⟩
  obtain ⟨ad, cd, rfl, had⟩ := OwnRec.at coin6 ho2
  have HVF : Hid (∀ x ∈ cs.filter (freeB ps ks), 0 ≤ x.val ∧ x.val ≤ 1099511627776) := sumF_val HV.out
  have HFL : Hid ((cs.filter (freeB ps ks)).length ≤ 10000) := by show _ ≤ _; have := List.length_filter_le (freeB ps ks) cs; rw [HM.out] at this; omega
  have HA2 : Hid (RecAt CoinD.l w2 ac cs) := HA.out.grown hb2
  have HD2 : Hid (RecAt CoinD.l w2 ad (cs.filter (freeB ps ks))) := had
  have hb02 := below_blk hb1 hb2
  clear had ho2 HA hb1 hb2
  generalize hfs : cs.filter (freeB ps ks) = fs at *
  have HFS : Hid (cs.filter (freeB ps ks) = fs) := hfs
  clear hfs
  generalize hfm : fs.length = fm at *
  have HFM : Hid (fs.length = fm) := hfm
  have hfl : fm ≤ 10000 := HFL.out
  clear hfm HFL
  go_wp2_with fail
  refine (sum_any ac m cc cs _ HA2.out HM.out (by omega) HV.out).mono ?_
  rintro e w3 ⟨rfl, hb3⟩
  have HD3 : Hid (RecAt CoinD.l w3 ad fs) := HD2.out.grown hb3
  have hb03 := below_blk hb02 hb3
  go_wp2_with fail
  refine (sum_any ad fm cd fs _ HD3.out HFM.out (by omega) HVF.out).mono ?_
  rintro e w4 ⟨rfl, hb4⟩
  have hb04 := below_blk hb03 hb4
  go_wp2
  go_ret2
  rw [HCS.out, HFS.out]
  exact ⟨rfl, hb04⟩
theorem paq_c0 {w : World} {P : Nat} {s : Int} {g : Nat} {v : Value} {h : Int} {xs : List Cel} (hp : PAq w P s g v h xs) : w.cell? ⟨P, 0, none⟩ = some (.int .i64 s) := (hp.ext (0, .int .i64 s) (by simp)).2.2
theorem paq_c1 {w : World} {P : Nat} {s : Int} {g : Nat} {v : Value} {h : Int} {xs : List Cel} (hp : PAq w P s g v h xs) : w.cell? ⟨P, 1, none⟩ = some (.int .i64 (g : Int)) := (hp.ext (1, .int .i64 (g : Int)) (by simp)).2.2
theorem paq_row {w : World} {P : Nat} {s : Int} {g : Nat} {v : Value} {h : Int} {xs : List Cel} (hp : PAq w P s g v h xs) : PRow4 w P s g v h := by
  intro j hj
  match j, hj with
  | 0, _ => exact (hp.ext (0, .int .i64 s) (by simp)).2.2
  | 1, _ => exact (hp.ext (1, .int .i64 (g : Int)) (by simp)).2.2
  | 2, _ => exact hp.c0
  | 3, _ => exact hp.c1
end Go.Proofs.Ytffgpepngcnjeab

namespace Go.Proofs.Ytffgpepngcnjeab
open Go.RowKit
theorem keepB2' {w w' : World} {a b p q : Nat} {x y : Value} (hb : Below w.heap.size w w') (h : w.cell? ⟨a, p, none⟩ = some x ∧ w.cell? ⟨b, q, none⟩ = some y) : w'.cell? ⟨a, p, none⟩ = some x ∧ w'.cell? ⟨b, q, none⟩ = some y :=
  ⟨(hb.cell (p := ⟨a, p, none⟩) (cell_lt h.1)).trans h.1, (hb.cell (p := ⟨b, q, none⟩) (cell_lt h.2)).trans h.2⟩
end Go.Proofs.Ytffgpepngcnjeab

namespace Go.Proofs.Ytffgpepngcnjeab
open Go.RowKit
/-- a payment that is fair: without change, or with one -/
def FairC (s : Int) (g : Nat) (xs : List Cel) (cs : List CoinD) (r : Int) (ex : List (Int × Int)) (ch ov : Int) : Prop :=
  (ex = [] ∧ ch = -1 ∧ 0 ≤ ov ∧ ov < r * 2 + 10) ∨
  ∃ (i : Nat) (v : Int), ex = [(Mk.adr s 1 (i : Int), v)] ∧ ch = (i : Int) ∧ Mk.isK s 1 (i : Int) = true ∧ i < winZ xs s g 1 ∧ 10 ≤ v ∧ (∀ c ∈ cs, c.tt ≠ Mk.adr s 1 (i : Int)) ∧ ov = 0
end Go.Proofs.Ytffgpepngcnjeab
