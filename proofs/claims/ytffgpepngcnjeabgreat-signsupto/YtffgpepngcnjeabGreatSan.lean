import Derived.Test.YtffgpepngcnjeabGreatSam
import Derived.Lib.SmallJoins
namespace Go.Proofs.YtffgpepngcnjeabGreat
set_option maxRecDepth 100000
set_option maxHeartbeats 8000000
section
open Go.RowKit
variable {w w' : World} {b off B M : Nat}
def OpD.cs (x : OpD) : List Value := [.int .i64 x.kd, .int .i64 x.on, .int .i64 x.a, .int .i64 x.b, .slice x.ab x.m x.d, .slice x.oa x.om x.od]
def dO : OpD := ⟨0, 0, 0, 0, none, 0, 0, [], none, 0, 0, []⟩
theorem op6 (x : OpD) : x.cs.length = 6 := rfl
structure OpCells (w : World) (b off : Nat) (x : OpD) : Prop where
 c0 : w.cell? ⟨b, off, none⟩ = some (.int .i64 x.kd)
 c1 : w.cell? ⟨b, off + 1, none⟩ = some (.int .i64 x.on)
 c2 : w.cell? ⟨b, off + 2, none⟩ = some (.int .i64 x.a)
 c3 : w.cell? ⟨b, off + 3, none⟩ = some (.int .i64 x.b)
 c4 : w.cell? ⟨b, off + 4, none⟩ = some (.slice x.ab x.m x.d)
 c5 : w.cell? ⟨b, off + 5, none⟩ = some (.slice x.oa x.om x.od)
theorem opCells {xs : List OpD} (h : VRow w b off (xs.flatMap OpD.cs)) (j : Nat) (hj : j < xs.length) : OpCells w b (off + j * 6) (xs.getD j dO) :=
 ⟨reL op6 dO h j hj 0 (by omega), reL op6 dO h j hj 1 (by omega), reL op6 dO h j hj 2 (by omega), reL op6 dO h j hj 3 (by omega), reL op6 dO h j hj 4 (by omega), reL op6 dO h j hj 5 (by omega)⟩
structure Scr (B : Nat) (w : World) (so : OAd) (ops : List OpD) : Prop where
 row : RcT OpD.cs w so ops
 na : ops ≠ [] → ∀ a, so = some a → a.block < B
 ok : ∀ x ∈ ops, OpOk (fun k => k < B) w x
theorem Scr.fr {so : OAd} {ops : List OpD} (h : Scr B w so ops) (hf : Fr (fun k => B ≤ k) w w') : Scr B w' so ops := by
 refine ⟨?_, h.na, fun x hx => (h.ok x hx).fr hf (fun k hk e => by omega)⟩
 by_cases he : ops = []
 ·exact Or.inl he
 ·rcases h.row with h1 | ⟨b, off, rfl, hr⟩
  ·exact Or.inl h1
  ·have := h.na he _ rfl
   exact Or.inr ⟨b, off, rfl, hf.vrow hr (by simp only at this; omega)⟩
structure PlayOk (last ask asks : Int) (Inv : Nat → Nat → Nat → World → Prop) (M : Nat := 1759218604390) : Prop where
 grow : ∀ k G B w w', Inv k G B w → Below w.heap.size w w' → Inv k G B w'
 more : ∀ k G B w, Inv k G B w → Inv (k + 1) G B w
 size : ∀ k G B w, Inv k G B w → B ≤ w.heap.size
 step : ∀ k G B w (o : OpD), k ≤ M → Inv k G B w → OpOk (fun k => k < B) w o → (o.kd ≤ last ∨ (ask ≤ o.kd ∧ o.kd ≤ asks)) →
  Calls Tryz.prog 28 #[.pointer (some ⟨G, 0, none⟩), o.val] w fun e w' => e = .returned (.bool true) ∧ Inv (k + 1) G B w' ∧ Fr (fun k => B ≤ k) w w'
theorem plays_yes (s g last lo hi ask asks : Int) (Inv : Nat → Nat → Nat → World → Prop) (hi0 : PlayOk last ask asks Inv M)
 (hbg : ∀ w, Calls Tryz.prog 27 #[.int .i64 s, .int .i64 g] w fun e w' => ∃ G, e = .returned (.tuple #[.pointer (some ⟨G, 0, none⟩), .bool true]) ∧ Inv 0 G w.heap.size w' ∧ Below w.heap.size w w')
 (so : OAd) (n c : Nat) (ops : List OpD) (w : World) (hs : Scr w.heap.size w so ops) (hn : ops.length = n) (hm : n ≤ M) (hM : M ≤ 1759218604390 := by decide) :
 Calls Tryz.prog 8 #[.int .i64 s, .int .i64 g, .slice so n c, .agg #[.int .i64 last, .int .i64 lo, .int .i64 hi, .int .i64 ask, .int .i64 asks, .bool false]] w fun e w' => e = .returned (.bool true) ∧ Below w.heap.size w w' := by
 have HI := hiD hi0
 have HBG : Hid _ := hbg
 have HN := hiD hn
 have hb1 : Below w.heap.size w (w.alloc (.cells #[.int .i64 last, .int .i64 lo, .int .i64 hi, .int .i64 ask, .int .i64 asks, .bool false] 25)) := (Below.refl _ _).alloc leR _
 have hv1 : VRow (w.alloc (.cells #[.int .i64 last, .int .i64 lo, .int .i64 hi, .int .i64 ask, .int .i64 asks, .bool false] 25)) w.heap.size 0 [.int .i64 last, .int .i64 lo, .int .i64 hi, .int .i64 ask, .int .i64 asks, .bool false] := vwW _ _ _
 have hz1 : (w.alloc (.cells #[.int .i64 last, .int .i64 lo, .int .i64 hi, .int .i64 ask, .int .i64 asks, .bool false] 25)).heap.size = w.heap.size + 1 := by simp
 have HS1 : Hid (Scr (w.heap.size + 1) (w.alloc (.cells #[.int .i64 last, .int .i64 lo, .int .i64 hi, .int .i64 ask, .int .i64 asks, .bool false] 25)) so ops) := by
  refine ⟨hs.row.grown hb1, fun h a ha => by have := hs.na h a ha; omega, fun x hx => ?_⟩
  have h1 := (hs.ok x hx).fr (Fr.of_below hb1 (fun _ => False)) (fun _ _ h => h)
  obtain ⟨⟨r, na, ok⟩, a2, a3, a4, a5, a6, a7, a8, a9, a10⟩ := h1
  exact ⟨⟨r, fun h a ha => Nat.lt_succ_of_lt (na h a ha), fun t ht => ⟨(ok t ht).ins, (ok t ht).il, (ok t ht).outs, (ok t ht).ol, fun h a ha => Nat.lt_succ_of_lt ((ok t ht).na h a ha), fun h a ha => Nat.lt_succ_of_lt ((ok t ht).np h a ha), fun i hi h a ha => Nat.lt_succ_of_lt ((ok t ht).ns i hi h a ha)⟩⟩, a2, a3, a4, a5, a6, a7, fun e a ha => Nat.lt_succ_of_lt (a8 e a ha), a9, a10⟩
 have HV1 := hiD hv1
 clear hi0 hbg hn hs hv1
 go_enter Tryz.func8, Tryz.ntmps8
 go_wp2_with fail
 generalize w.alloc (.cells #[.int .i64 last, .int .i64 lo, .int .i64 hi, .int .i64 ask, .int .i64 asks, .bool false] 25) = w1 at *
 generalize hTe : w.heap.size = T at *
 have HTe := hiD hTe
 clear hTe
 refine (HBG w1).mono ?_
 rintro e w2 ⟨G, rfl, hinv, hb2⟩
 rw [hz1] at hinv hb2
 have hs2 := HI.out.size _ _ _ _ hinv
 have HS2 : Hid (Scr (T + 1) w2 so ops) := HS1.out.fr (Fr.of_below (by rw [hz1]; exact hb2) _)
 have HV2 : Hid (VRow w2 T 0 [.int .i64 last, .int .i64 lo, .int .i64 hi, .int .i64 ask, .int .i64 asks, .bool false]) := HV1.out.below hb2 (by omega)
 have HB2 : Hid (Below T w w2) := hb1.trans (hb2.mono (by omega))
 have HINV := hiD hinv
 clear hinv hb1 hb2 HS1 HV1 hz1 HBG
 go_wp2
 go_loopw [11] (fun i wr => ∃ k : Nat, k ≤ n ∧ i = .int .i64 k ∧ Inv k G (T + 1) wr ∧ Fr (fun q => T + 1 ≤ q) w2 wr) (fun i _ => n - (intOf i).toNat)
 case atStart => exact ⟨0, Nat.zero_le _, rfl, HINV, Fr.refl _ _⟩
 case round =>
  obtain ⟨k, hk, rfl, hinv, hfr⟩ := hrel
  have hsk := HI.out.size _ _ _ _ hinv
  have hv := hfr.vrow HV2.out (by omega)
  by_cases hlt : k < n
  ·have hsc := HS2.out.fr hfr
   rcases hsc.row with hnil | ⟨gs, os, rfl, hrow⟩
   ·have h1 := HN.out; rw [hnil] at h1; simp at h1; omega
   have hok := hsc.ok _ (gDM ops dO k (by rw [HN.out]; exact hlt))
   obtain ⟨c0, c1, c2, c3, c4, c5⟩ := opCells hrow k (by rw [HN.out]; exact hlt)
   clear hrow hsc
   generalize ops.getD k dO = y at c0 c1 c2 c3 c4 c5 hok
   obtain ⟨kd, on, oa1, ob1, ab, m, d, bl, oa, om, od, ys⟩ := y
   simp only at c0 c1 c2 c3 c4 c5
   have b0 := hv 0 (by simp)
   have b1 := hv 1 (by simp)
   have b2 := hv 2 (by simp)
   have b3 := hv 3 (by simp)
   have b4 := hv 4 (by simp)
   have b5 := hv 5 (by simp)
   simp only [Nat.zero_add, List.getD, List.getElem?_cons_zero, List.getElem?_cons_succ, Option.getD_some] at b0 b1 b2 b3 b4 b5
   have hTl : T < wr.heap.size := by omega
   have hbo : Below wr.heap.size wr (wr.alloc (.cells #[.int .i64 kd, .int .i64 on, .int .i64 oa1, .int .i64 ob1, .slice ab m d, .slice oa om od] 82)) := (Below.refl _ _).alloc leR _
   have HINV3 : Hid (Inv k G (T + 1) (wr.alloc (.cells #[.int .i64 kd, .int .i64 on, .int .i64 oa1, .int .i64 ob1, .slice ab m d, .slice oa om od] 82))) := HI.out.grow _ _ _ _ _ hinv hbo
   have HOK3 : Hid (OpOk (fun q => q < T + 1) (wr.alloc (.cells #[.int .i64 kd, .int .i64 on, .int .i64 oa1, .int .i64 ob1, .slice ab m d, .slice oa om od] 82)) ⟨kd, on, oa1, ob1, ab, m, d, bl, oa, om, od, ys⟩) := hok.fr (Fr.of_below hbo (fun _ => False)) (fun _ _ h => h)
   have HFR3 : Hid (Fr (fun q => T + 1 ≤ q) w2 (wr.alloc (.cells #[.int .i64 kd, .int .i64 on, .int .i64 oa1, .int .i64 ob1, .slice ab m d, .slice oa om od] 82))) := hfr.trans (Fr.of_below hbo _)
   have HKB5 : Hid (∀ w4 : World, Fr (fun q => T + 1 ≤ q) (wr.alloc (.cells #[.int .i64 kd, .int .i64 on, .int .i64 oa1, .int .i64 ob1, .slice ab m d, .slice oa om od] 82)) w4 → w4.cell? ⟨T, 5, none⟩ = some (.bool false)) := fun w4 h4 => h4.cell ((hbo.cell (p := ⟨T, 5, none⟩) (clT b5)).trans b5) (by omega)
   clear hok hbo hinv hfr hv
   have e1 : (0 : Int) ≤ (k : Int) := by omega
   have e2 : (k : Int) < (n : Int) := by omega
   have HK : Hid (∀ w4 : World, Inv (k + 1) G (T + 1) w4 ∧ Fr (fun q => T + 1 ≤ q) (wr.alloc (.cells #[.int .i64 kd, .int .i64 on, .int .i64 oa1, .int .i64 ob1, .slice ab m d, .slice oa om od] 82)) w4 → Inv (k + 1) G (T + 1) w4 ∧ Fr (fun q => T + 1 ≤ q) w2 w4) := fun w4 h4 => ⟨h4.1, HFR3.out.trans h4.2⟩
   cases h1 : decide (ask ≤ kd)
   ·cases h3 : decide (last < kd)
    ·have hc : kd ≤ last ∨ (ask ≤ kd ∧ kd ≤ asks) := Or.inl (by have := decide_eq_false_iff_not.1 h3; omega)
     cases h4 : decide (lo ≤ kd)
     ·go_wp2_with fail
      refine (HI.out.step k G (T + 1) _ ⟨kd, on, oa1, ob1, ab, m, d, bl, oa, om, od, ys⟩ (by omega) HINV3 HOK3 hc).mono ?_
      rintro e w4 ⟨rfl, hinv4, hfr4⟩
      have q5 := HKB5.out w4 hfr4
      have HK4 : Hid _ := HK.out w4 ⟨hinv4, hfr4⟩
      clear hinv4 hfr4 b0 b1 b2 b3 b4 b5 c0 c1 c2 c3 c4 c5
      go_wp2
      go_roundw
      case rel => exact ⟨k + 1, by omega, by go_num, HK4.out.1, HK4.out.2⟩
      case measure => simp [intOf]; omega
     ·cases h5 : decide (kd ≤ hi)
      ·go_wp2_with fail
       refine (HI.out.step k G (T + 1) _ ⟨kd, on, oa1, ob1, ab, m, d, bl, oa, om, od, ys⟩ (by omega) HINV3 HOK3 hc).mono ?_
       rintro e w4 ⟨rfl, hinv4, hfr4⟩
       have q5 := HKB5.out w4 hfr4
       have HK4 : Hid _ := HK.out w4 ⟨hinv4, hfr4⟩
       clear hinv4 hfr4 b0 b1 b2 b3 b4 b5 c0 c1 c2 c3 c4 c5
       go_wp2
       go_roundw
       case rel => exact ⟨k + 1, by omega, by go_num, HK4.out.1, HK4.out.2⟩
       case measure => simp [intOf]; omega
      ·go_wp2_with fail
       refine (HI.out.step k G (T + 1) _ ⟨kd, on, oa1, ob1, ab, m, d, bl, oa, om, od, ys⟩ (by omega) HINV3 HOK3 hc).mono ?_
       rintro e w4 ⟨rfl, hinv4, hfr4⟩
       have q5 := HKB5.out w4 hfr4
       have HK4 : Hid _ := HK.out w4 ⟨hinv4, hfr4⟩
       clear hinv4 hfr4 b0 b1 b2 b3 b4 b5 c0 c1 c2 c3 c4 c5
       go_wp2
       go_roundw
       case rel => exact ⟨k + 1, by omega, by go_num, HK4.out.1, HK4.out.2⟩
       case measure => simp [intOf]; omega
    ·go_wp2
     go_roundw
     case rel => exact ⟨k + 1, by omega, by go_num, HI.out.more _ _ _ _ HINV3, HFR3⟩
     case measure => simp [intOf]; omega
   ·cases h2 : decide (kd ≤ asks)
    ·cases h3 : decide (last < kd)
     ·have hc : kd ≤ last ∨ (ask ≤ kd ∧ kd ≤ asks) := Or.inl (by have := decide_eq_false_iff_not.1 h3; omega)
      cases h4 : decide (lo ≤ kd)
      ·go_wp2_with fail
       refine (HI.out.step k G (T + 1) _ ⟨kd, on, oa1, ob1, ab, m, d, bl, oa, om, od, ys⟩ (by omega) HINV3 HOK3 hc).mono ?_
       rintro e w4 ⟨rfl, hinv4, hfr4⟩
       have q5 := HKB5.out w4 hfr4
       have HK4 : Hid _ := HK.out w4 ⟨hinv4, hfr4⟩
       clear hinv4 hfr4 b0 b1 b2 b3 b4 b5 c0 c1 c2 c3 c4 c5
       go_wp2
       go_roundw
       case rel => exact ⟨k + 1, by omega, by go_num, HK4.out.1, HK4.out.2⟩
       case measure => simp [intOf]; omega
      ·cases h5 : decide (kd ≤ hi)
       ·go_wp2_with fail
        refine (HI.out.step k G (T + 1) _ ⟨kd, on, oa1, ob1, ab, m, d, bl, oa, om, od, ys⟩ (by omega) HINV3 HOK3 hc).mono ?_
        rintro e w4 ⟨rfl, hinv4, hfr4⟩
        have q5 := HKB5.out w4 hfr4
        have HK4 : Hid _ := HK.out w4 ⟨hinv4, hfr4⟩
        clear hinv4 hfr4 b0 b1 b2 b3 b4 b5 c0 c1 c2 c3 c4 c5
        go_wp2
        go_roundw
        case rel => exact ⟨k + 1, by omega, by go_num, HK4.out.1, HK4.out.2⟩
        case measure => simp [intOf]; omega
       ·go_wp2_with fail
        refine (HI.out.step k G (T + 1) _ ⟨kd, on, oa1, ob1, ab, m, d, bl, oa, om, od, ys⟩ (by omega) HINV3 HOK3 hc).mono ?_
        rintro e w4 ⟨rfl, hinv4, hfr4⟩
        have q5 := HKB5.out w4 hfr4
        have HK4 : Hid _ := HK.out w4 ⟨hinv4, hfr4⟩
        clear hinv4 hfr4 b0 b1 b2 b3 b4 b5 c0 c1 c2 c3 c4 c5
        go_wp2
        go_roundw
        case rel => exact ⟨k + 1, by omega, by go_num, HK4.out.1, HK4.out.2⟩
        case measure => simp [intOf]; omega
     ·go_wp2
      go_roundw
      case rel => exact ⟨k + 1, by omega, by go_num, HI.out.more _ _ _ _ HINV3, HFR3⟩
      case measure => simp [intOf]; omega
    ·have hc : kd ≤ last ∨ (ask ≤ kd ∧ kd ≤ asks) := Or.inr ⟨decide_eq_true_iff.1 h1, decide_eq_true_iff.1 h2⟩
     cases h3 : decide (last < kd)
     ·go_wp2_with fail
      refine (HI.out.step k G (T + 1) _ ⟨kd, on, oa1, ob1, ab, m, d, bl, oa, om, od, ys⟩ (by omega) HINV3 HOK3 hc).mono ?_
      rintro e w4 ⟨rfl, hinv4, hfr4⟩
      have q5 := HKB5.out w4 hfr4
      have HK4 : Hid _ := HK.out w4 ⟨hinv4, hfr4⟩
      clear hinv4 hfr4 b0 b1 b2 b3 b4 b5 c0 c1 c2 c3 c4 c5
      go_wp2
      go_roundw
      case rel => exact ⟨k + 1, by omega, by go_num, HK4.out.1, HK4.out.2⟩
      case measure => simp [intOf]; omega
     ·go_wp2_with fail
      refine (HI.out.step k G (T + 1) _ ⟨kd, on, oa1, ob1, ab, m, d, bl, oa, om, od, ys⟩ (by omega) HINV3 HOK3 hc).mono ?_
      rintro e w4 ⟨rfl, hinv4, hfr4⟩
      have q5 := HKB5.out w4 hfr4
      have HK4 : Hid _ := HK.out w4 ⟨hinv4, hfr4⟩
      clear hinv4 hfr4 b0 b1 b2 b3 b4 b5 c0 c1 c2 c3 c4 c5
      go_wp2
      go_roundw
      case rel => exact ⟨k + 1, by omega, by go_num, HK4.out.1, HK4.out.2⟩
      case measure => simp [intOf]; omega
  ·have HFIN : Hid (Below w.heap.size w wr) := by
    show Below w.heap.size w wr
    rw [HTe.out]
    exact HB2.out.trans (hfr.toBelow T (by omega) (fun q hq => by omega))
   go_wp2
   go_ret
   exact ⟨rfl, HFIN⟩
theorem plays_no (s g last lo hi ask asks : Int) (hf : fitZ s g = false) (v : Value) (w : World) :
 Calls Tryz.prog 8 #[.int .i64 s, .int .i64 g, v, .agg #[.int .i64 last, .int .i64 lo, .int .i64 hi, .int .i64 ask, .int .i64 asks, .bool false]] w fun e w' => e = .returned (.bool true) ∧ Below w.heap.size w w' := by
 have hb1 : Below w.heap.size w (w.alloc (.cells #[.int .i64 last, .int .i64 lo, .int .i64 hi, .int .i64 ask, .int .i64 asks, .bool false] 25)) := (Below.refl _ _).alloc leR _
 go_enter Tryz.func8, Tryz.ntmps8
 go_wp2_with fail
 refine (begin_no s g _ hf).mono ?_
 rintro e w2 ⟨rfl, hb2⟩
 go_wp2
 go_ret
 exact ⟨rfl, bwK hb1 hb2⟩
def CInv (s : Int) (g : Nat) (G B : Nat) (w : World) : Prop :=
 ∃ (X : NPr) (DE : List (Nat × Value)) (D : Nat) (V v : Value) (ao : OAd) (c : Nat) (bls : List (List TxD)) (xs : List Cel), GI (fun k => k < B) X exE DE G B D V s g v ao c bls xs w
end
section
open Go.ChangeShapes Go.WideShapes Go.ChangeAt Go.RowKit

def I64 (x : Int) : Prop := -9223372036854775808 ≤ x ∧ x ≤ 9223372036854775807
theorem tCells3 : Tryz.prog.cellsOf 3 = 1 := by kernel_rfl
theorem tCells44 : Tryz.prog.cellsOf 44 = 1 := by kernel_rfl
theorem tCells33 : Tryz.prog.cellsOf 33 = 1 := by kernel_rfl
theorem tCells28 : Tryz.prog.cellsOf 28 = 1 := by kernel_rfl
theorem tCells35 : Tryz.prog.cellsOf 35 = 3 := by kernel_rfl
theorem tCells115 : Tryz.prog.cellsOf 115 = 3 := by kernel_rfl
theorem tCells93 : Tryz.prog.cellsOf 93 = 2 := by kernel_rfl
theorem tBytes3 : Tryz.prog.bytesOf 3 = 8 := by kernel_rfl
theorem tBytes115 : Tryz.prog.bytesOf 115 = 40 := by kernel_rfl
theorem tBytes93 : Tryz.prog.bytesOf 93 = 16 := by kernel_rfl
theorem row_take {w : World} {b off : Nat} {l : List Int} (h : Row w b off l) (n : Nat) : Row w b off (l.take n) := by
 intro j hj
 rw [List.length_take] at hj
 rw [h j (by omega)]
 simp only [List.getD]
 rw [List.getElem?_take_of_lt (by omega)]
theorem len3 {cs : List Value} (h : cs.length = 3) : ∃ a b c, cs = [a, b, c] := by
 match cs, h with
 | [a, b, c], _ => exact ⟨a, b, c, rfl⟩
theorem len2c {cs : List Value} (h : cs.length = 2) : ∃ a b, cs = [a, b] := by
 match cs, h with
 | [a, b], _ => exact ⟨a, b, rfl⟩
section
variable {H : Type} {enc : TypeId × Value → H} {W : World} {fuel : Nat} {cs : List Value} {x : DataW H × List MemPlace}
theorem open_num (h : DataW.trod enc Tryz.prog W 0 (fun _ => true) true fuel 3 cs = some x) : ∃ n : Int, cs = [.int .i64 n] ∧ I64 n := by
 obtain ⟨n, hcs, _, hw⟩ := DataW.trod_int Tryz.underlying3 h
 exact ⟨n, hcs, bounds_i64 hw⟩
theorem open_seal (h : DataW.trod enc Tryz.prog W 0 (fun _ => true) true fuel 44 cs = some x) (hw : ∀ k ∈ x.1.weights Tryz.prog 44, k ≤ reachBytes) :
 ∃ ao n c l, cs = [.slice ao n c] ∧ IsT W ao l ∧ l.length = n ∧ n ≤ 17592186044416 ∧ (ao = none → c = 0) ∧ ∀ z ∈ l, I64 z := by
 rcases open_ints Tryz.underlying44 Tryz.underlying3 tCells3 h with ⟨hcs, _⟩ | ⟨a, len, cap, zs, hcs, _, hl, hm, hz, hx, hcell, hwz⟩
 ·exact ⟨none, 0, 0, [], hcs, Or.inl rfl, rfl, by omega, fun _ => rfl, fun z hz => by cases hz⟩
 ·have hz' : zs.length = cap := by simpa using hz
  have hr : (zs.take len).length * 8 + (zs.drop len).length * 8 ≤ reachBytes := by
   have := hw (((zs.take len).length + (zs.drop len).length) * 8) (by
    rw [hx]
    simp only [DataW.weights, Tryz.underlying44, tBytes3, lits, List.length_map]
    exact List.mem_cons_self)
   omega
  rw [List.length_take, List.length_drop] at hr
  simp only [reachBytes] at hr
  refine ⟨some a, len, cap, zs.take len, hcs, ?_, by rw [List.length_take]; omega, by omega, fun h => (by cases h), fun z hz => bounds_i64 (hwz z (List.mem_of_mem_take hz))⟩
  by_cases h0 : zs.length = 0
  ·have : zs = [] := List.length_eq_zero_iff.1 h0
   subst this
   exact Or.inl (by simp)
  ·obtain ⟨b, off, rfl, hc⟩ := ints_at hcell (by omega)
   exact Or.inr ⟨b, off, rfl, row_take hc _⟩
structure In64 (x : InD) : Prop where
 id : I64 x.id
 pos : I64 x.pos
 l : ∀ z ∈ x.l, I64 z
theorem open_in (h : DataW.trod enc Tryz.prog W 0 (fun _ => true) true fuel 115 cs = some x) (hw : ∀ k ∈ x.1.weights Tryz.prog 115, k ≤ reachBytes) :
 ∃ y : InD, cs = [.int .i64 y.id, .int .i64 y.pos, .slice y.ao y.n y.c] ∧ InOk W y ∧ In64 y := by
 obtain ⟨y0, y1, y2, n, hx, hlen, h0, h1, h2⟩ := Go.Deep.trod_struct3 Tryz.underlying115 h
 rw [tCells115] at hlen
 obtain ⟨a, b, c, rfl⟩ := len3 hlen
 simp only [tCells3, tCells44, List.drop, List.take] at h0 h1 h2
 obtain ⟨i, hi, bi⟩ := open_num h0
 obtain ⟨p, hp, bp⟩ := open_num h1
 obtain ⟨ao, m, cp, l, hs, hat, hl, hm, hnil, bl⟩ := open_seal h2 (fun k hk => hw k (by
  rw [hx]
  simp only [DataW.weights, Tryz.underlying115, List.map, DataW.weightsEach, List.append_nil]
  exact List.mem_append_right _ (List.mem_append_right _ hk)))
 cases hi
 cases hp
 cases hs
 exact ⟨⟨i, p, ao, m, cp, l⟩, rfl, ⟨hat, hl, hm, hnil⟩, ⟨bi, bp, bl⟩⟩
theorem open_out (h : DataW.trod enc Tryz.prog W 0 (fun _ => true) true fuel 93 cs = some x) : ∃ y : Int × Int, cs = [.int .i64 y.1, .int .i64 y.2] ∧ I64 y.1 ∧ I64 y.2 := by
 obtain ⟨y0, y1, n, _, hlen, h0, h1⟩ := trod_struct2 Tryz.underlying93 h
 rw [tCells93] at hlen
 obtain ⟨a, b, rfl⟩ := len2c hlen
 simp only [tCells3, List.drop, List.take] at h0 h1
 obtain ⟨i, hi, bi⟩ := open_num h0
 obtain ⟨p, hp, bp⟩ := open_num h1
 cases hi
 cases hp
 exact ⟨(i, p), rfl, bi, bp⟩
end
theorem choose_upto {α : Type} (d : α) {n : Nat} {p : Nat → α → Prop} (h : ∀ i, i < n → ∃ x, p i x) : ∃ l : List α, l.length = n ∧ ∀ i, i < n → p i (l.getD i d) := by
  refine ⟨(List.range n).map fun i => if hi : i < n then Classical.choose (h i hi) else d, by simp, fun i hi => ?_⟩
  have e : ((List.range n).map fun i => if hi : i < n then Classical.choose (h i hi) else d).getD i d = Classical.choose (h i hi) := by
    simp [List.getD, hi]
  rw [e]
  exact Classical.choose_spec (h i hi)
theorem weights_in {H : Type} {P : Program} {e : TypeId} {l : List (DataW H)} {d : DataW H} (h : d ∈ l) : ∀ k ∈ d.weights P e, k ∈ DataW.weightsAll P e l := by
  induction l with
  | nil => cases h
  | cons y r ih =>
    intro k hk
    simp only [DataW.weightsAll]
    rcases List.mem_cons.1 h with e' | e'
    · subst e'; exact List.mem_append_left _ hk
    · exact List.mem_append_right _ (ih e' k hk)
theorem cells_at {W : World} {a : Addr} {n : Nat} {cs : List Value} (h : W.cells? 0 a n = some cs) (hn : 0 < n) : a.spot = none ∧ ∀ i, i < n → W.cell? ⟨a.block, a.off + i, none⟩ = cs[i]? := by
  obtain ⟨_, hl, hc⟩ := World.cells?_some h
  obtain ⟨b, off, spot⟩ := a
  have hs : spot = none := by
    have h0 := hc 0 hn
    have : (W.cell? ((⟨b, off, spot⟩ : Addr).add 0)) = some (cs[0]'(by omega)) := by rw [h0]; exact List.getElem?_eq_getElem _
    simpa [Addr.add] using World.cell?_spot this
  subst hs
  exact ⟨rfl, fun i hi => by have := hc i hi; rw [add_plain] at this; exact this⟩
section

variable {H : Type} {enc : TypeId × Value → H} {W : World} {fuel : Nat} {cs : List Value} {x : DataW H × List MemPlace}
theorem open_insL (h : DataW.trod enc Tryz.prog W 0 (fun _ => true) true fuel 33 cs = some x) (hw : ∀ k ∈ x.1.weights Tryz.prog 33, k ≤ reachBytes) :
 ∃ ao n c xs, cs = [.slice ao n c] ∧ IAa W ao xs ∧ xs.length = n ∧ n ≤ 3518437208883 ∧ (ao = none → c = 0) ∧ ∀ j, j < n → In64 (xs.getD j dIn) := by
 rcases Go.Deep.open_slice Tryz.underlying33 h with ⟨hcs, _⟩ | ⟨a, len, cap, m, n, D, Pl, hcs, _, hl, hm, hmm, hx, hel⟩
 ·exact ⟨none, 0, 0, [], hcs, Or.inl rfl, rfl, by omega, fun _ => rfl, fun j hj => by omega⟩
 ·have hmm' : m = cap := by simpa using hmm
  have hr : len * 40 ≤ reachBytes := by
   have := hw ((((List.range len).map D).length + ((List.range (m - len)).map fun j => D (len + j)).length) * 40) (by
    rw [hx]
    simp only [DataW.weights, Tryz.underlying33, tBytes115]
    exact List.mem_cons_self)
   simp only [List.length_map, List.length_range] at this
   omega
  simp only [reachBytes] at hr
  rw [tCells115] at hel
  have each : ∀ i, i < len → ∃ y : InD, (W.cells? 0 (a.add (i * 3)) 3 = some [.int .i64 y.id, .int .i64 y.pos, .slice y.ao y.n y.c]) ∧ InOk W y ∧ In64 y := by
   intro i hi
   obtain ⟨cs', hc, ht⟩ := hel i (by omega)
   obtain ⟨y, rfl, hok, h64⟩ := open_in ht (fun k hk => hw k (by
    rw [hx]
    simp only [DataW.weights, Tryz.underlying33]
    exact List.mem_cons_of_mem _ (List.mem_append_left _ (weights_in (List.mem_map.2 ⟨i, List.mem_range.2 hi, rfl⟩) k hk))))
   exact ⟨y, hc, hok, h64⟩
  obtain ⟨xs, hxl, hxs⟩ := choose_upto dIn each
  refine ⟨some a, len, cap, xs, hcs, ?_, hxl, by omega, fun h => (by cases h), fun j hj => (hxs j hj).2.2⟩
  by_cases h0 : len = 0
  ·exact Or.inl (List.length_eq_zero_iff.1 (by omega))
  ·have ha : a.spot = none := by
    have := (cells_at (hxs 0 (by omega)).1 (by omega)).1
    simpa [Addr.add] using this
   obtain ⟨b, off, spot⟩ := a
   simp only at ha
   subst ha
   refine Or.inr ⟨b, off, rfl, fun j hj => ?_⟩
   obtain ⟨hc, hok, _⟩ := hxs j (by omega)
   obtain ⟨_, hcc⟩ := cells_at hc (by omega)
   rw [add_plain] at hcc
   simp only at hcc
   exact ⟨⟨by simpa using hcc 0 (by omega), by simpa using hcc 1 (by omega), by simpa using hcc 2 (by omega)⟩, hok⟩
theorem open_outsL (h : DataW.trod enc Tryz.prog W 0 (fun _ => true) true fuel 28 cs = some x) (hw : ∀ k ∈ x.1.weights Tryz.prog 28, k ≤ reachBytes) :
 ∃ ao n c ys, cs = [.slice ao n c] ∧ OsT W ao ys ∧ ys.length = n ∧ n ≤ 8796093022208 ∧ (ao = none → c = 0) ∧ ∀ j, j < n → I64 (ys.getD j (0, 0)).1 ∧ I64 (ys.getD j (0, 0)).2 := by
 rcases Go.Deep.open_slice Tryz.underlying28 h with ⟨hcs, _⟩ | ⟨a, len, cap, m, n, D, Pl, hcs, _, hl, hm, hmm, hx, hel⟩
 ·exact ⟨none, 0, 0, [], hcs, Or.inl rfl, rfl, by omega, fun _ => rfl, fun j hj => by omega⟩
 ·have hmm' : m = cap := by simpa using hmm
  have hr : len * 16 ≤ reachBytes := by
   have := hw ((((List.range len).map D).length + ((List.range (m - len)).map fun j => D (len + j)).length) * 16) (by
    rw [hx]
    simp only [DataW.weights, Tryz.underlying28, tBytes93]
    exact List.mem_cons_self)
   simp only [List.length_map, List.length_range] at this
   omega
  simp only [reachBytes] at hr
  rw [tCells93] at hel
  have each : ∀ i, i < len → ∃ y : Int × Int, (W.cells? 0 (a.add (i * 2)) 2 = some [.int .i64 y.1, .int .i64 y.2]) ∧ I64 y.1 ∧ I64 y.2 := by
   intro i hi
   obtain ⟨cs', hc, ht⟩ := hel i (by omega)
   obtain ⟨y, rfl, h64⟩ := open_out ht
   exact ⟨y, hc, h64⟩
  obtain ⟨ys, hyl, hys⟩ := choose_upto (0, 0) each
  refine ⟨some a, len, cap, ys, hcs, ?_, hyl, by omega, fun h => (by cases h), fun j hj => (hys j hj).2⟩
  by_cases h0 : len = 0
  ·exact Or.inl (List.length_eq_zero_iff.1 (by omega))
  ·have ha : a.spot = none := by
    have := (cells_at (hys 0 (by omega)).1 (by omega)).1
    simpa [Addr.add] using this
   obtain ⟨b, off, spot⟩ := a
   simp only at ha
   subst ha
   refine Or.inr ⟨b, off, rfl, fun j hj => ?_⟩
   obtain ⟨hc, _⟩ := hys j (by omega)
   obtain ⟨_, hcc⟩ := cells_at hc (by omega)
   rw [add_plain] at hcc
   simp only at hcc
   exact ⟨by simpa using hcc 0 (by omega), by simpa using hcc 1 (by omega)⟩
end
end
section
open Go.ChangeShapes Go.WideShapes Go.ChangeAt Go.RowKit

theorem tCells60 : Tryz.prog.cellsOf 60 = 1 := by kernel_rfl
theorem tCells82 : Tryz.prog.cellsOf 82 = 6 := by kernel_rfl
theorem tBytes35 : Tryz.prog.bytesOf 35 = 56 := by kernel_rfl
theorem tBytes82 : Tryz.prog.bytesOf 82 = 80 := by kernel_rfl
theorem len6 {cs : List Value} (h : cs.length = 6) : ∃ a b c d e f, cs = [a, b, c, d, e, f] := by
 match cs, h with
 | [a, b, c, d, e, f], _ => exact ⟨a, b, c, d, e, f, rfl⟩
abbrev inW (W : World) (q : Nat) : Prop := q < W.heap.size
section
variable {H : Type} {enc : TypeId × Value → H} {W : World} {fuel : Nat} {cs : List Value} {x : DataW H × List MemPlace}
theorem tx_places {t : Int} {ai : OAd} {n c : Nat} {ap : OAd} {m d : Nat} {xs : List InD} {ys : LII} (hx : IAa W ai xs) (hxl : xs.length = n) (hy : OsT W ap ys) (hyl : ys.length = m) : TxOk (inW W) W ⟨t, ai, n, c, ap, m, d, xs, ys⟩ := by
 refine ⟨hx, hxl, hy, hyl, fun he a ha => ?_, fun he a ha => ?_, fun i hi he a ha => ?_⟩
 ·rcases hx with h | ⟨b, off, e, hr⟩
  ·exact absurd h he
  ·simp only at ha
   rw [ha] at e
   cases e
   exact clT (hr 0 (List.length_pos_iff.2 he)).1.c0
 ·rcases hy with h | ⟨b, off, e, hr⟩
  ·exact absurd h he
  ·simp only at ha
   rw [ha] at e
   cases e
   exact clT (hr 0 (List.length_pos_iff.2 he)).1
 ·rcases hx with h | ⟨b, off, e, hr⟩
  ·simp only at hi
   rw [h] at hi
   simp at hi
  ·obtain ⟨j, hj, e2⟩ := mgD dIn hi
   have hok := (hr j hj).2
   rw [← e2] at hok
   rcases hok.lies with h | ⟨b2, off2, e3, hr2⟩
   ·exact absurd h he
   ·rw [ha] at e3
    cases e3
    exact hr2.lt he
theorem open_txc (h : DataW.trod enc Tryz.prog W 0 (fun _ => true) true fuel 35 cs = some x) (hw : ∀ k ∈ x.1.weights Tryz.prog 35, k ≤ reachBytes) :
 ∃ y : TxD, cs = y.v ∧ TxOk (inW W) W y ∧ TxH y := by
 obtain ⟨y0, y1, y2, n, hx, hlen, h0, h1, h2⟩ := Go.Deep.trod_struct3 Tryz.underlying35 h
 rw [tCells35] at hlen
 obtain ⟨a, b, c, rfl⟩ := len3 hlen
 simp only [tCells3, tCells33, tCells28, List.drop, List.take] at h0 h1 h2
 obtain ⟨t, ht, _⟩ := open_num h0
 obtain ⟨ai, ni, ci, xs, hi, hxa, hxl, hxs, _, _⟩ := open_insL h1 (fun k hk => hw k (by
  rw [hx]
  simp only [DataW.weights, Tryz.underlying35, List.map, DataW.weightsEach, List.append_nil]
  exact List.mem_append_right _ (List.mem_append_left _ hk)))
 obtain ⟨ap, m, e, ys, ho, hya, hyl, hys, hnil, _⟩ := open_outsL h2 (fun k hk => hw k (by
  rw [hx]
  simp only [DataW.weights, Tryz.underlying35, List.map, DataW.weightsEach, List.append_nil]
  exact List.mem_append_right _ (List.mem_append_right _ hk)))
 cases ht
 cases hi
 cases ho
 exact ⟨⟨t, ai, ni, ci, ap, m, e, xs, ys⟩, rfl, tx_places hxa hxl hya hyl, ⟨hxs, hys, hnil⟩⟩
theorem open_blk (h : DataW.trod enc Tryz.prog W 0 (fun _ => true) true fuel 60 cs = some x) (hw : ∀ k ∈ x.1.weights Tryz.prog 60, k ≤ reachBytes) :
 ∃ ab m d bl, cs = [.slice ab m d] ∧ BlkAt (inW W) W ab bl ∧ bl.length = m ∧ m ≤ d ∧ m ≤ 2513169434915 ∧ ∀ t ∈ bl, TxH t := by
 rcases Go.Deep.open_slice Tryz.underlying60 h with ⟨hcs, _⟩ | ⟨a, len, cap, m, n, D, Pl, hcs, _, hl, hm, hmm, hx, hel⟩
 ·exact ⟨none, 0, 0, [], hcs, ⟨Or.inl rfl, fun h => absurd rfl h, fun t ht => by simp at ht⟩, rfl, leR, by omega, fun t ht => by simp at ht⟩
 ·have hmm' : m = cap := by simpa using hmm
  have hr : len * 56 ≤ reachBytes := by
   have := hw ((((List.range len).map D).length + ((List.range (m - len)).map fun j => D (len + j)).length) * 56) (by
    rw [hx]
    simp only [DataW.weights, Tryz.underlying60, tBytes35]
    exact List.mem_cons_self)
   simp only [List.length_map, List.length_range] at this
   omega
  simp only [reachBytes] at hr
  rw [tCells35] at hel
  have each : ∀ i, i < len → ∃ y : TxD, (W.cells? 0 (a.add (i * 3)) 3 = some y.v) ∧ TxOk (inW W) W y ∧ TxH y := by
   intro i hi
   obtain ⟨cs', hc, ht⟩ := hel i (by omega)
   obtain ⟨y, rfl, hok, hsm⟩ := open_txc ht (fun k hk => hw k (by
    rw [hx]
    simp only [DataW.weights, Tryz.underlying60]
    exact List.mem_cons_of_mem _ (List.mem_append_left _ (weights_in (List.mem_map.2 ⟨i, List.mem_range.2 hi, rfl⟩) k hk))))
   exact ⟨y, hc, hok, hsm⟩
  obtain ⟨xs, hxl, hxs⟩ := choose_upto dT each
  have hrow : RcT TxD.v W (some a) xs := by
   by_cases h0 : len = 0
   ·exact Or.inl (List.length_eq_zero_iff.1 (by omega))
   ·have ha : a.spot = none := by
     have := (cells_at (hxs 0 (by omega)).1 (by omega)).1
     simpa [Addr.add] using this
    obtain ⟨b, off, spot⟩ := a
    simp only at ha
    subst ha
    refine Or.inr ⟨b, off, rfl, fun j hj => ?_⟩
    rw [rlN TxD.v 3 tx3] at hj
    have hq : j / 3 < xs.length := by omega
    have hj3 : j = j / 3 * 3 + j % 3 := by omega
    obtain ⟨hc, _⟩ := hxs (j / 3) (by omega)
    obtain ⟨_, hcc⟩ := cells_at hc (by omega)
    rw [add_plain] at hcc
    simp only at hcc
    have h9 := hcc (j % 3) (by omega)
    have e9 := rec_get TxD.v 3 tx3 dT xs (j / 3) (j % 3) hq (by omega)
    rw [← hj3] at e9
    rw [e9, show off + j = off + j / 3 * 3 + j % 3 by omega, h9]
    have hl9 : j % 3 < (xs.getD (j / 3) dT).v.length := by rw [tx3]; omega
    simp only [List.getD]
    simp only [List.getD] at hl9
    rw [List.getElem?_eq_getElem hl9, Option.getD_some]
  refine ⟨some a, len, cap, xs, hcs, ⟨hrow, fun he a' ha' => ?_, fun t ht => ?_⟩, hxl, by omega, by omega, fun t ht => ?_⟩
  ·rcases hrow with h0 | ⟨b, off, e, hr'⟩
   ·exact absurd h0 he
   ·rw [ha'] at e
    cases e
    refine hr'.lt (fun e0 => he ?_)
    have := rlN TxD.v 3 tx3 xs
    rw [e0] at this
    exact List.length_eq_zero_iff.1 (by simp at this; omega)
  ·obtain ⟨j, hj, e⟩ := mgD dT ht
   rw [e]
   exact (hxs j (by omega)).2.1
  ·obtain ⟨j, hj, e⟩ := mgD dT ht
   rw [e]
   exact (hxs j (by omega)).2.2
theorem struct6 {P : Program} {w : World} {base : Nat} {spare : Bool} {held : Nat → Bool} {t : TypeId} {f0 f1 f2 f3 f4 f5 : Field} {cs : List Value} (ht : P.underlying t = some (.struct #[f0, f1, f2, f3, f4, f5])) (h : DataW.trod enc P w base held spare fuel t cs = some x) :
 ∃ y0 y1 y2 y3 y4 y5 n, x = (.agg [y0.1, y1.1, y2.1, y3.1, y4.1, y5.1], y0.2 ++ (y1.2 ++ (y2.2 ++ (y3.2 ++ (y4.2 ++ y5.2))))) ∧ cs.length = P.cellsOf t ∧ DataW.trod enc P w base held spare n f0.type ((cs.drop f0.offset).take (P.cellsOf f0.type)) = some y0 ∧
  DataW.trod enc P w base held spare n f1.type ((cs.drop f1.offset).take (P.cellsOf f1.type)) = some y1 ∧ DataW.trod enc P w base held spare n f2.type ((cs.drop f2.offset).take (P.cellsOf f2.type)) = some y2 ∧
  DataW.trod enc P w base held spare n f3.type ((cs.drop f3.offset).take (P.cellsOf f3.type)) = some y3 ∧ DataW.trod enc P w base held spare n f4.type ((cs.drop f4.offset).take (P.cellsOf f4.type)) = some y4 ∧ DataW.trod enc P w base held spare n f5.type ((cs.drop f5.offset).take (P.cellsOf f5.type)) = some y5 := by
 obtain ⟨xs, n, _, rfl, hl, hlen, hf⟩ := DataW.trod_struct ht h
 match xs, hlen with
 | [y0, y1, y2, y3, y4, y5], _ => exact ⟨y0, y1, y2, y3, y4, y5, n, by simp, hl, by simpa using hf 0 f0 rfl, by simpa using hf 1 f1 rfl, by simpa using hf 2 f2 rfl, by simpa using hf 3 f3 rfl, by simpa using hf 4 f4 rfl, by simpa using hf 5 f5 rfl⟩
theorem open_op (h : DataW.trod enc Tryz.prog W 0 (fun _ => true) true fuel 82 cs = some x) (hw : ∀ k ∈ x.1.weights Tryz.prog 82, k ≤ reachBytes) :
 ∃ y : OpD, cs = y.cs ∧ OpOk (inW W) W y := by
 obtain ⟨y0, y1, y2, y3, y4, y5, n, hx, hlen, h0, h1, h2, h3, h4, h5⟩ := struct6 Tryz.underlying82 h
 rw [tCells82] at hlen
 obtain ⟨a, b, c, d, e, f, rfl⟩ := len6 hlen
 simp only [tCells3, tCells60, tCells28, List.drop, List.take] at h0 h1 h2 h3 h4 h5
 obtain ⟨k0, e0, _⟩ := open_num h0
 obtain ⟨k1, e1, _⟩ := open_num h1
 obtain ⟨k2, e2, _⟩ := open_num h2
 obtain ⟨k3, e3, _⟩ := open_num h3
 obtain ⟨ab, bm, bd, bl, e4, b1, b2, b3, b4, b5⟩ := open_blk h4 (fun k hk => hw k (by
  rw [hx]
  simp only [DataW.weights, Tryz.underlying82, List.map, DataW.weightsEach, List.append_nil]
  exact List.mem_append_right _ (List.mem_append_right _ (List.mem_append_right _ (List.mem_append_right _ (List.mem_append_left _ hk))))))
 obtain ⟨ap, m, dd, ys, e5, q1, q2, q3, q4, _⟩ := open_outsL h5 (fun k hk => hw k (by
  rw [hx]
  simp only [DataW.weights, Tryz.underlying82, List.map, DataW.weightsEach, List.append_nil]
  exact List.mem_append_right _ (List.mem_append_right _ (List.mem_append_right _ (List.mem_append_right _ (List.mem_append_right _ hk))))))
 cases e0
 cases e1
 cases e2
 cases e3
 cases e4
 cases e5
 refine ⟨⟨k0, k1, k2, k3, ab, bm, bd, bl, ap, m, dd, ys⟩, rfl, ⟨b1, b2, b3, b4, b5, q1, q2, fun e a ha => ?_, q3, q4⟩⟩
 rcases q1 with q1 | ⟨b, off, e6, hr⟩
 ·exact absurd q1 e
 ·rw [show ap = some a from ha] at e6
  cases e6
  exact clT (hr 0 (List.length_pos_iff.2 e)).1
theorem open_script (h : DataW.trod enc Tryz.prog W 0 (fun _ => true) true fuel 22 cs = some x) (hw : ∀ k ∈ x.1.weights Tryz.prog 22, k ≤ reachBytes) :
 ∃ ao n c sc, cs = [.slice ao n c] ∧ Scr W.heap.size W ao sc ∧ sc.length = n ∧ n ≤ 1759218604390 := by
 rcases Go.Deep.open_slice Tryz.underlying22 h with ⟨hcs, _⟩ | ⟨a, len, cap, m, n, D, Pl, hcs, _, hl, hm, hmm, hx, hel⟩
 ·exact ⟨none, 0, 0, [], hcs, ⟨Or.inl rfl, fun h => absurd rfl h, fun t ht => by simp at ht⟩, rfl, by omega⟩
 ·have hmm' : m = cap := by simpa using hmm
  have hr : len * 80 ≤ reachBytes := by
   have := hw ((((List.range len).map D).length + ((List.range (m - len)).map fun j => D (len + j)).length) * 80) (by
    rw [hx]
    simp only [DataW.weights, Tryz.underlying22, tBytes82]
    exact List.mem_cons_self)
   simp only [List.length_map, List.length_range] at this
   omega
  simp only [reachBytes] at hr
  rw [tCells82] at hel
  have each : ∀ i, i < len → ∃ y : OpD, (W.cells? 0 (a.add (i * 6)) 6 = some y.cs) ∧ OpOk (inW W) W y := by
   intro i hi
   obtain ⟨cs', hc, ht⟩ := hel i (by omega)
   obtain ⟨y, rfl, hok⟩ := open_op ht (fun k hk => hw k (by
    rw [hx]
    simp only [DataW.weights, Tryz.underlying22]
    exact List.mem_cons_of_mem _ (List.mem_append_left _ (weights_in (List.mem_map.2 ⟨i, List.mem_range.2 hi, rfl⟩) k hk))))
   exact ⟨y, hc, hok⟩
  obtain ⟨xs, hxl, hxs⟩ := choose_upto dO each
  have hrow : RcT OpD.cs W (some a) xs := by
   by_cases h0 : len = 0
   ·exact Or.inl (List.length_eq_zero_iff.1 (by omega))
   ·have ha : a.spot = none := by
     have := (cells_at (hxs 0 (by omega)).1 (by omega)).1
     simpa [Addr.add] using this
    obtain ⟨b, off, spot⟩ := a
    simp only at ha
    subst ha
    refine Or.inr ⟨b, off, rfl, fun j hj => ?_⟩
    rw [rlN OpD.cs 6 op6] at hj
    have hq : j / 6 < xs.length := by omega
    have hj3 : j = j / 6 * 6 + j % 6 := by omega
    obtain ⟨hc, _⟩ := hxs (j / 6) (by omega)
    obtain ⟨_, hcc⟩ := cells_at hc (by omega)
    rw [add_plain] at hcc
    simp only at hcc
    have h9 := hcc (j % 6) (by omega)
    have e9 := rec_get OpD.cs 6 op6 dO xs (j / 6) (j % 6) hq (by omega)
    rw [← hj3] at e9
    rw [e9, show off + j = off + j / 6 * 6 + j % 6 by omega, h9]
    have hl9 : j % 6 < (xs.getD (j / 6) dO).cs.length := by rw [op6]; omega
    simp only [List.getD]
    simp only [List.getD] at hl9
    rw [List.getElem?_eq_getElem hl9, Option.getD_some]
  refine ⟨some a, len, cap, xs, hcs, ⟨hrow, fun he a' ha' => ?_, fun t ht => ?_⟩, hxl, by omega⟩
  ·rcases hrow with h0 | ⟨b, off, e, hr'⟩
   ·exact absurd h0 he
   ·rw [ha'] at e
    cases e
    refine hr'.lt (fun e0 => he ?_)
    have := rlN OpD.cs 6 op6 xs
    rw [e0] at this
    exact List.length_eq_zero_iff.1 (by simp at this; omega)
  ·obtain ⟨j, hj, e⟩ := mgD dO ht
   rw [e]
   exact (hxs j (by omega)).2
end
end
end Go.Proofs.YtffgpepngcnjeabGreat
