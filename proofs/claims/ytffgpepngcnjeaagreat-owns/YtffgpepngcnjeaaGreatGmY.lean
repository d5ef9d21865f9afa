/-
  A script is played.
  A script where there is no purse; Connects.
-/
import Derived.Test.YtffgpepngcnjeaaGreatGmZ
namespace Go.Proofs.YtffgpepngcnjeaaGreat
open Go.RowKit

def OpD.cs (x : OpD) : List Value := [.int .i64 x.kd, .int .i64 x.on, .int .i64 x.a, .int .i64 x.b, .slice x.ab x.m x.d, .slice x.oa x.om x.od]
def dO : OpD := ⟨0, 0, 0, 0, none, 0, 0, [], none, 0, 0⟩
theorem op6 (x : OpD) : x.cs.length = 6 := rfl
structure OpCells (w : World) (b off : Nat) (x : OpD) : Prop where
  c0 : w.cell? ⟨b, off, none⟩ = some (.int .i64 x.kd)
  c1 : w.cell? ⟨b, off + 1, none⟩ = some (.int .i64 x.on)
  c2 : w.cell? ⟨b, off + 2, none⟩ = some (.int .i64 x.a)
  c3 : w.cell? ⟨b, off + 3, none⟩ = some (.int .i64 x.b)
  c4 : w.cell? ⟨b, off + 4, none⟩ = some (.slice x.ab x.m x.d)
  c5 : w.cell? ⟨b, off + 5, none⟩ = some (.slice x.oa x.om x.od)
theorem opCells {w : World} {b off : Nat} {xs : List OpD} (h : VRow w b off (xs.flatMap OpD.cs)) (j : Nat) (hj : j < xs.length) : OpCells w b (off + j * 6) (xs.getD j dO) :=
  ⟨rcell op6 dO h j hj 0 (by omega), rcell op6 dO h j hj 1 (by omega), rcell op6 dO h j hj 2 (by omega), rcell op6 dO h j hj 3 (by omega), rcell op6 dO h j hj 4 (by omega), rcell op6 dO h j hj 5 (by omega)⟩

/-- a script in memory, below block B -/
structure Scr (B : Nat) (w : World) (so : Option Addr) (ops : List OpD) : Prop where
  row : RecAt OpD.cs w so ops
  na : ops ≠ [] → ∀ a, so = some a → a.block < B
  ok : ∀ x ∈ ops, OpOk (fun k => k < B) w x
theorem Scr.fr {B : Nat} {w w' : World} {so : Option Addr} {ops : List OpD} (h : Scr B w so ops) (hf : Fr (fun k => B ≤ k) w w') : Scr B w' so ops := by
  refine ⟨?_, h.na, fun x hx => (h.ok x hx).fr hf (fun k hk e => by omega)⟩
  by_cases he : ops = []
  · exact Or.inl he
  · rcases h.row with h1 | ⟨b, off, rfl, hr⟩
    · exact Or.inl h1
    · have := h.na he _ rfl
      exact Or.inr ⟨b, off, rfl, hf.vrow hr (by simp only at this; omega)⟩

/-- what every step keeps, and answers -/
structure PlayOk (last ask asks : Int) (Inv : Nat → Nat → Nat → World → Prop) : Prop where
  grow : ∀ k G B w w', Inv k G B w → Below w.heap.size w w' → Inv k G B w'
  more : ∀ k G B w, Inv k G B w → Inv (k + 1) G B w
  size : ∀ k G B w, Inv k G B w → B ≤ w.heap.size
  step : ∀ k G B w (o : OpD), k ≤ 1759218604390 → Inv k G B w → OpOk (fun k => k < B) w o → (o.kd ≤ last ∨ (ask ≤ o.kd ∧ o.kd ≤ asks)) →
    Calls Tryz.prog 9 #[.pointer (some ⟨G, 0, none⟩), o.val] w fun e w' => e = .returned (.bool true) ∧ Inv (k + 1) G B w' ∧ Fr (fun k => B ≤ k) w w'

set_option maxRecDepth 100000 in
set_option maxHeartbeats 8000000 in
theorem plays_yes (s g last lo hi ask asks : Int) (Inv : Nat → Nat → Nat → World → Prop) (hi0 : PlayOk last ask asks Inv)
    (hbg : ∀ w, Calls Tryz.prog 8 #[.int .i64 s, .int .i64 g] w fun e w' => ∃ G, e = .returned (.tuple #[.pointer (some ⟨G, 0, none⟩), .bool true]) ∧ Inv 0 G w.heap.size w' ∧ Below w.heap.size w w')
    (so : Option Addr) (n c : Nat) (ops : List OpD) (w : World) (hs : Scr w.heap.size w so ops) (hn : ops.length = n) (hm : n ≤ 1759218604390) :
    Calls Tryz.prog 7 #[.int .i64 s, .int .i64 g, .slice so n c, .agg #[.int .i64 last, .int .i64 lo, .int .i64 hi, .int .i64 ask, .int .i64 asks, .bool false]] w fun e w' => e = .returned (.bool true) ∧ Below w.heap.size w w' := by
  have HI : Hid (PlayOk last ask asks Inv) := hi0
  have HBG : Hid _ := hbg
  have HN : Hid (ops.length = n) := hn
  have hb1 : Below w.heap.size w (w.alloc (.cells #[.int .i64 last, .int .i64 lo, .int .i64 hi, .int .i64 ask, .int .i64 asks, .bool false] 25)) := (Below.refl _ _).alloc (Nat.le_refl _) _
  have hv1 : VRow (w.alloc (.cells #[.int .i64 last, .int .i64 lo, .int .i64 hi, .int .i64 ask, .int .i64 asks, .bool false] 25)) w.heap.size 0 [.int .i64 last, .int .i64 lo, .int .i64 hi, .int .i64 ask, .int .i64 asks, .bool false] := vrow_new _ _ _
  have hz1 : (w.alloc (.cells #[.int .i64 last, .int .i64 lo, .int .i64 hi, .int .i64 ask, .int .i64 asks, .bool false] 25)).heap.size = w.heap.size + 1 := by simp
  have HS1 : Hid (Scr (w.heap.size + 1) (w.alloc (.cells #[.int .i64 last, .int .i64 lo, .int .i64 hi, .int .i64 ask, .int .i64 asks, .bool false] 25)) so ops) := by
    refine ⟨hs.row.grown hb1, fun h a ha => by have := hs.na h a ha; omega, fun x hx => ?_⟩
    have h1 := (hs.ok x hx).fr (Fr.of_below hb1 (fun _ => False)) (fun _ _ h => h)
    obtain ⟨⟨r, na, ok⟩, a2, a3, a4, a5⟩ := h1
    exact ⟨⟨r, fun h a ha => Nat.lt_succ_of_lt (na h a ha), fun t ht => ⟨(ok t ht).ins, (ok t ht).il, (ok t ht).outs, (ok t ht).ol, fun h a ha => Nat.lt_succ_of_lt ((ok t ht).na h a ha), fun h a ha => Nat.lt_succ_of_lt ((ok t ht).np h a ha), fun i hi h a ha => Nat.lt_succ_of_lt ((ok t ht).ns i hi h a ha)⟩⟩, a2, a3, a4, a5⟩
  have HV1 : Hid (VRow (w.alloc (.cells #[.int .i64 last, .int .i64 lo, .int .i64 hi, .int .i64 ask, .int .i64 asks, .bool false] 25)) w.heap.size 0 [.int .i64 last, .int .i64 lo, .int .i64 hi, .int .i64 ask, .int .i64 asks, .bool false]) := hv1
  clear hi0 hbg hn hs hv1
  go_enter Tryz.func7, Tryz.ntmps7
  go_wp2_with fail
  generalize w.alloc (.cells #[.int .i64 last, .int .i64 lo, .int .i64 hi, .int .i64 ask, .int .i64 asks, .bool false] 25) = w1 at *
  generalize hTe : w.heap.size = T at *
  have HTe : Hid (w.heap.size = T) := hTe
  clear hTe
  refine (HBG.out w1).mono ?_
  rintro e w2 ⟨G, rfl, hinv, hb2⟩
  rw [hz1] at hinv hb2
  have hs2 := HI.out.size _ _ _ _ hinv
  have HS2 : Hid (Scr (T + 1) w2 so ops) := HS1.out.fr (Fr.of_below (by rw [hz1]; exact hb2) _)
  have HV2 : Hid (VRow w2 T 0 [.int .i64 last, .int .i64 lo, .int .i64 hi, .int .i64 ask, .int .i64 asks, .bool false]) := HV1.out.below hb2 (by omega)
  have HB2 : Hid (Below T w w2) := hb1.trans (hb2.mono (by omega))
  have HINV : Hid (Inv 0 G (T + 1) w2) := hinv
  clear hinv hb1 hb2 HS1 HV1 hz1 HBG
  go_wp2
  go_loopw [11] (fun i wr => ∃ k : Nat, k ≤ n ∧ i = .int .i64 k ∧ Inv k G (T + 1) wr ∧ Fr (fun q => T + 1 ≤ q) w2 wr) (fun i _ => n - (intOf i).toNat)
  case atStart => exact ⟨0, Nat.zero_le _, rfl, HINV.out, Fr.refl _ _⟩
  case round =>
    obtain ⟨k, hk, rfl, hinv, hfr⟩ := hrel
    have hsk := HI.out.size _ _ _ _ hinv
    have hv := hfr.vrow HV2.out (by omega)
    by_cases hlt : k < n
    · have hsc := HS2.out.fr hfr
      rcases hsc.row with hnil | ⟨gs, os, rfl, hrow⟩
      · have h1 := HN.out; rw [hnil] at h1; simp at h1; omega
      have hok := hsc.ok _ (getD_mem ops dO k (by rw [HN.out]; exact hlt))
      obtain ⟨c0, c1, c2, c3, c4, c5⟩ := opCells hrow k (by rw [HN.out]; exact hlt)
      clear hrow hsc
      generalize ops.getD k dO = y at c0 c1 c2 c3 c4 c5 hok
      obtain ⟨kd, on, oa1, ob1, ab, m, d, bl, oa, om, od⟩ := y
      simp only at c0 c1 c2 c3 c4 c5
      have b0 := hv 0 (by simp)
      have b1 := hv 1 (by simp)
      have b2 := hv 2 (by simp)
      have b3 := hv 3 (by simp)
      have b4 := hv 4 (by simp)
      have b5 := hv 5 (by simp)
      simp only [Nat.zero_add, List.getD, List.getElem?_cons_zero, List.getElem?_cons_succ, Option.getD_some] at b0 b1 b2 b3 b4 b5
      have hTl : T < wr.heap.size := by omega
      have hbo : Below wr.heap.size wr (wr.alloc (.cells #[.int .i64 kd, .int .i64 on, .int .i64 oa1, .int .i64 ob1, .slice ab m d, .slice oa om od] 33)) := (Below.refl _ _).alloc (Nat.le_refl _) _
      have HINV3 : Hid (Inv k G (T + 1) (wr.alloc (.cells #[.int .i64 kd, .int .i64 on, .int .i64 oa1, .int .i64 ob1, .slice ab m d, .slice oa om od] 33))) := HI.out.grow _ _ _ _ _ hinv hbo
      have HOK3 : Hid (OpOk (fun q => q < T + 1) (wr.alloc (.cells #[.int .i64 kd, .int .i64 on, .int .i64 oa1, .int .i64 ob1, .slice ab m d, .slice oa om od] 33)) ⟨kd, on, oa1, ob1, ab, m, d, bl, oa, om, od⟩) := hok.fr (Fr.of_below hbo (fun _ => False)) (fun _ _ h => h)
      have HFR3 : Hid (Fr (fun q => T + 1 ≤ q) w2 (wr.alloc (.cells #[.int .i64 kd, .int .i64 on, .int .i64 oa1, .int .i64 ob1, .slice ab m d, .slice oa om od] 33))) := hfr.trans (Fr.of_below hbo _)
      have HKB5 : Hid (∀ w4 : World, Fr (fun q => T + 1 ≤ q) (wr.alloc (.cells #[.int .i64 kd, .int .i64 on, .int .i64 oa1, .int .i64 ob1, .slice ab m d, .slice oa om od] 33)) w4 → w4.cell? ⟨T, 5, none⟩ = some (.bool false)) := fun w4 h4 => h4.cell ((hbo.cell (p := ⟨T, 5, none⟩) (cell_lt b5)).trans b5) (by omega)
      clear hok hbo hinv hfr hv
      have e1 : (0 : Int) ≤ (k : Int) := by omega
      have e2 : (k : Int) < (n : Int) := by omega
      have HK : Hid (∀ w4 : World, Inv (k + 1) G (T + 1) w4 ∧ Fr (fun q => T + 1 ≤ q) (wr.alloc (.cells #[.int .i64 kd, .int .i64 on, .int .i64 oa1, .int .i64 ob1, .slice ab m d, .slice oa om od] 33)) w4 → Inv (k + 1) G (T + 1) w4 ∧ Fr (fun q => T + 1 ≤ q) w2 w4) := fun w4 h4 => ⟨h4.1, HFR3.out.trans h4.2⟩
      cases h1 : decide (ask ≤ kd)
      · cases h3 : decide (last < kd)
        · have hc : kd ≤ last ∨ (ask ≤ kd ∧ kd ≤ asks) := Or.inl (by have := decide_eq_false_iff_not.1 h3; omega)
          cases h4 : decide (lo ≤ kd)
          · go_wp2_with fail
            refine (HI.out.step k G (T + 1) _ ⟨kd, on, oa1, ob1, ab, m, d, bl, oa, om, od⟩ (by omega) HINV3.out HOK3.out hc).mono ?_
            rintro e w4 ⟨rfl, hinv4, hfr4⟩
            have q5 := HKB5.out w4 hfr4
            have HK4 : Hid _ := HK.out w4 ⟨hinv4, hfr4⟩
            clear hinv4 hfr4 b0 b1 b2 b3 b4 b5 c0 c1 c2 c3 c4 c5
            go_wp2
            go_roundw
            case rel => exact ⟨k + 1, by omega, by go_num, HK4.out.1, HK4.out.2⟩
            case measure => simp [intOf]; omega
          · cases h5 : decide (kd ≤ hi)
            · go_wp2_with fail
              refine (HI.out.step k G (T + 1) _ ⟨kd, on, oa1, ob1, ab, m, d, bl, oa, om, od⟩ (by omega) HINV3.out HOK3.out hc).mono ?_
              rintro e w4 ⟨rfl, hinv4, hfr4⟩
              have q5 := HKB5.out w4 hfr4
              have HK4 : Hid _ := HK.out w4 ⟨hinv4, hfr4⟩
              clear hinv4 hfr4 b0 b1 b2 b3 b4 b5 c0 c1 c2 c3 c4 c5
              go_wp2
              go_roundw
              case rel => exact ⟨k + 1, by omega, by go_num, HK4.out.1, HK4.out.2⟩
              case measure => simp [intOf]; omega
            · go_wp2_with fail
              refine (HI.out.step k G (T + 1) _ ⟨kd, on, oa1, ob1, ab, m, d, bl, oa, om, od⟩ (by omega) HINV3.out HOK3.out hc).mono ?_
              rintro e w4 ⟨rfl, hinv4, hfr4⟩
              have q5 := HKB5.out w4 hfr4
              have HK4 : Hid _ := HK.out w4 ⟨hinv4, hfr4⟩
              clear hinv4 hfr4 b0 b1 b2 b3 b4 b5 c0 c1 c2 c3 c4 c5
              go_wp2
              go_roundw
              case rel => exact ⟨k + 1, by omega, by go_num, HK4.out.1, HK4.out.2⟩
              case measure => simp [intOf]; omega
        · go_wp2
          go_roundw
          case rel => exact ⟨k + 1, by omega, by go_num, HI.out.more _ _ _ _ HINV3.out, HFR3.out⟩
          case measure => simp [intOf]; omega
      · cases h2 : decide (kd ≤ asks)
        · cases h3 : decide (last < kd)
          · have hc : kd ≤ last ∨ (ask ≤ kd ∧ kd ≤ asks) := Or.inl (by have := decide_eq_false_iff_not.1 h3; omega)
            cases h4 : decide (lo ≤ kd)
            · go_wp2_with fail
              refine (HI.out.step k G (T + 1) _ ⟨kd, on, oa1, ob1, ab, m, d, bl, oa, om, od⟩ (by omega) HINV3.out HOK3.out hc).mono ?_
              rintro e w4 ⟨rfl, hinv4, hfr4⟩
              have q5 := HKB5.out w4 hfr4
              have HK4 : Hid _ := HK.out w4 ⟨hinv4, hfr4⟩
              clear hinv4 hfr4 b0 b1 b2 b3 b4 b5 c0 c1 c2 c3 c4 c5
              go_wp2
              go_roundw
              case rel => exact ⟨k + 1, by omega, by go_num, HK4.out.1, HK4.out.2⟩
              case measure => simp [intOf]; omega
            · cases h5 : decide (kd ≤ hi)
              · go_wp2_with fail
                refine (HI.out.step k G (T + 1) _ ⟨kd, on, oa1, ob1, ab, m, d, bl, oa, om, od⟩ (by omega) HINV3.out HOK3.out hc).mono ?_
                rintro e w4 ⟨rfl, hinv4, hfr4⟩
                have q5 := HKB5.out w4 hfr4
                have HK4 : Hid _ := HK.out w4 ⟨hinv4, hfr4⟩
                clear hinv4 hfr4 b0 b1 b2 b3 b4 b5 c0 c1 c2 c3 c4 c5
                go_wp2
                go_roundw
                case rel => exact ⟨k + 1, by omega, by go_num, HK4.out.1, HK4.out.2⟩
                case measure => simp [intOf]; omega
              · go_wp2_with fail
                refine (HI.out.step k G (T + 1) _ ⟨kd, on, oa1, ob1, ab, m, d, bl, oa, om, od⟩ (by omega) HINV3.out HOK3.out hc).mono ?_
                rintro e w4 ⟨rfl, hinv4, hfr4⟩
                have q5 := HKB5.out w4 hfr4
                have HK4 : Hid _ := HK.out w4 ⟨hinv4, hfr4⟩
                clear hinv4 hfr4 b0 b1 b2 b3 b4 b5 c0 c1 c2 c3 c4 c5
                go_wp2
                go_roundw
                case rel => exact ⟨k + 1, by omega, by go_num, HK4.out.1, HK4.out.2⟩
                case measure => simp [intOf]; omega
          · go_wp2
            go_roundw
            case rel => exact ⟨k + 1, by omega, by go_num, HI.out.more _ _ _ _ HINV3.out, HFR3.out⟩
            case measure => simp [intOf]; omega
        · have hc : kd ≤ last ∨ (ask ≤ kd ∧ kd ≤ asks) := Or.inr ⟨decide_eq_true_iff.1 h1, decide_eq_true_iff.1 h2⟩
          cases h3 : decide (last < kd)
          · go_wp2_with fail
            refine (HI.out.step k G (T + 1) _ ⟨kd, on, oa1, ob1, ab, m, d, bl, oa, om, od⟩ (by omega) HINV3.out HOK3.out hc).mono ?_
            rintro e w4 ⟨rfl, hinv4, hfr4⟩
            have q5 := HKB5.out w4 hfr4
            have HK4 : Hid _ := HK.out w4 ⟨hinv4, hfr4⟩
            clear hinv4 hfr4 b0 b1 b2 b3 b4 b5 c0 c1 c2 c3 c4 c5
            go_wp2
            go_roundw
            case rel => exact ⟨k + 1, by omega, by go_num, HK4.out.1, HK4.out.2⟩
            case measure => simp [intOf]; omega
          · go_wp2_with fail
            refine (HI.out.step k G (T + 1) _ ⟨kd, on, oa1, ob1, ab, m, d, bl, oa, om, od⟩ (by omega) HINV3.out HOK3.out hc).mono ?_
            rintro e w4 ⟨rfl, hinv4, hfr4⟩
            have q5 := HKB5.out w4 hfr4
            have HK4 : Hid _ := HK.out w4 ⟨hinv4, hfr4⟩
            clear hinv4 hfr4 b0 b1 b2 b3 b4 b5 c0 c1 c2 c3 c4 c5
            go_wp2
            go_roundw
            case rel => exact ⟨k + 1, by omega, by go_num, HK4.out.1, HK4.out.2⟩
            case measure => simp [intOf]; omega
    · have HFIN : Hid (Below w.heap.size w wr) := by
        show Below w.heap.size w wr
        rw [HTe.out]
        exact HB2.out.trans (hfr.toBelow T (by omega) (fun q hq => by omega))
      go_wp2
      go_ret
      exact ⟨rfl, HFIN.out⟩

end Go.Proofs.YtffgpepngcnjeaaGreat
namespace Go.Proofs.YtffgpepngcnjeaaGreat
open Go.RowKit

set_option maxRecDepth 100000 in
set_option maxHeartbeats 1000000 in
theorem plays_no (s g last lo hi ask asks : Int) (hf : fitZ s g = false) (v : Value) (w : World) :
    Calls Tryz.prog 7 #[.int .i64 s, .int .i64 g, v, .agg #[.int .i64 last, .int .i64 lo, .int .i64 hi, .int .i64 ask, .int .i64 asks, .bool false]] w fun e w' => e = .returned (.bool true) ∧ Below w.heap.size w w' := by
  have hb1 : Below w.heap.size w (w.alloc (.cells #[.int .i64 last, .int .i64 lo, .int .i64 hi, .int .i64 ask, .int .i64 asks, .bool false] 25)) := (Below.refl _ _).alloc (Nat.le_refl _) _
  go_enter Tryz.func7, Tryz.ntmps7
  go_wp2_with fail
  refine (begin_no s g _ hf).mono ?_
  rintro e w2 ⟨rfl, hb2⟩
  go_wp2
  go_ret
  exact ⟨rfl, below_blk hb1 hb2⟩

/-- the game of Connects: what each step keeps -/
def CInv (s : Int) (g : Nat) (G B : Nat) (w : World) : Prop :=
  ∃ (X : Nat → Prop) (DE : List (Nat × Value)) (D : Nat) (V v : Value) (ao : Option Addr) (c : Nat) (bls : List (List TxD)) (xs : List Cel), GI (fun k => k < B) X exE DE G B D V s g v ao c bls xs w

theorem GStep.toB {X : Nat → Prop} {E DE : List (Nat × Value)} {G B D : Nat} {V : Value} {s : Int} {g : Nat} {v : Value} {ao : Option Addr} {c : Nat} {bls : List (List TxD)} {xs : List Cel} {w w' : World} (h : GI (fun k => k < B) X E DE G B D V s g v ao c bls xs w) (hs : GStep (fun k => k < B) X E DE G B D V s g v ao w w') : Fr (fun k => B ≤ k) w w' := by
  obtain ⟨_, _, _, _, _, _, _, _, h2, _⟩ := hs
  refine h2.weak (fun k hk e => ?_)
  rcases e with e | e
  · exact (h.pu.blk k e).1
  · subst e
    exact Classical.byContradiction fun hn => (h.xl k h.xd).2 (by omega)

theorem conn_play (s : Int) (g : Nat) : PlayOk 2 6 6 (fun _ => CInv s g) := by
  refine ⟨fun _ G B w w' ⟨X, DE, D, V, v, ao, c, bls, xs, h⟩ hb => ⟨X, DE, D, V, v, ao, c, bls, xs, h.grown hb⟩, fun _ _ _ _ h => h, fun _ G B w ⟨X, DE, D, V, v, ao, c, bls, xs, h⟩ => Nat.le_of_lt (h.ch B (Or.inl rfl)), ?_⟩
  rintro _ G B w o _ ⟨X, DE, D, V, v, ao, c, bls, xs, h⟩ ho hk
  have fin : ∀ (e : Ending) (w' : World), e = .returned (.bool true) ∧ GStep (fun k => k < B) X exE DE G B D V s g v ao w w' → e = .returned (.bool true) ∧ CInv s g G B w' ∧ Fr (fun k => B ≤ k) w w' := by
    rintro e w' ⟨rfl, hst⟩
    refine ⟨rfl, ?_, hst.toB h⟩
    obtain ⟨X', v', ao', c', bls', xs', _, _, _, h3⟩ := hst
    exact ⟨X', DE, D, V, v', ao', c', bls', xs', h3⟩
  by_cases h1 : o.kd < 1
  · exact (stepN_any o w h1 h).mono fin
  · by_cases h2 : o.kd = 1
    · exact (stepC_any o w h2 h ho).mono fin
    · by_cases h3 : o.kd = 2
      · exact (stepD_any o w h3 h).mono fin
      · exact (stepH_any o w (by omega) h).mono fin

theorem conn_begin (s : Int) (g : Nat) (hf : fitZ s (g : Int) = true) (w : World) : Calls Tryz.prog 8 #[.int .i64 s, .int .i64 (g : Int)] w fun e w' => ∃ G, e = .returned (.tuple #[.pointer (some ⟨G, 0, none⟩), .bool true]) ∧ CInv s g G w.heap.size w' ∧ Below w.heap.size w w' := by
  refine (begin_yes s g w hf).mono ?_
  rintro e w' ⟨G, D, Dr, vr, vc, rfl, h, hb⟩
  exact ⟨G, rfl, ⟨_, _, _, _, _, _, _, _, _, h.gi⟩, hb⟩

set_option maxRecDepth 100000 in
set_option maxHeartbeats 1000000 in
theorem connects_law (s g : Int) (so : Option Addr) (n c : Nat) (ops : List OpD) (w : World) (hs : Scr w.heap.size w so ops) (hn : ops.length = n) (hm : n ≤ 1759218604390) :
    Calls Tryz.prog 3 #[.int .i64 s, .int .i64 g, .slice so n c] w fun e w' => e = .returned (.bool true) ∧ Below w.heap.size w w' := by
  cases hf : fitZ s g
  · go_enter Tryz.func3, Tryz.ntmps3
    go_wp2_with fail
    refine (plays_no s g 2 1 2 6 6 hf (.slice so n c) _).mono ?_
    rintro e w1 ⟨rfl, hb⟩
    go_wp2
    go_ret
    exact ⟨rfl, hb⟩
  · obtain ⟨h1, h2, h3⟩ := fitZ_yes hf
    obtain ⟨k, rfl⟩ : ∃ k : Nat, g = (k : Int) := ⟨g.toNat, by omega⟩
    have HS : Hid (Scr w.heap.size w so ops) := hs
    have HN : Hid (ops.length = n) := hn
    clear hs hn
    go_enter Tryz.func3, Tryz.ntmps3
    go_wp2_with fail
    refine (plays_yes s (k : Int) 2 1 2 6 6 (fun _ => CInv s k) (conn_play s k) (conn_begin s k hf) so n c ops _ HS.out HN.out (by omega)).mono ?_
    rintro e w1 ⟨rfl, hb⟩
    go_wp2
    go_ret
    exact ⟨rfl, hb⟩

end Go.Proofs.YtffgpepngcnjeaaGreat
