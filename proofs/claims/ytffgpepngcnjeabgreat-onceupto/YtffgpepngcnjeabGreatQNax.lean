/-
  Once: the walk.
  A transaction that came in as data: what lies in memory.
  A script that came in as data: what lies in memory.
-/
import Derived.Test.YtffgpepngcnjeabGreatQNat
import Derived.Test.YtffgpepngcnjeabGreatQNaw
import Derived.Test.YtffgpepngcnjeabGreatQNab
import Derived.ProofKit
import Derived.OpenShut
import Derived.Deep.Slices
import Derived.Deep.Strs
import Derived.Lib.SmallJoins
import Derived.SizedLaws
namespace Go.Proofs.YtffgpepngcnjeabGreatQ
open Go.RowKit
structure StCells (w : World) (b off : Nat) (x : StD) : Prop where
  c0 : w.cell? ⟨b, off, none⟩ = some (.int .i64 x.k)
  c1 : w.cell? ⟨b, off + 1, none⟩ = some (.int .i64 x.a)
  c2 : w.cell? ⟨b, off + 2, none⟩ = some (.int .i64 x.b)
  c3 : w.cell? ⟨b, off + 3, none⟩ = some (.slice x.bo x.bn x.bc)
  c4 : w.cell? ⟨b, off + 4, none⟩ = some (.slice x.oo x.on x.oc)
theorem stCells {w : World} {b off : Nat} {xs : List StD} (h : VRow w b off (xs.flatMap StD.v)) (j : Nat) (hj : j < xs.length) : StCells w b (off + j * 5) (xs.getD j dSt) :=
  ⟨rcell st5 dSt h j hj 0 (by omega), rcell st5 dSt h j hj 1 (by omega), rcell st5 dSt h j hj 2 (by omega), rcell st5 dSt h j hj 3 (by omega), rcell st5 dSt h j hj 4 (by omega)⟩
theorem BkQ.grown {base : Nat} {w w' : World} {B P : Nat} {s : Int} {g : Nat} {h : Int} {xs : List Cel} {ks : List (Int × Int)} {ds : List DeedD} (u : BkQ base w B P s g h xs ks ds) (hb : Below w.heap.size w w') : BkQ base w' B P s g h xs ks ds := by
  obtain ⟨NP, ND, v, vl, vs, nx, ps, vd, h1, h2, h3⟩ := u
  exact ⟨NP, ND, v, vl, vs, nx, ps, vd, h1.grown hb, h2, h3⟩
/-- the book after k steps -/
def ApQ (base : Nat) (B P : Nat) (s : Int) (g : Nat) (k : Nat) (w : World) : Prop := ∃ (h : Nat) (xs : List Cel) (ks : List (Int × Int)) (ds : List DeedD), Chn h xs ∧ BkQ base w B P s g (h : Nat) xs ks ds ∧ ds.length ≤ k ∧ ks.length ≤ 10 * k
theorem ApQ.grown {base B P : Nat} {s : Int} {g k : Nat} {w w' : World} (u : ApQ base B P s g k w) (hb : Below w.heap.size w w') : ApQ base B P s g k w' := by
  obtain ⟨h, xs, ks, ds, h1, h2, h3, h4⟩ := u
  exact ⟨h, xs, ks, ds, h1, h2.grown hb, h3, h4⟩
theorem ApQ.more {base B P : Nat} {s : Int} {g k k' : Nat} {w : World} (u : ApQ base B P s g k w) (hk : k ≤ k') : ApQ base B P s g k' w := by
  obtain ⟨h, xs, ks, ds, h1, h2, h3, h4⟩ := u
  exact ⟨h, xs, ks, ds, h1, h2, by omega, by omega⟩
theorem qFree {base B P : Nat} {s : Int} {g k : Nat} (w : World) (u : ApQ base B P s g k w) (hs : Mk.isM s = true) (hg : 1 ≤ g) (hg2 : g ≤ 20) (hk : k ≤ 1048576) :
    Calls Tryz.prog 22 #[.pointer (some ⟨B, 0, none⟩)] w fun e w' => e = .returned (.bool true) ∧ Below w.heap.size w w' := by
  obtain ⟨h, xs, ks, ds, hc, ⟨NP, ND, v, vl, vs, nx, ps, vd, h1, h2, h3⟩, hd, hkl⟩ := u
  obtain ⟨hV, hx1, hh1, hnm⟩ := hc.facts
  exact bFree_any w h1 h2 hs hg hg2 (by omega) hV (by omega) (by omega)
theorem qPays {base B P : Nat} {s : Int} {g k : Nat} (w : World) (u : ApQ base B P s g k w) (hs : Mk.isM s = true) (hg : 1 ≤ g) (hg2 : g ≤ 20) (hk : k ≤ 1048576) (x : StD) (hx : StOk base w x) :
    Calls Tryz.prog 23 #[.pointer (some ⟨B, 0, none⟩), .agg #[.int .i64 x.k, .int .i64 x.a, .int .i64 x.b, .slice x.bo x.bn x.bc, .slice x.oo x.on x.oc]] w fun e w' => e = .returned (.bool true) ∧ Fr (fun q => base ≤ q) w w' ∧ ApQ base B P s g (k + 1) w' := by
  obtain ⟨h, xs, ks, ds, hc, ⟨NP, ND, v, vl, vs, nx, ps, vd, h1, h2, h3⟩, hd, hkl⟩ := u
  obtain ⟨hV, hx1, hh1, hnm⟩ := hc.facts
  refine (bPays_any w h1 h2 h3 hs hg hg2 (by omega) hV hnm hc.mks (by omega) (by omega) x.k x.a x.b x.bo x.bn x.bc x.oo x.on x.oc x.ys hx.ou hx.ol hx.o2 hx.o0 hx.np).mono ?_
  rintro e w' ⟨rfl, hf, ds', hq, hl⟩
  exact ⟨rfl, hf, h, xs, ks, ds', hc, hq, by omega, by omega⟩
theorem qGives {base B P : Nat} {s : Int} {g k : Nat} (w : World) (u : ApQ base B P s g k w) (hk : k ≤ 1048576) (n : Int) :
    Calls Tryz.prog 24 #[.pointer (some ⟨B, 0, none⟩), .int .i64 n] w fun e w' => e = .returned (.bool true) ∧ Fr (fun q => base ≤ q) w w' ∧ ApQ base B P s g (k + 1) w' := by
  obtain ⟨h, xs, ks, ds, hc, ⟨NP, ND, v, vl, vs, nx, ps, vd, h1, h2, h3⟩, hd, hkl⟩ := u
  refine (bGives_any w h1 h2 h3 (by omega) n).mono ?_
  rintro e w' ⟨rfl, hf, ds', hq, hl⟩
  exact ⟨rfl, hf, h, xs, ks, ds', hc, hq, by omega, by omega⟩
theorem qSigns {base B P : Nat} {s : Int} {g k : Nat} (w : World) (u : ApQ base B P s g k w) (hs : Mk.isM s = true) (hg : 1 ≤ g) (hg2 : g ≤ 20) (hk : k ≤ 1048576) (n : Int) :
    Calls Tryz.prog 25 #[.pointer (some ⟨B, 0, none⟩), .int .i64 n] w fun e w' => e = .returned (.bool true) ∧ Fr (fun q => base ≤ q) w w' ∧ ApQ base B P s g (k + 1) w' := by
  obtain ⟨h, xs, ks, ds, hc, ⟨NP, ND, v, vl, vs, nx, ps, vd, h1, h2, h3⟩, hd, hkl⟩ := u
  refine (bSigns_any w h1 h2 h3 hc hs hg hg2 (by omega) (by omega) n).mono ?_
  rintro e w' ⟨rfl, hf, ks', ds', hq, hl, hl2⟩
  exact ⟨rfl, hf, h, xs, ks', ds', hc, hq, by omega, by omega⟩
theorem qMoves {base B P : Nat} {s : Int} {g k : Nat} (w : World) (u : ApQ base B P s g k w) (x : StD) (hx : StOk base w x) :
    Calls Tryz.prog 26 #[.pointer (some ⟨B, 0, none⟩), .agg #[.int .i64 x.k, .int .i64 x.a, .int .i64 x.b, .slice x.bo x.bn x.bc, .slice x.oo x.on x.oc]] w fun e w' => e = .returned (.tuple #[]) ∧ Fr (fun q => base ≤ q) w w' ∧ ApQ base B P s g (k + 1) w' := by
  obtain ⟨h, xs, ks, ds, hc, ⟨NP, ND, v, vl, vs, nx, ps, vd, h1, h2, h3⟩, hd, hkl⟩ := u
  refine (bMoves_any w h1 h2 h3 hc x.k x.a x.b x.bo x.bn x.bc x.bl (fun q => q < base) _ hx.bk hx.bn hx.sm hx.b2 (fun _ h => h) x.oo x.on x.oc rfl).mono ?_
  rintro e w' ⟨rfl, hf, h', xs', hc', hq⟩
  exact ⟨rfl, hf, h', xs', ks, ds, hc', hq, by omega, by omega⟩
set_option maxRecDepth 100000 in
set_option maxHeartbeats 4000000 in
theorem once_law (a b : Int) (ao : Option Addr) (n c : Nat) (sc : List StD) (w : World) (hsc : ScriptAt w.heap.size w ao sc) (hn : sc.length = n) (hmax : n ≤ 1048576) (a1 : -9223372036854775808 ≤ a) (a2 : a ≤ 9223372036854775807) (b1 : -9223372036854775808 ≤ b) (b2 : b ≤ 9223372036854775807) :
    Calls Tryz.prog 5 #[.int .i64 a, .int .i64 b, .slice ao n c] w fun e w' => e = .returned (.bool true) ∧ Below w.heap.size w w' := by
  obtain ⟨g, hg⟩ : ∃ g : Nat, (g : Int) = 1 + Mk.pk b 20 := ⟨(1 + Mk.pk b 20).toNat, by have := Mk.pk_bd b 20 (by decide); omega⟩
  have hpb := Mk.pk_bd b 20 (by decide)
  have hg1 : 1 ≤ g := by omega
  have hg2 : g ≤ 20 := by omega
  have HS : Hid (Mk.isM (Mk.pk a 99991) = true) := (Mk.isM_iff _).2 (Mk.pk_bd a 99991 (by decide))
  have HSC : Hid (ScriptAt w.heap.size w ao sc) := hsc
  have HN : Hid (sc.length = n) := hn
  clear hsc hn hpb
  go_enter Tryz.func5, Tryz.ntmps5
  go_wp2_with fail
  refine (booked_any a b g _ a1 a2 b1 b2 hg).mono ?_
  rintro e w1 ⟨rfl, hq, hb1⟩
  have HQ1 : Hid (ApQ w.heap.size (w.heap.size + 1) w.heap.size (Mk.pk a 99991) g 0 w1) := ⟨0, [], [], [], Chn.zero, hq, Nat.le_refl _, Nat.le_refl _⟩
  have HF1 : Hid (Fr (fun q => w.heap.size ≤ q) w w1) := Fr.of_below hb1 _
  clear hq hb1 hg
  generalize Mk.pk a 99991 = s at *
  generalize hbase : w.heap.size = base at *
  have HBE : Hid (w.heap.size = base) := hbase
  clear hbase
  obtain ⟨B, hB⟩ : ∃ B, base + 1 = B := ⟨_, rfl⟩
  rw [hB] at HQ1 ⊢
  clear hB
  go_wp2_with fail
  refine (qFree _ HQ1.out HS.out hg1 hg2 (by omega)).mono ?_
  rintro e w2 ⟨rfl, hb2⟩
  have HQ2 : Hid (ApQ base B base s g 0 w2) := HQ1.out.grown hb2
  have HF2 : Hid (Fr (fun q => base ≤ q) w w2) := HF1.out.trans (Fr.of_below hb2 _)
  clear hb2 HQ1 HF1
  go_wp2
  go_loopw [8, 9] (fun o i wr => ∃ k : Nat, k ≤ n ∧ i = .int .i64 k ∧ o = .bool true ∧ Hid (ApQ base B base s g k wr) ∧ Hid (Fr (fun q => base ≤ q) w wr)) (fun _ i _ => n - (intOf i).toNat)
  case atStart => exact ⟨0, Nat.zero_le _, rfl, rfl, HQ2.out, HF2.out⟩
  case round =>
    obtain ⟨k, hk, rfl, rfl, hq, hf⟩ := hrel
    by_cases hlt : k < n
    · have hkl : k < sc.length := by rw [HN.out]; exact hlt
      have hsc := HSC.out.fr hf.out
      rcases hsc.row with hnil | ⟨gs, off, rfl, hrow⟩
      · rw [hnil] at hkl; simp at hkl
      obtain ⟨c0, c1, c2, c3, c4⟩ := stCells hrow k hkl
      have HOK : Hid (StOk base wr (sc.getD k dSt)) := hsc.ok _ (getD_mem sc dSt k hkl)
      clear hrow hsc
      generalize sc.getD k dSt = y at *
      obtain ⟨kd, ya, yb, bo, bn, bc, oo, on, oc, bl, ys⟩ := y
      simp only at c0 c1 c2 c3 c4
      have hkI : (k : Int) < (n : Int) := by omega
      have hk0 : (0 : Int) ≤ (k : Int) := by omega
      have bA : Below wr.heap.size wr (wr.alloc (.cells #[.int .i64 kd, .int .i64 ya, .int .i64 yb, .slice bo bn bc, .slice oo on oc] 62)) := (Below.refl _ _).alloc (Nat.le_refl _) _
      have HQ3 : Hid (ApQ base B base s g k (wr.alloc (.cells #[.int .i64 kd, .int .i64 ya, .int .i64 yb, .slice bo bn bc, .slice oo on oc] 62))) := hq.out.grown bA
      have HF3 : Hid (Fr (fun q => base ≤ q) w (wr.alloc (.cells #[.int .i64 kd, .int .i64 ya, .int .i64 yb, .slice bo bn bc, .slice oo on oc] 62))) := hf.out.trans (Fr.of_below bA _)
      have HOK3 : Hid (StOk base (wr.alloc (.cells #[.int .i64 kd, .int .i64 ya, .int .i64 yb, .slice bo bn bc, .slice oo on oc] 62)) ⟨kd, ya, yb, bo, bn, bc, oo, on, oc, bl, ys⟩) := HOK.out.fr (Fr.of_below bA _)
      have x0 : (wr.alloc (.cells #[.int .i64 kd, .int .i64 ya, .int .i64 yb, .slice bo bn bc, .slice oo on oc] 62)).cell? ⟨wr.heap.size, 0, none⟩ = some (.int .i64 kd) := by go_simp
      have x1 : (wr.alloc (.cells #[.int .i64 kd, .int .i64 ya, .int .i64 yb, .slice bo bn bc, .slice oo on oc] 62)).cell? ⟨wr.heap.size, 1, none⟩ = some (.int .i64 ya) := by go_simp
      have x2 : (wr.alloc (.cells #[.int .i64 kd, .int .i64 ya, .int .i64 yb, .slice bo bn bc, .slice oo on oc] 62)).cell? ⟨wr.heap.size, 2, none⟩ = some (.int .i64 yb) := by go_simp
      have x3 : (wr.alloc (.cells #[.int .i64 kd, .int .i64 ya, .int .i64 yb, .slice bo bn bc, .slice oo on oc] 62)).cell? ⟨wr.heap.size, 3, none⟩ = some (.slice bo bn bc) := by go_simp
      have x4 : (wr.alloc (.cells #[.int .i64 kd, .int .i64 ya, .int .i64 yb, .slice bo bn bc, .slice oo on oc] 62)).cell? ⟨wr.heap.size, 4, none⟩ = some (.slice oo on oc) := by go_simp
      go_upto_region 9 with fail
      clear bA HOK c0 c1 c2 c3 c4 hq hf
      generalize wr.alloc (.cells #[.int .i64 kd, .int .i64 ya, .int .i64 yb, .slice bo bn bc, .slice oo on oc] 62) = w3 at *
      generalize wr.heap.size = X at *
      by_cases h3 : kd = 3
      · subst h3
        go_wp2_with fail
        refine (qPays _ HQ3.out HS.out hg1 hg2 (by omega) _ HOK3.out).mono ?_
        rintro e w4 ⟨rfl, hf4, hq4⟩
        have HQ4 : Hid (ApQ base B base s g (k + 1) w4 ∧ Fr (fun q => base ≤ q) w w4) := ⟨hq4, HF3.out.trans hf4⟩
        clear hf4 hq4 x0 x1 x2 x3 x4
        go_wp2
        go_roundw
        case rel => exact ⟨k + 1, by omega, by go_num, rfl, HQ4.out.1, HQ4.out.2⟩
        case measure => simp [intOf]; omega
      · have e3 : (kd == 3) = false := by simpa using h3
        by_cases h4 : kd = 4
        · subst h4
          go_wp2_with fail
          refine (qGives _ HQ3.out (by omega) ya).mono ?_
          rintro e w4 ⟨rfl, hf4, hq4⟩
          have HQ4 : Hid (ApQ base B base s g (k + 1) w4 ∧ Fr (fun q => base ≤ q) w w4) := ⟨hq4, HF3.out.trans hf4⟩
          clear hf4 hq4 x0 x1 x2 x3 x4
          go_wp2
          go_roundw
          case rel => exact ⟨k + 1, by omega, by go_num, rfl, HQ4.out.1, HQ4.out.2⟩
          case measure => simp [intOf]; omega
        · have e4 : (kd == 4) = false := by simpa using h4
          by_cases h5 : kd = 5
          · subst h5
            go_wp2_with fail
            refine (qSigns _ HQ3.out HS.out hg1 hg2 (by omega) ya).mono ?_
            rintro e w4 ⟨rfl, hf4, hq4⟩
            have HQ4 : Hid (ApQ base B base s g (k + 1) w4 ∧ Fr (fun q => base ≤ q) w w4) := ⟨hq4, HF3.out.trans hf4⟩
            clear hf4 hq4 x0 x1 x2 x3 x4
            go_wp2
            go_roundw
            case rel => exact ⟨k + 1, by omega, by go_num, rfl, HQ4.out.1, HQ4.out.2⟩
            case measure => simp [intOf]; omega
          have e5 : (kd == 5) = false := by simpa using h5
          by_cases h9 : kd = 9
          · subst h9
            go_wp2_with fail
            refine (qFree _ HQ3.out HS.out hg1 hg2 (by omega)).mono ?_
            rintro e w4 ⟨rfl, hb4⟩
            have HQ4 : Hid (ApQ base B base s g (k + 1) w4 ∧ Fr (fun q => base ≤ q) w w4) := ⟨(HQ3.out.grown hb4).more (by omega), HF3.out.trans (Fr.of_below hb4 _)⟩
            clear hb4 x0 x1 x2 x3 x4
            go_wp2
            go_roundw
            case rel => exact ⟨k + 1, by omega, by go_num, rfl, HQ4.out.1, HQ4.out.2⟩
            case measure => simp [intOf]; omega
          · have e9 : (kd == 9) = false := by simpa using h9
            go_wp2_with fail
            refine (qMoves _ HQ3.out _ HOK3.out).mono ?_
            rintro e w4 ⟨rfl, hf4, hq4⟩
            have HQ4 : Hid (ApQ base B base s g (k + 1) w4 ∧ Fr (fun q => base ≤ q) w w4) := ⟨hq4, HF3.out.trans hf4⟩
            clear hf4 hq4 x0 x1 x2 x3 x4
            go_wp2
            go_roundw
            case rel => exact ⟨k + 1, by omega, by go_num, rfl, HQ4.out.1, HQ4.out.2⟩
            case measure => simp [intOf]; omega
    · have hkI : ¬ (k : Int) < (n : Int) := by omega
      go_wp2
      go_ret
      exact ⟨rfl, by rw [HBE.out]; exact hf.out.toBelow base (by rw [HBE.out]; exact Nat.le_refl _) (fun q e => e)⟩
end Go.Proofs.YtffgpepngcnjeabGreatQ

namespace Go.Proofs.YtffgpepngcnjeabGreatQ
open Go.ChangeShapes Go.WideShapes Go.ChangeAt Go.RowKit
def I64 (x : Int) : Prop := -9223372036854775808 ≤ x ∧ x ≤ 9223372036854775807
theorem tCells3 : Tryz.prog.cellsOf 3 = 1 := by kernel_rfl
theorem tCells44 : Tryz.prog.cellsOf 44 = 1 := by kernel_rfl
theorem tCells33 : Tryz.prog.cellsOf 33 = 1 := by kernel_rfl
theorem tCells28 : Tryz.prog.cellsOf 28 = 1 := by kernel_rfl
theorem tCells35 : Tryz.prog.cellsOf 35 = 3 := by kernel_rfl
theorem tCells115 : Tryz.prog.cellsOf 115 = 3 := by kernel_rfl
theorem tCells93 : Tryz.prog.cellsOf 93 = 2 := by kernel_rfl
theorem tBytes3 : Tryz.prog.bytesOf 3 = 8 := by kernel_rfl
theorem tBytes115 : Tryz.prog.bytesOf 115 = 40 := by kernel_rfl
theorem tBytes93 : Tryz.prog.bytesOf 93 = 16 := by kernel_rfl
theorem row_take {w : World} {b off : Nat} {l : List Int} (h : Row w b off l) (n : Nat) : Row w b off (l.take n) := by
  intro j hj
  rw [List.length_take] at hj
  rw [h j (by omega)]
  simp only [List.getD]
  rw [List.getElem?_take_of_lt (by omega)]
theorem len3 {cs : List Value} (h : cs.length = 3) : ∃ a b c, cs = [a, b, c] := by
  match cs, h with
  | [a, b, c], _ => exact ⟨a, b, c, rfl⟩
theorem len2c {cs : List Value} (h : cs.length = 2) : ∃ a b, cs = [a, b] := by
  match cs, h with
  | [a, b], _ => exact ⟨a, b, rfl⟩
section
variable {H : Type} {enc : TypeId × Value → H} {W : World} {fuel : Nat} {cs : List Value} {x : DataW H × List MemPlace}
theorem open_num (h : DataW.trod enc Tryz.prog W 0 (fun _ => true) true fuel 3 cs = some x) : ∃ n : Int, cs = [.int .i64 n] ∧ I64 n := by
  obtain ⟨n, hcs, _, hw⟩ := DataW.trod_int Tryz.underlying3 h
  exact ⟨n, hcs, bounds_i64 hw⟩
theorem open_seal (h : DataW.trod enc Tryz.prog W 0 (fun _ => true) true fuel 44 cs = some x) (hw : ∀ k ∈ x.1.weights Tryz.prog 44, k ≤ reachBytes) :
    ∃ ao n c l, cs = [.slice ao n c] ∧ IntsAt W ao l ∧ l.length = n ∧ n ≤ 17592186044416 ∧ (ao = none → c = 0) ∧ ∀ z ∈ l, I64 z := by
  rcases open_ints Tryz.underlying44 Tryz.underlying3 tCells3 h with ⟨hcs, _⟩ | ⟨a, len, cap, zs, hcs, _, hl, hm, hz, hx, hcell, hwz⟩
  · exact ⟨none, 0, 0, [], hcs, Or.inl rfl, rfl, by omega, fun _ => rfl, fun z hz => by cases hz⟩
  · have hz' : zs.length = cap := by simpa using hz
    have hr : (zs.take len).length * 8 + (zs.drop len).length * 8 ≤ reachBytes := by
      have := hw (((zs.take len).length + (zs.drop len).length) * 8) (by
        rw [hx]
        simp only [DataW.weights, Tryz.underlying44, tBytes3, lits, List.length_map]
        exact List.mem_cons_self)
      omega
    rw [List.length_take, List.length_drop] at hr
    simp only [reachBytes] at hr
    refine ⟨some a, len, cap, zs.take len, hcs, ?_, by rw [List.length_take]; omega, by omega, fun h => (by cases h), fun z hz => bounds_i64 (hwz z (List.mem_of_mem_take hz))⟩
    by_cases h0 : zs.length = 0
    · have : zs = [] := List.length_eq_zero_iff.1 h0
      subst this
      exact Or.inl (by simp)
    · obtain ⟨b, off, rfl, hc⟩ := ints_at hcell (by omega)
      exact Or.inr ⟨b, off, rfl, row_take hc _⟩
structure In64 (x : InD) : Prop where
  id : I64 x.id
  pos : I64 x.pos
  l : ∀ z ∈ x.l, I64 z
theorem open_in (h : DataW.trod enc Tryz.prog W 0 (fun _ => true) true fuel 115 cs = some x) (hw : ∀ k ∈ x.1.weights Tryz.prog 115, k ≤ reachBytes) :
    ∃ y : InD, cs = [.int .i64 y.id, .int .i64 y.pos, .slice y.ao y.n y.c] ∧ InOk W y ∧ In64 y := by
  obtain ⟨y0, y1, y2, n, hx, hlen, h0, h1, h2⟩ := Go.Deep.trod_struct3 Tryz.underlying115 h
  rw [tCells115] at hlen
  obtain ⟨a, b, c, rfl⟩ := len3 hlen
  simp only [tCells3, tCells44, List.drop, List.take] at h0 h1 h2
  obtain ⟨i, hi, bi⟩ := open_num h0
  obtain ⟨p, hp, bp⟩ := open_num h1
  obtain ⟨ao, m, cp, l, hs, hat, hl, hm, hnil, bl⟩ := open_seal h2 (fun k hk => hw k (by
    rw [hx]
    simp only [DataW.weights, Tryz.underlying115, List.map, DataW.weightsEach, List.append_nil]
    exact List.mem_append_right _ (List.mem_append_right _ hk)))
  cases hi
  cases hp
  cases hs
  exact ⟨⟨i, p, ao, m, cp, l⟩, rfl, ⟨hat, hl, hm, hnil⟩, ⟨bi, bp, bl⟩⟩
theorem open_out (h : DataW.trod enc Tryz.prog W 0 (fun _ => true) true fuel 93 cs = some x) : ∃ y : Int × Int, cs = [.int .i64 y.1, .int .i64 y.2] ∧ I64 y.1 ∧ I64 y.2 := by
  obtain ⟨y0, y1, n, _, hlen, h0, h1⟩ := trod_struct2 Tryz.underlying93 h
  rw [tCells93] at hlen
  obtain ⟨a, b, rfl⟩ := len2c hlen
  simp only [tCells3, List.drop, List.take] at h0 h1
  obtain ⟨i, hi, bi⟩ := open_num h0
  obtain ⟨p, hp, bp⟩ := open_num h1
  cases hi
  cases hp
  exact ⟨(i, p), rfl, bi, bp⟩
end
theorem choose_upto {α : Type} (d : α) {n : Nat} {p : Nat → α → Prop} (h : ∀ i, i < n → ∃ x, p i x) : ∃ l : List α, l.length = n ∧ ∀ i, i < n → p i (l.getD i d) := by
  refine ⟨(List.range n).map fun i => if hi : i < n then Classical.choose (h i hi) else d, by simp, fun i hi => ?_⟩
  have e : ((List.range n).map fun i => if hi : i < n then Classical.choose (h i hi) else d).getD i d = Classical.choose (h i hi) := by
    simp [List.getD, hi]
  rw [e]
  exact Classical.choose_spec (h i hi)
theorem weights_in {H : Type} {P : Program} {e : TypeId} {l : List (DataW H)} {d : DataW H} (h : d ∈ l) : ∀ k ∈ d.weights P e, k ∈ DataW.weightsAll P e l := by
  induction l with
  | nil => cases h
  | cons y r ih =>
    intro k hk
    simp only [DataW.weightsAll]
    rcases List.mem_cons.1 h with e' | e'
    · subst e'; exact List.mem_append_left _ hk
    · exact List.mem_append_right _ (ih e' k hk)
/-- cells of a plain address -/
theorem cells_at {W : World} {a : Addr} {n : Nat} {cs : List Value} (h : W.cells? 0 a n = some cs) (hn : 0 < n) : a.spot = none ∧ ∀ i, i < n → W.cell? ⟨a.block, a.off + i, none⟩ = cs[i]? := by
  obtain ⟨_, hl, hc⟩ := World.cells?_some h
  obtain ⟨b, off, spot⟩ := a
  have hs : spot = none := by
    have h0 := hc 0 hn
    have : (W.cell? ((⟨b, off, spot⟩ : Addr).add 0)) = some (cs[0]'(by omega)) := by rw [h0]; exact List.getElem?_eq_getElem _
    simpa [Addr.add] using World.cell?_spot this
  subst hs
  exact ⟨rfl, fun i hi => by have := hc i hi; rw [add_plain] at this; exact this⟩
section
variable {H : Type} {enc : TypeId × Value → H} {W : World} {fuel : Nat} {cs : List Value} {x : DataW H × List MemPlace}
theorem open_insL (h : DataW.trod enc Tryz.prog W 0 (fun _ => true) true fuel 33 cs = some x) (hw : ∀ k ∈ x.1.weights Tryz.prog 33, k ≤ reachBytes) :
    ∃ ao n c xs, cs = [.slice ao n c] ∧ InsAt W ao xs ∧ xs.length = n ∧ n ≤ 3518437208883 ∧ (ao = none → c = 0) ∧ ∀ j, j < n → In64 (xs.getD j dIn) := by
  rcases Go.Deep.open_slice Tryz.underlying33 h with ⟨hcs, _⟩ | ⟨a, len, cap, m, n, D, Pl, hcs, _, hl, hm, hmm, hx, hel⟩
  · exact ⟨none, 0, 0, [], hcs, Or.inl rfl, rfl, by omega, fun _ => rfl, fun j hj => by omega⟩
  · have hmm' : m = cap := by simpa using hmm
    have hr : len * 40 ≤ reachBytes := by
      have := hw ((((List.range len).map D).length + ((List.range (m - len)).map fun j => D (len + j)).length) * 40) (by
        rw [hx]
        simp only [DataW.weights, Tryz.underlying33, tBytes115]
        exact List.mem_cons_self)
      simp only [List.length_map, List.length_range] at this
      omega
    simp only [reachBytes] at hr
    rw [tCells115] at hel
    have each : ∀ i, i < len → ∃ y : InD, (W.cells? 0 (a.add (i * 3)) 3 = some [.int .i64 y.id, .int .i64 y.pos, .slice y.ao y.n y.c]) ∧ InOk W y ∧ In64 y := by
      intro i hi
      obtain ⟨cs', hc, ht⟩ := hel i (by omega)
      obtain ⟨y, rfl, hok, h64⟩ := open_in ht (fun k hk => hw k (by
        rw [hx]
        simp only [DataW.weights, Tryz.underlying33]
        exact List.mem_cons_of_mem _ (List.mem_append_left _ (weights_in (List.mem_map.2 ⟨i, List.mem_range.2 hi, rfl⟩) k hk))))
      exact ⟨y, hc, hok, h64⟩
    obtain ⟨xs, hxl, hxs⟩ := choose_upto dIn each
    refine ⟨some a, len, cap, xs, hcs, ?_, hxl, by omega, fun h => (by cases h), fun j hj => (hxs j hj).2.2⟩
    by_cases h0 : len = 0
    · exact Or.inl (List.length_eq_zero_iff.1 (by omega))
    · have ha : a.spot = none := by
        have := (cells_at (hxs 0 (by omega)).1 (by omega)).1
        simpa [Addr.add] using this
      obtain ⟨b, off, spot⟩ := a
      simp only at ha
      subst ha
      refine Or.inr ⟨b, off, rfl, fun j hj => ?_⟩
      obtain ⟨hc, hok, _⟩ := hxs j (by omega)
      obtain ⟨_, hcc⟩ := cells_at hc (by omega)
      rw [add_plain] at hcc
      simp only at hcc
      exact ⟨⟨by simpa using hcc 0 (by omega), by simpa using hcc 1 (by omega), by simpa using hcc 2 (by omega)⟩, hok⟩
theorem open_outsL (h : DataW.trod enc Tryz.prog W 0 (fun _ => true) true fuel 28 cs = some x) (hw : ∀ k ∈ x.1.weights Tryz.prog 28, k ≤ reachBytes) :
    ∃ ao n c ys, cs = [.slice ao n c] ∧ OutsAt W ao ys ∧ ys.length = n ∧ n ≤ 8796093022208 ∧ (ao = none → c = 0) ∧ ∀ j, j < n → I64 (ys.getD j (0, 0)).1 ∧ I64 (ys.getD j (0, 0)).2 := by
  rcases Go.Deep.open_slice Tryz.underlying28 h with ⟨hcs, _⟩ | ⟨a, len, cap, m, n, D, Pl, hcs, _, hl, hm, hmm, hx, hel⟩
  · exact ⟨none, 0, 0, [], hcs, Or.inl rfl, rfl, by omega, fun _ => rfl, fun j hj => by omega⟩
  · have hmm' : m = cap := by simpa using hmm
    have hr : len * 16 ≤ reachBytes := by
      have := hw ((((List.range len).map D).length + ((List.range (m - len)).map fun j => D (len + j)).length) * 16) (by
        rw [hx]
        simp only [DataW.weights, Tryz.underlying28, tBytes93]
        exact List.mem_cons_self)
      simp only [List.length_map, List.length_range] at this
      omega
    simp only [reachBytes] at hr
    rw [tCells93] at hel
    have each : ∀ i, i < len → ∃ y : Int × Int, (W.cells? 0 (a.add (i * 2)) 2 = some [.int .i64 y.1, .int .i64 y.2]) ∧ I64 y.1 ∧ I64 y.2 := by
      intro i hi
      obtain ⟨cs', hc, ht⟩ := hel i (by omega)
      obtain ⟨y, rfl, h64⟩ := open_out ht
      exact ⟨y, hc, h64⟩
    obtain ⟨ys, hyl, hys⟩ := choose_upto (0, 0) each
    refine ⟨some a, len, cap, ys, hcs, ?_, hyl, by omega, fun h => (by cases h), fun j hj => (hys j hj).2⟩
    by_cases h0 : len = 0
    · exact Or.inl (List.length_eq_zero_iff.1 (by omega))
    · have ha : a.spot = none := by
        have := (cells_at (hys 0 (by omega)).1 (by omega)).1
        simpa [Addr.add] using this
      obtain ⟨b, off, spot⟩ := a
      simp only at ha
      subst ha
      refine Or.inr ⟨b, off, rfl, fun j hj => ?_⟩
      obtain ⟨hc, _⟩ := hys j (by omega)
      obtain ⟨_, hcc⟩ := cells_at hc (by omega)
      rw [add_plain] at hcc
      simp only at hcc
      exact ⟨by simpa using hcc 0 (by omega), by simpa using hcc 1 (by omega)⟩
end
end Go.Proofs.YtffgpepngcnjeabGreatQ

namespace Go.Proofs.YtffgpepngcnjeabGreatQ
open Go.ChangeShapes Go.WideShapes Go.ChangeAt Go.RowKit
theorem tCells60 : Tryz.prog.cellsOf 60 = 1 := by kernel_rfl
theorem tCells62 : Tryz.prog.cellsOf 62 = 5 := by kernel_rfl
theorem tBytes35 : Tryz.prog.bytesOf 35 = 56 := by kernel_rfl
theorem tBytes62 : Tryz.prog.bytesOf 62 = 72 := by kernel_rfl
theorem len5 {cs : List Value} (h : cs.length = 5) : ∃ a b c d e, cs = [a, b, c, d, e] := by
  match cs, h with
  | [a, b, c, d, e], _ => exact ⟨a, b, c, d, e, rfl⟩
/-- what lies below a world's size, as an allowed place -/
abbrev inW (W : World) (q : Nat) : Prop := q < W.heap.size
section
variable {H : Type} {enc : TypeId × Value → H} {W : World} {fuel : Nat} {cs : List Value} {x : DataW H × List MemPlace}
theorem tx_places {t : Int} {ai : Option Addr} {n c : Nat} {ap : Option Addr} {m d : Nat} {xs : List InD} {ys : List (Int × Int)} (hx : InsAt W ai xs) (hxl : xs.length = n) (hy : OutsAt W ap ys) (hyl : ys.length = m) : TxOk (inW W) W ⟨t, ai, n, c, ap, m, d, xs, ys⟩ := by
  refine ⟨hx, hxl, hy, hyl, fun he a ha => ?_, fun he a ha => ?_, fun i hi he a ha => ?_⟩
  · rcases hx with h | ⟨b, off, e, hr⟩
    · exact absurd h he
    · simp only at ha
      rw [ha] at e
      cases e
      exact cell_lt (hr 0 (List.length_pos_iff.2 he)).1.c0
  · rcases hy with h | ⟨b, off, e, hr⟩
    · exact absurd h he
    · simp only at ha
      rw [ha] at e
      cases e
      exact cell_lt (hr 0 (List.length_pos_iff.2 he)).1
  · rcases hx with h | ⟨b, off, e, hr⟩
    · simp only at hi
      rw [h] at hi
      simp at hi
    · obtain ⟨j, hj, e2⟩ := mem_getD dIn hi
      have hok := (hr j hj).2
      rw [← e2] at hok
      rcases hok.lies with h | ⟨b2, off2, e3, hr2⟩
      · exact absurd h he
      · rw [ha] at e3
        cases e3
        exact hr2.lt he
theorem open_txc (h : DataW.trod enc Tryz.prog W 0 (fun _ => true) true fuel 35 cs = some x) (hw : ∀ k ∈ x.1.weights Tryz.prog 35, k ≤ reachBytes) :
    ∃ y : TxD, cs = y.v ∧ TxOk (inW W) W y ∧ TxSm y := by
  obtain ⟨y0, y1, y2, n, hx, hlen, h0, h1, h2⟩ := Go.Deep.trod_struct3 Tryz.underlying35 h
  rw [tCells35] at hlen
  obtain ⟨a, b, c, rfl⟩ := len3 hlen
  simp only [tCells3, tCells33, tCells28, List.drop, List.take] at h0 h1 h2
  obtain ⟨t, ht, _⟩ := open_num h0
  obtain ⟨ai, ni, ci, xs, hi, hxa, hxl, hxs, _, _⟩ := open_insL h1 (fun k hk => hw k (by
    rw [hx]
    simp only [DataW.weights, Tryz.underlying35, List.map, DataW.weightsEach, List.append_nil]
    exact List.mem_append_right _ (List.mem_append_left _ hk)))
  obtain ⟨ap, m, e, ys, ho, hya, hyl, hys, hnil, _⟩ := open_outsL h2 (fun k hk => hw k (by
    rw [hx]
    simp only [DataW.weights, Tryz.underlying35, List.map, DataW.weightsEach, List.append_nil]
    exact List.mem_append_right _ (List.mem_append_right _ hk)))
  cases ht
  cases hi
  cases ho
  exact ⟨⟨t, ai, ni, ci, ap, m, e, xs, ys⟩, rfl, tx_places hxa hxl hya hyl, ⟨hxs, hys, hnil⟩⟩
theorem open_blk (h : DataW.trod enc Tryz.prog W 0 (fun _ => true) true fuel 60 cs = some x) (hw : ∀ k ∈ x.1.weights Tryz.prog 60, k ≤ reachBytes) :
    ∃ (bo : Option Addr) (bn bc : Nat) (bl : List TxD), cs = [.slice bo bn bc] ∧ BlkAt (inW W) W bo bl ∧ bl.length = bn ∧ (∀ t ∈ bl, TxSm t) ∧ bn ≤ 2513169434916 := by
  rcases Go.Deep.open_slice Tryz.underlying60 h with ⟨hcs, _⟩ | ⟨a, len, cap, m, n, D, Pl, hcs, _, hl, hm, hmm, hx, hel⟩
  · exact ⟨none, 0, 0, [], hcs, ⟨Or.inl rfl, fun h => absurd rfl h, fun t ht => by simp at ht⟩, rfl, fun t ht => by simp at ht, by omega⟩
  · have hmm' : m = cap := by simpa using hmm
    have hr : len * 56 ≤ reachBytes := by
      have := hw ((((List.range len).map D).length + ((List.range (m - len)).map fun j => D (len + j)).length) * 56) (by
        rw [hx]
        simp only [DataW.weights, Tryz.underlying60, tBytes35]
        exact List.mem_cons_self)
      simp only [List.length_map, List.length_range] at this
      omega
    simp only [reachBytes] at hr
    rw [tCells35] at hel
    have each : ∀ i, i < len → ∃ y : TxD, (W.cells? 0 (a.add (i * 3)) 3 = some y.v) ∧ TxOk (inW W) W y ∧ TxSm y := by
      intro i hi
      obtain ⟨cs', hc, ht⟩ := hel i (by omega)
      obtain ⟨y, rfl, hok, hsm⟩ := open_txc ht (fun k hk => hw k (by
        rw [hx]
        simp only [DataW.weights, Tryz.underlying60]
        exact List.mem_cons_of_mem _ (List.mem_append_left _ (weights_in (List.mem_map.2 ⟨i, List.mem_range.2 hi, rfl⟩) k hk))))
      exact ⟨y, hc, hok, hsm⟩
    obtain ⟨xs, hxl, hxs⟩ := choose_upto dT each
    have hrow : RecAt TxD.v W (some a) xs := by
      by_cases h0 : len = 0
      · exact Or.inl (List.length_eq_zero_iff.1 (by omega))
      · have ha : a.spot = none := by
          have := (cells_at (hxs 0 (by omega)).1 (by omega)).1
          simpa [Addr.add] using this
        obtain ⟨b, off, spot⟩ := a
        simp only at ha
        subst ha
        refine Or.inr ⟨b, off, rfl, fun j hj => ?_⟩
        rw [rec_len TxD.v 3 tx3] at hj
        have hq : j / 3 < xs.length := by omega
        have hj3 : j = j / 3 * 3 + j % 3 := by omega
        obtain ⟨hc, _⟩ := hxs (j / 3) (by omega)
        obtain ⟨_, hcc⟩ := cells_at hc (by omega)
        rw [add_plain] at hcc
        simp only at hcc
        have h9 := hcc (j % 3) (by omega)
        have e9 := rec_get TxD.v 3 tx3 dT xs (j / 3) (j % 3) hq (by omega)
        rw [← hj3] at e9
        rw [e9, show off + j = off + j / 3 * 3 + j % 3 by omega, h9]
        have hl9 : j % 3 < (xs.getD (j / 3) dT).v.length := by rw [tx3]; omega
        simp only [List.getD]
        simp only [List.getD] at hl9
        rw [List.getElem?_eq_getElem hl9, Option.getD_some]
    refine ⟨some a, len, cap, xs, hcs, ⟨hrow, fun he a' ha' => ?_, fun t ht => ?_⟩, hxl, fun t ht => ?_, by omega⟩
    · rcases hrow with h0 | ⟨b, off, e, hr'⟩
      · exact absurd h0 he
      · rw [ha'] at e
        cases e
        refine hr'.lt (fun e0 => he ?_)
        have := rec_len TxD.v 3 tx3 xs
        rw [e0] at this
        exact List.length_eq_zero_iff.1 (by simp at this; omega)
    · obtain ⟨j, hj, e⟩ := mem_getD dT ht
      rw [e]
      exact (hxs j (by omega)).2.1
    · obtain ⟨j, hj, e⟩ := mem_getD dT ht
      rw [e]
      exact (hxs j (by omega)).2.2
theorem struct5 {P : Program} {w : World} {base : Nat} {spare : Bool} {held : Nat → Bool} {t : TypeId} {f0 f1 f2 f3 f4 : Field} {cs : List Value} (ht : P.underlying t = some (.struct #[f0, f1, f2, f3, f4])) (h : DataW.trod enc P w base held spare fuel t cs = some x) :
    ∃ y0 y1 y2 y3 y4 n, x = (.agg [y0.1, y1.1, y2.1, y3.1, y4.1], y0.2 ++ (y1.2 ++ (y2.2 ++ (y3.2 ++ y4.2)))) ∧ cs.length = P.cellsOf t ∧ DataW.trod enc P w base held spare n f0.type ((cs.drop f0.offset).take (P.cellsOf f0.type)) = some y0 ∧
      DataW.trod enc P w base held spare n f1.type ((cs.drop f1.offset).take (P.cellsOf f1.type)) = some y1 ∧ DataW.trod enc P w base held spare n f2.type ((cs.drop f2.offset).take (P.cellsOf f2.type)) = some y2 ∧
      DataW.trod enc P w base held spare n f3.type ((cs.drop f3.offset).take (P.cellsOf f3.type)) = some y3 ∧ DataW.trod enc P w base held spare n f4.type ((cs.drop f4.offset).take (P.cellsOf f4.type)) = some y4 := by
  obtain ⟨xs, n, _, rfl, hl, hlen, hf⟩ := DataW.trod_struct ht h
  match xs, hlen with
  | [y0, y1, y2, y3, y4], _ => exact ⟨y0, y1, y2, y3, y4, n, by simp, hl, by simpa using hf 0 f0 rfl, by simpa using hf 1 f1 rfl, by simpa using hf 2 f2 rfl, by simpa using hf 3 f3 rfl, by simpa using hf 4 f4 rfl⟩
theorem open_step (h : DataW.trod enc Tryz.prog W 0 (fun _ => true) true fuel 62 cs = some x) (hw : ∀ k ∈ x.1.weights Tryz.prog 62, k ≤ reachBytes) :
    ∃ y : StD, cs = y.v ∧ StOk W.heap.size W y := by
  obtain ⟨y0, y1, y2, y3, y4, n, hx, hlen, h0, h1, h2, h3, h4⟩ := struct5 Tryz.underlying62 h
  rw [tCells62] at hlen
  obtain ⟨a, b, c, d, e, rfl⟩ := len5 hlen
  simp only [tCells3, tCells60, tCells28, List.drop, List.take] at h0 h1 h2 h3 h4
  obtain ⟨k0, e0, _⟩ := open_num h0
  obtain ⟨k1, e1, _⟩ := open_num h1
  obtain ⟨k2, e2, _⟩ := open_num h2
  obtain ⟨bo, bn, bc, bl, e3, hb1, hb2, hb3, hb4⟩ := open_blk h3 (fun k hk => hw k (by
    rw [hx]
    simp only [DataW.weights, Tryz.underlying62, List.map, DataW.weightsEach, List.append_nil]
    exact List.mem_append_right _ (List.mem_append_right _ (List.mem_append_right _ (List.mem_append_left _ hk)))))
  obtain ⟨ap, m, dd, ys, e4, ho1, ho2, ho3, ho4, _⟩ := open_outsL h4 (fun k hk => hw k (by
    rw [hx]
    simp only [DataW.weights, Tryz.underlying62, List.map, DataW.weightsEach, List.append_nil]
    exact List.mem_append_right _ (List.mem_append_right _ (List.mem_append_right _ (List.mem_append_right _ hk)))))
  cases e0
  cases e1
  cases e2
  cases e3
  cases e4
  refine ⟨⟨k0, k1, k2, bo, bn, bc, ap, m, dd, bl, ys⟩, rfl, hb1, hb2, hb3, hb4, ho1, ho2, ho3, ho4, fun he a ha => ?_⟩
  rcases ho1 with h | ⟨b, off, e, hr⟩
  · exact absurd h he
  · simp only at ha
    rw [ha] at e
    cases e
    exact cell_lt (hr 0 (List.length_pos_iff.2 he)).1
theorem open_script (h : DataW.trod enc Tryz.prog W 0 (fun _ => true) true fuel 57 cs = some x) (hw : ∀ k ∈ x.1.weights Tryz.prog 57, k ≤ reachBytes) :
    ∃ ao n c sc, cs = [.slice ao n c] ∧ ScriptAt W.heap.size W ao sc ∧ sc.length = n ∧ n ≤ 9000000000000000000 := by
  rcases Go.Deep.open_slice Tryz.underlying57 h with ⟨hcs, _⟩ | ⟨a, len, cap, m, n, D, Pl, hcs, _, hl, hm, hmm, hx, hel⟩
  · exact ⟨none, 0, 0, [], hcs, ⟨Or.inl rfl, fun h => absurd rfl h, fun t ht => by simp at ht⟩, rfl, by omega⟩
  · have hmm' : m = cap := by simpa using hmm
    have hr : len * 72 ≤ reachBytes := by
      have := hw ((((List.range len).map D).length + ((List.range (m - len)).map fun j => D (len + j)).length) * 72) (by
        rw [hx]
        simp only [DataW.weights, Tryz.underlying57, tBytes62]
        exact List.mem_cons_self)
      simp only [List.length_map, List.length_range] at this
      omega
    simp only [reachBytes] at hr
    rw [tCells62] at hel
    have each : ∀ i, i < len → ∃ y : StD, (W.cells? 0 (a.add (i * 5)) 5 = some y.v) ∧ StOk W.heap.size W y := by
      intro i hi
      obtain ⟨cs', hc, ht⟩ := hel i (by omega)
      obtain ⟨y, rfl, hok⟩ := open_step ht (fun k hk => hw k (by
        rw [hx]
        simp only [DataW.weights, Tryz.underlying57]
        exact List.mem_cons_of_mem _ (List.mem_append_left _ (weights_in (List.mem_map.2 ⟨i, List.mem_range.2 hi, rfl⟩) k hk))))
      exact ⟨y, hc, hok⟩
    obtain ⟨xs, hxl, hxs⟩ := choose_upto dSt each
    have hrow : RecAt StD.v W (some a) xs := by
      by_cases h0 : len = 0
      · exact Or.inl (List.length_eq_zero_iff.1 (by omega))
      · have ha : a.spot = none := by
          have := (cells_at (hxs 0 (by omega)).1 (by omega)).1
          simpa [Addr.add] using this
        obtain ⟨b, off, spot⟩ := a
        simp only at ha
        subst ha
        refine Or.inr ⟨b, off, rfl, fun j hj => ?_⟩
        rw [rec_len StD.v 5 st5] at hj
        have hq : j / 5 < xs.length := by omega
        have hj3 : j = j / 5 * 5 + j % 5 := by omega
        obtain ⟨hc, _⟩ := hxs (j / 5) (by omega)
        obtain ⟨_, hcc⟩ := cells_at hc (by omega)
        rw [add_plain] at hcc
        simp only at hcc
        have h9 := hcc (j % 5) (by omega)
        have e9 := rec_get StD.v 5 st5 dSt xs (j / 5) (j % 5) hq (by omega)
        rw [← hj3] at e9
        rw [e9, show off + j = off + j / 5 * 5 + j % 5 by omega, h9]
        have hl9 : j % 5 < (xs.getD (j / 5) dSt).v.length := by rw [st5]; omega
        simp only [List.getD]
        simp only [List.getD] at hl9
        rw [List.getElem?_eq_getElem hl9, Option.getD_some]
    refine ⟨some a, len, cap, xs, hcs, ⟨hrow, fun he a' ha' => ?_, fun t ht => ?_⟩, hxl, by omega⟩
    · rcases hrow with h0 | ⟨b, off, e, hr'⟩
      · exact absurd h0 he
      · rw [ha'] at e
        cases e
        refine hr'.lt (fun e0 => he ?_)
        have := rec_len StD.v 5 st5 xs
        rw [e0] at this
        exact List.length_eq_zero_iff.1 (by simp at this; omega)
    · obtain ⟨j, hj, e⟩ := mem_getD dSt ht
      rw [e]
      exact (hxs j (by omega)).2
end
end Go.Proofs.YtffgpepngcnjeabGreatQ
