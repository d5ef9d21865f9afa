/-
  Package pursekeep: sameNames, sameTx.
  Package pursekeep: opens, has.
  Accepted: Sign where nothing, or one payment, is live; what the walk keeps.
  copyBlock: a block in lists of its own.
  Package pursekeep: has; one transaction as a block.
-/
import Derived.Test.YtffgpepngcnjeabGreatQMar
import Derived.Test.YtffgpepngcnjeabGreatQMaf
import Derived.Test.YtffgpepngcnjeabGreatQMao
import Derived.Test.YtffgpepngcnjeabGreatQMap
import Derived.BigQuiet
namespace Go.Proofs.YtffgpepngcnjeabGreatQ
open Go.RowKit
set_option maxRecDepth 100000 in
set_option maxHeartbeats 1000000 in
theorem namesG_row (a1 o1 a2 o2 n c d : Nat) (is js : List InD) (w : World) (h1 : InsRow w a1 o1 is) (h2 : InsRow w a2 o2 js) (hn : is.length = n) (hjn : js.length = n) (he : ∀ k, k < n → (is.getD k dIn).id = (js.getD k dIn).id ∧ (is.getD k dIn).pos = (js.getD k dIn).pos) (hm : n ≤ 1000) :
    Calls Tryz.prog 38 #[.slice (some ⟨a1, o1, none⟩) n c, .slice (some ⟨a2, o2, none⟩) n d] w fun e w' => e = .returned (.bool true) ∧ Below w.heap.size w w' := by
  have H1 : Hid (InsRow w a1 o1 is) := h1
  have H2 : Hid (InsRow w a2 o2 js) := h2
  have HN : Hid (is.length = n) := hn
  have HJ : Hid (js.length = n) := hjn
  have HE : Hid (∀ k, k < n → (is.getD k dIn).id = (js.getD k dIn).id ∧ (is.getD k dIn).pos = (js.getD k dIn).pos) := he
  clear h1 h2 hn hjn he
  go_enter Tryz.func38, Tryz.ntmps38
  go_wp2
  go_loopw [5] (fun i wr => ∃ k : Nat, k ≤ n ∧ i = .int .i64 k ∧ Below w.heap.size w wr) (fun i _ => n - (intOf i).toNat)
  case atStart => exact ⟨0, Nat.zero_le _, rfl, Below.refl _ _⟩
  case round =>
    obtain ⟨k, hk, rfl, hbl⟩ := hrel
    by_cases hlt : k < n
    · have r1 := (H1.out k (by rw [HN.out]; exact hlt)).1
      have r2 := (H2.out k (by rw [HJ.out]; exact hlt)).1
      obtain ⟨c1, c2, _⟩ := r1.below hbl (cell_lt r1.c0)
      obtain ⟨c3, c4, _⟩ := r2.below hbl (cell_lt r2.c0)
      obtain ⟨e1, e2⟩ := HE.out k hlt
      rw [← e1] at c3
      rw [← e2] at c4
      clear r1 r2 e1 e2
      generalize (is.getD k dIn).id = ya at *
      generalize (is.getD k dIn).pos = yv at *
      have k1 : (k : Int) < (n : Int) := by omega
      have k0 : (0 : Int) ≤ (k : Int) := by omega
      have gd : (ya != ya) = false := by simp
      go_wp2
      go_quiet (fail)
      go_wp2
      go_roundw
      case rel => exact ⟨k + 1, by omega, by go_num, below_drewN hbl _⟩
      case measure => simp [intOf]; omega
    · go_wp2
      go_ret
      exact ⟨rfl, hbl⟩
theorem namesG_any (ai bi : Option Addr) (n c d : Nat) (is js : List InD) (w : World) (h1 : InsAt w ai is) (h2 : InsAt w bi js) (hn : is.length = n) (hjn : js.length = n) (he : ∀ k, k < n → (is.getD k dIn).id = (js.getD k dIn).id ∧ (is.getD k dIn).pos = (js.getD k dIn).pos) (h0 : 0 < n) (hm : n ≤ 1000) :
    Calls Tryz.prog 38 #[.slice ai n c, .slice bi n d] w fun e w' => e = .returned (.bool true) ∧ Below w.heap.size w w' := by
  rcases h1 with h | ⟨a1, o1, rfl, r1⟩
  · rw [h] at hn; simp at hn; omega
  · rcases h2 with h | ⟨a2, o2, rfl, r2⟩
    · rw [h] at hjn; simp at hjn; omega
    · exact namesG_row a1 o1 a2 o2 n c d is js w r1 r2 hn hjn he hm
theorem keepC4 {w w' : World} {T a b : Nat} {p q : Nat} {x y z u : Value} (hb : Below w.heap.size w w') (h : w.cell? ⟨T, 1, none⟩ = some x ∧ w.cell? ⟨T + 1, 1, none⟩ = some y ∧ w.cell? ⟨a, p, none⟩ = some z ∧ w.cell? ⟨b, q, none⟩ = some u) : w'.cell? ⟨T, 1, none⟩ = some x ∧ w'.cell? ⟨T + 1, 1, none⟩ = some y ∧ w'.cell? ⟨a, p, none⟩ = some z ∧ w'.cell? ⟨b, q, none⟩ = some u :=
  ⟨(hb.cell (p := ⟨T, 1, none⟩) (cell_lt h.1)).trans h.1, (hb.cell (p := ⟨T + 1, 1, none⟩) (cell_lt h.2.1)).trans h.2.1, (hb.cell (p := ⟨a, p, none⟩) (cell_lt h.2.2.1)).trans h.2.2.1, (hb.cell (p := ⟨b, q, none⟩) (cell_lt h.2.2.2)).trans h.2.2.2⟩
set_option maxRecDepth 100000 in
set_option maxHeartbeats 2000000 in
theorem sameTx_any (t : Int) (ai bi : Option Addr) (ni ci di : Nat) (ap bp : Option Addr) (np cp dp : Nat) (is js : List InD) (ys : List (Int × Int)) (w : World) (h1 : InsAt w ai is) (h2 : InsAt w bi js) (hn : is.length = ni) (hjn : js.length = ni) (he : ∀ k, k < ni → (is.getD k dIn).st = (js.getD k dIn).st ∧ (is.getD k dIn).l.length = 5) (ho1 : OutsAt w ap ys) (ho2 : OutsAt w bp ys) (hyn : ys.length = np) (h0 : 0 < ni) (hm : ni ≤ 1000) (hm2 : np ≤ 1000) :
    Calls Tryz.prog 19 #[.agg #[.int .i64 t, .slice ai ni ci, .slice ap np cp], .agg #[.int .i64 t, .slice bi ni di, .slice bp np dp]] w fun e w' => e = .returned (.bool true) ∧ Below w.heap.size w w' := by
  have HN : Hid (is.length = ni) := hn
  have HJ : Hid (js.length = ni) := hjn
  have HY : Hid (ys.length = np) := hyn
  have HE : Hid (∀ k, k < ni → (is.getD k dIn).st = (js.getD k dIn).st ∧ (is.getD k dIn).l.length = 5) := he
  have HNM : Hid (∀ k, k < ni → (is.getD k dIn).id = (js.getD k dIn).id ∧ (is.getD k dIn).pos = (js.getD k dIn).pos) := fun k hk => by
    have := (he k hk).1
    unfold InD.st at this
    injection this with e1 e2
    exact ⟨e1, e2⟩
  have bA : Below w.heap.size w ((w.alloc (.cells #[.int .i64 t, .slice ai ni ci, .slice ap np cp] 35)).alloc (.cells #[.int .i64 t, .slice bi ni di, .slice bp np dp] 35)) := ((Below.refl _ _).alloc (Nat.le_refl _) _).alloc (by simp) _
  have HI : Hid (InsAt ((w.alloc (.cells #[.int .i64 t, .slice ai ni ci, .slice ap np cp] 35)).alloc (.cells #[.int .i64 t, .slice bi ni di, .slice bp np dp] 35)) ai is) := h1.grown bA
  have HI2 : Hid (InsAt ((w.alloc (.cells #[.int .i64 t, .slice ai ni ci, .slice ap np cp] 35)).alloc (.cells #[.int .i64 t, .slice bi ni di, .slice bp np dp] 35)) bi js) := h2.grown bA
  have HO : Hid (OutsAt ((w.alloc (.cells #[.int .i64 t, .slice ai ni ci, .slice ap np cp] 35)).alloc (.cells #[.int .i64 t, .slice bi ni di, .slice bp np dp] 35)) ap ys) := ho1.grown bA
  have HO2 : Hid (OutsAt ((w.alloc (.cells #[.int .i64 t, .slice ai ni ci, .slice ap np cp] 35)).alloc (.cells #[.int .i64 t, .slice bi ni di, .slice bp np dp] 35)) bp ys) := ho2.grown bA
  have HB : Hid (Below w.heap.size w ((w.alloc (.cells #[.int .i64 t, .slice ai ni ci, .slice ap np cp] 35)).alloc (.cells #[.int .i64 t, .slice bi ni di, .slice bp np dp] 35))) := bA
  have HVA : Hid (V3 ((w.alloc (.cells #[.int .i64 t, .slice ai ni ci, .slice ap np cp] 35)).alloc (.cells #[.int .i64 t, .slice bi ni di, .slice bp np dp] 35)) w.heap.size (.int .i64 t) (.slice ai ni ci) (.slice ap np cp)) := (V3.new w _ _ _ 35).grown ((Below.refl _ _).alloc (Nat.le_refl _) _)
  have HVB : Hid (V3 ((w.alloc (.cells #[.int .i64 t, .slice ai ni ci, .slice ap np cp] 35)).alloc (.cells #[.int .i64 t, .slice bi ni di, .slice bp np dp] 35)) (w.heap.size + 1) (.int .i64 t) (.slice bi ni di) (.slice bp np dp)) := by
    have := V3.new (w.alloc (.cells #[.int .i64 t, .slice ai ni ci, .slice ap np cp] 35)) (.int .i64 t) (.slice bi ni di) (.slice bp np dp) 35
    rwa [World.size_alloc] at this
  clear hn hjn hyn he h1 h2 ho1 ho2 bA
  go_enter Tryz.func19, Tryz.ntmps19
  go_upto_region 1 with fail
  generalize (w.alloc (.cells #[.int .i64 t, .slice ai ni ci, .slice ap np cp] 35)).alloc (.cells #[.int .i64 t, .slice bi ni di, .slice bp np dp] 35) = w0 at *
  generalize hT : w.heap.size = T at *
  have HTe : Hid (w.heap.size = T) := hT
  clear hT
  have hTl : T < w0.heap.size := cell_lt HVA.out.c0
  have hTl2 : T + 1 < w0.heap.size := cell_lt HVB.out.c0
  obtain ⟨x0, x1, x2, _⟩ := HVA.out
  obtain ⟨y0, y1, y2, _⟩ := HVB.out
  go_wp2_with fail
  refine (namesG_any ai bi ni ci di is js _ HI.out HI2.out HN.out HJ.out HNM.out h0 hm).mono ?_
  rintro e w1 ⟨rfl, hb1⟩
  have x0' := (hb1.cell (p := ⟨T, 0, none⟩) hTl).trans x0
  have x1' := (hb1.cell (p := ⟨T, 1, none⟩) hTl).trans x1
  have x2' := (hb1.cell (p := ⟨T, 2, none⟩) hTl).trans x2
  have y0' := (hb1.cell (p := ⟨T + 1, 0, none⟩) hTl2).trans y0
  have y1' := (hb1.cell (p := ⟨T + 1, 1, none⟩) hTl2).trans y1
  have y2' := (hb1.cell (p := ⟨T + 1, 2, none⟩) hTl2).trans y2
  have HO1 : Hid (OutsAt w1 ap ys) := HO.out.grown hb1
  have HO12 : Hid (OutsAt w1 bp ys) := HO2.out.grown hb1
  have HB1 : Hid (Below w0.heap.size w0 w1) := hb1
  have hz1 := hb1.size
  clear x0 x1 x2 y0 y1 y2 hb1
  go_wp2_with fail
  refine (kOuts_any ap bp np cp dp ys _ HO1.out HO12.out HY.out (by omega)).mono ?_
  rintro e w2 ⟨rfl, hb2⟩
  have x0 := (hb2.cell (p := ⟨T, 0, none⟩) (by show T < w1.heap.size; omega)).trans x0'
  have x1 := (hb2.cell (p := ⟨T, 1, none⟩) (by show T < w1.heap.size; omega)).trans x1'
  have y0 := (hb2.cell (p := ⟨T + 1, 0, none⟩) (by show T + 1 < w1.heap.size; omega)).trans y0'
  have y1 := (hb2.cell (p := ⟨T + 1, 1, none⟩) (by show T + 1 < w1.heap.size; omega)).trans y1'
  have HB2 : Hid (Below w0.heap.size w0 w2) := below_blk HB1.out hb2
  clear x0' x1' x2' y0' y1' y2' hb2
  have gd : (t != t) = false := by simp
  go_wp2
  go_loopw [7] (fun i wr => ∃ k : Nat, k ≤ ni ∧ i = .int .i64 k ∧ Below w2.heap.size w2 wr) (fun i _ => ni - (intOf i).toNat)
  case atStart => exact ⟨0, Nat.zero_le _, rfl, Below.refl _ _⟩
  case round =>
    obtain ⟨k, hk, rfl, hbl⟩ := hrel
    have hb0 : Below w0.heap.size w0 wr := below_blk HB2.out hbl
    have hbw : Below T w wr := HB.out.trans (hb0.mono (by omega))
    have z1 := (hbl.cell (p := ⟨T, 1, none⟩) (cell_lt x1)).trans x1
    have z2 := (hbl.cell (p := ⟨T + 1, 1, none⟩) (cell_lt y1)).trans y1
    by_cases hlt : k < ni
    · have hkI : (k : Int) < (ni : Int) := by omega
      have hk0 : (0 : Int) ≤ (k : Int) := by omega
      rcases HI.out.grown hb0 with hnil | ⟨ga, oa, rfl, hra⟩
      · have := HN.out; rw [hnil] at this; simp at this; omega
      rcases HI2.out.grown hb0 with hnil | ⟨gb, ob, rfl, hrb⟩
      · have := HJ.out; rw [hnil] at this; simp at this; omega
      obtain ⟨⟨_, _, i2⟩, iok⟩ := hra k (by rw [HN.out]; exact hlt)
      obtain ⟨⟨_, _, j2⟩, jok⟩ := hrb k (by rw [HJ.out]; exact hlt)
      obtain ⟨e1, e2⟩ := HE.out k hlt
      clear hra hrb
      generalize is.getD k dIn = yi at *
      generalize js.getD k dIn = yj at *
      obtain ⟨a0, a1, a2, a3, a4, a5⟩ := yi
      obtain ⟨b0, b1, b2, b3, b4, b5⟩ := yj
      unfold InD.st at e1
      injection e1 with _ _ _ e3 _ e4
      simp only at e3 e4 e2 i2 j2
      subst e3
      subst e4
      have hl3 := iok.len
      simp only at hl3
      rw [e2] at hl3
      subst hl3
      rcases iok.lies with hnil | ⟨q1, o1, hq1, hr1⟩
      · simp only at hnil; rw [hnil] at e2; cases e2
      rcases jok.lies with hnil | ⟨q2, o2, hq2, hr2⟩
      · simp only at hnil; rw [hnil] at e2; cases e2
      simp only at hq1 hq2 hr1 hr2
      subst hq1
      subst hq2
      have bD : Below wr.heap.size wr wr.drew := (Below.refl _ _).drew
      have HR1 : Hid (Row wr.drew q1 o1 a5) := hr1.grown bD
      have HR2 : Hid (Row wr.drew q2 o2 a5) := hr2.grown bD
      have HL5 : Hid (a5.length = 5) := e2
      have HKX : Hid (wr.drew.cell? ⟨T, 1, none⟩ = some (.slice (some ⟨ga, oa, none⟩) ni ci) ∧ wr.drew.cell? ⟨T + 1, 1, none⟩ = some (.slice (some ⟨gb, ob, none⟩) ni di) ∧ wr.drew.cell? ⟨ga, oa + k * 3 + 2, none⟩ = some (.slice (some ⟨q1, o1, none⟩) 5 a4) ∧ wr.drew.cell? ⟨gb, ob + k * 3 + 2, none⟩ = some (.slice (some ⟨q2, o2, none⟩) 5 b4)) := ⟨z1, z2, i2, j2⟩
      have HBd : Hid (Below w2.heap.size w2 wr.drew) := below_blk hbl bD
      clear bD iok jok hr1 hr2 e2
      go_upto_region 8 with fail
      go_region_held3 (fun w' => w'.cell? ⟨T, 1, none⟩ = some (.slice (some ⟨ga, oa, none⟩) ni ci) ∧ w'.cell? ⟨T + 1, 1, none⟩ = some (.slice (some ⟨gb, ob, none⟩) ni di) ∧ w'.cell? ⟨ga, oa + k * 3 + 2, none⟩ = some (.slice (some ⟨q1, o1, none⟩) 5 a4) ∧ w'.cell? ⟨gb, ob + k * 3 + 2, none⟩ = some (.slice (some ⟨q2, o2, none⟩) 5 b4)) (first | go_keep | with_reducible exact HKX.out | exact keepC4 hb3 HKX.out) ((go_at_call 47; (with_reducible refine (kInts_same q1 o1 q2 o2 5 a4 b4 a5 wr.drew HR1.out HR2.out HL5.out (by omega)).mono ?_); rintro e w3 ⟨rfl, hb3⟩))
      have hb03 := below_blk HBd.out hb3
      go_wp2
      go_roundw
      case rel => exact ⟨k + 1, by omega, by go_num, hb03⟩
      case measure => simp [intOf]; omega
    · go_wp2
      go_ret
      exact ⟨rfl, by rw [HTe.out]; exact hbw⟩
end Go.Proofs.YtffgpepngcnjeabGreatQ

namespace Go.Proofs.YtffgpepngcnjeabGreatQ
open Go.RowKit
set_option maxRecDepth 100000 in
set_option maxHeartbeats 400000 in
theorem pOpen_yes (id : Int) (ao : Option Addr) (n c : Nat) (l : List Int) (w : World) (hm : Mk.isM id = true) (hr : IntsAt w ao l) (hn : l.length = n) (hs : isS l = true) :
    Calls Tryz.prog 41 #[.int .i64 id, .slice ao n c] w fun e w' => e = .returned (.tuple #[.int .i64 (Mk.opn id l), .int .i64 0]) ∧ Below w.heap.size w w' := by
  go_enter Tryz.func41, Tryz.ntmps41
  go_wp2_with fail
  refine (open_yes id ao n c l _ hm hr hn hs).mono ?_
  rintro e w1 ⟨rfl, hb⟩
  go_wp2
  go_ret2
  exact ⟨rfl, hb⟩
theorem keepD5 {w w' : World} {X a : Nat} {p : Nat} {x y z : Value} (hb : Below w.heap.size w w') (h : w.cell? ⟨X, 4, none⟩ = some x ∧ w.cell? ⟨a, p, none⟩ = some y ∧ w.cell? ⟨a, p + 1, none⟩ = some z) : w'.cell? ⟨X, 4, none⟩ = some x ∧ w'.cell? ⟨a, p, none⟩ = some y ∧ w'.cell? ⟨a, p + 1, none⟩ = some z :=
  ⟨(hb.cell (p := ⟨X, 4, none⟩) (cell_lt h.1)).trans h.1, (hb.cell (p := ⟨a, p, none⟩) (cell_lt h.2.1)).trans h.2.1, (hb.cell (p := ⟨a, p + 1, none⟩) (cell_lt h.2.2)).trans h.2.2⟩
set_option maxRecDepth 100000 in
set_option maxHeartbeats 4000000 in
theorem opens_any (s n0 t ch : Int) (ai : Option Addr) (n ci : Nat) (ap : Option Addr) (m cp : Nat) (ak : Option Addr) (ck : Nat) (bi : Option Addr) (di : Nat) (bp : Option Addr) (dp : Nat) (cs : List CoinD) (ys : List (Int × Int)) (js : List InD) (id : Int) (w : World)
    (h1 : InsAt w ai (cs.map fun x => (⟨x.id, x.pos, none, 0, 0, []⟩ : InD))) (hk : RecAt kC w ak cs) (ho1 : OutsAt w ap ys) (h2 : InsAt w bi js) (ho2 : OutsAt w bp ys) (hn : cs.length = n) (hm : ys.length = m) (he : js.map InD.st = cs.map (sgI0 s id)) (hid : idZ t js ys = id) (hkk : ∀ x ∈ cs, Mk.isK s x.br x.ix = true) (h0 : 0 < n) (hn10 : n ≤ 1000) (hm10 : m ≤ 1000) :
    Calls Tryz.prog 17 #[.int .i64 s, .agg #[.int .i64 n0, .int .i64 t, .slice ai n ci, .slice ap m cp, .slice ak n ck, .int .i64 ch], .agg #[.int .i64 t, .slice bi n di, .slice bp m dp]] w fun e w' => e = .returned (.bool true) ∧ Below w.heap.size w w' := by
  have HN : Hid (cs.length = n) := hn
  have HM : Hid (ys.length = m) := hm
  have hjl := congrArg List.length he
  rw [List.length_map, List.length_map, hn] at hjl
  have HJ : Hid (js.length = n) := hjl
  have HRL : Hid ((cs.map fun x => (⟨x.id, x.pos, none, 0, 0, []⟩ : InD)).length = n) := by show _ = _; rw [List.length_map]; exact hn
  have hgt : ∀ k, k < n → (js.getD k dIn).st = sgI0 s id (cs.getD k dN) := fun k hk => by
    have e := congrArg (fun l : List InD => l.getD k dIn) he
    have e1 : (js.map InD.st).getD k dIn = (js.getD k dIn).st := by
      have : k < js.length := by omega
      simp [List.getD, this]
    have e2 : (cs.map (sgI0 s id)).getD k dIn = sgI0 s id (cs.getD k dN) := by
      have : k < cs.length := by omega
      simp [List.getD, this]
    rw [← e1, ← e2]
    exact e
  have HGT : Hid (∀ k, k < n → (js.getD k dIn).st = sgI0 s id (cs.getD k dN)) := hgt
  have HNM : Hid (∀ k, k < n → ((cs.map fun x => (⟨x.id, x.pos, none, 0, 0, []⟩ : InD)).getD k dIn).id = (js.getD k dIn).id ∧ ((cs.map fun x => (⟨x.id, x.pos, none, 0, 0, []⟩ : InD)).getD k dIn).pos = (js.getD k dIn).pos) := fun k hk => by
    have e := hgt k hk
    have e2 : (cs.map fun x => (⟨x.id, x.pos, none, 0, 0, []⟩ : InD)).getD k dIn = ⟨(cs.getD k dN).id, (cs.getD k dN).pos, none, 0, 0, []⟩ := by
      have : k < cs.length := by omega
      simp [List.getD, this]
    rw [e2]
    unfold InD.st sgI0 at e
    injection e with e3 e4
    exact ⟨e3.symm, e4.symm⟩
  have HKK : Hid (∀ x ∈ cs, Mk.isK s x.br x.ix = true) := hkk
  have HIM : Hid (Mk.isM id = true) := by rw [← hid]; exact idZ_bd _ _ _
  have HID : Hid (idZ t js ys = id) := hid
  have bA : Below w.heap.size w ((w.alloc (.cells #[.int .i64 n0, .int .i64 t, .slice ai n ci, .slice ap m cp, .slice ak n ck, .int .i64 ch] 38)).alloc (.cells #[.int .i64 t, .slice bi n di, .slice bp m dp] 35)) := ((Below.refl _ _).alloc (Nat.le_refl _) _).alloc (by simp) _
  have HI : Hid (InsAt ((w.alloc (.cells #[.int .i64 n0, .int .i64 t, .slice ai n ci, .slice ap m cp, .slice ak n ck, .int .i64 ch] 38)).alloc (.cells #[.int .i64 t, .slice bi n di, .slice bp m dp] 35)) ai (cs.map fun x => (⟨x.id, x.pos, none, 0, 0, []⟩ : InD))) := h1.grown bA
  have HK : Hid (RecAt kC ((w.alloc (.cells #[.int .i64 n0, .int .i64 t, .slice ai n ci, .slice ap m cp, .slice ak n ck, .int .i64 ch] 38)).alloc (.cells #[.int .i64 t, .slice bi n di, .slice bp m dp] 35)) ak cs) := hk.grown bA
  have HO : Hid (OutsAt ((w.alloc (.cells #[.int .i64 n0, .int .i64 t, .slice ai n ci, .slice ap m cp, .slice ak n ck, .int .i64 ch] 38)).alloc (.cells #[.int .i64 t, .slice bi n di, .slice bp m dp] 35)) ap ys) := ho1.grown bA
  have HI2 : Hid (InsAt ((w.alloc (.cells #[.int .i64 n0, .int .i64 t, .slice ai n ci, .slice ap m cp, .slice ak n ck, .int .i64 ch] 38)).alloc (.cells #[.int .i64 t, .slice bi n di, .slice bp m dp] 35)) bi js) := h2.grown bA
  have HO2 : Hid (OutsAt ((w.alloc (.cells #[.int .i64 n0, .int .i64 t, .slice ai n ci, .slice ap m cp, .slice ak n ck, .int .i64 ch] 38)).alloc (.cells #[.int .i64 t, .slice bi n di, .slice bp m dp] 35)) bp ys) := ho2.grown bA
  have HB : Hid (Below w.heap.size w ((w.alloc (.cells #[.int .i64 n0, .int .i64 t, .slice ai n ci, .slice ap m cp, .slice ak n ck, .int .i64 ch] 38)).alloc (.cells #[.int .i64 t, .slice bi n di, .slice bp m dp] 35))) := bA
  have HVA : Hid (VB ((w.alloc (.cells #[.int .i64 n0, .int .i64 t, .slice ai n ci, .slice ap m cp, .slice ak n ck, .int .i64 ch] 38)).alloc (.cells #[.int .i64 t, .slice bi n di, .slice bp m dp] 35)) w.heap.size (.int .i64 n0) (.int .i64 t) (.slice ai n ci) (.slice ap m cp) (.slice ak n ck) (.int .i64 ch)) := (VB.new w _ _ _ _ _ _ 38).grown ((Below.refl _ _).alloc (Nat.le_refl _) _)
  have HVB : Hid (V3 ((w.alloc (.cells #[.int .i64 n0, .int .i64 t, .slice ai n ci, .slice ap m cp, .slice ak n ck, .int .i64 ch] 38)).alloc (.cells #[.int .i64 t, .slice bi n di, .slice bp m dp] 35)) (w.heap.size + 1) (.int .i64 t) (.slice bi n di) (.slice bp m dp)) := by
    have := V3.new (w.alloc (.cells #[.int .i64 n0, .int .i64 t, .slice ai n ci, .slice ap m cp, .slice ak n ck, .int .i64 ch] 38)) (.int .i64 t) (.slice bi n di) (.slice bp m dp) 35
    rwa [World.size_alloc] at this
  clear hn hm hjl he hid hkk h1 hk ho1 h2 ho2 bA hgt
  go_enter Tryz.func17, Tryz.ntmps17
  go_upto_region 1 with fail
  generalize (w.alloc (.cells #[.int .i64 n0, .int .i64 t, .slice ai n ci, .slice ap m cp, .slice ak n ck, .int .i64 ch] 38)).alloc (.cells #[.int .i64 t, .slice bi n di, .slice bp m dp] 35) = w0 at *
  generalize hT : w.heap.size = T at *
  have HTe : Hid (w.heap.size = T) := hT
  clear hT
  have hTl : T < w0.heap.size := cell_lt HVA.out.c0
  have hTl2 : T + 1 < w0.heap.size := cell_lt HVB.out.c0
  obtain ⟨x0, x1, x2, x3, x4, x5, _⟩ := HVA.out
  obtain ⟨y0, y1, y2, _⟩ := HVB.out
  go_wp2_with fail
  refine (namesG_any ai bi n ci di _ js _ HI.out HI2.out HRL.out HJ.out HNM.out h0 hn10).mono ?_
  rintro e w1 ⟨rfl, hb1⟩
  have HB1 : Hid (Below w0.heap.size w0 w1) := hb1
  have HVA1 : Hid (VB w1 T (.int .i64 n0) (.int .i64 t) (.slice ai n ci) (.slice ap m cp) (.slice ak n ck) (.int .i64 ch)) := HVA.out.grown hb1
  have HVB1 : Hid (V3 w1 (T + 1) (.int .i64 t) (.slice bi n di) (.slice bp m dp)) := HVB.out.grown hb1
  have HO1 : Hid (OutsAt w1 ap ys) := HO.out.grown hb1
  have HO12 : Hid (OutsAt w1 bp ys) := HO2.out.grown hb1
  have hz1 := hb1.size
  clear x0 x1 x2 x3 x4 x5 y0 y1 y2 hb1 HVA HVB
  obtain ⟨x0, x1, x2, x3, x4, x5, _⟩ := HVA1.out
  obtain ⟨y0, y1, y2, _⟩ := HVB1.out
  go_wp2_with fail
  refine (kOuts_any ap bp m cp dp ys _ HO1.out HO12.out HM.out (by omega)).mono ?_
  rintro e w2 ⟨rfl, hb2⟩
  have HB2 : Hid (Below w0.heap.size w0 w2) := below_blk HB1.out hb2
  have HVA2 : Hid (VB w2 T (.int .i64 n0) (.int .i64 t) (.slice ai n ci) (.slice ap m cp) (.slice ak n ck) (.int .i64 ch)) := HVA1.out.grown hb2
  have HVB2 : Hid (V3 w2 (T + 1) (.int .i64 t) (.slice bi n di) (.slice bp m dp)) := HVB1.out.grown hb2
  have HI2' : Hid (InsAt w2 bi js) := HI2.out.grown HB2.out
  have HO2' : Hid (OutsAt w2 bp ys) := HO2.out.grown HB2.out
  clear x0 x1 x2 x3 x4 x5 y0 y1 y2 hb2 HVA1 HVB1 HO1 HO12
  obtain ⟨x0, x1, x2, x3, x4, x5, _⟩ := HVA2.out
  obtain ⟨y0, y1, y2, _⟩ := HVB2.out
  have gd : (t != t) = false := by simp
  have gn : ((n : Int) == 0) = false := by simp; omega
  have gm : ((n : Int) != (n : Int)) = false := by simp
  go_wp2_with fail
  refine (pId_any t bi n di bp m dp js ys _ HI2'.out HJ.out HO2'.out HM.out).mono ?_
  rw [HID.out]
  rintro e w3 ⟨rfl, hb3⟩
  have HB3 : Hid (Below w0.heap.size w0 w3) := below_blk HB2.out hb3
  have HVA3 : Hid (VB w3 T (.int .i64 n0) (.int .i64 t) (.slice ai n ci) (.slice ap m cp) (.slice ak n ck) (.int .i64 ch)) := HVA2.out.grown hb3
  have HVB3 : Hid (V3 w3 (T + 1) (.int .i64 t) (.slice bi n di) (.slice bp m dp)) := HVB2.out.grown hb3
  clear x0 x1 x2 x3 x4 x5 y0 y1 y2 hb3 HVA2 HVB2 HI2' HO2'
  go_wp2
  go_loopw [10] (fun i wr => ∃ k : Nat, k ≤ n ∧ i = .int .i64 k ∧ Below w3.heap.size w3 wr) (fun i _ => n - (intOf i).toNat)
  case atStart => exact ⟨0, Nat.zero_le _, rfl, Below.refl _ _⟩
  case round =>
    obtain ⟨k, hk, rfl, hbl⟩ := hrel
    have hb0 : Below w0.heap.size w0 wr := below_blk HB3.out hbl
    have hbw : Below T w wr := HB.out.trans (hb0.mono (by omega))
    have x4 := (HVA3.out.grown hbl).c4
    have y1 := (HVB3.out.grown hbl).c1
    by_cases hlt : k < n
    · have hkI : (k : Int) < (n : Int) := by omega
      have hk0 : (0 : Int) ≤ (k : Int) := by omega
      rcases HI2.out.grown hb0 with hnil | ⟨gb, ob, rfl, hrb⟩
      · have := HJ.out; rw [hnil] at this; simp at this; omega
      rcases HK.out.grown hb0 with hnil | ⟨gk, ok, rfl, hrk⟩
      · have := HN.out; rw [hnil] at this; simp at this; omega
      obtain ⟨⟨_, _, j2⟩, jok⟩ := hrb k (by rw [HJ.out]; exact hlt)
      have k0c : wr.cell? ⟨gk, ok + k * 2, none⟩ = some (.int .i64 (cs.getD k dN).br) := rcell kC2 dN hrk k (by rw [HN.out]; exact hlt) 0 (by omega)
      have k1c : wr.cell? ⟨gk, ok + k * 2 + 1, none⟩ = some (.int .i64 (cs.getD k dN).ix) := rcell kC2 dN hrk k (by rw [HN.out]; exact hlt) 1 (by omega)
      have e1 := HGT.out k hlt
      have hkey := HKK.out _ (getD_mem cs dN k (by rw [HN.out]; exact hlt))
      clear hrb hrk
      generalize cs.getD k dN = yc at *
      generalize js.getD k dIn = yj at *
      obtain ⟨b0, b1, b2, b3, b4, b5⟩ := yj
      unfold InD.st sgI0 at e1
      injection e1 with _ _ _ e3 _ e4
      simp only at e3 e4 j2
      subst e3
      generalize hbr : yc.br = br at *
      generalize hix : yc.ix = ix at *
      clear hbr hix
      have HSL : Hid (IntsAt wr b2 b5) := jok.lies
      have HSN : Hid (b5.length = 5) := by show _ = _; rw [e4]; exact Mk.sealL_len _ _ _ _
      have HSS : Hid (isS b5 = true) := by show _ = _; rw [e4]; exact seal_isS _ _ _ _
      have HOP : Hid (Mk.opn id b5 = Mk.adr s br ix) := by show _ = _; rw [e4]; exact Mk.opn_seal _ _ _ _ _ rfl
      have HKE : Hid (Mk.isK s br ix = true) := hkey
      clear jok e4 hkey
      go_wp2_with fail
      refine (pOpen_yes id b2 5 b4 b5 _ HIM.out HSL.out HSN.out HSS.out).mono ?_
      rw [HOP.out]
      rintro e w4 ⟨rfl, hb4⟩
      have hb34 : Below w3.heap.size w3 w4 := below_blk hbl hb4
      have bD : Below w4.heap.size w4 w4.drew := (Below.refl _ _).drew
      have k0' := (hb4.cell (p := ⟨gk, ok + k * 2, none⟩) (cell_lt k0c)).trans k0c
      have k1' := (hb4.cell (p := ⟨gk, ok + k * 2 + 1, none⟩) (cell_lt k1c)).trans k1c
      have x4' := (hb4.cell (p := ⟨T, 4, none⟩) (cell_lt x4)).trans x4
      have HKX : Hid (w4.drew.cell? ⟨T, 4, none⟩ = some (.slice (some ⟨gk, ok, none⟩) n ck) ∧ w4.drew.cell? ⟨gk, ok + k * 2, none⟩ = some (.int .i64 br) ∧ w4.drew.cell? ⟨gk, ok + k * 2 + 1, none⟩ = some (.int .i64 ix)) := ⟨x4', k0', k1'⟩
      have HBd : Hid (Below w3.heap.size w3 w4.drew) := below_blk hb34 bD
      clear bD k0c k1c x4 y1 j2 hb4
      go_upto_region 10 with fail
      go_region_held3 (fun w' => w'.cell? ⟨T, 4, none⟩ = some (.slice (some ⟨gk, ok, none⟩) n ck) ∧ w'.cell? ⟨gk, ok + k * 2, none⟩ = some (.int .i64 br) ∧ w'.cell? ⟨gk, ok + k * 2 + 1, none⟩ = some (.int .i64 ix)) (first | go_keep | with_reducible exact HKX.out | exact keepD5 hb5 HKX.out) ((go_at_call 32; (with_reducible refine (pAddress_yes s br ix w4.drew HKE.out).mono ?_); rintro e w5 ⟨rfl, hb5⟩))
      have hb05 := below_blk HBd.out hb5
      have ga : (Mk.adr s br ix != Mk.adr s br ix) = false := by simp
      go_wp2
      go_roundw
      case rel => exact ⟨k + 1, by omega, by go_num, hb05⟩
      case measure => simp [intOf]; omega
    · go_wp2
      go_ret
      exact ⟨rfl, by rw [HTe.out]; exact hbw⟩
end Go.Proofs.YtffgpepngcnjeabGreatQ

namespace Go.Proofs.YtffgpepngcnjeabGreatQ
open Go.RowKit
theorem ab_this {N : Nat → Prop} {b o base : Nat} {vs : Value} {md nx : Int} {ks : List (Int × Int)} {p : PayD} {k er : Int} {w w' : World} (hk : p.num = k) (h : AbOk N b o base vs md nx [p] ks k er w w') : er = 0 ∧ ∃ vl', LsAt N w' b o base vl' vs md nx [] ks ∧ Fr (fun q => q = b) w w' ∧ (∀ q, vl'.ownBlock = some q → w.heap.size ≤ q) ∧ (∀ j, j ≠ o → w'.cell? ⟨b, j, none⟩ = w.cell? ⟨b, j, none⟩) := by
  have e : leftZ [p] k = [] := by unfold leftZ; simp [hk]
  rcases h with ⟨h1, _⟩ | ⟨_, h2, vl', h3, h4⟩
  · rw [e] at h1; simp at h1
  · rw [e] at h3
    exact ⟨h2, vl', h3, h4⟩
theorem sg_err {N : Nat → Prop} {b o base : Nat} {vl vs : Value} {md nx : Int} {ps : List PayD} {ks : List (Int × Int)} {xs : List Cel} {s n x : Int} {v0 v1 v2 : Value} {er : Int} {w w' : World} (hz : signZ xs ps ks n = .inl x) (h : SignOk N b o base vl vs md nx ps ks xs s n v0 v1 v2 er w w') : er = x ∧ v0 = .int .i64 0 ∧ v1 = .slice none 0 0 ∧ v2 = .slice none 0 0 ∧ Below w.heap.size w w' := by
  rcases h with ⟨y, h1, h2, h3, h4, h5, h6⟩ | ⟨j, L, h1, _⟩
  · rw [hz] at h1
    injection h1 with h1
    exact ⟨by rw [h2, h1], h3, h4, h5, h6⟩
  · rw [hz] at h1; cases h1
theorem sgz_none (xs : List Cel) (ks : List (Int × Int)) (n : Int) : signZ xs [] ks n = .inl 11 := by
  unfold signZ
  rw [if_pos (by unfold pfindZ idxOf; omega)]
theorem sgz_other {xs : List Cel} {ks : List (Int × Int)} {p : PayD} {n : Int} (hn : p.num ≠ n) : signZ xs [p] ks n = .inl 11 := by
  unfold signZ
  rw [if_pos]
  unfold pfindZ
  rw [idxOf, if_neg (by simpa using hn)]
  unfold idxOf
  omega
theorem sgz_again {xs : List Cel} {ks : List (Int × Int)} {p : PayD} (hn : p.num = 0) : signZ xs [p.on] ks 0 = .inr 0 := by
  have hf : pfindZ [p.on] 0 = 0 := by
    unfold pfindZ
    rw [idxOf, if_pos (by show (p.num == 0) = true; rw [hn]; rfl)]
    rfl
  unfold signZ
  rw [hf]
  have hg : ([p.on].getD (0 : Int).toNat dP) = p.on := rfl
  rw [hg, if_neg (by omega), if_neg (by rintro ⟨e, _⟩; cases e), if_neg (by rintro ⟨e, _⟩; cases e)]
  rfl
theorem sg_first {N : Nat → Prop} {b o base : Nat} {vl vs : Value} {md nx : Int} {p : PayD} {ks : List (Int × Int)} {xs : List Cel} {s n : Int} {v0 v1 v2 : Value} {er : Int} {w w' : World} (hz : signZ xs [p] ks n = .inr 0) (hs : p.sg = false) (h : SignOk N b o base vl vs md nx [p] ks xs s n v0 v1 v2 er w w') : er = 0 ∧ v0 = .int .i64 p.tag ∧ ∃ L vs' New, SgTx w.heap.size s p v1 v2 L w' ∧ SgL N b o base vl vs vs' md nx [p] [p.on] ks (addKeysZ ks p.cs) w w' New := by
  rcases h with ⟨y, h1, _⟩ | ⟨j, L, h1, hj, h2, h3, h4, h5⟩
  · rw [hz] at h1; cases h1
  · rw [hz] at h1
    injection h1 with h1
    subst h1
    rcases h5 with ⟨h5, _⟩ | ⟨_, vs', h6⟩
    · rw [show ([p].getD 0 dP) = p from rfl, hs] at h5; cases h5
    · exact ⟨h2, h3, L, vs', _, h4, h6⟩
theorem sg_again {N : Nat → Prop} {b o base : Nat} {vl vs : Value} {md nx : Int} {p : PayD} {ks : List (Int × Int)} {xs : List Cel} {s n : Int} {v0 v1 v2 : Value} {er : Int} {w w' : World} (hz : signZ xs [p.on] ks n = .inr 0) (h : SignOk N b o base vl vs md nx [p.on] ks xs s n v0 v1 v2 er w w') : er = 0 ∧ v0 = .int .i64 p.tag ∧ ∃ L, SgTx w.heap.size s p.on v1 v2 L w' ∧ Below w.heap.size w w' := by
  rcases h with ⟨y, h1, _⟩ | ⟨j, L, h1, hj, h2, h3, h4, h5⟩
  · rw [hz] at h1; cases h1
  · rw [hz] at h1
    injection h1 with h1
    subst h1
    rcases h5 with ⟨_, h5⟩ | ⟨h5, _⟩
    · exact ⟨h2, h3, L, h4, h5⟩
    · cases h5
/-- what the walk keeps: the scene, the request, the payment as it was told -/
structure AcI (K : Nat → Prop) (S P X : Nat) (s : Int) (g : Nat) (vi : Value) (ac : Option Addr) (cc : Nat) (kp : List CoinD) (gq : Nat) (ys : List (Int × Int)) (n0 t ch : Int) (v2 v3 v4 : Value) (w0 w : World) : Prop where
  sn : Sn S P s g vi ac cc kp w
  oq : OutsAt w (some ⟨gq, 0, none⟩) ys
  vx : VB w X (.int .i64 n0) (.int .i64 t) v2 v3 v4 (.int .i64 ch)
  hb : Below P w0 w
  hP : P < w.heap.size
  kS : K S
  ka : ∀ x, ac = some x → K x.block
  kq : K gq
  kX : K X
variable {K : Nat → Prop} {S P X : Nat} {s : Int} {g : Nat} {vi : Value} {ac : Option Addr} {cc : Nat} {kp : List CoinD} {gq : Nat} {ys : List (Int × Int)} {n0 t ch : Int} {v2 v3 v4 : Value} {w0 w w' : World}
theorem AcI.fr (u : AcI K S P X s g vi ac cc kp gq ys n0 t ch v2 v3 v4 w0 w) {E : Nat → Prop} (hf : Fr E w w') (hE : ∀ k, K k → ¬ E k) (hP : ∀ k, E k → P ≤ k) : AcI K S P X s g vi ac cc kp gq ys n0 t ch v2 v3 v4 w0 w' :=
  ⟨u.sn.fr hf (hE _ u.kS) (fun x hx => hE _ (u.ka x hx)), outsAt_fr hf u.oq (fun _ x hx => by injection hx with hx; subst hx; exact hE _ u.kq), u.vx.fr hf (hE _ u.kX), u.hb.trans (hf.toBelow P (by have := u.hP; omega) hP), Nat.lt_of_lt_of_le u.hP hf.size, u.kS, u.ka, u.kq, u.kX⟩
theorem AcI.grown (u : AcI K S P X s g vi ac cc kp gq ys n0 t ch v2 v3 v4 w0 w) (hb : Below w.heap.size w w') : AcI K S P X s g vi ac cc kp gq ys n0 t ch v2 v3 v4 w0 w' :=
  u.fr (Fr.of_below hb (fun _ => False)) (fun _ _ h => h) (fun _ h => h.elim)
/-- the lists of the payment as it was told -/
structure AcX (K : Nat → Prop) (x : TxD) (ak : Option Addr) (L : List CoinD) (w : World) : Prop where
  tx : TxOk K w x
  rk : RecAt kC w ak L
  nk : L ≠ [] → ∀ a, ak = some a → K a.block
theorem AcX.fr {x : TxD} {ak : Option Addr} {L : List CoinD} (u : AcX K x ak L w) {E : Nat → Prop} (hf : Fr E w w') (hE : ∀ k, K k → ¬ E k) : AcX K x ak L w' :=
  ⟨u.tx.fr hf hE, rec_fr hf u.rk (fun e a ha => hE _ (u.nk e a ha)), u.nk⟩
theorem AcX.grown {x : TxD} {ak : Option Addr} {L : List CoinD} (u : AcX K x ak L w) (hb : Below w.heap.size w w') : AcX K x ak L w' :=
  u.fr (Fr.of_below hb (fun _ => False)) (fun _ _ h => h)
theorem acx_of {base : Nat} {ai : Option Addr} {n2 ci : Nat} {ap : Option Addr} {n3 cp : Nat} {ak : Option Addr} {n4 ck : Nat} {L : List CoinD} {zs : List (Int × Int)} (t : Int) (h : PdOk base (.slice ai n2 ci) (.slice ap n3 cp) (.slice ak n4 ck) L zs L w) (hK : ∀ k, ((Value.slice ai n2 ci).ownBlock = some k ∨ (Value.slice ap n3 cp).ownBlock = some k ∨ (Value.slice ak n4 ck).ownBlock = some k) → K k) : AcX K ⟨t, ai, n2, ci, ap, n3, cp, L.map fun x => (⟨x.id, x.pos, none, 0, 0, []⟩ : InD), zs⟩ ak L w := by
  have o1 := own_cap h.oi
  have o2 := own_cap h.oo
  refine ⟨⟨inC_insQ (own_atS inC3 h.oi), by show (L.map _).length = n2; rw [List.length_map]; exact o1.1, rec_outs (own_atS kv2 h.oo), o2.1, fun _ a ha => hK _ (Or.inl ?_), fun _ a ha => hK _ (Or.inr (Or.inl ?_)), fun i hi e => ?_⟩, own_atS kC2 h.ok, fun _ a ha => hK _ (Or.inr (Or.inr ?_))⟩
  · simp only at ha; rw [ha]; rfl
  · simp only at ha; rw [ha]; rfl
  · obtain ⟨c, _, rfl⟩ := List.mem_map.1 hi
    exact absurd rfl e
  · rw [ha]; rfl
/-- a signed payment as a transaction -/
theorem sgtx_ok {base : Nat} {p : PayD} {ai : Option Addr} {ni ci : Nat} {ap : Option Addr} {np cp : Nat} {L : List (CoinD × Nat)} (h : SgTx base s p (.slice ai ni ci) (.slice ap np cp) L w) : TxOk (fun k => base ≤ k ∧ k < w.heap.size) w ⟨p.tag, ai, ni, ci, ap, np, cp, L.map (sgIn s p.id), p.ys⟩ := by
  obtain ⟨l1, l2, l3⟩ := h.lens
  refine ⟨h.insAt, by show (L.map _).length = ni; rw [List.length_map]; exact l1, h.outsAt, l3, fun _ a ha => h.own.blk _ (by simp only at ha; rw [ha]; rfl), fun _ a ha => h.oo.blk _ (by simp only at ha; rw [ha]; rfl), fun i hi e a ha => ?_⟩
  obtain ⟨q, hq, rfl⟩ := List.mem_map.1 hi
  have := h.row q hq
  unfold sgIn at ha
  injection ha with ha
  subst ha
  exact ⟨this.2.2.1, this.2.2.2⟩
/-- two signatures of one payment -/
theorem sg_same {s id : Int} {L L2 : List (CoinD × Nat)} (h : L.map Prod.fst = L2.map Prod.fst) (k : Nat) (hk : k < L.length) : ((L.map (sgIn s id)).getD k dIn).st = ((L2.map (sgIn s id)).getD k dIn).st ∧ ((L.map (sgIn s id)).getD k dIn).l.length = 5 := by
  have hl : L.length = L2.length := by have := congrArg List.length h; rwa [List.length_map, List.length_map] at this
  have e1 : (L.map (sgIn s id)).getD k dIn = sgIn s id (L.getD k dQ) := by simp [List.getD, hk]
  have e2 : (L2.map (sgIn s id)).getD k dIn = sgIn s id (L2.getD k dQ) := by simp [List.getD, hl ▸ hk]
  have e3 : (L.getD k dQ).1 = (L2.getD k dQ).1 := by
    have := congrArg (fun l : List CoinD => l.getD k dN) h
    have f1 : (L.map Prod.fst).getD k dN = (L.getD k dQ).1 := by simp [List.getD, hk]
    have f2 : (L2.map Prod.fst).getD k dN = (L2.getD k dQ).1 := by simp [List.getD, hl ▸ hk]
    rw [← f1, ← f2]
    exact this
  rw [e1, e2]
  unfold sgIn InD.st
  simp only [e3]
  exact ⟨trivial, Mk.sealL_len _ _ _ _⟩
theorem keepOX {w w' : World} {S X T : Nat} {a1 x0 x1 x2 x3 x4 x5 t0 t1 t2 : Value} (hb : Below w.heap.size w w') (h : w.cell? ⟨S, 1, none⟩ = some a1 ∧ (w.cell? ⟨X, 0, none⟩ = some x0 ∧ w.cell? ⟨X, 1, none⟩ = some x1 ∧ w.cell? ⟨X, 2, none⟩ = some x2 ∧ w.cell? ⟨X, 3, none⟩ = some x3 ∧ w.cell? ⟨X, 4, none⟩ = some x4 ∧ w.cell? ⟨X, 5, none⟩ = some x5) ∧ w.cell? ⟨T, 0, none⟩ = some t0 ∧ w.cell? ⟨T, 1, none⟩ = some t1 ∧ w.cell? ⟨T, 2, none⟩ = some t2) :
    w'.cell? ⟨S, 1, none⟩ = some a1 ∧ (w'.cell? ⟨X, 0, none⟩ = some x0 ∧ w'.cell? ⟨X, 1, none⟩ = some x1 ∧ w'.cell? ⟨X, 2, none⟩ = some x2 ∧ w'.cell? ⟨X, 3, none⟩ = some x3 ∧ w'.cell? ⟨X, 4, none⟩ = some x4 ∧ w'.cell? ⟨X, 5, none⟩ = some x5) ∧ w'.cell? ⟨T, 0, none⟩ = some t0 ∧ w'.cell? ⟨T, 1, none⟩ = some t1 ∧ w'.cell? ⟨T, 2, none⟩ = some t2 := by
  have k : ∀ {b o : Nat} {v : Value}, w.cell? ⟨b, o, none⟩ = some v → w'.cell? ⟨b, o, none⟩ = some v := fun {b o v} h => (hb.cell (p := ⟨b, o, none⟩) (cell_lt h)).trans h
  obtain ⟨h0, ⟨h1, h2, h3, h4, h5, h6⟩, h7, h8, h9⟩ := h
  exact ⟨k h0, ⟨k h1, k h2, k h3, k h4, k h5, k h6⟩, k h7, k h8, k h9⟩
end Go.Proofs.YtffgpepngcnjeabGreatQ

namespace Go.Proofs.YtffgpepngcnjeabGreatQ
open Go.RowKit
/-- no list is too great for a copy -/
structure TxSm (x : TxD) : Prop where
  n : x.n ≤ 3518437208883
  m : x.m ≤ 8796093022208
  d : x.ap = none → x.d = 0
abbrev OwnTxs (w : World) (base : Nat) (v : Value) (xs : List TxD) : Prop := OwnRec TxD.v 35 3 w base v xs
/-- blocks from B on that are there, but for one row -/
def NB (B : Nat) (w : World) (v : Value) (q : Nat) : Prop := B ≤ q ∧ q < w.heap.size ∧ v.ownBlock ≠ some q
theorem TxOk.weak {N M : Nat → Prop} {w : World} {x : TxD} (h : TxOk N w x) (hm : ∀ k, N k → M k) : TxOk M w x :=
  ⟨h.ins, h.il, h.outs, h.ol, fun e a ha => hm _ (h.na e a ha), fun e a ha => hm _ (h.np e a ha), fun i hi e a ha => hm _ (h.ns i hi e a ha)⟩
theorem fresh_tx {w : World} {B n c m d : Nat} {ai ap : Option Addr} {Q : Nat → InD → Prop} {xs : List InD} {ys : List (Int × Int)} (hf : Fresh w B (.slice ai n c) (.slice ap m d) Q xs ys) (t : Int) : n = xs.length → m = ys.length → TxOk (fun q => B ≤ q ∧ q < w.heap.size) w ⟨t, ai, n, c, ap, m, d, xs, ys⟩ := by
  intro hn hm
  have hr := hf.reads'
  refine ⟨hr.insAt, hn.symm, hr.outsAt, hm.symm, fun _ a ha => ?_, fun _ a ha => ?_, fun i hi _ a ha => ?_⟩
  · exact owns_blk hf.ins a.block (by show (Value.slice ai n c).ownBlock = _; simp only at ha; rw [ha]; rfl)
  · exact owns_blk hf.outs a.block (by show (Value.slice ap m d).ownBlock = _; simp only at ha; rw [ha]; rfl)
  · obtain ⟨j, hj, e⟩ := mem_getD dIn hi
    have := (hf.ok j hj).2.2 a (by rw [← e]; exact ha)
    exact ⟨this.1, this.2.1⟩
theorem fresh_slices {w : World} {B : Nat} {vi vo : Value} {Q : Nat → InD → Prop} {xs : List InD} {ys : List (Int × Int)} (hf : Fresh w B vi vo Q xs ys) : ∃ ai c ap d, vi = .slice ai xs.length c ∧ vo = .slice ap ys.length d := by
  rcases hf.ins.cells with ⟨h1, h2⟩ | ⟨g, c, h1, _⟩
  · rcases hf.outs.cells with ⟨k1, k2⟩ | ⟨g', c', k1, _⟩
    · exact ⟨none, 0, none, 0, by rw [h1, h2]; rfl, by rw [k1, k2]; rfl⟩
    · exact ⟨none, 0, _, c', by rw [h1, h2]; rfl, k1⟩
  · rcases hf.outs.cells with ⟨k1, k2⟩ | ⟨g', c', k1, _⟩
    · exact ⟨_, c, none, 0, h1, by rw [k1, k2]; rfl⟩
    · exact ⟨_, c, _, c', h1, k1⟩
end Go.Proofs.YtffgpepngcnjeabGreatQ

namespace Go.Proofs.YtffgpepngcnjeabGreatQ
open Go.RowKit
set_option maxRecDepth 100000 in
set_option maxHeartbeats 2000000 in
theorem has_any (ao : Option Addr) (n c : Nat) (l : List CoinD) (x : CoinD) (w : World) (hx : RecAt CoinD.l w ao l) (hn : l.length = n) (hm : n ≤ 1000000) :
    Calls Tryz.prog 46 #[.slice ao n c, coinV x] w fun e w' => e = .returned (.bool (hasZ l x)) ∧ Below w.heap.size w w' := by
  have HN : Hid (l.length = n) := hn
  have HX : Hid (RecAt CoinD.l w ao l) := hx
  clear hn hx
  obtain ⟨x0, x1, x2, x3, x4, x5⟩ := x
  go_enter Tryz.func46, Tryz.ntmps46
  go_wp2
  go_loopw [5] (fun i wr => ∃ k : Nat, k ≤ n ∧ i = .int .i64 k ∧ Hid ((l.take k).any (fun y => y.id == x0 && (y.pos == x1 && (y.tt == x2 && y.val == x3))) = false) ∧ wr.cell? ⟨w.heap.size, 0, none⟩ = some (.int .i64 x0) ∧ wr.cell? ⟨w.heap.size, 1, none⟩ = some (.int .i64 x1) ∧ wr.cell? ⟨w.heap.size, 2, none⟩ = some (.int .i64 x2) ∧ wr.cell? ⟨w.heap.size, 3, none⟩ = some (.int .i64 x3) ∧ Below w.heap.size w wr) (fun i _ => n - (intOf i).toNat)
  case atStart => exact ⟨0, Nat.zero_le _, rfl, by show List.any _ _ = false; simp, by go_simp, by go_simp, by go_simp, by go_simp, (Below.refl _ _).alloc (Nat.le_refl _) _⟩
  case round =>
    obtain ⟨k, hk, rfl, hany, b0, b1, b2, b3, hbl⟩ := hrel
    by_cases hlt : k < n
    · rcases HX.out with hnil | ⟨g, off, rfl, hrow⟩
      · have := HN.out; rw [hnil] at this; simp at this; omega
      obtain ⟨a0, a1, a2, a3, a4, a5⟩ := coinCells (hrow.grown hbl) k (by rw [HN.out]; exact hlt)
      have HS : Hid _ := any_no (fun y : CoinD => y.id == x0 && (y.pos == x1 && (y.tt == x2 && y.val == x3))) l dN k (by rw [HN.out]; exact hlt) hany.out
      have HZ : Hid _ := any_yes (fun y : CoinD => y.id == x0 && (y.pos == x1 && (y.tt == x2 && y.val == x3))) l dN k (by rw [HN.out]; exact hlt)
      clear hrow
      generalize l.getD k dN = y at a0 a1 a2 a3 a4 a5 HS HZ
      obtain ⟨y0, y1, y2, y3, y4, y5⟩ := y
      simp only at a0 a1 a2 a3 a4 a5
      have k1 : (k : Int) < (n : Int) := by omega
      have k0 : (0 : Int) ≤ (k : Int) := by omega
      clear a4 a5
      cases h0 : (y0 == x0)
      · go_wp2
        go_quiet (fail)
        have hbq : Below w.heap.size w (wr.drewN nq) := ⟨hbl.os, hbl.tape, hbl.output, hbl.size, hbl.block⟩
        have HR : Hid ((wr.drewN nq).cell? ⟨w.heap.size, 0, none⟩ = some (.int .i64 x0) ∧ (wr.drewN nq).cell? ⟨w.heap.size, 1, none⟩ = some (.int .i64 x1) ∧ (wr.drewN nq).cell? ⟨w.heap.size, 2, none⟩ = some (.int .i64 x2) ∧ (wr.drewN nq).cell? ⟨w.heap.size, 3, none⟩ = some (.int .i64 x3)) := ⟨b0, b1, b2, b3⟩
        go_wp2
        go_roundw
        case rel => exact ⟨k + 1, by omega, by go_num, HS.out (by simp [h0]), HR.out.1, HR.out.2.1, HR.out.2.2.1, HR.out.2.2.2, hbq⟩
        case measure => simp [intOf]; omega
      · cases h1 : (y1 == x1)
        · go_wp2
          go_quiet (fail)
          have hbq : Below w.heap.size w (wr.drewN nq) := ⟨hbl.os, hbl.tape, hbl.output, hbl.size, hbl.block⟩
          have HR : Hid ((wr.drewN nq).cell? ⟨w.heap.size, 0, none⟩ = some (.int .i64 x0) ∧ (wr.drewN nq).cell? ⟨w.heap.size, 1, none⟩ = some (.int .i64 x1) ∧ (wr.drewN nq).cell? ⟨w.heap.size, 2, none⟩ = some (.int .i64 x2) ∧ (wr.drewN nq).cell? ⟨w.heap.size, 3, none⟩ = some (.int .i64 x3)) := ⟨b0, b1, b2, b3⟩
          go_wp2
          go_roundw
          case rel => exact ⟨k + 1, by omega, by go_num, HS.out (by simp [h1]), HR.out.1, HR.out.2.1, HR.out.2.2.1, HR.out.2.2.2, hbq⟩
          case measure => simp [intOf]; omega
        · cases h2 : (y2 == x2)
          · go_wp2
            go_quiet (fail)
            have hbq : Below w.heap.size w (wr.drewN nq) := ⟨hbl.os, hbl.tape, hbl.output, hbl.size, hbl.block⟩
            have HR : Hid ((wr.drewN nq).cell? ⟨w.heap.size, 0, none⟩ = some (.int .i64 x0) ∧ (wr.drewN nq).cell? ⟨w.heap.size, 1, none⟩ = some (.int .i64 x1) ∧ (wr.drewN nq).cell? ⟨w.heap.size, 2, none⟩ = some (.int .i64 x2) ∧ (wr.drewN nq).cell? ⟨w.heap.size, 3, none⟩ = some (.int .i64 x3)) := ⟨b0, b1, b2, b3⟩
            go_wp2
            go_roundw
            case rel => exact ⟨k + 1, by omega, by go_num, HS.out (by simp [h2]), HR.out.1, HR.out.2.1, HR.out.2.2.1, HR.out.2.2.2, hbq⟩
            case measure => simp [intOf]; omega
          · cases h3 : (y3 == x3)
            · go_wp2
              go_quiet (fail)
              have hbq : Below w.heap.size w (wr.drewN nq) := ⟨hbl.os, hbl.tape, hbl.output, hbl.size, hbl.block⟩
              have HR : Hid ((wr.drewN nq).cell? ⟨w.heap.size, 0, none⟩ = some (.int .i64 x0) ∧ (wr.drewN nq).cell? ⟨w.heap.size, 1, none⟩ = some (.int .i64 x1) ∧ (wr.drewN nq).cell? ⟨w.heap.size, 2, none⟩ = some (.int .i64 x2) ∧ (wr.drewN nq).cell? ⟨w.heap.size, 3, none⟩ = some (.int .i64 x3)) := ⟨b0, b1, b2, b3⟩
              go_wp2
              go_roundw
              case rel => exact ⟨k + 1, by omega, by go_num, HS.out (by simp [h3]), HR.out.1, HR.out.2.1, HR.out.2.2.1, HR.out.2.2.2, hbq⟩
              case measure => simp [intOf]; omega
            · go_wp2
              go_quiet (fail)
              have hbq : Below w.heap.size w (wr.drewN nq) := ⟨hbl.os, hbl.tape, hbl.output, hbl.size, hbl.block⟩
              go_wp2
              go_ret
              exact ⟨ret_bool (HZ.out (by show (y0 == x0 && (y1 == x1 && (y2 == x2 && y3 == x3))) = true; rw [h0, h1, h2, h3]; rfl)).symm, hbq⟩
    · go_wp2
      go_ret
      exact ⟨ret_bool (any_done _ l n HN.out k (by omega) hany.out), hbl⟩
/-- a block of one transaction -/
theorem blk_one {N : Nat → Prop} {w : World} {x : TxD} (h : TxOk N w x) : BlkAt (fun q => N q ∨ q = w.heap.size) ((w.alloc (.cells #[.int .i64 x.t, .slice x.ai x.n x.c, .slice x.ap x.m x.d] 35)).drew) (some ⟨w.heap.size, 0, none⟩) [x] := by
  have bA : Below w.heap.size w ((w.alloc (.cells #[.int .i64 x.t, .slice x.ai x.n x.c, .slice x.ap x.m x.d] 35)).drew) := ((Below.refl _ _).alloc (Nat.le_refl _) _).drew
  refine ⟨Or.inr ⟨w.heap.size, 0, rfl, ?_⟩, fun _ a ha => ?_, fun y hy => ?_⟩
  · have := VRow.drew (vrow_new w x.v 35)
    simpa [TxD.v] using this
  · injection ha with ha; subst ha; exact Or.inr rfl
  · rw [List.mem_singleton.1 hy]
    exact (h.fr (Fr.of_below bA (fun _ => False)) (fun _ _ h => h)).weak (fun k hk => Or.inl hk)
/-- Connect of one transaction, as a block that was just made -/
theorem conn1 (P : Nat) (s : Int) (g : Nat) (v : Value) (h : Int) (xs : List Cel) (vl vs : Value) (md nx : Int) (N : Nat → Prop) (x : TxD) (er at_ h' : Int) (xs' : List Cel) (w : World)
    (hp : PAe w P s g v h xs vl vs md nx) (hl : xs.length ≤ 5000) (hv : Vals xs) (hh : 0 ≤ h ∧ h ≤ 100) (hx : TxOk N w x) (hN : ∀ k, N k → k < w.heap.size ∧ ¬ chE P v k) (hc : connZ h xs [x] = (er, at_, h', xs')) :
    Calls Tryz.prog 43 #[.pointer (some ⟨P, 0, none⟩), .slice (some ⟨w.heap.size, 0, none⟩) 1 1] ((w.alloc (.cells #[.int .i64 x.t, .slice x.ai x.n x.c, .slice x.ap x.m x.d] 35)).drew) fun e w' => e = .returned (.tuple #[.int .i64 er, .int .i64 at_]) ∧ ∃ v', PAe w' P s g v' h' xs' vl vs md nx ∧ ChStep P v v' w w' := by
  have bA : Below w.heap.size w ((w.alloc (.cells #[.int .i64 x.t, .slice x.ai x.n x.c, .slice x.ap x.m x.d] 35)).drew) := ((Below.refl _ _).alloc (Nat.le_refl _) _).drew
  refine (pConnectE P s g v h xs vl vs md nx (fun q => N q ∨ q = w.heap.size) (some ⟨w.heap.size, 0, none⟩) 1 1 [x] _ (hp.grown bA) hl hv hh (blk_one hx) rfl (fun k hk => ?_) (by omega)).mono ?_
  · have hs : ((w.alloc (.cells #[.int .i64 x.t, .slice x.ai x.n x.c, .slice x.ap x.m x.d] 35)).drew).heap.size = w.heap.size + 1 := by
      show (w.alloc _).heap.size = _
      rw [World.size_alloc]
    rw [hs]
    rcases hk with hk | hk
    · exact ⟨by have := (hN k hk).1; omega, (hN k hk).2⟩
    · subst hk
      exact ⟨by omega, fun e => by have := (hp.blk _ e).2; omega⟩
  · rw [hc]
    rintro e w' ⟨rfl, v', h1, h2⟩
    exact ⟨rfl, v', h1, (ChStep.of_below bA P v).trans h2⟩
/-- what stays behind a step of the chain -/
theorem nE_step {N : Nat → Prop} {P : Nat} {v v' : Value} {w w' : World} (hst : ChStep P v v' w w') (hN : ∀ k, N k → k < w.heap.size ∧ ¬ chE P v k) : ∀ k, N k → k < w'.heap.size ∧ ¬ chE P v' k := fun k hk => by
  refine ⟨Nat.lt_of_lt_of_le (hN k hk).1 hst.fr.size, fun e => ?_⟩
  rcases e with e | e
  · exact (hN k hk).2 (Or.inl e)
  · rcases hst.own k e with e | e
    · exact (hN k hk).2 (Or.inr e)
    · have := (hN k hk).1; omega
/-- a copy of a transaction, in lists of its own -/
theorem copyTxOk (N : Nat → Prop) (x : TxD) (w : World) (hx : TxOk N w x) (hsm : TxSm x) :
    Calls Tryz.prog 42 #[.agg #[.int .i64 x.t, .slice x.ai x.n x.c, .slice x.ap x.m x.d]] w fun e w' => ∃ y : TxD, e = .returned (.agg #[.int .i64 y.t, .slice y.ai y.n y.c, .slice y.ap y.m y.d]) ∧ y.t = x.t ∧ y.ins.map InD.st = x.ins.map InD.st ∧ y.ys = x.ys ∧ TxOk (fun q => w.heap.size ≤ q ∧ q < w'.heap.size) w' y ∧ Below w.heap.size w w' := by
  refine (copyTx_any x.t x.ai x.n x.c x.ap x.m x.d x.ins x.ys w hx.ins hx.il hx.outs hx.ol hsm.n hsm.m hsm.d).mono ?_
  rintro e w1 ⟨vi, vo, xs', rfl, hfr, hxl, hb1⟩
  obtain ⟨ai', ci, ap', di, rfl, rfl⟩ := fresh_slices hfr
  refine ⟨⟨x.t, ai', xs'.length, ci, ap', x.ys.length, di, xs', x.ys⟩, rfl, rfl, ?_, rfl, fresh_tx hfr x.t rfl rfl, hb1⟩
  exact same_st (by rw [hxl]; exact hx.il.symm) (fun j hj => ((hfr.ok j (by rw [hxl]; have := hx.il; omega)).2.1))
end Go.Proofs.YtffgpepngcnjeabGreatQ
