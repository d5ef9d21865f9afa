/-
  A book of payments: a deed in memory; taken, sealed.
  A book of payments and its purse, side by side; sum, free.
  A book of payments: apart.
-/
import Derived.Test.YtffgpepngcnjeabGreatQNaq
import Derived.Deep.RegionHeld3
namespace Go.Proofs.YtffgpepngcnjeabGreatQ
open Go.RowKit
/-- a payment that was made, as its owner keeps it -/
structure DeedD where
  num : Int
  tag : Int
  ai : Option Addr
  n : Nat
  ci : Nat
  ap : Option Addr
  m : Nat
  cp : Nat
  ak : Option Addr
  q : Nat
  ck : Nat
  ch : Int
  t2 : Int
  ti : Option Addr
  tn : Nat
  tc : Nat
  tp : Option Addr
  tm : Nat
  td : Nat
  lv : Bool
  sg : Bool
  cs : List CoinD
  ys : List (Int × Int)
  is : List InD
def dDD : DeedD := ⟨0, 0, none, 0, 0, none, 0, 0, none, 0, 0, 0, 0, none, 0, 0, none, 0, 0, false, false, [], [], []⟩
def DeedD.v (a : DeedD) : List Value := [.int .i64 a.num, .int .i64 a.tag, .slice a.ai a.n a.ci, .slice a.ap a.m a.cp, .slice a.ak a.q a.ck, .int .i64 a.ch, .int .i64 a.t2, .slice a.ti a.tn a.tc, .slice a.tp a.tm a.td, .bool a.lv, .bool a.sg]
theorem deed11 (a : DeedD) : a.v.length = 11 := rfl
theorem deed_one (a : DeedD) : ∀ u ∈ a.v, u.oneCell' = true := by
  intro u hu
  simp only [DeedD.v, List.mem_cons, List.not_mem_nil, or_false] at hu
  rcases hu with rfl | rfl | rfl | rfl | rfl | rfl | rfl | rfl | rfl | rfl | rfl <;> rfl
structure DeedCells (w : World) (b off : Nat) (a : DeedD) : Prop where
  c2 : w.cell? ⟨b, off + 2, none⟩ = some (.slice a.ai a.n a.ci)
  c4 : w.cell? ⟨b, off + 4, none⟩ = some (.slice a.ak a.q a.ck)
  c9 : w.cell? ⟨b, off + 9, none⟩ = some (.bool a.lv)
  c10 : w.cell? ⟨b, off + 10, none⟩ = some (.bool a.sg)
theorem deedCells {w : World} {b off : Nat} {xs : List DeedD} (h : VRow w b off (xs.flatMap DeedD.v)) (j : Nat) (hj : j < xs.length) : DeedCells w b (off + j * 11) (xs.getD j dDD) :=
  ⟨rcell deed11 dDD h j hj 2 (by omega), rcell deed11 dDD h j hj 4 (by omega), rcell deed11 dDD h j hj 9 (by omega), rcell deed11 dDD h j hj 10 (by omega)⟩
/-- its lists, in blocks of N -/
structure DeedOk (N : Nat → Prop) (w : World) (a : DeedD) : Prop where
  ri : RecAt inC w a.ai a.cs
  rk : RecAt kC w a.ak a.cs
  ln : a.cs.length = a.n
  lq : a.q = a.n
  b1 : a.n ≤ 10
  ni : a.cs ≠ [] → ∀ x, a.ai = some x → N x.block
  nk : a.cs ≠ [] → ∀ x, a.ak = some x → N x.block
  ro : OutsAt w a.ap a.ys
  lm : a.ys.length = a.m
  b2 : a.m ≤ 8
  no : a.ys ≠ [] → ∀ x, a.ap = some x → N x.block
  tx : a.sg = true → TxOk N w ⟨a.t2, a.ti, a.tn, a.tc, a.tp, a.tm, a.td, a.is, a.ys⟩
theorem DeedOk.fr {E N : Nat → Prop} {w w' : World} (hf : Fr E w w') {a : DeedD} (h : DeedOk N w a) (hn : ∀ k, N k → ¬ E k) : DeedOk N w' a :=
  ⟨rec_fr hf h.ri (fun e x hx => hn _ (h.ni e x hx)), rec_fr hf h.rk (fun e x hx => hn _ (h.nk e x hx)), h.ln, h.lq, h.b1, h.ni, h.nk, outsAt_fr hf h.ro (fun e x hx => hn _ (h.no e x hx)), h.lm, h.b2, h.no, fun e => (h.tx e).fr hf hn⟩
theorem DeedOk.grown {N : Nat → Prop} {w w' : World} {a : DeedD} (h : DeedOk N w a) (hb : Below w.heap.size w w') : DeedOk N w' a := h.fr (Fr.of_below hb (fun _ => False)) (fun _ _ h => h)
theorem DeedOk.more {M N : Nat → Prop} {w : World} {a : DeedD} (h : DeedOk N w a) (hn : ∀ k, N k → M k) : DeedOk M w a := ⟨h.ri, h.rk, h.ln, h.lq, h.b1, fun e x hx => hn _ (h.ni e x hx), fun e x hx => hn _ (h.nk e x hx), h.ro, h.lm, h.b2, fun e x hx => hn _ (h.no e x hx), fun e => (h.tx e).weak hn⟩
/-- its id -/
def DeedD.id (a : DeedD) : Int := idZ a.tag (a.cs.map fun x => (⟨x.id, x.pos, none, 0, 0, []⟩ : InD)) a.ys
def takenD (ds : List DeedD) (id pos : Int) : Bool := ds.any fun a => a.cs.any fun x => a.lv && (x.id == id && x.pos == pos)
def sealD (ds : List DeedD) (kb ki : Int) : Bool := ds.any fun a => a.cs.any fun x => a.sg && (x.br == kb && x.ix == ki)
set_option maxRecDepth 100000 in
set_option maxHeartbeats 4000000 in
theorem bTaken_any (N : Nat → Prop) (D : Nat) (ao : Option Addr) (n c : Nat) (ms : List DeedD) (x0 x1 : Int) (w : World) (hp : w.cell? ⟨D, 2, none⟩ = some (.slice ao n c)) (hx : RecAt DeedD.v w ao ms) (hn : ms.length = n) (hm : n ≤ 9007199254740992) (hok : ∀ a ∈ ms, DeedOk N w a) :
    Calls Tryz.prog 52 #[.pointer (some ⟨D, 0, none⟩), .int .i64 x0, .int .i64 x1] w fun e w' => e = .returned (.bool (takenD ms x0 x1)) ∧ Below w.heap.size w w' := by
  have HN : Hid (ms.length = n) := hn
  have HX : Hid (RecAt DeedD.v w ao ms) := hx
  have HO : Hid (∀ a ∈ ms, DeedOk N w a) := hok
  have hDl : D < w.heap.size := cell_lt hp
  clear hn hx hok
  go_enter Tryz.func52, Tryz.ntmps52
  go_wp2
  go_loopw [7] (fun i wr => ∃ k : Nat, k ≤ n ∧ i = .int .i64 k ∧ Hid ((ms.take k).any (fun a => a.cs.any fun x => a.lv && (x.id == x0 && x.pos == x1)) = false) ∧ Below w.heap.size w wr) (fun i _ => n - (intOf i).toNat)
  case atStart => exact ⟨0, Nat.zero_le _, rfl, by show List.any _ _ = false; simp, Below.refl _ _⟩
  case round =>
    obtain ⟨k, hk, rfl, hany, hbl⟩ := hrel
    have p0 := (hbl.cell (p := ⟨D, 2, none⟩) hDl).trans hp
    by_cases hlt : k < n
    · rcases HX.out with hnil | ⟨g, off, rfl, hrow⟩
      · have := HN.out; rw [hnil] at this; simp at this; omega
      have HM : Hid _ := deedCells hrow k (by rw [HN.out]; exact hlt)
      have HS : Hid _ := any_no (fun a : DeedD => a.cs.any fun x => a.lv && (x.id == x0 && x.pos == x1)) ms dDD k (by rw [HN.out]; exact hlt) hany.out
      have HZ : Hid _ := any_yes (fun a : DeedD => a.cs.any fun x => a.lv && (x.id == x0 && x.pos == x1)) ms dDD k (by rw [HN.out]; exact hlt)
      have hk0 := HO.out (ms.getD k dDD) (getD_mem ms dDD k (by rw [HN.out]; exact hlt))
      have HCO : Hid (RecAt inC w (ms.getD k dDD).ai (ms.getD k dDD).cs) := hk0.ri
      have HCL : Hid ((ms.getD k dDD).cs.length = (ms.getD k dDD).n) := hk0.ln
      have hb10 : (ms.getD k dDD).n ≤ 10 := hk0.b1
      clear hrow hk0
      generalize ms.getD k dDD = y at *
      obtain ⟨ynum, ytag, yai, yn, yc, yap, ym, yd, yak, yq, ye, ych, yt2, yti, ytn, ytc, ytp, ytm, ytd, ylv, ysg, ycs⟩ := y
      simp only at HM HCO HCL hb10
      have hkI : (k : Int) < (n : Int) := by omega
      have hk0 : (0 : Int) ≤ (k : Int) := by omega
      have m6 := (hbl.cell (p := ⟨g, off + k * 11 + 2, none⟩) (cell_lt HM.out.c2)).trans HM.out.c2
      have m7 := (hbl.cell (p := ⟨g, off + k * 11 + 9, none⟩) (cell_lt HM.out.c9)).trans HM.out.c9
      obtain ⟨wo, rfl⟩ : ∃ wo : World, wo = wr := ⟨_, rfl⟩
      go_wp2
      go_loopw [8] (fun i wr => ∃ j : Nat, j ≤ yn ∧ i = .int .i64 j ∧ Hid ((ycs.take j).any (fun x => ylv && (x.id == x0 && x.pos == x1)) = false) ∧ Below wo.heap.size wo wr) (fun i _ => yn - (intOf i).toNat)
      case atStart => exact ⟨0, Nat.zero_le _, rfl, by show List.any _ _ = false; simp, Below.refl _ _⟩
      case round =>
        obtain ⟨j, hj, rfl, hany2, hbo⟩ := hrel
        have hszo := hbo.size
        have hbw : Below w.heap.size w wr := hbl.trans (hbo.mono hbl.size)
        have q0 := (hbo.cell (p := ⟨D, 2, none⟩) (cell_lt p0)).trans p0
        have q6 := (hbo.cell (p := ⟨g, off + k * 11 + 2, none⟩) (cell_lt m6)).trans m6
        have q7 := (hbo.cell (p := ⟨g, off + k * 11 + 9, none⟩) (cell_lt m7)).trans m7
        by_cases hlt2 : j < yn
        · rcases HCO.out with hnil | ⟨g2, off2, rfl, hrow⟩
          · have := HCL.out; rw [hnil] at this; simp at this; omega
          have hjl : j < ycs.length := by rw [HCL.out]; exact hlt2
          have d0 : wr.cell? ⟨g2, off2 + j * 3, none⟩ = some (.int .i64 (ycs.getD j dN).id) := rcell inC3 dN (hrow.grown hbw) j hjl 0 (by omega)
          have d1 : wr.cell? ⟨g2, off2 + j * 3 + 1, none⟩ = some (.int .i64 (ycs.getD j dN).pos) := rcell inC3 dN (hrow.grown hbw) j hjl 1 (by omega)
          have d2 : wr.cell? ⟨g2, off2 + j * 3 + 2, none⟩ = some (.slice none 0 0) := rcell inC3 dN (hrow.grown hbw) j hjl 2 (by omega)
          have HS2 : Hid _ := any_no (fun x : CoinD => ylv && (x.id == x0 && x.pos == x1)) ycs dN j hjl hany2.out
          have HZ2 : Hid _ := any_yes (fun x : CoinD => ylv && (x.id == x0 && x.pos == x1)) ycs dN j hjl
          have hjI : (j : Int) < (yn : Int) := by omega
          have hj0 : (0 : Int) ≤ (j : Int) := by omega
          clear hrow
          generalize ycs.getD j dN = z at d0 d1 d2 HS2 HZ2
          obtain ⟨z0, z1, z2, z3, z4, z5⟩ := z
          simp only at d0 d1 d2
          have bX : Below wr.heap.size wr (wr.alloc (.cells #[.int .i64 z0, .int .i64 z1, .slice none 0 0] 115)) := (Below.refl _ _).alloc (Nat.le_refl _) _
          have s0 := (bX.cell (p := ⟨D, 2, none⟩) (cell_lt q0)).trans q0
          have s7 := (bX.cell (p := ⟨g, off + k * 11 + 9, none⟩) (cell_lt q7)).trans q7
          have v0 : (wr.alloc (.cells #[.int .i64 z0, .int .i64 z1, .slice none 0 0] 115)).cell? ⟨wr.heap.size, 0, none⟩ = some (.int .i64 z0) := by go_simp
          have v1 : (wr.alloc (.cells #[.int .i64 z0, .int .i64 z1, .slice none 0 0] 115)).cell? ⟨wr.heap.size, 1, none⟩ = some (.int .i64 z1) := by go_simp
          have hb9 : Below wo.heap.size wo (wr.alloc (.cells #[.int .i64 z0, .int .i64 z1, .slice none 0 0] 115)) := hbo.alloc hszo _
          have HBF : Hid (Below w.heap.size w (wr.alloc (.cells #[.int .i64 z0, .int .i64 z1, .slice none 0 0] 115))) := hbl.trans (hb9.mono hbl.size)
          go_upto_region 8 with fail
          clear d0 d1 d2 q0 q6 q7 bX
          generalize wr.alloc (.cells #[.int .i64 z0, .int .i64 z1, .slice none 0 0] 115) = w9 at *
          generalize wr.heap.size = X at *
          cases hlv : ylv
          · go_wp2
            go_roundw
            case rel => exact ⟨j + 1, by omega, by go_num, HS2.out (by rw [hlv]; rfl), hb9⟩
            case measure => simp [intOf]; omega
          · cases h1 : (z0 == x0)
            · go_wp2
              go_roundw
              case rel => exact ⟨j + 1, by omega, by go_num, HS2.out (by simp [h1]), hb9⟩
              case measure => simp [intOf]; omega
            · cases h2 : (z1 == x1)
              · go_wp2
                go_roundw
                case rel => exact ⟨j + 1, by omega, by go_num, HS2.out (by simp [h2]), hb9⟩
                case measure => simp [intOf]; omega
              · go_wp2
                go_ret
                exact ⟨ret_bool (HZ.out (HZ2.out (by show (ylv && (z0 == x0 && z1 == x1)) = true; rw [hlv, h1, h2]; rfl))).symm, HBF.out⟩
        · have HE : Hid _ := any_done (fun x : CoinD => ylv && (x.id == x0 && x.pos == x1)) ycs yn HCL.out j (by omega) hany2.out
          go_wp2
          go_roundw
          case rel => exact ⟨k + 1, by omega, by go_num, HS.out HE.out.symm, hbw⟩
          case measure => simp [intOf]; omega
    · go_wp2
      go_ret
      exact ⟨ret_bool (any_done _ ms n HN.out k (by omega) hany.out), hbl⟩
set_option maxRecDepth 100000 in
set_option maxHeartbeats 4000000 in
theorem bSealed_any (N : Nat → Prop) (D : Nat) (ao : Option Addr) (n c : Nat) (ms : List DeedD) (x0 x1 : Int) (w : World) (hp : w.cell? ⟨D, 2, none⟩ = some (.slice ao n c)) (hx : RecAt DeedD.v w ao ms) (hn : ms.length = n) (hm : n ≤ 9007199254740992) (hok : ∀ a ∈ ms, DeedOk N w a) :
    Calls Tryz.prog 53 #[.pointer (some ⟨D, 0, none⟩), .agg #[.int .i64 x0, .int .i64 x1]] w fun e w' => e = .returned (.bool (sealD ms x0 x1)) ∧ Below w.heap.size w w' := by
  have HN : Hid (ms.length = n) := hn
  have HX : Hid (RecAt DeedD.v w ao ms) := hx
  have HO : Hid (∀ a ∈ ms, DeedOk N w a) := hok
  have hDl : D < w.heap.size := cell_lt hp
  clear hn hx hok
  go_enter Tryz.func53, Tryz.ntmps53
  go_wp2
  go_loopw [5] (fun i wr => ∃ k : Nat, k ≤ n ∧ i = .int .i64 k ∧ Hid ((ms.take k).any (fun a => a.cs.any fun x => a.sg && (x.br == x0 && x.ix == x1)) = false) ∧ wr.cell? ⟨w.heap.size, 0, none⟩ = some (.int .i64 x0) ∧ wr.cell? ⟨w.heap.size, 1, none⟩ = some (.int .i64 x1) ∧ Below w.heap.size w wr) (fun i _ => n - (intOf i).toNat)
  case atStart => exact ⟨0, Nat.zero_le _, rfl, by show List.any _ _ = false; simp, by go_simp, by go_simp, (Below.refl _ _).alloc (Nat.le_refl _) _⟩
  case round =>
    obtain ⟨k, hk, rfl, hany, b0, b1, hbl⟩ := hrel
    have p0 := (hbl.cell (p := ⟨D, 2, none⟩) hDl).trans hp
    by_cases hlt : k < n
    · rcases HX.out with hnil | ⟨g, off, rfl, hrow⟩
      · have := HN.out; rw [hnil] at this; simp at this; omega
      have HM : Hid _ := deedCells hrow k (by rw [HN.out]; exact hlt)
      have HS : Hid _ := any_no (fun a : DeedD => a.cs.any fun x => a.sg && (x.br == x0 && x.ix == x1)) ms dDD k (by rw [HN.out]; exact hlt) hany.out
      have HZ : Hid _ := any_yes (fun a : DeedD => a.cs.any fun x => a.sg && (x.br == x0 && x.ix == x1)) ms dDD k (by rw [HN.out]; exact hlt)
      have hk0 := HO.out (ms.getD k dDD) (getD_mem ms dDD k (by rw [HN.out]; exact hlt))
      have HCO : Hid (RecAt kC w (ms.getD k dDD).ak (ms.getD k dDD).cs) := hk0.rk
      have HCL : Hid ((ms.getD k dDD).cs.length = (ms.getD k dDD).q) := by rw [hk0.lq]; exact hk0.ln
      have hb10 : (ms.getD k dDD).q ≤ 10 := by rw [hk0.lq]; exact hk0.b1
      clear hrow hk0
      generalize ms.getD k dDD = y at *
      obtain ⟨ynum, ytag, yai, yn, yc, yap, ym, yd, yak, yq, ye, ych, yt2, yti, ytn, ytc, ytp, ytm, ytd, ylv, ysg, ycs⟩ := y
      simp only at HM HCO HCL hb10
      have hkI : (k : Int) < (n : Int) := by omega
      have hk0 : (0 : Int) ≤ (k : Int) := by omega
      have m6 := (hbl.cell (p := ⟨g, off + k * 11 + 4, none⟩) (cell_lt HM.out.c4)).trans HM.out.c4
      have m7 := (hbl.cell (p := ⟨g, off + k * 11 + 10, none⟩) (cell_lt HM.out.c10)).trans HM.out.c10
      obtain ⟨wo, rfl⟩ : ∃ wo : World, wo = wr := ⟨_, rfl⟩
      go_wp2
      go_loopw [6] (fun i wr => ∃ j : Nat, j ≤ yq ∧ i = .int .i64 j ∧ Hid ((ycs.take j).any (fun x => ysg && (x.br == x0 && x.ix == x1)) = false) ∧ Below wo.heap.size wo wr) (fun i _ => yq - (intOf i).toNat)
      case atStart => exact ⟨0, Nat.zero_le _, rfl, by show List.any _ _ = false; simp, Below.refl _ _⟩
      case round =>
        obtain ⟨j, hj, rfl, hany2, hbo⟩ := hrel
        have hszo := hbo.size
        have hbw : Below w.heap.size w wr := hbl.trans (hbo.mono hbl.size)
        have q0 := (hbo.cell (p := ⟨D, 2, none⟩) (cell_lt p0)).trans p0
        have q6 := (hbo.cell (p := ⟨g, off + k * 11 + 4, none⟩) (cell_lt m6)).trans m6
        have q7 := (hbo.cell (p := ⟨g, off + k * 11 + 10, none⟩) (cell_lt m7)).trans m7
        have r0 := (hbo.cell (p := ⟨w.heap.size, 0, none⟩) (cell_lt b0)).trans b0
        have r1 := (hbo.cell (p := ⟨w.heap.size, 1, none⟩) (cell_lt b1)).trans b1
        by_cases hlt2 : j < yq
        · rcases HCO.out with hnil | ⟨g2, off2, rfl, hrow⟩
          · have := HCL.out; rw [hnil] at this; simp at this; omega
          have hjl : j < ycs.length := by rw [HCL.out]; exact hlt2
          have d0 : wr.cell? ⟨g2, off2 + j * 2, none⟩ = some (.int .i64 (ycs.getD j dN).br) := rcell kC2 dN (hrow.grown hbw) j hjl 0 (by omega)
          have d1 : wr.cell? ⟨g2, off2 + j * 2 + 1, none⟩ = some (.int .i64 (ycs.getD j dN).ix) := rcell kC2 dN (hrow.grown hbw) j hjl 1 (by omega)
          have HS2 : Hid _ := any_no (fun x : CoinD => ysg && (x.br == x0 && x.ix == x1)) ycs dN j hjl hany2.out
          have HZ2 : Hid _ := any_yes (fun x : CoinD => ysg && (x.br == x0 && x.ix == x1)) ycs dN j hjl
          have hjI : (j : Int) < (yq : Int) := by omega
          have hj0 : (0 : Int) ≤ (j : Int) := by omega
          clear hrow
          generalize ycs.getD j dN = z at d0 d1 HS2 HZ2
          obtain ⟨z0, z1, z2, z3, z4, z5⟩ := z
          simp only at d0 d1
          have bX : Below wr.heap.size wr (wr.alloc (.cells #[.int .i64 z4, .int .i64 z5] 117)) := (Below.refl _ _).alloc (Nat.le_refl _) _
          have s0 := (bX.cell (p := ⟨D, 2, none⟩) (cell_lt q0)).trans q0
          have s7 := (bX.cell (p := ⟨g, off + k * 11 + 10, none⟩) (cell_lt q7)).trans q7
          have t0 := (bX.cell (p := ⟨w.heap.size, 0, none⟩) (cell_lt r0)).trans r0
          have t1 := (bX.cell (p := ⟨w.heap.size, 1, none⟩) (cell_lt r1)).trans r1
          have v0 : (wr.alloc (.cells #[.int .i64 z4, .int .i64 z5] 117)).cell? ⟨wr.heap.size, 0, none⟩ = some (.int .i64 z4) := by go_simp
          have v1 : (wr.alloc (.cells #[.int .i64 z4, .int .i64 z5] 117)).cell? ⟨wr.heap.size, 1, none⟩ = some (.int .i64 z5) := by go_simp
          have hb9 : Below wo.heap.size wo (wr.alloc (.cells #[.int .i64 z4, .int .i64 z5] 117)) := hbo.alloc hszo _
          have HBF : Hid (Below w.heap.size w (wr.alloc (.cells #[.int .i64 z4, .int .i64 z5] 117))) := hbl.trans (hb9.mono hbl.size)
          go_upto_region 8 with fail
          clear d0 d1 q0 q6 q7 r0 r1 bX
          generalize wr.alloc (.cells #[.int .i64 z4, .int .i64 z5] 117) = w9 at *
          generalize wr.heap.size = X at *
          cases hlv : ysg
          · go_wp2
            go_roundw
            case rel => exact ⟨j + 1, by omega, by go_num, HS2.out (by rw [hlv]; rfl), hb9⟩
            case measure => simp [intOf]; omega
          · cases h1 : (z4 == x0)
            · go_wp2
              go_roundw
              case rel => exact ⟨j + 1, by omega, by go_num, HS2.out (by simp [h1]), hb9⟩
              case measure => simp [intOf]; omega
            · cases h2 : (z5 == x1)
              · go_wp2
                go_roundw
                case rel => exact ⟨j + 1, by omega, by go_num, HS2.out (by simp [h2]), hb9⟩
                case measure => simp [intOf]; omega
              · go_wp2
                go_ret
                exact ⟨ret_bool (HZ.out (HZ2.out (by show (ysg && (z4 == x0 && z5 == x1)) = true; rw [hlv, h1, h2]; rfl))).symm, HBF.out⟩
        · have HE : Hid _ := any_done (fun x : CoinD => ysg && (x.br == x0 && x.ix == x1)) ycs yq HCL.out j (by omega) hany2.out
          go_wp2
          go_roundw
          case rel => exact ⟨k + 1, by omega, by go_num, HS.out HE.out.symm, r0, r1, hbw⟩
          case measure => simp [intOf]; omega
    · go_wp2
      go_ret
      exact ⟨ret_bool (any_done _ ms n HN.out k (by omega) hany.out), hbl⟩
end Go.Proofs.YtffgpepngcnjeabGreatQ

namespace Go.Proofs.YtffgpepngcnjeabGreatQ
open Go.RowKit
abbrev BK : Type := Int × List CoinD × Bool × Int × List (Int × Int)
def PayD.b (p : PayD) : BK := (p.num, p.cs, p.sg, p.tag, p.ys)
def DeedD.b (a : DeedD) : BK := (a.num, a.cs, a.sg, a.tag, a.ys)
/-- the live ones are the same; the keys that have sealed are the same -/
structure LkB (s : Int) (ps : List PayD) (ks : List (Int × Int)) (ds : List DeedD) : Prop where
  live : ps.map PayD.b = (ds.filter DeedD.lv).map DeedD.b
  num : ∀ i, i < ds.length → (ds.getD i dDD).num = (i : Nat)
  used : ∀ b i, usedB ks (b, i) = sealD ds b i
  py : ∀ p ∈ ps, PayI s p.tag p.cs p.ys
  sd : ∀ d ∈ ds, d.sg = true → d.t2 = d.tag ∧ d.is.map InD.st = d.cs.map (sgI0 s d.id)
theorem LkB.nil (s : Int) : LkB s [] [] [] := ⟨rfl, fun _ hi => absurd hi (Nat.not_lt_zero _), fun _ _ => rfl, fun _ h => (by cases h), fun _ h => (by cases h)⟩
theorem any_andC (b : Bool) (l : List CoinD) (f : CoinD → Bool) : (b && l.any f) = l.any fun x => b && f x := by
  cases b
  · induction l with
    | nil => rfl
    | cons x r ih => simp at ih ⊢
  · simp
theorem LkB.held {s : Int} {ps : List PayD} {ks : List (Int × Int)} {ds : List DeedD} (h : LkB s ps ks ds) (id pos : Int) : heldB ps id pos = takenD ds id pos := by
  have e1 : heldB ps id pos = (ps.map PayD.b).any fun t => t.2.1.any fun x => x.id == id && x.pos == pos := by
    unfold heldB; rw [List.any_map]; rfl
  have e2 : takenD ds id pos = ((ds.filter DeedD.lv).map DeedD.b).any fun t => t.2.1.any fun x => x.id == id && x.pos == pos := by
    unfold takenD
    rw [List.any_map, List.any_filter]
    congr 1
    funext a
    exact (any_andC a.lv a.cs _).symm
  rw [e1, e2, h.live]
theorem LkB.free {s : Int} {ps : List PayD} {ks : List (Int × Int)} {ds : List DeedD} (h : LkB s ps ks ds) (x : CoinD) : freeB ps ks x = (!takenD ds x.id x.pos && !sealD ds x.br x.ix) := by
  unfold freeB
  rw [h.held, h.used]
theorem LkB.len {s : Int} {ps : List PayD} {ks : List (Int × Int)} {ds : List DeedD} (h : LkB s ps ks ds) : ps.length ≤ ds.length := by
  have := congrArg List.length h.live
  rw [List.length_map, List.length_map] at this
  rw [this]
  exact List.length_filter_le _ _
theorem own_vals (xs : List Cel) (s : Int) (g : Nat) (hv : Vals xs) : ∀ x ∈ ownZ (keysZ xs s g) (coinsC xs), 0 ≤ x.val ∧ x.val ≤ 1099511627776 := ownZ_val _ (fun z => 0 ≤ z ∧ z ≤ 1099511627776) _ (coinsC_val (fun z => 0 ≤ z ∧ z ≤ 1099511627776) xs hv)
/-- a book in block B, its purse in block P -/
structure Bk (NP ND : Nat → Prop) (w : World) (B P : Nat) (s : Int) (g : Nat) (v : Value) (h : Int) (xs : List Cel) (vl vs : Value) (md nx : Int) (ps : List PayD) (ks : List (Int × Int)) (vd : Value) (ds : List DeedD) : Prop where
  pp : PP NP w P s g v h xs vl vs md nx ps ks
  b0 : w.cell? ⟨B, 0, none⟩ = some (.pointer (some ⟨P, 0, none⟩))
  b1 : w.cell? ⟨B, 1, none⟩ = some (.int .i64 s)
  b2 : w.cell? ⟨B, 2, none⟩ = some vd
  fb : ∀ j, w.frozen? ⟨B, j, none⟩ = false
  od : OwnRec DeedD.v 135 11 w (B + 1) vd ds
  ok : ∀ d ∈ ds, DeedOk ND w d
  dj : ∀ k, (chE P v k ∨ lsE P vl vs k ∨ NP k) → k ≠ B ∧ vd.ownBlock ≠ some k ∧ ¬ ND k
  nd : ∀ k, ND k → k < w.heap.size ∧ k ≠ B ∧ vd.ownBlock ≠ some k
variable {NP ND : Nat → Prop} {w : World} {B P : Nat} {s : Int} {g : Nat} {v : Value} {h : Int} {xs : List Cel} {vl vs : Value} {md nx : Int} {ps : List PayD} {ks : List (Int × Int)} {vd : Value} {ds : List DeedD}
theorem Bk.grown {w' : World} (u : Bk NP ND w B P s g v h xs vl vs md nx ps ks vd ds) (hb : Below w.heap.size w w') : Bk NP ND w' B P s g v h xs vl vs md nx ps ks vd ds :=
  ⟨u.pp.grown hb, (hb.cell (p := ⟨B, 0, none⟩) (cell_lt u.b0)).trans u.b0, (hb.cell (p := ⟨B, 1, none⟩) (cell_lt u.b1)).trans u.b1, (hb.cell (p := ⟨B, 2, none⟩) (cell_lt u.b2)).trans u.b2, fun j => (hb.frozen (p := ⟨B, j, none⟩) (show B < w.heap.size from cell_lt u.b0)).trans (u.fb j), u.od.grown hb, fun d hd => (u.ok d hd).grown hb, u.dj, fun k hk => ⟨Nat.lt_of_lt_of_le (u.nd k hk).1 hb.size, (u.nd k hk).2⟩⟩
set_option maxRecDepth 100000 in
set_option maxHeartbeats 1000000 in
theorem kSum_any (ao : Option Addr) (n c : Nat) (cs : List CoinD) (w : World) (hx : RecAt CoinD.l w ao cs) (hn : cs.length = n) (hm : n ≤ 100000) (hv : ∀ x ∈ cs, 0 ≤ x.val ∧ x.val ≤ 1099511627776) :
    Calls Tryz.prog 54 #[.slice ao n c] w fun e w' => e = .returned (.int .i64 (sumC cs)) ∧ Below w.heap.size w w' := by
  have HV : Hid (∀ x ∈ cs, 0 ≤ x.val ∧ x.val ≤ 1099511627776) := hv
  have HA : Hid (RecAt CoinD.l w ao cs) := hx
  have HM : Hid (cs.length = n) := hn
  clear hv hx hn
  go_enter Tryz.func54, Tryz.ntmps54
  go_wp2
  go_loopw [3, 4] (fun v i wr => ∃ (k : Nat) (T : Int), k ≤ n ∧ i = .int .i64 k ∧ v = .int .i64 T ∧ Hid (((cs.take k).map CoinD.val).sum = T) ∧ Below w.heap.size w wr) (fun _ i _ => n - (intOf i).toNat)
  case atStart => exact ⟨0, 0, Nat.zero_le _, rfl, rfl, rfl, Below.refl _ _⟩
  case round =>
    obtain ⟨k, T, hk, rfl, rfl, hT, hbl⟩ := hrel
    by_cases hlt : k < n
    · rcases HA.out with hnil | ⟨gg, off, rfl, hrow⟩
      · have := HM.out; rw [hnil] at this; simp at this; omega
      obtain ⟨c0, c1, c2, c3, c4, c5⟩ := coinCells (hrow.grown hbl) k (by rw [HM.out]; exact hlt)
      have HS : Hid _ := sum_snoc CoinD.val cs dN k (by rw [HM.out]; exact hlt)
      have hSb := sum_bd CoinD.val 1099511627776 (cs.take k) (fun x hx => HV.out x (List.mem_of_mem_take hx))
      have hyb := HV.out (cs.getD k dN) (getD_mem cs dN k (by rw [HM.out]; exact hlt))
      rw [hT.out] at hSb
      have hl2 : (cs.take k).length ≤ 100000 := by rw [List.length_take]; omega
      have hS2 : 0 ≤ T ∧ T ≤ 110000000000000000 := ⟨hSb.1, by omega⟩
      clear hrow hSb hl2
      generalize cs.getD k dN = y at c0 c1 c2 c3 c4 c5 HS hyb
      obtain ⟨y0, y1, y2, yval, y4, y5⟩ := y
      simp only at c0 c1 c2 c3 c4 c5 hyb
      go_wp2
      go_roundw
      case rel => exact ⟨k + 1, T + yval, by omega, by go_num, rfl, by show _ = _; rw [HS.out, hT.out], hbl⟩
      case measure => simp [intOf]; omega
    · have HSe : Hid (sumC cs = T) := by show _ = _; rw [← hT.out, List.take_of_length_le (by rw [HM.out]; omega)]; rfl
      go_wp2
      go_ret
      exact ⟨ret_int HSe.out.symm, hbl⟩
theorem sumF_snoc (p : CoinD → Bool) (cs : List CoinD) (k : Nat) (h : k < cs.length) : sumC ((cs.take (k + 1)).filter p) = sumC ((cs.take k).filter p) + if p (cs.getD k dN) = true then (cs.getD k dN).val else 0 := by
  have e : cs.getD k dN = cs[k] := by simp [List.getD, h]
  rw [List.take_succ_eq_append_getElem h, List.filter_append, e]
  unfold sumC
  rw [List.map_append, List.sum_append]
  congr 1
  by_cases hp : p cs[k] = true
  · rw [if_pos hp, List.filter_cons, if_pos hp]; simp
  · rw [if_neg hp, List.filter_cons, if_neg hp]; simp
set_option maxRecDepth 100000 in
set_option maxHeartbeats 4000000 in
theorem bFree_any (w : World) (u : Bk NP ND w B P s g v h xs vl vs md nx ps ks vd ds) (hlk : LkB s ps ks ds) (hs : Mk.isM s = true) (hg : 1 ≤ g) (hg2 : g ≤ 20) (hxl : xs.length ≤ 5000) (hV : Vals xs) (hdl : ds.length ≤ 1000000000) (hkl : ks.length ≤ 1000000000) :
    Calls Tryz.prog 22 #[.pointer (some ⟨B, 0, none⟩)] w fun e w' => e = .returned (.bool true) ∧ Below w.heap.size w w' := by
  have HU : Hid (Bk NP ND w B P s g v h xs vl vs md nx ps ks vd ds) := u
  have HLK : Hid (LkB s ps ks ds) := hlk
  have b0 := u.b0
  obtain ⟨av, cv, ev, hatv⟩ := u.pp.pu.at
  have HR : Hid (PRow4 w P s g (.slice av xs.length cv) h) := by have := paq_row u.pp.pu; rw [ev] at this; exact this
  have HX : Hid (CelsAt w av xs) := hatv
  have HPM : Hid (PayM NP w P 4 ps ks) := u.pp.ls.payM (by have := hlk.len; omega) (by omega)
  have HOV : Hid (∀ x ∈ ownZ (keysZ xs s g) (coinsC xs), 0 ≤ x.val ∧ x.val ≤ 1099511627776) := own_vals xs s g hV
  have HOL : Hid ((ownZ (keysZ xs s g) (coinsC xs)).length ≤ 5000) := by show _ ≤ _; have := Nat.le_trans (ownZ_len (keysZ xs s g) (coinsC xs)) (coinsC_len xs); omega
  clear u hlk hV hatv ev
  go_enter Tryz.func22, Tryz.ntmps22
  go_wp2_with fail
  refine (pCoins4 P s g av xs.length cv h xs _ hs hg hg2 HR.out HX.out rfl (by omega)).mono ?_
  rintro e w1 ⟨v1, rfl, hown, hb1⟩
  have HU1 : Hid (Bk NP ND w1 B P s g v h xs vl vs md nx ps ks vd ds) := HU.out.grown hb1
  have HR1 : Hid (PRow4 w1 P s g (.slice av xs.length cv) h) := VRow.grown HR.out hb1
  have HX1 : Hid (CelsAt w1 av xs) := HX.out.grown hb1
  have HPM1 : Hid (PayM NP w1 P 4 ps ks) := HPM.out.grown hb1
  obtain ⟨al, cl, rfl, hat⟩ := OwnRec.at coin6 hown
  have HAT1 : Hid (RecAt CoinD.l w1 al (ownZ (keysZ xs s g) (coinsC xs))) := hat
  clear hown hat b0 HU HR HX HPM
  have b0 := HU1.out.b0
  go_wp2_with fail
  refine (pBalance4 NP ps ks P s g av xs.length cv h xs _ hs hg hg2 HR1.out HPM1.out HX1.out rfl (by omega) HOV.out).mono ?_
  rintro e w2 ⟨rfl, hb2⟩
  have HU2 : Hid (Bk NP ND w2 B P s g v h xs vl vs md nx ps ks vd ds) := HU1.out.grown hb2
  have HAT2 : Hid (RecAt CoinD.l w2 al (ownZ (keysZ xs s g) (coinsC xs))) := HAT1.out.grown hb2
  have hb02 := below_blk hb1 hb2
  clear b0 HU1 HR1 HX1 HPM1 HAT1 hb1 hb2
  generalize ownZ (keysZ xs s g) (coinsC xs) = cs at *
  generalize hcn : cs.length = n at *
  have HN : Hid (cs.length = n) := hcn
  have hn5 : n ≤ 5000 := HOL.out
  clear hcn
  generalize hF : sumC (cs.filter (freeB ps ks)) = fr at *
  have HFR : Hid (sumC (cs.filter (freeB ps ks)) = fr) := hF
  clear hF
  generalize hA : sumC cs = al2 at *
  have HAL : Hid (sumC cs = al2) := hA
  clear hA
  obtain ⟨ad, cd, ed, hatd⟩ := OwnRec.at deed11 HU2.out.od
  subst ed
  have HB2 : Hid (w2.cell? ⟨B, 2, none⟩ = some (.slice ad ds.length cd)) := HU2.out.b2
  have HDA : Hid (RecAt DeedD.v w2 ad ds) := hatd
  have HDO : Hid (∀ d ∈ ds, DeedOk ND w2 d) := HU2.out.ok
  clear hatd HU2
  go_wp2
  go_loopw [6, 7] (fun v i wr => ∃ (k : Nat) (T : Int), k ≤ n ∧ i = .int .i64 k ∧ v = .int .i64 T ∧ Hid (sumC ((cs.take k).filter (freeB ps ks)) = T) ∧ Below w2.heap.size w2 wr) (fun _ i _ => n - (intOf i).toNat)
  case atStart => exact ⟨0, 0, Nat.zero_le _, rfl, rfl, rfl, Below.refl _ _⟩
  case round =>
    obtain ⟨k, T, hk, rfl, rfl, hT, hbl⟩ := hrel
    by_cases hlt : k < n
    · have hkl : k < cs.length := by rw [HN.out]; exact hlt
      rcases HAT2.out.grown hbl with hnil | ⟨gg, off, rfl, hrow⟩
      · rw [hnil] at hkl; simp at hkl
      obtain ⟨c0, c1, c2, c3, c4, c5⟩ := coinCells hrow k hkl
      have HS : Hid _ := sumF_snoc (freeB ps ks) cs k hkl
      have hSb := sum_bd CoinD.val 1099511627776 ((cs.take k).filter (freeB ps ks)) (fun x hx => HOV.out x (List.mem_of_mem_take (List.mem_filter.1 hx).1))
      have hyb := HOV.out (cs.getD k dN) (getD_mem cs dN k hkl)
      have hl2 : ((cs.take k).filter (freeB ps ks)).length ≤ 5000 := Nat.le_trans (List.length_filter_le _ _) (by rw [List.length_take]; omega)
      have hT2 : 0 ≤ T ∧ T ≤ 5500000000000000 := by have := hT.out; unfold sumC at this; omega
      have HFE : Hid (freeB ps ks (cs.getD k dN) = (!takenD ds (cs.getD k dN).id (cs.getD k dN).pos && !sealD ds (cs.getD k dN).br (cs.getD k dN).ix)) := HLK.out.free _
      clear hrow hSb hl2
      generalize cs.getD k dN = y at *
      obtain ⟨y0, y1, y2, yval, y4, y5⟩ := y
      simp only at c0 c1 c2 c3 c4 c5 hyb HFE HS
      have hkI : (k : Int) < (n : Int) := by omega
      have hk0 : (0 : Int) ≤ (k : Int) := by omega
      have bD : Below wr.heap.size wr wr.drew := (Below.refl _ _).drew
      have hb2d : Below w2.heap.size w2 wr.drew := below_blk hbl bD
      have HBd : Hid (wr.drew.cell? ⟨B, 2, none⟩ = some (.slice ad ds.length cd)) := (hb2d.cell (p := ⟨B, 2, none⟩) (cell_lt HB2.out)).trans HB2.out
      have HDd : Hid (RecAt DeedD.v wr.drew ad ds) := HDA.out.grown hb2d
      have HOd : Hid (∀ d ∈ ds, DeedOk ND wr.drew d) := fun d hd => (HDO.out d hd).grown hb2d
      have HKX : Hid (wr.cell? ⟨gg, off + k * 6, none⟩ = some (.int .i64 y0) ∧ wr.cell? ⟨gg, off + k * 6 + 1, none⟩ = some (.int .i64 y1)) := ⟨c0, c1⟩
      have HC45 : Hid (wr.cell? ⟨gg, off + k * 6 + 3, none⟩ = some (.int .i64 yval) ∧ wr.cell? ⟨gg, off + k * 6 + 4, none⟩ = some (.int .i64 y4) ∧ wr.cell? ⟨gg, off + k * 6 + 5, none⟩ = some (.int .i64 y5)) := ⟨c3, c4, c5⟩
      go_upto_region 7 with fail
      go_region_held3 (fun w' => w'.cell? ⟨gg, off + k * 6, none⟩ = some (.int .i64 y0) ∧ w'.cell? ⟨gg, off + k * 6 + 1, none⟩ = some (.int .i64 y1)) (first | go_keep | with_reducible exact HKX.out | exact keepB2' hb3 HKX.out) ((go_at_call 52; (with_reducible refine (bTaken_any ND B ad ds.length cd ds y0 y1 wr.drew HBd.out HDd.out rfl (by omega) HOd.out).mono ?_); rintro e w3 ⟨rfl, hb3⟩))
      have b3 : Below wr.heap.size wr w3 := bD.trans hb3
      have hb23 : Below w2.heap.size w2 w3 := below_blk hbl b3
      obtain ⟨e3, e4, e5⟩ := keepB3 b3 HC45.out
      have HC3 : Hid (w3.cell? ⟨gg, off + k * 6 + 3, none⟩ = some (.int .i64 yval)) := e3
      have HKY : Hid (w3.cell? ⟨gg, off + k * 6 + 4, none⟩ = some (.int .i64 y4) ∧ w3.cell? ⟨gg, off + k * 6 + 5, none⟩ = some (.int .i64 y5)) := ⟨e4, e5⟩
      clear bD hb2d HBd HDd HOd HKX HC45 c0 c1 c2 c3 c4 c5 hb3 b3
      have bD : Below w3.heap.size w3 w3.drew := (Below.refl _ _).drew
      have hb2d : Below w2.heap.size w2 w3.drew := below_blk hb23 bD
      have HBd : Hid (w3.drew.cell? ⟨B, 2, none⟩ = some (.slice ad ds.length cd)) := (hb2d.cell (p := ⟨B, 2, none⟩) (cell_lt HB2.out)).trans HB2.out
      have HDd : Hid (RecAt DeedD.v w3.drew ad ds) := HDA.out.grown hb2d
      have HOd : Hid (∀ d ∈ ds, DeedOk ND w3.drew d) := fun d hd => (HDO.out d hd).grown hb2d
      go_upto_region 8 with fail
      go_region_held3 (fun w' => w'.cell? ⟨gg, off + k * 6 + 4, none⟩ = some (.int .i64 y4) ∧ w'.cell? ⟨gg, off + k * 6 + 5, none⟩ = some (.int .i64 y5)) (first | go_keep | with_reducible exact HKY.out | exact keepB2' hb4 HKY.out) ((go_at_call 53; (with_reducible refine (bSealed_any ND B ad ds.length cd ds y4 y5 w3.drew HBd.out HDd.out rfl (by omega) HOd.out).mono ?_); rintro e w4 ⟨rfl, hb4⟩))
      have b4 : Below w3.heap.size w3 w4 := bD.trans hb4
      have hb24 : Below w2.heap.size w2 w4 := below_blk hb23 b4
      have f3 := (b4.cell (p := ⟨gg, off + k * 6 + 3, none⟩) (cell_lt HC3.out)).trans HC3.out
      have hw1 : IntKind.i64.wrap (T + yval) = T + yval := IntWalk.i64_in _ ⟨by omega, by omega⟩
      clear bD hb2d HBd HDd HOd HKY HC3 hb4 b4 e3 e4 e5
      generalize takenD ds y0 y1 = tk at *
      generalize sealD ds y4 y5 = sl at *
      cases tk
      · cases sl
        · have HT3 : Hid (sumC ((cs.take (k + 1)).filter (freeB ps ks)) = T + yval) := by show _ = _; rw [HS.out, HFE.out, hT.out]; rfl
          go_wp2
          go_roundw
          case rel => exact ⟨k + 1, T + yval, by omega, by go_num, rfl, HT3.out, hb24⟩
          case measure => simp [intOf]; omega
        · have HT3 : Hid (sumC ((cs.take (k + 1)).filter (freeB ps ks)) = T) := by show _ = _; rw [HS.out, HFE.out, hT.out]; simp
          go_wp2
          go_roundw
          case rel => exact ⟨k + 1, T, by omega, by go_num, rfl, HT3.out, hb24⟩
          case measure => simp [intOf]; omega
      · have HT3 : Hid (sumC ((cs.take (k + 1)).filter (freeB ps ks)) = T) := by show _ = _; rw [HS.out, HFE.out, hT.out]; simp
        go_wp2
        go_roundw
        case rel => exact ⟨k + 1, T, by omega, by go_num, rfl, HT3.out, hb24⟩
        case measure => simp [intOf]; omega
    · have HTe : Hid (fr = T) := by show _ = _; rw [← hT.out, ← HFR.out, List.take_of_length_le (by rw [HN.out]; omega)]
      have HATr : Hid (RecAt CoinD.l wr al cs) := HAT2.out.grown hbl
      have hkI : ¬ (k : Int) < (n : Int) := by omega
      go_wp2_with fail
      refine (kSum_any al n cl cs _ HATr.out HN.out (by omega) HOV.out).mono ?_
      rw [HAL.out]
      rintro e w5 ⟨rfl, hb5⟩
      have hte := HTe.out
      subst hte
      have HBF : Hid (Below w.heap.size w w5) := below_blk (below_blk hb02 hbl) hb5
      clear hb5
      go_wp2
      go_ret
      exact ⟨rfl, HBF.out⟩
end Go.Proofs.YtffgpepngcnjeabGreatQ

namespace Go.Proofs.YtffgpepngcnjeabGreatQ
open Go.RowKit
set_option maxRecDepth 100000 in
set_option maxHeartbeats 4000000 in
theorem apart_any (ND : Nat → Prop) (B : Nat) (ad : Option Addr) (cd : Nat) (ds : List DeedD) (n0 t ch : Int) (ai : Option Addr) (n ci : Nat) (ap : Option Addr) (np cp : Nat) (ak : Option Addr) (ck : Nat) (L : List CoinD) (al : Option Addr) (nl cl : Nat) (own : List CoinD) (w : World) (b2 : w.cell? ⟨B, 2, none⟩ = some (.slice ad ds.length cd)) (hda : RecAt DeedD.v w ad ds) (hdo : ∀ d ∈ ds, DeedOk ND w d) (hdl : ds.length ≤ 1000000000)
    (hi : RecAt inC w ai L) (hk : RecAt kC w ak L) (hn : L.length = n) (h0 : 0 < n) (h10 : n ≤ 10) (hl : RecAt CoinD.l w al own) (hln : own.length = nl) (hlm : nl ≤ 5000) (hf : ∀ y ∈ L, y ∈ own ∧ takenD ds y.id y.pos = false ∧ sealD ds y.br y.ix = false) (hu : ∀ x ∈ own, ∀ y ∈ own, x.id = y.id → x.pos = y.pos → x = y) (hd : L.Pairwise fun a b => ¬ (a.id = b.id ∧ a.pos = b.pos)) :
    Calls Tryz.prog 56 #[.pointer (some ⟨B, 0, none⟩), .agg #[.int .i64 n0, .int .i64 t, .slice ai n ci, .slice ap np cp, .slice ak n ck, .int .i64 ch], .slice al nl cl] w fun e w' => e = .returned (.bool true) ∧ Below w.heap.size w w' := by
  have hbA : Below w.heap.size w (w.alloc (.cells #[.int .i64 n0, .int .i64 t, .slice ai n ci, .slice ap np cp, .slice ak n ck, .int .i64 ch] 38)) := (Below.refl _ _).alloc (Nat.le_refl _) _
  have HV : Hid (VB (w.alloc (.cells #[.int .i64 n0, .int .i64 t, .slice ai n ci, .slice ap np cp, .slice ak n ck, .int .i64 ch] 38)) w.heap.size (.int .i64 n0) (.int .i64 t) (.slice ai n ci) (.slice ap np cp) (.slice ak n ck) (.int .i64 ch)) := VB.new w _ _ _ _ _ _ 38
  have HB2 : Hid ((w.alloc (.cells #[.int .i64 n0, .int .i64 t, .slice ai n ci, .slice ap np cp, .slice ak n ck, .int .i64 ch] 38)).cell? ⟨B, 2, none⟩ = some (.slice ad ds.length cd)) := (hbA.cell (p := ⟨B, 2, none⟩) (cell_lt b2)).trans b2
  have HDA : Hid (RecAt DeedD.v (w.alloc (.cells #[.int .i64 n0, .int .i64 t, .slice ai n ci, .slice ap np cp, .slice ak n ck, .int .i64 ch] 38)) ad ds) := hda.grown hbA
  have HDO : Hid (∀ d ∈ ds, DeedOk ND (w.alloc (.cells #[.int .i64 n0, .int .i64 t, .slice ai n ci, .slice ap np cp, .slice ak n ck, .int .i64 ch] 38)) d) := fun d hd => (hdo d hd).grown hbA
  have HI0 : Hid (RecAt inC (w.alloc (.cells #[.int .i64 n0, .int .i64 t, .slice ai n ci, .slice ap np cp, .slice ak n ck, .int .i64 ch] 38)) ai L) := hi.grown hbA
  have HK0 : Hid (RecAt kC (w.alloc (.cells #[.int .i64 n0, .int .i64 t, .slice ai n ci, .slice ap np cp, .slice ak n ck, .int .i64 ch] 38)) ak L) := hk.grown hbA
  have HL0 : Hid (RecAt CoinD.l (w.alloc (.cells #[.int .i64 n0, .int .i64 t, .slice ai n ci, .slice ap np cp, .slice ak n ck, .int .i64 ch] 38)) al own) := hl.grown hbA
  have HN : Hid (L.length = n) := hn
  have HLN : Hid (own.length = nl) := hln
  have HF : Hid (∀ y ∈ L, y ∈ own ∧ takenD ds y.id y.pos = false ∧ sealD ds y.br y.ix = false) := hf
  have HUQ : Hid (∀ x ∈ own, ∀ y ∈ own, x.id = y.id → x.pos = y.pos → x = y) := hu
  have HD : Hid (L.Pairwise fun a b => ¬ (a.id = b.id ∧ a.pos = b.pos)) := hd
  have HBA : Hid (Below w.heap.size w (w.alloc (.cells #[.int .i64 n0, .int .i64 t, .slice ai n ci, .slice ap np cp, .slice ak n ck, .int .i64 ch] 38))) := hbA
  clear b2 hda hdo hi hk hl hn hln hf hu hd hbA
  have hn1 : ¬ ((n : Int) = 0) := by omega
  go_enter Tryz.func56, Tryz.ntmps56
  go_upto_region 1 with fail
  generalize w.alloc (.cells #[.int .i64 n0, .int .i64 t, .slice ai n ci, .slice ap np cp, .slice ak n ck, .int .i64 ch] 38) = w0 at *
  generalize hX : w.heap.size = X at *
  have HXe : Hid (w.heap.size = X) := hX
  clear hX
  obtain ⟨b0, b1, b2, b3, b4, b5, _⟩ := HV.out
  have HVS : Hid (w0.cell? ⟨X, 2, none⟩ = some (.slice ai n ci) ∧ w0.cell? ⟨X, 4, none⟩ = some (.slice ak n ck)) := ⟨b2, b4⟩
  have hX0 : X < w0.heap.size := cell_lt b2
  go_wp2
  clear b0 b1 b2 b3 b4 b5 HV
  have hn2 : ((n : Int) == 0) = false := by simpa using hn1
  rw [hn2]
  clear hn2
  go_loopw [7] (fun i wr => ∃ (k : Nat), k ≤ n ∧ i = .int .i64 k ∧ Below w0.heap.size w0 wr) (fun i _ => n - (intOf i).toNat)
  case atStart => exact ⟨0, Nat.zero_le _, rfl, Below.refl _ _⟩
  case round =>
    obtain ⟨k, hk, rfl, hbl⟩ := hrel
    have hsz := hbl.size
    have b2 := (hbl.cell (p := ⟨X, 2, none⟩) hX0).trans HVS.out.1
    have b4 := (hbl.cell (p := ⟨X, 4, none⟩) hX0).trans HVS.out.2
    by_cases hlt : k < n
    · have hkl : k < L.length := by rw [HN.out]; exact hlt
      rcases HI0.out.grown hbl with hnil | ⟨gi, oi, rfl, hri⟩
      · rw [hnil] at hkl; simp at hkl
      rcases HK0.out.grown hbl with hnil | ⟨gk, ok, rfl, hrk⟩
      · rw [hnil] at hkl; simp at hkl
      have i0 : wr.cell? ⟨gi, oi + k * 3, none⟩ = some (.int .i64 (L.getD k dN).id) := rcell inC3 dN hri k hkl 0 (by omega)
      have i1 : wr.cell? ⟨gi, oi + k * 3 + 1, none⟩ = some (.int .i64 (L.getD k dN).pos) := rcell inC3 dN hri k hkl 1 (by omega)
      have i2 : wr.cell? ⟨gi, oi + k * 3 + 2, none⟩ = some (.slice none 0 0) := rcell inC3 dN hri k hkl 2 (by omega)
      have k0 : wr.cell? ⟨gk, ok + k * 2, none⟩ = some (.int .i64 (L.getD k dN).br) := rcell kC2 dN hrk k hkl 0 (by omega)
      have k1 : wr.cell? ⟨gk, ok + k * 2 + 1, none⟩ = some (.int .i64 (L.getD k dN).ix) := rcell kC2 dN hrk k hkl 1 (by omega)
      have HRI : Hid (VRow wr gi oi (L.flatMap inC)) := hri
      obtain ⟨hyo, hyt, hys⟩ := HF.out _ (getD_mem L dN k hkl)
      have HYO : Hid (L.getD k dN ∈ own) := hyo
      have HDJ : Hid (∀ j, j < k → ¬ ((L.getD j dN).id = (L.getD k dN).id ∧ (L.getD j dN).pos = (L.getD k dN).pos)) := fun j hj => by
        have := List.pairwise_iff_getElem.1 HD.out j k (by omega) hkl hj
        simpa [List.getD, hkl, show j < L.length by omega] using this
      clear hri hrk hyo
      generalize L.getD k dN = y at *
      obtain ⟨y0, y1, y2, yv, y4, y5⟩ := y
      simp only at i0 i1 i2 k0 k1 hyt hys
      have hkI : (k : Int) < (n : Int) := by omega
      have hk0 : (0 : Int) ≤ (k : Int) := by omega
      have bA : Below wr.heap.size wr (wr.alloc (.cells #[.int .i64 y0, .int .i64 y1, .slice none 0 0] 115)) := (Below.refl _ _).alloc (Nat.le_refl _) _
      have x0 : (wr.alloc (.cells #[.int .i64 y0, .int .i64 y1, .slice none 0 0] 115)).cell? ⟨wr.heap.size, 0, none⟩ = some (.int .i64 y0) := by go_simp
      have x1 : (wr.alloc (.cells #[.int .i64 y0, .int .i64 y1, .slice none 0 0] 115)).cell? ⟨wr.heap.size, 1, none⟩ = some (.int .i64 y1) := by go_simp
      have HKB : Hid (wr.cell? ⟨X, 2, none⟩ = some (.slice (some ⟨gi, oi, none⟩) n ci) ∧ wr.cell? ⟨X, 4, none⟩ = some (.slice (some ⟨gk, ok, none⟩) n ck) ∧ wr.cell? ⟨gk, ok + k * 2, none⟩ = some (.int .i64 y4) ∧ wr.cell? ⟨gk, ok + k * 2 + 1, none⟩ = some (.int .i64 y5)) := ⟨b2, b4, k0, k1⟩
      go_upto_region 7 with fail
      have HKB1 : Hid _ := keepB4 bA HKB.out
      have hb1 : Below w0.heap.size w0 (wr.alloc (.cells #[.int .i64 y0, .int .i64 y1, .slice none 0 0] 115)) := below_blk hbl bA
      have HRI1 : Hid (VRow (wr.alloc (.cells #[.int .i64 y0, .int .i64 y1, .slice none 0 0] 115)) gi oi (L.flatMap inC)) := HRI.out.grown bA
      clear bA HKB b2 b4 k0 k1 i0 i1 i2 hbl HRI
      generalize wr.alloc (.cells #[.int .i64 y0, .int .i64 y1, .slice none 0 0] 115) = w1 at *
      generalize wr.heap.size = Z at *
      have HB1 : Hid (w1.cell? ⟨B, 2, none⟩ = some (.slice ad ds.length cd)) := (hb1.cell (p := ⟨B, 2, none⟩) (cell_lt HB2.out)).trans HB2.out
      have HDA1 : Hid (RecAt DeedD.v w1 ad ds) := HDA.out.grown hb1
      have HDO1 : Hid (∀ d ∈ ds, DeedOk ND w1 d) := fun d hd => (HDO.out d hd).grown hb1
      go_wp2_with fail
      refine (bTaken_any ND B ad ds.length cd ds y0 y1 _ HB1.out HDA1.out rfl (by omega) HDO1.out).mono ?_
      rw [hyt]
      rintro e w2 ⟨rfl, hb2⟩
      have HKB2 : Hid _ := keepB4 hb2 HKB1.out
      have HX2 : Hid (w2.cell? ⟨Z, 0, none⟩ = some (.int .i64 y0) ∧ w2.cell? ⟨Z, 1, none⟩ = some (.int .i64 y1)) := ⟨(hb2.cell (p := ⟨Z, 0, none⟩) (cell_lt x0)).trans x0, (hb2.cell (p := ⟨Z, 1, none⟩) (cell_lt x1)).trans x1⟩
      have HRI2 : Hid (VRow w2 gi oi (L.flatMap inC)) := HRI1.out.grown hb2
      have hb02 := below_blk hb1 hb2
      clear hb1 hb2 HKB1 x0 x1 HRI1 HB1 HDA1 HDO1
      obtain ⟨q2, q4, j0, j1⟩ := HKB2.out
      have HB1 : Hid (w2.cell? ⟨B, 2, none⟩ = some (.slice ad ds.length cd)) := (hb02.cell (p := ⟨B, 2, none⟩) (cell_lt HB2.out)).trans HB2.out
      have HDA1 : Hid (RecAt DeedD.v w2 ad ds) := HDA.out.grown hb02
      have HDO1 : Hid (∀ d ∈ ds, DeedOk ND w2 d) := fun d hd => (HDO.out d hd).grown hb02
      go_wp2_with fail
      refine (bSealed_any ND B ad ds.length cd ds y4 y5 _ HB1.out HDA1.out rfl (by omega) HDO1.out).mono ?_
      rw [hys]
      rintro e w3 ⟨rfl, hb3⟩
      have HKB3 : Hid _ := keepB4 hb3 HKB2.out
      have HX3 : Hid (w3.cell? ⟨Z, 0, none⟩ = some (.int .i64 y0) ∧ w3.cell? ⟨Z, 1, none⟩ = some (.int .i64 y1)) := keepB2' hb3 HX2.out
      have HRI3 : Hid (VRow w3 gi oi (L.flatMap inC)) := HRI2.out.grown hb3
      have hb03 := below_blk hb02 hb3
      have HL3 : Hid (RecAt CoinD.l w3 al own) := HL0.out.grown hb03
      clear hb02 hb3 HKB2 HX2 HRI2 HB1 HDA1 HDO1 q2 q4 j0 j1
      go_wp2
      go_loopw [11, 12] (fun o i wr => ∃ (j : Nat), j ≤ nl ∧ i = .int .i64 j ∧ o = .bool ((own.take j).any fun c => c.id == y0 && c.pos == y1) ∧ Below w3.heap.size w3 wr) (fun _ i _ => nl - (intOf i).toNat)
      case atStart => exact ⟨0, Nat.zero_le _, rfl, by simp, Below.refl _ _⟩
      case round =>
        obtain ⟨j, hj, rfl, rfl, hbj⟩ := hrel
        obtain ⟨z2, z4, z5, z6⟩ := keepB4 hbj HKB3.out
        obtain ⟨p0, p1⟩ := keepB2' hbj HX3.out
        by_cases hjl : j < nl
        · have hjo : j < own.length := by rw [HLN.out]; exact hjl
          rcases HL3.out.grown hbj with hnil | ⟨gc, oc, rfl, hrow⟩
          · rw [hnil] at hjo; simp at hjo
          obtain ⟨c0, c1, c2, c3, c4, c5⟩ := coinCells hrow j hjo
          have HNX : Hid ((own.take (j + 1)).any (fun c => c.id == y0 && c.pos == y1) = ((own.take j).any (fun c => c.id == y0 && c.pos == y1) || ((own.getD j dN).id == y0 && (own.getD j dN).pos == y1))) := by
            show _ = _
            have e : own.getD j dN = own[j] := by simp [List.getD, hjo]
            rw [List.take_succ_eq_append_getElem hjo, List.any_append, e]
            simp
          have hsame : (own.getD j dN).id = y0 → (own.getD j dN).pos = y1 → (own.getD j dN).br = y4 ∧ (own.getD j dN).ix = y5 := fun e1 e2 => by
            have := HUQ.out _ (getD_mem own dN j hjo) _ HYO.out e1 e2
            rw [this]
            exact ⟨rfl, rfl⟩
          clear hrow c2 c3
          generalize own.getD j dN = u at *
          obtain ⟨u0, u1, u2, u3, u4, u5⟩ := u
          simp only at c0 c1 c4 c5 hsame HNX
          generalize ((own.take j).any fun c => c.id == y0 && c.pos == y1) = bb at *
          have hjI : (j : Int) < (nl : Int) := by omega
          have hj0 : (0 : Int) ≤ (j : Int) := by omega
          cases h1 : (u0 == y0)
          · clear hsame
            go_wp2
            go_quiet (fail)
            go_wp2
            go_roundw
            case rel => exact ⟨j + 1, by omega, by go_num, by rw [HNX.out, h1]; simp, below_drewN hbj _⟩
            case measure => simp [intOf]; omega
          · cases h2 : (u1 == y1)
            · clear hsame
              go_wp2
              go_quiet (fail)
              go_wp2
              go_roundw
              case rel => exact ⟨j + 1, by omega, by go_num, by rw [HNX.out, h2]; simp, below_drewN hbj _⟩
              case measure => simp [intOf]; omega
            · obtain ⟨rfl, rfl⟩ := hsame (by simpa using h1) (by simpa using h2)
              have h3 : (u4 == u4) = true := by simp
              have h4 : (u5 == u5) = true := by simp
              have HBQ : Hid (∀ nq, Below w3.heap.size w3 (wr.drewN nq)) := fun nq => below_drewN hbj nq
              go_wp2
              go_quiet (fail)
              have HBQ2 : Hid (∀ nq', Below w3.heap.size w3 ((wr.drewN nq).drewN nq')) := fun nq' => below_drewN (HBQ.out nq) nq'
              go_wp2
              go_quiet (fail)
              go_wp2
              go_roundw
              case rel => exact ⟨j + 1, by omega, by go_num, by rw [HNX.out, h1, h2]; simp, by first | exact HBQ2.out _ | exact HBQ.out _⟩
              case measure => simp [intOf]; omega
        · have HAL : Hid (((own.take j).any fun c => c.id == y0 && c.pos == y1) = true) := by
            show _ = _
            rw [List.take_of_length_le (by rw [HLN.out]; omega), List.any_eq_true]
            exact ⟨_, HYO.out, by simp⟩
          have hall := HAL.out
          have hjI : ¬ (j : Int) < (nl : Int) := by omega
          rw [hall]
          have HZS : Hid (wr.cell? ⟨Z, 0, none⟩ = some (.int .i64 y0) ∧ wr.cell? ⟨Z, 1, none⟩ = some (.int .i64 y1) ∧ wr.cell? ⟨X, 2, none⟩ = some (.slice (some ⟨gi, oi, none⟩) n ci)) := ⟨p0, p1, z2⟩
          have HRI4 : Hid (VRow wr gi oi (L.flatMap inC)) := HRI3.out.grown hbj
          have hb04 := below_blk hb03 hbj
          clear z2 z4 z5 z6 p0 p1
          go_wp2
          obtain ⟨wi, rfl⟩ : ∃ wi : World, wi = wr := ⟨_, rfl⟩
          go_loopw [13] (fun i wr => ∃ (q : Nat), q ≤ k ∧ i = .int .i64 q ∧ Below wi.heap.size wi wr) (fun i _ => k - (intOf i).toNat)
          case atStart => exact ⟨0, Nat.zero_le _, rfl, Below.refl _ _⟩
          case round =>
            obtain ⟨q, hq, rfl, hbq⟩ := hrel
            by_cases hqk : q < k
            · have hql : q < L.length := by omega
              have hri := HRI4.out.grown hbq
              have a0 : wr.cell? ⟨gi, oi + q * 3, none⟩ = some (.int .i64 (L.getD q dN).id) := rcell inC3 dN hri q hql 0 (by omega)
              have a1 : wr.cell? ⟨gi, oi + q * 3 + 1, none⟩ = some (.int .i64 (L.getD q dN).pos) := rcell inC3 dN hri q hql 1 (by omega)
              obtain ⟨z0, z1, p2⟩ := keepB3 hbq HZS.out
              have hne := HDJ.out q hqk
              clear hri
              generalize (L.getD q dN).id = u0 at *
              generalize (L.getD q dN).pos = u1 at *
              have hqI : (q : Int) < (n : Int) := by omega
              have hq0 : (0 : Int) ≤ (q : Int) := by omega
              have hqkI : (q : Int) < (k : Int) := by omega
              cases h0 : (u0 == y0)
              · go_wp2
                go_quiet (fail)
                go_wp2
                go_roundw
                case rel => exact ⟨q + 1, by omega, by go_num, below_drewN hbq _⟩
                case measure => simp [intOf]; omega
              · have h1 : (u1 == y1) = false := by
                  cases h : (u1 == y1)
                  · rfl
                  · exact absurd ⟨by simpa using h0, by simpa using h⟩ hne
                go_wp2
                go_quiet (fail)
                go_wp2
                go_roundw
                case rel => exact ⟨q + 1, by omega, by go_num, below_drewN hbq _⟩
                case measure => simp [intOf]; omega
            · have hqkI : ¬ (q : Int) < (k : Int) := by omega
              have hb05 := below_blk hb04 hbq
              go_wp2
              go_roundw
              case rel => exact ⟨k + 1, by omega, by go_num, hb05⟩
              case measure => simp [intOf]; omega
    · have hb05 : Below X w wr := HBA.out.trans (hbl.mono (by omega))
      go_wp2
      go_ret
      exact ⟨rfl, by rw [HXe.out]; exact hb05⟩
end Go.Proofs.YtffgpepngcnjeabGreatQ
