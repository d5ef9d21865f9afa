/-
  The payments of a purse in memory; which coins they leave free.
  Package payments: what is held, which keys have sealed, which coins are free.
-/
import Derived.Test.YtffgpepngcnjeaaGreatWatZ
namespace Go.Proofs.YtffgpepngcnjeaaGreat
open Go.RowKit

/-- a live payment -/
structure PayD where
  num : Int
  ac : Option Addr
  nc : Nat
  cc : Nat
  ap : Option Addr
  m : Nat
  d : Nat
  tag : Int
  sg : Bool
  cs : List CoinD
  ys : List (Int × Int)
def dP : PayD := ⟨0, none, 0, 0, none, 0, 0, 0, false, [], []⟩
def PayD.v (x : PayD) : List Value := [.int .i64 x.num, .slice x.ac x.nc x.cc, .slice x.ap x.m x.d, .int .i64 x.tag, .bool x.sg]
theorem pay5 (x : PayD) : x.v.length = 5 := rfl
theorem pay_one (x : PayD) : ∀ u ∈ x.v, u.oneCell' = true := by
  intro u hu
  simp only [PayD.v, List.mem_cons, List.not_mem_nil, or_false] at hu
  rcases hu with rfl | rfl | rfl | rfl | rfl <;> rfl
structure PayCells (w : World) (b off : Nat) (x : PayD) : Prop where
  c0 : w.cell? ⟨b, off, none⟩ = some (.int .i64 x.num)
  c1 : w.cell? ⟨b, off + 1, none⟩ = some (.slice x.ac x.nc x.cc)
  c2 : w.cell? ⟨b, off + 2, none⟩ = some (.slice x.ap x.m x.d)
  c3 : w.cell? ⟨b, off + 3, none⟩ = some (.int .i64 x.tag)
  c4 : w.cell? ⟨b, off + 4, none⟩ = some (.bool x.sg)
theorem payCells {w : World} {b off : Nat} {xs : List PayD} (h : VRow w b off (xs.flatMap PayD.v)) (j : Nat) (hj : j < xs.length) : PayCells w b (off + j * 5) (xs.getD j dP) :=
  ⟨rcell pay5 dP h j hj 0 (by omega), rcell pay5 dP h j hj 1 (by omega), rcell pay5 dP h j hj 2 (by omega), rcell pay5 dP h j hj 3 (by omega), rcell pay5 dP h j hj 4 (by omega)⟩

/-- its coins and outputs, in blocks of N -/
structure PayOk (N : Nat → Prop) (w : World) (x : PayD) : Prop where
  co : RecAt CoinD.l w x.ac x.cs
  cl : x.cs.length = x.nc
  ou : OutsAt w x.ap x.ys
  ol : x.ys.length = x.m
  nc : x.cs ≠ [] → ∀ a, x.ac = some a → N a.block
  np : x.ys ≠ [] → ∀ a, x.ap = some a → N a.block
  b1 : x.nc ≤ 10
  b2 : x.m ≤ 8

theorem rec_fr {α : Type} {f : α → List Value} {E : Nat → Prop} {w w' : World} (hf : Fr E w w') {ao : Option Addr} {l : List α} (h : RecAt f w ao l) (hn : l ≠ [] → ∀ a, ao = some a → ¬ E a.block) : RecAt f w' ao l := by
  by_cases he : l = []
  · exact Or.inl he
  · rcases h with h | ⟨b, off, rfl, hr⟩
    · exact Or.inl h
    · exact Or.inr ⟨b, off, rfl, hf.vrow hr (hn he _ rfl)⟩
theorem outsAt_fr {E : Nat → Prop} {w w' : World} (hf : Fr E w w') {ao : Option Addr} {l : List (Int × Int)} (h : OutsAt w ao l) (hn : l ≠ [] → ∀ a, ao = some a → ¬ E a.block) : OutsAt w' ao l := by
  by_cases he : l = []
  · exact Or.inl he
  · rcases h with h | ⟨b, off, rfl, hr⟩
    · exact Or.inl h
    · exact Or.inr ⟨b, off, rfl, fun j hj => ⟨hf.cell (hr j hj).1 (hn he _ rfl), hf.cell (hr j hj).2 (hn he _ rfl)⟩⟩
theorem PayOk.fr {E N : Nat → Prop} {w w' : World} (hf : Fr E w w') {x : PayD} (h : PayOk N w x) (hn : ∀ k, N k → ¬ E k) : PayOk N w' x :=
  ⟨rec_fr hf h.co (fun e a ha => hn _ (h.nc e a ha)), h.cl, outsAt_fr hf h.ou (fun e a ha => hn _ (h.np e a ha)), h.ol, h.nc, h.np, h.b1, h.b2⟩
theorem PayOk.grown {N : Nat → Prop} {w w' : World} {x : PayD} (h : PayOk N w x) (hb : Below w.heap.size w w') : PayOk N w' x := h.fr (Fr.of_below hb (fun _ => False)) (fun _ _ h => h)

/-- a key -/
def kV (k : Int × Int) : List Value := [.int .i64 k.1, .int .i64 k.2]
theorem kv2 (k : Int × Int) : (kV k).length = 2 := rfl
theorem kv_one (k : Int × Int) : ∀ u ∈ kV k, u.oneCell' = true := by
  intro u hu
  simp only [kV, List.mem_cons, List.not_mem_nil, or_false] at hu
  rcases hu with rfl | rfl <;> rfl
def KvCells (w : World) (b off : Nat) (k : Int × Int) : Prop := w.cell? ⟨b, off, none⟩ = some (.int .i64 k.1) ∧ w.cell? ⟨b, off + 1, none⟩ = some (.int .i64 k.2)
theorem kvCells {w : World} {b off : Nat} {xs : List (Int × Int)} (h : VRow w b off (xs.flatMap kV)) (j : Nat) (hj : j < xs.length) : KvCells w b (off + j * 2) (xs.getD j (0, 0)) :=
  ⟨rcell kv2 (0, 0) h j hj 0 (by omega), rcell kv2 (0, 0) h j hj 1 (by omega)⟩

def heldB (ps : List PayD) (id pos : Int) : Bool := ps.any fun p => p.cs.any fun x => x.id == id && x.pos == pos
def usedB (ks : List (Int × Int)) (k : Int × Int) : Bool := ks.any fun x => x.1 == k.1 && x.2 == k.2
def freeB (ps : List PayD) (ks : List (Int × Int)) (x : CoinD) : Bool := !heldB ps x.id x.pos && !usedB ks (x.br, x.ix)

end Go.Proofs.YtffgpepngcnjeaaGreat
namespace Go.Proofs.YtffgpepngcnjeaaGreat
open Go.RowKit

set_option maxRecDepth 100000 in
set_option maxHeartbeats 2000000 in
theorem holds_any (N : Nat → Prop) (b o : Nat) (ao : Option Addr) (n c : Nat) (ps : List PayD) (id pos : Int) (w : World) (hp : w.cell? ⟨b, o, none⟩ = some (.slice ao n c)) (hx : RecAt PayD.v w ao ps) (hn : ps.length = n) (hm : n ≤ 9007199254740992) (hok : ∀ p ∈ ps, PayOk N w p) :
    Calls Tryz.prog 154 #[.pointer (some ⟨b, o, none⟩), .int .i64 id, .int .i64 pos] w fun e w' => e = .returned (.bool (heldB ps id pos)) ∧ Below w.heap.size w w' := by
  have HN : Hid (ps.length = n) := hn
  have HX : Hid (RecAt PayD.v w ao ps) := hx
  have HO : Hid (∀ p ∈ ps, PayOk N w p) := hok
  clear hn hx hok
  go_enter Tryz.func154, Tryz.ntmps154
  go_wp2
  go_loopw [16] (fun i wr => ∃ k : Nat, k ≤ n ∧ i = .int .i64 k ∧ Hid ((ps.take k).any (fun p => p.cs.any fun x => x.id == id && x.pos == pos) = false) ∧ Below w.heap.size w wr) (fun i _ => n - (intOf i).toNat)
  case atStart => exact ⟨0, Nat.zero_le _, rfl, by show List.any _ _ = false; simp, Below.refl _ _⟩
  case round =>
    obtain ⟨k, hk, rfl, hany, hbl⟩ := hrel
    have hsz := hbl.size
    by_cases hlt : k < n
    · rcases HX.out with hnil | ⟨g, off, rfl, hrow⟩
      · have := HN.out; rw [hnil] at this; simp at this; omega
      obtain ⟨c0, c1, c2, c3, c4⟩ := payCells (hrow.grown hbl) k (by rw [HN.out]; exact hlt)
      have HS : Hid _ := any_no (fun p : PayD => p.cs.any fun x => x.id == id && x.pos == pos) ps dP k (by rw [HN.out]; exact hlt) hany.out
      have HZ : Hid _ := any_yes (fun p : PayD => p.cs.any fun x => x.id == id && x.pos == pos) ps dP k (by rw [HN.out]; exact hlt)
      have hk0 := HO.out (ps.getD k dP) (getD_mem ps dP k (by rw [HN.out]; exact hlt))
      have HCO : Hid _ := hk0.co
      have HCL : Hid _ := hk0.cl
      have hb1 := hk0.b1
      clear hrow hk0
      generalize ps.getD k dP = y at c0 c1 c2 c3 c4 HS HZ HCO HCL hb1
      obtain ⟨ynum, yac, ync, ycc, yap, ym, yd, ytag, ysg, ycs, yys⟩ := y
      simp only at c0 c1 c2 c3 c4 hb1
      have HA : Hid (RecAt CoinD.l w yac ycs) := HCO.out
      have HL : Hid (ycs.length = ync) := HCL.out
      clear HCO HCL
      obtain ⟨wo, rfl⟩ : ∃ wo : World, wo = wr := ⟨_, rfl⟩
      go_wp2
      go_loopw [23] (fun i wr => ∃ j : Nat, j ≤ ync ∧ i = .int .i64 j ∧ Hid ((ycs.take j).any (fun x => x.id == id && x.pos == pos) = false) ∧ Below w.heap.size w wr ∧ Below wo.heap.size wo wr) (fun i _ => ync - (intOf i).toNat)
      case atStart => exact ⟨0, Nat.zero_le _, rfl, by show List.any _ _ = false; simp, hbl.alloc hsz _, (Below.refl _ _).alloc (Nat.le_refl _) _⟩
      case round =>
        obtain ⟨j, hj, rfl, hany2, hbl2, hbo⟩ := hrel
        have hsz2 := hbl2.size
        have hszo := hbo.size
        by_cases hlt2 : j < ync
        · rcases HA.out with hnil | ⟨g2, off2, rfl, hrow⟩
          · have := HL.out; rw [hnil] at this; simp at this; omega
          obtain ⟨d0, d1, d2, d3, d4, d5⟩ := coinCells (hrow.grown hbl2) j (by rw [HL.out]; exact hlt2)
          have HS2 : Hid _ := any_no (fun x : CoinD => x.id == id && x.pos == pos) ycs dN j (by rw [HL.out]; exact hlt2) hany2.out
          have HZ2 : Hid _ := any_yes (fun x : CoinD => x.id == id && x.pos == pos) ycs dN j (by rw [HL.out]; exact hlt2)
          clear hrow
          generalize ycs.getD j dN = z at d0 d1 d2 d3 d4 d5 HS2 HZ2
          obtain ⟨z0, z1, z2, z3, z4, z5⟩ := z
          simp only at d0 d1 d2 d3 d4 d5
          cases h1 : (z0 == id)
          · go_wp2
            go_roundw
            case rel => exact ⟨j + 1, by omega, by go_num, HS2.out (by simp [h1]), hbl2.alloc hsz2 _, hbo.alloc hszo _⟩
            case measure => simp [intOf]; omega
          · cases h2 : (z1 == pos)
            · go_wp2
              go_roundw
              case rel => exact ⟨j + 1, by omega, by go_num, HS2.out (by simp [h2]), hbl2.alloc hsz2 _, hbo.alloc hszo _⟩
              case measure => simp [intOf]; omega
            · go_wp2
              go_ret
              exact ⟨ret_bool (HZ.out (HZ2.out (by show (z0 == id && z1 == pos) = true; rw [h1, h2]; rfl))).symm, hbl2.alloc hsz2 _⟩
        · have HE : Hid _ := any_done (fun x : CoinD => x.id == id && x.pos == pos) ycs ync HL.out j (by omega) hany2.out
          go_wp2
          go_roundw
          case rel => exact ⟨k + 1, by omega, by go_num, HS.out HE.out.symm, hbl2⟩
          case measure => simp [intOf]; omega
    · go_wp2
      go_ret
      exact ⟨ret_bool (any_done _ ps n HN.out k (by omega) hany.out), hbl⟩

set_option maxRecDepth 100000 in
set_option maxHeartbeats 1000000 in
theorem hasSealed_any (b o : Nat) (ao : Option Addr) (n c : Nat) (ks : List (Int × Int)) (kb ki : Int) (w : World) (hp : w.cell? ⟨b, o + 1, none⟩ = some (.slice ao n c)) (hx : RecAt kV w ao ks) (hn : ks.length = n) (hm : n ≤ 9007199254740992) :
    Calls Tryz.prog 155 #[.pointer (some ⟨b, o, none⟩), .agg #[.int .i64 kb, .int .i64 ki]] w fun e w' => e = .returned (.bool (usedB ks (kb, ki))) ∧ Below w.heap.size w w' := by
  have HN : Hid (ks.length = n) := hn
  have HX : Hid (RecAt kV w ao ks) := hx
  clear hn hx
  have hblt := cell_lt hp
  simp only at hblt
  go_enter Tryz.func155, Tryz.ntmps155
  go_wp2
  go_loopw [12] (fun i wr => ∃ k : Nat, k ≤ n ∧ i = .int .i64 k ∧ Hid ((ks.take k).any (fun x => x.1 == kb && x.2 == ki) = false) ∧ wr.cell? ⟨w.heap.size, 0, none⟩ = some (.int .i64 kb) ∧ wr.cell? ⟨w.heap.size, 1, none⟩ = some (.int .i64 ki) ∧ w.heap.size < wr.heap.size ∧ Below w.heap.size w wr) (fun i _ => n - (intOf i).toNat)
  case atStart => exact ⟨0, Nat.zero_le _, rfl, by show List.any _ _ = false; simp, by go_simp, by go_simp, by simp, (Below.refl _ _).alloc (Nat.le_refl _) _⟩
  case round =>
    obtain ⟨k, hk, rfl, hany, e0, e1, hlt0, hbl⟩ := hrel
    have hsz := hbl.size
    by_cases hlt : k < n
    · rcases HX.out with hnil | ⟨g, off, rfl, hrow⟩
      · have := HN.out; rw [hnil] at this; simp at this; omega
      obtain ⟨c0, c1⟩ := kvCells (hrow.grown hbl) k (by rw [HN.out]; exact hlt)
      have HS : Hid _ := any_no (fun x : Int × Int => x.1 == kb && x.2 == ki) ks (0, 0) k (by rw [HN.out]; exact hlt) hany.out
      have HZ : Hid _ := any_yes (fun x : Int × Int => x.1 == kb && x.2 == ki) ks (0, 0) k (by rw [HN.out]; exact hlt)
      clear hrow
      generalize ks.getD k (0, 0) = y at c0 c1 HS HZ
      obtain ⟨y0, y1⟩ := y
      simp only at c0 c1
      cases h1 : (y0 == kb)
      · go_wp2
        go_roundw
        case rel => exact ⟨k + 1, by omega, by go_num, HS.out (by simp [h1]), by go_simp, by go_simp, by simp; omega, hbl.alloc hsz _⟩
        case measure => simp [intOf]; omega
      · cases h2 : (y1 == ki)
        · go_wp2
          go_roundw
          case rel => exact ⟨k + 1, by omega, by go_num, HS.out (by simp [h2]), by go_simp, by go_simp, by simp; omega, hbl.alloc hsz _⟩
          case measure => simp [intOf]; omega
        · go_wp2
          go_ret
          exact ⟨ret_bool (HZ.out (by show (y0 == kb && y1 == ki) = true; rw [h1, h2]; rfl)).symm, hbl.alloc hsz _⟩
    · go_wp2
      go_ret
      exact ⟨ret_bool (any_done _ ks n HN.out k (by omega) hany.out), hbl⟩

set_option maxRecDepth 100000 in
set_option maxHeartbeats 400000 in
theorem keyOf_any (x : CoinD) (w : World) : Calls Tryz.prog 153 #[coinV x] w fun e w' => e = .returned (.agg #[.int .i64 x.br, .int .i64 x.ix]) ∧ Below w.heap.size w w' := by
  obtain ⟨x0, x1, x2, x3, x4, x5⟩ := x
  go_enter Tryz.func153, Tryz.ntmps153
  go_wp2
  refine bodyPost_ret (v := .agg #[.int .i64 x4, .int .i64 x5]) ?_ rfl ⟨rfl, ?_⟩
  · simp [results, Tryz.results153, go_sem]
  · have hbn : ∀ p q : Obj, Below w.heap.size w ((w.alloc p).alloc q) := fun p q => ((Below.refl _ _).alloc (Nat.le_refl _) _).alloc (by simp) _
    exact hbn _ _

/-- the payments at a place: the live ones, the keys that have sealed -/
structure PayM (N : Nat → Prop) (w : World) (b o : Nat) (ps : List PayD) (ks : List (Int × Int)) : Prop where
  h0 : ∃ ao c, w.cell? ⟨b, o, none⟩ = some (.slice ao ps.length c) ∧ RecAt PayD.v w ao ps
  h1 : ∃ ao c, w.cell? ⟨b, o + 1, none⟩ = some (.slice ao ks.length c) ∧ RecAt kV w ao ks
  ok : ∀ p ∈ ps, PayOk N w p
  b0 : ps.length ≤ 9007199254740992
  b1 : ks.length ≤ 9007199254740992
theorem PayM.grown {N : Nat → Prop} {w w' : World} {b o : Nat} {ps : List PayD} {ks : List (Int × Int)} (h : PayM N w b o ps ks) (hb : Below w.heap.size w w') : PayM N w' b o ps ks := by
  obtain ⟨ao, c, h0, r0⟩ := h.h0
  obtain ⟨ao1, c1, h1, r1⟩ := h.h1
  exact ⟨⟨ao, c, (hb.cell (p := ⟨b, o, none⟩) (cell_lt h0)).trans h0, r0.grown hb⟩, ⟨ao1, c1, (hb.cell (p := ⟨b, o + 1, none⟩) (cell_lt h1)).trans h1, r1.grown hb⟩, fun p hp => (h.ok p hp).grown hb, h.b0, h.b1⟩
theorem PayM.nil (N : Nat → Prop) {w : World} {b o : Nat} (h0 : w.cell? ⟨b, o, none⟩ = some (.slice none 0 0)) (h1 : w.cell? ⟨b, o + 1, none⟩ = some (.slice none 0 0)) : PayM N w b o [] [] :=
  ⟨⟨none, 0, h0, Or.inl rfl⟩, ⟨none, 0, h1, Or.inl rfl⟩, fun p hp => absurd hp (by simp), by simp, by simp⟩
theorem PayM.lt {N : Nat → Prop} {w : World} {b o : Nat} {ps : List PayD} {ks : List (Int × Int)} (h : PayM N w b o ps ks) : b < w.heap.size := by
  obtain ⟨ao, c, h0, _⟩ := h.h0
  exact cell_lt h0

set_option maxRecDepth 100000 in
set_option maxHeartbeats 1000000 in
theorem isFree_any (N : Nat → Prop) (b o : Nat) (ps : List PayD) (ks : List (Int × Int)) (x : CoinD) (w : World) (hm : PayM N w b o ps ks) :
    Calls Tryz.prog 112 #[.pointer (some ⟨b, o, none⟩), coinV x] w fun e w' => e = .returned (.bool (freeB ps ks x)) ∧ Below w.heap.size w w' := by
  have HM : Hid (PayM N w b o ps ks) := hm
  clear hm
  obtain ⟨x0, x1, x2, x3, x4, x5⟩ := x
  go_enter Tryz.func112, Tryz.ntmps112
  go_wp2_with fail
  refine (keyOf_any ⟨x0, x1, x2, x3, x4, x5⟩ _).mono ?_
  rintro e w1 ⟨rfl, hb1⟩
  simp only
  have hb0 : Below w.heap.size w (w.alloc (.cells #[.int .i64 x0, .int .i64 x1, .int .i64 x2, .int .i64 x3, .int .i64 x4, .int .i64 x5] 64)) := (Below.refl _ _).alloc (Nat.le_refl _) _
  have hz0 : (w.alloc (.cells #[.int .i64 x0, .int .i64 x1, .int .i64 x2, .int .i64 x3, .int .i64 x4, .int .i64 x5] 64)).heap.size = w.heap.size + 1 := by simp
  have hbW := hb0.trans (hb1.mono (by omega))
  obtain ⟨d0, d1, d2, d3, d4, d5⟩ := xrow ((vrow_new w [.int .i64 x0, .int .i64 x1, .int .i64 x2, .int .i64 x3, .int .i64 x4, .int .i64 x5] 64).grown hb1)
  have hs1 := hb1.size
  rw [hz0] at hs1
  have HM1 : Hid (PayM N (w1.alloc (.cells #[.int .i64 x4, .int .i64 x5] 61)) b o ps ks) := (HM.out.grown hbW).grown ((Below.refl _ _).alloc (Nat.le_refl _) _)
  have hbW2 := hbW.alloc hbW.size (.cells #[.int .i64 x4, .int .i64 x5] 61)
  clear hb0 hz0 hb1 hbW
  go_upto_region 2 with fail
  have bA : Below w1.heap.size w1 (w1.alloc (.cells #[.int .i64 x4, .int .i64 x5] 61)) := (Below.refl _ _).alloc (Nat.le_refl _) _
  have e0 := (bA.cell (p := ⟨w.heap.size, 0, none⟩) (cell_lt d0)).trans d0
  have e1 := (bA.cell (p := ⟨w.heap.size, 1, none⟩) (cell_lt d1)).trans d1
  clear bA
  have k0 : (w1.alloc (.cells #[.int .i64 x4, .int .i64 x5] 61)).cell? ⟨w1.heap.size, 0, none⟩ = some (.int .i64 x4) := by go_simp
  have k1 : (w1.alloc (.cells #[.int .i64 x4, .int .i64 x5] 61)).cell? ⟨w1.heap.size, 1, none⟩ = some (.int .i64 x5) := by go_simp
  clear d0 d1 d2 d3 d4 d5
  generalize w1.alloc (.cells #[.int .i64 x4, .int .i64 x5] 61) = w2 at *
  generalize w1.heap.size = K at *
  obtain ⟨ao, c, p0, r0⟩ := HM1.out.h0
  obtain ⟨ao1, c1, p1, r1⟩ := HM1.out.h1
  have HR0 : Hid (RecAt PayD.v w2 ao ps) := r0
  have HR1 : Hid (RecAt kV w2 ao1 ks) := r1
  have HP0 : Hid (w2.cell? ⟨b, o, none⟩ = some (.slice ao ps.length c)) := p0
  have HP1 : Hid (w2.cell? ⟨b, o + 1, none⟩ = some (.slice ao1 ks.length c1)) := p1
  clear r0 r1 p0 p1
  have hKl := cell_lt k0
  go_wp2_with fail
  refine (holds_any N b o ao ps.length c ps x0 x1 _ HP0.out HR0.out rfl HM1.out.b0 HM1.out.ok).mono ?_
  rintro e w3 ⟨rfl, hb3⟩
  have hbW3 := hbW2.trans (hb3.mono hbW2.size)
  have q0 := (hb3.cell (p := ⟨K, 0, none⟩) hKl).trans k0
  have q1 := (hb3.cell (p := ⟨K, 1, none⟩) hKl).trans k1
  have HQ1 : Hid (w3.cell? ⟨b, o + 1, none⟩ = some (.slice ao1 ks.length c1)) := (hb3.cell (p := ⟨b, o + 1, none⟩) (cell_lt HP1.out)).trans HP1.out
  have HRR : Hid (RecAt kV w3 ao1 ks) := HR1.out.grown hb3
  clear e0 e1 k0 k1 hb3
  have HF : Hid (freeB ps ks ⟨x0, x1, x2, x3, x4, x5⟩ = (!heldB ps x0 x1 && !usedB ks (x4, x5))) := rfl
  generalize hh : heldB ps x0 x1 = H at *
  cases H
  · go_wp2_with fail
    refine (hasSealed_any b o ao1 ks.length c1 ks x4 x5 _ HQ1.out HRR.out rfl HM1.out.b1).mono ?_
    rintro e w4 ⟨rfl, hb4⟩
    have hbW4 := hbW3.trans (hb4.mono hbW3.size)
    generalize usedB ks (x4, x5) = U at *
    cases U
    · go_wp2
      go_ret
      exact ⟨ret_bool HF.out.symm, hbW4⟩
    · go_wp2
      go_ret
      exact ⟨ret_bool HF.out.symm, hbW4⟩
  · go_wp2
    go_ret
    exact ⟨ret_bool (by rw [HF.out]; rfl), hbW3⟩

theorem keep6 {w w' : World} {T : Nat} {a0 a1 a2 a3 a4 a5 : Value} (hb : Below w.heap.size w w') (h : w.cell? ⟨T, 0, none⟩ = some a0 ∧ w.cell? ⟨T, 1, none⟩ = some a1 ∧ w.cell? ⟨T, 2, none⟩ = some a2 ∧ w.cell? ⟨T, 3, none⟩ = some a3 ∧ w.cell? ⟨T, 4, none⟩ = some a4 ∧ w.cell? ⟨T, 5, none⟩ = some a5) :
    w'.cell? ⟨T, 0, none⟩ = some a0 ∧ w'.cell? ⟨T, 1, none⟩ = some a1 ∧ w'.cell? ⟨T, 2, none⟩ = some a2 ∧ w'.cell? ⟨T, 3, none⟩ = some a3 ∧ w'.cell? ⟨T, 4, none⟩ = some a4 ∧ w'.cell? ⟨T, 5, none⟩ = some a5 := by
  have hl := cell_lt h.1
  obtain ⟨h0, h1, h2, h3, h4, h5⟩ := h
  exact ⟨(hb.cell (p := ⟨T, 0, none⟩) hl).trans h0, (hb.cell (p := ⟨T, 1, none⟩) hl).trans h1, (hb.cell (p := ⟨T, 2, none⟩) hl).trans h2, (hb.cell (p := ⟨T, 3, none⟩) hl).trans h3, (hb.cell (p := ⟨T, 4, none⟩) hl).trans h4, (hb.cell (p := ⟨T, 5, none⟩) hl).trans h5⟩

theorem filter_snoc {α : Type} (p : α → Bool) (l : List α) (d : α) (k : Nat) (h : k < l.length) : (l.take (k + 1)).filter p = (l.take k).filter p ++ if p (l.getD k d) = true then [l.getD k d] else [] := by
  rw [List.take_succ_eq_append_getElem h, List.filter_append]
  simp only [List.getD, List.getElem?_eq_getElem h, Option.getD_some]
  congr 1
  cases hp : p l[k] <;> simp [hp]

set_option maxRecDepth 100000 in
set_option maxHeartbeats 2000000 in
theorem free_any (N : Nat → Prop) (P : Nat) (ps : List PayD) (ks : List (Int × Int)) (ao : Option Addr) (n c : Nat) (cs : List CoinD) (w : World) (hp : PayM N w P 4 ps ks) (hx : RecAt CoinD.l w ao cs) (hn : cs.length = n) (hm : n ≤ 100000) :
    Calls Tryz.prog 68 #[.pointer (some ⟨P, 0, none⟩), .slice ao n c] w fun e w' => ∃ v, e = .returned v ∧ OwnRec CoinD.l 64 6 w' w.heap.size v (cs.filter (freeB ps ks)) ∧ Below w.heap.size w w' := by
  have HA : Hid (RecAt CoinD.l w ao cs) := hx
  have HM : Hid (cs.length = n) := hn
  have HP : Hid (PayM N w P 4 ps ks) := hp
  have hPl := hp.lt
  clear hx hn hp
  generalize hB : w.heap.size = B at hPl
  have HB : Hid (w.heap.size = B) := hB
  clear hB
  go_enter Tryz.func68, Tryz.ntmps68
  go_wp2
  go_loopw [5, 10] (fun v i wr => ∃ k : Nat, k ≤ n ∧ i = .int .i64 k ∧ OwnRec CoinD.l 64 6 wr B v ((cs.take k).filter (freeB ps ks)) ∧ Below B w wr) (fun _ i _ => n - (intOf i).toNat)
  case atStart => exact ⟨0, Nat.zero_le _, rfl, OwnRec.nil _ _ _ _ _, Below.refl _ _⟩
  case round =>
    obtain ⟨k, hk, rfl, hown, hbl⟩ := hrel
    have hsz := hbl.size
    rw [HB.out] at hsz
    by_cases hlt : k < n
    · rcases HA.out with hnil | ⟨gg, off, rfl, hrow⟩
      · have := HM.out; rw [hnil] at this; simp at this; omega
      obtain ⟨c0, c1, c2, c3, c4, c5⟩ := coinCells (hrow.grown (by rw [HB.out]; exact hbl)) k (by rw [HM.out]; exact hlt)
      have HS : Hid _ := filter_snoc (freeB ps ks) cs dN k (by rw [HM.out]; exact hlt)
      have HLN : Hid (((cs.take k).filter (freeB ps ks)).length ≤ 100000) := by show _ ≤ _; have := List.length_filter_le (freeB ps ks) (cs.take k); rw [List.length_take] at this; omega
      clear hrow
      generalize cs.getD k dN = y at c0 c1 c2 c3 c4 c5 HS
      generalize (cs.take k).filter (freeB ps ks) = acc at *
      obtain ⟨y0, y1, y2, y3, y4, y5⟩ := y
      simp only at c0 c1 c2 c3 c4 c5
      have hbx : Below wr.heap.size wr (wr.alloc (.cells #[.int .i64 y0, .int .i64 y1, .int .i64 y2, .int .i64 y3, .int .i64 y4, .int .i64 y5] 64)) := (Below.refl _ _).alloc (Nat.le_refl _) _
      have hv := vrow_new wr [.int .i64 y0, .int .i64 y1, .int .i64 y2, .int .i64 y3, .int .i64 y4, .int .i64 y5] 64
      obtain ⟨x0, x1, x2, x3, x4, x5⟩ := xrow hv
      have hown1 := hown.alloc (.cells #[.int .i64 y0, .int .i64 y1, .int .i64 y2, .int .i64 y3, .int .i64 y4, .int .i64 y5] 64)
      have hbl1 := hbl.alloc hsz (.cells #[.int .i64 y0, .int .i64 y1, .int .i64 y2, .int .i64 y3, .int .i64 y4, .int .i64 y5] 64)
      go_upto_region 5 with fail
      generalize wr.alloc (.cells #[.int .i64 y0, .int .i64 y1, .int .i64 y2, .int .i64 y3, .int .i64 y4, .int .i64 y5] 64) = w1 at *
      generalize hTe : wr.heap.size = T at *
      have hsz1 : B ≤ w1.heap.size := by have := hbx.size; omega
      have HP1 : Hid (PayM N w1.drew P 4 ps ks) := HP.out.grown (by rw [HB.out]; exact hbl1.drew)
      have HKX : Hid (w1.cell? ⟨T, 0, none⟩ = some (.int .i64 y0) ∧ w1.cell? ⟨T, 1, none⟩ = some (.int .i64 y1) ∧ w1.cell? ⟨T, 2, none⟩ = some (.int .i64 y2) ∧ w1.cell? ⟨T, 3, none⟩ = some (.int .i64 y3) ∧ w1.cell? ⟨T, 4, none⟩ = some (.int .i64 y4) ∧ w1.cell? ⟨T, 5, none⟩ = some (.int .i64 y5)) := ⟨x0, x1, x2, x3, x4, x5⟩
      have hTl : T < w1.heap.size := cell_lt x0
      clear hbx hv hown hbl hTe c0 c1 c2 c3 c4 c5
      go_wp2
      go_region_held3 (fun w' => w'.cell? ⟨T, 0, none⟩ = some (.int .i64 y0) ∧ w'.cell? ⟨T, 1, none⟩ = some (.int .i64 y1) ∧ w'.cell? ⟨T, 2, none⟩ = some (.int .i64 y2) ∧ w'.cell? ⟨T, 3, none⟩ = some (.int .i64 y3) ∧ w'.cell? ⟨T, 4, none⟩ = some (.int .i64 y4) ∧ w'.cell? ⟨T, 5, none⟩ = some (.int .i64 y5)) (first | assumption | go_keep | exact keep6 hb7 HKX.out) ((go_at_call 112; refine (isFree_any N P 4 ps ks ⟨y0, y1, y2, y3, y4, y5⟩ _ HP1.out).mono ?_; rintro e w7 ⟨rfl, hb7⟩))
      obtain ⟨d0, d1, d2, d3, d4, d5⟩ := keep6 hb7 HKX.out
      have HOW : Hid (OwnRec CoinD.l 64 6 w7 B u5 acc) := (OwnRec.drew hown1).grown hb7
      have hbld : Below B w w7 := hbl1.drew.trans (hb7.mono hsz1)
      have hszd : B ≤ w7.heap.size := Nat.le_trans hsz1 hb7.size
      clear x0 x1 x2 x3 x4 x5 hown1 hbl1 hsz1 HP1 HKX hb7 hTl
      generalize w1.drew = w1d at *
      cases hfr : freeB ps ks ⟨y0, y1, y2, y3, y4, y5⟩
      · rw [hfr] at HS
        go_wp2
        go_roundw
        case rel => exact ⟨k + 1, by omega, by go_num, by rw [HS.out, if_neg (by simp), List.append_nil]; exact HOW.out, hbld⟩
        case measure => simp [intOf]; omega
      · rw [hfr] at HS
        go_wp2_with (at_builtin; refine wpList_appR 62 48 _ Tryz.underlying62 info64 rfl (by decide) coin6 coin_one (w7.alloc (.cells #[.int .i64 y0, .int .i64 y1, .int .i64 y2, .int .i64 y3, .int .i64 y4, .int .i64 y5] 64)) rfl _ _ rfl B w7.heap.size 1 u5 acc ⟨y0, y1, y2, y3, y4, y5⟩ (by rfl) (by rfl) (HOW.out.alloc _) (vrow_new _ _ _) (by simp; omega) (by have := HLN.out; unfold maxLen; omega) (by have := HLN.out; omega) ?_; intro g' cap w5 hown5 hg5 _ _)
        go_roundw
        case rel => exact ⟨k + 1, by omega, by go_num, by rw [HS.out, if_pos rfl]; exact hown5, hbld.trans (gb_to_below (gb_trans (gb_alloc _ _ _) hg5) (by omega) (fun r hr => (HOW.out.blk r hr).1))⟩
        case measure => simp [intOf]; omega
    · have HE : Hid (cs.take k = cs) := by show _ = _; rw [List.take_of_length_le (by rw [HM.out]; omega)]
      rw [HE.out] at hown
      go_wp2
      go_ret
      exact ⟨_, rfl, hown, hbl⟩

theorem sumF_val {cs : List CoinD} {p : CoinD → Bool} (hv : ∀ x ∈ cs, 0 ≤ x.val ∧ x.val ≤ 1099511627776) : ∀ x ∈ cs.filter p, 0 ≤ x.val ∧ x.val ≤ 1099511627776 := fun x hx => hv x (List.mem_filter.1 hx).1

set_option maxRecDepth 100000 in
set_option maxHeartbeats 2000000 in
theorem pBalance_any (N : Nat → Prop) (ps : List PayD) (ks : List (Int × Int)) (P : Nat) (s : Int) (g : Nat) (ao : Option Addr) (n c : Nat) (h : Int) (xs : List Cel) (w : World) (hs : Mk.isM s = true) (hg : 1 ≤ g) (hg2 : g ≤ 20) (hp : PurseRow w P s g (.slice ao n c) h) (hl : PayM N w P 4 ps ks) (hx : CelsAt w ao xs) (hn : xs.length = n) (hm : n ≤ 10000) (hv : ∀ x ∈ ownZ (keysZ xs s g) (coinsC xs), 0 ≤ x.val ∧ x.val ≤ 1099511627776) :
    Calls Tryz.prog 56 #[.pointer (some ⟨P, 0, none⟩)] w fun e w' => e = .returned (.tuple #[.int .i64 (sumC (ownZ (keysZ xs s g) (coinsC xs))), .int .i64 (sumC ((ownZ (keysZ xs s g) (coinsC xs)).filter (freeB ps ks)))]) ∧ Below w.heap.size w w' := by
  have HV : Hid (∀ x ∈ ownZ (keysZ xs s g) (coinsC xs), 0 ≤ x.val ∧ x.val ≤ 1099511627776) := hv
  have HP : Hid (PurseRow w P s g (.slice ao n c) h) := hp
  have HX : Hid (CelsAt w ao xs) := hx
  have HN : Hid (xs.length = n) := hn
  have HL4 : Hid (PayM N w P 4 ps ks) := hl
  have hl0 : (ownZ (keysZ xs s g) (coinsC xs)).length ≤ 10000 := by
    have h1 := ownZ_len (keysZ xs s g) (coinsC xs)
    have h2 := coinsC_len xs
    omega
  have HL : Hid ((ownZ (keysZ xs s g) (coinsC xs)).length ≤ 10000) := hl0
  clear hv hp hx hn hl0 hl
  go_enter Tryz.func56, Tryz.ntmps56
  go_wp2_with fail
  refine (pCoins_any P s g ao n c h xs _ hs hg hg2 HP.out HX.out HN.out hm).mono ?_
  rintro e w1 ⟨v, rfl, ho1, hb1⟩
  generalize hcs : ownZ (keysZ xs s g) (coinsC xs) = cs at *
  have HCS : Hid (ownZ (keysZ xs s g) (coinsC xs) = cs) := hcs
  clear hcs
  obtain ⟨ac, cc, rfl, hat⟩ := OwnRec.at coin6 ho1
  have HA : Hid (RecAt CoinD.l w1 ac cs) := hat
  have HL1 : Hid (PayM N w1 P 4 ps ks) := HL4.out.grown hb1
  clear hat ho1
  generalize hm2 : cs.length = m at *
  have HM : Hid (cs.length = m) := hm2
  have hml : m ≤ 10000 := HL.out
  clear hm2
  go_wp2_with fail
  refine (free_any N P ps ks ac m cc cs _ HL1.out HA.out HM.out (by omega)).mono ?_
  rintro e w2 ⟨v2, rfl, ho2, hb2⟩
  obtain ⟨ad, cd, rfl, had⟩ := OwnRec.at coin6 ho2
  have HVF : Hid (∀ x ∈ cs.filter (freeB ps ks), 0 ≤ x.val ∧ x.val ≤ 1099511627776) := sumF_val HV.out
  have HFL : Hid ((cs.filter (freeB ps ks)).length ≤ 10000) := by show _ ≤ _; have := List.length_filter_le (freeB ps ks) cs; rw [HM.out] at this; omega
  have HA2 : Hid (RecAt CoinD.l w2 ac cs) := HA.out.grown hb2
  have HD2 : Hid (RecAt CoinD.l w2 ad (cs.filter (freeB ps ks))) := had
  have hb02 := below_blk hb1 hb2
  clear had ho2 HA hb1 hb2
  generalize hfs : cs.filter (freeB ps ks) = fs at *
  have HFS : Hid (cs.filter (freeB ps ks) = fs) := hfs
  clear hfs
  generalize hfm : fs.length = fm at *
  have HFM : Hid (fs.length = fm) := hfm
  have hfl : fm ≤ 10000 := HFL.out
  clear hfm HFL
  go_wp2_with fail
  refine (sum_any ac m cc cs _ HA2.out HM.out (by omega) HV.out).mono ?_
  rintro e w3 ⟨rfl, hb3⟩
  have HD3 : Hid (RecAt CoinD.l w3 ad fs) := HD2.out.grown hb3
  have hb03 := below_blk hb02 hb3
  go_wp2_with fail
  refine (sum_any ad fm cd fs _ HD3.out HFM.out (by omega) HVF.out).mono ?_
  rintro e w4 ⟨rfl, hb4⟩
  have hb04 := below_blk hb03 hb4
  go_wp2
  go_ret2
  rw [HCS.out, HFS.out]
  exact ⟨rfl, hb04⟩

theorem free_nil_all (cs : List CoinD) : cs.filter (freeB [] []) = cs := List.filter_eq_self.2 (fun _ _ => rfl)
theorem pBalance_none (P : Nat) (s : Int) (g : Nat) (ao : Option Addr) (n c : Nat) (h : Int) (xs : List Cel) (w : World) (hs : Mk.isM s = true) (hg : 1 ≤ g) (hg2 : g ≤ 20) (hp : PurseRow w P s g (.slice ao n c) h) (hl : w.cell? ⟨P, 4, none⟩ = some (.slice none 0 0)) (hl2 : w.cell? ⟨P, 5, none⟩ = some (.slice none 0 0)) (hx : CelsAt w ao xs) (hn : xs.length = n) (hm : n ≤ 10000) (hv : ∀ x ∈ ownZ (keysZ xs s g) (coinsC xs), 0 ≤ x.val ∧ x.val ≤ 1099511627776) :
    Calls Tryz.prog 56 #[.pointer (some ⟨P, 0, none⟩)] w fun e w' => e = .returned (.tuple #[.int .i64 (sumC (ownZ (keysZ xs s g) (coinsC xs))), .int .i64 (sumC (ownZ (keysZ xs s g) (coinsC xs)))]) ∧ Below w.heap.size w w' := by
  have := pBalance_any (fun _ => False) [] [] P s g ao n c h xs w hs hg hg2 hp (PayM.nil _ hl hl2) hx hn hm hv
  rw [free_nil_all] at this
  exact this

end Go.Proofs.YtffgpepngcnjeaaGreat
