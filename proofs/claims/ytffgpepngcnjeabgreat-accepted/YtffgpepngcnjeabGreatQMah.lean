/-
  Package payments: what is held, which keys have sealed, which coins are free.
  Package payments: Sign, what it calls: find, hasAll, anySealed; package chain: HasCoin.
  Package payments: Sign: hasAll, anySealed.
  Which coins a payment takes, the plain part: the program's way and the document's.
  The order of the candidates: what is laid to its place, one after the other, is what is picked out, the greatest first.
  Which coins a payment takes: the program's answer is the document's.
-/
import Derived.Test.YtffgpepngcnjeabGreatQMag
import Derived.Test.YtffgpepngcnjeabGreatQMac
namespace Go.Proofs.YtffgpepngcnjeabGreatQ
open Go.RowKit
set_option maxRecDepth 100000 in
set_option maxHeartbeats 2000000 in
theorem holds_any (N : Nat → Prop) (b o : Nat) (ao : Option Addr) (n c : Nat) (ps : List PayD) (id pos : Int) (w : World) (hp : w.cell? ⟨b, o, none⟩ = some (.slice ao n c)) (hx : RecAt PayD.v w ao ps) (hn : ps.length = n) (hm : n ≤ 9007199254740992) (hok : ∀ p ∈ ps, PayOk N w p) :
    Calls Tryz.prog 185 #[.pointer (some ⟨b, o, none⟩), .int .i64 id, .int .i64 pos] w fun e w' => e = .returned (.bool (heldB ps id pos)) ∧ Below w.heap.size w w' := by
  have HN : Hid (ps.length = n) := hn
  have HX : Hid (RecAt PayD.v w ao ps) := hx
  have HO : Hid (∀ p ∈ ps, PayOk N w p) := hok
  clear hn hx hok
  go_enter Tryz.func185, Tryz.ntmps185
  go_wp2
  go_loopw [16] (fun i wr => ∃ k : Nat, k ≤ n ∧ i = .int .i64 k ∧ Hid ((ps.take k).any (fun p => p.cs.any fun x => x.id == id && x.pos == pos) = false) ∧ Below w.heap.size w wr) (fun i _ => n - (intOf i).toNat)
  case atStart => exact ⟨0, Nat.zero_le _, rfl, by show List.any _ _ = false; simp, Below.refl _ _⟩
  case round =>
    obtain ⟨k, hk, rfl, hany, hbl⟩ := hrel
    have hsz := hbl.size
    by_cases hlt : k < n
    · rcases HX.out with hnil | ⟨g, off, rfl, hrow⟩
      · have := HN.out; rw [hnil] at this; simp at this; omega
      obtain ⟨c0, c1, c2, c3, c4⟩ := payCells (hrow.grown hbl) k (by rw [HN.out]; exact hlt)
      have HS : Hid _ := any_no (fun p : PayD => p.cs.any fun x => x.id == id && x.pos == pos) ps dP k (by rw [HN.out]; exact hlt) hany.out
      have HZ : Hid _ := any_yes (fun p : PayD => p.cs.any fun x => x.id == id && x.pos == pos) ps dP k (by rw [HN.out]; exact hlt)
      have hk0 := HO.out (ps.getD k dP) (getD_mem ps dP k (by rw [HN.out]; exact hlt))
      have HCO : Hid _ := hk0.co
      have HCL : Hid _ := hk0.cl
      have hb1 := hk0.b1
      clear hrow hk0
      generalize ps.getD k dP = y at c0 c1 c2 c3 c4 HS HZ HCO HCL hb1
      obtain ⟨ynum, yac, ync, ycc, yap, ym, yd, ytag, ysg, ycs, yys⟩ := y
      simp only at c0 c1 c2 c3 c4 hb1
      have HA : Hid (RecAt CoinD.l w yac ycs) := HCO.out
      have HL : Hid (ycs.length = ync) := HCL.out
      clear HCO HCL
      obtain ⟨wo, rfl⟩ : ∃ wo : World, wo = wr := ⟨_, rfl⟩
      go_wp2
      go_loopw [23] (fun i wr => ∃ j : Nat, j ≤ ync ∧ i = .int .i64 j ∧ Hid ((ycs.take j).any (fun x => x.id == id && x.pos == pos) = false) ∧ Below w.heap.size w wr ∧ Below wo.heap.size wo wr) (fun i _ => ync - (intOf i).toNat)
      case atStart => exact ⟨0, Nat.zero_le _, rfl, by show List.any _ _ = false; simp, hbl.alloc hsz _, (Below.refl _ _).alloc (Nat.le_refl _) _⟩
      case round =>
        obtain ⟨j, hj, rfl, hany2, hbl2, hbo⟩ := hrel
        have hsz2 := hbl2.size
        have hszo := hbo.size
        by_cases hlt2 : j < ync
        · rcases HA.out with hnil | ⟨g2, off2, rfl, hrow⟩
          · have := HL.out; rw [hnil] at this; simp at this; omega
          obtain ⟨d0, d1, d2, d3, d4, d5⟩ := coinCells (hrow.grown hbl2) j (by rw [HL.out]; exact hlt2)
          have HS2 : Hid _ := any_no (fun x : CoinD => x.id == id && x.pos == pos) ycs dN j (by rw [HL.out]; exact hlt2) hany2.out
          have HZ2 : Hid _ := any_yes (fun x : CoinD => x.id == id && x.pos == pos) ycs dN j (by rw [HL.out]; exact hlt2)
          clear hrow
          generalize ycs.getD j dN = z at d0 d1 d2 d3 d4 d5 HS2 HZ2
          obtain ⟨z0, z1, z2, z3, z4, z5⟩ := z
          simp only at d0 d1 d2 d3 d4 d5
          cases h1 : (z0 == id)
          · go_wp2
            go_roundw
            case rel => exact ⟨j + 1, by omega, by go_num, HS2.out (by simp [h1]), hbl2.alloc hsz2 _, hbo.alloc hszo _⟩
            case measure => simp [intOf]; omega
          · cases h2 : (z1 == pos)
            · go_wp2
              go_roundw
              case rel => exact ⟨j + 1, by omega, by go_num, HS2.out (by simp [h2]), hbl2.alloc hsz2 _, hbo.alloc hszo _⟩
              case measure => simp [intOf]; omega
            · go_wp2
              go_ret
              exact ⟨ret_bool (HZ.out (HZ2.out (by show (z0 == id && z1 == pos) = true; rw [h1, h2]; rfl))).symm, hbl2.alloc hsz2 _⟩
        · have HE : Hid _ := any_done (fun x : CoinD => x.id == id && x.pos == pos) ycs ync HL.out j (by omega) hany2.out
          go_wp2
          go_roundw
          case rel => exact ⟨k + 1, by omega, by go_num, HS.out HE.out.symm, hbl2⟩
          case measure => simp [intOf]; omega
    · go_wp2
      go_ret
      exact ⟨ret_bool (any_done _ ps n HN.out k (by omega) hany.out), hbl⟩
set_option maxRecDepth 100000 in
set_option maxHeartbeats 1000000 in
theorem hasSealed_any (b o : Nat) (ao : Option Addr) (n c : Nat) (ks : List (Int × Int)) (kb ki : Int) (w : World) (hp : w.cell? ⟨b, o + 1, none⟩ = some (.slice ao n c)) (hx : RecAt kV w ao ks) (hn : ks.length = n) (hm : n ≤ 9007199254740992) :
    Calls Tryz.prog 146 #[.pointer (some ⟨b, o, none⟩), .agg #[.int .i64 kb, .int .i64 ki]] w fun e w' => e = .returned (.bool (usedB ks (kb, ki))) ∧ Below w.heap.size w w' := by
  have HN : Hid (ks.length = n) := hn
  have HX : Hid (RecAt kV w ao ks) := hx
  clear hn hx
  have hblt := cell_lt hp
  simp only at hblt
  go_enter Tryz.func146, Tryz.ntmps146
  go_wp2
  go_loopw [12] (fun i wr => ∃ k : Nat, k ≤ n ∧ i = .int .i64 k ∧ Hid ((ks.take k).any (fun x => x.1 == kb && x.2 == ki) = false) ∧ wr.cell? ⟨w.heap.size, 0, none⟩ = some (.int .i64 kb) ∧ wr.cell? ⟨w.heap.size, 1, none⟩ = some (.int .i64 ki) ∧ w.heap.size < wr.heap.size ∧ Below w.heap.size w wr) (fun i _ => n - (intOf i).toNat)
  case atStart => exact ⟨0, Nat.zero_le _, rfl, by show List.any _ _ = false; simp, by go_simp, by go_simp, by simp, (Below.refl _ _).alloc (Nat.le_refl _) _⟩
  case round =>
    obtain ⟨k, hk, rfl, hany, e0, e1, hlt0, hbl⟩ := hrel
    have hsz := hbl.size
    by_cases hlt : k < n
    · rcases HX.out with hnil | ⟨g, off, rfl, hrow⟩
      · have := HN.out; rw [hnil] at this; simp at this; omega
      obtain ⟨c0, c1⟩ := kvCells (hrow.grown hbl) k (by rw [HN.out]; exact hlt)
      have HS : Hid _ := any_no (fun x : Int × Int => x.1 == kb && x.2 == ki) ks (0, 0) k (by rw [HN.out]; exact hlt) hany.out
      have HZ : Hid _ := any_yes (fun x : Int × Int => x.1 == kb && x.2 == ki) ks (0, 0) k (by rw [HN.out]; exact hlt)
      clear hrow
      generalize ks.getD k (0, 0) = y at c0 c1 HS HZ
      obtain ⟨y0, y1⟩ := y
      simp only at c0 c1
      cases h1 : (y0 == kb)
      · go_wp2
        go_roundw
        case rel => exact ⟨k + 1, by omega, by go_num, HS.out (by simp [h1]), by go_simp, by go_simp, by simp; omega, hbl.alloc hsz _⟩
        case measure => simp [intOf]; omega
      · cases h2 : (y1 == ki)
        · go_wp2
          go_roundw
          case rel => exact ⟨k + 1, by omega, by go_num, HS.out (by simp [h2]), by go_simp, by go_simp, by simp; omega, hbl.alloc hsz _⟩
          case measure => simp [intOf]; omega
        · go_wp2
          go_ret
          exact ⟨ret_bool (HZ.out (by show (y0 == kb && y1 == ki) = true; rw [h1, h2]; rfl)).symm, hbl.alloc hsz _⟩
    · go_wp2
      go_ret
      exact ⟨ret_bool (any_done _ ks n HN.out k (by omega) hany.out), hbl⟩
set_option maxRecDepth 100000 in
set_option maxHeartbeats 400000 in
theorem keyOf_any (x : CoinD) (w : World) : Calls Tryz.prog 145 #[coinV x] w fun e w' => e = .returned (.agg #[.int .i64 x.br, .int .i64 x.ix]) ∧ Below w.heap.size w w' := by
  obtain ⟨x0, x1, x2, x3, x4, x5⟩ := x
  go_enter Tryz.func145, Tryz.ntmps145
  go_wp2
  refine bodyPost_ret (v := .agg #[.int .i64 x4, .int .i64 x5]) ?_ rfl ⟨rfl, ?_⟩
  · simp [results, Tryz.results145, go_sem]
  · have hbn : ∀ p q : Obj, Below w.heap.size w ((w.alloc p).alloc q) := fun p q => ((Below.refl _ _).alloc (Nat.le_refl _) _).alloc (by simp) _
    exact hbn _ _
/-- the payments at a place: the live ones, the keys that have sealed -/
structure PayM (N : Nat → Prop) (w : World) (b o : Nat) (ps : List PayD) (ks : List (Int × Int)) : Prop where
  h0 : ∃ ao c, w.cell? ⟨b, o, none⟩ = some (.slice ao ps.length c) ∧ RecAt PayD.v w ao ps
  h1 : ∃ ao c, w.cell? ⟨b, o + 1, none⟩ = some (.slice ao ks.length c) ∧ RecAt kV w ao ks
  ok : ∀ p ∈ ps, PayOk N w p
  b0 : ps.length ≤ 9007199254740992
  b1 : ks.length ≤ 9007199254740992
theorem PayM.grown {N : Nat → Prop} {w w' : World} {b o : Nat} {ps : List PayD} {ks : List (Int × Int)} (h : PayM N w b o ps ks) (hb : Below w.heap.size w w') : PayM N w' b o ps ks := by
  obtain ⟨ao, c, h0, r0⟩ := h.h0
  obtain ⟨ao1, c1, h1, r1⟩ := h.h1
  exact ⟨⟨ao, c, (hb.cell (p := ⟨b, o, none⟩) (cell_lt h0)).trans h0, r0.grown hb⟩, ⟨ao1, c1, (hb.cell (p := ⟨b, o + 1, none⟩) (cell_lt h1)).trans h1, r1.grown hb⟩, fun p hp => (h.ok p hp).grown hb, h.b0, h.b1⟩
theorem PayM.nil (N : Nat → Prop) {w : World} {b o : Nat} (h0 : w.cell? ⟨b, o, none⟩ = some (.slice none 0 0)) (h1 : w.cell? ⟨b, o + 1, none⟩ = some (.slice none 0 0)) : PayM N w b o [] [] :=
  ⟨⟨none, 0, h0, Or.inl rfl⟩, ⟨none, 0, h1, Or.inl rfl⟩, fun p hp => absurd hp (by simp), by simp, by simp⟩
theorem PayM.lt {N : Nat → Prop} {w : World} {b o : Nat} {ps : List PayD} {ks : List (Int × Int)} (h : PayM N w b o ps ks) : b < w.heap.size := by
  obtain ⟨ao, c, h0, _⟩ := h.h0
  exact cell_lt h0
set_option maxRecDepth 100000 in
set_option maxHeartbeats 1000000 in
theorem isFree_any (N : Nat → Prop) (b o : Nat) (ps : List PayD) (ks : List (Int × Int)) (x : CoinD) (w : World) (hm : PayM N w b o ps ks) :
    Calls Tryz.prog 131 #[.pointer (some ⟨b, o, none⟩), coinV x] w fun e w' => e = .returned (.bool (freeB ps ks x)) ∧ Below w.heap.size w w' := by
  have HM : Hid (PayM N w b o ps ks) := hm
  clear hm
  obtain ⟨x0, x1, x2, x3, x4, x5⟩ := x
  go_enter Tryz.func131, Tryz.ntmps131
  go_wp2_with fail
  refine (keyOf_any ⟨x0, x1, x2, x3, x4, x5⟩ _).mono ?_
  rintro e w1 ⟨rfl, hb1⟩
  simp only
  have hb0 : Below w.heap.size w (w.alloc (.cells #[.int .i64 x0, .int .i64 x1, .int .i64 x2, .int .i64 x3, .int .i64 x4, .int .i64 x5] 107)) := (Below.refl _ _).alloc (Nat.le_refl _) _
  have hz0 : (w.alloc (.cells #[.int .i64 x0, .int .i64 x1, .int .i64 x2, .int .i64 x3, .int .i64 x4, .int .i64 x5] 107)).heap.size = w.heap.size + 1 := by simp
  have hbW := hb0.trans (hb1.mono (by omega))
  obtain ⟨d0, d1, d2, d3, d4, d5⟩ := xrow ((vrow_new w [.int .i64 x0, .int .i64 x1, .int .i64 x2, .int .i64 x3, .int .i64 x4, .int .i64 x5] 107).grown hb1)
  have hs1 := hb1.size
  rw [hz0] at hs1
  have HM1 : Hid (PayM N (w1.alloc (.cells #[.int .i64 x4, .int .i64 x5] 117)) b o ps ks) := (HM.out.grown hbW).grown ((Below.refl _ _).alloc (Nat.le_refl _) _)
  have hbW2 := hbW.alloc hbW.size (.cells #[.int .i64 x4, .int .i64 x5] 117)
  clear hb0 hz0 hb1 hbW
  go_upto_region 2 with fail
  have bA : Below w1.heap.size w1 (w1.alloc (.cells #[.int .i64 x4, .int .i64 x5] 117)) := (Below.refl _ _).alloc (Nat.le_refl _) _
  have e0 := (bA.cell (p := ⟨w.heap.size, 0, none⟩) (cell_lt d0)).trans d0
  have e1 := (bA.cell (p := ⟨w.heap.size, 1, none⟩) (cell_lt d1)).trans d1
  clear bA
  have k0 : (w1.alloc (.cells #[.int .i64 x4, .int .i64 x5] 117)).cell? ⟨w1.heap.size, 0, none⟩ = some (.int .i64 x4) := by go_simp
  have k1 : (w1.alloc (.cells #[.int .i64 x4, .int .i64 x5] 117)).cell? ⟨w1.heap.size, 1, none⟩ = some (.int .i64 x5) := by go_simp
  clear d0 d1 d2 d3 d4 d5
  generalize w1.alloc (.cells #[.int .i64 x4, .int .i64 x5] 117) = w2 at *
  generalize w1.heap.size = K at *
  obtain ⟨ao, c, p0, r0⟩ := HM1.out.h0
  obtain ⟨ao1, c1, p1, r1⟩ := HM1.out.h1
  have HR0 : Hid (RecAt PayD.v w2 ao ps) := r0
  have HR1 : Hid (RecAt kV w2 ao1 ks) := r1
  have HP0 : Hid (w2.cell? ⟨b, o, none⟩ = some (.slice ao ps.length c)) := p0
  have HP1 : Hid (w2.cell? ⟨b, o + 1, none⟩ = some (.slice ao1 ks.length c1)) := p1
  clear r0 r1 p0 p1
  have hKl := cell_lt k0
  go_wp2_with fail
  refine (holds_any N b o ao ps.length c ps x0 x1 _ HP0.out HR0.out rfl HM1.out.b0 HM1.out.ok).mono ?_
  rintro e w3 ⟨rfl, hb3⟩
  have hbW3 := hbW2.trans (hb3.mono hbW2.size)
  have q0 := (hb3.cell (p := ⟨K, 0, none⟩) hKl).trans k0
  have q1 := (hb3.cell (p := ⟨K, 1, none⟩) hKl).trans k1
  have HQ1 : Hid (w3.cell? ⟨b, o + 1, none⟩ = some (.slice ao1 ks.length c1)) := (hb3.cell (p := ⟨b, o + 1, none⟩) (cell_lt HP1.out)).trans HP1.out
  have HRR : Hid (RecAt kV w3 ao1 ks) := HR1.out.grown hb3
  clear e0 e1 k0 k1 hb3
  have HF : Hid (freeB ps ks ⟨x0, x1, x2, x3, x4, x5⟩ = (!heldB ps x0 x1 && !usedB ks (x4, x5))) := rfl
  generalize hh : heldB ps x0 x1 = H at *
  cases H
  · go_wp2_with fail
    refine (hasSealed_any b o ao1 ks.length c1 ks x4 x5 _ HQ1.out HRR.out rfl HM1.out.b1).mono ?_
    rintro e w4 ⟨rfl, hb4⟩
    have hbW4 := hbW3.trans (hb4.mono hbW3.size)
    generalize usedB ks (x4, x5) = U at *
    cases U
    · go_wp2
      go_ret
      exact ⟨ret_bool HF.out.symm, hbW4⟩
    · go_wp2
      go_ret
      exact ⟨ret_bool HF.out.symm, hbW4⟩
  · go_wp2
    go_ret
    exact ⟨ret_bool (by rw [HF.out]; rfl), hbW3⟩
theorem keep6 {w w' : World} {T : Nat} {a0 a1 a2 a3 a4 a5 : Value} (hb : Below w.heap.size w w') (h : w.cell? ⟨T, 0, none⟩ = some a0 ∧ w.cell? ⟨T, 1, none⟩ = some a1 ∧ w.cell? ⟨T, 2, none⟩ = some a2 ∧ w.cell? ⟨T, 3, none⟩ = some a3 ∧ w.cell? ⟨T, 4, none⟩ = some a4 ∧ w.cell? ⟨T, 5, none⟩ = some a5) :
    w'.cell? ⟨T, 0, none⟩ = some a0 ∧ w'.cell? ⟨T, 1, none⟩ = some a1 ∧ w'.cell? ⟨T, 2, none⟩ = some a2 ∧ w'.cell? ⟨T, 3, none⟩ = some a3 ∧ w'.cell? ⟨T, 4, none⟩ = some a4 ∧ w'.cell? ⟨T, 5, none⟩ = some a5 := by
  have hl := cell_lt h.1
  obtain ⟨h0, h1, h2, h3, h4, h5⟩ := h
  exact ⟨(hb.cell (p := ⟨T, 0, none⟩) hl).trans h0, (hb.cell (p := ⟨T, 1, none⟩) hl).trans h1, (hb.cell (p := ⟨T, 2, none⟩) hl).trans h2, (hb.cell (p := ⟨T, 3, none⟩) hl).trans h3, (hb.cell (p := ⟨T, 4, none⟩) hl).trans h4, (hb.cell (p := ⟨T, 5, none⟩) hl).trans h5⟩
theorem filter_snoc {α : Type} (p : α → Bool) (l : List α) (d : α) (k : Nat) (h : k < l.length) : (l.take (k + 1)).filter p = (l.take k).filter p ++ if p (l.getD k d) = true then [l.getD k d] else [] := by
  rw [List.take_succ_eq_append_getElem h, List.filter_append]
  simp only [List.getD, List.getElem?_eq_getElem h, Option.getD_some]
  congr 1
  cases hp : p l[k] <;> simp [hp]
set_option maxRecDepth 100000 in
set_option maxHeartbeats 2000000 in
theorem free_any (N : Nat → Prop) (P : Nat) (ps : List PayD) (ks : List (Int × Int)) (ao : Option Addr) (n c : Nat) (cs : List CoinD) (w : World) (hp : PayM N w P 4 ps ks) (hx : RecAt CoinD.l w ao cs) (hn : cs.length = n) (hm : n ≤ 100000) :
    Calls Tryz.prog 80 #[.pointer (some ⟨P, 0, none⟩), .slice ao n c] w fun e w' => ∃ v, e = .returned v ∧ OwnRec CoinD.l 107 6 w' w.heap.size v (cs.filter (freeB ps ks)) ∧ Below w.heap.size w w' := by
  have HA : Hid (RecAt CoinD.l w ao cs) := hx
  have HM : Hid (cs.length = n) := hn
  have HP : Hid (PayM N w P 4 ps ks) := hp
  have hPl := hp.lt
  clear hx hn hp
  generalize hB : w.heap.size = B at hPl
  have HB : Hid (w.heap.size = B) := hB
  clear hB
  go_enter Tryz.func80, Tryz.ntmps80
  go_wp2
  go_loopw [5, 10] (fun v i wr => ∃ k : Nat, k ≤ n ∧ i = .int .i64 k ∧ OwnRec CoinD.l 107 6 wr B v ((cs.take k).filter (freeB ps ks)) ∧ Below B w wr) (fun _ i _ => n - (intOf i).toNat)
  case atStart => exact ⟨0, Nat.zero_le _, rfl, OwnRec.nil _ _ _ _ _, Below.refl _ _⟩
  case round =>
    obtain ⟨k, hk, rfl, hown, hbl⟩ := hrel
    have hsz := hbl.size
    rw [HB.out] at hsz
    by_cases hlt : k < n
    · rcases HA.out with hnil | ⟨gg, off, rfl, hrow⟩
      · have := HM.out; rw [hnil] at this; simp at this; omega
      obtain ⟨c0, c1, c2, c3, c4, c5⟩ := coinCells (hrow.grown (by rw [HB.out]; exact hbl)) k (by rw [HM.out]; exact hlt)
      have HS : Hid _ := filter_snoc (freeB ps ks) cs dN k (by rw [HM.out]; exact hlt)
      have HLN : Hid (((cs.take k).filter (freeB ps ks)).length ≤ 100000) := by show _ ≤ _; have := List.length_filter_le (freeB ps ks) (cs.take k); rw [List.length_take] at this; omega
      clear hrow
      generalize cs.getD k dN = y at c0 c1 c2 c3 c4 c5 HS
      generalize (cs.take k).filter (freeB ps ks) = acc at *
      obtain ⟨y0, y1, y2, y3, y4, y5⟩ := y
      simp only at c0 c1 c2 c3 c4 c5
      have hbx : Below wr.heap.size wr (wr.alloc (.cells #[.int .i64 y0, .int .i64 y1, .int .i64 y2, .int .i64 y3, .int .i64 y4, .int .i64 y5] 107)) := (Below.refl _ _).alloc (Nat.le_refl _) _
      have hv := vrow_new wr [.int .i64 y0, .int .i64 y1, .int .i64 y2, .int .i64 y3, .int .i64 y4, .int .i64 y5] 107
      obtain ⟨x0, x1, x2, x3, x4, x5⟩ := xrow hv
      have hown1 := hown.alloc (.cells #[.int .i64 y0, .int .i64 y1, .int .i64 y2, .int .i64 y3, .int .i64 y4, .int .i64 y5] 107)
      have hbl1 := hbl.alloc hsz (.cells #[.int .i64 y0, .int .i64 y1, .int .i64 y2, .int .i64 y3, .int .i64 y4, .int .i64 y5] 107)
      go_upto_region 5 with fail
      generalize wr.alloc (.cells #[.int .i64 y0, .int .i64 y1, .int .i64 y2, .int .i64 y3, .int .i64 y4, .int .i64 y5] 107) = w1 at *
      generalize hTe : wr.heap.size = T at *
      have hsz1 : B ≤ w1.heap.size := by have := hbx.size; omega
      have HP1 : Hid (PayM N w1.drew P 4 ps ks) := HP.out.grown (by rw [HB.out]; exact hbl1.drew)
      have HKX : Hid (w1.cell? ⟨T, 0, none⟩ = some (.int .i64 y0) ∧ w1.cell? ⟨T, 1, none⟩ = some (.int .i64 y1) ∧ w1.cell? ⟨T, 2, none⟩ = some (.int .i64 y2) ∧ w1.cell? ⟨T, 3, none⟩ = some (.int .i64 y3) ∧ w1.cell? ⟨T, 4, none⟩ = some (.int .i64 y4) ∧ w1.cell? ⟨T, 5, none⟩ = some (.int .i64 y5)) := ⟨x0, x1, x2, x3, x4, x5⟩
      have hTl : T < w1.heap.size := cell_lt x0
      clear hbx hv hown hbl hTe c0 c1 c2 c3 c4 c5
      go_wp2
      go_region_held3 (fun w' => w'.cell? ⟨T, 0, none⟩ = some (.int .i64 y0) ∧ w'.cell? ⟨T, 1, none⟩ = some (.int .i64 y1) ∧ w'.cell? ⟨T, 2, none⟩ = some (.int .i64 y2) ∧ w'.cell? ⟨T, 3, none⟩ = some (.int .i64 y3) ∧ w'.cell? ⟨T, 4, none⟩ = some (.int .i64 y4) ∧ w'.cell? ⟨T, 5, none⟩ = some (.int .i64 y5)) (first | assumption | go_keep | exact keep6 hb7 HKX.out) ((go_at_call 131; refine (isFree_any N P 4 ps ks ⟨y0, y1, y2, y3, y4, y5⟩ _ HP1.out).mono ?_; rintro e w7 ⟨rfl, hb7⟩))
      obtain ⟨d0, d1, d2, d3, d4, d5⟩ := keep6 hb7 HKX.out
      have HOW : Hid (OwnRec CoinD.l 107 6 w7 B u5 acc) := (OwnRec.drew hown1).grown hb7
      have hbld : Below B w w7 := hbl1.drew.trans (hb7.mono hsz1)
      have hszd : B ≤ w7.heap.size := Nat.le_trans hsz1 hb7.size
      clear x0 x1 x2 x3 x4 x5 hown1 hbl1 hsz1 HP1 HKX hb7 hTl
      generalize w1.drew = w1d at *
      cases hfr : freeB ps ks ⟨y0, y1, y2, y3, y4, y5⟩
      · rw [hfr] at HS
        go_wp2
        go_roundw
        case rel => exact ⟨k + 1, by omega, by go_num, by rw [HS.out, if_neg (by simp), List.append_nil]; exact HOW.out, hbld⟩
        case measure => simp [intOf]; omega
      · rw [hfr] at HS
        go_wp2_with (at_builtin; refine wpList_appR 45 48 _ Tryz.underlying45 info107 rfl (by decide) coin6 coin_one (w7.alloc (.cells #[.int .i64 y0, .int .i64 y1, .int .i64 y2, .int .i64 y3, .int .i64 y4, .int .i64 y5] 107)) rfl _ _ rfl B w7.heap.size 1 u5 acc ⟨y0, y1, y2, y3, y4, y5⟩ (by rfl) (by rfl) (HOW.out.alloc _) (vrow_new _ _ _) (by simp; omega) (by have := HLN.out; unfold maxLen; omega) (by have := HLN.out; omega) ?_; intro g' cap w5 hown5 hg5 _ _)
        go_roundw
        case rel => exact ⟨k + 1, by omega, by go_num, by rw [HS.out, if_pos rfl]; exact hown5, hbld.trans (gb_to_below (gb_trans (gb_alloc _ _ _) hg5) (by omega) (fun r hr => (HOW.out.blk r hr).1))⟩
        case measure => simp [intOf]; omega
    · have HE : Hid (cs.take k = cs) := by show _ = _; rw [List.take_of_length_le (by rw [HM.out]; omega)]
      rw [HE.out] at hown
      go_wp2
      go_ret
      exact ⟨_, rfl, hown, hbl⟩
theorem free_nil_all (cs : List CoinD) : cs.filter (freeB [] []) = cs := List.filter_eq_self.2 (fun _ _ => rfl)
end Go.Proofs.YtffgpepngcnjeabGreatQ

namespace Go.Proofs.YtffgpepngcnjeabGreatQ
open Go.RowKit
/-- where the live payment of this number stands in the list -/
def pfindZ (ps : List PayD) (k : Int) : Int := idxOf (fun p : PayD => p.num == k) ps 0
set_option maxRecDepth 100000 in
set_option maxHeartbeats 2000000 in
theorem pFind_any (b o : Nat) (ao : Option Addr) (n c : Nat) (ps : List PayD) (k : Int) (w : World) (hp : w.cell? ⟨b, o, none⟩ = some (.slice ao n c)) (hx : RecAt PayD.v w ao ps) (hn : ps.length = n) (hm : n ≤ 1000000000000) :
    Calls Tryz.prog 88 #[.pointer (some ⟨b, o, none⟩), .int .i64 k] w fun e w' => e = .returned (.int .i64 (pfindZ ps k)) ∧ Below w.heap.size w w' := by
  have HN : Hid (ps.length = n) := hn
  have HX : Hid (RecAt PayD.v w ao ps) := hx
  clear hn hx
  go_enter Tryz.func88, Tryz.ntmps88
  go_wp2
  go_loopw [12] (fun i wr => ∃ j : Nat, j ≤ n ∧ i = .int .i64 j ∧ Hid (idxOf (fun p : PayD => p.num == k) (ps.drop j) j = pfindZ ps k) ∧ Below w.heap.size w wr) (fun i _ => n - (intOf i).toNat)
  case atStart => exact ⟨0, Nat.zero_le _, rfl, rfl, Below.refl _ _⟩
  case round =>
    obtain ⟨j, hj, rfl, hz, hbl⟩ := hrel
    have hsz := hbl.size
    by_cases hlt : j < n
    · rcases HX.out with hnil | ⟨g, off, rfl, hrow⟩
      · have := HN.out; rw [hnil] at this; simp at this; omega
      obtain ⟨c0, c1, c2, c3, c4⟩ := payCells (hrow.grown hbl) j (by rw [HN.out]; exact hlt)
      have HS : Hid _ := hz.out
      rw [idxOf_drop _ _ dP j j (by rw [HN.out]; exact hlt)] at HS
      clear hrow
      generalize ps.getD j dP = y at c0 c1 c2 c3 c4 HS
      obtain ⟨y0, y1, y2, y3, y4, y5, y6, y7, y8, y9, y10⟩ := y
      simp only at c0 c1 c2 c3 c4
      cases h1 : (y0 == k)
      · go_wp2
        go_roundw
        case rel => exact ⟨j + 1, by omega, by go_num, by show _ = _; have := HS.out; simp only [h1] at this; simpa using this, hbl.alloc hsz _⟩
        case measure => simp [intOf]; omega
      · go_wp2
        go_ret
        exact ⟨ret_int (by have := HS.out; simp only [h1] at this; simpa using this), hbl.alloc hsz _⟩
    · go_wp2
      go_ret
      refine ⟨ret_int ?_, hbl⟩
      rw [← hz.out, List.drop_of_length_le (by rw [HN.out]; omega)]
      rfl
/-- does the chain have this coin, of this address and value? -/
def hasCoinZ (xs : List Cel) (x : CoinD) : Bool := if findZ xs x.id x.pos < 0 then false else ((xs.getD (findZ xs x.id x.pos).toNat dC).to == x.tt && (xs.getD (findZ xs x.id x.pos).toNat dC).val == x.val)
set_option maxRecDepth 100000 in
set_option maxHeartbeats 2000000 in
theorem hasCoin_any (b o : Nat) (ao : Option Addr) (n c : Nat) (xs : List Cel) (x : CoinD) (w : World) (hp : w.cell? ⟨b, o, none⟩ = some (.slice ao n c)) (hx : CelsAt w ao xs) (hn : xs.length = n) (hm : n ≤ 1000000) :
    Calls Tryz.prog 144 #[.pointer (some ⟨b, o, none⟩), .agg #[.int .i64 x.id, .int .i64 x.pos, .int .i64 x.tt, .int .i64 x.val]] w fun e w' => e = .returned (.bool (hasCoinZ xs x)) ∧ Below w.heap.size w w' := by
  have HN : Hid (xs.length = n) := hn
  have HX : Hid (CelsAt w ao xs) := hx
  obtain ⟨x0, x1, x2, x3, x4, x5⟩ := x
  simp only
  have HZ : Hid (hasCoinZ xs ⟨x0, x1, x2, x3, x4, x5⟩ = if findZ xs x0 x1 < 0 then false else ((xs.getD (findZ xs x0 x1).toNat dC).to == x2 && (xs.getD (findZ xs x0 x1).toNat dC).val == x3)) := rfl
  have hb0 : Below w.heap.size w (w.alloc (.cells #[.int .i64 x0, .int .i64 x1, .int .i64 x2, .int .i64 x3] 209)) := (Below.refl _ _).alloc (Nat.le_refl _) _
  have HP0 : Hid ((w.alloc (.cells #[.int .i64 x0, .int .i64 x1, .int .i64 x2, .int .i64 x3] 209)).cell? ⟨b, o, none⟩ = some (.slice ao n c)) := (hb0.cell (p := ⟨b, o, none⟩) (cell_lt hp)).trans hp
  have HX0 : Hid (CelsAt (w.alloc (.cells #[.int .i64 x0, .int .i64 x1, .int .i64 x2, .int .i64 x3] 209)) ao xs) := hx.grown hb0
  have d2 : (w.alloc (.cells #[.int .i64 x0, .int .i64 x1, .int .i64 x2, .int .i64 x3] 209)).cell? ⟨w.heap.size, 2, none⟩ = some (.int .i64 x2) := by go_simp
  have d3 : (w.alloc (.cells #[.int .i64 x0, .int .i64 x1, .int .i64 x2, .int .i64 x3] 209)).cell? ⟨w.heap.size, 3, none⟩ = some (.int .i64 x3) := by go_simp
  clear hn hx hp
  go_enter Tryz.func144, Tryz.ntmps144
  go_wp2_with fail
  refine (find_any b o ao n c xs x0 x1 _ HP0.out HX0.out HN.out hm).mono ?_
  rintro e w1 ⟨rfl, hb1⟩
  have e2 := (hb1.cell (p := ⟨w.heap.size, 2, none⟩) (cell_lt d2)).trans d2
  have e3 := (hb1.cell (p := ⟨w.heap.size, 3, none⟩) (cell_lt d3)).trans d3
  have hX1 : w.heap.size < w1.heap.size := cell_lt e2
  have hb01 : Below w.heap.size w w1 := below_blk hb0 hb1
  have hp1 := (hb1.cell (p := ⟨b, o, none⟩) (cell_lt HP0.out)).trans HP0.out
  have HX1 : Hid (CelsAt w1 ao xs) := HX0.out.grown hb1
  clear d2 d3 HP0 HX0 hb0 hb1
  rcases findZ_cases xs x0 x1 with hf | ⟨j, hj, hf, _⟩
  · rw [hf] at HZ ⊢
    go_wp2
    go_ret
    exact ⟨ret_bool (by rw [HZ.out]; rfl), hb01⟩
  · rw [hf] at HZ ⊢
    rcases HX1.out with hnil | ⟨g, off, rfl, hrow⟩
    · rw [hnil] at hj; simp at hj
    obtain ⟨c0, c1, c2, c3, c4, c5⟩ := celCells hrow j hj
    have hjn : j < n := by rw [← HN.out]; exact hj
    clear hrow hj
    rw [if_neg (by omega), Int.toNat_natCast] at HZ
    generalize xs.getD j dC = y at c0 c1 c2 c3 c4 c5 HZ
    obtain ⟨yid, ypos, yto, yval, ymade, yspent⟩ := y
    simp only at c0 c1 c2 c3 c4 c5 HZ
    have hsz := hb01.size
    cases h1 : (yto == x2)
    · go_wp2
      go_ret
      exact ⟨ret_bool (by rw [HZ.out, h1]; rfl), hb01.alloc hsz _⟩
    · cases h2 : (yval == x3)
      · go_wp2
        go_ret
        exact ⟨ret_bool (by rw [HZ.out, h1, h2]; rfl), hb01.alloc hsz _⟩
      · go_wp2
        go_ret
        exact ⟨ret_bool (by rw [HZ.out, h1, h2]; rfl), hb01.alloc hsz _⟩
end Go.Proofs.YtffgpepngcnjeabGreatQ

namespace Go.Proofs.YtffgpepngcnjeabGreatQ
open Go.RowKit
/-- are all these coins in the chain? -/
def hasAllZ (xs : List Cel) (cs : List CoinD) : Bool := !(cs.any fun x => !hasCoinZ xs x)
set_option maxRecDepth 100000 in
set_option maxHeartbeats 2000000 in
theorem hasAll_any (b o : Nat) (ao : Option Addr) (n c : Nat) (xs : List Cel) (ac : Option Addr) (m d : Nat) (cs : List CoinD) (w : World) (hp : w.cell? ⟨b, o, none⟩ = some (.slice ao n c)) (hx : CelsAt w ao xs) (hn : xs.length = n) (hm : n ≤ 1000000) (hc : RecAt CoinD.l w ac cs) (hcn : cs.length = m) (hcm : m ≤ 1000) :
    Calls Tryz.prog 90 #[.pointer (some ⟨b, o, none⟩), .slice ac m d] w fun e w' => e = .returned (.bool (hasAllZ xs cs)) ∧ Below w.heap.size w w' := by
  have HN : Hid (xs.length = n) := hn
  have HCN : Hid (cs.length = m) := hcn
  have HC : Hid (RecAt CoinD.l w ac cs) := hc
  have HPW : Hid (∀ wx, Below w.heap.size w wx → wx.cell? ⟨b, o, none⟩ = some (.slice ao n c) ∧ CelsAt wx ao xs) := fun wx hb => ⟨(hb.cell (p := ⟨b, o, none⟩) (cell_lt hp)).trans hp, hx.grown hb⟩
  have HD : Hid (hasAllZ xs cs = !(cs.any fun x => !hasCoinZ xs x)) := rfl
  clear hn hcn hc hp hx
  go_enter Tryz.func90, Tryz.ntmps90
  go_wp2
  go_loopw [9] (fun i wr => ∃ k : Nat, k ≤ m ∧ i = .int .i64 k ∧ Hid ((cs.take k).any (fun x => !hasCoinZ xs x) = false) ∧ Below w.heap.size w wr) (fun i _ => m - (intOf i).toNat)
  case atStart => exact ⟨0, Nat.zero_le _, rfl, by show List.any _ _ = false; simp, Below.refl _ _⟩
  case round =>
    obtain ⟨k, hk, rfl, hany, hbl⟩ := hrel
    have hsz := hbl.size
    by_cases hlt : k < m
    · rcases HC.out with hnil | ⟨g, off, rfl, hrow⟩
      · have := HCN.out; rw [hnil] at this; simp at this; omega
      obtain ⟨c0, c1, c2, c3, c4, c5⟩ := coinCells (hrow.grown hbl) k (by rw [HCN.out]; exact hlt)
      have HS : Hid _ := any_no (fun x : CoinD => !hasCoinZ xs x) cs dN k (by rw [HCN.out]; exact hlt) hany.out
      have HZ : Hid _ := any_yes (fun x : CoinD => !hasCoinZ xs x) cs dN k (by rw [HCN.out]; exact hlt)
      clear hrow
      generalize cs.getD k dN = y at c0 c1 c2 c3 c4 c5 HS HZ
      obtain ⟨y0, y1, y2, y3, y4, y5⟩ := y
      simp only at c0 c1 c2 c3 c4 c5
      have hbA := hbl.alloc hsz (.cells #[.int .i64 y0, .int .i64 y1, .int .i64 y2, .int .i64 y3, .int .i64 y4, .int .i64 y5] 107)
      have HPA : Hid _ := HPW.out _ hbA
      go_wp2_with fail
      refine (hasCoin_any b o ao n c xs ⟨y0, y1, y2, y3, y4, y5⟩ _ HPA.out.1 HPA.out.2 HN.out hm).mono ?_
      rintro e w2 ⟨rfl, hb2⟩
      have hb3 := hbA.trans (hb2.mono hbA.size)
      clear hb2 hbA HPA
      cases hv : hasCoinZ xs ⟨y0, y1, y2, y3, y4, y5⟩
      · go_wp2
        go_ret
        exact ⟨ret_bool (by rw [HD.out, HZ.out (by show (!hasCoinZ xs ⟨y0, y1, y2, y3, y4, y5⟩) = true; rw [hv]; rfl)]; rfl), hb3⟩
      · go_wp2
        go_roundw
        case rel => exact ⟨k + 1, by omega, by go_num, HS.out (by show (!hasCoinZ xs ⟨y0, y1, y2, y3, y4, y5⟩) = false; rw [hv]; rfl), hb3⟩
        case measure => simp [intOf]; omega
    · go_wp2
      go_ret
      exact ⟨ret_bool (by rw [HD.out, ← any_done _ cs m HCN.out k (by omega) hany.out]; rfl), hbl⟩
/-- has one of these coins' keys sealed? -/
def anySealZ (ks : List (Int × Int)) (cs : List CoinD) : Bool := cs.any fun x => usedB ks (x.br, x.ix)
set_option maxRecDepth 100000 in
set_option maxHeartbeats 2000000 in
theorem anySealed_any (b o : Nat) (ao : Option Addr) (n c : Nat) (ks : List (Int × Int)) (ac : Option Addr) (m d : Nat) (cs : List CoinD) (w : World) (hp : w.cell? ⟨b, o + 1, none⟩ = some (.slice ao n c)) (hx : RecAt kV w ao ks) (hn : ks.length = n) (hm : n ≤ 9007199254740992) (hc : RecAt CoinD.l w ac cs) (hcn : cs.length = m) (hcm : m ≤ 1000) :
    Calls Tryz.prog 91 #[.pointer (some ⟨b, o, none⟩), .slice ac m d] w fun e w' => e = .returned (.bool (anySealZ ks cs)) ∧ Below w.heap.size w w' := by
  have HN : Hid (ks.length = n) := hn
  have HCN : Hid (cs.length = m) := hcn
  have HC : Hid (RecAt CoinD.l w ac cs) := hc
  have HPW : Hid (∀ wx, Below w.heap.size w wx → wx.cell? ⟨b, o + 1, none⟩ = some (.slice ao n c) ∧ RecAt kV wx ao ks) := fun wx hb => ⟨(hb.cell (p := ⟨b, o + 1, none⟩) (cell_lt hp)).trans hp, hx.grown hb⟩
  clear hn hcn hc hp hx
  go_enter Tryz.func91, Tryz.ntmps91
  go_wp2
  go_loopw [10] (fun i wr => ∃ k : Nat, k ≤ m ∧ i = .int .i64 k ∧ Hid ((cs.take k).any (fun x => usedB ks (x.br, x.ix)) = false) ∧ Below w.heap.size w wr) (fun i _ => m - (intOf i).toNat)
  case atStart => exact ⟨0, Nat.zero_le _, rfl, by show List.any _ _ = false; simp, Below.refl _ _⟩
  case round =>
    obtain ⟨k, hk, rfl, hany, hbl⟩ := hrel
    have hsz := hbl.size
    by_cases hlt : k < m
    · rcases HC.out with hnil | ⟨g, off, rfl, hrow⟩
      · have := HCN.out; rw [hnil] at this; simp at this; omega
      obtain ⟨c0, c1, c2, c3, c4, c5⟩ := coinCells (hrow.grown hbl) k (by rw [HCN.out]; exact hlt)
      have HS : Hid _ := any_no (fun x : CoinD => usedB ks (x.br, x.ix)) cs dN k (by rw [HCN.out]; exact hlt) hany.out
      have HZ : Hid _ := any_yes (fun x : CoinD => usedB ks (x.br, x.ix)) cs dN k (by rw [HCN.out]; exact hlt)
      clear hrow
      generalize cs.getD k dN = y at c0 c1 c2 c3 c4 c5 HS HZ
      obtain ⟨y0, y1, y2, y3, y4, y5⟩ := y
      simp only at c0 c1 c2 c3 c4 c5
      have hbA := hbl.alloc hsz (.cells #[.int .i64 y0, .int .i64 y1, .int .i64 y2, .int .i64 y3, .int .i64 y4, .int .i64 y5] 107)
      go_wp2_with fail
      refine (keyOf_any ⟨y0, y1, y2, y3, y4, y5⟩ _).mono ?_
      rintro e w2 ⟨rfl, hb2⟩
      simp only
      have hb3 := hbA.trans (hb2.mono hbA.size)
      have hb4 := hb3.alloc hb3.size (.cells #[.int .i64 y4, .int .i64 y5] 117)
      have HPA : Hid _ := HPW.out _ hb4
      clear hb2 hbA hb3
      go_wp2_with fail
      refine (hasSealed_any b o ao n c ks y4 y5 _ HPA.out.1 HPA.out.2 HN.out hm).mono ?_
      rintro e w5 ⟨rfl, hb5⟩
      have hb6 := hb4.trans (hb5.mono hb4.size)
      clear hb5 HPA hb4
      cases hv : usedB ks (y4, y5)
      · go_wp2
        go_roundw
        case rel => exact ⟨k + 1, by omega, by go_num, HS.out hv, hb6⟩
        case measure => simp [intOf]; omega
      · go_wp2
        go_ret
        exact ⟨ret_bool (HZ.out hv).symm, hb6⟩
    · go_wp2
      go_ret
      exact ⟨ret_bool (any_done _ cs m HCN.out k (by omega) hany.out), hbl⟩
end Go.Proofs.YtffgpepngcnjeabGreatQ

namespace Go.Proofs.YtffgpepngcnjeabGreatQ
open Go.RowKit
def worthZ (r : Int) (c : CoinD) : Int := c.val - 7 * r
/-- the worthy ones, each laid to its place -/
def ordStep (r : Int) (acc : List CoinD) (c : CoinD) : List CoinD := if 1 ≤ worthZ r c then insZ true acc c else acc
def orderZ (r : Int) (l : List CoinD) : List CoinD := l.foldl (ordStep r) []
def bitN (m n i : Nat) : Bool := m / 2 ^ (n - 1 - i) % 2 == 1
/-- the program's: eight bits, those behind the list's end tell nothing -/
def sumP (r : Int) (cs : List CoinD) (m : Nat) : Int := ((List.range 8).map fun i => if decide (i < cs.length) && bitN m 8 i then worthZ r (cs.getD i dN) else 0).sum
def memP (cs : List CoinD) (m : Nat) : List CoinD := ((List.range 8).filter fun i => decide (i < cs.length) && bitN m 8 i).map fun i => cs.getD i dN
/-- the document's: as many bits as candidates -/
def sumD (r : Int) (cs : List CoinD) (n m : Nat) : Int := ((List.range n).map fun i => if bitN m n i then worthZ r (cs.getD i dN) else 0).sum
def memD (cs : List CoinD) (n m : Nat) : List CoinD := ((List.range n).filter fun i => bitN m n i).map fun i => cs.getD i dN
def nearZ (f : Nat → Int) (lo : Int) : Nat → Nat × Int → Nat × Int
  | 0, s => s
  | m + 1, s => nearZ f lo m (if lo ≤ f (m + 1) ∧ f (m + 1) < s.2 then (m + 1, f (m + 1)) else s)
def fitZD (f : Nat → Int) (lo hi : Int) : Nat → Nat × Int → Nat × Int
  | 0, s => s
  | m + 1, s => fitZD f lo hi m (if lo ≤ f (m + 1) ∧ f (m + 1) ≤ hi ∧ (s.1 = 0 ∨ f (m + 1) < s.2) then (m + 1, f (m + 1)) else s)
/-- b: the greatest of the sets from 1 to M that have the least sum from lo to hi; 0: there is none -/
structure Best (f : Nat → Int) (lo hi : Int) (M b : Nat) : Prop where
  no : b = 0 → ∀ m, 1 ≤ m → m ≤ M → ¬(lo ≤ f m ∧ f m ≤ hi)
  yes : b ≠ 0 → b ≤ M ∧ lo ≤ f b ∧ f b ≤ hi ∧ ∀ m, 1 ≤ m → m ≤ M → lo ≤ f m → f b ≤ f m ∧ (f m = f b → m ≤ b)
theorem near_best (f : Nat → Int) (lo hi : Int) (M : Nat) : ∀ (k : Nat) (s : Nat × Int), k ≤ M → (s.1 = 0 → s.2 = hi + 1 ∧ ∀ m, k < m → m ≤ M → ¬(lo ≤ f m ∧ f m ≤ hi)) →
    (s.1 ≠ 0 → s.2 = f s.1 ∧ k < s.1 ∧ s.1 ≤ M ∧ lo ≤ f s.1 ∧ f s.1 ≤ hi ∧ ∀ m, k < m → m ≤ M → lo ≤ f m → f s.1 ≤ f m ∧ (f m = f s.1 → m ≤ s.1)) → Best f lo hi M (nearZ f lo k s).1 := by
  intro k
  induction k with
  | zero =>
    intro s _ h1 h2
    rw [nearZ]
    exact ⟨fun e m hm hM => (h1 e).2 m (by omega) hM, fun e => by
      obtain ⟨a, b, c, d, e1, e2⟩ := h2 e
      exact ⟨c, d, e1, fun m hm hM hl => e2 m (by omega) hM hl⟩⟩
  | succ k ih =>
    intro s hk h1 h2
    rw [nearZ]
    by_cases hc : lo ≤ f (k + 1) ∧ f (k + 1) < s.2
    · rw [if_pos hc]
      refine ih _ (by omega) (fun e => by simp at e) (fun _ => ?_)
      simp only
      by_cases e0 : s.1 = 0
      · obtain ⟨a, b⟩ := h1 e0
        refine ⟨trivial, by omega, hk, hc.1, by omega, fun m hm hM hl => ?_⟩
        by_cases em : m = k + 1
        · subst em; omega
        · have hb := b m (by omega) hM
          have : hi < f m := by
            by_cases hq : f m ≤ hi
            · exact absurd ⟨hl, hq⟩ hb
            · omega
          omega
      · obtain ⟨a, b, c, d, e1, e2⟩ := h2 e0
        refine ⟨trivial, by omega, hk, hc.1, by omega, fun m hm hM hl => ?_⟩
        by_cases em : m = k + 1
        · subst em; omega
        · have := e2 m (by omega) hM hl
          omega
    · rw [if_neg hc]
      refine ih _ (by omega) (fun e => ⟨(h1 e).1, fun m hm hM hf => ?_⟩) (fun e => ?_)
      · by_cases em : m = k + 1
        · subst em; have := (h1 e).1; exact hc ⟨hf.1, by omega⟩
        · exact (h1 e).2 m (by omega) hM hf
      · obtain ⟨a, b, c, d, e1, e2⟩ := h2 e
        refine ⟨a, by omega, c, d, e1, fun m hm hM hl => ?_⟩
        by_cases em : m = k + 1
        · subst em
          have : ¬ f (k + 1) < s.2 := fun h => hc ⟨hl, h⟩
          omega
        · exact e2 m (by omega) hM hl
theorem fit_best (f : Nat → Int) (lo hi : Int) (M : Nat) : ∀ (k : Nat) (s : Nat × Int), k ≤ M → (s.1 = 0 → ∀ m, k < m → m ≤ M → ¬(lo ≤ f m ∧ f m ≤ hi)) →
    (s.1 ≠ 0 → s.2 = f s.1 ∧ k < s.1 ∧ s.1 ≤ M ∧ lo ≤ f s.1 ∧ f s.1 ≤ hi ∧ ∀ m, k < m → m ≤ M → lo ≤ f m → f s.1 ≤ f m ∧ (f m = f s.1 → m ≤ s.1)) → Best f lo hi M (fitZD f lo hi k s).1 := by
  intro k
  induction k with
  | zero =>
    intro s _ h1 h2
    rw [fitZD]
    exact ⟨fun e m hm hM => h1 e m (by omega) hM, fun e => by
      obtain ⟨a, b, c, d, e1, e2⟩ := h2 e
      exact ⟨c, d, e1, fun m hm hM hl => e2 m (by omega) hM hl⟩⟩
  | succ k ih =>
    intro s hk h1 h2
    rw [fitZD]
    by_cases hc : lo ≤ f (k + 1) ∧ f (k + 1) ≤ hi ∧ (s.1 = 0 ∨ f (k + 1) < s.2)
    · rw [if_pos hc]
      refine ih _ (by omega) (fun e => by simp at e) (fun _ => ?_)
      simp only
      obtain ⟨c1, c2, c3⟩ := hc
      by_cases e0 : s.1 = 0
      · refine ⟨trivial, by omega, hk, c1, c2, fun m hm hM hl => ?_⟩
        by_cases em : m = k + 1
        · subst em; omega
        · have hb := h1 e0 m (by omega) hM
          have : hi < f m := by
            by_cases hq : f m ≤ hi
            · exact absurd ⟨hl, hq⟩ hb
            · omega
          omega
      · obtain ⟨a, b, c, d, e1, e2⟩ := h2 e0
        have c4 : f (k + 1) < s.2 := c3.resolve_left e0
        refine ⟨trivial, by omega, hk, c1, c2, fun m hm hM hl => ?_⟩
        by_cases em : m = k + 1
        · subst em; omega
        · have := e2 m (by omega) hM hl
          omega
    · rw [if_neg hc]
      refine ih _ (by omega) (fun e => fun m hm hM hf => ?_) (fun e => ?_)
      · by_cases em : m = k + 1
        · subst em; exact hc ⟨hf.1, hf.2, Or.inl e⟩
        · exact h1 e m (by omega) hM hf
      · obtain ⟨a, b, c, d, e1, e2⟩ := h2 e
        refine ⟨a, by omega, c, d, e1, fun m hm hM hl => ?_⟩
        by_cases em : m = k + 1
        · subst em
          by_cases hq : f (k + 1) ≤ hi
          · have : ¬ f (k + 1) < s.2 := fun h => hc ⟨hl, hq, Or.inr h⟩
            omega
          · omega
        · exact e2 m (by omega) hM hl
def bestP (r : Int) (cs : List CoinD) (lo hi : Int) : Nat := (nearZ (sumP r cs) lo 255 (0, hi + 1)).1
def bestD (r : Int) (cs : List CoinD) (n : Nat) (lo hi : Int) : Nat := (fitZD (sumD r cs n) lo hi (2 ^ n - 1) (0, 0)).1
theorem bit_shift (m j n i : Nat) (hn : n ≤ 8) (hi : i < n) (hj : j < 2 ^ (8 - n)) : bitN (m * 2 ^ (8 - n) + j) 8 i = bitN m n i := by
  unfold bitN
  have e : 8 - 1 - i = (8 - n) + (n - 1 - i) := by omega
  rw [e, Nat.pow_add, ← Nat.div_div_eq_div_mul]
  have e2 : (m * 2 ^ (8 - n) + j) / 2 ^ (8 - n) = m := by
    rw [Nat.mul_comm, Nat.mul_add_div (Nat.two_pow_pos _), Nat.div_eq_of_lt hj]
    omega
  rw [e2]
theorem range_split (a b : Nat) : List.range (a + b) = List.range a ++ (List.range b).map (a + ·) := List.range_add ..
theorem sum_zero {l : List Nat} {f : Nat → Int} (h : ∀ i ∈ l, f i = 0) : (l.map f).sum = 0 := by
  induction l with
  | nil => rfl
  | cons x r ih => rw [List.map_cons, List.sum_cons, h x List.mem_cons_self, ih (fun i hi => h i (List.mem_cons_of_mem _ hi))]; rfl
theorem sumP_D (r : Int) (cs : List CoinD) (n : Nat) (hn : n = min 8 cs.length) (S : Nat) : sumP r cs S = sumD r cs n (S / 2 ^ (8 - n)) := by
  unfold sumP sumD
  rw [show (8 : Nat) = n + (8 - n) by omega, range_split, List.map_append, List.sum_append]
  have e0 : (((List.range (8 - n)).map (n + ·)).map fun i => if decide (i < cs.length) && bitN S (n + (8 - n)) i then worthZ r (cs.getD i dN) else 0).sum = 0 := by
    refine sum_zero (fun i hi => ?_)
    obtain ⟨j, hj, rfl⟩ := List.mem_map.1 hi
    have hj := List.mem_range.1 hj
    rw [decide_eq_false (by omega), Bool.false_and, if_neg (by simp)]
  rw [e0, Int.add_zero]
  congr 1
  refine List.map_congr_left (fun i hi => ?_)
  have hi := List.mem_range.1 hi
  rw [decide_eq_true (by omega), Bool.true_and]
  have hb := bit_shift (S / 2 ^ (8 - n)) (S % 2 ^ (8 - n)) n i (by omega) hi (Nat.mod_lt _ (Nat.two_pow_pos _))
  rw [Nat.div_add_mod'] at hb
  rw [show n + (8 - n) = 8 by omega, hb]
theorem memP_D (cs : List CoinD) (n : Nat) (hn : n = min 8 cs.length) (S : Nat) : memP cs S = memD cs n (S / 2 ^ (8 - n)) := by
  unfold memP memD
  rw [show (8 : Nat) = n + (8 - n) by omega, range_split, List.filter_append]
  have e0 : ((List.range (8 - n)).map (n + ·)).filter (fun i => decide (i < cs.length) && bitN S (n + (8 - n)) i) = [] := by
    rw [List.filter_eq_nil_iff]
    intro i hi
    obtain ⟨j, hj, rfl⟩ := List.mem_map.1 hi
    have hj := List.mem_range.1 hj
    rw [decide_eq_false (by omega), Bool.false_and]
    simp
  rw [e0, List.append_nil]
  congr 1
  refine List.filter_congr (fun i hi => ?_)
  have hi := List.mem_range.1 hi
  rw [decide_eq_true (by omega), Bool.true_and]
  have hb := bit_shift (S / 2 ^ (8 - n)) (S % 2 ^ (8 - n)) n i (by omega) hi (Nat.mod_lt _ (Nat.two_pow_pos _))
  rw [Nat.div_add_mod'] at hb
  rw [show n + (8 - n) = 8 by omega, hb]
theorem best_same (r : Int) (cs : List CoinD) (n : Nat) (hn : n = min 8 cs.length) (lo hi : Int) (hlo : 0 < lo) : bestP r cs lo hi / 2 ^ (8 - n) = bestD r cs n lo hi ∧ (bestP r cs lo hi = 0 ↔ bestD r cs n lo hi = 0) := by
  have hP : Best (sumP r cs) lo hi 255 (bestP r cs lo hi) := near_best _ lo hi 255 255 (0, hi + 1) (Nat.le_refl _) (fun _ => ⟨rfl, fun m h1 h2 => by omega⟩) (fun h => absurd rfl h)
  have hD : Best (sumD r cs n) lo hi (2 ^ n - 1) (bestD r cs n lo hi) := fit_best _ lo hi (2 ^ n - 1) (2 ^ n - 1) (0, 0) (Nat.le_refl _) (fun _ => fun m h1 h2 => by omega) (fun h => absurd rfl h)
  generalize bestP r cs lo hi = bp at *
  generalize bestD r cs n lo hi = bd at *
  have hq : 2 ^ n * 2 ^ (8 - n) = 256 := by rw [← Nat.pow_add, show n + (8 - n) = 8 by omega]
  have hq0 : 0 < 2 ^ (8 - n) := Nat.two_pow_pos _
  have hn0 : 0 < 2 ^ n := Nat.two_pow_pos _
  have hz : sumD r cs n 0 = 0 := by
    unfold sumD
    refine sum_zero (fun i _ => ?_)
    unfold bitN
    rw [Nat.zero_div]
    rfl
  have up : ∀ S, S ≤ 255 → S / 2 ^ (8 - n) ≤ 2 ^ n - 1 := by
    intro S hS
    have : S / 2 ^ (8 - n) < 2 ^ n := by
      rw [Nat.div_lt_iff_lt_mul hq0, hq]
      exact Nat.lt_succ_of_le hS
    exact Nat.le_sub_one_of_lt this
  have pos : ∀ S, lo ≤ sumP r cs S → 1 ≤ S / 2 ^ (8 - n) := by
    intro S hS
    rw [sumP_D r cs n hn S] at hS
    by_cases e : S / 2 ^ (8 - n) = 0
    · rw [e, hz] at hS; omega
    · exact Nat.pos_of_ne_zero e
  have back : ∀ m, 1 ≤ m → m ≤ 2 ^ n - 1 → 1 ≤ m * 2 ^ (8 - n) + (2 ^ (8 - n) - 1) ∧ m * 2 ^ (8 - n) + (2 ^ (8 - n) - 1) ≤ 255 ∧ (m * 2 ^ (8 - n) + (2 ^ (8 - n) - 1)) / 2 ^ (8 - n) = m := by
    intro m h1 h2
    have h3 : (m + 1) * 2 ^ (8 - n) ≤ 2 ^ n * 2 ^ (8 - n) := Nat.mul_le_mul_right _ (by omega)
    rw [Nat.add_mul] at h3
    have h4 : 1 * 2 ^ (8 - n) ≤ m * 2 ^ (8 - n) := Nat.mul_le_mul_right _ h1
    refine ⟨by omega, by omega, ?_⟩
    rw [Nat.mul_comm, Nat.mul_add_div hq0, Nat.div_eq_of_lt (by omega)]
    omega
  by_cases ed : bd = 0
  · have ep : bp = 0 := by
      by_cases ep : bp = 0
      · exact ep
      · obtain ⟨a, b, c, _⟩ := hP.yes ep
        have h1 := pos bp b
        rw [sumP_D r cs n hn bp] at b c
        exact absurd ⟨b, c⟩ (hD.no ed _ h1 (up bp a))
    rw [ed, ep, Nat.zero_div]
    exact ⟨rfl, Iff.rfl⟩
  · obtain ⟨a, b, c, d⟩ := hD.yes ed
    obtain ⟨s1, s2, s3⟩ := back bd (by omega) a
    have hs : sumP r cs (bd * 2 ^ (8 - n) + (2 ^ (8 - n) - 1)) = sumD r cs n bd := by rw [sumP_D r cs n hn, s3]
    have ep : bp ≠ 0 := fun ep => hP.no ep _ s1 s2 (by rw [hs]; exact ⟨b, c⟩)
    obtain ⟨a', b', c', d'⟩ := hP.yes ep
    have h1 := pos bp b'
    have h2 := d' _ s1 s2 (by rw [hs]; exact b)
    rw [hs] at h2
    rw [sumP_D r cs n hn bp] at b' h2
    have h3 := d _ h1 (up bp a') b'
    have e : sumD r cs n bd = sumD r cs n (bp / 2 ^ (8 - n)) := by omega
    have h4 := h2.2 e
    have h5 := h3.2 e.symm
    have h6 : bd ≤ bp / 2 ^ (8 - n) := by
      have := Nat.div_le_div_right (c := 2 ^ (8 - n)) h4
      rw [s3] at this
      exact this
    exact ⟨by omega, ⟨fun h => absurd h ep, fun h => absurd h ed⟩⟩
end Go.Proofs.YtffgpepngcnjeabGreatQ

namespace Go.Proofs.YtffgpepngcnjeabGreatQ
open Go.RowKit
theorem insG_mem {cs : List CoinD} {x y : CoinD} (h : y ∈ insZ true cs x) : y = x ∨ y ∈ cs := by
  unfold insZ insAt at h
  simp only [List.mem_append, List.mem_cons] at h
  rcases h with h | h | h
  · exact Or.inr (List.mem_of_mem_take h)
  · exact Or.inl h
  · exact Or.inr (List.mem_of_mem_drop h)
theorem insF_mem : ∀ (l acc : List CoinD) {y : CoinD}, y ∈ l.foldl (insZ true) acc → y ∈ l ∨ y ∈ acc := by
  intro l
  induction l with
  | nil => intro acc y h; exact Or.inr h
  | cons x r ih =>
    intro acc y h
    rw [List.foldl_cons] at h
    rcases ih _ h with h | h
    · exact Or.inl (List.mem_cons_of_mem _ h)
    · rcases insG_mem h with h | h
      · exact Or.inl (h ▸ List.mem_cons_self)
      · exact Or.inr h
theorem orderZ_filter (r : Int) (l : List CoinD) : orderZ r l = (l.filter fun c => decide (1 ≤ worthZ r c)).foldl (insZ true) [] := by
  unfold orderZ
  have : ∀ (l acc : List CoinD), l.foldl (ordStep r) acc = (l.filter fun c => decide (1 ≤ worthZ r c)).foldl (insZ true) acc := by
    intro l
    induction l with
    | nil => intro acc; rfl
    | cons x t ih =>
      intro acc
      rw [List.foldl_cons, ih]
      unfold ordStep
      by_cases h : 1 ≤ worthZ r x
      · rw [if_pos h, List.filter_cons_of_pos (by simp [h]), List.foldl_cons]
      · rw [if_neg h, List.filter_cons_of_neg (by simp [h])]
  exact this l []
end Go.Proofs.YtffgpepngcnjeabGreatQ

namespace Go.Proofs.YtffgpepngcnjeabGreatQ
open Go.RowKit
/-- the program: how few of the first are enough, and their sum -/
def enZ (r want : Int) : List CoinD → Nat → Int → Nat × Int
  | [], _, _ => (0, 0)
  | c :: t, i, s => if want ≤ s + worthZ r c then (i + 1, s + worthZ r c) else enZ r want t (i + 1) (s + worthZ r c)
/-- the document: one after the other, till nothing is left to pay -/
def seD (r : Int) : List CoinD → List CoinD → Int → Option (List CoinD × Int)
  | [], _, _ => none
  | c :: t, out, left => if 0 ≤ left + worthZ r c then some (out ++ [c], left + worthZ r c) else seD r t (out ++ [c]) (left + worthZ r c)
theorem enZ_ge (r want : Int) : ∀ (t : List CoinD) (i : Nat) (s : Int), (enZ r want t i s).1 = 0 ∨ (i < (enZ r want t i s).1 ∧ (enZ r want t i s).1 ≤ i + t.length) := by
  intro t
  induction t with
  | nil => intro i s; exact Or.inl rfl
  | cons c t ih =>
    intro i s
    rw [enZ]
    split
    · right
      simp only [List.length_cons]
      omega
    · rcases ih (i + 1) (s + worthZ r c) with h | h
      · exact Or.inl h
      · right
        simp only [List.length_cons]
        omega
theorem en_se (r want : Int) : ∀ (t pre : List CoinD) (s : Int), pre.length ≤ 10 → seD r (t.take (10 - pre.length)) pre (s - want) =
    if (enZ r want t pre.length s).1 = 0 ∨ 10 < (enZ r want t pre.length s).1 then none else some ((pre ++ t).take (enZ r want t pre.length s).1, (enZ r want t pre.length s).2 - want) := by
  intro t
  induction t with
  | nil =>
    intro pre s _
    rw [List.take_nil, seD, enZ, if_pos (Or.inl rfl)]
  | cons c t ih =>
    intro pre s hp
    by_cases h10 : pre.length = 10
    · rw [h10, Nat.sub_self, List.take_zero, seD]
      rcases enZ_ge r want (c :: t) 10 s with h | h
      · rw [if_pos (Or.inl h)]
      · rw [if_pos (Or.inr h.1)]
    · rw [show 10 - pre.length = (10 - (pre.length + 1)) + 1 by omega, List.take_succ_cons, seD, enZ]
      by_cases hw : want ≤ s + worthZ r c
      · rw [if_pos (by omega), if_pos hw, if_neg (by simp only; omega)]
        simp only
        congr 2
        · rw [List.take_append, List.take_of_length_le (by omega), show pre.length + 1 - pre.length = 1 by omega]
          rfl
        · omega
      · rw [if_neg (by omega), if_neg hw]
        have := ih (pre ++ [c]) (s + worthZ r c) (by simp; omega)
        rw [List.length_append, List.length_singleton, List.append_assoc, List.singleton_append] at this
        rw [← this]
        congr 1
        omega
def slackZ (r : Int) : Int := 2 * r + 9
def chooseZ (r : Int) (cs : List CoinD) (want : Int) : Option (List CoinD × Int) :=
  if bestP r cs want (want + slackZ r) ≠ 0 then some (memP cs (bestP r cs want (want + slackZ r)), 0)
  else if (enZ r want cs 0 0).1 = 0 ∨ 10 < (enZ r want cs 0 0).1 then none
  else some (cs.take (enZ r want cs 0 0).1, if (enZ r want cs 0 0).2 - want ≤ slackZ r then 0 else (enZ r want cs 0 0).2 - want - 2 * r)
def chosenD (r : Int) (cs : List CoinD) (want : Int) : List CoinD × Int :=
  if 0 < bestD r cs (min 8 cs.length) want (want + 2 * r + 10 - 1) then (memD cs (min 8 cs.length) (bestD r cs (min 8 cs.length) want (want + 2 * r + 10 - 1)), 0)
  else match seD r (cs.take 10) [] (-want) with
    | none => ([], 0)
    | some (out, left) => (out, if 10 ≤ left - 2 * r then left - 2 * r else 0)
theorem sum_none {n : Nat} {f : Nat → Int} {b : Nat → Bool} (h : (List.range n).filter b = []) : ((List.range n).map fun i => if b i then f i else 0).sum = 0 := by
  refine sum_zero (fun i hi => ?_)
  have := List.filter_eq_nil_iff.1 h i hi
  rw [if_neg (by simpa using this)]
theorem choose_same (r : Int) (cs : List CoinD) (want : Int) (hw : 0 < want) : (chooseZ r cs want = none ∧ chosenD r cs want = ([], 0)) ∨ ∃ l c, chooseZ r cs want = some (l, c) ∧ chosenD r cs want = (l, c) ∧ l ≠ [] ∧ 0 ≤ c ∧ (0 < c → 10 ≤ c) := by
  have hs : want + 2 * r + 10 - 1 = want + slackZ r := by unfold slackZ; omega
  obtain ⟨b1, b2⟩ := best_same r cs (min 8 cs.length) rfl want (want + slackZ r) hw
  unfold chooseZ chosenD
  rw [hs]
  have hD : Best (sumD r cs (min 8 cs.length)) want (want + slackZ r) (2 ^ (min 8 cs.length) - 1) (bestD r cs (min 8 cs.length) want (want + slackZ r)) := fit_best _ _ _ (2 ^ (min 8 cs.length) - 1) (2 ^ (min 8 cs.length) - 1) (0, 0) (Nat.le_refl _) (fun _ => fun m h1 h2 => by omega) (fun h => absurd rfl h)
  by_cases e : bestP r cs want (want + slackZ r) = 0
  · have e2 := b2.1 e
    rw [e, e2, if_neg (fun h => h rfl), if_neg (Nat.lt_irrefl 0)]
    have h := en_se r want cs [] 0 (by simp)
    simp only [List.length_nil, Nat.sub_zero, List.nil_append] at h
    rw [show (0 : Int) - want = -want by omega] at h
    rw [h]
    by_cases hc : (enZ r want cs 0 0).1 = 0 ∨ 10 < (enZ r want cs 0 0).1
    · rw [if_pos hc, if_pos hc]
      exact Or.inl ⟨rfl, rfl⟩
    · rw [if_neg hc, if_neg hc]
      refine Or.inr ⟨_, _, rfl, ?_, ?_, ?_, ?_⟩
      · simp only
        congr 1
        unfold slackZ
        split <;> split <;> omega
      · intro hn
        rcases enZ_ge r want cs 0 0 with h | h
        · exact hc (Or.inl h)
        · have := congrArg List.length hn
          rw [List.length_take, List.length_nil] at this
          omega
      · unfold slackZ
        split <;> omega
      · unfold slackZ
        split <;> omega
  · have e2 : bestD r cs (min 8 cs.length) want (want + slackZ r) ≠ 0 := fun h => e (b2.2 h)
    rw [if_pos e, if_pos (Nat.pos_of_ne_zero e2)]
    refine Or.inr ⟨_, _, rfl, ?_, ?_, Int.le_refl _, fun h => absurd h (by simp)⟩
    · rw [memP_D cs (min 8 cs.length) rfl, b1]
    · rw [memP_D cs (min 8 cs.length) rfl, b1]
      intro hn
      have h0 : (List.range (min 8 cs.length)).filter (fun i => bitN (bestD r cs (min 8 cs.length) want (want + slackZ r)) (min 8 cs.length) i) = [] := by
        unfold memD at hn
        exact List.map_eq_nil_iff.1 hn
      have h1 := (hD.yes e2).2.1
      unfold sumD at h1
      rw [sum_none h0] at h1
      omega
end Go.Proofs.YtffgpepngcnjeabGreatQ
