/-
  Package payments: what is held, which keys have sealed, which coins are free.
  What a purse shows, and whether two show the same.
  A purse's Connect and Disconnect.
  Found: its small functions.
  Found: the scene in memory.
-/
import Derived.Test.YtffgpepngcnjeaaMah
import Derived.Test.YtffgpepngcnjeaaMaf
namespace Go.Proofs.Ytffgpepngcnjeaa
open Go.RowKit
set_option maxRecDepth 100000 in
set_option maxHeartbeats 2000000 in
theorem holds_any (N : Nat → Prop) (b o : Nat) (ao : Option Addr) (n c : Nat) (ps : List PayD) (id pos : Int) (w : World) (hp : w.cell? ⟨b, o, none⟩ = some (.slice ao n c)) (hx : RecAt PayD.v w ao ps) (hn : ps.length = n) (hm : n ≤ 9007199254740992) (hok : ∀ p ∈ ps, PayOk N w p) :
    Calls Try.prog 131 #[.pointer (some ⟨b, o, none⟩), .int .i64 id, .int .i64 pos] w fun e w' => e = .returned (.bool (heldB ps id pos)) ∧ Below w.heap.size w w' := by
  have HN : Hid (ps.length = n) := hn
  have HX : Hid (RecAt PayD.v w ao ps) := hx
  have HO : Hid (∀ p ∈ ps, PayOk N w p) := hok
  clear hn hx hok
  go_enter Try.func131, Try.ntmps131
  go_wp2
  go_loopw [16] (fun i wr => ∃ k : Nat, k ≤ n ∧ i = .int .i64 k ∧ Hid ((ps.take k).any (fun p => p.cs.any fun x => x.id == id && x.pos == pos) = false) ∧ Below w.heap.size w wr) (fun i _ => n - (intOf i).toNat)
  case atStart => exact ⟨0, Nat.zero_le _, rfl, by show List.any _ _ = false; simp, Below.refl _ _⟩
  case round =>
    obtain ⟨k, hk, rfl, hany, hbl⟩ := hrel
    have hsz := hbl.size
    by_cases hlt : k < n
    · rcases HX.out with hnil | ⟨g, off, rfl, hrow⟩
      · have := HN.out; rw [hnil] at this; simp at this; omega
      obtain ⟨c0, c1, c2, c3, c4⟩ := payCells (hrow.grown hbl) k (by rw [HN.out]; exact hlt)
      have HS : Hid _ := any_no (fun p : PayD => p.cs.any fun x => x.id == id && x.pos == pos) ps dP k (by rw [HN.out]; exact hlt) hany.out
      have HZ : Hid _ := any_yes (fun p : PayD => p.cs.any fun x => x.id == id && x.pos == pos) ps dP k (by rw [HN.out]; exact hlt)
      have hk0 := HO.out (ps.getD k dP) (getD_mem ps dP k (by rw [HN.out]; exact hlt))
      have HCO : Hid _ := hk0.co
      have HCL : Hid _ := hk0.cl
      have hb1 := hk0.b1
      clear hrow hk0
      generalize ps.getD k dP = y at c0 c1 c2 c3 c4 HS HZ HCO HCL hb1
      obtain ⟨ynum, yac, ync, ycc, yap, ym, yd, ytag, ysg, ycs, yys⟩ := y
      simp only at c0 c1 c2 c3 c4 hb1
      have HA : Hid (RecAt CoinD.l w yac ycs) := HCO.out
      have HL : Hid (ycs.length = ync) := HCL.out
      clear HCO HCL
      obtain ⟨wo, rfl⟩ : ∃ wo : World, wo = wr := ⟨_, rfl⟩
      go_wp2
      go_loopw [23] (fun i wr => ∃ j : Nat, j ≤ ync ∧ i = .int .i64 j ∧ Hid ((ycs.take j).any (fun x => x.id == id && x.pos == pos) = false) ∧ Below w.heap.size w wr ∧ Below wo.heap.size wo wr) (fun i _ => ync - (intOf i).toNat)
      case atStart => exact ⟨0, Nat.zero_le _, rfl, by show List.any _ _ = false; simp, hbl.alloc hsz _, (Below.refl _ _).alloc (Nat.le_refl _) _⟩
      case round =>
        obtain ⟨j, hj, rfl, hany2, hbl2, hbo⟩ := hrel
        have hsz2 := hbl2.size
        have hszo := hbo.size
        by_cases hlt2 : j < ync
        · rcases HA.out with hnil | ⟨g2, off2, rfl, hrow⟩
          · have := HL.out; rw [hnil] at this; simp at this; omega
          obtain ⟨d0, d1, d2, d3, d4, d5⟩ := coinCells (hrow.grown hbl2) j (by rw [HL.out]; exact hlt2)
          have HS2 : Hid _ := any_no (fun x : CoinD => x.id == id && x.pos == pos) ycs dN j (by rw [HL.out]; exact hlt2) hany2.out
          have HZ2 : Hid _ := any_yes (fun x : CoinD => x.id == id && x.pos == pos) ycs dN j (by rw [HL.out]; exact hlt2)
          clear hrow
          generalize ycs.getD j dN = z at d0 d1 d2 d3 d4 d5 HS2 HZ2
          obtain ⟨z0, z1, z2, z3, z4, z5⟩ := z
          simp only at d0 d1 d2 d3 d4 d5
          cases h1 : (z0 == id)
          · go_wp2
            go_roundw
            case rel => exact ⟨j + 1, by omega, by go_num, HS2.out (by simp [h1]), hbl2.alloc hsz2 _, hbo.alloc hszo _⟩
            case measure => simp [intOf]; omega
          · cases h2 : (z1 == pos)
            · go_wp2
              go_roundw
              case rel => exact ⟨j + 1, by omega, by go_num, HS2.out (by simp [h2]), hbl2.alloc hsz2 _, hbo.alloc hszo _⟩
              case measure => simp [intOf]; omega
            · go_wp2
              go_ret
              exact ⟨ret_bool (HZ.out (HZ2.out (by show (z0 == id && z1 == pos) = true; rw [h1, h2]; rfl))).symm, hbl2.alloc hsz2 _⟩
        · have HE : Hid _ := any_done (fun x : CoinD => x.id == id && x.pos == pos) ycs ync HL.out j (by omega) hany2.out
          go_wp2
          go_roundw
          case rel => exact ⟨k + 1, by omega, by go_num, HS.out HE.out.symm, hbl2⟩
          case measure => simp [intOf]; omega
    · go_wp2
      go_ret
      exact ⟨ret_bool (any_done _ ps n HN.out k (by omega) hany.out), hbl⟩
set_option maxRecDepth 100000 in
set_option maxHeartbeats 1000000 in
theorem hasSealed_any (b o : Nat) (ao : Option Addr) (n c : Nat) (ks : List (Int × Int)) (kb ki : Int) (w : World) (hp : w.cell? ⟨b, o + 1, none⟩ = some (.slice ao n c)) (hx : RecAt kV w ao ks) (hn : ks.length = n) (hm : n ≤ 9007199254740992) :
    Calls Try.prog 132 #[.pointer (some ⟨b, o, none⟩), .agg #[.int .i64 kb, .int .i64 ki]] w fun e w' => e = .returned (.bool (usedB ks (kb, ki))) ∧ Below w.heap.size w w' := by
  have HN : Hid (ks.length = n) := hn
  have HX : Hid (RecAt kV w ao ks) := hx
  clear hn hx
  have hblt := cell_lt hp
  simp only at hblt
  go_enter Try.func132, Try.ntmps132
  go_wp2
  go_loopw [12] (fun i wr => ∃ k : Nat, k ≤ n ∧ i = .int .i64 k ∧ Hid ((ks.take k).any (fun x => x.1 == kb && x.2 == ki) = false) ∧ wr.cell? ⟨w.heap.size, 0, none⟩ = some (.int .i64 kb) ∧ wr.cell? ⟨w.heap.size, 1, none⟩ = some (.int .i64 ki) ∧ w.heap.size < wr.heap.size ∧ Below w.heap.size w wr) (fun i _ => n - (intOf i).toNat)
  case atStart => exact ⟨0, Nat.zero_le _, rfl, by show List.any _ _ = false; simp, by go_simp, by go_simp, by simp, (Below.refl _ _).alloc (Nat.le_refl _) _⟩
  case round =>
    obtain ⟨k, hk, rfl, hany, e0, e1, hlt0, hbl⟩ := hrel
    have hsz := hbl.size
    by_cases hlt : k < n
    · rcases HX.out with hnil | ⟨g, off, rfl, hrow⟩
      · have := HN.out; rw [hnil] at this; simp at this; omega
      obtain ⟨c0, c1⟩ := kvCells (hrow.grown hbl) k (by rw [HN.out]; exact hlt)
      have HS : Hid _ := any_no (fun x : Int × Int => x.1 == kb && x.2 == ki) ks (0, 0) k (by rw [HN.out]; exact hlt) hany.out
      have HZ : Hid _ := any_yes (fun x : Int × Int => x.1 == kb && x.2 == ki) ks (0, 0) k (by rw [HN.out]; exact hlt)
      clear hrow
      generalize ks.getD k (0, 0) = y at c0 c1 HS HZ
      obtain ⟨y0, y1⟩ := y
      simp only at c0 c1
      cases h1 : (y0 == kb)
      · go_wp2
        go_roundw
        case rel => exact ⟨k + 1, by omega, by go_num, HS.out (by simp [h1]), by go_simp, by go_simp, by simp; omega, hbl.alloc hsz _⟩
        case measure => simp [intOf]; omega
      · cases h2 : (y1 == ki)
        · go_wp2
          go_roundw
          case rel => exact ⟨k + 1, by omega, by go_num, HS.out (by simp [h2]), by go_simp, by go_simp, by simp; omega, hbl.alloc hsz _⟩
          case measure => simp [intOf]; omega
        · go_wp2
          go_ret
          exact ⟨ret_bool (HZ.out (by show (y0 == kb && y1 == ki) = true; rw [h1, h2]; rfl)).symm, hbl.alloc hsz _⟩
    · go_wp2
      go_ret
      exact ⟨ret_bool (any_done _ ks n HN.out k (by omega) hany.out), hbl⟩
set_option maxRecDepth 100000 in
set_option maxHeartbeats 400000 in
theorem keyOf_any (x : CoinD) (w : World) : Calls Try.prog 130 #[coinV x] w fun e w' => e = .returned (.agg #[.int .i64 x.br, .int .i64 x.ix]) ∧ Below w.heap.size w w' := by
  obtain ⟨x0, x1, x2, x3, x4, x5⟩ := x
  go_enter Try.func130, Try.ntmps130
  go_wp2
  refine bodyPost_ret (v := .agg #[.int .i64 x4, .int .i64 x5]) ?_ rfl ⟨rfl, ?_⟩
  · simp [results, Try.results130, go_sem]
  · have hbn : ∀ p q : Obj, Below w.heap.size w ((w.alloc p).alloc q) := fun p q => ((Below.refl _ _).alloc (Nat.le_refl _) _).alloc (by simp) _
    exact hbn _ _
/-- the payments at a place: the live ones, the keys that have sealed -/
structure PayM (N : Nat → Prop) (w : World) (b o : Nat) (ps : List PayD) (ks : List (Int × Int)) : Prop where
  h0 : ∃ ao c, w.cell? ⟨b, o, none⟩ = some (.slice ao ps.length c) ∧ RecAt PayD.v w ao ps
  h1 : ∃ ao c, w.cell? ⟨b, o + 1, none⟩ = some (.slice ao ks.length c) ∧ RecAt kV w ao ks
  ok : ∀ p ∈ ps, PayOk N w p
  b0 : ps.length ≤ 9007199254740992
  b1 : ks.length ≤ 9007199254740992
theorem PayM.grown {N : Nat → Prop} {w w' : World} {b o : Nat} {ps : List PayD} {ks : List (Int × Int)} (h : PayM N w b o ps ks) (hb : Below w.heap.size w w') : PayM N w' b o ps ks := by
  obtain ⟨ao, c, h0, r0⟩ := h.h0
  obtain ⟨ao1, c1, h1, r1⟩ := h.h1
  exact ⟨⟨ao, c, (hb.cell (p := ⟨b, o, none⟩) (cell_lt h0)).trans h0, r0.grown hb⟩, ⟨ao1, c1, (hb.cell (p := ⟨b, o + 1, none⟩) (cell_lt h1)).trans h1, r1.grown hb⟩, fun p hp => (h.ok p hp).grown hb, h.b0, h.b1⟩
theorem PayM.nil (N : Nat → Prop) {w : World} {b o : Nat} (h0 : w.cell? ⟨b, o, none⟩ = some (.slice none 0 0)) (h1 : w.cell? ⟨b, o + 1, none⟩ = some (.slice none 0 0)) : PayM N w b o [] [] :=
  ⟨⟨none, 0, h0, Or.inl rfl⟩, ⟨none, 0, h1, Or.inl rfl⟩, fun p hp => absurd hp (by simp), by simp, by simp⟩
theorem PayM.lt {N : Nat → Prop} {w : World} {b o : Nat} {ps : List PayD} {ks : List (Int × Int)} (h : PayM N w b o ps ks) : b < w.heap.size := by
  obtain ⟨ao, c, h0, _⟩ := h.h0
  exact cell_lt h0
set_option maxRecDepth 100000 in
set_option maxHeartbeats 1000000 in
theorem isFree_any (N : Nat → Prop) (b o : Nat) (ps : List PayD) (ks : List (Int × Int)) (x : CoinD) (w : World) (hm : PayM N w b o ps ks) :
    Calls Try.prog 114 #[.pointer (some ⟨b, o, none⟩), coinV x] w fun e w' => e = .returned (.bool (freeB ps ks x)) ∧ Below w.heap.size w w' := by
  have HM : Hid (PayM N w b o ps ks) := hm
  clear hm
  obtain ⟨x0, x1, x2, x3, x4, x5⟩ := x
  go_enter Try.func114, Try.ntmps114
  go_wp2_with fail
  refine (keyOf_any ⟨x0, x1, x2, x3, x4, x5⟩ _).mono ?_
  rintro e w1 ⟨rfl, hb1⟩
  simp only
  have hb0 : Below w.heap.size w (w.alloc (.cells #[.int .i64 x0, .int .i64 x1, .int .i64 x2, .int .i64 x3, .int .i64 x4, .int .i64 x5] 143)) := (Below.refl _ _).alloc (Nat.le_refl _) _
  have hz0 : (w.alloc (.cells #[.int .i64 x0, .int .i64 x1, .int .i64 x2, .int .i64 x3, .int .i64 x4, .int .i64 x5] 143)).heap.size = w.heap.size + 1 := by simp
  have hbW := hb0.trans (hb1.mono (by omega))
  obtain ⟨d0, d1, d2, d3, d4, d5⟩ := xrow ((vrow_new w [.int .i64 x0, .int .i64 x1, .int .i64 x2, .int .i64 x3, .int .i64 x4, .int .i64 x5] 143).grown hb1)
  have hs1 := hb1.size
  rw [hz0] at hs1
  have HM1 : Hid (PayM N (w1.alloc (.cells #[.int .i64 x4, .int .i64 x5] 188)) b o ps ks) := (HM.out.grown hbW).grown ((Below.refl _ _).alloc (Nat.le_refl _) _)
  have hbW2 := hbW.alloc hbW.size (.cells #[.int .i64 x4, .int .i64 x5] 188)
  clear hb0 hz0 hb1 hbW
  go_upto_region 2 with fail
  have bA : Below w1.heap.size w1 (w1.alloc (.cells #[.int .i64 x4, .int .i64 x5] 188)) := (Below.refl _ _).alloc (Nat.le_refl _) _
  have e0 := (bA.cell (p := ⟨w.heap.size, 0, none⟩) (cell_lt d0)).trans d0
  have e1 := (bA.cell (p := ⟨w.heap.size, 1, none⟩) (cell_lt d1)).trans d1
  clear bA
  have k0 : (w1.alloc (.cells #[.int .i64 x4, .int .i64 x5] 188)).cell? ⟨w1.heap.size, 0, none⟩ = some (.int .i64 x4) := by go_simp
  have k1 : (w1.alloc (.cells #[.int .i64 x4, .int .i64 x5] 188)).cell? ⟨w1.heap.size, 1, none⟩ = some (.int .i64 x5) := by go_simp
  clear d0 d1 d2 d3 d4 d5
  generalize w1.alloc (.cells #[.int .i64 x4, .int .i64 x5] 188) = w2 at *
  generalize w1.heap.size = K at *
  obtain ⟨ao, c, p0, r0⟩ := HM1.out.h0
  obtain ⟨ao1, c1, p1, r1⟩ := HM1.out.h1
  have HR0 : Hid (RecAt PayD.v w2 ao ps) := r0
  have HR1 : Hid (RecAt kV w2 ao1 ks) := r1
  have HP0 : Hid (w2.cell? ⟨b, o, none⟩ = some (.slice ao ps.length c)) := p0
  have HP1 : Hid (w2.cell? ⟨b, o + 1, none⟩ = some (.slice ao1 ks.length c1)) := p1
  clear r0 r1 p0 p1
  have hKl := cell_lt k0
  go_wp2_with fail
  refine (holds_any N b o ao ps.length c ps x0 x1 _ HP0.out HR0.out rfl HM1.out.b0 HM1.out.ok).mono ?_
  rintro e w3 ⟨rfl, hb3⟩
  have hbW3 := hbW2.trans (hb3.mono hbW2.size)
  have q0 := (hb3.cell (p := ⟨K, 0, none⟩) hKl).trans k0
  have q1 := (hb3.cell (p := ⟨K, 1, none⟩) hKl).trans k1
  have HQ1 : Hid (w3.cell? ⟨b, o + 1, none⟩ = some (.slice ao1 ks.length c1)) := (hb3.cell (p := ⟨b, o + 1, none⟩) (cell_lt HP1.out)).trans HP1.out
  have HRR : Hid (RecAt kV w3 ao1 ks) := HR1.out.grown hb3
  clear e0 e1 k0 k1 hb3
  have HF : Hid (freeB ps ks ⟨x0, x1, x2, x3, x4, x5⟩ = (!heldB ps x0 x1 && !usedB ks (x4, x5))) := rfl
  generalize hh : heldB ps x0 x1 = H at *
  cases H
  · go_wp2_with fail
    refine (hasSealed_any b o ao1 ks.length c1 ks x4 x5 _ HQ1.out HRR.out rfl HM1.out.b1).mono ?_
    rintro e w4 ⟨rfl, hb4⟩
    have hbW4 := hbW3.trans (hb4.mono hbW3.size)
    generalize usedB ks (x4, x5) = U at *
    cases U
    · go_wp2
      go_ret
      exact ⟨ret_bool HF.out.symm, hbW4⟩
    · go_wp2
      go_ret
      exact ⟨ret_bool HF.out.symm, hbW4⟩
  · go_wp2
    go_ret
    exact ⟨ret_bool (by rw [HF.out]; rfl), hbW3⟩
theorem keep6 {w w' : World} {T : Nat} {a0 a1 a2 a3 a4 a5 : Value} (hb : Below w.heap.size w w') (h : w.cell? ⟨T, 0, none⟩ = some a0 ∧ w.cell? ⟨T, 1, none⟩ = some a1 ∧ w.cell? ⟨T, 2, none⟩ = some a2 ∧ w.cell? ⟨T, 3, none⟩ = some a3 ∧ w.cell? ⟨T, 4, none⟩ = some a4 ∧ w.cell? ⟨T, 5, none⟩ = some a5) :
    w'.cell? ⟨T, 0, none⟩ = some a0 ∧ w'.cell? ⟨T, 1, none⟩ = some a1 ∧ w'.cell? ⟨T, 2, none⟩ = some a2 ∧ w'.cell? ⟨T, 3, none⟩ = some a3 ∧ w'.cell? ⟨T, 4, none⟩ = some a4 ∧ w'.cell? ⟨T, 5, none⟩ = some a5 := by
  have hl := cell_lt h.1
  obtain ⟨h0, h1, h2, h3, h4, h5⟩ := h
  exact ⟨(hb.cell (p := ⟨T, 0, none⟩) hl).trans h0, (hb.cell (p := ⟨T, 1, none⟩) hl).trans h1, (hb.cell (p := ⟨T, 2, none⟩) hl).trans h2, (hb.cell (p := ⟨T, 3, none⟩) hl).trans h3, (hb.cell (p := ⟨T, 4, none⟩) hl).trans h4, (hb.cell (p := ⟨T, 5, none⟩) hl).trans h5⟩
theorem filter_snoc {α : Type} (p : α → Bool) (l : List α) (d : α) (k : Nat) (h : k < l.length) : (l.take (k + 1)).filter p = (l.take k).filter p ++ if p (l.getD k d) = true then [l.getD k d] else [] := by
  rw [List.take_succ_eq_append_getElem h, List.filter_append]
  simp only [List.getD, List.getElem?_eq_getElem h, Option.getD_some]
  congr 1
  cases hp : p l[k] <;> simp [hp]
set_option maxRecDepth 100000 in
set_option maxHeartbeats 2000000 in
theorem free_any (N : Nat → Prop) (P : Nat) (ps : List PayD) (ks : List (Int × Int)) (ao : Option Addr) (n c : Nat) (cs : List CoinD) (w : World) (hp : PayM N w P 4 ps ks) (hx : RecAt CoinD.l w ao cs) (hn : cs.length = n) (hm : n ≤ 100000) :
    Calls Try.prog 79 #[.pointer (some ⟨P, 0, none⟩), .slice ao n c] w fun e w' => ∃ v, e = .returned v ∧ OwnRec CoinD.l 143 6 w' w.heap.size v (cs.filter (freeB ps ks)) ∧ Below w.heap.size w w' := by
  have HA : Hid (RecAt CoinD.l w ao cs) := hx
  have HM : Hid (cs.length = n) := hn
  have HP : Hid (PayM N w P 4 ps ks) := hp
  have hPl := hp.lt
  clear hx hn hp
  generalize hB : w.heap.size = B at hPl
  have HB : Hid (w.heap.size = B) := hB
  clear hB
  go_enter Try.func79, Try.ntmps79
  go_wp2
  go_loopw [5, 10] (fun v i wr => ∃ k : Nat, k ≤ n ∧ i = .int .i64 k ∧ OwnRec CoinD.l 143 6 wr B v ((cs.take k).filter (freeB ps ks)) ∧ Below B w wr) (fun _ i _ => n - (intOf i).toNat)
  case atStart => exact ⟨0, Nat.zero_le _, rfl, OwnRec.nil _ _ _ _ _, Below.refl _ _⟩
  case round =>
    obtain ⟨k, hk, rfl, hown, hbl⟩ := hrel
    have hsz := hbl.size
    rw [HB.out] at hsz
    by_cases hlt : k < n
    · rcases HA.out with hnil | ⟨gg, off, rfl, hrow⟩
      · have := HM.out; rw [hnil] at this; simp at this; omega
      obtain ⟨c0, c1, c2, c3, c4, c5⟩ := coinCells (hrow.grown (by rw [HB.out]; exact hbl)) k (by rw [HM.out]; exact hlt)
      have HS : Hid _ := filter_snoc (freeB ps ks) cs dN k (by rw [HM.out]; exact hlt)
      have HLN : Hid (((cs.take k).filter (freeB ps ks)).length ≤ 100000) := by show _ ≤ _; have := List.length_filter_le (freeB ps ks) (cs.take k); rw [List.length_take] at this; omega
      clear hrow
      generalize cs.getD k dN = y at c0 c1 c2 c3 c4 c5 HS
      generalize (cs.take k).filter (freeB ps ks) = acc at *
      obtain ⟨y0, y1, y2, y3, y4, y5⟩ := y
      simp only at c0 c1 c2 c3 c4 c5
      have hbx : Below wr.heap.size wr (wr.alloc (.cells #[.int .i64 y0, .int .i64 y1, .int .i64 y2, .int .i64 y3, .int .i64 y4, .int .i64 y5] 143)) := (Below.refl _ _).alloc (Nat.le_refl _) _
      have hv := vrow_new wr [.int .i64 y0, .int .i64 y1, .int .i64 y2, .int .i64 y3, .int .i64 y4, .int .i64 y5] 143
      obtain ⟨x0, x1, x2, x3, x4, x5⟩ := xrow hv
      have hown1 := hown.alloc (.cells #[.int .i64 y0, .int .i64 y1, .int .i64 y2, .int .i64 y3, .int .i64 y4, .int .i64 y5] 143)
      have hbl1 := hbl.alloc hsz (.cells #[.int .i64 y0, .int .i64 y1, .int .i64 y2, .int .i64 y3, .int .i64 y4, .int .i64 y5] 143)
      go_upto_region 5 with fail
      generalize wr.alloc (.cells #[.int .i64 y0, .int .i64 y1, .int .i64 y2, .int .i64 y3, .int .i64 y4, .int .i64 y5] 143) = w1 at *
      generalize hTe : wr.heap.size = T at *
      have hsz1 : B ≤ w1.heap.size := by have := hbx.size; omega
      have HP1 : Hid (PayM N w1.drew P 4 ps ks) := HP.out.grown (by rw [HB.out]; exact hbl1.drew)
      have HKX : Hid (w1.cell? ⟨T, 0, none⟩ = some (.int .i64 y0) ∧ w1.cell? ⟨T, 1, none⟩ = some (.int .i64 y1) ∧ w1.cell? ⟨T, 2, none⟩ = some (.int .i64 y2) ∧ w1.cell? ⟨T, 3, none⟩ = some (.int .i64 y3) ∧ w1.cell? ⟨T, 4, none⟩ = some (.int .i64 y4) ∧ w1.cell? ⟨T, 5, none⟩ = some (.int .i64 y5)) := ⟨x0, x1, x2, x3, x4, x5⟩
      have hTl : T < w1.heap.size := cell_lt x0
      clear hbx hv hown hbl hTe c0 c1 c2 c3 c4 c5
      go_wp2
      go_region_held3 (fun w' => w'.cell? ⟨T, 0, none⟩ = some (.int .i64 y0) ∧ w'.cell? ⟨T, 1, none⟩ = some (.int .i64 y1) ∧ w'.cell? ⟨T, 2, none⟩ = some (.int .i64 y2) ∧ w'.cell? ⟨T, 3, none⟩ = some (.int .i64 y3) ∧ w'.cell? ⟨T, 4, none⟩ = some (.int .i64 y4) ∧ w'.cell? ⟨T, 5, none⟩ = some (.int .i64 y5)) (first | assumption | go_keep | exact keep6 hb7 HKX.out) ((go_at_call 114; refine (isFree_any N P 4 ps ks ⟨y0, y1, y2, y3, y4, y5⟩ _ HP1.out).mono ?_; rintro e w7 ⟨rfl, hb7⟩))
      obtain ⟨d0, d1, d2, d3, d4, d5⟩ := keep6 hb7 HKX.out
      have HOW : Hid (OwnRec CoinD.l 143 6 w7 B u5 acc) := (OwnRec.drew hown1).grown hb7
      have hbld : Below B w w7 := hbl1.drew.trans (hb7.mono hsz1)
      have hszd : B ≤ w7.heap.size := Nat.le_trans hsz1 hb7.size
      clear x0 x1 x2 x3 x4 x5 hown1 hbl1 hsz1 HP1 HKX hb7 hTl
      generalize w1.drew = w1d at *
      cases hfr : freeB ps ks ⟨y0, y1, y2, y3, y4, y5⟩
      · rw [hfr] at HS
        go_wp2
        go_roundw
        case rel => exact ⟨k + 1, by omega, by go_num, by rw [HS.out, if_neg (by simp), List.append_nil]; exact HOW.out, hbld⟩
        case measure => simp [intOf]; omega
      · rw [hfr] at HS
        go_wp2_with (at_builtin; refine wpList_appR 63 48 _ Try.underlying63 info143 rfl (by decide) coin6 coin_one (w7.alloc (.cells #[.int .i64 y0, .int .i64 y1, .int .i64 y2, .int .i64 y3, .int .i64 y4, .int .i64 y5] 143)) rfl _ _ rfl B w7.heap.size 1 u5 acc ⟨y0, y1, y2, y3, y4, y5⟩ (by rfl) (by rfl) (HOW.out.alloc _) (vrow_new _ _ _) (by simp; omega) (by have := HLN.out; unfold maxLen; omega) (by have := HLN.out; omega) ?_; intro g' cap w5 hown5 hg5 _ _)
        go_roundw
        case rel => exact ⟨k + 1, by omega, by go_num, by rw [HS.out, if_pos rfl]; exact hown5, hbld.trans (gb_to_below (gb_trans (gb_alloc _ _ _) hg5) (by omega) (fun r hr => (HOW.out.blk r hr).1))⟩
        case measure => simp [intOf]; omega
    · have HE : Hid (cs.take k = cs) := by show _ = _; rw [List.take_of_length_le (by rw [HM.out]; omega)]
      rw [HE.out] at hown
      go_wp2
      go_ret
      exact ⟨_, rfl, hown, hbl⟩
theorem sumF_val {cs : List CoinD} {p : CoinD → Bool} (hv : ∀ x ∈ cs, 0 ≤ x.val ∧ x.val ≤ 1099511627776) : ∀ x ∈ cs.filter p, 0 ≤ x.val ∧ x.val ≤ 1099511627776 := fun x hx => hv x (List.mem_filter.1 hx).1
set_option maxRecDepth 100000 in
set_option maxHeartbeats 2000000 in
theorem pBalance_any (N : Nat → Prop) (ps : List PayD) (ks : List (Int × Int)) (P : Nat) (s : Int) (g : Nat) (ao : Option Addr) (n c : Nat) (h : Int) (xs : List Cel) (w : World) (hs : Mk.isM s = true) (hg : 1 ≤ g) (hg2 : g ≤ 20) (hp : PurseRow w P s g (.slice ao n c) h) (hl : PayM N w P 4 ps ks) (hx : CelsAt w ao xs) (hn : xs.length = n) (hm : n ≤ 10000) (hv : ∀ x ∈ ownZ (keysZ xs s g) (coinsC xs), 0 ≤ x.val ∧ x.val ≤ 1099511627776) :
    Calls Try.prog 33 #[.pointer (some ⟨P, 0, none⟩)] w fun e w' => e = .returned (.tuple #[.int .i64 (sumC (ownZ (keysZ xs s g) (coinsC xs))), .int .i64 (sumC ((ownZ (keysZ xs s g) (coinsC xs)).filter (freeB ps ks)))]) ∧ Below w.heap.size w w' := by
  have HV : Hid (∀ x ∈ ownZ (keysZ xs s g) (coinsC xs), 0 ≤ x.val ∧ x.val ≤ 1099511627776) := hv
  have HP : Hid (PurseRow w P s g (.slice ao n c) h) := hp
  have HX : Hid (CelsAt w ao xs) := hx
  have HN : Hid (xs.length = n) := hn
  have HL4 : Hid (PayM N w P 4 ps ks) := hl
  have hl0 : (ownZ (keysZ xs s g) (coinsC xs)).length ≤ 10000 := by
    have h1 := ownZ_len (keysZ xs s g) (coinsC xs)
    have h2 := coinsC_len xs
    omega
  have HL : Hid ((ownZ (keysZ xs s g) (coinsC xs)).length ≤ 10000) := hl0
  clear hv hp hx hn hl0 hl
  go_enter Try.func33, Try.ntmps33
  go_wp2_with fail
  refine (pCoins_any P s g ao n c h xs _ hs hg hg2 HP.out HX.out HN.out hm).mono ?_
  rintro e w1 ⟨v, rfl, ho1, hb1⟩
  generalize hcs : ownZ (keysZ xs s g) (coinsC xs) = cs at *
  have HCS : Hid (ownZ (keysZ xs s g) (coinsC xs) = cs) := hcs
  clear hcs
  obtain ⟨ac, cc, rfl, hat⟩ := OwnRec.at coin6 ho1
  have HA : Hid (RecAt CoinD.l w1 ac cs) := hat
  have HL1 : Hid (PayM N w1 P 4 ps ks) := HL4.out.grown hb1
  clear hat ho1
  generalize hm2 : cs.length = m at *
  have HM : Hid (cs.length = m) := hm2
  have hml : m ≤ 10000 := HL.out
  clear hm2
  go_wp2_with fail
  refine (free_any N P ps ks ac m cc cs _ HL1.out HA.out HM.out (by omega)).mono ?_
  rintro e w2 ⟨v2, rfl, ho2, hb2⟩
  obtain ⟨ad, cd, rfl, had⟩ := OwnRec.at coin6 ho2
  have HVF : Hid (∀ x ∈ cs.filter (freeB ps ks), 0 ≤ x.val ∧ x.val ≤ 1099511627776) := sumF_val HV.out
  have HFL : Hid ((cs.filter (freeB ps ks)).length ≤ 10000) := by show _ ≤ _; have := List.length_filter_le (freeB ps ks) cs; rw [HM.out] at this; omega
  have HA2 : Hid (RecAt CoinD.l w2 ac cs) := HA.out.grown hb2
  have HD2 : Hid (RecAt CoinD.l w2 ad (cs.filter (freeB ps ks))) := had
  have hb02 := below_blk hb1 hb2
  clear had ho2 HA hb1 hb2
  generalize hfs : cs.filter (freeB ps ks) = fs at *
  have HFS : Hid (cs.filter (freeB ps ks) = fs) := hfs
  clear hfs
  generalize hfm : fs.length = fm at *
  have HFM : Hid (fs.length = fm) := hfm
  have hfl : fm ≤ 10000 := HFL.out
  clear hfm HFL
  go_wp2_with fail
  refine (sum_any ac m cc cs _ HA2.out HM.out (by omega) HV.out).mono ?_
  rintro e w3 ⟨rfl, hb3⟩
  have HD3 : Hid (RecAt CoinD.l w3 ad fs) := HD2.out.grown hb3
  have hb03 := below_blk hb02 hb3
  go_wp2_with fail
  refine (sum_any ad fm cd fs _ HD3.out HFM.out (by omega) HVF.out).mono ?_
  rintro e w4 ⟨rfl, hb4⟩
  have hb04 := below_blk hb03 hb4
  go_wp2
  go_ret2
  rw [HCS.out, HFS.out]
  exact ⟨rfl, hb04⟩
theorem free_nil_all (cs : List CoinD) : cs.filter (freeB [] []) = cs := List.filter_eq_self.2 (fun _ _ => rfl)
theorem pBalance_none (P : Nat) (s : Int) (g : Nat) (ao : Option Addr) (n c : Nat) (h : Int) (xs : List Cel) (w : World) (hs : Mk.isM s = true) (hg : 1 ≤ g) (hg2 : g ≤ 20) (hp : PurseRow w P s g (.slice ao n c) h) (hl : w.cell? ⟨P, 4, none⟩ = some (.slice none 0 0)) (hl2 : w.cell? ⟨P, 5, none⟩ = some (.slice none 0 0)) (hx : CelsAt w ao xs) (hn : xs.length = n) (hm : n ≤ 10000) (hv : ∀ x ∈ ownZ (keysZ xs s g) (coinsC xs), 0 ≤ x.val ∧ x.val ≤ 1099511627776) :
    Calls Try.prog 33 #[.pointer (some ⟨P, 0, none⟩)] w fun e w' => e = .returned (.tuple #[.int .i64 (sumC (ownZ (keysZ xs s g) (coinsC xs))), .int .i64 (sumC (ownZ (keysZ xs s g) (coinsC xs)))]) ∧ Below w.heap.size w w' := by
  have := pBalance_any (fun _ => False) [] [] P s g ao n c h xs w hs hg hg2 hp (PayM.nil _ hl hl2) hx hn hm hv
  rw [free_nil_all] at this
  exact this
end Go.Proofs.Ytffgpepngcnjeaa

namespace Go.Proofs.Ytffgpepngcnjeaa
open Go.RowKit
end Go.Proofs.Ytffgpepngcnjeaa

namespace Go.Proofs.Ytffgpepngcnjeaa
open Go.RowKit
variable {Ex : List (Nat × Value)}
/-- a purse in block P -/
abbrev PAt (w : World) (P : Nat) (s : Int) (g : Nat) (v : Value) (h : Int) (xs : List Cel) : Prop := ChOwn [(0, .int .i64 s), (1, .int .i64 (g : Int)), (4, .slice none 0 0), (5, .slice none 0 0), (6, .int .i64 0), (7, .int .i64 0)] w P 2 v h xs
theorem pat_c0 {w : World} {P : Nat} {s : Int} {g : Nat} {v : Value} {h : Int} {xs : List Cel} (hp : PAt w P s g v h xs) : w.cell? ⟨P, 0, none⟩ = some (.int .i64 s) := (hp.ext (0, .int .i64 s) (by simp)).2.2
theorem pat_c1 {w : World} {P : Nat} {s : Int} {g : Nat} {v : Value} {h : Int} {xs : List Cel} (hp : PAt w P s g v h xs) : w.cell? ⟨P, 1, none⟩ = some (.int .i64 (g : Int)) := (hp.ext (1, .int .i64 (g : Int)) (by simp)).2.2
theorem pat_row {w : World} {P : Nat} {s : Int} {g : Nat} {v : Value} {h : Int} {xs : List Cel} (hp : PAt w P s g v h xs) : PurseRow w P s g v h := by
  intro j hj
  match j, hj with
  | 0, _ => exact pat_c0 hp
  | 1, _ => exact pat_c1 hp
  | 2, _ => exact hp.c0
  | 3, _ => exact hp.c1
  | 4, _ => exact (hp.ext (4, .slice none 0 0) (by simp)).2.2
  | 5, _ => exact (hp.ext (5, .slice none 0 0) (by simp)).2.2
  | 6, _ => exact (hp.ext (6, .int .i64 0) (by simp)).2.2
  | 7, _ => exact (hp.ext (7, .int .i64 0) (by simp)).2.2
set_option maxRecDepth 100000 in
set_option maxHeartbeats 400000 in
theorem pConnect_any (P : Nat) (s : Int) (g : Nat) (v : Value) (h : Int) (xs : List Cel) (N : Nat → Prop) (ao : Option Addr) (n c : Nat) (bl : List TxD) (w : World)
    (hp : PAt w P s g v h xs) (hl : xs.length ≤ 5000) (hv : Vals xs) (hh : 0 ≤ h ∧ h ≤ 100) (hb : BlkAt N w ao bl) (hn : bl.length = n) (hN : ∀ k, N k → k < w.heap.size ∧ ¬ chE P v k) (hn2 : n ≤ 9223372036854775807) :
    Calls Try.prog 41 #[.pointer (some ⟨P, 0, none⟩), .slice ao n c] w fun e w' => e = .returned (.tuple #[.int .i64 (connZ h xs bl).1, .int .i64 (connZ h xs bl).2.1]) ∧ ∃ v', PAt w' P s g v' (connZ h xs bl).2.2.1 (connZ h xs bl).2.2.2 ∧ ChStep P v v' w w' := by
  go_enter Try.func41, Try.ntmps41
  go_wp2_with fail
  refine (connect_any P 2 v h xs N ao n c bl _ hp hl hv hh hb hn hN hn2).mono ?_
  rintro e w1 ⟨rfl, v', h1, h2⟩
  go_wp2
  go_ret2
  exact ⟨rfl, v', h1, h2⟩
end Go.Proofs.Ytffgpepngcnjeaa

namespace Go.Proofs.Ytffgpepngcnjeaa
open Go.RowKit
def iV (x : Int) : List Value := [.int .i64 x]
theorem iv1 (x : Int) : (iV x).length = 1 := rfl
theorem iv_one (x : Int) : ∀ u ∈ iV x, u.oneCell' = true := by
  intro u hu
  simp [iV] at hu
  subst hu
  rfl
theorem iCell {w : World} {b off : Nat} {xs : List Int} (h : VRow w b off (xs.flatMap iV)) (j : Nat) (hj : j < xs.length) : w.cell? ⟨b, off + j, none⟩ = some (.int .i64 (xs.getD j 0)) := by
  have := rcell iv1 0 h j hj 0 (by omega)
  rw [Nat.mul_one, Nat.add_zero] at this
  exact this
def ints (A : List Nat) : List Int := A.map fun i : Nat => (i : Int)
set_option maxRecDepth 100000 in
set_option maxHeartbeats 1000000 in
theorem among_any (ao : Option Addr) (n c : Nat) (l : List Int) (x : Int) (w : World) (hx : RecAt iV w ao l) (hn : l.length = n) (hm : n ≤ 1000000) :
    Calls Try.prog 83 #[.slice ao n c, .int .i64 x] w fun e w' => e = .returned (.bool (l.any fun y => y == x)) ∧ Below w.heap.size w w' := by
  have HN : Hid (l.length = n) := hn
  have HX : Hid (RecAt iV w ao l) := hx
  clear hn hx
  go_enter Try.func83, Try.ntmps83
  go_wp2
  go_loopw [5] (fun i wr => ∃ k : Nat, k ≤ n ∧ i = .int .i64 k ∧ Hid ((l.take k).any (fun y => y == x) = false) ∧ Below w.heap.size w wr) (fun i _ => n - (intOf i).toNat)
  case atStart => exact ⟨0, Nat.zero_le _, rfl, by show List.any _ _ = false; simp, Below.refl _ _⟩
  case round =>
    obtain ⟨k, hk, rfl, hany, hbl⟩ := hrel
    by_cases hlt : k < n
    · rcases HX.out with hnil | ⟨g, off, rfl, hrow⟩
      · have := HN.out; rw [hnil] at this; simp at this; omega
      have c0 := iCell (hrow.grown hbl) k (by rw [HN.out]; exact hlt)
      have HS : Hid _ := any_no (fun y : Int => y == x) l 0 k (by rw [HN.out]; exact hlt) hany.out
      have HZ : Hid _ := any_yes (fun y : Int => y == x) l 0 k (by rw [HN.out]; exact hlt)
      clear hrow
      generalize l.getD k 0 = y at c0 HS HZ
      cases hy : (y == x)
      · go_wp2
        go_roundw
        case rel => exact ⟨k + 1, by omega, by go_num, HS.out hy, hbl⟩
        case measure => simp [intOf]; omega
      · go_wp2
        go_ret
        exact ⟨ret_bool (HZ.out hy).symm, hbl⟩
    · go_wp2
      go_ret
      exact ⟨ret_bool (any_done _ l n HN.out k (by omega) hany.out), hbl⟩
set_option maxRecDepth 100000 in
set_option maxHeartbeats 2000000 in
theorem has_any (ao : Option Addr) (n c : Nat) (l : List CoinD) (x : CoinD) (w : World) (hx : RecAt CoinD.l w ao l) (hn : l.length = n) (hm : n ≤ 1000000) :
    Calls Try.prog 85 #[.slice ao n c, coinV x] w fun e w' => e = .returned (.bool (hasZ l x)) ∧ Below w.heap.size w w' := by
  have HN : Hid (l.length = n) := hn
  have HX : Hid (RecAt CoinD.l w ao l) := hx
  clear hn hx
  obtain ⟨x0, x1, x2, x3, x4, x5⟩ := x
  go_enter Try.func85, Try.ntmps85
  go_wp2
  go_loopw [5] (fun i wr => ∃ k : Nat, k ≤ n ∧ i = .int .i64 k ∧ Hid ((l.take k).any (fun y => y.id == x0 && (y.pos == x1 && (y.tt == x2 && y.val == x3))) = false) ∧ wr.cell? ⟨w.heap.size, 0, none⟩ = some (.int .i64 x0) ∧ wr.cell? ⟨w.heap.size, 1, none⟩ = some (.int .i64 x1) ∧ wr.cell? ⟨w.heap.size, 2, none⟩ = some (.int .i64 x2) ∧ wr.cell? ⟨w.heap.size, 3, none⟩ = some (.int .i64 x3) ∧ Below w.heap.size w wr) (fun i _ => n - (intOf i).toNat)
  case atStart => exact ⟨0, Nat.zero_le _, rfl, by show List.any _ _ = false; simp, by go_simp, by go_simp, by go_simp, by go_simp, (Below.refl _ _).alloc (Nat.le_refl _) _⟩
  case round =>
    obtain ⟨k, hk, rfl, hany, b0, b1, b2, b3, hbl⟩ := hrel
    by_cases hlt : k < n
    · rcases HX.out with hnil | ⟨g, off, rfl, hrow⟩
      · have := HN.out; rw [hnil] at this; simp at this; omega
      obtain ⟨a0, a1, a2, a3, a4, a5⟩ := coinCells (hrow.grown hbl) k (by rw [HN.out]; exact hlt)
      have HS : Hid _ := any_no (fun y : CoinD => y.id == x0 && (y.pos == x1 && (y.tt == x2 && y.val == x3))) l dN k (by rw [HN.out]; exact hlt) hany.out
      have HZ : Hid _ := any_yes (fun y : CoinD => y.id == x0 && (y.pos == x1 && (y.tt == x2 && y.val == x3))) l dN k (by rw [HN.out]; exact hlt)
      clear hrow
      generalize l.getD k dN = y at a0 a1 a2 a3 a4 a5 HS HZ
      obtain ⟨y0, y1, y2, y3, y4, y5⟩ := y
      simp only at a0 a1 a2 a3 a4 a5
      have k1 : (k : Int) < (n : Int) := by omega
      have k0 : (0 : Int) ≤ (k : Int) := by omega
      clear a4 a5
      cases h0 : (y0 == x0)
      · go_wp2
        go_quiet (fail)
        have hbq : Below w.heap.size w (wr.drewN nq) := ⟨hbl.os, hbl.tape, hbl.output, hbl.size, hbl.block⟩
        have HR : Hid ((wr.drewN nq).cell? ⟨w.heap.size, 0, none⟩ = some (.int .i64 x0) ∧ (wr.drewN nq).cell? ⟨w.heap.size, 1, none⟩ = some (.int .i64 x1) ∧ (wr.drewN nq).cell? ⟨w.heap.size, 2, none⟩ = some (.int .i64 x2) ∧ (wr.drewN nq).cell? ⟨w.heap.size, 3, none⟩ = some (.int .i64 x3)) := ⟨b0, b1, b2, b3⟩
        go_wp2
        go_roundw
        case rel => exact ⟨k + 1, by omega, by go_num, HS.out (by simp [h0]), HR.out.1, HR.out.2.1, HR.out.2.2.1, HR.out.2.2.2, hbq⟩
        case measure => simp [intOf]; omega
      · cases h1 : (y1 == x1)
        · go_wp2
          go_quiet (fail)
          have hbq : Below w.heap.size w (wr.drewN nq) := ⟨hbl.os, hbl.tape, hbl.output, hbl.size, hbl.block⟩
          have HR : Hid ((wr.drewN nq).cell? ⟨w.heap.size, 0, none⟩ = some (.int .i64 x0) ∧ (wr.drewN nq).cell? ⟨w.heap.size, 1, none⟩ = some (.int .i64 x1) ∧ (wr.drewN nq).cell? ⟨w.heap.size, 2, none⟩ = some (.int .i64 x2) ∧ (wr.drewN nq).cell? ⟨w.heap.size, 3, none⟩ = some (.int .i64 x3)) := ⟨b0, b1, b2, b3⟩
          go_wp2
          go_roundw
          case rel => exact ⟨k + 1, by omega, by go_num, HS.out (by simp [h1]), HR.out.1, HR.out.2.1, HR.out.2.2.1, HR.out.2.2.2, hbq⟩
          case measure => simp [intOf]; omega
        · cases h2 : (y2 == x2)
          · go_wp2
            go_quiet (fail)
            have hbq : Below w.heap.size w (wr.drewN nq) := ⟨hbl.os, hbl.tape, hbl.output, hbl.size, hbl.block⟩
            have HR : Hid ((wr.drewN nq).cell? ⟨w.heap.size, 0, none⟩ = some (.int .i64 x0) ∧ (wr.drewN nq).cell? ⟨w.heap.size, 1, none⟩ = some (.int .i64 x1) ∧ (wr.drewN nq).cell? ⟨w.heap.size, 2, none⟩ = some (.int .i64 x2) ∧ (wr.drewN nq).cell? ⟨w.heap.size, 3, none⟩ = some (.int .i64 x3)) := ⟨b0, b1, b2, b3⟩
            go_wp2
            go_roundw
            case rel => exact ⟨k + 1, by omega, by go_num, HS.out (by simp [h2]), HR.out.1, HR.out.2.1, HR.out.2.2.1, HR.out.2.2.2, hbq⟩
            case measure => simp [intOf]; omega
          · cases h3 : (y3 == x3)
            · go_wp2
              go_quiet (fail)
              have hbq : Below w.heap.size w (wr.drewN nq) := ⟨hbl.os, hbl.tape, hbl.output, hbl.size, hbl.block⟩
              have HR : Hid ((wr.drewN nq).cell? ⟨w.heap.size, 0, none⟩ = some (.int .i64 x0) ∧ (wr.drewN nq).cell? ⟨w.heap.size, 1, none⟩ = some (.int .i64 x1) ∧ (wr.drewN nq).cell? ⟨w.heap.size, 2, none⟩ = some (.int .i64 x2) ∧ (wr.drewN nq).cell? ⟨w.heap.size, 3, none⟩ = some (.int .i64 x3)) := ⟨b0, b1, b2, b3⟩
              go_wp2
              go_roundw
              case rel => exact ⟨k + 1, by omega, by go_num, HS.out (by simp [h3]), HR.out.1, HR.out.2.1, HR.out.2.2.1, HR.out.2.2.2, hbq⟩
              case measure => simp [intOf]; omega
            · go_wp2
              go_quiet (fail)
              have hbq : Below w.heap.size w (wr.drewN nq) := ⟨hbl.os, hbl.tape, hbl.output, hbl.size, hbl.block⟩
              go_wp2
              go_ret
              exact ⟨ret_bool (HZ.out (by show (y0 == x0 && (y1 == x1 && (y2 == x2 && y3 == x3))) = true; rw [h0, h1, h2, h3]; rfl)).symm, hbq⟩
    · go_wp2
      go_ret
      exact ⟨ret_bool (any_done _ l n HN.out k (by omega) hany.out), hbl⟩
set_option maxRecDepth 100000 in
set_option maxHeartbeats 1000000 in
theorem total_any (S : Nat) (ao : Option Addr) (n c : Nat) (cs : List CoinD) (w : World) (hp : w.cell? ⟨S, 4, none⟩ = some (.slice ao n c)) (hx : RecAt CoinD.l w ao cs) (hn : cs.length = n) (hm : n ≤ 100000) (hv : ∀ x ∈ cs, 0 ≤ x.val ∧ x.val ≤ 1099511627776) :
    Calls Try.prog 48 #[.pointer (some ⟨S, 0, none⟩)] w fun e w' => e = .returned (.int .i64 (sumC cs)) ∧ Below w.heap.size w w' := by
  have HV : Hid (∀ x ∈ cs, 0 ≤ x.val ∧ x.val ≤ 1099511627776) := hv
  have HA : Hid (RecAt CoinD.l w ao cs) := hx
  have HM : Hid (cs.length = n) := hn
  clear hv hx hn
  have hS := cell_lt hp
  simp only at hS
  go_enter Try.func48, Try.ntmps48
  go_wp2
  go_loopw [3, 4] (fun v i wr => ∃ (k : Nat) (T : Int), k ≤ n ∧ i = .int .i64 k ∧ v = .int .i64 T ∧ Hid (((cs.take k).map CoinD.val).sum = T) ∧ Below w.heap.size w wr) (fun _ i _ => n - (intOf i).toNat)
  case atStart => exact ⟨0, 0, Nat.zero_le _, rfl, rfl, rfl, Below.refl _ _⟩
  case round =>
    obtain ⟨k, T, hk, rfl, rfl, hT, hbl⟩ := hrel
    have p0 := (hbl.cell (p := ⟨S, 4, none⟩) hS).trans hp
    by_cases hlt : k < n
    · rcases HA.out with hnil | ⟨gg, off, rfl, hrow⟩
      · have := HM.out; rw [hnil] at this; simp at this; omega
      obtain ⟨c0, c1, c2, c3, c4, c5⟩ := coinCells (hrow.grown hbl) k (by rw [HM.out]; exact hlt)
      have HS : Hid _ := sum_snoc CoinD.val cs dN k (by rw [HM.out]; exact hlt)
      have hSb := sum_bd CoinD.val 1099511627776 (cs.take k) (fun x hx => HV.out x (List.mem_of_mem_take hx))
      have hyb := HV.out (cs.getD k dN) (getD_mem cs dN k (by rw [HM.out]; exact hlt))
      rw [hT.out] at hSb
      have hl2 : (cs.take k).length ≤ 100000 := by rw [List.length_take]; omega
      have hS2 : 0 ≤ T ∧ T ≤ 110000000000000000 := ⟨hSb.1, by omega⟩
      clear hrow hSb hl2
      generalize cs.getD k dN = y at c0 c1 c2 c3 c4 c5 HS hyb
      obtain ⟨y0, y1, y2, yval, y4, y5⟩ := y
      simp only at c0 c1 c2 c3 c4 c5 hyb
      go_wp2
      go_roundw
      case rel => exact ⟨k + 1, T + yval, by omega, by go_num, rfl, by show _ = _; rw [HS.out, hT.out], hbl⟩
      case measure => simp [intOf]; omega
    · have HSe : Hid (sumC cs = T) := by show _ = _; rw [← hT.out, List.take_of_length_le (by rw [HM.out]; omega)]; rfl
      go_wp2
      go_ret
      exact ⟨ret_int HSe.out.symm, hbl⟩
end Go.Proofs.Ytffgpepngcnjeaa

namespace Go.Proofs.Ytffgpepngcnjeaa
open Go.RowKit
theorem dep_conn (h : Nat) (xs : List Cel) (t ta val : Int) (hh : h < 40) (ht : 0 ≤ t ∧ t ≤ 1099511627776) (h1 : Mk.isM ta = true) (h2 : 10 ≤ val ∧ val ≤ 1099511627776) (hn : depId t ta val ∉ xs.map Cel.id) (x : TxD) (hx1 : x.t = t) (hx2 : x.ins = []) (hx3 : x.ys = [(ta, val)]) :
    connZ h xs [x] = (0, 0, (h : Int) + 1, xs ++ [⟨depId t ta val, 0, ta, val, h, -1⟩]) := by
  have hr := dep_right t ta val ht h1 h2
  have hid : hasId xs (idZ t [] [(ta, val)]) = false := by
    unfold hasId
    rw [List.any_eq_false]
    intro y hy e
    refine hn (List.mem_map.2 ⟨y, hy, ?_⟩)
    simpa [depId] using e
  have ha : addZ xs h t [] [(ta, val)] true = (0, xs ++ [⟨depId t ta val, 0, ta, val, h, -1⟩]) := by
    have e := addZ_ok (xs := xs) (h := (h : Int)) (t := t) (ins := []) (ys := [(ta, val)]) (first := true) (ss := []) (by rw [hr]; simp) hid rfl rfl (by simp)
    rw [e]
    rfl
  have hg : connGo h xs [x] 0 = (0, 0, xs ++ [⟨depId t ta val, 0, ta, val, h, -1⟩]) := by
    rw [connGo, hx1, hx2, hx3]
    have e : (0 : Nat) == 0 := rfl
    rw [show ((0 : Nat) == 0) = true from rfl, ha]
    rfl
  unfold connZ
  rw [if_neg (by omega), if_neg (by simp), hg, if_neg (by simp)]
theorem dep_back (ys : List Cel) (x : Cel) (h : Int) (hx : x.made = h) (hy : ∀ y ∈ ys, y.made ≠ h ∧ y.spent ≠ h) : tbZ h (ys ++ [x]) = ys := by
  have hl : leftI h (ys ++ [x]) (ys ++ [x]).length = ys.length := by
    rw [List.length_append, List.length_singleton, leftI_succ]
    rw [if_pos (by simp [List.getD, hx])]
    have : ∀ k, k ≤ ys.length → leftI h (ys ++ [x]) k = k := by
      intro k hk
      cases k with
      | zero => rfl
      | succ k =>
        rw [leftI_succ, if_neg]
        have e : (ys ++ [x]).getD k dC = ys.getD k dC := by
          simp only [List.getD]
          rw [List.getElem?_append_left (by omega)]
        rw [e]
        exact (hy _ (getD_mem ys dC k (by omega))).1
    exact this _ (Nat.le_refl _)
  unfold tbZ
  rw [hl, List.take_left']
  · refine (List.map_congr_left (g := id) (fun y hy2 => ?_)).trans (List.map_id _)
    unfold unsp
    rw [if_neg (hy y hy2).2]
    rfl
  · rfl
/-- the blocks of a scene -/
def scE (P S : Nat) (v vi vc : Value) (k : Nat) : Prop := chE P v k ∨ k = S ∨ vi.ownBlock = some k ∨ vc.ownBlock = some k
/-- a scene in block S: its purse in block P -/
structure Sc (S P : Nat) (s : Int) (g h : Nat) (v vi vc : Value) (xs : List Cel) (ids : List Int) (cs : List CoinD) (w : World) : Prop where
  pat : PAt w P s g v h xs
  c0 : w.cell? ⟨S, 0, none⟩ = some (.pointer (some ⟨P, 0, none⟩))
  c1 : w.cell? ⟨S, 1, none⟩ = some (.int .i64 s)
  c2 : w.cell? ⟨S, 2, none⟩ = some (.int .i64 (g : Int))
  c3 : w.cell? ⟨S, 3, none⟩ = some vi
  c4 : w.cell? ⟨S, 4, none⟩ = some vc
  f3 : w.frozen? ⟨S, 3, none⟩ = false
  f4 : w.frozen? ⟨S, 4, none⟩ = false
  oi : OwnRec iV 3 1 w (S + 1) vi ids
  oc : OwnRec CoinD.l 143 6 w (S + 1) vc cs
  lt : P < S
  d1 : ∀ k, chE P v k → k ≠ S ∧ vi.ownBlock ≠ some k ∧ vc.ownBlock ≠ some k
  d2 : ∀ k, vi.ownBlock = some k → vc.ownBlock ≠ some k
variable {S P : Nat} {s : Int} {g h : Nat} {v vi vc : Value} {xs : List Cel} {ids : List Int} {cs : List CoinD} {w : World}
theorem Sc.big (u : Sc S P s g h v vi vc xs ids cs w) : S < w.heap.size ∧ P < w.heap.size := ⟨cell_lt u.c0, cell_lt u.pat.c0⟩
theorem Sc.blk (u : Sc S P s g h v vi vc xs ids cs w) : ∀ k, scE P S v vi vc k → P ≤ k ∧ k < w.heap.size := by
  intro k hk
  have hS := u.big
  have hl := u.lt
  rcases hk with e | e | e | e
  · exact u.pat.blk k e
  · omega
  · have := u.oi.blk k e; omega
  · have := u.oc.blk k e; omega
theorem Sc.fr {E : Nat → Prop} {w' : World} (u : Sc S P s g h v vi vc xs ids cs w) (hf : Fr E w w') (hE : ∀ k, scE P S v vi vc k → ¬ E k) : Sc S P s g h v vi vc xs ids cs w' := by
  have hS : ¬ E S := hE S (Or.inr (Or.inl rfl))
  have hl := u.big.1
  exact ⟨u.pat.fr hf (fun k hk => hE k (Or.inl hk)), hf.cell u.c0 hS, hf.cell u.c1 hS, hf.cell u.c2 hS, hf.cell u.c3 hS, hf.cell u.c4 hS, (hf.frozen hl hS).trans u.f3, (hf.frozen hl hS).trans u.f4, hf.own u.oi (fun k hk => hE k (Or.inr (Or.inr (Or.inl hk)))), hf.own u.oc (fun k hk => hE k (Or.inr (Or.inr (Or.inr hk)))), u.lt, u.d1, u.d2⟩
theorem Sc.grown {w' : World} (u : Sc S P s g h v vi vc xs ids cs w) (hb : Below w.heap.size w w') : Sc S P s g h v vi vc xs ids cs w' := u.fr (Fr.of_below hb (fun _ => False)) (fun _ _ h => h)
/-- one step of a scene -/
structure ScStep (P S : Nat) (v vi vc v' vi' vc' : Value) (w w' : World) : Prop where
  fr : Fr (scE P S v vi vc) w w'
  own : ∀ k, scE P S v' vi' vc' k → scE P S v vi vc k ∨ w.heap.size ≤ k
theorem ScStep.of_below {w' : World} (h : Below w.heap.size w w') : ScStep P S v vi vc v vi vc w w' := ⟨Fr.of_below h _, fun _ hk => Or.inl hk⟩
theorem ScStep.trans {v1 vi1 vc1 v2 vi2 vc2 : Value} {w1 w2 : World} (h : ScStep P S v vi vc v1 vi1 vc1 w w1) (k : ScStep P S v1 vi1 vc1 v2 vi2 vc2 w1 w2) : ScStep P S v vi vc v2 vi2 vc2 w w2 := by
  refine ⟨⟨k.fr.os.trans h.fr.os, k.fr.tape.trans h.fr.tape, k.fr.output.trans h.fr.output, Nat.le_trans h.fr.size k.fr.size, fun i hi he => ?_⟩, fun i hi => ?_⟩
  · refine (k.fr.block i (Nat.lt_of_lt_of_le hi h.fr.size) (fun e => ?_)).trans (h.fr.block i hi he)
    rcases h.own i e with e' | e'
    · exact he e'
    · omega
  · rcases k.own i hi with e | e
    · exact h.own i e
    · exact Or.inr (Nat.le_trans h.fr.size e)
/-- the chain moves -/
theorem Sc.chain (u : Sc S P s g h v vi vc xs ids cs w) {w' : World} {v' : Value} {h' : Nat} {xs' : List Cel} (hp : PAt w' P s g v' h' xs') (hst : ChStep P v v' w w') : Sc S P s g h' v' vi vc xs' ids cs w' ∧ ScStep P S v vi vc v' vi vc w w' := by
  have hf := hst.fr
  have hSE : ¬ chE P v S := fun e => (u.d1 S e).1 rfl
  have hl := u.big.1
  have hnew : ∀ k, chE P v' k → chE P v k ∨ w.heap.size ≤ k := fun k hk => by
    rcases hk with e | e
    · exact Or.inl (Or.inl e)
    · rcases hst.own k e with e' | e'
      · exact Or.inl (Or.inr e')
      · exact Or.inr e'
  refine ⟨⟨hp, hf.cell u.c0 hSE, hf.cell u.c1 hSE, hf.cell u.c2 hSE, hf.cell u.c3 hSE, hf.cell u.c4 hSE, (hf.frozen hl hSE).trans u.f3, (hf.frozen hl hSE).trans u.f4, hf.own u.oi (fun k hk e => (u.d1 k e).2.1 hk), hf.own u.oc (fun k hk e => (u.d1 k e).2.2 hk), u.lt, fun k hk => ?_, u.d2⟩, hf.weak (fun k _ e => Or.inl e), fun k hk => ?_⟩
  · rcases hnew k hk with e | e
    · exact u.d1 k e
    · exact ⟨fun e' => by omega, fun e' => by have := (u.oi.blk k e').2; omega, fun e' => by have := (u.oc.blk k e').2; omega⟩
  · rcases hk with e | e
    · exact (hnew k e).imp (fun e => Or.inl e) id
    · exact Or.inl (Or.inr e)
/-- an id more -/
theorem Sc.pushI (u : Sc S P s g h v vi vc xs ids cs w) {w1 : World} {gb cap : Nat} {x : Int} (hown : OwnRec iV 3 1 w1 (S + 1) (.slice (some ⟨gb, 0, none⟩) (ids.length + 1) cap) (ids ++ [x])) (hg : w.grownBy w1 vi.ownBlock) (hl : vi.ownBlock = some gb ∨ w.heap.size ≤ gb) :
    Sc S P s g h v (.slice (some ⟨gb, 0, none⟩) (ids.length + 1) cap) vc xs (ids ++ [x]) cs (w1.setCell ⟨S, 3, none⟩ (.slice (some ⟨gb, 0, none⟩) (ids.length + 1) cap)) ∧ ScStep P S v vi vc v (.slice (some ⟨gb, 0, none⟩) (ids.length + 1) cap) vc w (w1.setCell ⟨S, 3, none⟩ (.slice (some ⟨gb, 0, none⟩) (ids.length + 1) cap)) := by
  have hS := u.big.1
  have hvS : some S ≠ vi.ownBlock := fun e => by have := (u.oi.blk S e.symm).1; omega
  have hgb := (hown.blk gb rfl).1
  have hf : Fr (fun k => k = S ∨ vi.ownBlock = some k) w (w1.setCell ⟨S, 3, none⟩ (.slice (some ⟨gb, 0, none⟩) (ids.length + 1) cap)) := (Fr.of_gb hg (fun k hk _ => Or.inr hk)).set S 3 _ (fun _ => Or.inl rfl)
  have hpE : ∀ k, chE P v k → ¬ (k = S ∨ vi.ownBlock = some k) := fun k hk e => e.elim (u.d1 k hk).1 (u.d1 k hk).2.1
  refine ⟨⟨u.pat.fr hf hpE, so (gb_cell hg u.c0 hvS) (by decide), so (gb_cell hg u.c1 hvS) (by decide), so (gb_cell hg u.c2 hvS) (by decide), World.cell?_setCell_same _ _ _ (gb_cell hg u.c3 hvS), so (gb_cell hg u.c4 hvS) (by decide), by rw [World.frozen?_setCell]; exact (gb_frozen hg hS hvS).trans u.f3, by rw [World.frozen?_setCell]; exact (gb_frozen hg hS hvS).trans u.f4, hown.gb (gb_set w1 S 3 _) (fun k hk e => by simp [Value.ownBlock] at hk; injection e with e; omega), hf.own u.oc (fun k hk e => ?_), u.lt, fun k hk => ⟨(u.d1 k hk).1, fun e => ?_, (u.d1 k hk).2.2⟩, fun k hk e => ?_⟩, hf.weak (fun k _ e => Or.inr (e.imp id (fun h => Or.inl h))), fun k hk => ?_⟩
  · rcases e with e | e
    · have := (u.oc.blk k hk).1; omega
    · exact u.d2 k e hk
  · simp [Value.ownBlock] at e
    subst e
    rcases hl with h | h
    · exact (u.d1 _ hk).2.1 h
    · have := (u.pat.blk _ hk).2; omega
  · simp [Value.ownBlock] at hk
    subst hk
    rcases hl with h | h
    · exact u.d2 _ h e
    · have := (u.oc.blk _ e).2; omega
  · rcases hk with e | e | e | e
    · exact Or.inl (Or.inl e)
    · exact Or.inl (Or.inr (Or.inl e))
    · simp [Value.ownBlock] at e
      subst e
      exact hl.imp (fun h => Or.inr (Or.inr (Or.inl h))) id
    · exact Or.inl (Or.inr (Or.inr (Or.inr e)))
/-- a coin more -/
theorem Sc.pushC (u : Sc S P s g h v vi vc xs ids cs w) {w1 : World} {gb cap : Nat} {x : CoinD} (hown : OwnRec CoinD.l 143 6 w1 (S + 1) (.slice (some ⟨gb, 0, none⟩) (cs.length + 1) cap) (cs ++ [x])) (hg : w.grownBy w1 vc.ownBlock) (hl : vc.ownBlock = some gb ∨ w.heap.size ≤ gb) :
    Sc S P s g h v vi (.slice (some ⟨gb, 0, none⟩) (cs.length + 1) cap) xs ids (cs ++ [x]) (w1.setCell ⟨S, 4, none⟩ (.slice (some ⟨gb, 0, none⟩) (cs.length + 1) cap)) ∧ ScStep P S v vi vc v vi (.slice (some ⟨gb, 0, none⟩) (cs.length + 1) cap) w (w1.setCell ⟨S, 4, none⟩ (.slice (some ⟨gb, 0, none⟩) (cs.length + 1) cap)) := by
  have hS := u.big.1
  have hvS : some S ≠ vc.ownBlock := fun e => by have := (u.oc.blk S e.symm).1; omega
  have hgb := (hown.blk gb rfl).1
  have hf : Fr (fun k => k = S ∨ vc.ownBlock = some k) w (w1.setCell ⟨S, 4, none⟩ (.slice (some ⟨gb, 0, none⟩) (cs.length + 1) cap)) := (Fr.of_gb hg (fun k hk _ => Or.inr hk)).set S 4 _ (fun _ => Or.inl rfl)
  have hpE : ∀ k, chE P v k → ¬ (k = S ∨ vc.ownBlock = some k) := fun k hk e => e.elim (u.d1 k hk).1 (u.d1 k hk).2.2
  refine ⟨⟨u.pat.fr hf hpE, so (gb_cell hg u.c0 hvS) (by decide), so (gb_cell hg u.c1 hvS) (by decide), so (gb_cell hg u.c2 hvS) (by decide), so (gb_cell hg u.c3 hvS) (by decide), World.cell?_setCell_same _ _ _ (gb_cell hg u.c4 hvS), by rw [World.frozen?_setCell]; exact (gb_frozen hg hS hvS).trans u.f3, by rw [World.frozen?_setCell]; exact (gb_frozen hg hS hvS).trans u.f4, hf.own u.oi (fun k hk e => ?_), hown.gb (gb_set w1 S 4 _) (fun k hk e => by simp [Value.ownBlock] at hk; injection e with e; omega), u.lt, fun k hk => ⟨(u.d1 k hk).1, (u.d1 k hk).2.1, fun e => ?_⟩, fun k hk e => ?_⟩, hf.weak (fun k _ e => Or.inr (e.imp id (fun h => Or.inr h))), fun k hk => ?_⟩
  · rcases e with e | e
    · have := (u.oi.blk k hk).1; omega
    · exact u.d2 k hk e
  · simp [Value.ownBlock] at e
    subst e
    rcases hl with h | h
    · exact (u.d1 _ hk).2.2 h
    · have := (u.pat.blk _ hk).2; omega
  · simp [Value.ownBlock] at e
    subst e
    rcases hl with h | h
    · exact u.d2 _ hk h
    · have := (u.oi.blk _ hk).2; omega
  · rcases hk with e | e | e | e
    · exact Or.inl (Or.inl e)
    · exact Or.inl (Or.inr (Or.inl e))
    · exact Or.inl (Or.inr (Or.inr (Or.inl e)))
    · simp [Value.ownBlock] at e
      subst e
      exact hl.imp (fun h => Or.inr (Or.inr (Or.inr h))) id
end Go.Proofs.Ytffgpepngcnjeaa
