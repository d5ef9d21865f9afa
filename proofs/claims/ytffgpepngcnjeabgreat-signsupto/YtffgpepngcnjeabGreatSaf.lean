import Derived.Test.YtffgpepngcnjeabGreatSae
namespace Go.Proofs.YtffgpepngcnjeabGreat
set_option maxRecDepth 100000
set_option maxHeartbeats 2000000
section
open Go.RowKit
variable {w w' : World} {b off g n : Nat} {N : NPr} {ao : OAd} {l : List Value} {y : Value}
structure RCel where
 id : Int
 pos : Int
 ad : Int
 val : Int
 sp : Bool
def dR : RCel := ⟨0, 0, 0, 0, false⟩
def RCel.v (x : RCel) : List Value := [.int .i64 x.id, .int .i64 x.pos, .int .i64 x.ad, .int .i64 x.val, .bool x.sp]
theorem rc5 (x : RCel) : x.v.length = 5 := rfl
theorem rc_one (x : RCel) : ∀ u ∈ x.v, u.oneCell' = true := by
 intro u hu
 simp [RCel.v] at hu
 rcases hu with rfl | rfl | rfl | rfl | rfl <;> rfl
structure RCCells (w : World) (b off : Nat) (x : RCel) : Prop where
 c0 : w.cell? ⟨b, off, none⟩ = some (.int .i64 x.id)
 c1 : w.cell? ⟨b, off + 1, none⟩ = some (.int .i64 x.pos)
 c2 : w.cell? ⟨b, off + 2, none⟩ = some (.int .i64 x.ad)
 c3 : w.cell? ⟨b, off + 3, none⟩ = some (.int .i64 x.val)
 c4 : w.cell? ⟨b, off + 4, none⟩ = some (.bool x.sp)
theorem rcCells {xs : List RCel} (h : VRow w b off (xs.flatMap RCel.v)) (j : Nat) (hj : j < xs.length) : RCCells w b (off + j * 5) (xs.getD j dR) :=
 ⟨reL rc5 dR h j hj 0 (by omega), reL rc5 dR h j hj 1 (by omega), reL rc5 dR h j hj 2 (by omega), reL rc5 dR h j hj 3 (by omega), reL rc5 dR h j hj 4 (by omega)⟩
def isRC (id pos : Int) (x : RCel) : Bool := x.id == id && (x.pos == pos && !x.sp)
def rnZ (xs : List RCel) (id pos : Int) : Int := ixF (isRC id pos) xs 0
theorem rfind_any (ao : OAd) (n c : Nat) (xs : List RCel) (id pos : Int) (w : World) (hx : RcT RCel.v w ao xs) (hn : xs.length = n) (hm : n ≤ 1000000000000000) :
 Calls Tryz.prog 210 #[.slice ao n c, .int .i64 id, .int .i64 pos] w fun e w' => e = .returned (.int .i64 (rnZ xs id pos)) ∧ w = w' := by
 have HN := hiD hn
 have HX := hiD hx
 clear hn hx
 go_enter Tryz.func210, Tryz.ntmps210
 go_wp2
 go_loop [7] (fun i => ∃ k : Nat, k ≤ n ∧ i = .int .i64 k ∧ Hid (ixF (isRC id pos) (xs.drop k) k = rnZ xs id pos)) (fun i => n - (intOf i).toNat)
 case atStart => exact ⟨0, Nat.zero_le _, rfl, rfl⟩
 case round =>
  obtain ⟨k, hk, rfl, hz⟩ := hrel
  by_cases hlt : k < n
  ·rcases HX.out with hnil | ⟨g, off, rfl, hrow⟩
   ·have := HN.out; rw [hnil] at this; simp at this; omega
   obtain ⟨c0, c1, c2, c3, c4⟩ := rcCells hrow k (by rw [HN.out]; exact hlt)
   have HS : Hid _ := hz.out
   rw [idxOf_drop _ _ dR k k (by rw [HN.out]; exact hlt)] at HS
   clear hrow
   generalize xs.getD k dR = y at c0 c1 c2 c3 c4 HS
   obtain ⟨yid, ypos, yad, yval, ysp⟩ := y
   simp only at c0 c1 c2 c3 c4
   cases h1 : (yid == id)
   ·go_wp2
    go_round
    case rel => exact ⟨k + 1, by omega, by go_num, by show _ = _; have := HS.out; simp only [isRC, h1] at this; simpa using this⟩
    case measure => simp [intOf]; omega
   ·cases h2 : (ypos == pos)
    ·go_wp2
     go_round
     case rel => exact ⟨k + 1, by omega, by go_num, by show _ = _; have := HS.out; simp only [isRC, h1, h2] at this; simpa using this⟩
     case measure => simp [intOf]; omega
    ·cases ysp
     ·go_wp2
      go_ret
      exact ⟨riT (by have := HS.out; simp only [isRC, h1, h2] at this; simpa using this), rfl⟩
     ·go_wp2
      go_round
      case rel => exact ⟨k + 1, by omega, by go_num, by show _ = _; have := HS.out; simp only [isRC, h1, h2] at this; simpa using this⟩
      case measure => simp [intOf]; omega
  ·go_wp2
   go_ret
   refine ⟨riT ?_, rfl⟩
   rw [← hz.out, List.drop_of_length_le (by rw [HN.out]; omega)]
   rfl
def sameIn (y x : InD) : Bool := x.id == y.id && x.pos == y.pos
def dbZ (ins : List InD) (k : Nat) : Bool := (ins.take k).any (sameIn (ins.getD k dIn))
theorem take_take_any {α : Type} (l : List α) (p : α → Bool) (d : α) (k n : Nat) (hk : k < n) (hn : n ≤ l.length) (h : p (l.getD k d) = true) : (l.take n).any p = true := by
 rw [List.any_eq_true]
 refine ⟨l.getD k d, ?_, h⟩
 have hl : k < l.length := by omega
 simp only [List.getD, List.getElem?_eq_getElem hl, Option.getD_some]
 rw [List.mem_take_iff_getElem]
 exact ⟨k, by omega, rfl⟩
theorem double_any (b off : Nat) (n c : Nat) (ins : List InD) (k : Nat) (w : World) (hx : InsRow w b off ins) (hn : ins.length = n) (hk : k < n) (hm : n ≤ 1000000000000000) :
 Calls Tryz.prog 222 #[.slice (some ⟨b, off, none⟩) n c, .int .i64 k] w fun e w' => e = .returned (.bool (dbZ ins k)) ∧ Below w.heap.size w w' := by
 have HN := hiD hn
 have HX := hiD hx
 obtain ⟨⟨y0, y1, _⟩, _⟩ := hx k (by omega)
 have HDZ : Hid (dbZ ins k = (ins.take k).any (sameIn (ins.getD k dIn))) := rfl
 generalize ins.getD k dIn = y at y0 y1 HDZ
 clear hn hx
 have i1 : (0 : Int) ≤ (k : Int) := by omega
 have i2 : (k : Int) < (n : Int) := by omega
 go_enter Tryz.func222, Tryz.ntmps222
 go_wp2
 go_loopw [5] (fun i wr => ∃ j : Nat, j ≤ k ∧ i = .int .i64 j ∧ Hid ((ins.take j).any (sameIn y) = false) ∧ Below w.heap.size w wr) (fun i _ => k - (intOf i).toNat)
 case atStart => exact ⟨0, Nat.zero_le _, rfl, by show List.any _ _ = false; simp, Below.refl _ _⟩
 case round =>
  obtain ⟨j, hj, rfl, hany, hbl⟩ := hrel
  by_cases hlt : j < k
  ·obtain ⟨⟨x0, x1, _⟩, _⟩ := (HX.out.grown hbl) j (by rw [HN.out]; omega)
   have z0 := (hbl.cell (p := ⟨b, off + k * 3, none⟩) (clT y0)).trans y0
   have z1 := (hbl.cell (p := ⟨b, off + k * 3 + 1, none⟩) (clT y1)).trans y1
   have HS : Hid _ := any_no (sameIn y) ins dIn j (by rw [HN.out]; omega) hany.out
   have HZ : Hid _ := take_take_any ins (sameIn y) dIn j k hlt (by rw [HN.out]; omega)
   generalize ins.getD j dIn = x at x0 x1 HS HZ
   have e1 : (0 : Int) ≤ (j : Int) := by omega
   have e2 : (j : Int) < (n : Int) := by omega
   cases h1 : (x.id == y.id)
   ·go_wp2
    go_quiet (fail)
    have hbq : Below w.heap.size w (wr.drewN nq) := ⟨hbl.os, hbl.tape, hbl.output, hbl.size, hbl.block⟩
    go_wp2
    go_roundw
    case rel => exact ⟨j + 1, by omega, by go_num, HS (by simp [sameIn, h1]), hbq⟩
    case measure => simp [intOf]; omega
   ·cases h2 : (x.pos == y.pos)
    ·go_wp2
     go_quiet (fail)
     have hbq : Below w.heap.size w (wr.drewN nq) := ⟨hbl.os, hbl.tape, hbl.output, hbl.size, hbl.block⟩
     go_wp2
     go_roundw
     case rel => exact ⟨j + 1, by omega, by go_num, HS (by simp [sameIn, h2]), hbq⟩
     case measure => simp [intOf]; omega
    ·go_wp2
     go_quiet (fail)
     have hbq : Below w.heap.size w (wr.drewN nq) := ⟨hbl.os, hbl.tape, hbl.output, hbl.size, hbl.block⟩
     go_wp2
     go_ret
     exact ⟨rbL (by rw [HDZ.out]; exact (HZ (by simp [sameIn, h1, h2])).symm), hbq⟩
  ·have hjk : j = k := by omega
   subst hjk
   go_wp2
   go_ret
   exact ⟨rbL (by rw [HDZ.out]; exact hany.out.symm), hbl⟩
structure CbD where
 ao : OAd
 n : Nat
 c : Nat
def dCb : CbD := ⟨none, 0, 0⟩
def CbD.v (x : CbD) : List Value := [.slice x.ao x.n x.c]
theorem cb1 (x : CbD) : x.v.length = 1 := rfl
structure ChnAt (N : NPr) (w : World) (ao : OAd) (cs : List CbD) (bls : List (List TxD)) : Prop where
 row : RcT CbD.v w ao cs
 len : cs.length = bls.length
 blk : ∀ i, i < bls.length → BlkAt N w (cs.getD i dCb).ao (bls.getD i []) ∧ (bls.getD i []).length = (cs.getD i dCb).n
theorem ChnAt.grown {cs : List CbD} {bls : List (List TxD)} (h : ChnAt N w ao cs bls) (hb : Below w.heap.size w w') : ChnAt N w' ao cs bls :=
 ⟨h.row.grown hb, h.len, fun i hi => ⟨(h.blk i hi).1.fr (Fr.of_below hb (fun _ => False)) (fun _ _ h => h), (h.blk i hi).2⟩⟩
def TxD.id (x : TxD) : Int := idZ x.t x.ins x.ys
def standsB (id : Int) (bl : List TxD) : Bool := bl.any fun t => t.id == id
def snZ (bls : List (List TxD)) (id : Int) : Bool := bls.any (standsB id)
theorem rId_any (t : Int) (ai : OAd) (n c : Nat) (ap : OAd) (m d : Nat) (xs : List InD) (ys : LII) (w : World) (hx : IAa w ai xs) (hn : xs.length = n) (hy : OsT w ap ys) (hm : ys.length = m) :
 Calls Tryz.prog 169 #[.agg #[.int .i64 t, .slice ai n c, .slice ap m d]] w fun e w' => e = .returned (.int .i64 (idZ t xs ys)) ∧ Below w.heap.size w w' := by
 unfold idZ
 cases hr : rTx t xs ys
 ·rw [if_neg (by simp)]
  exact rId_no t ai n c ap m d xs ys w hx hn hy hm hr
 ·rw [if_pos rfl]
  exact rId_yes t ai n c ap m d xs ys w hx hn hy hm hr
theorem cb_cell {cs : List CbD} (h : VRow w g off (cs.flatMap CbD.v)) (j : Nat) (hj : j < cs.length) : w.cell? ⟨g, off + j, none⟩ = some (.slice (cs.getD j dCb).ao (cs.getD j dCb).n (cs.getD j dCb).c) := by
 have := reL cb1 dCb h j hj 0 (by omega)
 rw [Nat.mul_one, Nat.add_zero] at this
 exact this
theorem stands_any (N : NPr) (ao : OAd) (n c : Nat) (cs : List CbD) (bls : List (List TxD)) (id : Int) (w : World) (hx : ChnAt N w ao cs bls) (hn : bls.length = n) (hm : n ≤ 1000) (hs : ∀ i, i < n → (bls.getD i []).length ≤ 1000) :
 Calls Tryz.prog 170 #[.slice ao n c, .int .i64 id] w fun e w' => e = .returned (.bool (snZ bls id)) ∧ Below w.heap.size w w' := by
 have HN := hiD hn
 have HX := hiD hx
 have HSm := hiD hs
 clear hn hx hs
 go_enter Tryz.func170, Tryz.ntmps170
 go_wp2
 go_loopw [5] (fun i wr => ∃ k : Nat, k ≤ n ∧ i = .int .i64 k ∧ Hid ((bls.take k).any (standsB id) = false) ∧ Below w.heap.size w wr) (fun i _ => n - (intOf i).toNat)
 case atStart => exact ⟨0, Nat.zero_le _, rfl, by show List.any _ _ = false; simp, Below.refl _ _⟩
 case round =>
  obtain ⟨k, hk, rfl, hany, hbl⟩ := hrel
  by_cases hlt : k < n
  ·have hch := HX.out.grown hbl
   rcases hch.row with hnil | ⟨g, off, rfl, hrow⟩
   ·have h1 := hch.len; rw [HN.out, hnil] at h1; simp at h1; omega
   have c0 := cb_cell hrow k (by rw [hch.len, HN.out]; exact hlt)
   obtain ⟨hblk, hble⟩ := hch.blk k (by rw [HN.out]; exact hlt)
   have HS : Hid _ := any_no (standsB id) bls [] k (by rw [HN.out]; exact hlt) hany.out
   have HZ : Hid _ := ayS (standsB id) bls [] k (by rw [HN.out]; exact hlt)
   have hle := HSm.out k hlt
   clear hrow hch
   generalize bls.getD k [] = bl at *
   generalize cs.getD k dCb = cb at *
   obtain ⟨ca, cn, cc⟩ := cb
   simp only at c0 hblk hble
   have HB := hiD hblk
   have HBL := hiD hble
   rw [hble] at hle
   have HBW := hiD hbl
   clear hblk hble hbl
   have e1 : (0 : Int) ≤ (k : Int) := by omega
   have e2 : (k : Int) < (n : Int) := by omega
   obtain ⟨wo, rfl⟩ : ∃ wo : World, wo = wr := ⟨_, rfl⟩
   go_wp2
   go_loopw [6] (fun i wr => ∃ j : Nat, j ≤ cn ∧ i = .int .i64 j ∧ Hid ((bl.take j).any (fun t => t.id == id) = false) ∧ Below wo.heap.size wo wr) (fun i _ => cn - (intOf i).toNat)
   case atStart => exact ⟨0, Nat.zero_le _, rfl, by show List.any _ _ = false; simp, Below.refl _ _⟩
   case round =>
    obtain ⟨j, hj, rfl, hany2, hbl2⟩ := hrel
    have d0 := (hbl2.cell (p := ⟨g, off + k, none⟩) (clT c0)).trans c0
    by_cases hjt : j < cn
    ·have hblk2 := HB.out.fr (Fr.of_below hbl2 (fun _ => False)) (fun _ _ h => h)
     rcases hblk2.row with hnil | ⟨g2, off2, rfl, hrow2⟩
     ·have h1 := HBL.out; rw [hnil] at h1; simp at h1; omega
     obtain ⟨t0, t1, t2⟩ := txCells hrow2 j (by rw [HBL.out]; exact hjt)
     have hok := hblk2.ok _ (gDM bl dT j (by rw [HBL.out]; exact hjt))
     have HS2 : Hid _ := any_no (fun t : TxD => t.id == id) bl dT j (by rw [HBL.out]; exact hjt) hany2.out
     have HZ2 : Hid _ := ayS (fun t : TxD => t.id == id) bl dT j (by rw [HBL.out]; exact hjt)
     clear hrow2 hblk2
     generalize bl.getD j dT = y at t0 t1 t2 hok HS2 HZ2
     obtain ⟨yt, yai, yn, yc, yap, ym, yd, yins, yys⟩ := y
     simp only at t0 t1 t2
     have HOK := hiD hok
     clear hok
     have e3 : (0 : Int) ≤ (j : Int) := by omega
     have e4 : (j : Int) < (cn : Int) := by omega
     go_wp2_with fail
     refine (rId_any yt yai yn yc yap ym yd yins yys _ HOK.out.ins HOK.out.il HOK.out.outs HOK.out.ol).mono ?_
     rintro e w5 ⟨rfl, hb5⟩
     have hbl5 := bwK hbl2 hb5
     cases hid : (idZ yt yins yys == id)
     ·have HR : Hid _ := HS2.out (by show ((TxD.mk yt yai yn yc yap ym yd yins yys).id == id) = false; exact hid)
      generalize idZ yt yins yys = zz at *
      go_wp2
      go_roundw
      case rel => exact ⟨j + 1, by omega, by go_num, HR, hbl5⟩
      case measure => simp [intOf]; omega
     ·have HR : Hid (snZ bls id = true) := HZ.out (by show standsB id bl = true; exact HZ2 (by show ((TxD.mk yt yai yn yc yap ym yd yins yys).id == id) = true; exact hid))
      generalize idZ yt yins yys = zz at *
      go_wp2
      go_ret
      exact ⟨rbL HR.out.symm, bwK HBW hbl5⟩
    ·have HR : Hid ((bls.take (k + 1)).any (standsB id) = false) := HS.out (adE _ bl cn HBL.out j (by omega) hany2.out).symm
     go_wp2
     go_roundw
     case rel => exact ⟨k + 1, by omega, by go_num, HR, bwK HBW hbl2⟩
     case measure => simp [intOf]; omega
  ·have HR : Hid (false = snZ bls id) := adE _ bls n HN.out k (by omega) hany.out
   go_wp2
   go_ret
   exact ⟨rbL HR, hbl⟩
theorem info60 : (Tryz.prog.info? 60).map (fun i => (i.zero, i.size, i.bytes)) = some (some (.slice none 0 0), 1, 24) := by kernel_rfl
theorem sizeInfo30 : Option.map (fun x : TypeInfo => x.size) (Tryz.prog.info? 60) = some 1 := by kernel_rfl
theorem madeS_at (n j : Nat) (h : j < n) : (madeCells #[Value.slice none 0 0] n)[j]? = some (.slice none 0 0) := by
 simp only [madeCells, Array.getElem?_map]
 rw [Array.getElem?_eq_getElem (by simpa using h)]
 simp [Nat.mod_one]
theorem vrow_splicedS {t : TypeId} (hn : l.length = n)
 (h : w.heap[g]? = some (.cells (splice (madeCells #[Value.slice none 0 0] (n + 1)).toList 0 l).toArray t)) : VRow w g 0 (l ++ [.slice none 0 0]) ∧ ∀ j, w.frozen? ⟨g, j, none⟩ = false := by
 constructor
 ·intro j hj
  rw [List.length_append] at hj
  simp only [World.cell?, h, Nat.zero_add, splice, List.take_zero, List.nil_append, hn]
  simp only [List.getElem?_toArray, List.getD]
  by_cases hlt : j < n
  ·rw [List.getElem?_append_left (show j < l.length by omega), List.getElem?_append_left (show j < l.length by omega)]
   rw [List.getElem?_eq_getElem (show j < l.length by omega)]
   rfl
  ·have e : j = n := by simp at hj; omega
   subst e
   rw [List.getElem?_append_right (by omega), List.getElem?_append_right (by omega)]
   rw [hn, Nat.sub_self, List.getElem?_drop, Nat.add_zero, Array.getElem?_toList, madeS_at _ _ (by omega)]
   simp
 ·intro j
  simp [World.frozen?, h]
theorem make_chain (n : Nat) (hn : n ≤ 1000000) : ∀ u : World, (Instr.makeSlice 173 (.int .i64 ((n : Int) + 1)) (.int .i64 ((n : Int) + 1))).run Tryz.prog u =
 .ok (.slice (some ⟨u.heap.size, 0, none⟩) (n + 1) (n + 1)) (u.alloc (.cells (madeCells #[.slice none 0 0] (n + 1)) 60)) := fun u => by
 obtain ⟨i0, hi, hz0, hz1, hz2⟩ := info_parts info60
 have h := run_make (P := Tryz.prog) u 173 60 i0 (.slice none 0 0) Tryz.underlying173 hi hz0 .i64 .i64 ((n : Int) + 1) ((n : Int) + 1) (by omega) (Int.le_refl _) (by rw [hz2]; omega) (by omega)
 have e : ((n : Int) + 1).toNat = n + 1 := by omega
 rw [e] at h
 simpa [hz1, Value.cells] using h
theorem copy_chain (ao : OAd) (n c : Nat) (l : List Value) (w : World) (hr : l = [] ∨ ∃ b off, ao = some ⟨b, off, none⟩ ∧ VRow w b off l) (hn : l.length = n) (h1 : ∀ v ∈ l, v.oneCell' = true) (h0 : ao = none → c = 0) :
 ∃ w1, Sem.run Tryz.prog (Builtin.copy_ #[173, 173] 3 #[.slice (some ⟨w.heap.size, 0, none⟩) (n + 1) (n + 1), .slice ao n c]) (w.alloc (.cells (madeCells #[.slice none 0 0] (n + 1)) 60)) = .ok (.int .i64 n) w1 ∧
  VRow w1 w.heap.size 0 (l ++ [.slice none 0 0]) ∧ (∀ j, w1.frozen? ⟨w.heap.size, j, none⟩ = false) ∧ Below w.heap.size w w1 := by
 have hheap := heap_made w (madeCells #[Value.slice none 0 0] (n + 1)) 60
 cases ao with
 | none =>
  have hl : l = [] := by
   rcases hr with h | ⟨b, off, h, _⟩
   ·exact h
   ·cases h
  subst hl
  have e : n = 0 := by rw [← hn]; rfl
  subst e
  rw [h0 rfl]
  refine ⟨_, run_copy_nil Tryz.prog _ 173 173 3 60 _ _ _ Tryz.underlying173 (by rw [sizeInfo30]; rfl), ?_, fun j => World.frozen?_alloc_at _ _ _ _ rfl, (Below.refl _ _).alloc leR _⟩
  intro j hj
  have e : j = 0 := by simp at hj; omega
  subst e
  rw [World.cell?_alloc_new]
  simp [madeS_at]
 | some a =>
  have hsrc : ∀ (j : Nat) (v : Value), l[j]? = some v → (w.alloc (.cells (madeCells #[.slice none 0 0] (n + 1)) 60)).cell? (a.add j) = some v := by
   intro j v hj
   rcases hr with hl | ⟨b, off, e, hrow⟩
   ·rw [hl] at hj; simp at hj
   ·cases e
    obtain ⟨hl, e⟩ := List.getElem?_eq_some_iff.1 hj
    have := (hrow.grown ((Below.refl _ _).alloc leR (.cells (madeCells #[.slice none 0 0] (n + 1)) 60))) j hl
    simp only [List.getD, hj, Option.getD_some] at this
    rw [Go.WideShapes.add_plain]
    exact this
  have hrun := run_copy_row Tryz.prog (w.alloc (.cells (madeCells #[.slice none 0 0] (n + 1)) 60)) 173 173 3 60 w.heap.size 0 (n + 1) (n + 1) a n c (madeCells #[Value.slice none 0 0] (n + 1)) 60 l Tryz.underlying173 sizeInfo30 hheap (by rw [hn]; exact (Nat.min_eq_left (by omega)).symm) hsrc (by rw [hn, size_madeCells]; omega) h1
  have hh := setRow_heap (w.alloc (.cells (madeCells #[.slice none 0 0] (n + 1)) 60)) w.heap.size (madeCells #[Value.slice none 0 0] (n + 1)) (splice (madeCells #[Value.slice none 0 0] (n + 1)).toList 0 l).toArray 60 (0, 0) hheap
  have hrf := vrow_splicedS hn hh
  refine ⟨_, ?_, hrf.1, hrf.2, below_setRow (bAl _ _) leR _⟩
  rw [hrun, hn]
  simp [splice, goInt]
  rw [hn]
theorem getD_snoc_lt {α : Type} (l : List α) (x d : α) (j : Nat) (h : j < l.length) : (l ++ [x]).getD j d = l.getD j d := by
 simp only [List.getD]; rw [List.getElem?_append_left h]
theorem getD_snoc_end {α : Type} (l : List α) (x d : α) : (l ++ [x]).getD l.length d = x := by
 simp [List.getD]
theorem vrow_set_last (hn : l.length = n) (h : VRow w g 0 (l ++ [y])) (u : Value) : VRow (w.setCell ⟨g, n, none⟩ u) g 0 (l ++ [u]) := by
 intro j hj
 rw [List.length_append] at hj
 by_cases e : j = n
 ·subst e
  have h0 := h j (by simp; omega)
  rw [Nat.zero_add] at h0 ⊢
  rw [World.cell?_setCell_same _ _ _ h0, ← hn, getD_snoc_end]
 ·have hlt : j < l.length := by simp at hj; omega
  have h0 := h j (by simp; omega)
  rw [Nat.zero_add] at h0 ⊢
  rw [World.cell?_setCell_other _ _ _ _ (fun e' => e (congrArg Addr.off e').symm), h0, getD_snoc_lt _ _ _ _ hlt, getD_snoc_lt _ _ _ _ hlt]
theorem cb_len (cs : List CbD) : (cs.flatMap CbD.v).length = cs.length := by rw [rlN CbD.v 1 cb1, Nat.mul_one]
theorem cb_one (cs : List CbD) : ∀ v ∈ cs.flatMap CbD.v, v.oneCell' = true := by
 intro v hv
 simp only [List.mem_flatMap, CbD.v, List.mem_singleton] at hv
 obtain ⟨x, _, rfl⟩ := hv
 rfl
theorem ChnAt.snoc {cs : List CbD} {bls : List (List TxD)} {x : CbD} {bl : List TxD} (hr : VRow w g 0 ((cs ++ [x]).flatMap CbD.v)) (hl : cs.length = bls.length) (hb : ∀ i, i < bls.length → BlkAt N w (cs.getD i dCb).ao (bls.getD i []) ∧ (bls.getD i []).length = (cs.getD i dCb).n) (h : BlkAt N w x.ao bl) (hn : bl.length = x.n) : ChnAt N w (some ⟨g, 0, none⟩) (cs ++ [x]) (bls ++ [bl]) := by
 refine ⟨Or.inr ⟨g, 0, rfl, hr⟩, by simp [hl], fun i hi => ?_⟩
 rw [List.length_append] at hi
 by_cases hlt : i < bls.length
 ·rw [getD_snoc_lt _ _ _ _ (by omega), getD_snoc_lt _ _ _ _ hlt]
  exact hb i hlt
 ·have e : i = bls.length := by simp at hi; omega
  subst e
  rw [getD_snoc_end, ← hl, getD_snoc_end]
  exact ⟨h, hn⟩
theorem joined_any (N : NPr) (ao : OAd) (n c : Nat) (cs : List CbD) (bls : List (List TxD)) (am : OAd) (mn mc : Nat) (bl : List TxD) (w : World) (hx : ChnAt N w ao cs bls) (hn : bls.length = n) (hm : n ≤ 1000) (h0 : ao = none → c = 0) (hb : BlkAt N w am bl) (hbn : bl.length = mn) :
 Calls Tryz.prog 161 #[.slice ao n c, .slice am mn mc] w fun e w' => e = .returned (.slice (some ⟨w.heap.size, 0, none⟩) (n + 1) (n + 1)) ∧ ChnAt N w' (some ⟨w.heap.size, 0, none⟩) (cs ++ [⟨am, mn, mc⟩]) (bls ++ [bl]) ∧ Below w.heap.size w w' := by
 have hl : (cs.flatMap CbD.v).length = n := by rw [cb_len, hx.len, hn]
 have hrr : cs.flatMap CbD.v = [] ∨ ∃ b off, ao = some ⟨b, off, none⟩ ∧ VRow w b off (cs.flatMap CbD.v) := by
  rcases hx.row with h | h
  ·exact Or.inl (by rw [h]; rfl)
  ·exact Or.inr h
 have hmk := make_chain n (by omega)
 obtain ⟨w1, hrun, hrow, hfree, hb1⟩ := copy_chain ao n c (cs.flatMap CbD.v) w hrr hl (cb_one cs) h0
 have hc1 := hrow n (by simp [hl])
 have hf1 := hfree n
 rw [Nat.zero_add] at hc1
 generalize (cs.flatMap CbD.v ++ [Value.slice none 0 0]).getD n dV = y at hc1
 have HL := hiD hl
 have HR := hiD hrow
 have HX := hiD hx
 have HB := hiD hb
 have HBN := hiD hbn
 clear hrow hfree hn hx hb hbn hrr h0 hl
 have e1 : (0 : Int) ≤ (n : Int) := by omega
 go_enter Tryz.func161, Tryz.ntmps161
 go_wp2
 go_ret
 have hb2 : Below w.heap.size w (w1.setCell ⟨w.heap.size, n, none⟩ (.slice am mn mc)) := hb1.setCell leR _
 refine ⟨rfl, ?_, hb2⟩
 have hrw := vrow_set_last HL.out HR.out (.slice am mn mc)
 refine ChnAt.snoc (by rw [List.flatMap_append]; exact hrw) HX.out.len (fun i hi => ?_) (HB.out.fr (Fr.of_below hb2 (fun _ => False)) (fun _ _ h => h)) HBN
 exact ⟨(HX.out.blk i hi).1.fr (Fr.of_below hb2 (fun _ => False)) (fun _ _ h => h), (HX.out.blk i hi).2⟩
end
end Go.Proofs.YtffgpepngcnjeabGreat
