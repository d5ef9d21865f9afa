import Derived.Test.YtffgpepngcnjeabGreatSad
namespace Go.Proofs.YtffgpepngcnjeabGreat
set_option maxRecDepth 100000
set_option maxHeartbeats 4000000
section
open Go.RowKit
variable {w w' : World}
def spZ (xs : List Cel) : List InD → List SpD → Option (List SpD)
 | [], acc => some acc
 | i :: r, acc =>
  if fnZ xs i.id i.pos < 0 ∨ isSp acc (fnZ xs i.id i.pos) = true then none
  else spZ xs r (acc ++ [⟨fnZ xs i.id i.pos, (xs.getD (fnZ xs i.id i.pos).toNat dC).to, (xs.getD (fnZ xs i.id i.pos).toNat dC).val, i.ao, i.n, i.c, i.l⟩])
theorem spZ_drop (xs : List Cel) (ins : List InD) (k : Nat) (h : k < ins.length) (acc : List SpD) : spZ xs (ins.drop k) acc =
 if fnZ xs (ins.getD k dIn).id (ins.getD k dIn).pos < 0 ∨ isSp acc (fnZ xs (ins.getD k dIn).id (ins.getD k dIn).pos) = true then none
 else spZ xs (ins.drop (k + 1)) (acc ++ [⟨fnZ xs (ins.getD k dIn).id (ins.getD k dIn).pos, (xs.getD (fnZ xs (ins.getD k dIn).id (ins.getD k dIn).pos).toNat dC).to, (xs.getD (fnZ xs (ins.getD k dIn).id (ins.getD k dIn).pos).toNat dC).val, (ins.getD k dIn).ao, (ins.getD k dIn).n, (ins.getD k dIn).c, (ins.getD k dIn).l⟩]) := by
 rw [List.drop_eq_getElem_cons h]
 simp only [List.getD, List.getElem?_eq_getElem h, Option.getD_some]
 rfl
abbrev OwnSp (w : World) (base : Nat) (v : Value) (ss : List SpD) : Prop := ORC SpD.v 253 4 w base v ss
theorem spends_any (b o : Nat) (ao : OAd) (n c : Nat) (xs : List Cel) (ai : OAd) (m d : Nat) (ins : List InD) (w : World) (hp : w.cell? ⟨b, o, none⟩ = some (.slice ao n c)) (hx : CsT w ao xs) (hn : xs.length = n) (hm : n ≤ 1000000) (hi : IAa w ai ins) (hil : ins.length = m) (hm10 : m ≤ 1000) :
 Calls Tryz.prog 192 #[.pointer (some ⟨b, o, none⟩), .slice ai m d] w fun e w' => (∃ v f, e = .returned (.tuple #[v, .bool f]) ∧ (spZ xs ins [] = none → f = false) ∧ (∀ ss, spZ xs ins [] = some ss → f = true ∧ OwnSp w' w.heap.size v ss)) ∧ Below w.heap.size w w' := by
 have HN := hiD hn
 have HX := hiD hx
 have HP := hiD hp
 have HI := hiD hi
 have HM := hiD hil
 clear hn hx hp hi hil
 have hpl := clT HP.out
 generalize hB : w.heap.size = B
 have HB := hiD hB
 clear hB
 go_enter Tryz.func192, Tryz.ntmps192
 go_wp2
 go_loopw [6, 13] (fun v i wr => ∃ (k : Nat) (acc : List SpD), k ≤ m ∧ acc.length = k ∧ i = .int .i64 k ∧ Hid (spZ xs (ins.drop k) acc = spZ xs ins []) ∧ OwnSp wr B v acc ∧ Below B w wr) (fun _ i _ => m - (intOf i).toNat)
 case atStart => exact ⟨0, [], Nat.zero_le _, rfl, rfl, rfl, ORC.nil _ _ _ _ _, Below.refl _ _⟩
 case round =>
  obtain ⟨k, acc, hk, hacc, rfl, hz, hown, hbl⟩ := hrel
  have hsz := hbl.size
  rw [HB.out] at hsz
  have HA := hiD hacc
  clear hacc
  by_cases hlt : k < m
  ·rcases HI.out with hnil | ⟨gi, offi, rfl, hrow⟩
   ·have := HM.out; rw [hnil] at this; simp at this; omega
   obtain ⟨⟨i0, i1, i2⟩, _⟩ := (hrow.grown (by rw [HB.out]; exact hbl)) k (by rw [HM.out]; exact hlt)
   have HZ : Hid _ := hz.out
   rw [spZ_drop xs ins k (by rw [HM.out]; exact hlt)] at HZ
   clear hrow
   generalize ins.getD k dIn = y at i0 i1 i2 HZ
   obtain ⟨yid, ypos, yao, yn, yc, yl⟩ := y
   simp only at i0 i1 i2
   have hb1 := hbl.alloc hsz (.cells #[.int .i64 yid, .int .i64 ypos, .slice yao yn yc] 115)
   have HP1 : Hid ((wr.alloc (.cells #[.int .i64 yid, .int .i64 ypos, .slice yao yn yc] 115)).cell? ⟨b, o, none⟩ = some (.slice ao n c)) := (hb1.cell (p := ⟨b, o, none⟩) (by rw [← HB.out]; exact hpl)).trans HP
   have HX1 : Hid (CsT (wr.alloc (.cells #[.int .i64 yid, .int .i64 ypos, .slice yao yn yc] 115)) ao xs) := HX.out.grown (by rw [HB.out]; exact hb1)
   have hown1 := hown.alloc (.cells #[.int .i64 yid, .int .i64 ypos, .slice yao yn yc] 115)
   have hsz1 : B ≤ (wr.alloc (.cells #[.int .i64 yid, .int .i64 ypos, .slice yao yn yc] 115)).heap.size := by simp; omega
   have cell2 : (wr.alloc (.cells #[.int .i64 yid, .int .i64 ypos, .slice yao yn yc] 115)).cell? ⟨wr.heap.size, 2, none⟩ = some (.slice yao yn yc) := by rw [World.cell?_alloc_new]; rfl
   have hlt1 : wr.heap.size < (wr.alloc (.cells #[.int .i64 yid, .int .i64 ypos, .slice yao yn yc] 115)).heap.size := by simp
   go_wp2_with fail
   generalize hw1 : wr.alloc (.cells #[.int .i64 yid, .int .i64 ypos, .slice yao yn yc] 115) = w1 at *
   clear hw1
   generalize wr.heap.size = I at *
   clear hown hbl hsz i0 i1 i2
   refine (find_any b o ao n c xs yid ypos _ HP1 HX1 HN hm).mono ?_
   rintro e w2 ⟨rfl, hb2⟩
   have hown2 := ORC.grown hown1 hb2
   have hbl2 := hb1.trans (hb2.mono hsz1)
   have hsz2 := leT hsz1 hb2.size
   have cell2' := (hb2.cell (p := ⟨I, 2, none⟩) hlt1).trans cell2
   have hltI : I < w2.heap.size := ltL hlt1 hb2.size
   have HP2 : Hid (w2.cell? ⟨b, o, none⟩ = some (.slice ao n c)) := (hb2.cell (p := ⟨b, o, none⟩) (clT HP1.out)).trans HP1.out
   have HX2 := hiD (HX1.out.grown hb2)
   clear hown1 hb1 hb2 hsz1 HP1 HX1 cell2 hlt1
   rcases fcS xs yid ypos with hf | ⟨q, hq, hf, _⟩
   ·rw [hf] at HZ ⊢
    have HZ' : Hid (spZ xs ins [] = none) := by
     show _ = _
     have := HZ.out
     rw [if_pos (Or.inl (by omega))] at this
     exact this.symm
    clear HZ
    go_wp2
    go_ret2
    exact ⟨⟨_, _, rfl, fun _ => rfl, fun ss hss => (by rw [HZ'.out] at hss; cases hss)⟩, hbl2⟩
   ·rw [hf] at HZ ⊢
    have hqn : q < n := by rw [← HN.out]; exact hq
    clear hf
    obtain ⟨av, cv, rfl, hat⟩ := ORC.at sp4 hown2
    rw [HA.out] at hown2 ⊢
    cases hsp : isSp acc (q : Int)
    ·have HZ' : Hid _ := HZ.out
     rw [if_neg (by rw [hsp]; simp), show ((q : Int)).toNat = q from Int.toNat_natCast q] at HZ'
     clear HZ
     go_wp2_with fail
     refine (isSpent_any av k cv acc (q : Int) _ hat HA.out (by omega)).mono ?_
     rintro e w3 ⟨rfl, hb3⟩
     rw [hsp]
     have hown3 := ORC.grown hown2 hb3
     have hbl3 := hbl2.trans (hb3.mono hsz2)
     have hsz3 := leT hsz2 hb3.size
     have cell3 := (hb3.cell (p := ⟨I, 2, none⟩) hltI).trans cell2'
     have hltI3 : I < w3.heap.size := ltL hltI hb3.size
     have hp3 := (hb3.cell (p := ⟨b, o, none⟩) (clT HP2.out)).trans HP2.out
     have HX3 := hiD (HX2.out.grown hb3)
     rcases HX3.out with hnil | ⟨gx, offx, rfl, hrowx⟩
     ·have := HN.out; rw [hnil] at this; simp at this; omega
     obtain ⟨x0, x1, x2, x3, x4, x5⟩ := celCells hrowx q hq
     generalize xs.getD q dC = y at x0 x1 x2 x3 x4 x5 HZ'
     obtain ⟨zid, zpos, zto, zval, zmade, zspent⟩ := y
     simp only at x0 x1 x2 x3 x4 x5
     clear hown2 hbl2 hb3 hsz2 cell2' hltI HP2 HX2 hat HX3 hrowx hsp
     have hown4 := hown3.alloc (.cells #[.int .i64 zid, .int .i64 zpos, .int .i64 zto, .int .i64 zval, .int .i64 zmade, .int .i64 zspent] 206)
     have hbl4 := hbl3.alloc hsz3 (.cells #[.int .i64 zid, .int .i64 zpos, .int .i64 zto, .int .i64 zval, .int .i64 zmade, .int .i64 zspent] 206)
     go_wp2_with (at_builtin; refine wtR 246 48 _ Tryz.underlying246 info253 rfl (by decide) sp4 sp_one ((w3.alloc (.cells #[.int .i64 zid, .int .i64 zpos, .int .i64 zto, .int .i64 zval, .int .i64 zmade, .int .i64 zspent] 206)).alloc (.cells #[.int .i64 q, .int .i64 zto, .int .i64 zval, .slice yao yn yc] 253)) rfl _ _ rfl B (w3.alloc (.cells #[.int .i64 zid, .int .i64 zpos, .int .i64 zto, .int .i64 zval, .int .i64 zmade, .int .i64 zspent] 206)).heap.size 1 _ acc ⟨q, zto, zval, yao, yn, yc, yl⟩ (by rfl) (by simp [World.size_alloc]; rfl) (hown4.alloc _) (vwW _ _ _) (by simp; omega) (by rw [HA.out]; unfold maxLen; omega) (by rw [HA.out]; omega) ?_; intro g' cap w5 hown5 hg5 _ _)
     go_roundw
     case rel => exact ⟨k + 1, acc ++ [⟨q, zto, zval, yao, yn, yc, yl⟩], by omega, by rw [List.length_append, HA.out]; rfl, by go_num, HZ', hown5, hbl4.trans (gbW (grS (glC _ _ _) hg5) (by simp; omega) (fun r hr => (hown4.blk r hr).1))⟩
     case measure => simp [intOf]; omega
    ·have HZ' : Hid (spZ xs ins [] = none) := by
      show _ = _
      have := HZ.out
      rw [if_pos (Or.inr hsp)] at this
      exact this.symm
     clear HZ
     go_wp2_with (go_at_call 217; refine (isSpent_any av k cv acc (q : Int) _ hat HA.out (by omega)).mono ?_; rintro e w3 ⟨rfl, hb3⟩; rw [hsp])
     go_ret2
     exact ⟨⟨_, _, rfl, fun _ => rfl, fun ss hss => (by rw [HZ'.out] at hss; cases hss)⟩, hbl2.trans (hb3.mono hsz2)⟩
  ·have hz' := hz.out
   rw [List.drop_of_length_le (by rw [HM.out]; omega)] at hz'
   have HZ := hiD hz'
   clear hz' hz
   go_wp2
   go_ret2
   exact ⟨⟨_, _, rfl, fun h => (by rw [← HZ.out] at h; cases h), fun ss hss => (by rw [← HZ.out] at hss; cases hss; exact ⟨rfl, hown⟩)⟩, hbl⟩
structure SpOk (w : World) (x : SpD) : Prop where
 lies : IsT w x.ao x.l
 len : x.l.length = x.n
 sz : x.n ≤ 17592186044416
theorem SpOk.grown {x : SpD} (h : SpOk w x) (hb : Below w.heap.size w w') : SpOk w' x := ⟨h.lies.grown hb, h.len, h.sz⟩
def opens (id : Int) (x : SpD) : Bool := isS x.l && (Mk.opn id x.l == x.to)
theorem allOpen_any (ao : OAd) (n c : Nat) (ss : List SpD) (id : Int) (w : World) (hid : Mk.isM id = true) (hx : RcT SpD.v w ao ss) (hn : ss.length = n) (hm : n ≤ 1000000) (hok : ∀ j, j < n → SpOk w (ss.getD j dS)) :
 Calls Tryz.prog 193 #[.slice ao n c, .int .i64 id] w fun e w' => e = .returned (.bool (ss.all (opens id))) ∧ Below w.heap.size w w' := by
 have HN := hiD hn
 have HX := hiD hx
 have HO := hiD hok
 clear hn hx hok
 go_enter Tryz.func193, Tryz.ntmps193
 go_wp2
 go_loopw [11] (fun i wr => ∃ k : Nat, k ≤ n ∧ i = .int .i64 k ∧ Hid ((ss.take k).all (opens id) = true) ∧ Below w.heap.size w wr) (fun i _ => n - (intOf i).toNat)
 case atStart => exact ⟨0, Nat.zero_le _, rfl, by show List.all _ _ = true; simp, Below.refl _ _⟩
 case round =>
  obtain ⟨k, hk, rfl, hall, hbl⟩ := hrel
  have hsz := hbl.size
  by_cases hlt : k < n
  ·rcases HX.out with hnil | ⟨g, off, rfl, hrow⟩
   ·have := HN.out; rw [hnil] at this; simp at this; omega
   obtain ⟨c0, c1, c2, c3⟩ := spCells (hrow.grown hbl) k (by rw [HN.out]; exact hlt)
   have HS : Hid _ := all_snoc (opens id) ss dS k (by rw [HN.out]; exact hlt)
   have HZ : Hid _ := all_no (opens id) ss dS k (by rw [HN.out]; exact hlt)
   have HK : Hid _ := (HO.out k hlt).grown hbl
   clear hrow
   generalize ss.getD k dS = y at c0 c1 c2 c3 HS HZ HK
   obtain ⟨ypl, yto, yval, yao, yn, yc, yl⟩ := y
   simp only at c0 c1 c2 c3
   obtain ⟨k1, k2, k3⟩ := HK.out
   simp only at k1 k2 k3
   have hb1 := hbl.alloc hsz (.cells #[.int .i64 ypl, .int .i64 yto, .int .i64 yval, .slice yao yn yc] 253)
   have HL : Hid (IsT (wr.alloc (.cells #[.int .i64 ypl, .int .i64 yto, .int .i64 yval, .slice yao yn yc] 253)) yao yl) := k1.grown (bAl _ _)
   have HKL := hiD k2
   have cell1 : (wr.alloc (.cells #[.int .i64 ypl, .int .i64 yto, .int .i64 yval, .slice yao yn yc] 253)).cell? ⟨wr.heap.size, 1, none⟩ = some (.int .i64 yto) := by rw [World.cell?_alloc_new]; rfl
   have hlt1 : wr.heap.size < (wr.alloc (.cells #[.int .i64 ypl, .int .i64 yto, .int .i64 yval, .slice yao yn yc] 253)).heap.size := by simp
   clear k1 k2 HK
   cases hs : isS yl
   ·go_wp2_with (go_at_call 95; refine (open_noSeal id yao yn yc yl _ hid HL HKL (by omega) hs).mono ?_; rintro e w2 ⟨rfl, rfl⟩)
    go_ret
    exact ⟨rbL (HZ (by simp [opens, hs])).symm, hb1⟩
   ·go_wp2_with fail
    generalize hw1 : wr.alloc (.cells #[.int .i64 ypl, .int .i64 yto, .int .i64 yval, .slice yao yn yc] 253) = w1 at *
    clear hw1
    generalize wr.heap.size = I at *
    refine (open_yes id yao yn yc yl _ hid HL HKL hs).mono ?_
    rintro e w2 ⟨rfl, hb2⟩
    have cell2 := (hb2.cell (p := ⟨I, 1, none⟩) hlt1).trans cell1
    have hbl2 := hb1.trans (hb2.mono hb1.size)
    clear cell1 hlt1 c0 c1 c2 c3 hb1 hb2 HL
    cases ho : (Mk.opn id yl == yto)
    ·go_wp2
     go_ret
     exact ⟨rbL (HZ (by simp [opens, ho])).symm, hbl2⟩
    ·go_wp2
     go_roundw
     case rel => exact ⟨k + 1, by omega, by go_num, by show List.all _ _ = true; rw [HS.out, hall.out]; simp [opens, hs, ho], hbl2⟩
     case measure => simp [intOf]; omega
  ·go_wp2
   go_ret
   exact ⟨rbL (all_done (opens id) ss n HN k (by omega) hall.out), hbl⟩
theorem sumSpends_any (ao : OAd) (n c : Nat) (ss : List SpD) (w : World) (hx : RcT SpD.v w ao ss) (hn : ss.length = n) (hm : n ≤ 1000) (hb : ∀ x ∈ ss, 0 ≤ x.val ∧ x.val ≤ 1099511627776) :
 Calls Tryz.prog 194 #[.slice ao n c] w fun e w' => e = .returned (.int .i64 (sumSp ss)) ∧ Below w.heap.size w w' := by
 have HN := hiD hn
 have HX := hiD hx
 have HBd := hiD hb
 clear hn hx hb
 go_enter Tryz.func194, Tryz.ntmps194
 go_wp2
 go_loopw [3, 8] (fun v i wr => ∃ (k : Nat) (S : Int), k ≤ n ∧ i = .int .i64 k ∧ v = .int .i64 S ∧ Hid (((ss.take k).map SpD.val).sum = S) ∧ Below w.heap.size w wr) (fun _ i _ => n - (intOf i).toNat)
 case atStart => exact ⟨0, 0, Nat.zero_le _, rfl, rfl, rfl, Below.refl _ _⟩
 case round =>
  obtain ⟨k, S, hk, rfl, rfl, hS, hbl⟩ := hrel
  have hsz := hbl.size
  by_cases hlt : k < n
  ·rcases HX.out with hnil | ⟨g, off, rfl, hrow⟩
   ·have := HN.out; rw [hnil] at this; simp at this; omega
   obtain ⟨c0, c1, c2, c3⟩ := spCells (hrow.grown hbl) k (by rw [HN.out]; exact hlt)
   have HS : Hid _ := sum_snoc SpD.val ss dS k (by rw [HN.out]; exact hlt)
   have hSb := sum_bd SpD.val 1099511627776 (ss.take k) (fun x hx => HBd.out x (List.mem_of_mem_take hx))
   have hyb := HBd.out (ss.getD k dS) (by
    have h' : k < ss.length := by rw [HN.out]; exact hlt
    simp only [List.getD, List.getElem?_eq_getElem h', Option.getD_some]
    exact List.getElem_mem h')
   rw [hS.out] at hSb
   have hl2 : (ss.take k).length ≤ 1000 := by rw [List.length_take]; omega
   have hS2 : 0 ≤ S ∧ S ≤ 1100000000000000 := ⟨hSb.1, by omega⟩
   clear hrow hSb hl2
   generalize ss.getD k dS = y at c0 c1 c2 c3 HS hyb
   obtain ⟨ypl, yto, yval, yao, yn, yc, yl⟩ := y
   simp only at c0 c1 c2 c3 hyb
   go_wp2
   go_roundw
   case rel => exact ⟨k + 1, S + yval, by omega, by go_num, rfl, by show _ = _; rw [HS.out, hS.out], hbl.alloc hsz _⟩
   case measure => simp [intOf]; omega
  ·go_wp2
   go_ret
   refine ⟨riT ?_, hbl⟩
   rw [← hS.out, List.take_of_length_le (by rw [HN.out]; omega)]
   rfl
theorem sumOuts_any (ao : OAd) (n c : Nat) (ys : LII) (w : World) (hx : OsT w ao ys) (hn : ys.length = n) (hm : n ≤ 1000) (hb : ∀ x ∈ ys, 0 ≤ x.2 ∧ x.2 ≤ 1099511627776) :
 Calls Tryz.prog 195 #[.slice ao n c] w fun e w' => e = .returned (.int .i64 (smU ys)) ∧ Below w.heap.size w w' := by
 have HN := hiD hn
 have HX := hiD hx
 have HBd := hiD hb
 clear hn hx hb
 go_enter Tryz.func195, Tryz.ntmps195
 go_wp2
 go_loopw [3, 8] (fun v i wr => ∃ (k : Nat) (S : Int), k ≤ n ∧ i = .int .i64 k ∧ v = .int .i64 S ∧ Hid (((ys.take k).map Prod.snd).sum = S) ∧ Below w.heap.size w wr) (fun _ i _ => n - (intOf i).toNat)
 case atStart => exact ⟨0, 0, Nat.zero_le _, rfl, rfl, rfl, Below.refl _ _⟩
 case round =>
  obtain ⟨k, S, hk, rfl, rfl, hS, hbl⟩ := hrel
  have hsz := hbl.size
  by_cases hlt : k < n
  ·rcases HX.out with hnil | ⟨g, off, rfl, hrow⟩
   ·have := HN.out; rw [hnil] at this; simp at this; omega
   obtain ⟨c0, c1⟩ := (hrow.grown hbl) k (by rw [HN.out]; exact hlt)
   have HS : Hid _ := sum_snoc Prod.snd ys (0, 0) k (by rw [HN.out]; exact hlt)
   have hSb := sum_bd Prod.snd 1099511627776 (ys.take k) (fun x hx => HBd.out x (List.mem_of_mem_take hx))
   have hyb := HBd.out (ys.getD k (0, 0)) (by
    have h' : k < ys.length := by rw [HN.out]; exact hlt
    simp only [List.getD, List.getElem?_eq_getElem h', Option.getD_some]
    exact List.getElem_mem h')
   rw [hS.out] at hSb
   have hl2 : (ys.take k).length ≤ 1000 := by rw [List.length_take]; omega
   have hS2 : 0 ≤ S ∧ S ≤ 1100000000000000 := ⟨hSb.1, by omega⟩
   clear hrow hSb hl2
   generalize ys.getD k (0, 0) = y at c0 c1 HS hyb
   obtain ⟨yto, yval⟩ := y
   simp only at c0 c1 hyb
   go_wp2
   go_roundw
   case rel => exact ⟨k + 1, S + yval, by omega, by go_num, rfl, by show _ = _; rw [HS.out, hS.out], hbl.alloc hsz _⟩
   case measure => simp [intOf]; omega
  ·go_wp2
   go_ret
   refine ⟨riT ?_, hbl⟩
   rw [← hS.out, List.take_of_length_le (by rw [HN.out]; omega)]
   rfl
end
section
open Go.RowKit

variable {Ex : List (Nat × Value)}
structure Fr (E : NPr) (w w' : World) : Prop where
 os : w'.os = w.os
 tape : w'.tape = w.tape
 output : w'.output = w.output
 size : w.heap.size ≤ w'.heap.size
 block : ∀ k, k < w.heap.size → ¬ E k → w'.heap[k]? = w.heap[k]?
theorem Fr.refl (E : NPr) (w : World) : Fr E w w := ⟨rfl, rfl, rfl, leR, fun _ _ _ => rfl⟩
theorem Fr.trans {E : NPr} {a b c : World} (h : Fr E a b) (k : Fr E b c) : Fr E a c :=
 ⟨k.os.trans h.os, k.tape.trans h.tape, k.output.trans h.output, leT h.size k.size, fun i hi he => (k.block i (ltL hi h.size) he).trans (h.block i hi he)⟩
theorem Fr.weak {E F : NPr} {w w' : World} (h : Fr E w w') (hs : ∀ k, k < w.heap.size → E k → F k) : Fr F w w' :=
 ⟨h.os, h.tape, h.output, h.size, fun k hk he => h.block k hk (fun e => he (hs k hk e))⟩
theorem Fr.of_below {w w' : World} (h : Below w.heap.size w w') (E : NPr) : Fr E w w' := ⟨h.os, h.tape, h.output, h.size, fun k hk _ => h.block k hk⟩
theorem Fr.of_gb {w w' : World} {row : Option Nat} (h : w.grownBy w' row) {E : NPr} (hE : ∀ k, row = some k → k < w.heap.size → E k) : Fr E w w' :=
 ⟨h.os, h.tape, h.output, h.size, fun k hk he => h.block k hk (fun e => he (hE k e.symm hk))⟩
theorem Fr.drew {E : NPr} {w w' : World} (h : Fr E w w') : Fr E w w'.drew := ⟨h.os, h.tape, h.output, h.size, h.block⟩
theorem Fr.alloc {E : NPr} {w w' : World} (h : Fr E w w') (o : Obj) : Fr E w (w'.alloc o) := h.trans (Fr.of_below (bAl _ _) E)
theorem Fr.set {E : NPr} {w w' : World} (h : Fr E w w') (g o : Nat) (v : Value) (hE : g < w.heap.size → E g) : Fr E w (w'.setCell ⟨g, o, none⟩ v) := by
 refine ⟨h.os, h.tape, h.output, by simpa using h.size, fun k hk he => ?_⟩
 rw [Below.heap_setCell w' ⟨g, o, none⟩ v k (fun e => he (by simp only at e; rw [e]; exact hE (by rw [← e]; exact hk)))]
 exact h.block k hk he
theorem Fr.toBelow {E : NPr} {w w' : World} (h : Fr E w w') (B : Nat) (hB : B ≤ w.heap.size) (hE : ∀ k, E k → B ≤ k) : Below B w w' :=
 ⟨h.os, h.tape, h.output, h.size, fun k hk => h.block k (by omega) (fun e => by have := hE k e; omega)⟩
theorem Fr.cell {E : NPr} {w w' : World} (h : Fr E w w') {b o : Nat} {v : Value} (hc : w.cell? ⟨b, o, none⟩ = some v) (he : ¬ E b) : w'.cell? ⟨b, o, none⟩ = some v := by
 rw [World.cell?_of_block (h.block b (clT hc) he)]; exact hc
theorem Fr.frozen {E : NPr} {w w' : World} (h : Fr E w w') {b o : Nat} (hb : b < w.heap.size) (he : ¬ E b) : w'.frozen? ⟨b, o, none⟩ = w.frozen? ⟨b, o, none⟩ :=
 World.frozen?_of_block (h.block b hb he)
theorem Fr.vrow {E : NPr} {w w' : World} (h : Fr E w w') {b off : Nat} {l : List Value} (hr : VRow w b off l) (he : ¬ E b) : VRow w' b off l := fun j hj => h.cell (hr j hj) he
theorem Fr.row {E : NPr} {w w' : World} (h : Fr E w w') {b off : Nat} {l : List Int} (hr : Row w b off l) (he : ¬ E b) : Row w' b off l := fun j hj => h.cell (hr j hj) he
theorem Fr.own {E : NPr} {w w' : World} (h : Fr E w w') {base e size : Nat} {v : Value} {n : Nat} {cs : List Value} (ho : w.ownsRow base e size v n cs) (hne : ∀ k, v.ownBlock = some k → ¬ E k) : w'.ownsRow base e size v n cs := by
 have hb := owns_blk ho
 obtain ⟨h1, h2 | ⟨g, cap, cur, rfl, hbg, hg, hn⟩⟩ := ho
 ·exact ⟨h1, Or.inl h2⟩
 ·exact ⟨h1, Or.inr ⟨g, cap, cur, rfl, hbg, (h.block g (hb g rfl).2 (hne g rfl)).trans hg, hn⟩⟩
def chE (b : Nat) (v : Value) (k : Nat) : Prop := k = b ∨ v.ownBlock = some k
structure ChOwn (Ex : List (Nat × Value)) (w : World) (b o : Nat) (v : Value) (h : Int) (xs : List Cel) : Prop where
 c0 : w.cell? ⟨b, o, none⟩ = some v
 c1 : w.cell? ⟨b, o + 1, none⟩ = some (.int .i64 h)
 f0 : w.frozen? ⟨b, o, none⟩ = false
 f1 : ∀ j, w.frozen? ⟨b, j, none⟩ = false
 own : ORC Cel.l 206 6 w (b + 1) v xs
 ext : ∀ q ∈ Ex, q.1 ≠ o ∧ q.1 ≠ o + 1 ∧ w.cell? ⟨b, q.1, none⟩ = some q.2
theorem ChOwn.fr {E : NPr} {w w' : World} (hf : Fr E w w') {b o : Nat} {v : Value} {h : Int} {xs : List Cel} (hc : ChOwn Ex w b o v h xs) (he : ∀ k, chE b v k → ¬ E k) : ChOwn Ex w' b o v h xs := by
 have hb := he b (Or.inl rfl)
 have hl := clT hc.c0
 exact ⟨hf.cell hc.c0 hb, hf.cell hc.c1 hb, (hf.frozen hl hb).trans hc.f0, fun j => (hf.frozen hl hb).trans (hc.f1 j), hf.own hc.own (fun k hk => he k (Or.inr hk)), fun q hq => ⟨(hc.ext q hq).1, (hc.ext q hq).2.1, hf.cell (hc.ext q hq).2.2 hb⟩⟩
theorem ChOwn.grown {w w' : World} (hb : Below w.heap.size w w') {b o : Nat} {v : Value} {h : Int} {xs : List Cel} (hc : ChOwn Ex w b o v h xs) : ChOwn Ex w' b o v h xs :=
 hc.fr (Fr.of_below hb (fun _ => False)) (fun _ _ h => h)
theorem ChOwn.blk {w : World} {b o : Nat} {v : Value} {h : Int} {xs : List Cel} (hc : ChOwn Ex w b o v h xs) : ∀ k, chE b v k → b ≤ k ∧ k < w.heap.size := by
 intro k hk
 rcases hk with rfl | hk
 ·exact ⟨leR, clT hc.c0⟩
 ·have := hc.own.blk k hk; omega
theorem ChOwn.at {w : World} {b o : Nat} {v : Value} {h : Int} {xs : List Cel} (hc : ChOwn Ex w b o v h xs) : ∃ ao c, v = .slice ao xs.length c ∧ CsT w ao xs := hc.own.at cel6
structure ChStep (b : Nat) (v v' : Value) (w w' : World) : Prop where
 fr : Fr (chE b v) w w'
 own : ∀ k, v'.ownBlock = some k → v.ownBlock = some k ∨ w.heap.size ≤ k
theorem ChStep.of_below {w w' : World} (h : Below w.heap.size w w') (b : Nat) (v : Value) : ChStep b v v w w' := ⟨Fr.of_below h _, fun _ hk => Or.inl hk⟩
theorem ChStep.refl (b : Nat) (v : Value) (w : World) : ChStep b v v w w := ⟨Fr.refl _ _, fun _ hk => Or.inl hk⟩
theorem ChStep.trans {b : Nat} {v v1 v2 : Value} {w w1 w2 : World} (h : ChStep b v v1 w w1) (k : ChStep b v1 v2 w1 w2) : ChStep b v v2 w w2 := by
 refine ⟨⟨k.fr.os.trans h.fr.os, k.fr.tape.trans h.fr.tape, k.fr.output.trans h.fr.output, leT h.fr.size k.fr.size, fun i hi he => ?_⟩, fun i hi => ?_⟩
 ·refine (k.fr.block i (ltL hi h.fr.size) (fun e => he ?_)).trans (h.fr.block i hi he)
  rcases e with e | e
  ·exact Or.inl e
  ·rcases h.own i e with e' | e'
   ·exact Or.inr e'
   ·omega
 ·rcases k.own i hi with e | e
  ·exact h.own i e
  ·exact Or.inr (leT h.fr.size e)
theorem ORC.put {α : Type} {f : α → List Value} {e k : Nat} (hf : ∀ x, (f x).length = k) {w : World} {base g c : Nat} {xs : List α} (h : ORC f e k w base (.slice (some ⟨g, 0, none⟩) xs.length c) xs) (q i : Nat) (hq : q < xs.length) (hi : i < k) (u : Value) (y : α) (hy : (f (xs[q])).set i u = f y) :
 ORC f e k (w.setCell ⟨g, q * k + i, none⟩ u) base (.slice (some ⟨g, 0, none⟩) xs.length c) (xs.set q y) := by
 have hs := (World.ownsRow.stored h (q * k + i) u).1
 unfold ORC
 rw [List.length_set]
 have e1 : (xs.flatMap f).set (q * k + i) u = (xs.set q y).flatMap f := by
  clear h hs
  induction xs generalizing q with
  | nil => simp at hq
  | cons x r ih =>
   cases q with
   | zero =>
    simp only [List.getElem_cons_zero] at hy
    rw [List.flatMap_cons, List.set_cons_zero, List.flatMap_cons, ← hy, Nat.zero_mul, Nat.zero_add, List.set_append_left _ _ (by rw [hf]; exact hi)]
   | succ q =>
    simp only [List.getElem_cons_succ] at hy
    rw [List.flatMap_cons, List.set_cons_succ, List.flatMap_cons, ← ih q (by simpa using hq) hy, List.set_append_right _ _ (by rw [hf, Nat.succ_mul]; omega), hf, show (q + 1) * k + i - k = q * k + i by rw [Nat.succ_mul]; omega]
 rw [← e1]
 exact hs
end
section
open Go.RowKit

variable {Ex : List (Nat × Value)}
def Cel.sp (h : Int) (x : Cel) : Cel := ⟨x.id, x.pos, x.to, x.val, x.made, h⟩
def mrZ (h : Int) (xs : List Cel) : List SpD → List Cel
 | [] => xs
 | s :: r => mrZ h (xs.set s.pl.toNat ((xs.getD s.pl.toNat dC).sp h)) r
def newC (id h : Int) (ys : LII) (k : Nat) : List Cel := (List.range k).map fun j : Nat => ⟨id, j, (ys.getD j (0, 0)).1, (ys.getD j (0, 0)).2, h, -1⟩
def addZ (xs : List Cel) (h t : Int) (ins : List InD) (ys : LII) (first : Bool) : Int × List Cel :=
 if rTx t ins ys = false ∨ (ins = [] ∧ first = false) then (2, xs)
 else if hasId xs (idZ t ins ys) = true then (4, xs)
 else match spZ xs ins [] with
  | none => (5, xs)
  | some ss =>
   if ss.all (opens (idZ t ins ys)) = false then (6, xs)
   else if ss ≠ [] ∧ sumSp ss < smU ys then (7, xs)
   else (0, mrZ h xs ss ++ newC (idZ t ins ys) h ys ys.length)
theorem markZ_len (h : Int) (ss : List SpD) : ∀ xs, (mrZ h xs ss).length = xs.length := by
 induction ss with
 | nil => intro xs; rfl
 | cons s r ih => intro xs; rw [mrZ, ih, List.length_set]
theorem markZ_snoc (h : Int) (ss : List SpD) (s : SpD) : ∀ xs, mrZ h xs (ss ++ [s]) = (mrZ h xs ss).set s.pl.toNat (((mrZ h xs ss).getD s.pl.toNat dC).sp h) := by
 induction ss with
 | nil => intro xs; rfl
 | cons a r ih => intro xs; rw [List.cons_append, mrZ, ih, mrZ]
theorem markZ_take (h : Int) (xs : List Cel) (ss : List SpD) (k : Nat) (hk : k < ss.length) : mrZ h xs (ss.take (k + 1)) = (mrZ h xs (ss.take k)).set (ss.getD k dS).pl.toNat (((mrZ h xs (ss.take k)).getD (ss.getD k dS).pl.toNat dC).sp h) := by
 rw [List.take_succ_eq_append_getElem hk, markZ_snoc]
 simp only [List.getD, List.getElem?_eq_getElem hk, Option.getD_some]
theorem newC_snoc (id h : Int) (ys : LII) (k : Nat) : newC id h ys (k + 1) = newC id h ys k ++ [⟨id, k, (ys.getD k (0, 0)).1, (ys.getD k (0, 0)).2, h, -1⟩] := by
 unfold newC
 rw [List.range_succ, List.map_append]
 rfl
theorem spZ_good (xs : List Cel) (P : SpD → Prop) : ∀ (ins : List InD) (acc ss : List SpD), (∀ i ∈ ins, ∀ q : Nat, q < xs.length → isCoin i.id i.pos (xs.getD q dC) = true → P ⟨q, (xs.getD q dC).to, (xs.getD q dC).val, i.ao, i.n, i.c, i.l⟩) → spZ xs ins acc = some ss → (∀ s ∈ acc, P s) → ∀ s ∈ ss, P s := by
 intro ins
 induction ins with
 | nil => intro acc ss hP h ha; simp only [spZ] at h; cases h; exact ha
 | cons i r ih =>
  intro acc ss hP h ha
  simp only [spZ] at h
  split at h
  ·cases h
  ·rename_i hc
   rcases fcS xs i.id i.pos with hf | ⟨q, hq, hf, hco⟩
   ·exact absurd (Or.inl (by rw [hf]; omega)) hc
   ·rw [hf] at h
    rw [show ((q : Int)).toNat = q from Int.toNat_natCast q] at h
    refine ih _ ss (fun j hj => hP j (by simp [hj])) h (fun s hs => ?_)
    rcases List.mem_append.1 hs with hs | hs
    ·exact ha s hs
    ·rw [List.mem_singleton] at hs
     rw [hs]
     exact hP i (by simp) q hq hco
theorem spZ_len (xs : List Cel) : ∀ (ins : List InD) (acc ss : List SpD), spZ xs ins acc = some ss → ss.length = acc.length + ins.length := by
 intro ins
 induction ins with
 | nil => intro acc ss h; simp only [spZ] at h; cases h; simp
 | cons i r ih =>
  intro acc ss h
  simp only [spZ] at h
  split at h
  ·cases h
  ·rw [ih _ ss h]
   simp only [List.length_append, List.length_cons, List.length_nil]
   omega
theorem gDM {α : Type} (l : List α) (d : α) (k : Nat) (h : k < l.length) : l.getD k d ∈ l := by
 simp only [List.getD, List.getElem?_eq_getElem h, Option.getD_some]
 exact List.getElem_mem h
theorem mgD {α : Type} {l : List α} (d : α) {x : α} (h : x ∈ l) : ∃ k, k < l.length ∧ x = l.getD k d := by
 obtain ⟨k, hk, e⟩ := List.getElem_of_mem h
 exact ⟨k, hk, by simp only [List.getD, List.getElem?_eq_getElem hk, Option.getD_some]; exact e.symm⟩
theorem ChOwn.drew {w : World} {b o : Nat} {v : Value} {h : Int} {xs : List Cel} (hc : ChOwn Ex w b o v h xs) : ChOwn Ex w.drew b o v h xs := ⟨hc.c0, hc.c1, hc.f0, hc.f1, hc.own, hc.ext⟩
theorem ChOwn.alloc {w : World} {b o : Nat} {v : Value} {h : Int} {xs : List Cel} (hc : ChOwn Ex w b o v h xs) (ob : Obj) : ChOwn Ex (w.alloc ob) b o v h xs := hc.grown (bAl _ _)
theorem ChOwn.mark {w : World} {b o g c : Nat} {h : Int} {xs : List Cel} (hc : ChOwn Ex w b o (.slice (some ⟨g, 0, none⟩) xs.length c) h xs) (q : Nat) (hq : q < xs.length) (u : Int) : ChOwn Ex (w.setCell ⟨g, q * 6 + 5, none⟩ (.int .i64 u)) b o (.slice (some ⟨g, 0, none⟩) xs.length c) h (xs.set q ((xs.getD q dC).sp u)) := by
 have hg : b + 1 ≤ g := (hc.own.blk g rfl).1
 have hne : ∀ i, (⟨g, q * 6 + 5, none⟩ : Addr) ≠ ⟨b, i, none⟩ := fun i e => by have := congrArg Addr.block e; simp only at this; omega
 have e : xs.getD q dC = xs[q] := by simp [List.getD, hq]
 refine ⟨(World.cell?_setCell_other _ _ _ _ (hne _)).trans hc.c0, (World.cell?_setCell_other _ _ _ _ (hne _)).trans hc.c1, (World.frozen?_setCell _ _ _ _).trans hc.f0, fun j => (World.frozen?_setCell _ _ _ _).trans (hc.f1 j), ?_, fun q' hq' => ⟨(hc.ext q' hq').1, (hc.ext q' hq').2.1, (World.cell?_setCell_other _ _ _ _ (hne _)).trans (hc.ext q' hq').2.2⟩⟩
 rw [e]
 exact ORC.put cel6 hc.own q 5 hq (by omega) (.int .i64 u) _ rfl
theorem idZ_bd (t : Int) (xs : List InD) (ys : LII) : Mk.isM (idZ t xs ys) = true := by
 rw [Mk.isM_iff]
 unfold idZ
 split
 ·exact Mk.mixL_bd 1 _ (by omega) (by omega)
 ·omega
end
section
open Go.RowKit
variable {w w' : World} {b off : Nat} {E N : NPr} {ao : OAd} {l : List Int}
structure TxD where
 t : Int
 ai : OAd
 n : Nat
 c : Nat
 ap : OAd
 m : Nat
 d : Nat
 ins : List InD
 ys : LII
def dT : TxD := ⟨0, none, 0, 0, none, 0, 0, [], []⟩
def TxD.v (x : TxD) : List Value := [.int .i64 x.t, .slice x.ai x.n x.c, .slice x.ap x.m x.d]
theorem tx3 (x : TxD) : x.v.length = 3 := rfl
structure TxCells (w : World) (b off : Nat) (x : TxD) : Prop where
 c0 : w.cell? ⟨b, off, none⟩ = some (.int .i64 x.t)
 c1 : w.cell? ⟨b, off + 1, none⟩ = some (.slice x.ai x.n x.c)
 c2 : w.cell? ⟨b, off + 2, none⟩ = some (.slice x.ap x.m x.d)
theorem txCells {xs : List TxD} (h : VRow w b off (xs.flatMap TxD.v)) (j : Nat) (hj : j < xs.length) : TxCells w b (off + j * 3) (xs.getD j dT) :=
 ⟨reL tx3 dT h j hj 0 (by omega), reL tx3 dT h j hj 1 (by omega), reL tx3 dT h j hj 2 (by omega)⟩
structure TxOk (N : NPr) (w : World) (x : TxD) : Prop where
 ins : IAa w x.ai x.ins
 il : x.ins.length = x.n
 outs : OsT w x.ap x.ys
 ol : x.ys.length = x.m
 na : x.ins ≠ [] → ∀ a, x.ai = some a → N a.block
 np : x.ys ≠ [] → ∀ a, x.ap = some a → N a.block
 ns : ∀ i ∈ x.ins, i.l ≠ [] → ∀ a, i.ao = some a → N a.block
theorem ints_fr (hf : Fr E w w') (h : IsT w ao l) (hn : l ≠ [] → ∀ a, ao = some a → ¬ E a.block) : IsT w' ao l := by
 by_cases he : l = []
 ·exact Or.inl he
 ·rcases h with h | ⟨b, off, rfl, hr⟩
  ·exact Or.inl h
  ·exact Or.inr ⟨b, off, rfl, hf.row hr (hn he _ rfl)⟩
theorem ins_fr (hf : Fr E w w') {l : List InD} (h : IAa w ao l) (hn : l ≠ [] → ∀ a, ao = some a → ¬ E a.block) (hs : ∀ i ∈ l, i.l ≠ [] → ∀ a, i.ao = some a → ¬ E a.block) : IAa w' ao l := by
 by_cases he : l = []
 ·exact Or.inl he
 ·rcases h with h | ⟨b, off, rfl, hr⟩
  ·exact Or.inl h
  ·refine Or.inr ⟨b, off, rfl, fun j hj => ?_⟩
   obtain ⟨⟨h0, h1, h2⟩, h3⟩ := hr j hj
   have hb := hn he _ rfl
   exact ⟨⟨hf.cell h0 hb, hf.cell h1 hb, hf.cell h2 hb⟩, ⟨ints_fr hf h3.lies (hs _ (gDM l dIn j hj)), h3.len, h3.sz, h3.nil⟩⟩
theorem outs_fr (hf : Fr E w w') {l : LII} (h : OsT w ao l) (hn : l ≠ [] → ∀ a, ao = some a → ¬ E a.block) : OsT w' ao l := by
 by_cases he : l = []
 ·exact Or.inl he
 ·rcases h with h | ⟨b, off, rfl, hr⟩
  ·exact Or.inl h
  ·exact Or.inr ⟨b, off, rfl, fun j hj => ⟨hf.cell (hr j hj).1 (hn he _ rfl), hf.cell (hr j hj).2 (hn he _ rfl)⟩⟩
theorem TxOk.fr (hf : Fr E w w') {x : TxD} (h : TxOk N w x) (hn : ∀ k, N k → ¬ E k) : TxOk N w' x :=
 ⟨ins_fr hf h.ins (fun e a ha => hn _ (h.na e a ha)) (fun i hi e a ha => hn _ (h.ns i hi e a ha)), h.il, outs_fr hf h.outs (fun e a ha => hn _ (h.np e a ha)), h.ol, h.na, h.np, h.ns⟩
structure BlkAt (N : NPr) (w : World) (ao : OAd) (bl : List TxD) : Prop where
 row : RcT TxD.v w ao bl
 na : bl ≠ [] → ∀ a, ao = some a → N a.block
 ok : ∀ x ∈ bl, TxOk N w x
theorem BlkAt.fr (hf : Fr E w w') {bl : List TxD} (h : BlkAt N w ao bl) (hn : ∀ k, N k → ¬ E k) : BlkAt N w' ao bl := by
 refine ⟨?_, h.na, fun x hx => (h.ok x hx).fr hf hn⟩
 by_cases he : bl = []
 ·exact Or.inl he
 ·rcases h.row with h1 | ⟨b, off, rfl, hr⟩
  ·exact Or.inl h1
  ·exact Or.inr ⟨b, off, rfl, hf.vrow hr (hn _ (h.na he _ rfl))⟩
end
end Go.Proofs.YtffgpepngcnjeabGreat
