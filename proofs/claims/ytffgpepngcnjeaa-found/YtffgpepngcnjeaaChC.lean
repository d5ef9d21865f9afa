/-
  Package chain: what the inputs spend; sums; seals.
-/
import Derived.Test.YtffgpepngcnjeaaChB
namespace Go.Proofs.Ytffgpepngcnjeaa
open Go.RowKit

/-- what the inputs spend, behind those that are in acc; none: one names no coin, or two the same -/
def spZ (xs : List Cel) : List InD → List SpD → Option (List SpD)
  | [], acc => some acc
  | i :: r, acc =>
    if findZ xs i.id i.pos < 0 ∨ isSp acc (findZ xs i.id i.pos) = true then none
    else spZ xs r (acc ++ [⟨findZ xs i.id i.pos, (xs.getD (findZ xs i.id i.pos).toNat dC).to, (xs.getD (findZ xs i.id i.pos).toNat dC).val, i.ao, i.n, i.c, i.l⟩])
theorem spZ_drop (xs : List Cel) (ins : List InD) (k : Nat) (h : k < ins.length) (acc : List SpD) : spZ xs (ins.drop k) acc =
    if findZ xs (ins.getD k dIn).id (ins.getD k dIn).pos < 0 ∨ isSp acc (findZ xs (ins.getD k dIn).id (ins.getD k dIn).pos) = true then none
    else spZ xs (ins.drop (k + 1)) (acc ++ [⟨findZ xs (ins.getD k dIn).id (ins.getD k dIn).pos, (xs.getD (findZ xs (ins.getD k dIn).id (ins.getD k dIn).pos).toNat dC).to, (xs.getD (findZ xs (ins.getD k dIn).id (ins.getD k dIn).pos).toNat dC).val, (ins.getD k dIn).ao, (ins.getD k dIn).n, (ins.getD k dIn).c, (ins.getD k dIn).l⟩]) := by
  rw [List.drop_eq_getElem_cons h]
  simp only [List.getD, List.getElem?_eq_getElem h, Option.getD_some]
  rfl

abbrev OwnSp (w : World) (base : Nat) (v : Value) (ss : List SpD) : Prop := OwnRec SpD.v 204 4 w base v ss

set_option maxRecDepth 100000 in
set_option maxHeartbeats 4000000 in
theorem spends_any (b o : Nat) (ao : Option Addr) (n c : Nat) (xs : List Cel) (ai : Option Addr) (m d : Nat) (ins : List InD) (w : World) (hp : w.cell? ⟨b, o, none⟩ = some (.slice ao n c)) (hx : CelsAt w ao xs) (hn : xs.length = n) (hm : n ≤ 1000000) (hi : InsAt w ai ins) (hil : ins.length = m) (hm10 : m ≤ 1000) :
    Calls Try.prog 133 #[.pointer (some ⟨b, o, none⟩), .slice ai m d] w fun e w' => (∃ v f, e = .returned (.tuple #[v, .bool f]) ∧ (spZ xs ins [] = none → f = false) ∧ (∀ ss, spZ xs ins [] = some ss → f = true ∧ OwnSp w' w.heap.size v ss)) ∧ Below w.heap.size w w' := by
  have HN : Hid (xs.length = n) := hn
  have HX : Hid (CelsAt w ao xs) := hx
  have HP : Hid (w.cell? ⟨b, o, none⟩ = some (.slice ao n c)) := hp
  have HI : Hid (InsAt w ai ins) := hi
  have HM : Hid (ins.length = m) := hil
  clear hn hx hp hi hil
  have hpl := cell_lt HP.out
  generalize hB : w.heap.size = B
  have HB : Hid (w.heap.size = B) := hB
  clear hB
  go_enter Try.func133, Try.ntmps133
  go_wp2
  go_loopw [6, 13] (fun v i wr => ∃ (k : Nat) (acc : List SpD), k ≤ m ∧ acc.length = k ∧ i = .int .i64 k ∧ Hid (spZ xs (ins.drop k) acc = spZ xs ins []) ∧ OwnSp wr B v acc ∧ Below B w wr) (fun _ i _ => m - (intOf i).toNat)
  case atStart => exact ⟨0, [], Nat.zero_le _, rfl, rfl, rfl, OwnRec.nil _ _ _ _ _, Below.refl _ _⟩
  case round =>
    obtain ⟨k, acc, hk, hacc, rfl, hz, hown, hbl⟩ := hrel
    have hsz := hbl.size
    rw [HB.out] at hsz
    have HA : Hid (acc.length = k) := hacc
    clear hacc
    by_cases hlt : k < m
    · rcases HI.out with hnil | ⟨gi, offi, rfl, hrow⟩
      · have := HM.out; rw [hnil] at this; simp at this; omega
      obtain ⟨⟨i0, i1, i2⟩, _⟩ := (hrow.grown (by rw [HB.out]; exact hbl)) k (by rw [HM.out]; exact hlt)
      have HZ : Hid _ := hz.out
      rw [spZ_drop xs ins k (by rw [HM.out]; exact hlt)] at HZ
      clear hrow
      generalize ins.getD k dIn = y at i0 i1 i2 HZ
      obtain ⟨yid, ypos, yao, yn, yc, yl⟩ := y
      simp only at i0 i1 i2
      have hb1 := hbl.alloc hsz (.cells #[.int .i64 yid, .int .i64 ypos, .slice yao yn yc] 48)
      have HP1 : Hid ((wr.alloc (.cells #[.int .i64 yid, .int .i64 ypos, .slice yao yn yc] 48)).cell? ⟨b, o, none⟩ = some (.slice ao n c)) := (hb1.cell (p := ⟨b, o, none⟩) (by rw [← HB.out]; exact hpl)).trans HP.out
      have HX1 : Hid (CelsAt (wr.alloc (.cells #[.int .i64 yid, .int .i64 ypos, .slice yao yn yc] 48)) ao xs) := HX.out.grown (by rw [HB.out]; exact hb1)
      have hown1 := hown.alloc (.cells #[.int .i64 yid, .int .i64 ypos, .slice yao yn yc] 48)
      have hsz1 : B ≤ (wr.alloc (.cells #[.int .i64 yid, .int .i64 ypos, .slice yao yn yc] 48)).heap.size := by simp; omega
      have cell2 : (wr.alloc (.cells #[.int .i64 yid, .int .i64 ypos, .slice yao yn yc] 48)).cell? ⟨wr.heap.size, 2, none⟩ = some (.slice yao yn yc) := by rw [World.cell?_alloc_new]; rfl
      have hlt1 : wr.heap.size < (wr.alloc (.cells #[.int .i64 yid, .int .i64 ypos, .slice yao yn yc] 48)).heap.size := by simp
      go_wp2_with fail
      generalize hw1 : wr.alloc (.cells #[.int .i64 yid, .int .i64 ypos, .slice yao yn yc] 48) = w1 at *
      clear hw1
      generalize wr.heap.size = I at *
      clear hown hbl hsz i0 i1 i2
      refine (find_any b o ao n c xs yid ypos _ HP1.out HX1.out HN.out hm).mono ?_
      rintro e w2 ⟨rfl, hb2⟩
      have hown2 := OwnRec.grown hown1 hb2
      have hbl2 := hb1.trans (hb2.mono hsz1)
      have hsz2 := Nat.le_trans hsz1 hb2.size
      have cell2' := (hb2.cell (p := ⟨I, 2, none⟩) hlt1).trans cell2
      have hltI : I < w2.heap.size := Nat.lt_of_lt_of_le hlt1 hb2.size
      have HP2 : Hid (w2.cell? ⟨b, o, none⟩ = some (.slice ao n c)) := (hb2.cell (p := ⟨b, o, none⟩) (cell_lt HP1.out)).trans HP1.out
      have HX2 : Hid (CelsAt w2 ao xs) := HX1.out.grown hb2
      clear hown1 hb1 hb2 hsz1 HP1 HX1 cell2 hlt1
      rcases findZ_cases xs yid ypos with hf | ⟨q, hq, hf, _⟩
      · rw [hf] at HZ ⊢
        have HZ' : Hid (spZ xs ins [] = none) := by
          show _ = _
          have := HZ.out
          rw [if_pos (Or.inl (by omega))] at this
          exact this.symm
        clear HZ
        go_wp2
        go_ret2
        exact ⟨⟨_, _, rfl, fun _ => rfl, fun ss hss => (by rw [HZ'.out] at hss; cases hss)⟩, hbl2⟩
      · rw [hf] at HZ ⊢
        have hqn : q < n := by rw [← HN.out]; exact hq
        clear hf
        obtain ⟨av, cv, rfl, hat⟩ := OwnRec.at sp4 hown2
        rw [HA.out] at hown2 ⊢
        cases hsp : isSp acc (q : Int)
        · have HZ' : Hid _ := HZ.out
          rw [if_neg (by rw [hsp]; simp), show ((q : Int)).toNat = q from Int.toNat_natCast q] at HZ'
          clear HZ
          go_wp2_with fail
          refine (isSpent_any av k cv acc (q : Int) _ hat HA.out (by omega)).mono ?_
          rintro e w3 ⟨rfl, hb3⟩
          rw [hsp]
          have hown3 := OwnRec.grown hown2 hb3
          have hbl3 := hbl2.trans (hb3.mono hsz2)
          have hsz3 := Nat.le_trans hsz2 hb3.size
          have cell3 := (hb3.cell (p := ⟨I, 2, none⟩) hltI).trans cell2'
          have hltI3 : I < w3.heap.size := Nat.lt_of_lt_of_le hltI hb3.size
          have hp3 := (hb3.cell (p := ⟨b, o, none⟩) (cell_lt HP2.out)).trans HP2.out
          have HX3 : Hid (CelsAt w3 ao xs) := HX2.out.grown hb3
          rcases HX3.out with hnil | ⟨gx, offx, rfl, hrowx⟩
          · have := HN.out; rw [hnil] at this; simp at this; omega
          obtain ⟨x0, x1, x2, x3, x4, x5⟩ := celCells hrowx q hq
          generalize xs.getD q dC = y at x0 x1 x2 x3 x4 x5 HZ'
          obtain ⟨zid, zpos, zto, zval, zmade, zspent⟩ := y
          simp only at x0 x1 x2 x3 x4 x5
          clear hown2 hbl2 hb3 hsz2 cell2' hltI HP2 HX2 hat HX3 hrowx hsp
          have hown4 := hown3.alloc (.cells #[.int .i64 zid, .int .i64 zpos, .int .i64 zto, .int .i64 zval, .int .i64 zmade, .int .i64 zspent] 191)
          have hbl4 := hbl3.alloc hsz3 (.cells #[.int .i64 zid, .int .i64 zpos, .int .i64 zto, .int .i64 zval, .int .i64 zmade, .int .i64 zspent] 191)
          go_wp2_with (at_builtin; refine wpList_appR 197 48 _ Try.underlying197 info204 rfl (by decide) sp4 sp_one ((w3.alloc (.cells #[.int .i64 zid, .int .i64 zpos, .int .i64 zto, .int .i64 zval, .int .i64 zmade, .int .i64 zspent] 191)).alloc (.cells #[.int .i64 q, .int .i64 zto, .int .i64 zval, .slice yao yn yc] 204)) rfl _ _ rfl B (w3.alloc (.cells #[.int .i64 zid, .int .i64 zpos, .int .i64 zto, .int .i64 zval, .int .i64 zmade, .int .i64 zspent] 191)).heap.size 1 _ acc ⟨q, zto, zval, yao, yn, yc, yl⟩ (by rfl) (by simp [World.size_alloc]; rfl) (hown4.alloc _) (vrow_new _ _ _) (by simp; omega) (by rw [HA.out]; unfold maxLen; omega) (by rw [HA.out]; omega) ?_; intro g' cap w5 hown5 hg5 _ _)
          go_roundw
          case rel => exact ⟨k + 1, acc ++ [⟨q, zto, zval, yao, yn, yc, yl⟩], by omega, by rw [List.length_append, HA.out]; rfl, by go_num, HZ', hown5, hbl4.trans (gb_to_below (gb_trans (gb_alloc _ _ _) hg5) (by simp; omega) (fun r hr => (hown4.blk r hr).1))⟩
          case measure => simp [intOf]; omega
        · have HZ' : Hid (spZ xs ins [] = none) := by
            show _ = _
            have := HZ.out
            rw [if_pos (Or.inr hsp)] at this
            exact this.symm
          clear HZ
          go_wp2_with (go_at_call 149; refine (isSpent_any av k cv acc (q : Int) _ hat HA.out (by omega)).mono ?_; rintro e w3 ⟨rfl, hb3⟩; rw [hsp])
          go_ret2
          exact ⟨⟨_, _, rfl, fun _ => rfl, fun ss hss => (by rw [HZ'.out] at hss; cases hss)⟩, hbl2.trans (hb3.mono hsz2)⟩
    · have hz' := hz.out
      rw [List.drop_of_length_le (by rw [HM.out]; omega)] at hz'
      have HZ : Hid (some acc = spZ xs ins []) := hz'
      clear hz' hz
      go_wp2
      go_ret2
      exact ⟨⟨_, _, rfl, fun h => (by rw [← HZ.out] at h; cases h), fun ss hss => (by rw [← HZ.out] at hss; cases hss; exact ⟨rfl, hown⟩)⟩, hbl⟩

structure SpOk (w : World) (x : SpD) : Prop where
  lies : IntsAt w x.ao x.l
  len : x.l.length = x.n
  sz : x.n ≤ 17592186044416
theorem SpOk.grown {w w' : World} {x : SpD} (h : SpOk w x) (hb : Below w.heap.size w w') : SpOk w' x := ⟨h.lies.grown hb, h.len, h.sz⟩

def opens (id : Int) (x : SpD) : Bool := isS x.l && (Mk.opn id x.l == x.to)

set_option maxRecDepth 100000 in
set_option maxHeartbeats 2000000 in
theorem allOpen_any (ao : Option Addr) (n c : Nat) (ss : List SpD) (id : Int) (w : World) (hid : Mk.isM id = true) (hx : RecAt SpD.v w ao ss) (hn : ss.length = n) (hm : n ≤ 1000000) (hok : ∀ j, j < n → SpOk w (ss.getD j dS)) :
    Calls Try.prog 134 #[.slice ao n c, .int .i64 id] w fun e w' => e = .returned (.bool (ss.all (opens id))) ∧ Below w.heap.size w w' := by
  have HN : Hid (ss.length = n) := hn
  have HX : Hid (RecAt SpD.v w ao ss) := hx
  have HO : Hid (∀ j, j < n → SpOk w (ss.getD j dS)) := hok
  clear hn hx hok
  go_enter Try.func134, Try.ntmps134
  go_wp2
  go_loopw [11] (fun i wr => ∃ k : Nat, k ≤ n ∧ i = .int .i64 k ∧ Hid ((ss.take k).all (opens id) = true) ∧ Below w.heap.size w wr) (fun i _ => n - (intOf i).toNat)
  case atStart => exact ⟨0, Nat.zero_le _, rfl, by show List.all _ _ = true; simp, Below.refl _ _⟩
  case round =>
    obtain ⟨k, hk, rfl, hall, hbl⟩ := hrel
    have hsz := hbl.size
    by_cases hlt : k < n
    · rcases HX.out with hnil | ⟨g, off, rfl, hrow⟩
      · have := HN.out; rw [hnil] at this; simp at this; omega
      obtain ⟨c0, c1, c2, c3⟩ := spCells (hrow.grown hbl) k (by rw [HN.out]; exact hlt)
      have HS : Hid _ := all_snoc (opens id) ss dS k (by rw [HN.out]; exact hlt)
      have HZ : Hid _ := all_no (opens id) ss dS k (by rw [HN.out]; exact hlt)
      have HK : Hid _ := (HO.out k hlt).grown hbl
      clear hrow
      generalize ss.getD k dS = y at c0 c1 c2 c3 HS HZ HK
      obtain ⟨ypl, yto, yval, yao, yn, yc, yl⟩ := y
      simp only at c0 c1 c2 c3
      obtain ⟨k1, k2, k3⟩ := HK.out
      simp only at k1 k2 k3
      have hb1 := hbl.alloc hsz (.cells #[.int .i64 ypl, .int .i64 yto, .int .i64 yval, .slice yao yn yc] 204)
      have HL : Hid (IntsAt (wr.alloc (.cells #[.int .i64 ypl, .int .i64 yto, .int .i64 yval, .slice yao yn yc] 204)) yao yl) := k1.grown ((Below.refl _ _).alloc (Nat.le_refl _) _)
      have HKL : Hid (yl.length = yn) := k2
      have cell1 : (wr.alloc (.cells #[.int .i64 ypl, .int .i64 yto, .int .i64 yval, .slice yao yn yc] 204)).cell? ⟨wr.heap.size, 1, none⟩ = some (.int .i64 yto) := by rw [World.cell?_alloc_new]; rfl
      have hlt1 : wr.heap.size < (wr.alloc (.cells #[.int .i64 ypl, .int .i64 yto, .int .i64 yval, .slice yao yn yc] 204)).heap.size := by simp
      clear k1 k2 HK
      cases hs : isS yl
      · go_wp2_with (go_at_call 67; refine (open_noSeal id yao yn yc yl _ hid HL.out HKL.out (by omega) hs).mono ?_; rintro e w2 ⟨rfl, rfl⟩)
        go_ret
        exact ⟨ret_bool (HZ.out (by simp [opens, hs])).symm, hb1⟩
      · go_wp2_with fail
        generalize hw1 : wr.alloc (.cells #[.int .i64 ypl, .int .i64 yto, .int .i64 yval, .slice yao yn yc] 204) = w1 at *
        clear hw1
        generalize wr.heap.size = I at *
        refine (open_yes id yao yn yc yl _ hid HL.out HKL.out hs).mono ?_
        rintro e w2 ⟨rfl, hb2⟩
        have cell2 := (hb2.cell (p := ⟨I, 1, none⟩) hlt1).trans cell1
        have hbl2 := hb1.trans (hb2.mono hb1.size)
        clear cell1 hlt1 c0 c1 c2 c3 hb1 hb2 HL
        cases ho : (Mk.opn id yl == yto)
        · go_wp2
          go_ret
          exact ⟨ret_bool (HZ.out (by simp [opens, ho])).symm, hbl2⟩
        · go_wp2
          go_roundw
          case rel => exact ⟨k + 1, by omega, by go_num, by show List.all _ _ = true; rw [HS.out, hall.out]; simp [opens, hs, ho], hbl2⟩
          case measure => simp [intOf]; omega
    · go_wp2
      go_ret
      exact ⟨ret_bool (all_done (opens id) ss n HN.out k (by omega) hall.out), hbl⟩

set_option maxRecDepth 100000 in
set_option maxHeartbeats 1000000 in
theorem sumSpends_any (ao : Option Addr) (n c : Nat) (ss : List SpD) (w : World) (hx : RecAt SpD.v w ao ss) (hn : ss.length = n) (hm : n ≤ 1000) (hb : ∀ x ∈ ss, 0 ≤ x.val ∧ x.val ≤ 1099511627776) :
    Calls Try.prog 135 #[.slice ao n c] w fun e w' => e = .returned (.int .i64 (sumSp ss)) ∧ Below w.heap.size w w' := by
  have HN : Hid (ss.length = n) := hn
  have HX : Hid (RecAt SpD.v w ao ss) := hx
  have HBd : Hid (∀ x ∈ ss, 0 ≤ x.val ∧ x.val ≤ 1099511627776) := hb
  clear hn hx hb
  go_enter Try.func135, Try.ntmps135
  go_wp2
  go_loopw [3, 8] (fun v i wr => ∃ (k : Nat) (S : Int), k ≤ n ∧ i = .int .i64 k ∧ v = .int .i64 S ∧ Hid (((ss.take k).map SpD.val).sum = S) ∧ Below w.heap.size w wr) (fun _ i _ => n - (intOf i).toNat)
  case atStart => exact ⟨0, 0, Nat.zero_le _, rfl, rfl, rfl, Below.refl _ _⟩
  case round =>
    obtain ⟨k, S, hk, rfl, rfl, hS, hbl⟩ := hrel
    have hsz := hbl.size
    by_cases hlt : k < n
    · rcases HX.out with hnil | ⟨g, off, rfl, hrow⟩
      · have := HN.out; rw [hnil] at this; simp at this; omega
      obtain ⟨c0, c1, c2, c3⟩ := spCells (hrow.grown hbl) k (by rw [HN.out]; exact hlt)
      have HS : Hid _ := sum_snoc SpD.val ss dS k (by rw [HN.out]; exact hlt)
      have hSb := sum_bd SpD.val 1099511627776 (ss.take k) (fun x hx => HBd.out x (List.mem_of_mem_take hx))
      have hyb := HBd.out (ss.getD k dS) (by
        have h' : k < ss.length := by rw [HN.out]; exact hlt
        simp only [List.getD, List.getElem?_eq_getElem h', Option.getD_some]
        exact List.getElem_mem h')
      rw [hS.out] at hSb
      have hl2 : (ss.take k).length ≤ 1000 := by rw [List.length_take]; omega
      have hS2 : 0 ≤ S ∧ S ≤ 1100000000000000 := ⟨hSb.1, by omega⟩
      clear hrow hSb hl2
      generalize ss.getD k dS = y at c0 c1 c2 c3 HS hyb
      obtain ⟨ypl, yto, yval, yao, yn, yc, yl⟩ := y
      simp only at c0 c1 c2 c3 hyb
      go_wp2
      go_roundw
      case rel => exact ⟨k + 1, S + yval, by omega, by go_num, rfl, by show _ = _; rw [HS.out, hS.out], hbl.alloc hsz _⟩
      case measure => simp [intOf]; omega
    · go_wp2
      go_ret
      refine ⟨ret_int ?_, hbl⟩
      rw [← hS.out, List.take_of_length_le (by rw [HN.out]; omega)]
      rfl

set_option maxRecDepth 100000 in
set_option maxHeartbeats 1000000 in
theorem sumOuts_any (ao : Option Addr) (n c : Nat) (ys : List (Int × Int)) (w : World) (hx : OutsAt w ao ys) (hn : ys.length = n) (hm : n ≤ 1000) (hb : ∀ x ∈ ys, 0 ≤ x.2 ∧ x.2 ≤ 1099511627776) :
    Calls Try.prog 136 #[.slice ao n c] w fun e w' => e = .returned (.int .i64 (sumOu ys)) ∧ Below w.heap.size w w' := by
  have HN : Hid (ys.length = n) := hn
  have HX : Hid (OutsAt w ao ys) := hx
  have HBd : Hid (∀ x ∈ ys, 0 ≤ x.2 ∧ x.2 ≤ 1099511627776) := hb
  clear hn hx hb
  go_enter Try.func136, Try.ntmps136
  go_wp2
  go_loopw [3, 8] (fun v i wr => ∃ (k : Nat) (S : Int), k ≤ n ∧ i = .int .i64 k ∧ v = .int .i64 S ∧ Hid (((ys.take k).map Prod.snd).sum = S) ∧ Below w.heap.size w wr) (fun _ i _ => n - (intOf i).toNat)
  case atStart => exact ⟨0, 0, Nat.zero_le _, rfl, rfl, rfl, Below.refl _ _⟩
  case round =>
    obtain ⟨k, S, hk, rfl, rfl, hS, hbl⟩ := hrel
    have hsz := hbl.size
    by_cases hlt : k < n
    · rcases HX.out with hnil | ⟨g, off, rfl, hrow⟩
      · have := HN.out; rw [hnil] at this; simp at this; omega
      obtain ⟨c0, c1⟩ := (hrow.grown hbl) k (by rw [HN.out]; exact hlt)
      have HS : Hid _ := sum_snoc Prod.snd ys (0, 0) k (by rw [HN.out]; exact hlt)
      have hSb := sum_bd Prod.snd 1099511627776 (ys.take k) (fun x hx => HBd.out x (List.mem_of_mem_take hx))
      have hyb := HBd.out (ys.getD k (0, 0)) (by
        have h' : k < ys.length := by rw [HN.out]; exact hlt
        simp only [List.getD, List.getElem?_eq_getElem h', Option.getD_some]
        exact List.getElem_mem h')
      rw [hS.out] at hSb
      have hl2 : (ys.take k).length ≤ 1000 := by rw [List.length_take]; omega
      have hS2 : 0 ≤ S ∧ S ≤ 1100000000000000 := ⟨hSb.1, by omega⟩
      clear hrow hSb hl2
      generalize ys.getD k (0, 0) = y at c0 c1 HS hyb
      obtain ⟨yto, yval⟩ := y
      simp only at c0 c1 hyb
      go_wp2
      go_roundw
      case rel => exact ⟨k + 1, S + yval, by omega, by go_num, rfl, by show _ = _; rw [HS.out, hS.out], hbl.alloc hsz _⟩
      case measure => simp [intOf]; omega
    · go_wp2
      go_ret
      refine ⟨ret_int ?_, hbl⟩
      rw [← hS.out, List.take_of_length_le (by rw [HN.out]; omega)]
      rfl

end Go.Proofs.Ytffgpepngcnjeaa
