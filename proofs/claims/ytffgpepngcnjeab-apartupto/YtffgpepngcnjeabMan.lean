/-
  A book of payments and its purse, side by side; sum, free.
  A book of payments: apart.
  A transaction in the making: a block with its three cells; its inputs and outputs in rows of the call's own.
  copyTx: a transaction in lists of its own.
-/
import Derived.Test.YtffgpepngcnjeabMam
import Derived.Deep.RegionHeld3
import Derived.Test.YtffgpepngcnjeabMab
import Derived.Deep.DeepCutAuto
namespace Go.Proofs.Ytffgpepngcnjeab
open Go.RowKit
abbrev BK : Type := Int × List CoinD × Bool
def PayD.b (p : PayD) : BK := (p.num, p.cs, p.sg)
def DeedD.b (a : DeedD) : BK := (a.num, a.cs, a.sg)
/-- the live ones are the same; the keys that have sealed are the same -/
structure LkB (ps : List PayD) (ks : List (Int × Int)) (ds : List DeedD) : Prop where
  live : ps.map PayD.b = (ds.filter DeedD.lv).map DeedD.b
  num : ∀ i, i < ds.length → (ds.getD i dDD).num = (i : Nat)
  used : ∀ b i, usedB ks (b, i) = sealD ds b i
theorem LkB.nil : LkB [] [] [] := ⟨rfl, fun _ hi => absurd hi (Nat.not_lt_zero _), fun _ _ => rfl⟩
theorem any_andC (b : Bool) (l : List CoinD) (f : CoinD → Bool) : (b && l.any f) = l.any fun x => b && f x := by
  cases b
  · induction l with
    | nil => rfl
    | cons x r ih => simp at ih ⊢
  · simp
theorem LkB.held {ps : List PayD} {ks : List (Int × Int)} {ds : List DeedD} (h : LkB ps ks ds) (id pos : Int) : heldB ps id pos = takenD ds id pos := by
  have e1 : heldB ps id pos = (ps.map PayD.b).any fun t => t.2.1.any fun x => x.id == id && x.pos == pos := by
    unfold heldB; rw [List.any_map]; rfl
  have e2 : takenD ds id pos = ((ds.filter DeedD.lv).map DeedD.b).any fun t => t.2.1.any fun x => x.id == id && x.pos == pos := by
    unfold takenD
    rw [List.any_map, List.any_filter]
    congr 1
    funext a
    exact (any_andC a.lv a.cs _).symm
  rw [e1, e2, h.live]
theorem LkB.free {ps : List PayD} {ks : List (Int × Int)} {ds : List DeedD} (h : LkB ps ks ds) (x : CoinD) : freeB ps ks x = (!takenD ds x.id x.pos && !sealD ds x.br x.ix) := by
  unfold freeB
  rw [h.held, h.used]
theorem LkB.len {ps : List PayD} {ks : List (Int × Int)} {ds : List DeedD} (h : LkB ps ks ds) : ps.length ≤ ds.length := by
  have := congrArg List.length h.live
  rw [List.length_map, List.length_map] at this
  rw [this]
  exact List.length_filter_le _ _
theorem own_vals (xs : List Cel) (s : Int) (g : Nat) (hv : Vals xs) : ∀ x ∈ ownZ (keysZ xs s g) (coinsC xs), 0 ≤ x.val ∧ x.val ≤ 1099511627776 := ownZ_val _ (fun z => 0 ≤ z ∧ z ≤ 1099511627776) _ (coinsC_val (fun z => 0 ≤ z ∧ z ≤ 1099511627776) xs hv)
/-- a book in block B, its purse in block P -/
structure Bk (NP ND : Nat → Prop) (w : World) (B P : Nat) (s : Int) (g : Nat) (v : Value) (h : Int) (xs : List Cel) (vl vs : Value) (md nx : Int) (ps : List PayD) (ks : List (Int × Int)) (vd : Value) (ds : List DeedD) : Prop where
  pp : PP NP w P s g v h xs vl vs md nx ps ks
  b0 : w.cell? ⟨B, 0, none⟩ = some (.pointer (some ⟨P, 0, none⟩))
  b1 : w.cell? ⟨B, 1, none⟩ = some (.int .i64 s)
  b2 : w.cell? ⟨B, 2, none⟩ = some vd
  fb : ∀ j, w.frozen? ⟨B, j, none⟩ = false
  od : OwnRec DeedD.v 98 11 w (B + 1) vd ds
  ok : ∀ d ∈ ds, DeedOk ND w d
  dj : ∀ k, (chE P v k ∨ lsE P vl vs k ∨ NP k) → k ≠ B ∧ vd.ownBlock ≠ some k ∧ ¬ ND k
  nd : ∀ k, ND k → k < w.heap.size ∧ k ≠ B ∧ vd.ownBlock ≠ some k
variable {NP ND : Nat → Prop} {w : World} {B P : Nat} {s : Int} {g : Nat} {v : Value} {h : Int} {xs : List Cel} {vl vs : Value} {md nx : Int} {ps : List PayD} {ks : List (Int × Int)} {vd : Value} {ds : List DeedD}
theorem Bk.grown {w' : World} (u : Bk NP ND w B P s g v h xs vl vs md nx ps ks vd ds) (hb : Below w.heap.size w w') : Bk NP ND w' B P s g v h xs vl vs md nx ps ks vd ds :=
  ⟨u.pp.grown hb, (hb.cell (p := ⟨B, 0, none⟩) (cell_lt u.b0)).trans u.b0, (hb.cell (p := ⟨B, 1, none⟩) (cell_lt u.b1)).trans u.b1, (hb.cell (p := ⟨B, 2, none⟩) (cell_lt u.b2)).trans u.b2, fun j => (hb.frozen (p := ⟨B, j, none⟩) (show B < w.heap.size from cell_lt u.b0)).trans (u.fb j), u.od.grown hb, fun d hd => (u.ok d hd).grown hb, u.dj, fun k hk => ⟨Nat.lt_of_lt_of_le (u.nd k hk).1 hb.size, (u.nd k hk).2⟩⟩
set_option maxRecDepth 100000 in
set_option maxHeartbeats 1000000 in
theorem kSum_any (ao : Option Addr) (n c : Nat) (cs : List CoinD) (w : World) (hx : RecAt CoinD.l w ao cs) (hn : cs.length = n) (hm : n ≤ 100000) (hv : ∀ x ∈ cs, 0 ≤ x.val ∧ x.val ≤ 1099511627776) :
    Calls Try.prog 35 #[.slice ao n c] w fun e w' => e = .returned (.int .i64 (sumC cs)) ∧ Below w.heap.size w w' := by
  have HV : Hid (∀ x ∈ cs, 0 ≤ x.val ∧ x.val ≤ 1099511627776) := hv
  have HA : Hid (RecAt CoinD.l w ao cs) := hx
  have HM : Hid (cs.length = n) := hn
  clear hv hx hn
  go_enter Try.func35, Try.ntmps35
  go_wp2
  go_loopw [3, 4] (fun v i wr => ∃ (k : Nat) (T : Int), k ≤ n ∧ i = .int .i64 k ∧ v = .int .i64 T ∧ Hid (((cs.take k).map CoinD.val).sum = T) ∧ Below w.heap.size w wr) (fun _ i _ => n - (intOf i).toNat)
  case atStart => exact ⟨0, 0, Nat.zero_le _, rfl, rfl, rfl, Below.refl _ _⟩
  case round =>
    obtain ⟨k, T, hk, rfl, rfl, hT, hbl⟩ := hrel
    by_cases hlt : k < n
    · rcases HA.out with hnil | ⟨gg, off, rfl, hrow⟩
      · have := HM.out; rw [hnil] at this; simp at this; omega
      obtain ⟨c0, c1, c2, c3, c4, c5⟩ := coinCells (hrow.grown hbl) k (by rw [HM.out]; exact hlt)
      have HS : Hid _ := sum_snoc CoinD.val cs dN k (by rw [HM.out]; exact hlt)
      have hSb := sum_bd CoinD.val 1099511627776 (cs.take k) (fun x hx => HV.out x (List.mem_of_mem_take hx))
      have hyb := HV.out (cs.getD k dN) (getD_mem cs dN k (by rw [HM.out]; exact hlt))
      rw [hT.out] at hSb
      have hl2 : (cs.take k).length ≤ 100000 := by rw [List.length_take]; omega
      have hS2 : 0 ≤ T ∧ T ≤ 110000000000000000 := ⟨hSb.1, by omega⟩
      clear hrow hSb hl2
      generalize cs.getD k dN = y at c0 c1 c2 c3 c4 c5 HS hyb
      obtain ⟨y0, y1, y2, yval, y4, y5⟩ := y
      simp only at c0 c1 c2 c3 c4 c5 hyb
      go_wp2
      go_roundw
      case rel => exact ⟨k + 1, T + yval, by omega, by go_num, rfl, by show _ = _; rw [HS.out, hT.out], hbl⟩
      case measure => simp [intOf]; omega
    · have HSe : Hid (sumC cs = T) := by show _ = _; rw [← hT.out, List.take_of_length_le (by rw [HM.out]; omega)]; rfl
      go_wp2
      go_ret
      exact ⟨ret_int HSe.out.symm, hbl⟩
theorem sumF_snoc (p : CoinD → Bool) (cs : List CoinD) (k : Nat) (h : k < cs.length) : sumC ((cs.take (k + 1)).filter p) = sumC ((cs.take k).filter p) + if p (cs.getD k dN) = true then (cs.getD k dN).val else 0 := by
  have e : cs.getD k dN = cs[k] := by simp [List.getD, h]
  rw [List.take_succ_eq_append_getElem h, List.filter_append, e]
  unfold sumC
  rw [List.map_append, List.sum_append]
  congr 1
  by_cases hp : p cs[k] = true
  · rw [if_pos hp, List.filter_cons, if_pos hp]; simp
  · rw [if_neg hp, List.filter_cons, if_neg hp]; simp
set_option maxRecDepth 100000 in
set_option maxHeartbeats 4000000 in
theorem bFree_any (w : World) (u : Bk NP ND w B P s g v h xs vl vs md nx ps ks vd ds) (hlk : LkB ps ks ds) (hs : Mk.isM s = true) (hg : 1 ≤ g) (hg2 : g ≤ 20) (hxl : xs.length ≤ 5000) (hV : Vals xs) (hdl : ds.length ≤ 1000000000) (hkl : ks.length ≤ 1000000000) :
    Calls Try.prog 16 #[.pointer (some ⟨B, 0, none⟩)] w fun e w' => e = .returned (.bool true) ∧ Below w.heap.size w w' := by
  have HU : Hid (Bk NP ND w B P s g v h xs vl vs md nx ps ks vd ds) := u
  have HLK : Hid (LkB ps ks ds) := hlk
  have b0 := u.b0
  obtain ⟨av, cv, ev, hatv⟩ := u.pp.pu.at
  have HR : Hid (PRow4 w P s g (.slice av xs.length cv) h) := by have := paq_row u.pp.pu; rw [ev] at this; exact this
  have HX : Hid (CelsAt w av xs) := hatv
  have HPM : Hid (PayM NP w P 4 ps ks) := u.pp.ls.payM (by have := hlk.len; omega) (by omega)
  have HOV : Hid (∀ x ∈ ownZ (keysZ xs s g) (coinsC xs), 0 ≤ x.val ∧ x.val ≤ 1099511627776) := own_vals xs s g hV
  have HOL : Hid ((ownZ (keysZ xs s g) (coinsC xs)).length ≤ 5000) := by show _ ≤ _; have := Nat.le_trans (ownZ_len (keysZ xs s g) (coinsC xs)) (coinsC_len xs); omega
  clear u hlk hV hatv ev
  go_enter Try.func16, Try.ntmps16
  go_wp2_with fail
  refine (pCoins4 P s g av xs.length cv h xs _ hs hg hg2 HR.out HX.out rfl (by omega)).mono ?_
  rintro e w1 ⟨v1, rfl, hown, hb1⟩
  have HU1 : Hid (Bk NP ND w1 B P s g v h xs vl vs md nx ps ks vd ds) := HU.out.grown hb1
  have HR1 : Hid (PRow4 w1 P s g (.slice av xs.length cv) h) := VRow.grown HR.out hb1
  have HX1 : Hid (CelsAt w1 av xs) := HX.out.grown hb1
  have HPM1 : Hid (PayM NP w1 P 4 ps ks) := HPM.out.grown hb1
  obtain ⟨al, cl, rfl, hat⟩ := OwnRec.at coin6 hown
  have HAT1 : Hid (RecAt CoinD.l w1 al (ownZ (keysZ xs s g) (coinsC xs))) := hat
  clear hown hat b0 HU HR HX HPM
  have b0 := HU1.out.b0
  go_wp2_with fail
  refine (pBalance4 NP ps ks P s g av xs.length cv h xs _ hs hg hg2 HR1.out HPM1.out HX1.out rfl (by omega) HOV.out).mono ?_
  rintro e w2 ⟨rfl, hb2⟩
  have HU2 : Hid (Bk NP ND w2 B P s g v h xs vl vs md nx ps ks vd ds) := HU1.out.grown hb2
  have HAT2 : Hid (RecAt CoinD.l w2 al (ownZ (keysZ xs s g) (coinsC xs))) := HAT1.out.grown hb2
  have hb02 := below_blk hb1 hb2
  clear b0 HU1 HR1 HX1 HPM1 HAT1 hb1 hb2
  generalize ownZ (keysZ xs s g) (coinsC xs) = cs at *
  generalize hcn : cs.length = n at *
  have HN : Hid (cs.length = n) := hcn
  have hn5 : n ≤ 5000 := HOL.out
  clear hcn
  generalize hF : sumC (cs.filter (freeB ps ks)) = fr at *
  have HFR : Hid (sumC (cs.filter (freeB ps ks)) = fr) := hF
  clear hF
  generalize hA : sumC cs = al2 at *
  have HAL : Hid (sumC cs = al2) := hA
  clear hA
  obtain ⟨ad, cd, ed, hatd⟩ := OwnRec.at deed11 HU2.out.od
  subst ed
  have HB2 : Hid (w2.cell? ⟨B, 2, none⟩ = some (.slice ad ds.length cd)) := HU2.out.b2
  have HDA : Hid (RecAt DeedD.v w2 ad ds) := hatd
  have HDO : Hid (∀ d ∈ ds, DeedOk ND w2 d) := HU2.out.ok
  clear hatd HU2
  go_wp2
  go_loopw [6, 7] (fun v i wr => ∃ (k : Nat) (T : Int), k ≤ n ∧ i = .int .i64 k ∧ v = .int .i64 T ∧ Hid (sumC ((cs.take k).filter (freeB ps ks)) = T) ∧ Below w2.heap.size w2 wr) (fun _ i _ => n - (intOf i).toNat)
  case atStart => exact ⟨0, 0, Nat.zero_le _, rfl, rfl, rfl, Below.refl _ _⟩
  case round =>
    obtain ⟨k, T, hk, rfl, rfl, hT, hbl⟩ := hrel
    by_cases hlt : k < n
    · have hkl : k < cs.length := by rw [HN.out]; exact hlt
      rcases HAT2.out.grown hbl with hnil | ⟨gg, off, rfl, hrow⟩
      · rw [hnil] at hkl; simp at hkl
      obtain ⟨c0, c1, c2, c3, c4, c5⟩ := coinCells hrow k hkl
      have HS : Hid _ := sumF_snoc (freeB ps ks) cs k hkl
      have hSb := sum_bd CoinD.val 1099511627776 ((cs.take k).filter (freeB ps ks)) (fun x hx => HOV.out x (List.mem_of_mem_take (List.mem_filter.1 hx).1))
      have hyb := HOV.out (cs.getD k dN) (getD_mem cs dN k hkl)
      have hl2 : ((cs.take k).filter (freeB ps ks)).length ≤ 5000 := Nat.le_trans (List.length_filter_le _ _) (by rw [List.length_take]; omega)
      have hT2 : 0 ≤ T ∧ T ≤ 5500000000000000 := by have := hT.out; unfold sumC at this; omega
      have HFE : Hid (freeB ps ks (cs.getD k dN) = (!takenD ds (cs.getD k dN).id (cs.getD k dN).pos && !sealD ds (cs.getD k dN).br (cs.getD k dN).ix)) := HLK.out.free _
      clear hrow hSb hl2
      generalize cs.getD k dN = y at *
      obtain ⟨y0, y1, y2, yval, y4, y5⟩ := y
      simp only at c0 c1 c2 c3 c4 c5 hyb HFE HS
      have hkI : (k : Int) < (n : Int) := by omega
      have hk0 : (0 : Int) ≤ (k : Int) := by omega
      have bD : Below wr.heap.size wr wr.drew := (Below.refl _ _).drew
      have hb2d : Below w2.heap.size w2 wr.drew := below_blk hbl bD
      have HBd : Hid (wr.drew.cell? ⟨B, 2, none⟩ = some (.slice ad ds.length cd)) := (hb2d.cell (p := ⟨B, 2, none⟩) (cell_lt HB2.out)).trans HB2.out
      have HDd : Hid (RecAt DeedD.v wr.drew ad ds) := HDA.out.grown hb2d
      have HOd : Hid (∀ d ∈ ds, DeedOk ND wr.drew d) := fun d hd => (HDO.out d hd).grown hb2d
      have HKX : Hid (wr.cell? ⟨gg, off + k * 6, none⟩ = some (.int .i64 y0) ∧ wr.cell? ⟨gg, off + k * 6 + 1, none⟩ = some (.int .i64 y1)) := ⟨c0, c1⟩
      have HC45 : Hid (wr.cell? ⟨gg, off + k * 6 + 3, none⟩ = some (.int .i64 yval) ∧ wr.cell? ⟨gg, off + k * 6 + 4, none⟩ = some (.int .i64 y4) ∧ wr.cell? ⟨gg, off + k * 6 + 5, none⟩ = some (.int .i64 y5)) := ⟨c3, c4, c5⟩
      go_upto_region 7 with fail
      go_region_held3 (fun w' => w'.cell? ⟨gg, off + k * 6, none⟩ = some (.int .i64 y0) ∧ w'.cell? ⟨gg, off + k * 6 + 1, none⟩ = some (.int .i64 y1)) (first | go_keep | with_reducible exact HKX.out | exact keepB2' hb3 HKX.out) ((go_at_call 33; (with_reducible refine (bTaken_any ND B ad ds.length cd ds y0 y1 wr.drew HBd.out HDd.out rfl (by omega) HOd.out).mono ?_); rintro e w3 ⟨rfl, hb3⟩))
      have b3 : Below wr.heap.size wr w3 := bD.trans hb3
      have hb23 : Below w2.heap.size w2 w3 := below_blk hbl b3
      obtain ⟨e3, e4, e5⟩ := keepB3 b3 HC45.out
      have HC3 : Hid (w3.cell? ⟨gg, off + k * 6 + 3, none⟩ = some (.int .i64 yval)) := e3
      have HKY : Hid (w3.cell? ⟨gg, off + k * 6 + 4, none⟩ = some (.int .i64 y4) ∧ w3.cell? ⟨gg, off + k * 6 + 5, none⟩ = some (.int .i64 y5)) := ⟨e4, e5⟩
      clear bD hb2d HBd HDd HOd HKX HC45 c0 c1 c2 c3 c4 c5 hb3 b3
      have bD : Below w3.heap.size w3 w3.drew := (Below.refl _ _).drew
      have hb2d : Below w2.heap.size w2 w3.drew := below_blk hb23 bD
      have HBd : Hid (w3.drew.cell? ⟨B, 2, none⟩ = some (.slice ad ds.length cd)) := (hb2d.cell (p := ⟨B, 2, none⟩) (cell_lt HB2.out)).trans HB2.out
      have HDd : Hid (RecAt DeedD.v w3.drew ad ds) := HDA.out.grown hb2d
      have HOd : Hid (∀ d ∈ ds, DeedOk ND w3.drew d) := fun d hd => (HDO.out d hd).grown hb2d
      go_upto_region 8 with fail
      go_region_held3 (fun w' => w'.cell? ⟨gg, off + k * 6 + 4, none⟩ = some (.int .i64 y4) ∧ w'.cell? ⟨gg, off + k * 6 + 5, none⟩ = some (.int .i64 y5)) (first | go_keep | with_reducible exact HKY.out | exact keepB2' hb4 HKY.out) ((go_at_call 34; (with_reducible refine (bSealed_any ND B ad ds.length cd ds y4 y5 w3.drew HBd.out HDd.out rfl (by omega) HOd.out).mono ?_); rintro e w4 ⟨rfl, hb4⟩))
      have b4 : Below w3.heap.size w3 w4 := bD.trans hb4
      have hb24 : Below w2.heap.size w2 w4 := below_blk hb23 b4
      have f3 := (b4.cell (p := ⟨gg, off + k * 6 + 3, none⟩) (cell_lt HC3.out)).trans HC3.out
      have hw1 : IntKind.i64.wrap (T + yval) = T + yval := IntWalk.i64_in _ ⟨by omega, by omega⟩
      clear bD hb2d HBd HDd HOd HKY HC3 hb4 b4 e3 e4 e5
      generalize takenD ds y0 y1 = tk at *
      generalize sealD ds y4 y5 = sl at *
      cases tk
      · cases sl
        · have HT3 : Hid (sumC ((cs.take (k + 1)).filter (freeB ps ks)) = T + yval) := by show _ = _; rw [HS.out, HFE.out, hT.out]; rfl
          go_wp2
          go_roundw
          case rel => exact ⟨k + 1, T + yval, by omega, by go_num, rfl, HT3.out, hb24⟩
          case measure => simp [intOf]; omega
        · have HT3 : Hid (sumC ((cs.take (k + 1)).filter (freeB ps ks)) = T) := by show _ = _; rw [HS.out, HFE.out, hT.out]; simp
          go_wp2
          go_roundw
          case rel => exact ⟨k + 1, T, by omega, by go_num, rfl, HT3.out, hb24⟩
          case measure => simp [intOf]; omega
      · have HT3 : Hid (sumC ((cs.take (k + 1)).filter (freeB ps ks)) = T) := by show _ = _; rw [HS.out, HFE.out, hT.out]; simp
        go_wp2
        go_roundw
        case rel => exact ⟨k + 1, T, by omega, by go_num, rfl, HT3.out, hb24⟩
        case measure => simp [intOf]; omega
    · have HTe : Hid (fr = T) := by show _ = _; rw [← hT.out, ← HFR.out, List.take_of_length_le (by rw [HN.out]; omega)]
      have HATr : Hid (RecAt CoinD.l wr al cs) := HAT2.out.grown hbl
      have hkI : ¬ (k : Int) < (n : Int) := by omega
      go_wp2_with fail
      refine (kSum_any al n cl cs _ HATr.out HN.out (by omega) HOV.out).mono ?_
      rw [HAL.out]
      rintro e w5 ⟨rfl, hb5⟩
      have hte := HTe.out
      subst hte
      have HBF : Hid (Below w.heap.size w w5) := below_blk (below_blk hb02 hbl) hb5
      clear hb5
      go_wp2
      go_ret
      exact ⟨rfl, HBF.out⟩
end Go.Proofs.Ytffgpepngcnjeab

namespace Go.Proofs.Ytffgpepngcnjeab
open Go.RowKit
set_option maxRecDepth 100000 in
set_option maxHeartbeats 4000000 in
theorem apart_any (ND : Nat → Prop) (B : Nat) (ad : Option Addr) (cd : Nat) (ds : List DeedD) (n0 t ch : Int) (ai : Option Addr) (n ci : Nat) (ap : Option Addr) (np cp : Nat) (ak : Option Addr) (ck : Nat) (L : List CoinD) (al : Option Addr) (nl cl : Nat) (own : List CoinD) (w : World) (b2 : w.cell? ⟨B, 2, none⟩ = some (.slice ad ds.length cd)) (hda : RecAt DeedD.v w ad ds) (hdo : ∀ d ∈ ds, DeedOk ND w d) (hdl : ds.length ≤ 1000000000)
    (hi : RecAt inC w ai L) (hk : RecAt kC w ak L) (hn : L.length = n) (h0 : 0 < n) (h10 : n ≤ 10) (hl : RecAt CoinD.l w al own) (hln : own.length = nl) (hlm : nl ≤ 5000) (hf : ∀ y ∈ L, y ∈ own ∧ takenD ds y.id y.pos = false ∧ sealD ds y.br y.ix = false) (hu : ∀ x ∈ own, ∀ y ∈ own, x.id = y.id → x.pos = y.pos → x = y) (hd : L.Pairwise fun a b => ¬ (a.id = b.id ∧ a.pos = b.pos)) :
    Calls Try.prog 37 #[.pointer (some ⟨B, 0, none⟩), .agg #[.int .i64 n0, .int .i64 t, .slice ai n ci, .slice ap np cp, .slice ak n ck, .int .i64 ch], .slice al nl cl] w fun e w' => e = .returned (.bool true) ∧ Below w.heap.size w w' := by
  have hbA : Below w.heap.size w (w.alloc (.cells #[.int .i64 n0, .int .i64 t, .slice ai n ci, .slice ap np cp, .slice ak n ck, .int .i64 ch] 34)) := (Below.refl _ _).alloc (Nat.le_refl _) _
  have HV : Hid (VB (w.alloc (.cells #[.int .i64 n0, .int .i64 t, .slice ai n ci, .slice ap np cp, .slice ak n ck, .int .i64 ch] 34)) w.heap.size (.int .i64 n0) (.int .i64 t) (.slice ai n ci) (.slice ap np cp) (.slice ak n ck) (.int .i64 ch)) := VB.new w _ _ _ _ _ _ 34
  have HB2 : Hid ((w.alloc (.cells #[.int .i64 n0, .int .i64 t, .slice ai n ci, .slice ap np cp, .slice ak n ck, .int .i64 ch] 34)).cell? ⟨B, 2, none⟩ = some (.slice ad ds.length cd)) := (hbA.cell (p := ⟨B, 2, none⟩) (cell_lt b2)).trans b2
  have HDA : Hid (RecAt DeedD.v (w.alloc (.cells #[.int .i64 n0, .int .i64 t, .slice ai n ci, .slice ap np cp, .slice ak n ck, .int .i64 ch] 34)) ad ds) := hda.grown hbA
  have HDO : Hid (∀ d ∈ ds, DeedOk ND (w.alloc (.cells #[.int .i64 n0, .int .i64 t, .slice ai n ci, .slice ap np cp, .slice ak n ck, .int .i64 ch] 34)) d) := fun d hd => (hdo d hd).grown hbA
  have HI0 : Hid (RecAt inC (w.alloc (.cells #[.int .i64 n0, .int .i64 t, .slice ai n ci, .slice ap np cp, .slice ak n ck, .int .i64 ch] 34)) ai L) := hi.grown hbA
  have HK0 : Hid (RecAt kC (w.alloc (.cells #[.int .i64 n0, .int .i64 t, .slice ai n ci, .slice ap np cp, .slice ak n ck, .int .i64 ch] 34)) ak L) := hk.grown hbA
  have HL0 : Hid (RecAt CoinD.l (w.alloc (.cells #[.int .i64 n0, .int .i64 t, .slice ai n ci, .slice ap np cp, .slice ak n ck, .int .i64 ch] 34)) al own) := hl.grown hbA
  have HN : Hid (L.length = n) := hn
  have HLN : Hid (own.length = nl) := hln
  have HF : Hid (∀ y ∈ L, y ∈ own ∧ takenD ds y.id y.pos = false ∧ sealD ds y.br y.ix = false) := hf
  have HUQ : Hid (∀ x ∈ own, ∀ y ∈ own, x.id = y.id → x.pos = y.pos → x = y) := hu
  have HD : Hid (L.Pairwise fun a b => ¬ (a.id = b.id ∧ a.pos = b.pos)) := hd
  have HBA : Hid (Below w.heap.size w (w.alloc (.cells #[.int .i64 n0, .int .i64 t, .slice ai n ci, .slice ap np cp, .slice ak n ck, .int .i64 ch] 34))) := hbA
  clear b2 hda hdo hi hk hl hn hln hf hu hd hbA
  have hn1 : ¬ ((n : Int) = 0) := by omega
  go_enter Try.func37, Try.ntmps37
  go_upto_region 1 with fail
  generalize w.alloc (.cells #[.int .i64 n0, .int .i64 t, .slice ai n ci, .slice ap np cp, .slice ak n ck, .int .i64 ch] 34) = w0 at *
  generalize hX : w.heap.size = X at *
  have HXe : Hid (w.heap.size = X) := hX
  clear hX
  obtain ⟨b0, b1, b2, b3, b4, b5, _⟩ := HV.out
  have HVS : Hid (w0.cell? ⟨X, 2, none⟩ = some (.slice ai n ci) ∧ w0.cell? ⟨X, 4, none⟩ = some (.slice ak n ck)) := ⟨b2, b4⟩
  have hX0 : X < w0.heap.size := cell_lt b2
  go_wp2
  clear b0 b1 b2 b3 b4 b5 HV
  have hn2 : ((n : Int) == 0) = false := by simpa using hn1
  rw [hn2]
  clear hn2
  go_loopw [7] (fun i wr => ∃ (k : Nat), k ≤ n ∧ i = .int .i64 k ∧ Below w0.heap.size w0 wr) (fun i _ => n - (intOf i).toNat)
  case atStart => exact ⟨0, Nat.zero_le _, rfl, Below.refl _ _⟩
  case round =>
    obtain ⟨k, hk, rfl, hbl⟩ := hrel
    have hsz := hbl.size
    have b2 := (hbl.cell (p := ⟨X, 2, none⟩) hX0).trans HVS.out.1
    have b4 := (hbl.cell (p := ⟨X, 4, none⟩) hX0).trans HVS.out.2
    by_cases hlt : k < n
    · have hkl : k < L.length := by rw [HN.out]; exact hlt
      rcases HI0.out.grown hbl with hnil | ⟨gi, oi, rfl, hri⟩
      · rw [hnil] at hkl; simp at hkl
      rcases HK0.out.grown hbl with hnil | ⟨gk, ok, rfl, hrk⟩
      · rw [hnil] at hkl; simp at hkl
      have i0 : wr.cell? ⟨gi, oi + k * 3, none⟩ = some (.int .i64 (L.getD k dN).id) := rcell inC3 dN hri k hkl 0 (by omega)
      have i1 : wr.cell? ⟨gi, oi + k * 3 + 1, none⟩ = some (.int .i64 (L.getD k dN).pos) := rcell inC3 dN hri k hkl 1 (by omega)
      have i2 : wr.cell? ⟨gi, oi + k * 3 + 2, none⟩ = some (.slice none 0 0) := rcell inC3 dN hri k hkl 2 (by omega)
      have k0 : wr.cell? ⟨gk, ok + k * 2, none⟩ = some (.int .i64 (L.getD k dN).br) := rcell kC2 dN hrk k hkl 0 (by omega)
      have k1 : wr.cell? ⟨gk, ok + k * 2 + 1, none⟩ = some (.int .i64 (L.getD k dN).ix) := rcell kC2 dN hrk k hkl 1 (by omega)
      have HRI : Hid (VRow wr gi oi (L.flatMap inC)) := hri
      obtain ⟨hyo, hyt, hys⟩ := HF.out _ (getD_mem L dN k hkl)
      have HYO : Hid (L.getD k dN ∈ own) := hyo
      have HDJ : Hid (∀ j, j < k → ¬ ((L.getD j dN).id = (L.getD k dN).id ∧ (L.getD j dN).pos = (L.getD k dN).pos)) := fun j hj => by
        have := List.pairwise_iff_getElem.1 HD.out j k (by omega) hkl hj
        simpa [List.getD, hkl, show j < L.length by omega] using this
      clear hri hrk hyo
      generalize L.getD k dN = y at *
      obtain ⟨y0, y1, y2, yv, y4, y5⟩ := y
      simp only at i0 i1 i2 k0 k1 hyt hys
      have hkI : (k : Int) < (n : Int) := by omega
      have hk0 : (0 : Int) ≤ (k : Int) := by omega
      have bA : Below wr.heap.size wr (wr.alloc (.cells #[.int .i64 y0, .int .i64 y1, .slice none 0 0] 85)) := (Below.refl _ _).alloc (Nat.le_refl _) _
      have x0 : (wr.alloc (.cells #[.int .i64 y0, .int .i64 y1, .slice none 0 0] 85)).cell? ⟨wr.heap.size, 0, none⟩ = some (.int .i64 y0) := by go_simp
      have x1 : (wr.alloc (.cells #[.int .i64 y0, .int .i64 y1, .slice none 0 0] 85)).cell? ⟨wr.heap.size, 1, none⟩ = some (.int .i64 y1) := by go_simp
      have HKB : Hid (wr.cell? ⟨X, 2, none⟩ = some (.slice (some ⟨gi, oi, none⟩) n ci) ∧ wr.cell? ⟨X, 4, none⟩ = some (.slice (some ⟨gk, ok, none⟩) n ck) ∧ wr.cell? ⟨gk, ok + k * 2, none⟩ = some (.int .i64 y4) ∧ wr.cell? ⟨gk, ok + k * 2 + 1, none⟩ = some (.int .i64 y5)) := ⟨b2, b4, k0, k1⟩
      go_upto_region 7 with fail
      have HKB1 : Hid _ := keepB4 bA HKB.out
      have hb1 : Below w0.heap.size w0 (wr.alloc (.cells #[.int .i64 y0, .int .i64 y1, .slice none 0 0] 85)) := below_blk hbl bA
      have HRI1 : Hid (VRow (wr.alloc (.cells #[.int .i64 y0, .int .i64 y1, .slice none 0 0] 85)) gi oi (L.flatMap inC)) := HRI.out.grown bA
      clear bA HKB b2 b4 k0 k1 i0 i1 i2 hbl HRI
      generalize wr.alloc (.cells #[.int .i64 y0, .int .i64 y1, .slice none 0 0] 85) = w1 at *
      generalize wr.heap.size = Z at *
      have HB1 : Hid (w1.cell? ⟨B, 2, none⟩ = some (.slice ad ds.length cd)) := (hb1.cell (p := ⟨B, 2, none⟩) (cell_lt HB2.out)).trans HB2.out
      have HDA1 : Hid (RecAt DeedD.v w1 ad ds) := HDA.out.grown hb1
      have HDO1 : Hid (∀ d ∈ ds, DeedOk ND w1 d) := fun d hd => (HDO.out d hd).grown hb1
      go_wp2_with fail
      refine (bTaken_any ND B ad ds.length cd ds y0 y1 _ HB1.out HDA1.out rfl (by omega) HDO1.out).mono ?_
      rw [hyt]
      rintro e w2 ⟨rfl, hb2⟩
      have HKB2 : Hid _ := keepB4 hb2 HKB1.out
      have HX2 : Hid (w2.cell? ⟨Z, 0, none⟩ = some (.int .i64 y0) ∧ w2.cell? ⟨Z, 1, none⟩ = some (.int .i64 y1)) := ⟨(hb2.cell (p := ⟨Z, 0, none⟩) (cell_lt x0)).trans x0, (hb2.cell (p := ⟨Z, 1, none⟩) (cell_lt x1)).trans x1⟩
      have HRI2 : Hid (VRow w2 gi oi (L.flatMap inC)) := HRI1.out.grown hb2
      have hb02 := below_blk hb1 hb2
      clear hb1 hb2 HKB1 x0 x1 HRI1 HB1 HDA1 HDO1
      obtain ⟨q2, q4, j0, j1⟩ := HKB2.out
      have HB1 : Hid (w2.cell? ⟨B, 2, none⟩ = some (.slice ad ds.length cd)) := (hb02.cell (p := ⟨B, 2, none⟩) (cell_lt HB2.out)).trans HB2.out
      have HDA1 : Hid (RecAt DeedD.v w2 ad ds) := HDA.out.grown hb02
      have HDO1 : Hid (∀ d ∈ ds, DeedOk ND w2 d) := fun d hd => (HDO.out d hd).grown hb02
      go_wp2_with fail
      refine (bSealed_any ND B ad ds.length cd ds y4 y5 _ HB1.out HDA1.out rfl (by omega) HDO1.out).mono ?_
      rw [hys]
      rintro e w3 ⟨rfl, hb3⟩
      have HKB3 : Hid _ := keepB4 hb3 HKB2.out
      have HX3 : Hid (w3.cell? ⟨Z, 0, none⟩ = some (.int .i64 y0) ∧ w3.cell? ⟨Z, 1, none⟩ = some (.int .i64 y1)) := keepB2' hb3 HX2.out
      have HRI3 : Hid (VRow w3 gi oi (L.flatMap inC)) := HRI2.out.grown hb3
      have hb03 := below_blk hb02 hb3
      have HL3 : Hid (RecAt CoinD.l w3 al own) := HL0.out.grown hb03
      clear hb02 hb3 HKB2 HX2 HRI2 HB1 HDA1 HDO1 q2 q4 j0 j1
      go_wp2
      go_loopw [11, 12] (fun o i wr => ∃ (j : Nat), j ≤ nl ∧ i = .int .i64 j ∧ o = .bool ((own.take j).any fun c => c.id == y0 && c.pos == y1) ∧ Below w3.heap.size w3 wr) (fun _ i _ => nl - (intOf i).toNat)
      case atStart => exact ⟨0, Nat.zero_le _, rfl, by simp, Below.refl _ _⟩
      case round =>
        obtain ⟨j, hj, rfl, rfl, hbj⟩ := hrel
        obtain ⟨z2, z4, z5, z6⟩ := keepB4 hbj HKB3.out
        obtain ⟨p0, p1⟩ := keepB2' hbj HX3.out
        by_cases hjl : j < nl
        · have hjo : j < own.length := by rw [HLN.out]; exact hjl
          rcases HL3.out.grown hbj with hnil | ⟨gc, oc, rfl, hrow⟩
          · rw [hnil] at hjo; simp at hjo
          obtain ⟨c0, c1, c2, c3, c4, c5⟩ := coinCells hrow j hjo
          have HNX : Hid ((own.take (j + 1)).any (fun c => c.id == y0 && c.pos == y1) = ((own.take j).any (fun c => c.id == y0 && c.pos == y1) || ((own.getD j dN).id == y0 && (own.getD j dN).pos == y1))) := by
            show _ = _
            have e : own.getD j dN = own[j] := by simp [List.getD, hjo]
            rw [List.take_succ_eq_append_getElem hjo, List.any_append, e]
            simp
          have hsame : (own.getD j dN).id = y0 → (own.getD j dN).pos = y1 → (own.getD j dN).br = y4 ∧ (own.getD j dN).ix = y5 := fun e1 e2 => by
            have := HUQ.out _ (getD_mem own dN j hjo) _ HYO.out e1 e2
            rw [this]
            exact ⟨rfl, rfl⟩
          clear hrow c2 c3
          generalize own.getD j dN = u at *
          obtain ⟨u0, u1, u2, u3, u4, u5⟩ := u
          simp only at c0 c1 c4 c5 hsame HNX
          generalize ((own.take j).any fun c => c.id == y0 && c.pos == y1) = bb at *
          have hjI : (j : Int) < (nl : Int) := by omega
          have hj0 : (0 : Int) ≤ (j : Int) := by omega
          cases h1 : (u0 == y0)
          · clear hsame
            go_wp2
            go_quiet (fail)
            go_wp2
            go_roundw
            case rel => exact ⟨j + 1, by omega, by go_num, by rw [HNX.out, h1]; simp, below_drewN hbj _⟩
            case measure => simp [intOf]; omega
          · cases h2 : (u1 == y1)
            · clear hsame
              go_wp2
              go_quiet (fail)
              go_wp2
              go_roundw
              case rel => exact ⟨j + 1, by omega, by go_num, by rw [HNX.out, h2]; simp, below_drewN hbj _⟩
              case measure => simp [intOf]; omega
            · obtain ⟨rfl, rfl⟩ := hsame (by simpa using h1) (by simpa using h2)
              have h3 : (u4 == u4) = true := by simp
              have h4 : (u5 == u5) = true := by simp
              have HBQ : Hid (∀ nq, Below w3.heap.size w3 (wr.drewN nq)) := fun nq => below_drewN hbj nq
              go_wp2
              go_quiet (fail)
              have HBQ2 : Hid (∀ nq', Below w3.heap.size w3 ((wr.drewN nq).drewN nq')) := fun nq' => below_drewN (HBQ.out nq) nq'
              go_wp2
              go_quiet (fail)
              go_wp2
              go_roundw
              case rel => exact ⟨j + 1, by omega, by go_num, by rw [HNX.out, h1, h2]; simp, by first | exact HBQ2.out _ | exact HBQ.out _⟩
              case measure => simp [intOf]; omega
        · have HAL : Hid (((own.take j).any fun c => c.id == y0 && c.pos == y1) = true) := by
            show _ = _
            rw [List.take_of_length_le (by rw [HLN.out]; omega), List.any_eq_true]
            exact ⟨_, HYO.out, by simp⟩
          have hall := HAL.out
          have hjI : ¬ (j : Int) < (nl : Int) := by omega
          rw [hall]
          have HZS : Hid (wr.cell? ⟨Z, 0, none⟩ = some (.int .i64 y0) ∧ wr.cell? ⟨Z, 1, none⟩ = some (.int .i64 y1) ∧ wr.cell? ⟨X, 2, none⟩ = some (.slice (some ⟨gi, oi, none⟩) n ci)) := ⟨p0, p1, z2⟩
          have HRI4 : Hid (VRow wr gi oi (L.flatMap inC)) := HRI3.out.grown hbj
          have hb04 := below_blk hb03 hbj
          clear z2 z4 z5 z6 p0 p1
          go_wp2
          obtain ⟨wi, rfl⟩ : ∃ wi : World, wi = wr := ⟨_, rfl⟩
          go_loopw [13] (fun i wr => ∃ (q : Nat), q ≤ k ∧ i = .int .i64 q ∧ Below wi.heap.size wi wr) (fun i _ => k - (intOf i).toNat)
          case atStart => exact ⟨0, Nat.zero_le _, rfl, Below.refl _ _⟩
          case round =>
            obtain ⟨q, hq, rfl, hbq⟩ := hrel
            by_cases hqk : q < k
            · have hql : q < L.length := by omega
              have hri := HRI4.out.grown hbq
              have a0 : wr.cell? ⟨gi, oi + q * 3, none⟩ = some (.int .i64 (L.getD q dN).id) := rcell inC3 dN hri q hql 0 (by omega)
              have a1 : wr.cell? ⟨gi, oi + q * 3 + 1, none⟩ = some (.int .i64 (L.getD q dN).pos) := rcell inC3 dN hri q hql 1 (by omega)
              obtain ⟨z0, z1, p2⟩ := keepB3 hbq HZS.out
              have hne := HDJ.out q hqk
              clear hri
              generalize (L.getD q dN).id = u0 at *
              generalize (L.getD q dN).pos = u1 at *
              have hqI : (q : Int) < (n : Int) := by omega
              have hq0 : (0 : Int) ≤ (q : Int) := by omega
              have hqkI : (q : Int) < (k : Int) := by omega
              cases h0 : (u0 == y0)
              · go_wp2
                go_quiet (fail)
                go_wp2
                go_roundw
                case rel => exact ⟨q + 1, by omega, by go_num, below_drewN hbq _⟩
                case measure => simp [intOf]; omega
              · have h1 : (u1 == y1) = false := by
                  cases h : (u1 == y1)
                  · rfl
                  · exact absurd ⟨by simpa using h0, by simpa using h⟩ hne
                go_wp2
                go_quiet (fail)
                go_wp2
                go_roundw
                case rel => exact ⟨q + 1, by omega, by go_num, below_drewN hbq _⟩
                case measure => simp [intOf]; omega
            · have hqkI : ¬ (q : Int) < (k : Int) := by omega
              have hb05 := below_blk hb04 hbq
              go_wp2
              go_roundw
              case rel => exact ⟨k + 1, by omega, by go_num, hb05⟩
              case measure => simp [intOf]; omega
    · have hb05 : Below X w wr := HBA.out.trans (hbl.mono (by omega))
      go_wp2
      go_ret
      exact ⟨rfl, by rw [HXe.out]; exact hb05⟩
end Go.Proofs.Ytffgpepngcnjeab

namespace Go.Proofs.Ytffgpepngcnjeab
open Go.RowKit
/-- the block XB holds a transaction's three cells and may be written -/
structure Tx3 (w : World) (XB : Nat) (a b c : Value) : Prop where
  c0 : w.cell? ⟨XB, 0, none⟩ = some a
  c1 : w.cell? ⟨XB, 1, none⟩ = some b
  c2 : w.cell? ⟨XB, 2, none⟩ = some c
  f0 : w.frozen? ⟨XB, 0, none⟩ = false
  f1 : w.frozen? ⟨XB, 1, none⟩ = false
  f2 : w.frozen? ⟨XB, 2, none⟩ = false
theorem Tx3.gb {w w' : World} {row : Option Nat} (h : w.grownBy w' row) {XB : Nat} {a b c : Value} (hx : Tx3 w XB a b c) (hne : some XB ≠ row) : Tx3 w' XB a b c := by
  have hlt := cell_lt hx.c0
  exact ⟨gb_cell h hx.c0 hne, gb_cell h hx.c1 hne, gb_cell h hx.c2 hne, (gb_frozen h hlt hne).trans hx.f0, (gb_frozen h hlt hne).trans hx.f1, (gb_frozen h hlt hne).trans hx.f2⟩
theorem Tx3.grown {w w' : World} (h : Below w.heap.size w w') {XB : Nat} {a b c : Value} (hx : Tx3 w XB a b c) : Tx3 w' XB a b c := hx.gb (gb_below h Option.none) (by simp)
theorem Tx3.new (w : World) (a b c : Value) (T : TypeId) : Tx3 (w.alloc (.cells #[a, b, c] T)) w.heap.size a b c := by
  refine ⟨?_, ?_, ?_, World.frozen?_alloc_at _ _ _ _ rfl, World.frozen?_alloc_at _ _ _ _ rfl, World.frozen?_alloc_at _ _ _ _ rfl⟩
  all_goals
    rw [World.cell?_alloc_new]
    rfl
theorem ne_off {b i j : Nat} (h : i ≠ j) : (⟨b, i, none⟩ : Addr) ≠ ⟨b, j, none⟩ := fun e => h (congrArg Addr.off e)
theorem Tx3.set1 {w : World} {XB : Nat} {a b c : Value} (h : Tx3 w XB a b c) (v : Value) : Tx3 (w.setCell ⟨XB, 1, none⟩ v) XB a v c :=
  ⟨by rw [World.cell?_setCell_other _ _ _ _ (ne_off (by decide))]; exact h.c0, World.cell?_setCell_same _ _ _ h.c1, by rw [World.cell?_setCell_other _ _ _ _ (ne_off (by decide))]; exact h.c2,
    by rw [World.frozen?_setCell]; exact h.f0, by rw [World.frozen?_setCell]; exact h.f1, by rw [World.frozen?_setCell]; exact h.f2⟩
theorem Tx3.set2 {w : World} {XB : Nat} {a b c : Value} (h : Tx3 w XB a b c) (v : Value) : Tx3 (w.setCell ⟨XB, 2, none⟩ v) XB a b v :=
  ⟨by rw [World.cell?_setCell_other _ _ _ _ (ne_off (by decide))]; exact h.c0, by rw [World.cell?_setCell_other _ _ _ _ (ne_off (by decide))]; exact h.c1, World.cell?_setCell_same _ _ _ h.c2,
    by rw [World.frozen?_setCell]; exact h.f0, by rw [World.frozen?_setCell]; exact h.f1, by rw [World.frozen?_setCell]; exact h.f2⟩
/-- the seals of the inputs: readable, of the call's own, not in the row of the inputs -/
def Seals (w : World) (base : Nat) (row : Option Nat) (Q : Nat → InD → Prop) (xs : List InD) : Prop :=
  ∀ j, j < xs.length → InOk w (xs.getD j dIn) ∧ Q j (xs.getD j dIn) ∧ ∀ a, (xs.getD j dIn).ao = some a → base ≤ a.block ∧ a.block < w.heap.size ∧ some a.block ≠ row
theorem Seals.gb {w w' : World} {row' : Option Nat} (h : w.grownBy w' row') {base : Nat} {row : Option Nat} {Q : Nat → InD → Prop} {xs : List InD} (hs : Seals w base row Q xs) (hne : ∀ k, row' = some k → k < base ∨ row = some k) : Seals w' base row Q xs := by
  intro j hj
  obtain ⟨h1, h2, h3⟩ := hs j hj
  refine ⟨gb_ok h h1 (fun a ha e => ?_), h2, fun a ha => ⟨(h3 a ha).1, Nat.lt_of_lt_of_le (h3 a ha).2.1 h.size, (h3 a ha).2.2⟩⟩
  rcases hne a.block e.symm with hk | hk
  · have := (h3 a ha).1; omega
  · exact (h3 a ha).2.2 hk.symm
/-- the inputs so far -/
structure SInv (W : World) (XB : Nat) (Q : Nat → InD → Prop) (t : Int) (vi vo : Value) (xs : List InD) (wr : World) : Prop where
  own : OwnIns wr (XB + 1) vi xs
  ok : Seals wr (XB + 1) vi.ownBlock Q xs
  tx : Tx3 wr XB (.int .i64 t) vi vo
  bel : Below XB W wr
  lt : XB < wr.heap.size
theorem SInv.grown {W : World} {XB : Nat} {Q : Nat → InD → Prop} {t : Int} {vi vo : Value} {xs : List InD} {wr ws : World} (h : SInv W XB Q t vi vo xs wr) (hb : Below wr.heap.size wr ws) : SInv W XB Q t vi vo xs ws := by
  have hg := gb_below hb Option.none
  exact ⟨owns_gb hg h.own (fun k _ => by simp), h.ok.gb hg (fun k hk => by cases hk), h.tx.grown hb, h.bel.trans (hb.mono (by have := h.lt; omega)), Nat.lt_of_lt_of_le h.lt hb.size⟩
theorem SInv.push {W : World} {XB : Nat} {Q : Nat → InD → Prop} {t : Int} {vi vo : Value} {xs : List InD} {wr ws w2 : World} {y : InD} {g cap : Nat} (h : SInv W XB Q t vi vo xs wr) (hb : Below wr.heap.size wr ws)
    (hy : InOk ws y) (hq : Q xs.length y) (hyb : ∀ a, y.ao = some a → wr.heap.size ≤ a.block ∧ a.block < ws.heap.size)
    (hown : OwnIns w2 (XB + 1) (.slice (some ⟨g, 0, none⟩) (xs.length + 1) cap) (xs ++ [y])) (hg : ws.grownBy w2 vi.ownBlock) (hlies : vi.ownBlock = some g ∨ ws.heap.size ≤ g) :
    SInv W XB Q t (.slice (some ⟨g, 0, none⟩) (xs.length + 1) cap) vo (xs ++ [y]) (w2.setCell ⟨XB, 1, none⟩ (.slice (some ⟨g, 0, none⟩) (xs.length + 1) cap)) := by
  have hs := h.grown hb
  have hvi := owns_blk h.own
  have hvX : some XB ≠ vi.ownBlock := fun e => by have := (hvi XB e.symm).1; omega
  have hgX : XB + 1 ≤ g := (owns_blk hown g rfl).1
  have hset := gb_set w2 XB 1 (.slice (some ⟨g, 0, none⟩) (xs.length + 1) cap)
  have hvg : ∀ k, vi.ownBlock = some k → XB ≤ k := fun k hk => by have := (hvi k hk).1; omega
  refine ⟨owns_gb hset hown (fun k hk e => ?_), ?_, (hs.tx.gb hg hvX).set1 _, ((hs.bel.trans (gb_to_below hg (by have := hs.lt; omega) hvg)).setCell (Nat.le_refl _) _), ?_⟩
  · simp [Value.ownBlock] at hk
    subst hk
    injection e with e
    omega
  · intro j hj
    rw [List.length_append] at hj
    by_cases hjl : j < xs.length
    · have e : (xs ++ [y]).getD j dIn = xs.getD j dIn := by simp only [List.getD]; rw [List.getElem?_append_left hjl]
      rw [e]
      obtain ⟨h1, h2, h3⟩ := hs.ok j hjl
      have hoff : Off (xs.getD j dIn).ao vi.ownBlock := fun a ha => (h3 a ha).2.2
      have hoff2 : Off (xs.getD j dIn).ao (some XB) := fun a ha e => by injection e with e; have := (h3 a ha).1; omega
      refine ⟨gb_ok hset (gb_ok hg h1 hoff) hoff2, h2, fun a ha => ⟨(h3 a ha).1, ?_, fun e => ?_⟩⟩
      · rw [World.size_setCell]; exact Nat.lt_of_lt_of_le (h3 a ha).2.1 hg.size
      · simp [Value.ownBlock] at e
        rcases hlies with hl | hl
        · exact (h3 a ha).2.2 (by rw [e]; exact hl.symm)
        · have := (h3 a ha).2.1; omega
    · have e : j = xs.length := by simp at hj; omega
      subst e
      have e : (xs ++ [y]).getD xs.length dIn = y := by simp [List.getD]
      rw [e]
      have hoff : Off y.ao vi.ownBlock := fun a ha e => by have := (hvi _ e.symm).2; have := (hyb a ha).1; omega
      have hoff2 : Off y.ao (some XB) := fun a ha e => by injection e with e; have := (hyb a ha).1; have := h.lt; omega
      refine ⟨gb_ok hset (gb_ok hg hy hoff) hoff2, hq, fun a ha => ⟨?_, ?_, fun e => ?_⟩⟩
      · have := (hyb a ha).1; have := h.lt; omega
      · rw [World.size_setCell]; exact Nat.lt_of_lt_of_le (hyb a ha).2 hg.size
      · simp [Value.ownBlock] at e
        rcases hlies with hl | hl
        · have := (hvi g hl).2; have := (hyb a ha).1; omega
        · have := (hyb a ha).2; omega
  · rw [World.size_setCell]; exact Nat.lt_of_lt_of_le hs.lt hg.size
/-- the outputs so far -/
structure OInv (Wm : World) (XB : Nat) (Q : Int × Int → Prop) (t : Int) (vi vo : Value) (ys : List (Int × Int)) (wr : World) : Prop where
  own : OwnOuts wr Wm.heap.size vo ys
  ok : ∀ j, j < ys.length → Q (ys.getD j (0, 0))
  tx : Tx3 wr XB (.int .i64 t) vi vo
  gb : Wm.grownBy wr (some XB)
  lt : XB < Wm.heap.size
theorem OInv.grown {Wm : World} {XB : Nat} {Q : Int × Int → Prop} {t : Int} {vi vo : Value} {ys : List (Int × Int)} {wr ws : World} (h : OInv Wm XB Q t vi vo ys wr) (hb : Below wr.heap.size wr ws) : OInv Wm XB Q t vi vo ys ws :=
  ⟨owns_gb (gb_below hb Option.none) h.own (fun k _ => by simp), h.ok, h.tx.grown hb, gb_trans h.gb (gb_below hb _), h.lt⟩
theorem OInv.push {Wm : World} {XB : Nat} {Q : Int × Int → Prop} {t : Int} {vi vo : Value} {ys : List (Int × Int)} {ws w2 : World} {y : Int × Int} {g cap : Nat} (hs : OInv Wm XB Q t vi vo ys ws) (hq : Q y)
    (hown : OwnOuts w2 Wm.heap.size (.slice (some ⟨g, 0, none⟩) (ys.length + 1) cap) (ys ++ [y])) (hg : ws.grownBy w2 vo.ownBlock) :
    OInv Wm XB Q t vi (.slice (some ⟨g, 0, none⟩) (ys.length + 1) cap) (ys ++ [y]) (w2.setCell ⟨XB, 2, none⟩ (.slice (some ⟨g, 0, none⟩) (ys.length + 1) cap)) := by
  have hvo := owns_blk hs.own
  have hlt := hs.lt
  have hvX : some XB ≠ vo.ownBlock := fun e => by have := (hvo XB e.symm).1; omega
  have hgX : Wm.heap.size ≤ g := (owns_blk hown g rfl).1
  have hset := gb_set w2 XB 2 (.slice (some ⟨g, 0, none⟩) (ys.length + 1) cap)
  have hg2 : Wm.grownBy w2 (some XB) := by
    refine ⟨hg.os.trans hs.gb.os, hg.tape.trans hs.gb.tape, hg.output.trans hs.gb.output, Nat.le_trans hs.gb.size hg.size, fun k hk hne => ?_⟩
    refine (hg.block k (Nat.lt_of_lt_of_le hk hs.gb.size) (fun e => ?_)).trans (hs.gb.block k hk hne)
    have := (hvo k e.symm).1
    omega
  refine ⟨owns_gb hset hown (fun k hk e => ?_), fun j hj => ?_, (hs.tx.gb hg hvX).set2 _, gb_trans hg2 hset, hlt⟩
  · simp [Value.ownBlock] at hk
    subst hk
    injection e with e
    omega
  · rw [List.length_append] at hj
    by_cases hjl : j < ys.length
    · have e : (ys ++ [y]).getD j (0, 0) = ys.getD j (0, 0) := by simp only [List.getD]; rw [List.getElem?_append_left hjl]
      rw [e]
      exact hs.ok j hjl
    · have e : j = ys.length := by simp at hj; omega
      subst e
      have e : (ys ++ [y]).getD ys.length (0, 0) = y := by simp [List.getD]
      rw [e]
      exact hq
/-- a transaction in lists of the call's own -/
structure Fresh (w : World) (base : Nat) (vi vo : Value) (Q : Nat → InD → Prop) (xs : List InD) (ys : List (Int × Int)) : Prop where
  ins : OwnIns w base vi xs
  outs : OwnOuts w base vo ys
  ok : Seals w base vi.ownBlock Q xs
  apart : ∀ k, vo.ownBlock = some k → some k ≠ vi.ownBlock ∧ ∀ j, j < xs.length → Off (xs.getD j dIn).ao (some k)
theorem Fresh.of {W Wm wr : World} {XB : Nat} {Q : Nat → InD → Prop} {P : Int × Int → Prop} {t : Int} {vi vo vo0 : Value} {xs : List InD} {ys : List (Int × Int)} (hs : SInv W XB Q t vi vo0 xs Wm) (ho : OInv Wm XB P t vi vo ys wr) : Fresh wr (XB + 1) vi vo Q xs ys := by
  have hvi := owns_blk hs.own
  have hvo := owns_blk ho.own
  refine ⟨owns_gb ho.gb hs.own (fun k hk e => ?_), ?_, hs.ok.gb ho.gb (fun k hk => ?_), fun k hk => ⟨fun e => ?_, fun j hj a ha e => ?_⟩⟩
  · injection e with e
    have := (hvi k hk).1
    omega
  · obtain ⟨h1, h2 | ⟨g, cap, cur, e, hb, hr⟩⟩ := ho.own
    · exact ⟨h1, Or.inl h2⟩
    · exact ⟨h1, Or.inr ⟨g, cap, cur, e, by have := hs.lt; omega, hr⟩⟩
  · injection hk with hk
    exact Or.inl (by omega)
  · have := (hvo k hk).1
    have := (hvi k e.symm).2
    omega
  · injection e with e
    have := ((hs.ok j hj).2.2 a ha).2.1
    have := (hvo k hk).1
    omega
theorem Fresh.gb {w w' : World} {row : Option Nat} (h : w.grownBy w' row) {base : Nat} {vi vo : Value} {Q : Nat → InD → Prop} {xs : List InD} {ys : List (Int × Int)} (hf : Fresh w base vi vo Q xs ys) (hr : ∀ k, row = some k → k < base) : Fresh w' base vi vo Q xs ys := by
  have hvi := owns_blk hf.ins
  have hvo := owns_blk hf.outs
  exact ⟨owns_gb h hf.ins (fun k hk e => by have := hr k e.symm; have := (hvi k hk).1; omega), owns_gb h hf.outs (fun k hk e => by have := hr k e.symm; have := (hvo k hk).1; omega), hf.ok.gb h (fun k hk => Or.inl (hr k hk)), hf.apart⟩
theorem Fresh.grown {w w' : World} (h : Below w.heap.size w w') {base : Nat} {vi vo : Value} {Q : Nat → InD → Prop} {xs : List InD} {ys : List (Int × Int)} (hf : Fresh w base vi vo Q xs ys) : Fresh w' base vi vo Q xs ys :=
  hf.gb (gb_below h Option.none) (fun k hk => by cases hk)
theorem Fresh.reads {w : World} {base : Nat} {vi vo : Value} {Q : Nat → InD → Prop} {xs : List InD} {ys : List (Int × Int)} (hf : Fresh w base vi vo Q xs ys) :
    ∃ ai c ap d, vi = .slice ai xs.length c ∧ vo = .slice ap ys.length d ∧ InsAt w ai xs ∧ OutsAt w ap ys ∧ (ai = none → c = 0) ∧ (ap = none → d = 0) := by
  obtain ⟨ai, c, e1, h1, n1⟩ : ∃ ai c, vi = .slice ai xs.length c ∧ InsAt w ai xs ∧ (ai = none → c = 0) := by
    rcases hf.ins.cells with ⟨h1, h2⟩ | ⟨g, c, h1, _, _, h4, _⟩
    · subst h2; exact ⟨none, 0, h1, Or.inl rfl, fun _ => rfl⟩
    · exact ⟨_, c, h1, Or.inr ⟨g, 0, rfl, fun j hj => ⟨by rw [Nat.zero_add]; exact h4 j hj, (hf.ok j hj).1⟩⟩, fun h => by cases h⟩
  obtain ⟨ap, d, e2, h2, n2⟩ : ∃ ap d, vo = .slice ap ys.length d ∧ OutsAt w ap ys ∧ (ap = none → d = 0) := by
    rcases hf.outs.cells with ⟨h1, h2⟩ | ⟨g, c, h1, _, _, h4, _⟩
    · subst h2; exact ⟨none, 0, h1, Or.inl rfl, fun _ => rfl⟩
    · exact ⟨_, c, h1, Or.inr ⟨g, 0, rfl, h4⟩, fun h => by cases h⟩
  exact ⟨ai, c, ap, d, e1, e2, h1, h2, n1, n2⟩
theorem gb_put3 (w : World) (b o : Nat) (x y z : Value) : w.grownBy (put3 w b o x y z) (some b) := gb_trans (gb_trans (gb_set _ _ _ _) (gb_set _ _ _ _)) (gb_set _ _ _ _)
theorem owns_lowerT {w : World} {base B e size : Nat} {v : Value} {n : Nat} {cs : List Value} (h : w.ownsRow base e size v n cs) (hB : B ≤ base) : w.ownsRow B e size v n cs := by
  obtain ⟨h1, h | ⟨g, cap, cur, rfl, hbg, hg⟩⟩ := h
  · exact ⟨h1, Or.inl h⟩
  · exact ⟨h1, Or.inr ⟨g, cap, cur, rfl, Nat.le_trans hB hbg, hg⟩⟩
theorem Fresh.lower {w : World} {base B : Nat} {vi vo : Value} {Q : Nat → InD → Prop} {xs : List InD} {ys : List (Int × Int)} (h : Fresh w base vi vo Q xs ys) (hB : B ≤ base) : Fresh w B vi vo Q xs ys :=
  ⟨owns_lowerT h.ins hB, owns_lowerT h.outs hB, fun j hj => ⟨(h.ok j hj).1, (h.ok j hj).2.1, fun a ha => ⟨Nat.le_trans hB ((h.ok j hj).2.2 a ha).1, ((h.ok j hj).2.2 a ha).2⟩⟩, h.apart⟩
end Go.Proofs.Ytffgpepngcnjeab

namespace Go.Proofs.Ytffgpepngcnjeab
open Go.RowKit
theorem copy_gen {sT elem sz : Nat} (hu : Try.prog.underlying sT = some (.slice elem)) (hs : (Try.prog.info? elem).map (fun x : TypeInfo => x.size) = some sz) (W : World) (g n : Nat) (ao : Option Addr) (c : Nat) (cur : Array Value) (cs : List Value)
    (hg : W.heap[g]? = some (.cells cur elem (0, 0))) (hsz : cur.size = n * sz) (hl : cs.length = n * sz) (hsrc : 0 < cs.length → ∃ a, ao = some a ∧ ∀ j v, cs[j]? = some v → W.cell? (a.add j) = some v) (h1 : ∀ v ∈ cs, v.oneCell' = true) (h0 : ao = none → n = 0 ∧ c = 0) :
    ∃ w1, Sem.run Try.prog (Builtin.copy_ #[sT, sT] 3 #[.slice (some ⟨g, 0, none⟩) n n, .slice ao n c]) W = .ok (.int .i64 n) w1 ∧ w1.heap[g]? = some (.cells cs.toArray elem (0, 0)) ∧ W.grownBy w1 (some g) := by
  cases ao with
  | none =>
    obtain ⟨rfl, rfl⟩ := h0 rfl
    have e1 : cs = [] := List.length_eq_zero_iff.1 (by rw [hl]; omega)
    have e2 : cur = #[] := Array.size_eq_zero_iff.1 (by rw [hsz]; omega)
    subst e1
    subst e2
    exact ⟨W, run_copy_nil Try.prog _ sT sT 3 elem _ _ _ hu (by rw [hs]; rfl), hg, ⟨rfl, rfl, rfl, Nat.le_refl _, fun _ _ _ => rfl⟩⟩
  | some a =>
    have hsrc' : ∀ j v, cs[j]? = some v → W.cell? (a.add j) = some v := by
      intro j v hj
      by_cases hp : 0 < cs.length
      · obtain ⟨b, e, h⟩ := hsrc hp
        cases e
        exact h j v hj
      · have : cs = [] := List.length_eq_zero_iff.1 (by omega)
        rw [this] at hj
        simp at hj
    have hmin : Nat.min n n = n := Nat.min_self n
    have hrun := run_copy_wide Try.prog W sT sT 3 elem g 0 n n a n c cur elem cs sz hu hs hg (by rw [hmin]; exact hl) hsrc' (by omega) h1
    have e : (cur.toList.take 0 ++ cs ++ cur.toList.drop (0 + cs.length)).toArray = cs.toArray := by
      rw [List.take_zero, List.nil_append, List.drop_of_length_le (by rw [Array.length_toList]; omega), List.append_nil]
    rw [e, hmin] at hrun
    exact ⟨_, hrun, setRow_heap W g cur cs.toArray elem (0, 0) hg, ⟨rfl, rfl, rfl, by simp [World.setRow], fun k _ hne => setRow_other W g k _ (fun e => hne (by rw [e]))⟩⟩
theorem ints_src {W : World} {ao : Option Addr} {l : List Int} (h : IntsAt W ao l) : 0 < (l.map (Value.int .i64)).length → ∃ a, ao = some a ∧ ∀ j v, (l.map (Value.int .i64))[j]? = some v → W.cell? (a.add j) = some v := by
  intro hp
  obtain ⟨_, ad, e, hh⟩ := copy_src h (Below.refl _ _) 0 hp
  exact ⟨ad, e, hh⟩
theorem owns_whole {w : World} {g e n size base : Nat} {cs : List Value} (h : w.heap[g]? = some (.cells cs.toArray e (0, 0))) (hl : cs.length = n * size) (hb : base ≤ g) (hn : n ≤ maxLen) : w.ownsRow base e size (.slice (some ⟨g, 0, none⟩) n n) n cs := by
  refine ⟨hl, Or.inr ⟨g, n, cs.toArray, rfl, hb, h, Nat.le_refl _, hn, by simpa using hl, ?_⟩⟩
  rw [List.take_of_length_le (by simpa using Nat.le_of_eq hl)]
theorem make_intsN (n : Nat) (hn : n ≤ 17592186044416) : ∀ u : World, (Instr.makeSlice 39 (.int .i64 (n : Int)) (.int .i64 (n : Int))).run Try.prog u =
    .ok (.slice (some ⟨u.heap.size, 0, none⟩) n n) (u.alloc (.cells (madeCells #[.int .i64 0] n) 3)) := fun u => by
  obtain ⟨i0, hi, hz0, hz1, hz2⟩ := info_parts info3
  have h := run_make (P := Try.prog) u 39 3 i0 (.int .i64 0) Try.underlying39 hi hz0 .i64 .i64 (n : Int) (n : Int) (by omega) (Int.le_refl _) (by rw [hz2]; omega) (by omega)
  simpa [hz1, Value.cells] using h
theorem make_outsT (n : Nat) (hn : n ≤ 8796093022208) : ∀ u : World, (Instr.makeSlice 23 (.int .i64 (n : Int)) (.int .i64 (n : Int))).run Try.prog u =
    .ok (.slice (some ⟨u.heap.size, 0, none⟩) n n) (u.alloc (.cells (madeCells #[.int .i64 0, .int .i64 0] (n * 2)) 68)) := fun u => by
  obtain ⟨i0, hi, hz0, hz1, hz2⟩ := info_parts info68
  have h := run_make (P := Try.prog) u 23 68 i0 (.agg #[.int .i64 0, .int .i64 0]) Try.underlying23 hi hz0 .i64 .i64 (n : Int) (n : Int) (by omega) (Int.le_refl _) (by rw [hz2]; omega) (by omega)
  simpa [hz1, Value.cells] using h
/-- the copy of a seal: made and filled -/
theorem copy_seal (ao : Option Addr) (n c : Nat) (l : List Int) (w : World) (hr : IntsAt w ao l) (hn : l.length = n) (hm : n ≤ 17592186044416) (h0 : ao = none → c = 0) :
    ∃ w1, Sem.run Try.prog (Builtin.copy_ #[39, 39] 3 #[.slice (some ⟨w.heap.size, 0, none⟩) n n, .slice ao n c]) (w.alloc (.cells (madeCells #[.int .i64 0] n) 3)) = .ok (.int .i64 n) w1 ∧
      OwnInts w1 w.heap.size (.slice (some ⟨w.heap.size, 0, none⟩) n n) l ∧ Below w.heap.size w w1 ∧ w.heap.size < w1.heap.size := by
  have hnil : ao = none → n = 0 ∧ c = 0 := by
    intro e
    refine ⟨?_, h0 e⟩
    rcases hr with rfl | ⟨b, off, e', _⟩
    · rw [← hn]; rfl
    · rw [e] at e'; cases e'
  have hb : Below w.heap.size w (w.alloc (.cells (madeCells #[.int .i64 0] n) 3)) := (Below.refl _ _).alloc (Nat.le_refl _) _
  obtain ⟨w1, h1, h2, h3⟩ := copy_gen Try.underlying39 sizeInfo3 (w.alloc (.cells (madeCells #[.int .i64 0] n) 3)) w.heap.size n ao c (madeCells #[.int .i64 0] n) (l.map (Value.int .i64)) (by have := heap_made w (madeCells #[.int .i64 0] n) 3; simpa using this) (by rw [size_madeCells]; omega) (by rw [List.length_map, hn]; omega) (ints_src (hr.grown hb)) (ints_one l) hnil
  refine ⟨w1, h1, ?_, hb.trans (gb_to_below h3 (by rw [World.size_alloc]; omega) (fun k hk => by injection hk with hk; omega)), ?_⟩
  · have := owns_whole (base := w.heap.size) (size := 1) (n := n) h2 (by rw [List.length_map, hn]; omega) (Nat.le_refl _) (by unfold maxLen; omega)
    unfold OwnInts
    rw [hn]
    exact this
  · have := h3.size
    rw [World.size_alloc] at this
    omega
theorem outCs_map (ys : List (Int × Int)) : outCs ys = (outL ys).map (Value.int .i64) := by
  induction ys with
  | nil => rfl
  | cons y r ih => simp only [outCs, outL, List.flatMap_cons, List.map_append] at ih ⊢; rw [ih]; rfl
/-- append(ins, x): at a step of a region that draws its order -/
theorem step_appIn (W : World) {ops : Array Oper} {o : Oper} {a : Act} {K : Act → World → Prop} {Q : Exit → Act → World → Prop} {E : Prop} (hgd : o.guard = none) (s x : Operand)
    (ho : o.op = .call { callee := .builtin .append, args := #[s, x], argTypes := #[29, 29] })
    (base g0 : Nat) (v : Value) (xs : List InD) (y : InD) (hs : a.eval s = v) (hx : a.eval x = .slice (some ⟨g0, 0, none⟩) 1 1) (hown : OwnIns W base v xs) (hc : W.cell? ⟨g0, 0, none⟩ = some (.int .i64 y.id) ∧ W.cell? ⟨g0, 1, none⟩ = some (.int .i64 y.pos) ∧ W.cell? ⟨g0, 2, none⟩ = some (.slice y.ao y.n y.c)) (hbase : base ≤ W.heap.size) (hlen : xs.length < 3518437208883)
    (h : ∀ g cap w', OwnIns w' base (.slice (some ⟨g, 0, none⟩) (xs.length + 1) cap) (xs ++ [y]) → W.grownBy w' v.ownBlock → (v.ownBlock = some g ∨ W.heap.size ≤ g) → g < w'.heap.size → K (a.put o.dst (.slice (some ⟨g, 0, none⟩) (xs.length + 1) cap)) w') :
    if Region.wanted o (yielded ops a.tmps) = true then Oper.wp Try.prog o a W K Q else E := by
  obtain ⟨i0, hi, hz0, hz1, hz2⟩ := info_parts info85
  refine step_append_lies W hgd s x 29 ho base 85 i0 _ 3 40 Try.underlying29 hi hz0 hz1 hz2 rfl (by decide) v xs.length (inCs xs) hs hown ⟨g0, 0, none⟩ 1 1 [.int .i64 y.id, .int .i64 y.pos, .slice y.ao y.n y.c] hx rfl ?_ (one3 _ _ _ _ _) (by decide) (by unfold maxLen; omega) (by omega) hbase W.heap.size rfl ?_
  · intro j u hj
    rw [Go.WideShapes.add_plain, Nat.zero_add]
    match j, hj with
    | 0, hj => simp at hj; subst hj; exact hc.1
    | 1, hj => simp at hj; subst hj; exact hc.2.1
    | 2, hj => simp at hj; subst hj; exact hc.2.2
  · intro g cap w' hown' hg hlies hlt
    refine h g cap w' ?_ hg ?_ hlt
    · unfold OwnIns
      rw [List.length_append, ← inCs_snoc]
      exact hown'
    · rcases hlies with e | e
      · exact Or.inl e
      · exact Or.inr (by omega)
/-- an input as another's, but for where its seal lies -/
def Same (x y : InD) : Prop := y.id = x.id ∧ y.pos = x.pos ∧ y.n = x.n ∧ y.l = x.l
end Go.Proofs.Ytffgpepngcnjeab
