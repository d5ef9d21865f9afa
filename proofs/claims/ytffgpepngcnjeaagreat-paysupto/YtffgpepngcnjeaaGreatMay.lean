/-
  The document: Abandon; Balance with payments.
  The whole game in memory: the purse with its payments, the document's, the drawer; each block has a colour.
  Colours, from z on: 1 the purse, 2 its outputs, 3 its live payments, 4 the keys that have sealed, 5 the payments' lists; 6 the game; 7 the document's purse, 8 its chain, 9 and 10 its addresses, 11 its payments, 12 their lists; 13 to 24 the drawer.
  A payment on both sides: what the memory is behind it.
  A payment is asked of both: lemmas for the walk.
-/
import Derived.Test.YtffgpepngcnjeaaGreatMax
import Derived.Test.YtffgpepngcnjeaaGreatMar
import Derived.Test.YtffgpepngcnjeaaGreatMam
import Derived.Test.YtffgpepngcnjeaaGreatMaw
namespace Go.Proofs.YtffgpepngcnjeaaGreat
open Go.RowKit
def liveB (ms : List MadeD) (k : Int) : Bool := decide (0 ≤ k) && (decide (k < (ms.length : Nat)) && (ms.getD k.toNat dM).lv)
set_option maxRecDepth 100000 in
set_option maxHeartbeats 2000000 in
theorem live_any (D : Nat) (ao : Option Addr) (n c : Nat) (ms : List MadeD) (k : Int) (w : World) (hp : w.cell? ⟨D, 5, none⟩ = some (.slice ao n c)) (hx : RecAt MadeD.v w ao ms) (hn : ms.length = n) :
    Calls Tryz.prog 45 #[.pointer (some ⟨D, 0, none⟩), .int .i64 k] w fun e w' => e = .returned (.bool (liveB ms k)) ∧ w = w' := by
  by_cases h0 : 0 ≤ k
  · have d0 : decide (0 ≤ k) = true := decide_eq_true h0
    obtain ⟨j, rfl⟩ : ∃ j : Nat, k = (j : Int) := ⟨k.toNat, by omega⟩
    by_cases h1 : j < n
    · have HL : Hid (liveB ms (j : Int) = (ms.getD j dM).lv) := by
        show _ = _
        unfold liveB
        rw [decide_eq_true h0, decide_eq_true (show (j : Int) < (ms.length : Nat) by omega)]
        rfl
      rcases hx with hnil | ⟨g, off, rfl, hrow⟩
      · rw [hnil] at hn; simp at hn; omega
      have hM := madeCells hrow j (by rw [hn]; exact h1)
      have c7 := hM.c7
      clear hM hrow hn
      generalize (ms.getD j dM).lv = b at *
      have d1 : decide ((j : Int) < (n : Int)) = true := decide_eq_true (by omega)
      have e1 : (j : Int) < (n : Int) := by omega
      go_enter Tryz.func45, Tryz.ntmps45
      go_wp2
      go_ret
      exact ⟨ret_bool HL.out.symm, rfl⟩
    · have HL : Hid (liveB ms (j : Int) = false) := by
        show _ = _
        unfold liveB
        rw [decide_eq_false (show ¬ (j : Int) < (ms.length : Nat) by omega)]
        simp
      have d1 : decide ((j : Int) < (n : Int)) = false := decide_eq_false (by omega)
      clear hx
      go_enter Tryz.func45, Tryz.ntmps45
      go_wp2
      go_ret
      exact ⟨ret_bool HL.out.symm, rfl⟩
  · have HL : Hid (liveB ms k = false) := by
      show _ = _
      unfold liveB
      rw [decide_eq_false h0]
      rfl
    have d0 : decide (0 ≤ k) = false := decide_eq_false h0
    clear hx
    go_enter Tryz.func45, Tryz.ntmps45
    go_wp2
    go_ret
    exact ⟨ret_bool HL.out.symm, rfl⟩
theorem liveB_true {ms : List MadeD} {k : Int} (h : liveB ms k = true) : ∃ n : Nat, k = (n : Int) ∧ n < ms.length ∧ (ms.getD n dM).lv = true := by
  unfold liveB at h
  rw [Bool.and_eq_true, Bool.and_eq_true, decide_eq_true_iff, decide_eq_true_iff] at h
  obtain ⟨h1, h2, h3⟩ := h
  exact ⟨k.toNat, by omega, by omega, h3⟩
theorem liveB_iff (ms : List MadeD) (k : Int) : liveB ms k = true ↔ ∃ n : Nat, k = (n : Int) ∧ n < ms.length ∧ (ms.getD n dM).lv = true := by
  refine ⟨liveB_true, ?_⟩
  rintro ⟨n, rfl, h1, h2⟩
  unfold liveB
  rw [decide_eq_true (show (0 : Int) ≤ (n : Int) by omega), decide_eq_true (show (n : Int) < (ms.length : Nat) by omega)]
  exact h2
/-- what the document's Abandon leaves -/
def DAbOk (Nd : Nat → Prop) (D base : Nat) (vm : Value) (nx : Int) (ms : List MadeD) (k : Int) (er : Int) (w w' : World) : Prop :=
  (liveB ms k = false ∧ er = 11 ∧ w = w') ∨ (∃ n : Nat, k = (n : Int) ∧ n < ms.length ∧ (ms.getD n dM).lv = true ∧ er = 0 ∧ DPy Nd w' D base vm nx (offD ms n) ∧ Fr (fun q => vm.ownBlock = some q) w w')
theorem DPy.put {Nd : Nat → Prop} {D base : Nat} {g c : Nat} {nx : Int} {ms : List MadeD} {w : World} (hd : DPy Nd w D base (.slice (some ⟨g, 0, none⟩) ms.length c) nx ms) (n i : Nat) (hn : n < ms.length) (hi : i < 9) (u : Value) (y : MadeD) (hy : (MadeD.v ms[n]).set i u = y.v) (hok : MadeOk Nd w y) : DPy Nd (w.setCell ⟨g, n * 9 + i, none⟩ u) D base (.slice (some ⟨g, 0, none⟩) ms.length c) nx (ms.set n y) := by
  have hf : Fr (fun k => k = g) w (w.setCell ⟨g, n * 9 + i, none⟩ u) := (Fr.refl _ w).set g _ _ (fun _ => rfl)
  have hgD : D ≠ g := fun e => by have := (hd.ow.blk g rfl).1; have := hd.nb; omega
  have ho := OwnRec.put made9 hd.ow n i hn hi u y hy
  refine ⟨hf.cell hd.c5 hgD, hf.cell hd.c6 hgD, by rw [World.frozen?_setCell]; exact hd.f5, by rw [World.frozen?_setCell]; exact hd.f6, ho, fun a ha => ?_, hd.nb, fun k hk => ⟨by simpa using (hd.nN k hk).1, (hd.nN k hk).2⟩⟩
  have hNg : ∀ k, Nd k → ¬ k = g := fun k hk e => (hd.nN k hk).2.2 (by rw [e]; rfl)
  rcases List.mem_or_eq_of_mem_set ha with ha | ha
  · exact (hd.ok a ha).fr hf hNg
  · rw [ha]; exact hok.fr hf hNg
set_option maxRecDepth 100000 in
set_option maxHeartbeats 2000000 in
theorem dAbandon_any (Nd : Nat → Prop) (D base : Nat) (vm : Value) (nx : Int) (ms : List MadeD) (k : Int) (w : World) (hd : DPy Nd w D base vm nx ms) (hml : ms.length ≤ 100000000) :
    Calls Tryz.prog 20 #[.pointer (some ⟨D, 0, none⟩), .int .i64 k] w fun e w' => ∃ er, e = .returned (.int .i64 er) ∧ DAbOk Nd D base vm nx ms k er w w' := by
  obtain ⟨am, cm, em, hat⟩ := OwnRec.at made9 hd.ow
  subst em
  have HD : Hid (DPy Nd w D base (.slice am ms.length cm) nx ms) := hd
  have HAT : Hid (RecAt MadeD.v w am ms) := hat
  have d5 := hd.c5
  clear hd hat
  cases hl : liveB ms k
  · generalize hn : ms.length = n at *
    have HN : Hid (ms.length = n) := hn
    have HL : Hid (liveB ms k = false) := hl
    clear hn
    go_enter Tryz.func20, Tryz.ntmps20
    go_wp2_with (go_at_call 45; refine (live_any D am n cm ms k _ d5 HAT.out HN.out).mono ?_; rintro e w' ⟨rfl, rfl⟩; rw [hl])
    go_ret
    exact ⟨11, rfl, Or.inl ⟨HL.out, rfl, rfl⟩⟩
  · obtain ⟨j, rfl, hj, hlv⟩ := liveB_true hl
    obtain ⟨g, eg, _, hgl, _, hgf⟩ := own_some made9 HD.out.ow rfl (by omega)
    subst eg
    have hf7 := hgf (j * 9 + 7)
    rcases HAT.out with hnil | ⟨b, off, eb, hrow⟩
    · rw [hnil] at hj; simp at hj
    injection eb with eb
    injection eb with eb1 eb2 _
    subst eb1
    subst eb2
    have c7 := (madeCells hrow j hj).c7
    rw [Nat.zero_add] at c7
    clear hrow
    have HP : Hid (DPy Nd (w.setCell ⟨g, j * 9 + 7, none⟩ (.bool false)) D base (.slice (some ⟨g, 0, none⟩) ms.length cm) nx (offD ms j)) := by
      have hok := HD.out.ok (ms.getD j dM) (getD_mem ms dM j hj)
      exact HD.out.put j 7 hj (by omega) (.bool false) (ms.getD j dM).off (by simp [MadeD.v, MadeD.off, List.getD, hj]) ⟨hok.ins, hok.outs, hok.keys, hok.coins, hok.ln, hok.lm, hok.lq, hok.lx, hok.b1, hok.b2, hok.ni, hok.no⟩
    have HF : Hid (Fr (fun q => (Value.slice (some ⟨g, 0, none⟩) ms.length cm).ownBlock = some q) w (w.setCell ⟨g, j * 9 + 7, none⟩ (.bool false))) := (Fr.refl _ w).set g _ _ (fun _ => rfl)
    have HLV : Hid ((ms.getD j dM).lv = true) := hlv
    have HJ : Hid (j < ms.length) := hj
    have hjI : (j : Int) < ((ms.length : Nat) : Int) := by omega
    have hj0 : (0 : Int) ≤ (j : Int) := by omega
    have HAK : Hid (∀ er w', DAbOk Nd D base (.slice (some ⟨g, 0, none⟩) ms.length cm) nx ms (j : Int) er w w' ↔ ((liveB ms (j : Int) = false ∧ er = 11 ∧ w = w') ∨ (∃ n : Nat, (j : Int) = (n : Int) ∧ n < ms.length ∧ (ms.getD n dM).lv = true ∧ er = 0 ∧ DPy Nd w' D base (.slice (some ⟨g, 0, none⟩) ms.length cm) nx (offD ms n) ∧ Fr (fun q => (Value.slice (some ⟨g, 0, none⟩) ms.length cm).ownBlock = some q) w w'))) := fun _ _ => Iff.rfl
    generalize hn : ms.length = n at *
    have HN : Hid (ms.length = n) := hn
    clear hn hlv hj hgf
    go_enter Tryz.func20, Tryz.ntmps20
    go_wp2_with (go_at_call 45; refine (live_any D _ n cm ms (j : Int) _ d5 HAT.out HN.out).mono ?_; rintro e w' ⟨rfl, rfl⟩; rw [hl])
    go_ret
    exact ⟨0, rfl, (HAK.out _ _).2 (Or.inr ⟨j, rfl, HJ.out, HLV.out, rfl, HP.out, HF.out⟩)⟩
/-- of the document: is it free? -/
def freeD (ms : List MadeD) (x : CoinD) : Bool := !takenB ms x.id x.pos && !usedR ms x.br x.ix
theorem sumF_snoc (p : CoinD → Bool) (cs : List CoinD) (k : Nat) (h : k < cs.length) : sumC ((cs.take (k + 1)).filter p) = sumC ((cs.take k).filter p) + if p (cs.getD k dN) = true then (cs.getD k dN).val else 0 := by
  rw [filter_snoc p cs dN k h]
  unfold sumC
  rw [List.map_append, List.sum_append]
  split <;> simp
set_option maxRecDepth 100000 in
set_option maxHeartbeats 4000000 in
theorem dBalance_any (N Nd : Nat → Prop) (D base : Nat) (ao : Option Addr) (c : Nat) (bls : List (List TxD)) (s : Int) (g : Nat) (ar : Option Addr) (cr : Nat) (ac : Option Addr) (cc : Nat) (vm : Value) (nx : Int) (ms : List MadeD) (w : World) (hx : DCh N w D ao c bls) (hg : Good bls) (hm : bls.length ≤ 40) (ha : DAd w D s g ar cr ac cc) (g1 : g ≤ 20) (hd : DPy Nd w D base vm nx ms) (hml : ms.length ≤ 100000000) (cs : List CoinD) (hcs : ownR (cellsR bls) (adrs s 0 100) (adrs s 1 100) (winR (cellsR bls) s g 0) (winR (cellsR bls) s g 1) = cs) (hl : cs.length ≤ 100000) (hv : ∀ x ∈ cs, 0 ≤ x.val ∧ x.val ≤ 1099511627776) :
    Calls Tryz.prog 57 #[.pointer (some ⟨D, 0, none⟩)] w fun e w' => e = .returned (.tuple #[.int .i64 (sumC cs), .int .i64 (sumC (cs.filter (freeD ms)))]) ∧ Below w.heap.size w w' := by
  have HX : Hid (DCh N w D ao c bls) := hx
  have HG : Hid (Good bls) := hg
  have HA : Hid (DAd w D s g ar cr ac cc) := ha
  have HV : Hid (∀ x ∈ cs, 0 ≤ x.val ∧ x.val ≤ 1099511627776) := hv
  have HCS : Hid (ownR (cellsR bls) (adrs s 0 100) (adrs s 1 100) (winR (cellsR bls) s g 0) (winR (cellsR bls) s g 1) = cs) := hcs
  have HD : Hid (DPy Nd w D base vm nx ms) := hd
  clear hx hg ha hv hcs hd
  go_enter Tryz.func57, Tryz.ntmps57
  go_wp2_with fail
  refine (rCoins_any N D ao c bls s g ar cr ac cc _ HX.out HG.out hm HA.out g1).mono ?_
  rw [HCS.out]
  rintro e w1 ⟨v, rfl, hown, hb1⟩
  obtain ⟨al, cl, rfl, hat⟩ := OwnRec.at coin6 hown
  have HAT : Hid (RecAt CoinD.l w1 al cs) := hat
  have HD1 : Hid (DPy Nd w1 D base vm nx ms) := HD.out.grown hb1
  clear hown hat HX HG HA HCS HD
  generalize hnl : cs.length = n at *
  have HN : Hid (cs.length = n) := hnl
  clear hnl
  go_wp2
  go_loopw [5, 6, 7] (fun u v i wr => ∃ (k : Nat) (S T : Int), k ≤ n ∧ u = .int .i64 S ∧ v = .int .i64 T ∧ i = .int .i64 k ∧ Hid (((cs.take k).map CoinD.val).sum = S) ∧ Hid (sumC ((cs.take k).filter (freeD ms)) = T) ∧ Below w1.heap.size w1 wr) (fun _ _ i _ => n - (intOf i).toNat)
  case atStart => exact ⟨0, 0, 0, Nat.zero_le _, rfl, rfl, rfl, rfl, rfl, Below.refl _ _⟩
  case round =>
    obtain ⟨k, S, T, hk, rfl, rfl, rfl, hS, hT, hbl⟩ := hrel
    by_cases hlt : k < n
    · rcases HAT.out with hnil | ⟨gg, off, rfl, hrow⟩
      · have := HN.out; rw [hnil] at this; simp at this; omega
      obtain ⟨c0, c1, c2, c3, c4, c5⟩ := coinCells (hrow.grown hbl) k (by rw [HN.out]; exact hlt)
      have HS : Hid _ := sum_snoc CoinD.val cs dN k (by rw [HN.out]; exact hlt)
      have HT : Hid _ := sumF_snoc (freeD ms) cs k (by rw [HN.out]; exact hlt)
      have hSb := sum_bd CoinD.val 1099511627776 (cs.take k) (fun x hx => HV.out x (List.mem_of_mem_take hx))
      have hTb := sum_bd CoinD.val 1099511627776 ((cs.take k).filter (freeD ms)) (fun x hx => HV.out x (List.mem_of_mem_take (List.mem_filter.1 hx).1))
      have hyb := HV.out (cs.getD k dN) (getD_mem cs dN k (by rw [HN.out]; exact hlt))
      have hT1 : (((cs.take k).filter (freeD ms)).map CoinD.val).sum = T := hT.out
      rw [hS.out] at hSb
      rw [hT1] at hTb
      have hl2 : (cs.take k).length ≤ 100000 := by rw [List.length_take]; omega
      have hl3 : ((cs.take k).filter (freeD ms)).length ≤ 100000 := Nat.le_trans (List.length_filter_le _ _) hl2
      have hS2 : 0 ≤ S ∧ S ≤ 110000000000000000 := ⟨hSb.1, by omega⟩
      have hT2 : 0 ≤ T ∧ T ≤ 110000000000000000 := ⟨hTb.1, by omega⟩
      have HD2 : Hid (DPy Nd wr D base vm nx ms) := HD1.out.grown hbl
      obtain ⟨am, cm, em, hmat⟩ := OwnRec.at made9 HD2.out.ow
      have HP2 : Hid (wr.cell? ⟨D, 5, none⟩ = some (.slice am ms.length cm)) := by rw [← em]; exact HD2.out.c5
      have HMA : Hid (RecAt MadeD.v wr am ms) := hmat
      clear hrow hSb hTb hl2 hl3 hT1 em hmat
      generalize cs.getD k dN = y at c0 c1 c2 c3 c4 c5 HS HT hyb
      have HF : Hid (freeD ms y = (!takenB ms y.id y.pos && !usedR ms y.br y.ix)) := rfl
      obtain ⟨y0, y1, y2, yval, y4, y5⟩ := y
      simp only at c0 c1 c2 c3 c4 c5 hyb HF
      have e1 : (0 : Int) ≤ (k : Int) := by omega
      have e2 : (k : Int) < (n : Int) := by omega
      have hw1 : IntKind.i64.wrap (S + yval) = S + yval := IntWalk.i64_in _ ⟨by omega, by omega⟩
      have hw2 : IntKind.i64.wrap (T + yval) = T + yval := IntWalk.i64_in _ ⟨by omega, by omega⟩
      go_wp2_with fail
      refine (dFree_any Nd D am ms.length cm ms ⟨y0, y1, y2, yval, y4, y5⟩ _ HP2.out HMA.out rfl (by omega) HD2.out.ok).mono ?_
      simp only
      rw [← HF.out]
      rintro e w3 ⟨rfl, hb3⟩
      have d3 := (hb3.cell (p := ⟨gg, off + k * 6 + 3, none⟩) (cell_lt c3)).trans c3
      have hbl3 := below_blk hbl hb3
      clear c0 c1 c2 c3 c4 c5 HF
      cases hfr : freeD ms ⟨y0, y1, y2, yval, y4, y5⟩
      · have HT3 : Hid (sumC ((cs.take (k + 1)).filter (freeD ms)) = T) := by show _ = _; rw [HT.out, hfr, if_neg (by simp), hT.out, Int.add_zero]
        go_wp2
        go_roundw
        case rel => exact ⟨k + 1, S + yval, T, by omega, rfl, rfl, by go_num, by show _ = _; rw [HS.out, hS.out], HT3.out, hbl3⟩
        case measure => simp [intOf]; omega
      · have HT3 : Hid (sumC ((cs.take (k + 1)).filter (freeD ms)) = T + yval) := by show _ = _; rw [HT.out, hfr, if_pos rfl, hT.out]
        go_wp2
        go_roundw
        case rel => exact ⟨k + 1, S + yval, T + yval, by omega, rfl, rfl, by go_num, by show _ = _; rw [HS.out, hS.out], HT3.out, hbl3⟩
        case measure => simp [intOf]; omega
    · have hfl : cs.take k = cs := List.take_of_length_le (by rw [HN.out]; omega)
      have HSe : Hid (sumC cs = S) := by show _ = _; rw [← hS.out, hfl]; rfl
      have HTe : Hid (sumC (cs.filter (freeD ms)) = T) := by show _ = _; rw [← hT.out, hfl]
      clear hfl
      go_wp2
      go_ret2
      rw [HSe.out, HTe.out]
      exact ⟨rfl, below_blk hb1 hbl⟩
end Go.Proofs.YtffgpepngcnjeaaGreat

namespace Go.Proofs.YtffgpepngcnjeaaGreat
open Go.RowKit
structure PgP where
  v : Value
  vl : Value
  vs : Value
  NP : Nat → Prop
  xs : List Cel
  ps : List PayD
  ks : List (Int × Int)
structure DgP where
  ao : Option Addr
  c : Nat
  bls : List (List TxD)
  ar : Option Addr
  cr : Nat
  ac : Option Addr
  cc : Nat
  vm : Value
  ms : List MadeD
  ND : Nat → Prop
structure Pg (col : Nat → Nat) (z : Nat) (w : World) (P : Nat) (s : Int) (g : Nat) (h : Int) (a : PgP) (md nx : Int) : Prop where
  pp : PP a.NP w P s g a.v h a.xs a.vl a.vs md nx a.ps a.ks
  k1 : col P = z + 1
  k2 : ∀ k, a.v.ownBlock = some k → col k = z + 2
  k3 : ∀ k, a.vl.ownBlock = some k → col k = z + 3
  k4 : ∀ k, a.vs.ownBlock = some k → col k = z + 4
  k5 : ∀ k, a.NP k → col k = z + 5 ∨ col k = z + 3
structure Dg (col : Nat → Nat) (z : Nat) (N : Nat → Prop) (w : World) (D : Nat) (s : Int) (g : Nat) (b : DgP) (nx : Nat) : Prop where
  dc : DCh N w D b.ao b.c b.bls
  ad : DAd w D s g b.ar b.cr b.ac b.cc
  c0 : w.cell? ⟨D, 0, none⟩ = some (.int .i64 s)
  dp : DPy b.ND w D (D + 1) b.vm (nx : Int) b.ms
  k7 : col D = z + 7
  k8 : ∀ a, b.ao = some a → col a.block = z + 8
  k9 : ∀ a, b.ar = some a → col a.block = z + 9
  k10 : ∀ a, b.ac = some a → col a.block = z + 9
  k11 : ∀ k, b.vm.ownBlock = some k → col k = z + 11
  k12 : ∀ k, b.ND k → col k = z + 12
theorem Pg.mv {col col' : Nat → Nat} {z : Nat} {w w' : World} {P : Nat} {s : Int} {g : Nat} {h : Int} {a : PgP} {md nx : Int} {E : Nat → Prop} (u : Pg col z w P s g h a md nx) (hf : Fr E w w') (hE : ∀ k, E k → ¬ (z + 1 ≤ col k ∧ col k ≤ z + 5)) (hc : ∀ k, col k ≠ 0 → col' k = col k) : Pg col' z w' P s g h a md nx := by
  have e1 : ¬ E P := fun e => hE P e (by rw [u.k1]; omega)
  have e2 : ∀ k, a.v.ownBlock = some k → ¬ E k := fun k hk e => hE k e (by rw [u.k2 k hk]; omega)
  have e3 : ∀ k, a.vl.ownBlock = some k → ¬ E k := fun k hk e => hE k e (by rw [u.k3 k hk]; omega)
  have e4 : ∀ k, a.vs.ownBlock = some k → ¬ E k := fun k hk e => hE k e (by rw [u.k4 k hk]; omega)
  have e5 : ∀ k, a.NP k → ¬ E k := fun k hk e => hE k e (by have := u.k5 k hk; omega)
  refine ⟨u.pp.fr hf (fun k hk => ?_) (fun k hk => ?_) e5, by rw [hc P (by rw [u.k1]; omega)]; exact u.k1, fun k hk => by rw [hc k (by rw [u.k2 k hk]; omega)]; exact u.k2 k hk, fun k hk => by rw [hc k (by rw [u.k3 k hk]; omega)]; exact u.k3 k hk, fun k hk => by rw [hc k (by rw [u.k4 k hk]; omega)]; exact u.k4 k hk, fun k hk => by rw [hc k (by have := u.k5 k hk; omega)]; exact u.k5 k hk⟩
  · rcases hk with rfl | hk
    · exact e1
    · exact e2 k hk
  · rcases hk with rfl | hk | hk
    · exact e1
    · exact e3 k hk
    · exact e4 k hk
theorem Dg.mv {col col' : Nat → Nat} {z : Nat} {N : Nat → Prop} {w w' : World} {D : Nat} {s : Int} {g : Nat} {b : DgP} {nx : Nat} {E : Nat → Prop} (u : Dg col z N w D s g b nx) (hf : Fr E w w') (hE : ∀ k, E k → ¬ (z + 7 ≤ col k ∧ col k ≤ z + 12)) (hN : ∀ k, N k → ¬ E k) (hc : ∀ k, col k ≠ 0 → col' k = col k) : Dg col' z N w' D s g b nx := by
  have e1 : ¬ E D := fun e => hE D e (by rw [u.k7]; omega)
  have e8 : ∀ a, b.ao = some a → ¬ E a.block := fun a ha e => hE _ e (by rw [u.k8 a ha]; omega)
  have e9 : ∀ a, b.ar = some a → ¬ E a.block := fun a ha e => hE _ e (by rw [u.k9 a ha]; omega)
  have e10 : ∀ a, b.ac = some a → ¬ E a.block := fun a ha e => hE _ e (by rw [u.k10 a ha]; omega)
  have e11 : ∀ k, b.vm.ownBlock = some k → ¬ E k := fun k hk e => hE k e (by rw [u.k11 k hk]; omega)
  have e12 : ∀ k, b.ND k → ¬ E k := fun k hk e => hE k e (by rw [u.k12 k hk]; omega)
  exact ⟨u.dc.fr hf hN e8 e1, ⟨hf.cell u.ad.c1 e1, hf.cell u.ad.c2 e1, hf.cell u.ad.c3 e1, ints_fr hf u.ad.i0 (fun _ a ha => e9 a ha), ints_fr hf u.ad.i1 (fun _ a ha => e10 a ha)⟩, hf.cell u.c0 e1, u.dp.fr hf e1 e11 e12, by rw [hc D (by rw [u.k7]; omega)]; exact u.k7, fun a ha => by rw [hc _ (by rw [u.k8 a ha]; omega)]; exact u.k8 a ha, fun a ha => by rw [hc _ (by rw [u.k9 a ha]; omega)]; exact u.k9 a ha, fun a ha => by rw [hc _ (by rw [u.k10 a ha]; omega)]; exact u.k10 a ha, fun k hk => by rw [hc k (by rw [u.k11 k hk]; omega)]; exact u.k11 k hk, fun k hk => by rw [hc k (by rw [u.k12 k hk]; omega)]; exact u.k12 k hk⟩
/-- the whole game; q: how many steps at the most are behind it -/
structure AG (z : Nat) (s : Int) (g : Nat) (N : Nat → Prop) (q : Nat) (col : Nat → Nat) (G P D Dr : Nat) (a : PgP) (b : DgP) (nx : Nat) (w : World) : Prop where
  pg : Pg col z w P s g (b.bls.length : Nat) a (b.ms.length : Nat) (nx : Int)
  dg : Dg col z N w D s g b nx
  dr : DrA col z w Dr (13 * q)
  gm : VRow w G 0 [.pointer (some ⟨P, 0, none⟩), .pointer (some ⟨D, 0, none⟩), .pointer (some ⟨Dr, 0, none⟩)]
  kg : col G = z + 6
  lk : Lk b.bls a.xs
  lp : LkP a.ps a.ks b.ms
  ky : ∀ p ∈ a.ps, (∀ x ∈ p.cs, Mk.isK s x.br x.ix = true) ∧ p.cs ≠ []
  nz : ∀ k, w.heap.size ≤ k → col k = 0
  nn : ∀ k, N k → col k = 0 ∧ k < w.heap.size
  ml : b.ms.length ≤ q
  kl : a.ks.length ≤ 10 * q
  nl : nx ≤ 101
theorem AG.mv {z : Nat} {s : Int} {g : Nat} {N : Nat → Prop} {q q' : Nat} {col col' : Nat → Nat} {G P D Dr : Nat} {a : PgP} {b : DgP} {nx : Nat} {w w' : World} {E : Nat → Prop} (h : AG z s g N q col G P D Dr a b nx w) (hf : Fr E w w') (hE : ∀ k, E k → ¬ (z + 1 ≤ col k ∧ col k ≤ z + 24)) (hN : ∀ k, N k → ¬ E k) (hc : ∀ k, col k ≠ 0 → col' k = col k) (hn : ∀ k, N k → col' k = 0) (hz : ∀ k, w'.heap.size ≤ k → col' k = 0) (hq : q ≤ q') : AG z s g N q' col' G P D Dr a b nx w' :=
  ⟨h.pg.mv hf (fun k e h => hE k e (by omega)) hc, h.dg.mv hf (fun k e h => hE k e (by omega)) hN hc, h.dr.mv hf (fun k e h => hE k e (by omega)) hc (by omega), hf.vrow h.gm (fun e => hE G e (by rw [h.kg]; omega)), by rw [hc G (by rw [h.kg]; omega)]; exact h.kg, h.lk, h.lp, h.ky, hz, fun k hk => ⟨hn k hk, Nat.lt_of_lt_of_le (h.nn k hk).2 hf.size⟩, Nat.le_trans h.ml hq, by have := h.kl; omega, h.nl⟩
theorem AG.grown {z : Nat} {s : Int} {g : Nat} {N : Nat → Prop} {q : Nat} {col : Nat → Nat} {G P D Dr : Nat} {a : PgP} {b : DgP} {nx : Nat} {w w' : World} (h : AG z s g N q col G P D Dr a b nx w) (hb : Below w.heap.size w w') : AG z s g N q col G P D Dr a b nx w' :=
  h.mv (Fr.of_below hb (fun _ => False)) (fun _ e => e.elim) (fun _ _ e => e) (fun _ _ => rfl) (fun k hk => (h.nn k hk).1) (fun k hk => h.nz k (Nat.le_trans hb.size hk)) (Nat.le_refl _)
theorem AG.more {z : Nat} {s : Int} {g : Nat} {N : Nat → Prop} {q : Nat} {col : Nat → Nat} {G P D Dr : Nat} {a : PgP} {b : DgP} {nx : Nat} {w : World} (h : AG z s g N q col G P D Dr a b nx w) : AG z s g N (q + 1) col G P D Dr a b nx w :=
  h.mv (Fr.refl (fun _ => False) w) (fun _ e => e.elim) (fun _ _ e => e) (fun _ _ => rfl) (fun k hk => (h.nn k hk).1) h.nz (Nat.le_succ _)
/-- what a step leaves -/
def SOk (z : Nat) (s : Int) (g : Nat) (N : Nat → Prop) (q : Nat) (col : Nat → Nat) (G P D Dr : Nat) (w w' : World) : Prop :=
  ∃ col' a b nx, Ext z 1 24 col col' w' ∧ AG z s g N (q + 1) col' G P D Dr a b nx w' ∧ Fr (fun k => z < col k ∧ col k ≤ z + 24) w w'
theorem AG.stay {z : Nat} {s : Int} {g : Nat} {N : Nat → Prop} {q : Nat} {col : Nat → Nat} {G P D Dr : Nat} {a : PgP} {b : DgP} {nx : Nat} {w w' : World} (h : AG z s g N q col G P D Dr a b nx w) (hb : Below w.heap.size w w') : SOk z s g N q col G P D Dr w w' :=
  ⟨col, a, b, nx, Ext.refl _ _ _ _ _, (h.grown hb).more, Fr.of_below hb _⟩
/-- coloured blocks are there -/
theorem AG.lt {z : Nat} {s : Int} {g : Nat} {N : Nat → Prop} {q : Nat} {col : Nat → Nat} {G P D Dr : Nat} {a : PgP} {b : DgP} {nx : Nat} {w : World} (h : AG z s g N q col G P D Dr a b nx w) {k : Nat} (hk : col k ≠ 0) : k < w.heap.size :=
  Classical.byContradiction fun e => hk (h.nz k (by omega))
def exA (a : PgP) (md nx : Int) : List (Nat × Value) := [(4, a.vl), (5, a.vs), (6, .int .i64 md), (7, .int .i64 nx)]
def deA (s : Int) (g : Nat) (b : DgP) (nx : Nat) : List (Nat × Value) := [(0, .int .i64 s), (1, .int .i64 (g : Int)), (2, .slice b.ar 100 b.cr), (3, .slice b.ac 100 b.cc), (5, b.vm), (6, .int .i64 ((nx : Int) - 1))]
theorem PP.toE {N : Nat → Prop} {w : World} {P : Nat} {s : Int} {g : Nat} {v : Value} {h : Int} {xs : List Cel} {vl vs : Value} {md nx : Int} {ps : List PayD} {ks : List (Int × Int)} (u : PP N w P s g v h xs vl vs md nx ps ks) : PAt [(4, vl), (5, vs), (6, .int .i64 md), (7, .int .i64 nx)] w P s g v h xs := by
  refine ⟨u.pu.c0, u.pu.c1, u.pu.f0, u.pu.f1, u.pu.own, fun q hq => ?_⟩
  simp only [List.mem_cons, List.not_mem_nil, or_false] at hq
  rcases hq with rfl | rfl | rfl | rfl | rfl | rfl
  · exact u.pu.ext _ (by simp)
  · exact u.pu.ext _ (by simp)
  · exact ⟨by simp, by simp, u.ls.c0⟩
  · exact ⟨by simp, by simp, u.ls.c1⟩
  · exact ⟨by simp, by simp, u.ls.c2⟩
  · exact ⟨by simp, by simp, u.ls.c3⟩
theorem PP.ofE {F N : Nat → Prop} {w w' : World} {P : Nat} {s : Int} {g : Nat} {v v' : Value} {h h' : Int} {xs xs' : List Cel} {vl vs : Value} {md nx : Int} {ps : List PayD} {ks : List (Int × Int)} (u : PP N w P s g v h xs vl vs md nx ps ks) (hp : PAt [(4, vl), (5, vs), (6, .int .i64 md), (7, .int .i64 nx)] w' P s g v' h' xs') (hf : Fr F w w') (h1 : ∀ k, vl.ownBlock = some k → ¬ F k) (h2 : ∀ k, vs.ownBlock = some k → ¬ F k) (h3 : ∀ k, N k → ¬ F k) (hd : ∀ k, v'.ownBlock = some k → vl.ownBlock ≠ some k ∧ vs.ownBlock ≠ some k ∧ ¬ N k) : PP N w' P s g v' h' xs' vl vs md nx ps ks := by
  refine ⟨⟨hp.c0, hp.c1, hp.f0, hp.f1, hp.own, fun q hq => hp.ext q ?_⟩, ⟨(hp.ext (4, vl) (by simp)).2.2, (hp.ext (5, vs) (by simp)).2.2, (hp.ext (6, .int .i64 md) (by simp)).2.2, (hp.ext (7, .int .i64 nx) (by simp)).2.2, hp.f1, hf.own u.ls.ol h1, hf.own u.ls.os h2, fun p hp => (u.ls.ok p hp).fr hf h3, u.ls.nb, u.ls.nl, fun k hk => ⟨Nat.lt_of_lt_of_le (u.ls.nN k hk).1 hf.size, (u.ls.nN k hk).2⟩⟩, hd⟩
  simp only [List.mem_cons, List.not_mem_nil, or_false] at hq ⊢
  rcases hq with rfl | rfl <;> simp
/-- what the chain never touches -/
def AX (col : Nat → Nat) (P : Nat) (v : Value) (w : World) (k : Nat) : Prop := k < w.heap.size ∧ col k ≠ 0 ∧ ¬ chE P v k
theorem AG.gi {z : Nat} {s : Int} {g : Nat} {N : Nat → Prop} {q : Nat} {col : Nat → Nat} {G P D Dr : Nat} {a : PgP} {b : DgP} {nx : Nat} {w : World} (h : AG z s g N q col G P D Dr a b nx w) : GI N (AX col P a.v w) (exA a (b.ms.length : Nat) (nx : Int)) (deA s g b nx) G P D (.pointer (some ⟨Dr, 0, none⟩)) s g a.v b.ao b.c b.bls a.xs w := by
  have hch : ∀ k, chE P a.v k → col k = z + 1 ∨ col k = z + 2 := fun k hk => by
    rcases hk with rfl | hk
    · exact Or.inl h.pg.k1
    · exact Or.inr (h.pg.k2 k hk)
  refine ⟨h.gm, h.pg.pp.toE, h.dg.dc, fun q hq => ?_, h.lk, fun k hk => ⟨fun e => e.2.2 hk, fun e => by have := (h.nn k e).1; have := hch k hk; omega⟩, fun k hk => ⟨hk.1, fun e => hk.2.1 (h.nn k e).1⟩, fun k hk => (h.nn k hk).2, ?_, ?_, fun e => ?_, fun x hx => ?_⟩
  · simp only [deA, List.mem_cons, List.not_mem_nil, or_false] at hq
    rcases hq with rfl | rfl | rfl | rfl | rfl | rfl
    · exact ⟨by simp, h.dg.c0⟩
    · exact ⟨by simp, h.dg.ad.c1⟩
    · exact ⟨by simp, h.dg.ad.c2⟩
    · exact ⟨by simp, h.dg.ad.c3⟩
    · exact ⟨by simp, h.dg.dp.c5⟩
    · exact ⟨by simp, h.dg.dp.c6⟩
  · have e : col G ≠ 0 := by rw [h.kg]; omega
    exact ⟨h.lt e, e, fun e2 => by have := hch G e2; rw [h.kg] at this; omega⟩
  · have e : col D ≠ 0 := by rw [h.dg.k7]; omega
    exact ⟨h.lt e, e, fun e2 => by have := hch D e2; rw [h.dg.k7] at this; omega⟩
  · have h1 := h.kg
    rw [e, h.dg.k7] at h1
    omega
  · have h1 := h.dg.k8 x hx
    have e : col x.block ≠ 0 := by omega
    exact ⟨h.lt e, e, fun e2 => by have := hch _ e2; omega⟩
def colC (col : Nat → Nat) (z : Nat) (v : Value) (ao : Option Addr) (k : Nat) : Nat := if v.ownBlock = some k then z + 2 else if ao.map Addr.block = some k then z + 8 else col k
theorem AG.chain {z : Nat} {s : Int} {g : Nat} {N : Nat → Prop} {q : Nat} {col : Nat → Nat} {G P D Dr : Nat} {a : PgP} {b : DgP} {nx : Nat} {w w' : World} (h : AG z s g N q col G P D Dr a b nx w) (hst : GStep N (AX col P a.v w) (exA a (b.ms.length : Nat) (nx : Int)) (deA s g b nx) G P D (.pointer (some ⟨Dr, 0, none⟩)) s g a.v b.ao w w') : SOk z s g N q col G P D Dr w w' := by
  obtain ⟨X', v', ao', c', bls', xs', hX, hao, hF, hG⟩ := hst
  have hpg := h.pg
  have hdg := h.dg
  have hch : ∀ k, chE P a.v k → col k = z + 1 ∨ col k = z + 2 := fun k hk => by
    rcases hk with rfl | hk
    · exact Or.inl hpg.k1
    · exact Or.inr (hpg.k2 k hk)
  have hv : ∀ k, v'.ownBlock = some k → col k = 0 ∨ col k = z + 2 := fun k hk => by
    by_cases e : col k = 0
    · exact Or.inl e
    · have h1 := (hG.xp k (Or.inr hk)).1
      have h2 : chE P a.v k := Classical.byContradiction fun e2 => h1 (hX k ⟨h.lt e, e, e2⟩)
      rcases h2 with e2 | e2
      · have := (hG.pu.own.blk k hk).1
        omega
      · exact Or.inr (hpg.k2 k e2)
  have hb : ∀ x, ao' = some x → col x.block = 0 ∨ col x.block = z + 8 := fun x hx => by
    rcases hao x hx with e | e
    · exact Or.inr (hdg.k8 x e)
    · exact Or.inl (h.nz _ e)
  have hbX : ∀ k, ao'.map Addr.block = some k → X' k ∧ (col k = 0 ∨ col k = z + 8) := fun k hk => by
    cases ha : ao' with
    | none => rw [ha] at hk; cases hk
    | some x =>
      rw [ha] at hk
      simp only [Option.map_some, Option.some.injEq] at hk
      rw [← hk]
      exact ⟨hG.xr x ha, hb x ha⟩
  have hkeep : ∀ k, col k ≠ 0 → colC col z v' ao' k = col k := fun k hk => by
    unfold colC
    split
    · rename_i e; have := hv k e; omega
    · split
      · rename_i e; have := (hbX k e).2; omega
      · rfl
  have hE : ∀ k, (chE P a.v k ∨ k = D) → col k = z + 1 ∨ col k = z + 2 ∨ col k = z + 7 := fun k e => by
    rcases e with e | e
    · have := hch k e; omega
    · subst e; have := hdg.k7; omega
  have hnF : ∀ k, col k ≠ z + 1 → col k ≠ z + 2 → col k ≠ z + 7 → ¬ (chE P a.v k ∨ k = D) := fun k h1 h2 h3 e => by have := hE k e; omega
  refine ⟨colC col z v' ao', { a with v := v', xs := xs' }, { b with ao := ao', c := c', bls := bls' }, nx, fun k => ?_, ⟨⟨?_, ?_, fun k hk => ?_, fun k hk => ?_, fun k hk => ?_, fun k hk => ?_⟩, ⟨hG.dc, ?_, (hG.de (0, .int .i64 s) (by simp [deA])).2, ?_, ?_, fun x hx => ?_, fun x hx => ?_, fun x hx => ?_, fun k hk => ?_, fun k hk => ?_⟩, ?_, hG.gm, ?_, hG.lk, h.lp, h.ky, fun k hk => ?_, fun k hk => ⟨?_, hG.nl k hk⟩, by have := h.ml; simp only; omega, by have := h.kl; simp only; omega, h.nl⟩, hF.weak (fun k _ e => by have := hE k e; omega)⟩
  · unfold colC
    split
    · rename_i e
      rcases hv k e with e2 | e2
      · exact Or.inr ⟨e2, by omega, by omega, (hG.pu.blk k (Or.inr e)).2⟩
      · exact Or.inl e2.symm
    · split
      · rename_i e
        rcases (hbX k e).2 with e2 | e2
        · exact Or.inr ⟨e2, by omega, by omega, (hG.xl k (hbX k e).1).1⟩
        · exact Or.inl e2.symm
      · exact Or.inl rfl
  · exact hpg.pp.ofE hG.pu hF (fun k hk => hnF k (by rw [hpg.k3 k hk]; omega) (by rw [hpg.k3 k hk]; omega) (by rw [hpg.k3 k hk]; omega)) (fun k hk => hnF k (by rw [hpg.k4 k hk]; omega) (by rw [hpg.k4 k hk]; omega) (by rw [hpg.k4 k hk]; omega)) (fun k hk => hnF k (by have := hpg.k5 k hk; omega) (by have := hpg.k5 k hk; omega) (by have := hpg.k5 k hk; omega)) (fun k hk => ⟨fun e => by have := hpg.k3 k e; have := hv k hk; omega, fun e => by have := hpg.k4 k e; have := hv k hk; omega, fun e => by have := hpg.k5 k e; have := hv k hk; omega⟩)
  · rw [hkeep P (by rw [hpg.k1]; omega)]; exact hpg.k1
  · unfold colC; rw [if_pos hk]
  · rw [hkeep k (by rw [hpg.k3 k hk]; omega)]; exact hpg.k3 k hk
  · rw [hkeep k (by rw [hpg.k4 k hk]; omega)]; exact hpg.k4 k hk
  · rw [hkeep k (by have := hpg.k5 k hk; omega)]; exact hpg.k5 k hk
  · exact ⟨(hG.de (1, .int .i64 (g : Int)) (by simp [deA])).2, (hG.de (2, .slice b.ar 100 b.cr) (by simp [deA])).2, (hG.de (3, .slice b.ac 100 b.cc) (by simp [deA])).2, ints_fr hF hdg.ad.i0 (fun _ x hx => hnF _ (by rw [hdg.k9 x hx]; omega) (by rw [hdg.k9 x hx]; omega) (by rw [hdg.k9 x hx]; omega)), ints_fr hF hdg.ad.i1 (fun _ x hx => hnF _ (by rw [hdg.k10 x hx]; omega) (by rw [hdg.k10 x hx]; omega) (by rw [hdg.k10 x hx]; omega))⟩
  · have hd := hdg.dp
    refine ⟨(hG.de (5, b.vm) (by simp [deA])).2, (hG.de (6, .int .i64 ((nx : Int) - 1)) (by simp [deA])).2, hG.dc.f4 5, hG.dc.f4 6, hF.own hd.ow (fun k hk => hnF k (by rw [hdg.k11 k hk]; omega) (by rw [hdg.k11 k hk]; omega) (by rw [hdg.k11 k hk]; omega)), fun m hm => (hd.ok m hm).fr hF (fun k hk => hnF k (by rw [hdg.k12 k hk]; omega) (by rw [hdg.k12 k hk]; omega) (by rw [hdg.k12 k hk]; omega)), hd.nb, fun k hk => ⟨Nat.lt_of_lt_of_le (hd.nN k hk).1 hF.size, (hd.nN k hk).2⟩⟩
  · rw [hkeep D (by rw [hdg.k7]; omega)]; exact hdg.k7
  · have h1 : ao'.map Addr.block = some x.block := by rw [show ao' = some x from hx]; rfl
    unfold colC
    rw [if_neg (fun e => (hG.xp _ (Or.inr e)).1 (hbX _ h1).1), if_pos h1]
  · rw [hkeep _ (by rw [hdg.k9 x hx]; omega)]; exact hdg.k9 x hx
  · rw [hkeep _ (by rw [hdg.k10 x hx]; omega)]; exact hdg.k10 x hx
  · rw [hkeep k (by rw [hdg.k11 k hk]; omega)]; exact hdg.k11 k hk
  · rw [hkeep k (by rw [hdg.k12 k hk]; omega)]; exact hdg.k12 k hk
  · exact h.dr.mv hF (fun k e => by have := hE k e; omega) hkeep (by omega)
  · rw [hkeep G (by rw [h.kg]; omega)]; exact h.kg
  · have hsz := hF.size
    unfold colC
    rw [if_neg (fun e => by have := (hG.pu.blk k (Or.inr e)).2; omega), if_neg (fun e => by have := (hG.xl k (hbX k e).1).1; omega)]
    exact h.nz k (by omega)
  · unfold colC
    rw [if_neg (fun e => (hG.xp k (Or.inr e)).2 hk), if_neg (fun e => (hG.xl k (hbX k e).1).2 hk)]
    exact (h.nn k hk).1
end Go.Proofs.YtffgpepngcnjeaaGreat

namespace Go.Proofs.YtffgpepngcnjeaaGreat
open Go.RowKit
theorem PdOk.frL {E : Nat → Prop} {base : Nat} {vi vo vk : Value} {cs : List CoinD} {ys : List (Int × Int)} {ks : List CoinD} {w w' : World} (h : PdOk base vi vo vk cs ys ks w) (hf : Fr E w w') (he : ∀ k, (vi.ownBlock = some k ∨ vo.ownBlock = some k ∨ vk.ownBlock = some k) → ¬ E k) : PdOk base vi vo vk cs ys ks w' :=
  ⟨hf.own h.oi (fun k hk => he k (Or.inl hk)), hf.own h.oo (fun k hk => he k (Or.inr (Or.inl hk))), hf.own h.ok (fun k hk => he k (Or.inr (Or.inr hk))), h.n1, h.n2⟩
/-- a payment's answer: nothing beside an error; else its lists, each in a block of its own -/
def PRes (pz : Sum Int (List CoinD × List (Int × Int) × Int)) (md tag : Int) (v0 v1 v2 v3 v4 v5 : Value) (er : Int) (base : Nat) (w : World) : Prop :=
  (∃ x, pz = .inl x ∧ er = x ∧ v0 = .int .i64 0 ∧ v1 = .int .i64 0 ∧ v2 = .slice none 0 0 ∧ v3 = .slice none 0 0 ∧ v4 = .slice none 0 0 ∧ v5 = .int .i64 0) ∨
  (∃ cs zs ch, pz = .inr (cs, zs, ch) ∧ er = 0 ∧ v0 = .int .i64 md ∧ v1 = .int .i64 tag ∧ v5 = .int .i64 ch ∧ PdOk base v2 v3 v4 cs zs cs w)
theorem PRes.fr {E : Nat → Prop} {pz : Sum Int (List CoinD × List (Int × Int) × Int)} {md tag : Int} {v0 v1 v2 v3 v4 v5 : Value} {er : Int} {base : Nat} {w w' : World} (h : PRes pz md tag v0 v1 v2 v3 v4 v5 er base w) (hf : Fr E w w') (he : ∀ k, (v2.ownBlock = some k ∨ v3.ownBlock = some k ∨ v4.ownBlock = some k) → ¬ E k) : PRes pz md tag v0 v1 v2 v3 v4 v5 er base w' := by
  rcases h with h | ⟨cs, zs, ch, h1, h2, h3, h4, h5, h6⟩
  · exact Or.inl h
  · exact Or.inr ⟨cs, zs, ch, h1, h2, h3, h4, h5, h6.frL hf he⟩
theorem PRes.grown {pz : Sum Int (List CoinD × List (Int × Int) × Int)} {md tag : Int} {v0 v1 v2 v3 v4 v5 : Value} {er : Int} {base : Nat} {w w' : World} (h : PRes pz md tag v0 v1 v2 v3 v4 v5 er base w) (hb : Below w.heap.size w w') : PRes pz md tag v0 v1 v2 v3 v4 v5 er base w' :=
  h.fr (Fr.of_below hb (fun _ => False)) (fun _ _ e => e)
theorem PRes.blk {pz : Sum Int (List CoinD × List (Int × Int) × Int)} {md tag : Int} {v0 v1 v2 v3 v4 v5 : Value} {er : Int} {base : Nat} {w : World} (h : PRes pz md tag v0 v1 v2 v3 v4 v5 er base w) : ∀ k, (v2.ownBlock = some k ∨ v3.ownBlock = some k ∨ v4.ownBlock = some k) → base ≤ k ∧ k < w.heap.size := fun k hk => by
  rcases h with ⟨x, _, _, _, _, h2, h3, h4, _⟩ | ⟨cs, zs, ch, h1, h2, h3, h4, h5, h6⟩
  · rw [h2, h3, h4] at hk
    rcases hk with e | e | e <;> cases e
  · rcases hk with e | e | e
    · exact h6.oi.blk k e
    · exact h6.oo.blk k e
    · exact h6.ok.blk k e
/-- what a payment leaves of the program's side -/
def PRel (pz : Sum Int (List CoinD × List (Int × Int) × Int)) (a a1 : PgP) (md nx md1 nx1 tag : Int) : Prop :=
  (∃ x, pz = .inl x ∧ a1 = a ∧ md1 = md ∧ nx1 = nx) ∨ (∃ cs zs ch, ∃ p : PayD, pz = .inr (cs, zs, ch) ∧ a1.ps = a.ps ++ [p] ∧ p.k = (md, cs, zs, tag, false) ∧ a1.ks = a.ks ∧ a1.xs = a.xs ∧ md1 = md + 1 ∧ nx1 = if nx ≤ ch then ch + 1 else nx)
def colP (col : Nat → Nat) (z : Nat) (vl : Value) (gc go k : Nat) : Nat := if col k = 0 ∧ vl.ownBlock = some k then z + 3 else if col k = 0 ∧ (k = gc ∨ k = go) then z + 5 else col k
theorem AG.payA {z : Nat} {s : Int} {g : Nat} {N : Nat → Prop} {q : Nat} {col : Nat → Nat} {G P D Dr : Nat} {a : PgP} {b : DgP} {nx : Nat} {w w' : World} {ys : List (Int × Int)} {r tag : Int} {v0 v1 v2 v3 v4 v5 : Value} {er : Int} (h : AG z s g N q col G P D Dr a b nx w) (hr : PayOkR a.NP P s g a.v (b.bls.length : Nat) a.xs a.vl a.vs (b.ms.length : Nat) (nx : Int) a.ps a.ks ys r tag v0 v1 v2 v3 v4 v5 er w w') :
    ∃ col1 a1 md1 nx1, Ext z 1 24 col col1 w' ∧ (∀ k, k < w.heap.size → col k = 0 → col1 k = 0) ∧ Fr (fun k => col k = z + 1 ∨ col k = z + 3) w w' ∧ Pg col1 z w' P s g (b.bls.length : Nat) a1 md1 nx1 ∧ PRes (payZ a.xs s g a.ps a.ks nx ys r tag) (b.ms.length : Nat) tag v0 v1 v2 v3 v4 v5 er w.heap.size w' ∧ (∀ k, (v2.ownBlock = some k ∨ v3.ownBlock = some k ∨ v4.ownBlock = some k) → col1 k = 0) ∧ PRel (payZ a.xs s g a.ps a.ks nx ys r tag) a a1 (b.ms.length : Nat) (nx : Int) md1 nx1 tag := by
  rcases hr with ⟨x, e1, e2, h0, h1, h2, h3, h4, h5, hb⟩ | ⟨cs, zs, ch, e1, e2, h0, h1, h5, vl', gc, cc, go, co, hpp, hpd, hf, hnew⟩
  · refine ⟨col, a, _, _, Ext.refl _ _ _ _ _, fun _ _ h => h, Fr.of_below hb _, h.pg.mv (Fr.of_below hb (fun _ => False)) (fun _ e => e.elim) (fun _ _ => rfl), Or.inl ⟨x, e1, e2, h0, h1, h2, h3, h4, h5⟩, fun k hk => ?_, Or.inl ⟨x, e1, rfl, rfl, rfl⟩⟩
    rw [h2, h3, h4] at hk
    rcases hk with e | e | e <;> cases e
  · have hpg := h.pg
    have hlt : ∀ k, col k ≠ 0 → k < w.heap.size := fun k hk => h.lt hk
    have hvl : ∀ k, vl'.ownBlock = some k → col k = z + 3 ∨ (col k = 0 ∧ w.heap.size ≤ k) := fun k hk => by
      rcases hnew k (Or.inl hk) with e | e
      · exact Or.inl (hpg.k3 k e)
      · exact Or.inr ⟨h.nz k e.1, e.1⟩
    have hgg : ∀ k, (k = gc ∨ k = go) → col k = z + 3 ∨ (col k = 0 ∧ w.heap.size ≤ k) := fun k hk => by
      rcases hnew k (Or.inr hk) with e | e
      · exact Or.inl (hpg.k3 k e)
      · exact Or.inr ⟨h.nz k e.1, e.1⟩
    have hkeep : ∀ k, col k ≠ 0 → colP col z vl' gc go k = col k := fun k hk => by
      unfold colP
      rw [if_neg (fun e => hk e.1), if_neg (fun e => hk e.1)]
    have hpl : ∀ k, (v2.ownBlock = some k ∨ v3.ownBlock = some k ∨ v4.ownBlock = some k) → w.heap.size ≤ k ∧ k < w'.heap.size := fun k hk => by
      rcases hk with e | e | e
      · exact hpd.oi.blk k e
      · exact hpd.oo.blk k e
      · exact hpd.ok.blk k e
    have hls := hpp.ls
    refine ⟨colP col z vl' gc go, { a with vl := vl', NP := fun k => a.NP k ∨ k = gc ∨ k = go, ps := a.ps ++ [⟨(b.ms.length : Nat), some ⟨gc, 0, none⟩, cs.length, cc, some ⟨go, 0, none⟩, zs.length, co, tag, false, cs, zs⟩] }, _, _, fun k => ?_, fun k hk h0 => ?_, hf.weak (fun k _ e => ?_), ⟨hpp, ?_, fun k hk => ?_, fun k hk => ?_, fun k hk => ?_, fun k hk => ?_⟩, Or.inr ⟨cs, zs, ch, e1, e2, h0, h1, h5, hpd⟩, fun k hk => ?_, Or.inr ⟨cs, zs, ch, _, e1, rfl, rfl, rfl, rfl, rfl, rfl⟩⟩
    · unfold colP
      split
      · rename_i e
        exact Or.inr ⟨e.1, by omega, by omega, (hls.ol.blk k e.2).2⟩
      · split
        · rename_i e
          exact Or.inr ⟨e.1, by omega, by omega, (hls.nN k (Or.inr e.2)).1⟩
        · exact Or.inl rfl
    · unfold colP
      rw [if_neg (fun e => by have := hvl k e.2; omega), if_neg (fun e => by have := hgg k e.2; omega)]
      exact h0
    · rcases e with e | e
      · subst e; exact Or.inl hpg.k1
      · exact Or.inr (hpg.k3 k e)
    · rw [hkeep P (by rw [hpg.k1]; omega)]; exact hpg.k1
    · rw [hkeep k (by rw [hpg.k2 k hk]; omega)]; exact hpg.k2 k hk
    · rcases hvl k hk with e | e
      · rw [hkeep k (by omega)]; exact e
      · unfold colP; rw [if_pos ⟨e.1, hk⟩]
    · rw [hkeep k (by rw [hpg.k4 k hk]; omega)]; exact hpg.k4 k hk
    · rcases hk with hk | hk
      · rw [hkeep k (by have := hpg.k5 k hk; omega)]; exact hpg.k5 k hk
      · rcases hgg k hk with e | e
        · rw [hkeep k (by omega)]; exact Or.inr e
        · unfold colP
          rw [if_neg (fun e2 => (hls.nN k (Or.inr hk)).2.2.1 e2.2), if_pos ⟨e.1, hk⟩]
          exact Or.inl rfl
    · have h1 := hpl k hk
      unfold colP
      rw [if_neg (fun e => ?_), if_neg (fun e => ?_)]
      · exact h.nz k h1.1
      · rcases hnew k (Or.inr e.2) with e2 | e2
        · have := (hpg.pp.ls.ol.blk k e2).2; omega
        · rcases hk with e3 | e3 | e3
          · exact e2.2.1 e3
          · exact e2.2.2.1 e3
          · exact e2.2.2.2 e3
      · rcases hnew k (Or.inl e.2) with e2 | e2
        · have := (hpg.pp.ls.ol.blk k e2).2; omega
        · rcases hk with e3 | e3 | e3
          · exact e2.2.1 e3
          · exact e2.2.2.1 e3
          · exact e2.2.2.2 e3
/-- what a payment leaves of the document's side -/
def DRel (pz : Sum Int (List CoinD × List (Int × Int) × Int)) (b b1 : DgP) (nx nx1 : Nat) (tag : Int) : Prop :=
  (∃ x, pz = .inl x ∧ b1 = b ∧ nx1 = nx) ∨ (∃ cs zs ch, ∃ m : MadeD, pz = .inr (cs, zs, ch) ∧ b1.bls = b.bls ∧ b1.ms = b.ms ++ [m] ∧ m.k = (((b.ms.length : Nat) : Int), cs, zs, tag, false) ∧ m.lv = true ∧ m.sg = false ∧ m.num = ((b.ms.length : Nat) : Int) ∧ (nx1 : Int) = if (nx : Int) ≤ ch then ch + 1 else (nx : Int))
def colD (col : Nat → Nat) (z : Nat) (vm v2 v3 v4 vc : Value) (k : Nat) : Nat := if col k = 0 ∧ vm.ownBlock = some k then z + 11 else if col k = 0 ∧ (v2.ownBlock = some k ∨ v3.ownBlock = some k ∨ v4.ownBlock = some k ∨ vc.ownBlock = some k) then z + 12 else col k
theorem Dg.payB {col : Nat → Nat} {z : Nat} {N : Nat → Prop} {w w' : World} {D : Nat} {s : Int} {g : Nat} {b : DgP} {nx : Nat} {L : List CoinD} {ys : List (Int × Int)} {r tag : Int} {v0 v1 v2 v3 v4 v5 : Value} {er : Int} (h : Dg col z N w D s g b nx) (hz : ∀ k, w.heap.size ≤ k → col k = 0) (hN : ∀ k, N k → col k = 0) (hr : DPayOk b.ND D (D + 1) b.vm b.bls s g L b.ms nx ys r tag v0 v1 v2 v3 v4 v5 er w w') :
    ∃ col1 b1 nx1, Ext z 1 24 col col1 w' ∧ (∀ k, k < w.heap.size → col k = 0 → col1 k = 0) ∧ Fr (fun k => col k = z + 7 ∨ col k = z + 11) w w' ∧ Dg col1 z N w' D s g b1 nx1 ∧ PRes (payD b.bls s g L b.ms nx ys r tag) (b.ms.length : Nat) tag v0 v1 v2 v3 v4 v5 er w.heap.size w' ∧ DRel (payD b.bls s g L b.ms nx ys r tag) b b1 nx nx1 tag := by
  rcases hr with ⟨x, e1, e2, h0, h1, h2, h3, h4, h5, hb⟩ | ⟨cs, zs, ch, e1, e2, h0, h1, h5, vm', ai, ci, ap, cp, ak, ck, ac, cc, e3, e4, e5, hdp, hpd, hf, hvm, hac, hce, hfe⟩
  · exact ⟨col, b, nx, Ext.refl _ _ _ _ _, fun _ _ h => h, Fr.of_below hb _, h.mv (Fr.of_below hb (fun _ => False)) (fun _ e => e.elim) (fun _ _ e => e) (fun _ _ => rfl), Or.inl ⟨x, e1, e2, h0, h1, h2, h3, h4, h5⟩, Or.inl ⟨x, e1, rfl, rfl⟩⟩
  · have hvm' : ∀ k, vm'.ownBlock = some k → col k = z + 11 ∨ (col k = 0 ∧ w.heap.size ≤ k) := fun k hk => by
      rcases hvm k hk with e | e
      · exact Or.inl (h.k11 k e)
      · exact Or.inr ⟨hz k e, e⟩
    have hli : ∀ k, (v2.ownBlock = some k ∨ v3.ownBlock = some k ∨ v4.ownBlock = some k ∨ (Value.slice ac cs.length cc).ownBlock = some k) → w.heap.size ≤ k := fun k hk => by
      rcases hk with e | e | e | e
      · exact (hpd.oi.blk k e).1
      · exact (hpd.oo.blk k e).1
      · exact (hpd.ok.blk k e).1
      · exact hac k e
    have hkeep : ∀ k, col k ≠ 0 → colD col z vm' v2 v3 v4 (.slice ac cs.length cc) k = col k := fun k hk => by
      unfold colD
      rw [if_neg (fun e => hk e.1), if_neg (fun e => hk e.1)]
    have hE : ∀ k, (k = D ∨ b.vm.ownBlock = some k) → col k = z + 7 ∨ col k = z + 11 := fun k e => by
      rcases e with e | e
      · subst e; exact Or.inl h.k7
      · exact Or.inr (h.k11 k e)
    have hnE : ∀ k, col k ≠ z + 7 → col k ≠ z + 11 → ¬ (k = D ∨ b.vm.ownBlock = some k) := fun k h1 h2 e => by have := hE k e; omega
    have hnx : ∃ n1 : Nat, (n1 : Int) = if (nx : Int) ≤ ch then ch + 1 else (nx : Int) := by
      split
      · exact ⟨(ch + 1).toNat, by omega⟩
      · exact ⟨nx, rfl⟩
    obtain ⟨nx1, hnx1⟩ := hnx
    have hdc : DCh N w' D b.ao b.c b.bls := by
      have hd := h.dc
      obtain ⟨cs', hch⟩ := hd.ch
      exact ⟨(hce 4 (by omega)).trans hd.c4, fun j => (hfe j).trans (hd.f4 j), ⟨cs', hch.fr hf (fun k hk => hnE k (by rw [hN k hk]; omega) (by rw [hN k hk]; omega)) (fun x hx => hnE _ (by rw [h.k8 x hx]; omega) (by rw [h.k8 x hx]; omega))⟩, hd.nl, hd.cap, hd.ne⟩
    rw [← hnx1] at hdp
    refine ⟨colD col z vm' v2 v3 v4 (.slice ac cs.length cc), { b with vm := vm', ms := b.ms ++ [⟨(b.ms.length : Nat), tag, ai, cs.length, ci, ap, zs.length, cp, ak, cs.length, ck, ch, ac, cs.length, cc, true, false, cs, zs⟩], ND := madeN b.ND v2 v3 v4 (.slice ac cs.length cc) }, nx1, fun k => ?_, fun k hk h0 => ?_, hf.weak (fun k _ e => hE k e), ⟨hdc, ⟨(hce 1 (by omega)).trans h.ad.c1, (hce 2 (by omega)).trans h.ad.c2, (hce 3 (by omega)).trans h.ad.c3, ints_fr hf h.ad.i0 (fun _ x hx => hnE _ (by rw [h.k9 x hx]; omega) (by rw [h.k9 x hx]; omega)), ints_fr hf h.ad.i1 (fun _ x hx => hnE _ (by rw [h.k10 x hx]; omega) (by rw [h.k10 x hx]; omega))⟩, (hce 0 (by omega)).trans h.c0, hdp, ?_, fun x hx => ?_, fun x hx => ?_, fun x hx => ?_, fun k hk => ?_, fun k hk => ?_⟩, Or.inr ⟨cs, zs, ch, e1, e2, h0, h1, h5, hpd⟩, Or.inr ⟨cs, zs, ch, _, e1, rfl, rfl, rfl, rfl, rfl, rfl, hnx1⟩⟩
    · unfold colD
      split
      · rename_i e
        exact Or.inr ⟨e.1, by omega, by omega, (hdp.ow.blk k e.2).2⟩
      · split
        · rename_i e
          exact Or.inr ⟨e.1, by omega, by omega, (hdp.nN k (Or.inr e.2)).1⟩
        · exact Or.inl rfl
    · unfold colD
      rw [if_neg (fun e => by have := hvm' k e.2; omega), if_neg (fun e => by have := hli k e.2; omega)]
      exact h0
    · rw [hkeep D (by rw [h.k7]; omega)]; exact h.k7
    · rw [hkeep _ (by rw [h.k8 x hx]; omega)]; exact h.k8 x hx
    · rw [hkeep _ (by rw [h.k9 x hx]; omega)]; exact h.k9 x hx
    · rw [hkeep _ (by rw [h.k10 x hx]; omega)]; exact h.k10 x hx
    · rcases hvm' k hk with e | e
      · rw [hkeep k (by omega)]; exact e
      · unfold colD; rw [if_pos ⟨e.1, hk⟩]
    · rcases hk with hk | hk
      · rw [hkeep k (by rw [h.k12 k hk]; omega)]; exact h.k12 k hk
      · have h1 := hli k hk
        have h2 := hz k h1
        unfold colD
        rw [if_neg (fun e => (hdp.nN k (Or.inr hk)).2.2 e.2), if_pos ⟨h2, hk⟩]
end Go.Proofs.YtffgpepngcnjeaaGreat

namespace Go.Proofs.YtffgpepngcnjeaaGreat
open Go.RowKit
theorem pres_shape {pz : Sum Int (List CoinD × List (Int × Int) × Int)} {md tag : Int} {v0 v1 v2 v3 v4 v5 : Value} {er : Int} {base : Nat} {w : World} (h : PRes pz md tag v0 v1 v2 v3 v4 v5 er base w) : ∃ n0 t ai ni ci ap np cp ak nk ck ch, v0 = .int .i64 n0 ∧ v1 = .int .i64 t ∧ v2 = .slice ai ni ci ∧ v3 = .slice ap np cp ∧ v4 = .slice ak nk ck ∧ v5 = .int .i64 ch := by
  rcases h with ⟨x, _, _, h0, h1, h2, h3, h4, h5⟩ | ⟨cs, zs, ch, _, _, h0, h1, h5, h6⟩
  · exact ⟨_, _, _, _, _, _, _, _, _, _, _, _, h0, h1, h2, h3, h4, h5⟩
  · obtain ⟨ai, ci, e2, _⟩ := OwnRec.at inC3 h6.oi
    obtain ⟨ap, cp, e3, _⟩ := OwnRec.at kv2 h6.oo
    obtain ⟨ak, ck, e4, _⟩ := OwnRec.at kC2 h6.ok
    exact ⟨_, _, _, _, _, _, _, _, _, _, _, _, h0, h1, e2, e3, e4, h5⟩
/-- all but what ties the two sides -/
structure S1 (z : Nat) (s : Int) (g : Nat) (N : Nat → Prop) (q : Nat) (col : Nat → Nat) (G P D Dr : Nat) (a : PgP) (b : DgP) (nx : Nat) (md1 nx1 : Int) (w : World) : Prop where
  pg : Pg col z w P s g (b.bls.length : Nat) a md1 nx1
  dg : Dg col z N w D s g b nx
  dr : DrA col z w Dr q
  gm : VRow w G 0 [.pointer (some ⟨P, 0, none⟩), .pointer (some ⟨D, 0, none⟩), .pointer (some ⟨Dr, 0, none⟩)]
  kg : col G = z + 6
  nz : ∀ k, w.heap.size ≤ k → col k = 0
  nn : ∀ k, N k → col k = 0 ∧ k < w.heap.size
theorem S1.mv {z : Nat} {s : Int} {g : Nat} {N : Nat → Prop} {q : Nat} {col col' : Nat → Nat} {G P D Dr : Nat} {a : PgP} {b : DgP} {nx : Nat} {md1 nx1 : Int} {w w' : World} {E : Nat → Prop} (h : S1 z s g N q col G P D Dr a b nx md1 nx1 w) (hf : Fr E w w') (hE : ∀ k, E k → ¬ (z + 1 ≤ col k ∧ col k ≤ z + 24)) (hN : ∀ k, N k → ¬ E k) (hc : ∀ k, col k ≠ 0 → col' k = col k) (hn : ∀ k, N k → col' k = 0) (hz : ∀ k, w'.heap.size ≤ k → col' k = 0) : S1 z s g N q col' G P D Dr a b nx md1 nx1 w' :=
  ⟨h.pg.mv hf (fun k e h => hE k e (by omega)) hc, h.dg.mv hf (fun k e h => hE k e (by omega)) hN hc, h.dr.mv hf (fun k e h => hE k e (by omega)) hc (Nat.le_refl _), hf.vrow h.gm (fun e => hE G e (by rw [h.kg]; omega)), by rw [hc G (by rw [h.kg]; omega)]; exact h.kg, hz, fun k hk => ⟨hn k hk, Nat.lt_of_lt_of_le (h.nn k hk).2 hf.size⟩⟩
theorem S1.grown {z : Nat} {s : Int} {g : Nat} {N : Nat → Prop} {q : Nat} {col : Nat → Nat} {G P D Dr : Nat} {a : PgP} {b : DgP} {nx : Nat} {md1 nx1 : Int} {w w' : World} (h : S1 z s g N q col G P D Dr a b nx md1 nx1 w) (hb : Below w.heap.size w w') : S1 z s g N q col G P D Dr a b nx md1 nx1 w' :=
  h.mv (Fr.of_below hb (fun _ => False)) (fun _ e => e.elim) (fun _ _ e => e) (fun _ _ => rfl) (fun k hk => (h.nn k hk).1) (fun k hk => h.nz k (Nat.le_trans hb.size hk))
theorem S1.lt {z : Nat} {s : Int} {g : Nat} {N : Nat → Prop} {q : Nat} {col : Nat → Nat} {G P D Dr : Nat} {a : PgP} {b : DgP} {nx : Nat} {md1 nx1 : Int} {w : World} (h : S1 z s g N q col G P D Dr a b nx md1 nx1 w) {k : Nat} (hk : col k ≠ 0) : k < w.heap.size :=
  Classical.byContradiction fun e => hk (h.nz k (by omega))
/-- behind the program's Pay: its answer lies in block K -/
structure YA (z : Nat) (s : Int) (g : Nat) (N : Nat → Prop) (q : Nat) (col : Nat → Nat) (G P D Dr : Nat) (a : PgP) (b : DgP) (nx : Nat) (ys : List (Int × Int)) (r tag : Int) (XE : Nat → Prop) (w : World) (col1 : Nat → Nat) (a1 : PgP) (md1 nx1 : Int) (K : Nat) (v0 v1 v2 v3 v4 v5 : Value) (er : Int) (wx : World) : Prop where
  s1 : S1 z s g N (13 * q) col1 G P D Dr a1 b nx md1 nx1 wx
  ext : Ext z 1 24 col col1 wx
  old : ∀ k, k < w.heap.size → col k = 0 → col1 k = 0
  fr : Fr (fun k => (z < col k ∧ col k ≤ z + 24) ∨ XE k) w wx
  vb : VB wx K v0 v1 v2 v3 v4 v5
  kk : col1 K = 0 ∧ w.heap.size ≤ K
  res : PRes (payZ a.xs s g a.ps a.ks nx ys r tag) (b.ms.length : Nat) tag v0 v1 v2 v3 v4 v5 er w.heap.size wx
  lst : ∀ k, (v2.ownBlock = some k ∨ v3.ownBlock = some k ∨ v4.ownBlock = some k) → col1 k = 0 ∧ k ≠ K
  rel : PRel (payZ a.xs s g a.ps a.ks nx ys r tag) a a1 (b.ms.length : Nat) (nx : Int) md1 nx1 tag
theorem YA.fr' {z : Nat} {s : Int} {g : Nat} {N : Nat → Prop} {q : Nat} {col : Nat → Nat} {G P D Dr : Nat} {a : PgP} {b : DgP} {nx : Nat} {ys : List (Int × Int)} {r tag : Int} {XE : Nat → Prop} {w : World} {col1 : Nat → Nat} {a1 : PgP} {md1 nx1 : Int} {K : Nat} {v0 v1 v2 v3 v4 v5 : Value} {er : Int} {wx wy : World} {E XE' : Nat → Prop} (h : YA z s g N q col G P D Dr a b nx ys r tag XE w col1 a1 md1 nx1 K v0 v1 v2 v3 v4 v5 er wx) (hf : Fr E wx wy) (hE : ∀ k, E k → col1 k = 0 ∧ ¬ N k ∧ k ≠ K ∧ ¬ (v2.ownBlock = some k ∨ v3.ownBlock = some k ∨ v4.ownBlock = some k)) (hw : ∀ k, E k → XE' k) (hx : ∀ k, XE k → XE' k) : YA z s g N q col G P D Dr a b nx ys r tag XE' w col1 a1 md1 nx1 K v0 v1 v2 v3 v4 v5 er wy :=
  ⟨h.s1.mv hf (fun k e => by have := (hE k e).1; omega) (fun k hk e => (hE k e).2.1 hk) (fun _ _ => rfl) (fun k hk => (h.s1.nn k hk).1) (fun k hk => h.s1.nz k (Nat.le_trans hf.size hk)), h.ext.weak (Nat.le_refl _) (Nat.le_refl _) hf.size, h.old, (h.fr.weak (fun k _ e => e.imp id (hx k))).trans (hf.weak (fun k _ e => Or.inr (hw k e))), h.vb.fr hf (fun e => (hE K e).2.2.1 rfl), h.kk, h.res.fr hf (fun k hk e => (hE k e).2.2.2 hk), h.lst, h.rel⟩
theorem YA.grown {z : Nat} {s : Int} {g : Nat} {N : Nat → Prop} {q : Nat} {col : Nat → Nat} {G P D Dr : Nat} {a : PgP} {b : DgP} {nx : Nat} {ys : List (Int × Int)} {r tag : Int} {XE : Nat → Prop} {w : World} {col1 : Nat → Nat} {a1 : PgP} {md1 nx1 : Int} {K : Nat} {v0 v1 v2 v3 v4 v5 : Value} {er : Int} {wx wy : World} (h : YA z s g N q col G P D Dr a b nx ys r tag XE w col1 a1 md1 nx1 K v0 v1 v2 v3 v4 v5 er wx) (hb : Below wx.heap.size wx wy) : YA z s g N q col G P D Dr a b nx ys r tag XE w col1 a1 md1 nx1 K v0 v1 v2 v3 v4 v5 er wy :=
  h.fr' (Fr.of_below hb (fun _ => False)) (fun _ e => e.elim) (fun _ e => e.elim) (fun _ e => e)
theorem fr6K (w : World) (B : Nat) (b0 b1 b2 b3 b4 b5 : Value) : Fr (fun k => k = B) w ((((((w.setCell ⟨B, 0, none⟩ b0).setCell ⟨B, 1, none⟩ b1).setCell ⟨B, 2, none⟩ b2).setCell ⟨B, 3, none⟩ b3).setCell ⟨B, 4, none⟩ b4).setCell ⟨B, 5, none⟩ b5) :=
  ((((((Fr.refl (fun k => k = B) w).set B 0 b0 (fun _ => rfl)).set B 1 b1 (fun _ => rfl)).set B 2 b2 (fun _ => rfl)).set B 3 b3 (fun _ => rfl)).set B 4 b4 (fun _ => rfl)).set B 5 b5 (fun _ => rfl)
/-- the two orders of the region: the answer's block is made behind the call, or ahead of it -/
theorem AG.ya1 {z : Nat} {s : Int} {g : Nat} {N : Nat → Prop} {q : Nat} {col : Nat → Nat} {G P D Dr : Nat} {a : PgP} {b : DgP} {nx : Nat} {XE : Nat → Prop} {w w1 w3 : World} {ys : List (Int × Int)} {r tag : Int} {v0 v1 v2 v3 v4 v5 : Value} {er : Int} (h : AG z s g N q col G P D Dr a b nx w) (hb : Below w.heap.size w w1) (hr : PayOkR a.NP P s g a.v (b.bls.length : Nat) a.xs a.vl a.vs (b.ms.length : Nat) (nx : Int) a.ps a.ks ys r tag v0 v1 v2 v3 v4 v5 er w1 w3) :
    (∃ col1 a1 md1 nx1, YA z s g N q col G P D Dr a b nx ys r tag XE w col1 a1 md1 nx1 w3.heap.size v0 v1 v2 v3 v4 v5 er (w3.alloc (.cells #[v0, v1, v2, v3, v4, v5] 91))) ∧
    (∀ K, w.heap.size ≤ K → K < w1.heap.size → (∀ j, w1.frozen? ⟨K, j, none⟩ = false) → (∃ a0 a1 a2 a3 a4 a5, VB w1 K a0 a1 a2 a3 a4 a5) → ∃ col1 a1 md1 nx1, YA z s g N q col G P D Dr a b nx ys r tag XE w col1 a1 md1 nx1 K v0 v1 v2 v3 v4 v5 er ((((((w3.setCell ⟨K, 0, none⟩ v0).setCell ⟨K, 1, none⟩ v1).setCell ⟨K, 2, none⟩ v2).setCell ⟨K, 3, none⟩ v3).setCell ⟨K, 4, none⟩ v4).setCell ⟨K, 5, none⟩ v5)) := by
  have h1 := h.grown hb
  obtain ⟨col1, a1, md1, nx1, e1, e2, e3, e4, e5, e6, e7⟩ := h1.payA hr
  have hsz := hb.size
  have hkeep : ∀ k, col k ≠ 0 → col1 k = col k := fun k hk => e1.same hk
  have hz3 : ∀ k, w3.heap.size ≤ k → col1 k = 0 := Ext.zero (w := w1) e1 e3.size h1.nz
  have hnn : ∀ k, N k → col1 k = 0 ∧ k < w3.heap.size := fun k hk => ⟨e2 k (h1.nn k hk).2 (h1.nn k hk).1, Nat.lt_of_lt_of_le (h1.nn k hk).2 e3.size⟩
  have hS : S1 z s g N (13 * q) col1 G P D Dr a1 b nx md1 nx1 w3 := ⟨e4, h1.dg.mv e3 (fun k e => by omega) (fun k hk e => by have := (h1.nn k hk).1; omega) hkeep, h1.dr.mv e3 (fun k e => by omega) hkeep (Nat.le_refl _), e3.vrow h1.gm (fun e => by have := h1.kg; omega), by rw [hkeep G (by rw [h1.kg]; omega)]; exact h1.kg, hz3, hnn⟩
  have hfr : Fr (fun k => (z < col k ∧ col k ≤ z + 24) ∨ XE k) w w3 := (Fr.of_below hb _).trans (e3.weak (fun k _ e => Or.inl (by omega)))
  have hlow : PRes (payZ a.xs s g a.ps a.ks nx ys r tag) (b.ms.length : Nat) tag v0 v1 v2 v3 v4 v5 er w.heap.size w3 := by
    rcases e5 with e | ⟨cs, zs, ch, f1, f2, f3, f4, f5, f6⟩
    · exact Or.inl e
    · exact Or.inr ⟨cs, zs, ch, f1, f2, f3, f4, f5, f6.lower hsz⟩
  refine ⟨⟨col1, a1, md1, nx1, ?_⟩, fun K hK1 hK2 hKf ⟨b0, b1, b2, b3, b4, b5, hvb⟩ => ⟨col1, a1, md1, nx1, ?_⟩⟩
  · have hb3 : Below w3.heap.size w3 (w3.alloc (.cells #[v0, v1, v2, v3, v4, v5] 91)) := (Below.refl _ _).alloc (Nat.le_refl _) _
    exact ⟨hS.grown hb3, e1.weak (Nat.le_refl _) (Nat.le_refl _) hb3.size, fun k hk h0 => e2 k (by omega) h0, hfr.trans (Fr.of_below hb3 _), VB.new _ _ _ _ _ _ _ _, ⟨hz3 _ (Nat.le_refl _), Nat.le_trans hsz e3.size⟩, hlow.grown hb3, fun k hk => ⟨e6 k hk, fun e => by have := (hlow.blk k hk).2; omega⟩, e7⟩
  · have hcK : col K = 0 := h.nz K hK1
    have hcK1 : col1 K = 0 := e2 K hK2 hcK
    have hf : Fr (fun k => k = K) w3 ((((((w3.setCell ⟨K, 0, none⟩ v0).setCell ⟨K, 1, none⟩ v1).setCell ⟨K, 2, none⟩ v2).setCell ⟨K, 3, none⟩ v3).setCell ⟨K, 4, none⟩ v4).setCell ⟨K, 5, none⟩ v5) := fr6K w3 K v0 v1 v2 v3 v4 v5
    have hvb3 := hvb.fr e3 (fun e => by omega)
    have hnK : ∀ k, (v2.ownBlock = some k ∨ v3.ownBlock = some k ∨ v4.ownBlock = some k) → k ≠ K := fun k hk e => by
      have := (e5.blk k hk).1
      omega
    exact ⟨hS.mv hf (fun k e => by rw [e, hcK1]; omega) (fun k hk e => by subst e; have := (h.nn k hk).2; omega) (fun _ _ => rfl) (fun k hk => (hnn k hk).1) (fun k hk => hz3 k (Nat.le_trans hf.size hk)), e1.weak (Nat.le_refl _) (Nat.le_refl _) hf.size, fun k hk h0 => e2 k (by omega) h0, Fr.trans_new2 hfr hf (fun k e => by omega), (((((hvb3.s0 v0).s1 v1).s2 v2).s3 v3).s4 v4).s5 v5, ⟨hcK1, hK1⟩, hlow.fr hf (fun k hk e => hnK k hk e), fun k hk => ⟨e6 k hk, hnK k hk⟩, e7⟩
end Go.Proofs.YtffgpepngcnjeaaGreat
