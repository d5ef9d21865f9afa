import Derived.Test.YtffgpepngcnjeabGreatSba
import Derived.Test.YtffgpepngcnjeabGreatSay
namespace Go.Proofs.YtffgpepngcnjeabGreat
set_option maxRecDepth 100000
set_option maxHeartbeats 8000000
section
open Go.RowKit
variable {k D base g c n j nm b R : Nat} {Nd : NPr} {nx s : Int} {w wz : World} {ps : List PayD} {ks : LII} {p : PayD} {vm t v1 v2 : Value} {bls : List (List TxD)} {o : Obj}
def liveB (ms : List MadeD) (k : Int) : Bool := decide (0 ≤ k) && (decide (k < (ms.length : Nat)) && (ms.getD k.toNat dM).lv)
theorem live_any (D : Nat) (ao : OAd) (n c : Nat) (ms : List MadeD) (k : Int) (w : World) (hp : w.cell? ⟨D, 5, none⟩ = some (.slice ao n c)) (hx : RcT MadeD.v w ao ms) (hn : ms.length = n) :
 Calls Tryz.prog 118 #[.pointer (some ⟨D, 0, none⟩), .int .i64 k] w fun e w' => e = .returned (.bool (liveB ms k)) ∧ w = w' := by
 by_cases h0 : 0 ≤ k
 ·have d0 : decide (0 ≤ k) = true := decide_eq_true h0
  obtain ⟨j, rfl⟩ : ∃ j : Nat, k = (j : Int) := ⟨k.toNat, by omega⟩
  by_cases h1 : j < n
  ·have HL : Hid (liveB ms (j : Int) = (ms.getD j dM).lv) := by
    show _ = _
    unfold liveB
    rw [decide_eq_true h0, decide_eq_true (show (j : Int) < (ms.length : Nat) by omega)]
    rfl
   rcases hx with hnil | ⟨g, off, rfl, hrow⟩
   ·rw [hnil] at hn; simp at hn; omega
   have hM := madeCells hrow j (by rw [hn]; exact h1)
   have c7 := hM.c7
   clear hM hrow hn
   generalize (ms.getD j dM).lv = b at *
   have d1 : decide ((j : Int) < (n : Int)) = true := decide_eq_true (by omega)
   have e1 : (j : Int) < (n : Int) := by omega
   go_enter Tryz.func118, Tryz.ntmps118
   go_wp2
   go_ret
   exact ⟨rbL HL.out.symm, rfl⟩
  ·have HL : Hid (liveB ms (j : Int) = false) := by
    show _ = _
    unfold liveB
    rw [decide_eq_false (show ¬ (j : Int) < (ms.length : Nat) by omega)]
    simp
   have d1 : decide ((j : Int) < (n : Int)) = false := decide_eq_false (by omega)
   clear hx
   go_enter Tryz.func118, Tryz.ntmps118
   go_wp2
   go_ret
   exact ⟨rbL HL.out.symm, rfl⟩
 ·have HL : Hid (liveB ms k = false) := by
   show _ = _
   unfold liveB
   rw [decide_eq_false h0]
   rfl
  have d0 : decide (0 ≤ k) = false := decide_eq_false h0
  clear hx
  go_enter Tryz.func118, Tryz.ntmps118
  go_wp2
  go_ret
  exact ⟨rbL HL.out.symm, rfl⟩
theorem liveB_true {ms : List MadeD} {k : Int} (h : liveB ms k = true) : ∃ n : Nat, k = (n : Int) ∧ n < ms.length ∧ (ms.getD n dM).lv = true := by
 unfold liveB at h
 rw [Bool.and_eq_true, Bool.and_eq_true, decide_eq_true_iff, decide_eq_true_iff] at h
 obtain ⟨h1, h2, h3⟩ := h
 exact ⟨k.toNat, by omega, by omega, h3⟩
theorem liveB_iff (ms : List MadeD) (k : Int) : liveB ms k = true ↔ ∃ n : Nat, k = (n : Int) ∧ n < ms.length ∧ (ms.getD n dM).lv = true := by
 refine ⟨liveB_true, ?_⟩
 rintro ⟨n, rfl, h1, h2⟩
 unfold liveB
 rw [decide_eq_true (show (0 : Int) ≤ (n : Int) by omega), decide_eq_true (show (n : Int) < (ms.length : Nat) by omega)]
 exact h2
def DAbOk (Nd : NPr) (D base : Nat) (vm : Value) (nx : Int) (ms : List MadeD) (k : Int) (er : Int) (w w' : World) : Prop :=
 (liveB ms k = false ∧ er = 11 ∧ w = w') ∨ (∃ n : Nat, k = (n : Int) ∧ n < ms.length ∧ (ms.getD n dM).lv = true ∧ er = 0 ∧ DPy Nd w' D base vm nx (offD ms n) ∧ Fr (fun q => vm.ownBlock = some q) w w')
theorem DPy.put {ms : List MadeD} (hd : DPy Nd w D base (.slice (some ⟨g, 0, none⟩) ms.length c) nx ms) (n i : Nat) (hn : n < ms.length) (hi : i < 9) (u : Value) (y : MadeD) (hy : (MadeD.v ms[n]).set i u = y.v) (hok : MadeOk Nd w y) : DPy Nd (w.setCell ⟨g, n * 9 + i, none⟩ u) D base (.slice (some ⟨g, 0, none⟩) ms.length c) nx (ms.set n y) := by
 have hf : Fr (fun k => k = g) w (w.setCell ⟨g, n * 9 + i, none⟩ u) := (Fr.refl _ w).set g _ _ (fun _ => rfl)
 have hgD : D ≠ g := fun e => by have := (hd.ow.blk g rfl).1; have := hd.nb; omega
 have ho := ORC.put made9 hd.ow n i hn hi u y hy
 refine ⟨hf.cell hd.c5 hgD, hf.cell hd.c6 hgD, by rw [World.frozen?_setCell]; exact hd.f5, by rw [World.frozen?_setCell]; exact hd.f6, ho, fun a ha => ?_, hd.nb, fun k hk => ⟨by simpa using (hd.nN k hk).1, (hd.nN k hk).2⟩⟩
 have hNg : ∀ k, Nd k → ¬ k = g := fun k hk e => (hd.nN k hk).2.2 (by rw [e]; rfl)
 rcases List.mem_or_eq_of_mem_set ha with ha | ha
 ·exact (hd.ok a ha).fr hf hNg
 ·rw [ha]; exact hok.fr hf hNg
theorem dAbandon_any (Nd : NPr) (D base : Nat) (vm : Value) (nx : Int) (ms : List MadeD) (k : Int) (w : World) (hd : DPy Nd w D base vm nx ms) (hml : ms.length ≤ 100000000) :
 Calls Tryz.prog 69 #[.pointer (some ⟨D, 0, none⟩), .int .i64 k] w fun e w' => ∃ er, e = .returned (.int .i64 er) ∧ DAbOk Nd D base vm nx ms k er w w' := by
 obtain ⟨am, cm, em, hat⟩ := ORC.at made9 hd.ow
 subst em
 have HD := hiD hd
 have HAT := hiD hat
 have d5 := hd.c5
 clear hd hat
 cases hl : liveB ms k
 ·generalize hn : ms.length = n at *
  have HN := hiD hn
  have HL := hiD hl
  clear hn
  go_enter Tryz.func69, Tryz.ntmps69
  go_wp2_with (go_at_call 118; refine (live_any D am n cm ms k _ d5 HAT HN).mono ?_; rintro e w' ⟨rfl, rfl⟩; rw [hl])
  go_ret
  exact ⟨11, rfl, Or.inl ⟨HL, rfl, rfl⟩⟩
 ·obtain ⟨j, rfl, hj, hlv⟩ := liveB_true hl
  obtain ⟨g, eg, _, hgl, _, hgf⟩ := osE made9 HD.out.ow rfl (by omega)
  subst eg
  have hf7 := hgf (j * 9 + 7)
  rcases HAT.out with hnil | ⟨b, off, eb, hrow⟩
  ·rw [hnil] at hj; simp at hj
  injection eb with eb
  injection eb with eb1 eb2 _
  subst eb1
  subst eb2
  have c7 := (madeCells hrow j hj).c7
  rw [Nat.zero_add] at c7
  clear hrow
  have HP : Hid (DPy Nd (w.setCell ⟨g, j * 9 + 7, none⟩ (.bool false)) D base (.slice (some ⟨g, 0, none⟩) ms.length cm) nx (offD ms j)) := by
   have hok := HD.out.ok (ms.getD j dM) (gDM ms dM j hj)
   exact HD.out.put j 7 hj (by omega) (.bool false) (ms.getD j dM).off (by simp [MadeD.v, MadeD.off, List.getD, hj]) ⟨hok.ins, hok.outs, hok.keys, hok.coins, hok.ln, hok.lm, hok.lq, hok.lx, hok.b1, hok.b2, hok.ni, hok.no⟩
  have HF : Hid (Fr (fun q => (Value.slice (some ⟨g, 0, none⟩) ms.length cm).ownBlock = some q) w (w.setCell ⟨g, j * 9 + 7, none⟩ (.bool false))) := (Fr.refl _ w).set g _ _ (fun _ => rfl)
  have HLV := hiD hlv
  have HJ := hiD hj
  have hjI : (j : Int) < ((ms.length : Nat) : Int) := by omega
  have hj0 : (0 : Int) ≤ (j : Int) := by omega
  have HAK : Hid (∀ er w', DAbOk Nd D base (.slice (some ⟨g, 0, none⟩) ms.length cm) nx ms (j : Int) er w w' ↔ ((liveB ms (j : Int) = false ∧ er = 11 ∧ w = w') ∨ (∃ n : Nat, (j : Int) = (n : Int) ∧ n < ms.length ∧ (ms.getD n dM).lv = true ∧ er = 0 ∧ DPy Nd w' D base (.slice (some ⟨g, 0, none⟩) ms.length cm) nx (offD ms n) ∧ Fr (fun q => (Value.slice (some ⟨g, 0, none⟩) ms.length cm).ownBlock = some q) w w'))) := fun _ _ => Iff.rfl
  generalize hn : ms.length = n at *
  have HN := hiD hn
  clear hn hlv hj hgf
  go_enter Tryz.func69, Tryz.ntmps69
  go_wp2_with (go_at_call 118; refine (live_any D _ n cm ms (j : Int) _ d5 HAT HN).mono ?_; rintro e w' ⟨rfl, rfl⟩; rw [hl])
  go_ret
  exact ⟨0, rfl, (HAK _ _).2 (Or.inr ⟨j, rfl, HJ, HLV, rfl, HP, HF⟩)⟩
def freeD (ms : List MadeD) (x : CoinD) : Bool := !takenB ms x.id x.pos && !usedR ms x.br x.ix
theorem sumF_snoc (p : CoinD → Bool) (cs : List CoinD) (k : Nat) (h : k < cs.length) : sumC ((cs.take (k + 1)).filter p) = sumC ((cs.take k).filter p) + if p (cs.getD k dN) = true then (cs.getD k dN).val else 0 := by
 rw [filter_snoc p cs dN k h]
 unfold sumC
 rw [List.map_append, List.sum_append]
 split <;> simp
theorem dBalance_any (N Nd : NPr) (D base : Nat) (ao : OAd) (c : Nat) (bls : List (List TxD)) (s : Int) (g : Nat) (ar : OAd) (cr : Nat) (ac : OAd) (cc : Nat) (vm : Value) (nx : Int) (ms : List MadeD) (w : World) (hx : DCh N w D ao c bls) (hg : Good bls) (hm : bls.length ≤ 40) (ha : DAd w D s g ar cr ac cc) (g1 : g ≤ 20) (hd : DPy Nd w D base vm nx ms) (hml : ms.length ≤ 100000000) (cs : List CoinD) (hcs : ownR (clR bls) (adrs s 0 100) (adrs s 1 100) (winR (clR bls) s g 0) (winR (clR bls) s g 1) = cs) (hl : cs.length ≤ 100000) (hv : ∀ x ∈ cs, 0 ≤ x.val ∧ x.val ≤ 1099511627776) :
 Calls Tryz.prog 125 #[.pointer (some ⟨D, 0, none⟩)] w fun e w' => e = .returned (.tuple #[.int .i64 (sumC cs), .int .i64 (sumC (cs.filter (freeD ms)))]) ∧ Below w.heap.size w w' := by
 have HX := hiD hx
 have HG := hiD hg
 have HA := hiD ha
 have HV := hiD hv
 have HCS := hiD hcs
 have HD := hiD hd
 clear hx hg ha hv hcs hd
 go_enter Tryz.func125, Tryz.ntmps125
 go_wp2_with fail
 refine (rCoins_any N D ao c bls s g ar cr ac cc _ HX HG hm HA g1).mono ?_
 rw [HCS.out]
 rintro e w1 ⟨v, rfl, hown, hb1⟩
 obtain ⟨al, cl, rfl, hat⟩ := ORC.at ci6 hown
 have HAT := hiD hat
 have HD1 := hiD (HD.out.grown hb1)
 clear hown hat HX HG HA HCS HD
 generalize hnl : cs.length = n at *
 have HN := hiD hnl
 clear hnl
 go_wp2
 go_loopw [5, 6, 7] (fun u v i wr => ∃ (k : Nat) (S T : Int), k ≤ n ∧ u = .int .i64 S ∧ v = .int .i64 T ∧ i = .int .i64 k ∧ Hid (((cs.take k).map CoinD.val).sum = S) ∧ Hid (sumC ((cs.take k).filter (freeD ms)) = T) ∧ Below w1.heap.size w1 wr) (fun _ _ i _ => n - (intOf i).toNat)
 case atStart => exact ⟨0, 0, 0, Nat.zero_le _, rfl, rfl, rfl, rfl, rfl, Below.refl _ _⟩
 case round =>
  obtain ⟨k, S, T, hk, rfl, rfl, rfl, hS, hT, hbl⟩ := hrel
  by_cases hlt : k < n
  ·rcases HAT.out with hnil | ⟨gg, off, rfl, hrow⟩
   ·have := HN.out; rw [hnil] at this; simp at this; omega
   obtain ⟨c0, c1, c2, c3, c4, c5⟩ := cCS (hrow.grown hbl) k (by rw [HN.out]; exact hlt)
   have HS : Hid _ := sum_snoc CoinD.val cs dN k (by rw [HN.out]; exact hlt)
   have HT : Hid _ := sumF_snoc (freeD ms) cs k (by rw [HN.out]; exact hlt)
   have hSb := sum_bd CoinD.val 1099511627776 (cs.take k) (fun x hx => HV.out x (List.mem_of_mem_take hx))
   have hTb := sum_bd CoinD.val 1099511627776 ((cs.take k).filter (freeD ms)) (fun x hx => HV.out x (List.mem_of_mem_take (List.mem_filter.1 hx).1))
   have hyb := HV.out (cs.getD k dN) (gDM cs dN k (by rw [HN.out]; exact hlt))
   have hT1 : (((cs.take k).filter (freeD ms)).map CoinD.val).sum = T := hT.out
   rw [hS.out] at hSb
   rw [hT1] at hTb
   have hl2 : (cs.take k).length ≤ 100000 := by rw [List.length_take]; omega
   have hl3 : ((cs.take k).filter (freeD ms)).length ≤ 100000 := leT (List.length_filter_le _ _) hl2
   have hS2 : 0 ≤ S ∧ S ≤ 110000000000000000 := ⟨hSb.1, by omega⟩
   have hT2 : 0 ≤ T ∧ T ≤ 110000000000000000 := ⟨hTb.1, by omega⟩
   have HD2 := hiD (HD1.out.grown hbl)
   obtain ⟨am, cm, em, hmat⟩ := ORC.at made9 HD2.out.ow
   have HP2 : Hid (wr.cell? ⟨D, 5, none⟩ = some (.slice am ms.length cm)) := by rw [← em]; exact HD2.out.c5
   have HMA := hiD hmat
   clear hrow hSb hTb hl2 hl3 hT1 em hmat
   generalize cs.getD k dN = y at c0 c1 c2 c3 c4 c5 HS HT hyb
   have HF : Hid (freeD ms y = (!takenB ms y.id y.pos && !usedR ms y.br y.ix)) := rfl
   obtain ⟨y0, y1, y2, yval, y4, y5⟩ := y
   simp only at c0 c1 c2 c3 c4 c5 hyb HF
   have e1 : (0 : Int) ≤ (k : Int) := by omega
   have e2 : (k : Int) < (n : Int) := by omega
   have hw1 : IntKind.i64.wrap (S + yval) = S + yval := IntWalk.i64_in _ ⟨by omega, by omega⟩
   have hw2 : IntKind.i64.wrap (T + yval) = T + yval := IntWalk.i64_in _ ⟨by omega, by omega⟩
   go_wp2_with fail
   refine (dFree_any Nd D am ms.length cm ms ⟨y0, y1, y2, yval, y4, y5⟩ _ HP2 HMA rfl (by omega) HD2.out.ok).mono ?_
   simp only
   rw [← HF.out]
   rintro e w3 ⟨rfl, hb3⟩
   have d3 := (hb3.cell (p := ⟨gg, off + k * 6 + 3, none⟩) (clT c3)).trans c3
   have hbl3 := bwK hbl hb3
   clear c0 c1 c2 c3 c4 c5 HF
   cases hfr : freeD ms ⟨y0, y1, y2, yval, y4, y5⟩
   ·have HT3 : Hid (sumC ((cs.take (k + 1)).filter (freeD ms)) = T) := by show _ = _; rw [HT.out, hfr, if_neg (by simp), hT.out, Int.add_zero]
    go_wp2
    go_roundw
    case rel => exact ⟨k + 1, S + yval, T, by omega, rfl, rfl, by go_num, by show _ = _; rw [HS.out, hS.out], HT3, hbl3⟩
    case measure => simp [intOf]; omega
   ·have HT3 : Hid (sumC ((cs.take (k + 1)).filter (freeD ms)) = T + yval) := by show _ = _; rw [HT.out, hfr, if_pos rfl, hT.out]
    go_wp2
    go_roundw
    case rel => exact ⟨k + 1, S + yval, T + yval, by omega, rfl, rfl, by go_num, by show _ = _; rw [HS.out, hS.out], HT3, hbl3⟩
    case measure => simp [intOf]; omega
  ·have hfl : cs.take k = cs := List.take_of_length_le (by rw [HN.out]; omega)
   have HSe : Hid (sumC cs = S) := by show _ = _; rw [← hS.out, hfl]; rfl
   have HTe : Hid (sumC (cs.filter (freeD ms)) = T) := by show _ = _; rw [← hT.out, hfl]
   clear hfl
   go_wp2
   go_ret2
   rw [HSe.out, HTe.out]
   exact ⟨rfl, bwK hb1 hbl⟩
theorem used_addKey (ks : LII) (x : CoinD) (b i : Int) : usedB (addKey ks x) (b, i) = (usedB ks (b, i) || (x.br == b && x.ix == i)) := by
 unfold addKey
 split
 ·rename_i h
  cases hx : (x.br == b && x.ix == i)
  ·simp
  ·rw [Bool.and_eq_true, beq_iff_eq, beq_iff_eq] at hx
   obtain ⟨rfl, rfl⟩ := hx
   rw [h]; rfl
 ·unfold usedB; rw [List.any_append]; simp
theorem used_addKeys : ∀ (cs : List CoinD) (ks : LII) (b i : Int), usedB (aeZ ks cs) (b, i) = (usedB ks (b, i) || cs.any fun x => x.br == b && x.ix == i)
 | [], ks, b, i => by simp [aeZ]
 | x :: r, ks, b, i => by
  have e : aeZ ks (x :: r) = aeZ (addKey ks x) r := rfl
  rw [e, used_addKeys r, used_addKey, List.any_cons, Bool.or_assoc]
def MadeD.on (a : MadeD) : MadeD := { a with sg := true }
def onD (ms : List MadeD) (n : Nat) : List MadeD := ms.set n (ms.getD n dM).on
def onK (n : Int) (t : PK) : PK := if t.1 = n then (t.1, t.2.1, t.2.2.1, t.2.2.2.1, true) else t
theorem onD_len (ms : List MadeD) (n : Nat) : (onD ms n).length = ms.length := by simp [onD]
theorem onD_map (ms : List MadeD) (n : Nat) (hnum : ∀ i, i < ms.length → (ms.getD i dM).num = (i : Nat)) : onD ms n = ms.map fun a : MadeD => if a.num = ((n : Nat) : Int) then a.on else a := by
 apply List.ext_getElem
 ·simp [onD]
 ·intro i h1 h2
  have hi : i < ms.length := by simpa [onD] using h1
  have e : ms.getD i dM = ms[i] := by simp [List.getD, hi]
  have hnn := hnum i hi
  rw [e] at hnn
  simp only [onD, List.getElem_set, List.getElem_map]
  by_cases h : n = i
  ·subst h
   rw [if_pos rfl, if_pos hnn, e]
  ·rw [if_neg h, if_neg (by rw [hnn]; omega)]
theorem onD_live (ms : List MadeD) (n : Int) : ((ms.map fun a => if a.num = n then a.on else a).filter MadeD.lv).map MadeD.k = ((ms.filter MadeD.lv).map MadeD.k).map (onK n) := by
 induction ms with
 | nil => rfl
 | cons a r ih =>
  have hl : (if a.num = n then a.on else a).lv = a.lv := by split <;> rfl
  have hk : (if a.num = n then a.on else a).k = onK n a.k := by
   unfold onK
   by_cases h : a.num = n
   ·rw [if_pos h, if_pos (show a.k.1 = n from h)]; rfl
   ·rw [if_neg h, if_neg (show ¬ a.k.1 = n from h)]
  simp only [List.map_cons, List.filter_cons, hl]
  split
  ·simp only [List.map_cons, ih, hk]
  ·exact ih
theorem onP_live (ps : List PayD) (n : Int) : (ps.map fun p => if p.num = n then p.on else p).map PayD.k = (ps.map PayD.k).map (onK n) := by
 rw [List.map_map, List.map_map]
 refine List.map_congr_left (fun p _ => ?_)
 show (if p.num = n then p.on else p).k = onK n p.k
 unfold onK
 by_cases h : p.num = n
 ·rw [if_pos h, if_pos (show p.k.1 = n from h)]; rfl
 ·rw [if_neg h, if_neg (show ¬ p.k.1 = n from h)]
theorem any_set_or {α : Type} (p : α → Bool) (d x : α) : ∀ (l : List α) (n : Nat), n < l.length → (p (l.getD n d) = true → p x = true) → (l.set n x).any p = (l.any p || p x)
 | [], n, hn, _ => absurd hn (Nat.not_lt_zero _)
 | y :: r, 0, _, h => by
  have h' : p y = true → p x = true := h
  simp only [List.set_cons_zero, List.any_cons]
  cases hy : p y <;> cases hx : p x <;> simp_all
 | y :: r, n + 1, hn, h => by
  have := any_set_or p d x r n (by simpa using hn) (by simpa using h)
  simp only [List.set_cons_succ, List.any_cons, this, Bool.or_assoc]
theorem LkP.at {ms : List MadeD} (h : LkP ps ks ms) (hp : p ∈ ps) (hn : p.num = (n : Nat)) : n < ms.length ∧ (ms.getD n dM).lv = true ∧ p.k = (ms.getD n dM).k := by
 have h1 : p.k ∈ (ms.filter MadeD.lv).map MadeD.k := by rw [← h.live]; exact List.mem_map.2 ⟨p, hp, rfl⟩
 obtain ⟨a, ha, hk⟩ := List.mem_map.1 h1
 obtain ⟨ha1, ha2⟩ := List.mem_filter.1 ha
 obtain ⟨i, hi, e⟩ := List.getElem_of_mem ha1
 have e2 : ms.getD i dM = a := by simp [List.getD, hi, e]
 have e3 := h.num i hi
 rw [e2] at e3
 have e4 : a.num = p.num := congrArg (fun t : PK => t.1) hk
 have e5 : i = n := by omega
 subst e5
 rw [e2]
 exact ⟨hi, ha2, hk.symm⟩
theorem LkP.sign {ms : List MadeD} (h : LkP ps ks ms) (hn : n < ms.length) : LkP (ps.map fun p : PayD => if p.num = ((n : Nat) : Int) then p.on else p) (aeZ ks (ms.getD n dM).cs) (onD ms n) := by
 refine ⟨?_, fun i hi => ?_, fun b i => ?_⟩
 ·rw [onP_live, h.live, onD_map ms n h.num, onD_live]
 ·rw [onD_len] at hi
  rw [onD_map ms n h.num]
  have e : ms.getD i dM = ms[i] := by simp [List.getD, hi]
  have hnn := h.num i hi
  rw [e] at hnn
  simp only [List.getD, List.getElem?_map, List.getElem?_eq_getElem hi, Option.map_some, Option.getD_some]
  split
  ·exact hnn
  ·exact hnn
 ·rw [used_addKeys, h.used]
  unfold usedR onD
  rw [any_set_or (fun a : MadeD => a.cs.any fun x => a.sg && (x.br == b && x.ix == i)) dM _ ms n hn (fun h9 => ?_)]
  ·congr 1
  ·show ((ms.getD n dM).cs.any fun x => true && (x.br == b && x.ix == i)) = true
   rw [List.any_eq_true] at h9 ⊢
   obtain ⟨x, hx, hy⟩ := h9
   refine ⟨x, hx, ?_⟩
   rw [Bool.and_eq_true] at hy
   rw [hy.2]
   rfl
theorem LkP.nums {ms : List MadeD} (h : LkP ps ks ms) : (ps.map PayD.num).Pairwise (· < ·) := by
 have e : ps.map PayD.num = (ms.filter MadeD.lv).map MadeD.num := by
  have h1 := congrArg (List.map (fun t : PK => t.1)) h.live
  rw [List.map_map, List.map_map] at h1
  exact h1
 rw [e, List.pairwise_map]
 refine List.Pairwise.sublist List.filter_sublist ?_
 rw [List.pairwise_iff_getElem]
 intro i j hi hj hij
 have h1 := h.num i hi
 have h2 := h.num j hj
 have e1 : ms.getD i dM = ms[i] := by simp [List.getD, hi]
 have e2 : ms.getD j dM = ms[j] := by simp [List.getD, hj]
 rw [e1] at h1
 rw [e2] at h2
 omega
theorem LkP.set {ms : List MadeD} (h : LkP ps ks ms) {n : Int} (hj : j < ps.length) (hn : (ps.getD j dP).num = n) : ps.set j (ps.getD j dP).on = ps.map fun p : PayD => if p.num = n then p.on else p := by
 have hp := h.nums
 rw [List.pairwise_map, List.pairwise_iff_getElem] at hp
 have ej : ps.getD j dP = ps[j] := by simp [List.getD, hj]
 rw [ej] at hn ⊢
 apply List.ext_getElem
 ·simp
 ·intro i h1 h2
  have hi : i < ps.length := by simpa using h1
  simp only [List.getElem_set, List.getElem_map]
  by_cases e : j = i
  ·subst e
   rw [if_pos rfl, if_pos hn]
  ·rw [if_neg e, if_neg (fun e2 => ?_)]
   rcases Nat.lt_or_gt_of_ne e with e3 | e3
   ·have := hp j i hj hi e3; omega
   ·have := hp i j hi hj e3; omega
def dgZ (bls : List (List TxD)) (ms : List MadeD) (n : Int) : Sum Int Nat :=
 if liveB ms n = false then .inl 11
 else if (ms.getD n.toNat dM).sg = false ∧ goneR bls (ms.getD n.toNat dM).tag (ms.getD n.toNat dM).cs (ms.getD n.toNat dM).zs = true then .inl 12
 else if (ms.getD n.toNat dM).sg = false ∧ ((ms.getD n.toNat dM).cs.any fun x => usedR ms x.br x.ix) = true then .inl 13
 else .inr n.toNat
structure DSgOk (Nd : NPr) (D base : Nat) (vm : Value) (nx : Int) (ms : List MadeD) (bls : List (List TxD)) (s n : Int) (v0 v1 v2 : Value) (er : Int) (w w' : World) : Prop where
 out : (∃ x, dgZ bls ms n = .inl x ∧ er = x ∧ v0 = .int .i64 0 ∧ v1 = .slice none 0 0 ∧ v2 = .slice none 0 0 ∧ Below w.heap.size w w') ∨
 (∃ k : Nat, n = (k : Int) ∧ dgZ bls ms n = .inr k ∧ k < ms.length ∧ er = 0 ∧ v0 = .int .i64 (ms.getD k dM).tag ∧ RdNew w.heap.size s (ms.getD k dM) v1 v2 w' ∧
   (((ms.getD k dM).sg = true ∧ Below w.heap.size w w') ∨ ((ms.getD k dM).sg = false ∧ DPy Nd w' D base vm nx (onD ms k) ∧ Fr (fun q => vm.ownBlock = some q) w w')))
theorem DPy.on {ms : List MadeD} (hd : DPy Nd w D base (.slice (some ⟨g, 0, none⟩) nm c) nx ms) (hl : ms.length = nm) (n : Nat) (hn : n < nm) : DPy Nd (w.setCell ⟨g, n * 9 + 8, none⟩ (.bool true)) D base (.slice (some ⟨g, 0, none⟩) nm c) nx (onD ms n) := by
 subst hl
 have hok := hd.ok (ms.getD n dM) (gDM ms dM n hn)
 exact hd.put n 8 hn (by omega) (.bool true) (ms.getD n dM).on (by simp [MadeD.v, MadeD.on, List.getD, hn]) ⟨hok.ins, hok.outs, hok.keys, hok.coins, hok.ln, hok.lm, hok.lq, hok.lx, hok.b1, hok.b2, hok.ni, hok.no⟩
theorem fin3fr (w : World) (o : Obj) (R : Nat) (a b c : Value) : Fr (fun k => k = R) w ((((w.alloc o).setCell ⟨R, 0, none⟩ a).setCell ⟨R, 1, none⟩ b).setCell ⟨R, 2, none⟩ c) :=
 (((((Fr.refl (fun k => k = R) w).alloc o).set R 0 a (fun _ => rfl)).set R 1 b (fun _ => rfl)).set R 2 c (fun _ => rfl))
theorem sg_fin1 {ms : List MadeD} (hR : w.heap.size = R) (hk : k < ms.length) (hz : dgZ bls ms (k : Int) = .inr k) (hsg : (ms.getD k dM).sg = true) (ht : t = .int .i64 (ms.getD k dM).tag) (hb : Below R w wz) (hRb : R < b) (hrd : RdNew b s (ms.getD k dM) v1 v2 wz) : DSgOk Nd D base vm nx ms bls s (k : Int) t v1 v2 0 w ((((wz.alloc o).setCell ⟨R, 0, none⟩ t).setCell ⟨R, 1, none⟩ v1).setCell ⟨R, 2, none⟩ v2) := by
 subst hR
 have hf := fin3fr wz o w.heap.size t v1 v2
 exact DSgOk.mk <| Or.inr ⟨k, rfl, hz, hk, rfl, ht, (hrd.fr hf (fun q hq e => by have e' : q = w.heap.size := e; omega)).lower (by omega), Or.inl ⟨hsg, hb.trans (hf.toBelow _ hb.size (fun q hq => by have e' : q = w.heap.size := hq; omega))⟩⟩
theorem sg_fin2 {ms : List MadeD} (hR : w.heap.size = R) (hk : k < ms.length) (hz : dgZ bls ms (k : Int) = .inr k) (hsg : (ms.getD k dM).sg = false) (ht : t = .int .i64 (ms.getD k dM).tag) (hd : DPy Nd w D base vm nx ms) (hz2 : DPy Nd wz D base vm nx (onD ms k)) (hfw : Fr (fun q => vm.ownBlock = some q) w wz) (hRb : R < b) (hrd : RdNew b s (ms.getD k dM) v1 v2 wz) : DSgOk Nd D base vm nx ms bls s (k : Int) t v1 v2 0 w ((((wz.alloc o).setCell ⟨R, 0, none⟩ t).setCell ⟨R, 1, none⟩ v1).setCell ⟨R, 2, none⟩ v2) := by
 subst hR
 have hf := fin3fr wz o w.heap.size t v1 v2
 refine DSgOk.mk <| Or.inr ⟨k, rfl, hz, hk, rfl, ht, (hrd.fr hf (fun q hq e => by have e' : q = w.heap.size := e; omega)).lower (by omega), Or.inr ⟨hsg, ?_, ?_⟩⟩
 ·refine hz2.fr hf (fun e => ?_) (fun q hq e => ?_) (fun q hq e => ?_)
  ·have := clT hd.c5
   have e' : D = w.heap.size := e
   simp only at this
   omega
  ·have h1 := (hd.ow.blk q hq).2
   have e' : q = w.heap.size := e
   omega
  ·have h1 := (hd.nN q hq).1
   have e' : q = w.heap.size := e
   omega
 ·refine (hfw.weak (F := fun q => vm.ownBlock = some q ∨ q = w.heap.size) (fun q _ h => Or.inl h)).trans (hf.weak (fun q _ h => Or.inr h)) |>.weak (fun q hq h => h.elim id (fun e => by omega))
theorem dSign_any (N Nd : NPr) (D base : Nat) (ao : OAd) (c : Nat) (bls : List (List TxD)) (s : Int) (vm : Value) (nx : Int) (ms : List MadeD) (n : Int) (w : World) (hdc : DCh N w D ao c bls) (hgd : Good bls) (h40 : bls.length ≤ 40) (hd0 : w.cell? ⟨D, 0, none⟩ = some (.int .i64 s)) (hd : DPy Nd w D base vm nx ms) (hml : ms.length ≤ 100000000) (hky : ∀ k : Nat, k < ms.length → (ms.getD k dM).lv = true → (∀ x ∈ (ms.getD k dM).cs, Mk.isK s x.br x.ix = true) ∧ (ms.getD k dM).zs ≠ []) :
 Calls Tryz.prog 119 #[.pointer (some ⟨D, 0, none⟩), .int .i64 n] w fun e w' => ∃ v0 v1 v2 er, e = .returned (.tuple #[.agg #[v0, v1, v2], .int .i64 er]) ∧ DSgOk Nd D base vm nx ms bls s n v0 v1 v2 er w w' := by
 obtain ⟨am, cm, em, hat⟩ := ORC.at made9 hd.ow
 subst em
 generalize hmn : ms.length = nm at *
 have HMN := hiD hmn
 have bA : Below w.heap.size w (w.alloc (.cells #[.int .i64 0, .slice none 0 0, .slice none 0 0] 35)) := (Below.refl _ _).alloc leR _
 have HB0 := hiD bA
 have HR0 : Hid (V3 (w.alloc (.cells #[.int .i64 0, .slice none 0 0, .slice none 0 0] 35)) w.heap.size (.int .i64 0) (.slice none 0 0) (.slice none 0 0)) := V3.new w _ _ _ 35
 have HD0 := hiD (hd.grown bA)
 have HC0 := hiD (hdc.grown bA)
 have HS0 : Hid ((w.alloc (.cells #[.int .i64 0, .slice none 0 0, .slice none 0 0] 35)).cell? ⟨D, 0, none⟩ = some (.int .i64 s)) := (bA.cell (p := ⟨D, 0, none⟩) (clT hd0)).trans hd0
 have HAT := hiD (hat.grown bA)
 have HDW := hiD hd
 have HGD := hiD hgd
 have HKY := hiD hky
 clear hdc hgd hd0 hd hky hat bA hmn
 go_enter Tryz.func119, Tryz.ntmps119
 go_upto_region 1 with fail
 generalize w.alloc (.cells #[.int .i64 0, .slice none 0 0, .slice none 0 0] 35) = w0 at *
 generalize hRe : w.heap.size = R at *
 have HRE := hiD hRe
 clear hRe
 have hRl : R < w0.heap.size := clT HR0.out.c0
 have d5 := HD0.out.c5
 obtain ⟨r0, r1, r2, rf⟩ := HR0.out
 have rf0 := rf 0
 have rf1 := rf 1
 have rf2 := rf 2
 clear rf
 have HER : Hid (∀ (wz : World) (x : Int), Below w0.heap.size w0 wz → dgZ bls ms n = .inl x → DSgOk Nd D base (.slice am nm cm) nx ms bls s n (.int .i64 0) (.slice none 0 0) (.slice none 0 0) x w (((wz.setCell ⟨R, 0, none⟩ (.int .i64 0)).setCell ⟨R, 1, none⟩ (.slice none 0 0)).setCell ⟨R, 2, none⟩ (.slice none 0 0))) := fun wz x hb hz => ⟨Or.inl ⟨x, hz, rfl, rfl, rfl, rfl, by
  rw [HRE.out]
  exact (HB0.out.trans (hb.mono (by omega))).trans ((fr3K wz R _ _ _).toBelow R (by have := hb.size; omega) (fun q hq => by omega))⟩⟩
 have HVE : Hid (∀ wz : World, Below w0.heap.size w0 wz → V3 wz R (.int .i64 0) (.slice none 0 0) (.slice none 0 0)) := fun wz hb => HR0.out.grown hb
 cases hl : liveB ms n
 ·have HZ : Hid (dgZ bls ms n = .inl 11) := by
   show _ = _
   unfold dgZ
   rw [if_pos hl]
  have HFE : Hid _ := HER.out w0 11 (Below.refl _ _) HZ.out
  have HVF : Hid _ := ((((HVE.out w0 (Below.refl _ _))).s0 (.int .i64 0)).s1 (.slice none 0 0)).s2 (.slice none 0 0)
  go_wp2_with (go_at_call 118; refine (live_any D am nm cm ms n _ d5 HAT HMN).mono ?_; rintro e w' ⟨rfl, rfl⟩; rw [hl])
  obtain ⟨z0, z1, z2, _⟩ := HVF.out
  refine bodyPost_ret (v := .tuple #[.agg #[.int .i64 0, .slice none 0 0, .slice none 0 0], .int .i64 11]) ?_ rfl ⟨_, _, _, _, rfl, HFE⟩
  simp [results, Tryz.results119, go_sem, z0, z1, z2]
 ·obtain ⟨k, rfl, hk0, hlv⟩ := liveB_true hl
  have hk : k < nm := by rw [← HMN.out]; exact hk0
  clear hk0
  obtain ⟨hky1, hky2⟩ := HKY.out k hk hlv
  have HZC : Hid (dgZ bls ms (k : Int) = if (ms.getD k dM).sg = false ∧ goneR bls (ms.getD k dM).tag (ms.getD k dM).cs (ms.getD k dM).zs = true then .inl 12 else if (ms.getD k dM).sg = false ∧ ((ms.getD k dM).cs.any fun x => usedR ms x.br x.ix) = true then .inl 13 else .inr k) := by
   show _ = _
   unfold dgZ
   rw [if_neg (by rw [hl]; simp), Int.toNat_natCast]
  obtain ⟨g, eg, _, hgl, _, hgf⟩ := osE made9 HD0.out.ow HMN.out (by omega)
  subst eg
  have hf8 := hgf (k * 9 + 8)
  rcases HAT.out with hnil | ⟨b, off, eb, hrow⟩
  ·have := HMN.out; rw [hnil] at this; simp at this; omega
  injection eb with eb
  injection eb with eb1 eb2 _
  subst eb1
  subst eb2
  have hcell := madeCells hrow k (by rw [HMN.out]; exact hk)
  rw [Nat.zero_add] at hcell
  have HOK0 : Hid (MadeOk Nd w0 (ms.getD k dM)) := HD0.out.ok _ (gDM ms dM k (by rw [HMN.out]; exact hk))
  have HKK := hiD hk
  have HKY1 := hiD hky1
  have HKY2 := hiD hky2
  have hkI : (k : Int) < ((nm : Nat) : Int) := by omega
  have hk0 : (0 : Int) ≤ (k : Int) := by omega
  have HON : Hid (∀ wz : World, DPy Nd wz D base (.slice (some ⟨g, 0, none⟩) nm cm) nx ms → DPy Nd (wz.setCell ⟨g, k * 9 + 8, none⟩ (.bool true)) D base (.slice (some ⟨g, 0, none⟩) nm cm) nx (onD ms k)) := fun wz hz => hz.on HMN.out k hk
  have HLM : Hid (nm ≤ 9007199254740992) := by show _ ≤ _; omega
  have HDK : Hid (∀ wy, Below w0.heap.size w0 wy → DPy Nd wy D base (.slice (some ⟨g, 0, none⟩) nm cm) nx ms) := fun wy hb => HD0.out.grown hb
  have HFN1 : Hid (∀ (wz : World) (b : Nat) (v1 v2 : Value) (o : Obj), dgZ bls ms (k : Int) = .inr k → (ms.getD k dM).sg = true → Below R w wz → R < b → RdNew b s (ms.getD k dM) v1 v2 wz → DSgOk Nd D base (.slice (some ⟨g, 0, none⟩) nm cm) nx ms bls s (k : Int) (.int .i64 (ms.getD k dM).tag) v1 v2 0 w ((((wz.alloc o).setCell ⟨R, 0, none⟩ (.int .i64 (ms.getD k dM).tag)).setCell ⟨R, 1, none⟩ v1).setCell ⟨R, 2, none⟩ v2)) := fun wz b v1 v2 o h1 h2 h3 h4 h5 => sg_fin1 HRE.out (by rw [HMN.out]; exact hk) h1 h2 rfl h3 h4 h5
  have HFN2 : Hid (∀ (wz : World) (b : Nat) (v1 v2 : Value) (o : Obj), dgZ bls ms (k : Int) = .inr k → (ms.getD k dM).sg = false → DPy Nd wz D base (.slice (some ⟨g, 0, none⟩) nm cm) nx (onD ms k) → Fr (fun q => (Value.slice (some ⟨g, 0, none⟩) nm cm).ownBlock = some q) w wz → R < b → RdNew b s (ms.getD k dM) v1 v2 wz → DSgOk Nd D base (.slice (some ⟨g, 0, none⟩) nm cm) nx ms bls s (k : Int) (.int .i64 (ms.getD k dM).tag) v1 v2 0 w ((((wz.alloc o).setCell ⟨R, 0, none⟩ (.int .i64 (ms.getD k dM).tag)).setCell ⟨R, 1, none⟩ v1).setCell ⟨R, 2, none⟩ v2)) := fun wz b v1 v2 o h1 h2 h3 h4 h5 h6 => sg_fin2 HRE.out (by rw [HMN.out]; exact hk) h1 h2 rfl HDW h3 h4 h5 h6
  have hgM : g < w0.heap.size := (HD0.out.ow.blk g rfl).2
  have HGW : Hid (g < w.heap.size) := (HDW.out.ow.blk g rfl).2
  have HNG : Hid (∀ q, Nd q → q ≠ g) := fun q hq e => (HD0.out.nN q hq).2.2 (by rw [e]; rfl)
  have hDg : D ≠ g := fun e => by have := (HD0.out.ow.blk g rfl).1; have := HD0.out.nb; omega
  generalize hme : ms.getD k dM = m at *
  clear hme hrow hgf hky1 hky2 hlv
  obtain ⟨dnum, dtag, dai, dn, dc, dap, dm, dd, dak, dq, de, dch, dac, dx, dy, dlv, dsg, dcs, dzs⟩ := m
  obtain ⟨c0, c1, c2, c3, c4, c5, c6, c7, c8⟩ := hcell
  simp only at c0 c1 c2 c3 c4 c5 c6 c7 c8 HZC HKY1 HKY2 HFN1 HFN2
  have bM : Below w0.heap.size w0 (w0.alloc (.cells #[.int .i64 dnum, .int .i64 dtag, .slice dai dn dc, .slice dap dm dd, .slice dak dq de, .int .i64 dch, .slice dac dx dy, .bool dlv, .bool dsg] 187)) := (Below.refl _ _).alloc leR _
  have HVM : Hid (V9 (w0.alloc (.cells #[.int .i64 dnum, .int .i64 dtag, .slice dai dn dc, .slice dap dm dd, .slice dak dq de, .int .i64 dch, .slice dac dx dy, .bool dlv, .bool dsg] 187)) w0.heap.size ⟨dnum, dtag, dai, dn, dc, dap, dm, dd, dak, dq, de, dch, dac, dx, dy, dlv, dsg, dcs, dzs⟩) := V9.new w0 ⟨dnum, dtag, dai, dn, dc, dap, dm, dd, dak, dq, de, dch, dac, dx, dy, dlv, dsg, dcs, dzs⟩
  have HB1 := hiD bM
  have HOK1 := hiD (HOK0.out.grown bM)
  have HC1 := hiD (HC0.out.grown bM)
  have HS1 : Hid ((w0.alloc (.cells #[.int .i64 dnum, .int .i64 dtag, .slice dai dn dc, .slice dap dm dd, .slice dak dq de, .int .i64 dch, .slice dac dx dy, .bool dlv, .bool dsg] 187)).cell? ⟨D, 0, none⟩ = some (.int .i64 s)) := (bM.cell (p := ⟨D, 0, none⟩) (clT HS0.out)).trans HS0.out
  clear bM
  go_upto_region 5 with (go_at_call 118; refine (live_any D _ nm cm ms (k : Int) _ d5 HAT HMN).mono ?_; rintro e w' ⟨rfl, rfl⟩; rw [hl])
  clear c0 c1 c2 c3 c4 c5 c6 c7 c8 d5 r0 r1 r2 rf0 rf1 rf2 hf8 HAT HOK0 HC0
  generalize w0.alloc (.cells #[.int .i64 dnum, .int .i64 dtag, .slice dai dn dc, .slice dap dm dd, .slice dak dq de, .int .i64 dch, .slice dac dx dy, .bool dlv, .bool dsg] 187) = w1 at *
  have hM1 : w0.heap.size < w1.heap.size := clT HVM.out.c0
  generalize hMe : w0.heap.size = M at *
  have HME := hiD hMe
  clear hMe
  have HBW1 : Hid (Below R w w1) := HB0.out.trans (HB1.out.mono (by omega))
  cases dsg
  ·-- not signed yet
   have v7 := HVM.out
   obtain ⟨v0, v1, v2, v3, v4, v5, v6, v7, v8⟩ := v7
   simp only at v0 v1 v2 v3 v4 v5 v6 v7 v8
   have HZC' : Hid (dgZ bls ms (k : Int) = if goneR bls dtag dcs dzs = true then .inl 12 else if (dcs.any fun x => usedR ms x.br x.ix) = true then .inl 13 else .inr k) := by
    show _ = _
    rw [HZC.out]
    simp only [true_and]
   go_wp2_with fail
   refine (gone_any N Nd D ao c bls ⟨dnum, dtag, dai, dn, dc, dap, dm, dd, dak, dq, de, dch, dac, dx, dy, dlv, false, dcs, dzs⟩ _ HC1 HGD h40 HOK1).mono ?_
   simp only
   rintro e w2 ⟨rfl, hb2⟩
   have HB2 := hiD hb2
   have HB02 : Hid (Below M w0 w2) := HB1.out.trans (hb2.mono (by omega))
   clear v0 v1 v2 v3 v4 v5 v6 v7 v8 hb2
   cases hgz : goneR bls dtag dcs dzs
   ·rw [hgz, if_neg (by simp)] at HZC'
    have HVM2 := hiD (HVM.out.grown HB2.out)
    have HOK2 := hiD (HOK1.out.grown HB2.out)
    have HLQ : Hid (dcs.length = dq ∧ dcs.length ≤ 10) := ⟨HOK1.out.lq, HOK1.out.b1⟩
    have dq10 : dq ≤ 10 := by have := HLQ.out; omega
    go_wp2
    go_loopw [9] (fun i wr => ∃ j : Nat, j ≤ dq ∧ i = .int .i64 j ∧ Hid ((dcs.take j).any (fun x => usedR ms x.br x.ix) = false) ∧ Below w2.heap.size w2 wr) (fun i _ => dq - (intOf i).toNat)
    case atStart => exact ⟨0, Nat.zero_le _, rfl, by show List.any _ _ = false; simp, Below.refl _ _⟩
    case round =>
     obtain ⟨j, hj, rfl, hany, hbl⟩ := hrel
     have v4 := (HVM2.out.grown hbl).c4
     simp only at v4
     have HB0r : Hid (Below M w0 wr) := HB02.out.trans (hbl.mono (by have := HB02.out.size; have := HB2.out.size; omega))
     have HDr : Hid (DPy Nd wr D base (.slice (some ⟨g, 0, none⟩) nm cm) nx ms) := HDK.out wr HB0r.out
     have d5 := HDr.out.c5
     by_cases hlt : j < dq
     ·have hjl : j < dcs.length := by have := HLQ.out; omega
      have hjI : (j : Int) < (dq : Int) := by omega
      have hj0 : (0 : Int) ≤ (j : Int) := by omega
      rcases (HOK2.out.grown hbl).keys with hnil | ⟨gk, ok, hdak, hrk⟩
      ·simp only at hnil; rw [hnil] at hjl; simp at hjl
      simp only at hdak hrk
      rw [hdak] at v4
      have k0c : wr.cell? ⟨gk, ok + j * 2, none⟩ = some (.int .i64 (dcs.getD j dN).br) := reL kC2 dN hrk j hjl 0 (by omega)
      have k1c : wr.cell? ⟨gk, ok + j * 2 + 1, none⟩ = some (.int .i64 (dcs.getD j dN).ix) := reL kC2 dN hrk j hjl 1 (by omega)
      have HS : Hid _ := any_no (fun x : CoinD => usedR ms x.br x.ix) dcs dN j hjl hany.out
      have HZ : Hid _ := ayS (fun x : CoinD => usedR ms x.br x.ix) dcs dN j hjl
      clear hrk hdak
      generalize dcs.getD j dN = y at *
      obtain ⟨y0, y1, y2, y3, y4, y5⟩ := y
      simp only at k0c k1c HS HZ
      obtain ⟨am2, cm2, em2, hmat⟩ := ORC.at made9 HDr.out.ow
      have HMA : Hid (RcT MadeD.v wr (some ⟨g, 0, none⟩) ms) := by
       injection em2 with e1 _ _
       rw [e1]; exact hmat
      clear em2 hmat
      go_wp2_with fail
      refine (used_any Nd D (some ⟨g, 0, none⟩) nm cm ms y4 y5 _ d5 HMA HMN HLM HDr.out.ok).mono ?_
      rintro e w3 ⟨rfl, hb3⟩
      have HB03 : Hid (Below M w0 w3) := HB0r.out.trans (hb3.mono (by have := HB0r.out.size; have := HME.out; omega))
      cases hu : usedR ms y4 y5
      ·have HNX : Hid ((dcs.take (j + 1)).any (fun x => usedR ms x.br x.ix) = false) := HS.out hu
       have hbl3 := bwK hbl hb3
       clear v4 d5 k0c k1c
       go_wp2
       go_roundw
       case rel => exact ⟨j + 1, by omega, by go_num, HNX, hbl3⟩
       case measure => simp [intOf]; omega
      ·have HE : Hid (dcs.any (fun x => usedR ms x.br x.ix) = true) := HZ.out hu
       have HZ3 : Hid (dgZ bls ms (k : Int) = .inl 13) := by show _ = _; rw [HZC'.out, HE.out, if_pos rfl]
       have HFE : Hid _ := HER.out w3 13 HB03.out HZ3.out
       have HVE2 : Hid _ := HVE.out w3 HB03.out
       have HVF : Hid _ := ((HVE2.out.s0 (.int .i64 0)).s1 (.slice none 0 0)).s2 (.slice none 0 0)
       obtain ⟨r0, r1, r2, rf⟩ := HVE2.out
       have rf0 := rf 0
       have rf1 := rf 1
       have rf2 := rf 2
       clear rf v4 d5 k0c k1c
       go_wp2
       obtain ⟨z0, z1, z2, _⟩ := HVF.out
       refine bodyPost_ret (v := .tuple #[.agg #[.int .i64 0, .slice none 0 0, .slice none 0 0], .int .i64 13]) ?_ rfl ⟨_, _, _, _, rfl, HFE⟩
       simp [results, Tryz.results119, go_sem, z0, z1, z2]
     ·have HE : Hid (dcs.any (fun x => usedR ms x.br x.ix) = false) := (adE _ dcs dq HLQ.out.1 j (by omega) hany.out).symm
      have HZ3 : Hid (dgZ bls ms (k : Int) = .inr k) := by show _ = _; rw [HZC'.out, HE.out, if_neg (by simp)]
      obtain ⟨_, em3, _, _, _, hgf⟩ := osE made9 HDr.out.ow HMN.out (by omega)
      cases em3
      have hf8 := hgf (k * 9 + 8)
      rcases ORC.at made9 HDr.out.ow with ⟨am2, cm2, em2, hmat⟩
      have hmat2 : RcT MadeD.v wr (some ⟨g, 0, none⟩) ms := by
       injection em2 with e1 _ _
       rw [e1]; exact hmat
      have c8 : wr.cell? ⟨g, k * 9 + 8, none⟩ = some (.bool (ms.getD k dM).sg) := by
       rcases hmat2 with hnil | ⟨b, off, eb, hrow⟩
       ·have := HMN.out; rw [hnil] at this; simp at this; omega
       injection eb with eb
       injection eb with eb1 eb2 _
       subst eb1
       subst eb2
       have := (madeCells hrow k (by rw [HMN.out]; exact hk)).c8
       rw [Nat.zero_add] at this
       exact this
      have HFg : Hid (Fr (fun q => q = g) wr (wr.setCell ⟨g, k * 9 + 8, none⟩ (.bool true))) := (Fr.refl _ wr).set g _ _ (fun _ => rfl)
      have HVM4 : Hid (V9 (wr.setCell ⟨g, k * 9 + 8, none⟩ (.bool true)) M ⟨dnum, dtag, dai, dn, dc, dap, dm, dd, dak, dq, de, dch, dac, dx, dy, dlv, false, dcs, dzs⟩) := (HVM2.out.grown hbl).fr HFg.out (by show ¬ M = g; omega)
      have HOK4 : Hid (MadeOk Nd (wr.setCell ⟨g, k * 9 + 8, none⟩ (.bool true)) ⟨dnum, dtag, dai, dn, dc, dap, dm, dd, dak, dq, de, dch, dac, dx, dy, dlv, false, dcs, dzs⟩) := (HOK2.out.grown hbl).fr HFg.out (fun q hq e => HNG.out q hq e)
      have HS4 : Hid ((wr.setCell ⟨g, k * 9 + 8, none⟩ (.bool true)).cell? ⟨D, 0, none⟩ = some (.int .i64 s)) := HFg.out.cell ((hbl.cell (p := ⟨D, 0, none⟩) (clT ((HB2.out.cell (p := ⟨D, 0, none⟩) (clT HS1.out)).trans HS1.out))).trans ((HB2.out.cell (p := ⟨D, 0, none⟩) (clT HS1.out)).trans HS1.out)) (fun e => hDg e)
      have HD4 : Hid (DPy Nd (wr.setCell ⟨g, k * 9 + 8, none⟩ (.bool true)) D base (.slice (some ⟨g, 0, none⟩) nm cm) nx (onD ms k)) := HON.out wr HDr.out
      have HF4 : Hid (Fr (fun q => (Value.slice (some ⟨g, 0, none⟩) nm cm).ownBlock = some q) w (wr.setCell ⟨g, k * 9 + 8, none⟩ (.bool true))) := by
       have hbw : Below w.heap.size w wr := by rw [HRE.out]; exact HB0.out.trans (HB0r.out.mono (by have := HME.out; omega))
       exact (Fr.of_below hbw _).set g _ _ (fun _ => rfl)
      have HV4 : Hid (V3 (wr.setCell ⟨g, k * 9 + 8, none⟩ (.bool true)) R (.int .i64 0) (.slice none 0 0) (.slice none 0 0)) := (HVE.out wr HB0r.out).fr HFg.out (by show ¬ R = g; have := HGW.out; have := HRE.out; omega)
      have hsz4 : M < (wr.setCell ⟨g, k * 9 + 8, none⟩ (.bool true)).heap.size := clT HVM4.out.c0
      clear hgf hmat hmat2 em2
      go_upto_region 16 with fail
      clear v4 d5 c8 hf8
      generalize wr.setCell ⟨g, k * 9 + 8, none⟩ (.bool true) = w4 at *
      obtain ⟨v0, v1, v2, v3, v4, v5, v6, v7, v8⟩ := HVM4.out
      simp only at v0 v1 v2 v3 v4 v5 v6 v7 v8
      go_wp2_with fail
      refine (signed_any Nd D s ⟨dnum, dtag, dai, dn, dc, dap, dm, dd, dak, dq, de, dch, dac, dx, dy, dlv, false, dcs, dzs⟩ _ HS4 HOK4 HKY1 HKY2).mono ?_
      rintro e w5 ⟨bi, bn, bc, bp, bm, bd, rfl, hrd, hb5⟩
      simp only
      have HFE : Hid _ := HFN2.out w5 w4.heap.size (.slice bi bn bc) (.slice bp bm bd) (.cells #[.int .i64 dtag, .slice bi bn bc, .slice bp bm bd] 35) HZ3.out (by first | exact rfl | trivial) (HD4.out.grown hb5) (HF4.out.trans (Fr.of_below hb5 _)) (by omega) hrd
      have HV5 : Hid (V3 (w5.alloc (.cells #[.int .i64 dtag, .slice bi bn bc, .slice bp bm bd] 35)) R (.int .i64 0) (.slice none 0 0) (.slice none 0 0)) := (HV4.out.grown hb5).grown (bAl _ _)
      have HT5 : Hid (V3 (w5.alloc (.cells #[.int .i64 dtag, .slice bi bn bc, .slice bp bm bd] 35)) w5.heap.size (.int .i64 dtag) (.slice bi bn bc) (.slice bp bm bd)) := V3.new w5 _ _ _ 35
      have HVF : Hid _ := ((HV5.out.s0 (.int .i64 dtag)).s1 (.slice bi bn bc)).s2 (.slice bp bm bd)
      clear v0 v1 v2 v3 v4 v5 v6 v7 v8 hb5
      obtain ⟨r0, r1, r2, rf⟩ := HV5.out
      obtain ⟨t0, t1, t2, _⟩ := HT5.out
      have rf0 := rf 0
      have rf1 := rf 1
      have rf2 := rf 2
      clear rf
      go_wp2
      obtain ⟨z0, z1, z2, _⟩ := HVF.out
      refine bodyPost_ret (v := .tuple #[.agg #[.int .i64 dtag, .slice bi bn bc, .slice bp bm bd], .int .i64 0]) ?_ rfl ⟨_, _, _, _, rfl, HFE⟩
      simp [results, Tryz.results119, go_sem, z0, z1, z2]
   ·rw [hgz, if_pos rfl] at HZC'
    have HFE : Hid _ := HER.out w2 12 HB02.out HZC'.out
    have HVE2 : Hid _ := HVE.out w2 HB02.out
    have HVF : Hid _ := ((HVE2.out.s0 (.int .i64 0)).s1 (.slice none 0 0)).s2 (.slice none 0 0)
    obtain ⟨r0, r1, r2, rf⟩ := HVE2.out
    have rf0 := rf 0
    have rf1 := rf 1
    have rf2 := rf 2
    clear rf
    go_wp2
    obtain ⟨z0, z1, z2, _⟩ := HVF.out
    refine bodyPost_ret (v := .tuple #[.agg #[.int .i64 0, .slice none 0 0, .slice none 0 0], .int .i64 12]) ?_ rfl ⟨_, _, _, _, rfl, HFE⟩
    simp [results, Tryz.results119, go_sem, z0, z1, z2]
  ·-- signed before
   have HZ : Hid (dgZ bls ms (k : Int) = .inr k) := by
    show _ = _
    rw [HZC.out]
    simp
   have HVR : Hid (V3 w1 R (.int .i64 0) (.slice none 0 0) (.slice none 0 0)) := HVE.out w1 HB1.out
   obtain ⟨v0, v1, v2, v3, v4, v5, v6, v7, v8⟩ := HVM.out
   simp only at v0 v1 v2 v3 v4 v5 v6 v7 v8
   go_wp2_with fail
   refine (signed_any Nd D s ⟨dnum, dtag, dai, dn, dc, dap, dm, dd, dak, dq, de, dch, dac, dx, dy, dlv, true, dcs, dzs⟩ _ HS1 HOK1 HKY1 HKY2).mono ?_
   rintro e w5 ⟨bi, bn, bc, bp, bm, bd, rfl, hrd, hb5⟩
   simp only
   have HFE : Hid _ := HFN1.out w5 w1.heap.size (.slice bi bn bc) (.slice bp bm bd) (.cells #[.int .i64 dtag, .slice bi bn bc, .slice bp bm bd] 35) HZ.out (by first | exact rfl | trivial) (HBW1.out.trans (hb5.mono (by omega))) (by omega) hrd
   have HV5 : Hid (V3 (w5.alloc (.cells #[.int .i64 dtag, .slice bi bn bc, .slice bp bm bd] 35)) R (.int .i64 0) (.slice none 0 0) (.slice none 0 0)) := (HVR.out.grown hb5).grown (bAl _ _)
   have HT5 : Hid (V3 (w5.alloc (.cells #[.int .i64 dtag, .slice bi bn bc, .slice bp bm bd] 35)) w5.heap.size (.int .i64 dtag) (.slice bi bn bc) (.slice bp bm bd)) := V3.new w5 _ _ _ 35
   have HVF : Hid _ := ((HV5.out.s0 (.int .i64 dtag)).s1 (.slice bi bn bc)).s2 (.slice bp bm bd)
   clear v0 v1 v2 v3 v4 v5 v6 v7 v8 hb5
   obtain ⟨r0, r1, r2, rf⟩ := HV5.out
   obtain ⟨t0, t1, t2, _⟩ := HT5.out
   have rf0 := rf 0
   have rf1 := rf 1
   have rf2 := rf 2
   clear rf
   go_wp2
   obtain ⟨z0, z1, z2, _⟩ := HVF.out
   refine bodyPost_ret (v := .tuple #[.agg #[.int .i64 dtag, .slice bi bn bc, .slice bp bm bd], .int .i64 0]) ?_ rfl ⟨_, _, _, _, rfl, HFE⟩
   simp [results, Tryz.results119, go_sem, z0, z1, z2]
end
section
open Go.RowKit

variable {N : NPr} {b o base : Nat} {vl vs : Value} {md nx : Int} {ps : List PayD} {ks : LII} {xs : List Cel} {s n : Int} {v0 v1 v2 : Value} {er : Int} {w w' : World}
theorem SignOk.fr (h : SignOk N b o base vl vs md nx ps ks xs s n v0 v1 v2 er w w') : Fr (fun q => q = b ∨ vl.ownBlock = some q ∨ vs.ownBlock = some q) w w' := by
 rcases h with ⟨x, _, _, _, _, _, h6⟩ | ⟨j, L, _, _, _, _, _, ⟨_, h7⟩ | ⟨_, vs', h8⟩⟩
 ·exact Fr.of_below h6 _
 ·exact Fr.of_below h7 _
 ·exact h8.fr
theorem SignOk.cell (h : SignOk N b o base vl vs md nx ps ks xs s n v0 v1 v2 er w w') {i : Nat} {u : Value} (hi : i ≠ o + 1) (hu : w.cell? ⟨b, i, none⟩ = some u) : w'.cell? ⟨b, i, none⟩ = some u := by
 rcases h with ⟨x, _, _, _, _, _, h6⟩ | ⟨j, L, _, _, _, _, _, ⟨_, h7⟩ | ⟨_, vs', h8⟩⟩
 ·exact (h6.cell (p := ⟨b, i, none⟩) (clT hu)).trans hu
 ·exact (h7.cell (p := ⟨b, i, none⟩) (clT hu)).trans hu
 ·exact h8.cl i u hi hu
theorem SignOk.vals (h : SignOk N b o base vl vs md nx ps ks xs s n v0 v1 v2 er w w') : ∃ t ai ni ci ap np cp, v0 = .int .i64 t ∧ v1 = .slice ai ni ci ∧ v2 = .slice ap np cp := by
 rcases h with ⟨x, _, _, h3, h4, h5, _⟩ | ⟨j, L, _, _, _, h4, h5, _⟩
 ·exact ⟨_, _, _, _, _, _, _, h3, h4, h5⟩
 ·obtain ⟨ai, ci, e1, _⟩ := ORC.at sn3 h5.own
  obtain ⟨ap, cp, e2, _⟩ := ORC.at kv2 h5.oo
  exact ⟨_, _, _, _, _, _, _, h4, e1, e2⟩
theorem SgTx.move {p : PayD} {vi vo : Value} {L : List (CoinD × Nat)} {B0 B1 R : Nat} {w2 : World} (h : SgTx B1 s p vi vo L w') (hb : B0 ≤ B1) (hR : R < B1) (hf : Fr (fun k => k = R) w' w2) : SgTx B0 s p vi vo L w2 := by
 refine ⟨h.fst, olR (hf.own h.own (fun k hk e => ?_)) hb, fun q hq => ?_, h.nv, h.nd, olR (hf.own h.oo (fun k hk e => ?_)) hb, h.ne⟩
 ·have := (h.own.blk k hk).1; omega
 ·obtain ⟨h1, h2, h3, h4⟩ := h.row q hq
  exact ⟨fun j hj => hf.cell (h1 j hj) (by omega), fun j hj => (hf.frozen h4 (by omega)).trans (h2 j hj), by omega, ltL h4 hf.size⟩
 ·have := (h.oo.blk k hk).1; omega
theorem SignOk.lift {w0 w1 w2 : World} {R : Nat} (hr : SignOk N b o base vl vs md nx ps ks xs s n v0 v1 v2 er w0 w1) (hL : LsAt N w b o base vl vs md nx ps ks) (hb : Below w.heap.size w w0) (hR : w.heap.size ≤ R) (hR2 : R < w0.heap.size) (hf : Fr (fun k => k = R) w1 w2) : SignOk N b o base vl vs md nx ps ks xs s n v0 v1 v2 er w w2 := by
 have hsz := hb.size
 rcases hr with ⟨x, h1, h2, h3, h4, h5, h6⟩ | ⟨j, L, h1, hj, h2, h3, h4, h5⟩
 ·refine Or.inl ⟨x, h1, h2, h3, h4, h5, ?_⟩
  have h10 : Below w.heap.size w w1 := hb.trans (h6.mono hsz)
  exact h10.trans (hf.toBelow _ h10.size (fun q hq => by rw [hq]; exact hR))
 ·refine Or.inr ⟨j, L, h1, hj, h2, h3, h4.move hsz hR2 hf, ?_⟩
  rcases h5 with ⟨h5, h6⟩ | ⟨h5, vs', h6⟩
  ·refine Or.inl ⟨h5, ?_⟩
   have h10 : Below w.heap.size w w1 := hb.trans (h6.mono hsz)
   exact h10.trans (hf.toBelow _ h10.size (fun q hq => by rw [hq]; exact hR))
  ·have hbl : b < w.heap.size := clT hL.c0
   refine Or.inr ⟨h5, vs', h6.ls.fr hf (fun k hk e => ?_) (fun k hk e => ?_), frNewQ ((Fr.of_below hb _).trans h6.fr) hf (fun q hq => by rw [hq]; exact hR), fun q hq => ?_, fun i u hi hu => ?_⟩
   ·rcases hk with hk | hk | hk
    ·omega
    ·have := (hL.ol.blk k hk).2; omega
    ·rcases h6.nw k hk with h7 | h7
     ·have := (hL.os.blk k h7).2; omega
     ·omega
   ·have := (hL.nN k hk).1; omega
   ·rcases h6.nw q hq with h7 | h7
    ·exact Or.inl h7
    ·exact Or.inr ⟨by omega, h7.2⟩
   ·exact hf.cell (h6.cl i u hi ((hb.cell (p := ⟨b, i, none⟩) hbl).trans hu)) (by omega)
theorem keepR3 {w : World} {P R i : Nat} {x : Value} (u0 u1 u2 : Value) (hne : P ≠ R) (h : w.cell? ⟨P, i, none⟩ = some x) : (((w.setCell ⟨R, 0, none⟩ u0).setCell ⟨R, 1, none⟩ u1).setCell ⟨R, 2, none⟩ u2).cell? ⟨P, i, none⟩ = some x := (fr3K w R u0 u1 u2).cell h hne
theorem pSign_any (N : NPr) (P : Nat) (vl vs : Value) (md nx : Int) (ps : List PayD) (ks : LII) (ao : OAd) (nn cx : Nat) (xs : List Cel) (s n : Int) (w : World) (hL : LsAt N w P 4 (P + 1) vl vs md nx ps ks) (hpl : ps.length ≤ 1000000000000) (hkl : ks.length ≤ 20000000) (hp0 : w.cell? ⟨P, 0, none⟩ = some (.int .i64 s)) (hcc : w.cell? ⟨P, 2, none⟩ = some (.slice ao nn cx)) (hcx : CsT w ao xs) (hcn : xs.length = nn) (hcm : nn ≤ 1000000) (hpm : ∀ p ∈ ps, 0 < p.m) (hkk : ∀ p ∈ ps, ∀ x ∈ p.cs, Mk.isK s x.br x.ix = true) :
 Calls Tryz.prog 13 #[.pointer (some ⟨P, 0, none⟩), .int .i64 n] w fun e w' => ∃ v0 v1 v2 er, e = .returned (.tuple #[.agg #[v0, v1, v2], .int .i64 er]) ∧ SignOk N P 4 (P + 1) vl vs md nx ps ks xs s n v0 v1 v2 er w w' := by
 have HL := hiD hL
 have HXN := hiD hcn
 have HPM := hiD hpm
 have HKK := hiD hkk
 have hPl : P < w.heap.size := clT hp0
 have bA : Below w.heap.size w ((w.alloc (.cells #[.int .i64 0, .slice none 0 0, .slice none 0 0] 35)).drew) := (bAl _ _).drew
 have HB0 := hiD bA
 have HR0 : Hid (V3 ((w.alloc (.cells #[.int .i64 0, .slice none 0 0, .slice none 0 0] 35)).drew) w.heap.size (.int .i64 0) (.slice none 0 0) (.slice none 0 0)) := (V3.new w _ _ _ 35).grown (Below.refl _ _).drew
 have HL0 : Hid (LsAt N ((w.alloc (.cells #[.int .i64 0, .slice none 0 0, .slice none 0 0] 35)).drew) P 4 (P + 1) vl vs md nx ps ks) := hL.grown bA
 have HX0 : Hid (CsT ((w.alloc (.cells #[.int .i64 0, .slice none 0 0, .slice none 0 0] 35)).drew) ao xs) := hcx.grown bA
 have HC0 : Hid (((w.alloc (.cells #[.int .i64 0, .slice none 0 0, .slice none 0 0] 35)).drew).cell? ⟨P, 2, none⟩ = some (.slice ao nn cx)) := (bA.cell (p := ⟨P, 2, none⟩) hPl).trans hcc
 have HS0 : Hid (((w.alloc (.cells #[.int .i64 0, .slice none 0 0, .slice none 0 0] 35)).drew).cell? ⟨P, 0, none⟩ = some (.int .i64 s)) := (bA.cell (p := ⟨P, 0, none⟩) hPl).trans hp0
 have x0 : (w.alloc (.cells #[.int .i64 0, .slice none 0 0, .slice none 0 0] 35)).cell? ⟨P, 0, none⟩ = some (.int .i64 s) := (((Below.refl w.heap.size w).alloc leR _).cell (p := ⟨P, 0, none⟩) hPl).trans hp0
 have hsz0 : P + 1 ≤ ((w.alloc (.cells #[.int .i64 0, .slice none 0 0, .slice none 0 0] 35)).drew).heap.size := by have := bA.size; omega
 have hR0 : w.heap.size < ((w.alloc (.cells #[.int .i64 0, .slice none 0 0, .slice none 0 0] 35)).drew).heap.size := clT HR0.out.c0
 clear hL hcx hcn hcc hpm hkk bA hp0
 go_enter Tryz.func13, Tryz.ntmps13
 go_upto_region 1 with fail
 generalize w.alloc (.cells #[.int .i64 0, .slice none 0 0, .slice none 0 0] 35) = w0 at *
 generalize hR : w.heap.size = R at *
 have HRe := hiD hR
 clear hR
 have hPR : P ≠ R := by omega
 go_region_held3 (fun w' => w'.cell? ⟨P, 0, none⟩ = some (.int .i64 s)) (first | go_keep | with_reducible exact HS0.out | with_reducible exact hS2w | with_reducible exact keepR3 _ _ _ hPR hS2w) ((go_at_call 35; (with_reducible refine (lSign_any N P 4 (P + 1) vl vs md nx ps ks P 2 ao nn cx xs s n w0.drew HL0.out hsz0 hpl hkl HC0.out HX0.out HXN.out hcm HPM.out HKK.out).mono ?_); rintro e w1 ⟨v0, v1, v2, er, rfl, hsg⟩; obtain ⟨t, ai, ni, ci, ap, np, cp, rfl, rfl, rfl⟩ := hsg.vals; have HSG := hiD hsg; have hS2w := hsg.cell (i := 0) (by omega) HS0.out; have hRw := HR0.out.fr hsg.fr (by have h1 := HL.out.ol.blk R; have h2 := HL.out.os.blk R; have h3 := HRe.out; intro e; rcases e with e | e | e; (exact hPR e.symm); (have := (h1 e).2; omega); (have := (h2 e).2; omega)); obtain ⟨q0, q1, q2, qz⟩ := hRw; have f0 := qz 0; have f1 := qz 1; have f2 := qz 2; clear qz hsg))
 have HRP : ¬ (R = P ∨ vl.ownBlock = some R ∨ vs.ownBlock = some R) := fun e => by
  have h3 := HRe.out
  rcases e with e | e | e
  ·exact hPR e.symm
  ·have := (HL.out.ol.blk R e).2; omega
  ·have := (HL.out.os.blk R e).2; omega
 have HVF : Hid (V3 (((w1.setCell ⟨R, 0, none⟩ (.int .i64 t)).setCell ⟨R, 1, none⟩ (.slice ai ni ci)).setCell ⟨R, 2, none⟩ (.slice ap np cp)) R (.int .i64 t) (.slice ai ni ci) (.slice ap np cp)) := (((HR0.out.fr HSG.out.fr HRP).s0 _).s1 _).s2 _
 have HLF : Hid (SignOk N P 4 (P + 1) vl vs md nx ps ks xs s n (.int .i64 t) (.slice ai ni ci) (.slice ap np cp) er w (((w1.setCell ⟨R, 0, none⟩ (.int .i64 t)).setCell ⟨R, 1, none⟩ (.slice ai ni ci)).setCell ⟨R, 2, none⟩ (.slice ap np cp))) := HSG.out.lift HL.out (by rw [HRe.out]; exact HB0) (by rw [HRe.out]; exact leR) hR0 (fr3K w1 R _ _ _)
 repeat (first | go_values | go_skip | go_guarded | go_step | go_upon)
 obtain ⟨z0, z1, z2, _⟩ := HVF.out
 refine bodyPost_ret (v := .tuple #[.agg #[.int .i64 t, .slice ai ni ci, .slice ap np cp], .int .i64 er]) ?_ rfl ⟨_, _, _, _, rfl, HLF⟩
 simp [results, Tryz.results13, go_sem, z0, z1, z2]
end
end Go.Proofs.YtffgpepngcnjeabGreat
