/-
  Accepted: the walk of the law itself.
  A transaction that came in as data: what lies in memory.
-/
import Derived.Test.YtffgpepngcnjeabGreatQMas
import Derived.Test.YtffgpepngcnjeabGreatQMat
import Derived.Test.YtffgpepngcnjeabGreatQMab
import Derived.ProofKit
import Derived.OpenShut
import Derived.Deep.Slices
import Derived.Deep.Strs
import Derived.Lib.SmallJoins
import Derived.SizedLaws
namespace Go.Proofs.YtffgpepngcnjeabGreatQ
open Go.RowKit
set_option maxRecDepth 100000 in
set_option maxHeartbeats 8000000 in
theorem accepted_any (a b rt : Int) (al : Option Addr) (n c : Nat) (ds : List DepR) (ao : Option Addr) (m d : Nat) (raw : List (Int × Int)) (w : World) (a1 : -9223372036854775808 ≤ a) (a2 : a ≤ 9223372036854775807) (b1 : -9223372036854775808 ≤ b) (b2 : b ≤ 9223372036854775807) (r1 : -9223372036854775808 ≤ rt) (r2 : rt ≤ 9223372036854775807)
    (hd : RecAt DepR.l w al ds) (hdn : ds.length = n) (hdr : ∀ x ∈ ds, (-9223372036854775808 ≤ x.br ∧ x.br ≤ 9223372036854775807) ∧ (-9223372036854775808 ≤ x.ix ∧ x.ix ≤ 9223372036854775807) ∧ (-9223372036854775808 ≤ x.val ∧ x.val ≤ 9223372036854775807)) (ho : OutsAt w ao raw) (hon : raw.length = m) (hor : ∀ y ∈ raw, (-9223372036854775808 ≤ y.1 ∧ y.1 ≤ 9223372036854775807) ∧ (-9223372036854775808 ≤ y.2 ∧ y.2 ≤ 9223372036854775807)) :
    Calls Tryz.prog 4 #[.int .i64 a, .int .i64 b, .slice al n c, .slice ao m d, .int .i64 rt] w fun e w' => e = .returned (.bool true) ∧ Below w.heap.size w w' := by
  obtain ⟨g, hg⟩ : ∃ g : Nat, (g : Int) = 1 + Mk.pk b 20 := ⟨(1 + Mk.pk b 20).toNat, by have := Mk.pk_bd b 20 (by decide); omega⟩
  have hpb := Mk.pk_bd b 20 (by decide)
  have hg1 : 1 ≤ g := by omega
  have hg2 : g ≤ 20 := by omega
  have HSM : Hid (Mk.isM (Mk.pk a 99991) = true) := (Mk.isM_iff _).2 (Mk.pk_bd a 99991 (by decide))
  have HD : Hid (RecAt DepR.l w al ds) := hd
  have HDN : Hid (ds.length = n) := hdn
  have HDR : Hid (∀ x ∈ ds, (-9223372036854775808 ≤ x.br ∧ x.br ≤ 9223372036854775807) ∧ (-9223372036854775808 ≤ x.ix ∧ x.ix ≤ 9223372036854775807) ∧ (-9223372036854775808 ≤ x.val ∧ x.val ≤ 9223372036854775807)) := hdr
  have HO : Hid (OutsAt w ao raw) := ho
  have HON : Hid (raw.length = m) := hon
  have HOR : Hid (∀ y ∈ raw, (-9223372036854775808 ≤ y.1 ∧ y.1 ≤ 9223372036854775807) ∧ (-9223372036854775808 ≤ y.2 ∧ y.2 ≤ 9223372036854775807)) := hor
  have hprt := Mk.pk_bd rt 1001 (by decide)
  clear hd hdn hdr ho hon hor hpb
  go_enter Tryz.func4, Tryz.ntmps4
  go_wp2_with fail
  refine (deposited_any a b al n c ds g _ a1 a2 b1 b2 hg HD.out HDN.out HDR.out).mono ?_
  rintro e w1 ⟨rfl, v, vi, vc, xs, h24, hsc, hdp, hb1⟩
  clear hg a1 a2 b1 b2
  generalize Mk.pk a 99991 = s at *
  have HDP : Hid (Dp s g xs) := hdp
  have HB1 : Hid (Below w.heap.size w w1) := hb1
  obtain ⟨av, cv, ev, hatv⟩ := OwnRec.at cel6 hsc.pat.own
  obtain ⟨ai0, ci0, ei, hati⟩ := OwnRec.at iv1 hsc.oi
  obtain ⟨ac, cc, ec, hatc⟩ := OwnRec.at coin6 hsc.oc
  clear hatv hati
  have HSE : Hid (∀ k, chE w.heap.size v k → k ≠ w.heap.size + 1 ∧ (∀ x, ac = some x → x.block ≠ k) ∧ k < w1.heap.size) := fun k hk => ⟨(hsc.d1 k hk).1, fun x hx e => (hsc.d1 k hk).2.2 (by rw [ec, hx, ← e]; rfl), (hsc.pat.blk k hk).2⟩
  have HAC : Hid (∀ x, ac = some x → x.block ≠ w.heap.size) := fun x hx e => (hsc.d1 w.heap.size (Or.inl rfl)).2.2 (by rw [ec, hx, ← e]; rfl)
  have HACL : Hid (∀ x, ac = some x → x.block < w1.heap.size) := fun x hx => (hsc.oc.blk x.block (by rw [ec, hx]; rfl)).2
  subst ev
  subst ei
  subst ec
  have HSN1 : Hid (Sn (w.heap.size + 1) w.heap.size s g (.slice ai0 (xs.map Cel.id).length ci0) ac cc (xs.map Cel.kept) w1) := ⟨hsc.c0, hsc.c1, hsc.c2, hsc.c3, hsc.c4, hatc⟩
  have HPA1 : Hid (PAt w1 w.heap.size s g (.slice av xs.length cv) ((xs.length : Nat) : Int) xs) := hsc.pat
  clear hsc hatc hdp hb1
  have HO1 : Hid (OutsAt w1 ao raw) := HO.out.grown HB1.out
  go_wp2_with fail
  refine (request_any ao m d raw _ HO1.out HON.out HOR.out).mono ?_
  obtain ⟨hy1, hy7, hyr⟩ := reqZ_right raw
  rintro e w2 ⟨vq, rfl, hq, hb2⟩
  generalize reqZ raw = ys at *
  have HYR : Hid (∀ y ∈ ys, rOut y = true) := hyr
  clear hyr HO1 HO HON HOR
  obtain ⟨aq, cq, eq, _⟩ := OwnRec.at kv2 hq
  subst eq
  obtain ⟨gq, rfl, hgq, hgq2, _, _⟩ := own_some kv2 hq rfl (by omega)
  have HGQ1 : Hid (w1.heap.size ≤ gq) := hgq
  have HW12 : Hid (w1.heap.size ≤ w2.heap.size) := hb2.size
  have HGQ : Hid (gq ≠ w.heap.size ∧ gq < w2.heap.size) := ⟨by have : w.heap.size < w1.heap.size := cell_lt HPA1.out.c0; omega, hgq2⟩
  clear hgq hgq2
  have HQ2 : Hid (OutsAt w2 (some ⟨gq, 0, none⟩) ys) := rec_outs (own_atS kv2 hq)
  have HSN2 : Hid (Sn (w.heap.size + 1) w.heap.size s g (.slice ai0 (xs.map Cel.id).length ci0) ac cc (xs.map Cel.kept) w2) := HSN1.out.grown hb2
  have HPA2 : Hid (PAt w2 w.heap.size s g (.slice av xs.length cv) ((xs.length : Nat) : Int) xs) := HPA1.out.grown hb2
  have HB2 : Hid (Below w.heap.size w w2) := below_blk HB1.out hb2
  have HAC2 : Hid (∀ x, ac = some x → x.block < w2.heap.size) := fun x hx => Nat.lt_of_lt_of_le (HACL.out x hx) hb2.size
  clear hq hb2 HSN1 HPA1 HB1 HACL
  have HCV : Hid (∀ x ∈ xs.map Cel.kept, 0 ≤ x.val ∧ x.val ≤ 1099511627776) := fun x hx => by
    obtain ⟨y, hy, rfl⟩ := List.mem_map.1 hx
    have := HDP.out.va y hy
    exact ⟨by show 0 ≤ y.val; omega, this.2⟩
  have HCL : Hid ((xs.map Cel.kept).length ≤ 24) := by show _ ≤ _; rw [List.length_map]; exact h24
  have HSU : Hid (sumC (ownZ (keysZ xs s g) (coinsC xs)) = sumC (xs.map Cel.kept)) := HDP.out.sum hg2
  have HOV : Hid (∀ x ∈ ownZ (keysZ xs s g) (coinsC xs), 0 ≤ x.val ∧ x.val ≤ 1099511627776) := fun x hx => ((HDP.out.own HSM.out hg2 hx).1).b
  have HYV : Hid (∀ y ∈ ys, 0 ≤ y.2 ∧ y.2 ≤ 1099511627776) := fun y hy => by have := (rOut_bd (HYR.out y hy)).2; omega
  have HSP : Hid (w.heap.size + 1 ≠ w.heap.size) := by show _ ≠ _; omega
  generalize hPe : w.heap.size = P at *
  have HPE : Hid (w.heap.size = P) := hPe
  clear hPe
  have HPS : Hid (P < P + 1) := by show _ < _; omega
  generalize P + 1 = S at *
  go_wp2_with (go_at_call 11; refine (pick_any rt 1001 _ (by omega) (by omega) r1 r2).mono ?_; rintro e w' ⟨rfl, rfl⟩)
  generalize Mk.pk rt 1001 = r at *
  have hr : 0 ≤ r ∧ r ≤ 1000 := by omega
  clear hprt r1 r2
  have HP5 : Hid (P < w2.heap.size) := cell_lt HPA2.out.c0
  have HS5 : Hid (S < w2.heap.size) := cell_lt HSN2.out.c0
  refine (scPay_any (fun _ => False) S P s g (.slice av xs.length cv) ((xs.length : Nat) : Int) xs (.slice none 0 0) (.slice none 0 0) 0 0 [] [] ai0 (xs.map Cel.id).length ci0 ⟨gq, 0, none⟩ ys.length cq ys r _ HSM.out hg1 hg2 (pp_none HPA2.out) (by omega) HDP.out.vals HQ2.out rfl (by omega) (by omega) (by simp) (by simp) (by rw [List.length_map]; omega) HSN2.out.c0 HSN2.out.c3 (fun e => e.elim HSP.out (fun e => by cases e))).mono ?_
  rintro e w6 ⟨tag, htag, hold, z0, z1, z2, z3, z4, z5, er, rfl, hpay, hnew⟩
  obtain ⟨n0, t, ai, n2, ci, ap, n3, cp, ak, n4, ck, ch, rfl, rfl, rfl, rfl, rfl, rfl⟩ := payOkR_vals hpay
  rw [List.length_map] at htag hnew
  have HPG : Hid _ := paid_acc HDP.out HSM.out hg2 h24 hy1 hy7 HYR.out hr htag hold hnew hpay
  have HF6 : Hid (Fr (fun q => q = P ∨ (Value.slice none 0 0).ownBlock = some q) w2 w6) := payOkR_fr hpay
  have HTG : Hid (tag ≤ xs.length) := htag
  clear hpay hold hnew htag
  have hnP : ∀ q, q ≠ P → ¬ (q = P ∨ (Value.slice none 0 0).ownBlock = some q) := fun q h e => e.elim h (fun e => by cases e)
  have HQ6 : Hid (OutsAt w6 (some ⟨gq, 0, none⟩) ys) := outsAt_fr HF6.out HQ2.out (fun _ x hx => by injection hx with hx; subst hx; exact hnP _ HGQ.out.1)
  have HSN6 : Hid (Sn S P s g (.slice ai0 (xs.map Cel.id).length ci0) ac cc (xs.map Cel.kept) w6) := HSN2.out.fr HF6.out (hnP _ HSP.out) (fun x hx => hnP _ (HAC.out x hx))
  have HB6 : Hid (Below P w w6) := HB2.out.trans (HF6.out.toBelow P (by have := HP5.out; omega) (fun q hq => by
    rcases hq with e | e
    · omega
    · cases e))
  have hs6 : w2.heap.size ≤ w6.heap.size := HF6.out.size
  clear hnP HF6 HSN2 HQ2 HB2
  have HCE : Hid (∀ wx : World, Sn S P s g (.slice ai0 (xs.map Cel.id).length ci0) ac cc (xs.map Cel.kept) wx → OutsAt wx (some ⟨gq, 0, none⟩) ys → Calls Tryz.prog 14 #[.slice ac xs.length cc, .slice (some ⟨gq, 0, none⟩) ys.length cq, .int .i64 r] wx fun e w' => e = .returned (.bool (decide (targetZ ys r ≤ wsum r ((orderZ r (xs.map Cel.kept)).take 10)))) ∧ Below wx.heap.size wx w') := fun wx h1 h2 => enough_any ac xs.length cc (xs.map Cel.kept) (some ⟨gq, 0, none⟩) ys.length cq ys r wx h1.at_ (List.length_map _) (by omega) HCV.out h2 rfl (by omega) HYV.out hr
  generalize hcan : decide (targetZ ys r ≤ wsum r ((orderZ r (xs.map Cel.kept)).take 10)) = can at *
  clear hcan
  have bA : Below w6.heap.size w6 (w6.alloc (.cells #[.int .i64 n0, .int .i64 t, .slice ai n2 ci, .slice ap n3 cp, .slice ak n4 ck, .int .i64 ch] 38)) := (Below.refl _ _).alloc (Nat.le_refl _) _
  have HI7 : Hid (AcI (fun k => (k = S ∨ (∃ x, ac = some x ∧ x.block = k) ∨ k = gq ∨ k = w6.heap.size) ∨ (w2.heap.size ≤ k ∧ k < w6.heap.size ∧ ((Value.slice ai n2 ci).ownBlock = some k ∨ (Value.slice ap n3 cp).ownBlock = some k ∨ (Value.slice ak n4 ck).ownBlock = some k))) S P w6.heap.size s g (.slice ai0 (xs.map Cel.id).length ci0) ac cc (xs.map Cel.kept) gq ys n0 t ch (.slice ai n2 ci) (.slice ap n3 cp) (.slice ak n4 ck) w (w6.alloc (.cells #[.int .i64 n0, .int .i64 t, .slice ai n2 ci, .slice ap n3 cp, .slice ak n4 ck, .int .i64 ch] 38))) :=
    ⟨HSN6.out.grown bA, HQ6.out.grown bA, VB.new w6 _ _ _ _ _ _ 38, HB6.out.trans (bA.mono (by have := HP5.out; omega)), by have := HP5.out; have := bA.size; omega, Or.inl (Or.inl rfl), fun x hx => Or.inl (Or.inr (Or.inl ⟨x, hx, rfl⟩)), Or.inl (Or.inr (Or.inr (Or.inl rfl))), Or.inl (Or.inr (Or.inr (Or.inr rfl)))⟩
  -- none of these is the purse's own
  have HKP : Hid (∀ k, ((k = S ∨ (∃ x, ac = some x ∧ x.block = k) ∨ k = gq ∨ k = w6.heap.size) ∨ (w2.heap.size ≤ k ∧ k < w6.heap.size ∧ ((Value.slice ai n2 ci).ownBlock = some k ∨ (Value.slice ap n3 cp).ownBlock = some k ∨ (Value.slice ak n4 ck).ownBlock = some k))) → k ≠ P ∧ k ≤ w6.heap.size ∧ ¬ chE P (.slice av xs.length cv) k) := fun k hk => by
    have h1 := HSE.out k
    have h2 := HP5.out
    have h3 := HS5.out
    have h4 := HGQ.out
    have h5 := HW12.out
    rcases hk with (rfl | ⟨x, hx, rfl⟩ | rfl | rfl) | ⟨hk, hk2, _⟩
    · exact ⟨HSP.out, by omega, fun e => (h1 e).1 rfl⟩
    · have := HAC2.out x hx
      exact ⟨HAC.out x hx, by omega, fun e => (h1 e).2.1 x hx rfl⟩
    · exact ⟨h4.1, by omega, fun e => by have := (h1 e).2.2; have := HGQ1.out; omega⟩
    · exact ⟨by omega, by omega, fun e => by have := (h1 e).2.2; omega⟩
    · exact ⟨by omega, by omega, fun e => by have := (h1 e).2.2; omega⟩
  go_upto_region 7 with fail
  have HB67 : Hid (Below w6.heap.size w6 (w6.alloc (.cells #[.int .i64 n0, .int .i64 t, .slice ai n2 ci, .slice ap n3 cp, .slice ak n4 ck, .int .i64 ch] 38))) := bA
  clear bA HSN6 HQ6 HB6
  generalize hK : (fun k => (k = S ∨ (∃ x, ac = some x ∧ x.block = k) ∨ k = gq ∨ k = w6.heap.size) ∨ (w2.heap.size ≤ k ∧ k < w6.heap.size ∧ ((Value.slice ai n2 ci).ownBlock = some k ∨ (Value.slice ap n3 cp).ownBlock = some k ∨ (Value.slice ak n4 ck).ownBlock = some k))) = K at HI7
  have HK : Hid (∀ k, K k → k ≠ P ∧ k ≤ w6.heap.size ∧ ¬ chE P (.slice av xs.length cv) k) := fun k hk => HKP.out k (by rw [← hK] at hk; exact hk)
  have HKT : Hid (∀ k, (w2.heap.size ≤ k ∧ k < w6.heap.size ∧ ((Value.slice ai n2 ci).ownBlock = some k ∨ (Value.slice ap n3 cp).ownBlock = some k ∨ (Value.slice ak n4 ck).ownBlock = some k)) → K k) := fun k hk => by rw [← hK]; exact Or.inr hk
  have HKD : Hid (∀ k, K k → k < w2.heap.size ∨ k = w6.heap.size ∨ ((Value.slice ai n2 ci).ownBlock = some k ∨ (Value.slice ap n3 cp).ownBlock = some k ∨ (Value.slice ak n4 ck).ownBlock = some k)) := fun k hk => by
    rw [← hK] at hk
    have h3 := HS5.out
    have h4 := HGQ.out
    rcases hk with (rfl | ⟨x, hx, rfl⟩ | rfl | rfl) | ⟨_, _, hk⟩
    · exact Or.inl h3
    · exact Or.inl (HAC2.out x hx)
    · exact Or.inl h4.2
    · exact Or.inr (Or.inl rfl)
    · exact Or.inr (Or.inr hk)
  clear hK HKP
  generalize w6.alloc (.cells #[.int .i64 n0, .int .i64 t, .slice ai n2 ci, .slice ap n3 cp, .slice ak n4 ck, .int .i64 ch] 38) = w7 at *
  have hX7 : w6.heap.size < w7.heap.size := cell_lt HI7.out.vx.c0
  generalize hXe : w6.heap.size = X at *
  have HXE : Hid (w6.heap.size = X) := hXe
  clear hXe
  have HKK : Hid ((((can = false ∧ er = 9) ∨ (can = true ∧ er = 10 ∧ unpZ xs s g 0 = none)) ∧ Below w2.heap.size w2 w6) ∨ (can = true ∧ er = 0 ∧ n0 = 0 ∧ t = (tag : Int) ∧ ∃ L ex, Paid1 s g xs 0 ys r L ex ch ∧ hasId xs (idZ (tag : Int) (L.map CoinD.inD) (ys ++ ex)) = false ∧ PayGo (fun _ => False) P s g (.slice av xs.length cv) ((xs.length : Nat) : Int) xs (.slice none 0 0) (.slice none 0 0) 0 0 [] [] (tag : Int) L (ys ++ ex) ch (.slice ai n2 ci) (.slice ap n3 cp) (.slice ak n4 ck) w2 w6)) := by
    rcases HPG.out with ⟨h1, h2, h3⟩ | ⟨h1, h2, h3, h4⟩ | h
    · exact Or.inl ⟨Or.inl ⟨h1, h2⟩, h3⟩
    · exact Or.inl ⟨Or.inr ⟨h1, h2, h3⟩, h4⟩
    · exact Or.inr h
  clear HPG
  rcases HKK.out with ⟨hk, hb26⟩ | ⟨rfl, rfl, rfl, rfl, L, ex, hpd, hid, hgo⟩
  · have HKR : Hid ((can = false ∧ er = 9) ∨ (can = true ∧ er = 10 ∧ unpZ xs s g 0 = none)) := hk
    have HPA7 : Hid (PAt w7 P s g (.slice av xs.length cv) ((xs.length : Nat) : Int) xs) := (HPA2.out.grown hb26).grown (by rw [HXE.out]; exact HB67.out)
    clear hk hb26 HKK HPA2
    have HSG : Hid (∀ (n : Int) (wx : World), PAt wx P s g (.slice av xs.length cv) ((xs.length : Nat) : Int) xs → Calls Tryz.prog 13 #[.pointer (some ⟨P, 0, none⟩), .int .i64 n] wx fun e w' => e = .returned (.tuple #[.agg #[.int .i64 0, .slice none 0 0, .slice none 0 0], .int .i64 11]) ∧ Below wx.heap.size wx w') := fun n wx hx => by
      obtain ⟨av7, cv7, ev7, hat⟩ := hx.at
      injection ev7 with ev7 _ _
      subst ev7
      refine (pSign_any (fun _ => False) P (.slice none 0 0) (.slice none 0 0) 0 0 [] [] av xs.length cv xs s n wx (pp_none hx).ls (by simp) (by simp) (pat_c0 hx) hx.c0 hat rfl (by omega) (by simp) (by simp)).mono ?_
      rintro e w8 ⟨v0, v1, v2, er8, rfl, h8⟩
      obtain ⟨rfl, rfl, rfl, rfl, hb8⟩ := sg_err (sgz_none _ _ _) h8
      exact ⟨rfl, hb8⟩
    have s0 := HI7.out.sn.c0
    go_wp2_with fail
    refine (HSG.out 0 _ HPA7.out).mono ?_
    rintro e w8 ⟨rfl, hb8⟩
    have HI8 : Hid (AcI K S P X s g (.slice ai0 (xs.map Cel.id).length ci0) ac cc (xs.map Cel.kept) gq ys n0 t ch (.slice ai n2 ci) (.slice ap n3 cp) (.slice ak n4 ck) w w8) := HI7.out.grown hb8
    have HPA8 : Hid (PAt w8 P s g (.slice av xs.length cv) ((xs.length : Nat) : Int) xs) := HPA7.out.grown hb8
    have bB : Below w8.heap.size w8 (w8.alloc (.cells #[.int .i64 0, .slice none 0 0, .slice none 0 0] 35)) := (Below.refl _ _).alloc (Nat.le_refl _) _
    have HI9 : Hid (AcI K S P X s g (.slice ai0 (xs.map Cel.id).length ci0) ac cc (xs.map Cel.kept) gq ys n0 t ch (.slice ai n2 ci) (.slice ap n3 cp) (.slice ak n4 ck) w (w8.alloc (.cells #[.int .i64 0, .slice none 0 0, .slice none 0 0] 35))) := HI8.out.grown bB
    have HPA9 : Hid (PAt (w8.alloc (.cells #[.int .i64 0, .slice none 0 0, .slice none 0 0] 35)) P s g (.slice av xs.length cv) ((xs.length : Nat) : Int) xs) := HPA8.out.grown bB
    have HT9 : Hid (V3 (w8.alloc (.cells #[.int .i64 0, .slice none 0 0, .slice none 0 0] 35)) w8.heap.size (.int .i64 0) (.slice none 0 0) (.slice none 0 0)) := V3.new w8 _ _ _ 35
    go_upto_region 8 with fail
    clear s0 hb8 bB HI7 HI8 HPA7 HPA8
    generalize w8.alloc (.cells #[.int .i64 0, .slice none 0 0, .slice none 0 0] 35) = w9 at *
    generalize w8.heap.size = T at *
    have s0 := HI9.out.sn.c0
    go_wp2_with fail
    refine (HSG.out 1 _ HPA9.out).mono ?_
    rintro e w10 ⟨rfl, hb10⟩
    have HI10 : Hid (AcI K S P X s g (.slice ai0 (xs.map Cel.id).length ci0) ac cc (xs.map Cel.kept) gq ys n0 t ch (.slice ai n2 ci) (.slice ap n3 cp) (.slice ak n4 ck) w w10) := HI9.out.grown hb10
    have HPA10 : Hid (PAt w10 P s g (.slice av xs.length cv) ((xs.length : Nat) : Int) xs) := HPA9.out.grown hb10
    have HT10 : Hid (V3 w10 T (.int .i64 0) (.slice none 0 0) (.slice none 0 0)) := HT9.out.grown hb10
    have bB : Below w10.heap.size w10 (w10.alloc (.cells #[.int .i64 0, .slice none 0 0, .slice none 0 0] 35)) := (Below.refl _ _).alloc (Nat.le_refl _) _
    have HI11 : Hid (AcI K S P X s g (.slice ai0 (xs.map Cel.id).length ci0) ac cc (xs.map Cel.kept) gq ys n0 t ch (.slice ai n2 ci) (.slice ap n3 cp) (.slice ak n4 ck) w (w10.alloc (.cells #[.int .i64 0, .slice none 0 0, .slice none 0 0] 35))) := HI10.out.grown bB
    have HPA11 : Hid (PAt (w10.alloc (.cells #[.int .i64 0, .slice none 0 0, .slice none 0 0] 35)) P s g (.slice av xs.length cv) ((xs.length : Nat) : Int) xs) := HPA10.out.grown bB
    have HT11 : Hid (V3 (w10.alloc (.cells #[.int .i64 0, .slice none 0 0, .slice none 0 0] 35)) T (.int .i64 0) (.slice none 0 0) (.slice none 0 0)) := HT10.out.grown bB
    go_upto_region 9 with fail
    clear s0 hb10 bB HI9 HI10 HPA9 HPA10 HT9 HT10
    generalize w10.alloc (.cells #[.int .i64 0, .slice none 0 0, .slice none 0 0] 35) = w11 at *
    have s4 : w11.cell? ⟨S, 4, none⟩ = some (.slice ac xs.length cc) := by have := HI11.out.sn.c4; rwa [List.length_map] at this
    go_wp2_with fail
    refine (HCE.out _ HI11.out.sn HI11.out.oq).mono ?_
    rintro e w12 ⟨rfl, hb12⟩
    have HI12 : Hid (AcI K S P X s g (.slice ai0 (xs.map Cel.id).length ci0) ac cc (xs.map Cel.kept) gq ys n0 t ch (.slice ai n2 ci) (.slice ap n3 cp) (.slice ak n4 ck) w w12) := HI11.out.grown hb12
    have HPA12 : Hid (PAt w12 P s g (.slice av xs.length cv) ((xs.length : Nat) : Int) xs) := HPA11.out.grown hb12
    have HT12 : Hid (V3 w12 T (.int .i64 0) (.slice none 0 0) (.slice none 0 0)) := HT11.out.grown hb12
    clear s4 hb12 HI11 HPA11 HT11
    rcases HKR.out with ⟨rfl, rfl⟩ | ⟨rfl, rfl, hun⟩
    · obtain ⟨t0, t1, t2, _⟩ := HT12.out
      go_wp2_with fail
      refine (bare_zero _).mono ?_
      rintro e w13 ⟨rfl, hb13⟩
      have HI13 : Hid (AcI K S P X s g (.slice ai0 (xs.map Cel.id).length ci0) ac cc (xs.map Cel.kept) gq ys n0 t ch (.slice ai n2 ci) (.slice ap n3 cp) (.slice ak n4 ck) w w13) := HI12.out.grown hb13
      clear t0 t1 t2 hb13
      go_wp2
      go_ret
      exact ⟨rfl, by rw [HPE.out]; exact HI13.out.hb⟩
    · have HR12 : Hid (PRow4 w12 P s g (.slice av xs.length cv) ((xs.length : Nat) : Int)) := paq_row (pp_none HPA12.out).pu
      obtain ⟨av8, cv8, ev8, hatv8⟩ := HPA12.out.at
      injection ev8 with ev8 _ _
      subst ev8
      have HX12 : Hid (CelsAt w12 av xs) := hatv8
      have HFU : Hid (∀ i : Nat, i < winZ xs s g 1 → Mk.isK s 1 (i : Int) = true ∧ ((xs.map Cel.kept).any fun c => c.tt == Mk.adr s 1 (i : Int)) = true) := fun i hi => ⟨key_ok HSM.out (Or.inr rfl) (by omega) (by have := winZ_le xs s g 1; omega), unp_full hun hi⟩
      have HW0 : Hid (0 < winZ xs s g 1) := by show _ < _; have := (win_spec xs s g 1 hg2).1; omega
      clear hun hatv8
      go_wp2_with fail
      refine (sFull_any S P s g (.slice ai0 (xs.map Cel.id).length ci0) ac cc (xs.map Cel.kept) av cv _ xs _ HI12.out.sn (by have := HCL.out; omega) HSM.out hg1 hg2 HR12.out HX12.out (by omega) HW0.out HFU.out).mono ?_
      rintro e w13 ⟨rfl, hb13⟩
      have HI13 : Hid (AcI K S P X s g (.slice ai0 (xs.map Cel.id).length ci0) ac cc (xs.map Cel.kept) gq ys n0 t ch (.slice ai n2 ci) (.slice ap n3 cp) (.slice ak n4 ck) w w13) := HI12.out.grown hb13
      clear hb13
      go_wp2
      go_ret
      exact ⟨rfl, by rw [HPE.out]; exact HI13.out.hb⟩
  · have HPD : Hid (Paid1 s g xs 0 ys r L ex ch) := hpd
    obtain ⟨vl', gc, ccc, go, co, hpp, hpdk, hfr26, hsep⟩ := hgo
    have o1 := own_cap hpdk.oi
    have o2 := own_cap hpdk.oo
    have o3 := own_cap hpdk.ok
    have hb67 : Below w6.heap.size w6 w7 := by rw [HXE.out]; exact HB67.out
    have HAX7 : Hid (AcX K ⟨(tag : Int), ai, n2, ci, ap, n3, cp, L.map fun x => (⟨x.id, x.pos, none, 0, 0, []⟩ : InD), ys ++ ex⟩ ak L w7) := (acx_of (tag : Int) hpdk (fun k hk => HKT.out k (by
      have hX := HXE.out
      rcases hk with hk | hk | hk
      · have := hpdk.oi.blk k hk; exact ⟨this.1, by omega, Or.inl hk⟩
      · have := hpdk.oo.blk k hk; exact ⟨this.1, by omega, Or.inr (Or.inl hk)⟩
      · have := hpdk.ok.blk k hk; exact ⟨this.1, by omega, Or.inr (Or.inr hk)⟩))).grown hb67
    have HKV : Hid (∀ k, K k → vl'.ownBlock ≠ some k) := fun k hk e => by
      have h1 := hpp.ls.ol.blk k e
      have h2 := HXE.out
      rcases hsep k (Or.inl e) with h3 | ⟨h3, h4, h5, h6⟩
      · cases h3
      · rcases HKD.out k hk with h7 | h7 | h7 | h7 | h7
        · omega
        · omega
        · exact h4 h7
        · exact h5 h7
        · exact h6 h7
    generalize hNN : (fun k => (fun _ => False) k ∨ k = gc ∨ k = go) = NN at hpp
    have HPP7 : Hid (PP NN w7 P s g (.slice av xs.length cv) ((xs.length : Nat) : Int) xs vl' (.slice none 0 0) (0 + 1) (if (0 : Int) ≤ ch then ch + 1 else 0) ([] ++ [⟨0, some ⟨gc, 0, none⟩, L.length, ccc, some ⟨go, 0, none⟩, (ys ++ ex).length, co, (tag : Int), false, L, ys ++ ex⟩]) []) := hpp.grown hb67
    rw [List.nil_append, show (0 : Int) + 1 = 1 from rfl] at HPP7
    generalize (if (0 : Int) ≤ ch then ch + 1 else 0) = nx at HPP7
    obtain ⟨xs2, hsay⟩ := acc_say HDP.out HSM.out hg2 h24 hy1 hy7 HYR.out hr HTG.out hpd hid (p := ⟨0, some ⟨gc, 0, none⟩, L.length, ccc, some ⟨go, 0, none⟩, (ys ++ ex).length, co, (tag : Int), false, L, ys ++ ex⟩) rfl rfl rfl rfl
    have HPM : Hid (0 < (ys ++ ex).length) := by show _ < _; rw [List.length_append]; omega
    generalize hpe : (⟨0, some ⟨gc, 0, none⟩, L.length, ccc, some ⟨go, 0, none⟩, (ys ++ ex).length, co, (tag : Int), false, L, ys ++ ex⟩ : PayD) = p at *
    have HP0 : Hid (p.num = 0) := by rw [← hpe]; rfl
    have HPC : Hid (p.cs = L) := by rw [← hpe]; rfl
    have HPY : Hid (p.ys = ys ++ ex) := by rw [← hpe]; rfl
    have HPT : Hid (p.tag = (tag : Int)) := by rw [← hpe]; rfl
    have HPS : Hid (p.sg = false) := by rw [← hpe]; rfl
    have HPN : Hid (0 < p.m) := by rw [← hpe]; exact HPM.out
    have HSAY : Hid (AccSay s g xs xs2 p ch) := hsay
    have HL2 : Hid (L.length = n2 ∧ n4 = n2 ∧ (ys ++ ex).length = n3) := ⟨o1.1, by omega, o2.1⟩
    have HL10 : Hid (0 < L.length ∧ L.length ≤ 10 ∧ (ys ++ ex).length ≤ 8) := ⟨hpd.l0, hpd.l10, by have := hpd.e1; rw [List.length_append]; omega⟩
    have HZ3 : Hid (ap = none → cp = 0) := fun e => by
      subst e
      rcases hpdk.oo.2 with ⟨e, _⟩ | ⟨gg, cap, cur, e, _⟩
      · injection e
      · cases e
    clear hpd hpp hpdk hfr26 hsep hNN hb67 o1 o2 o3 HKK HPA2 hpe hsay hid
    have HSG : Hid (∀ (vs : Value) (q : PayD) (ks : List (Int × Int)) (v : Value) (h : Int) (xz : List Cel) (n : Int) (wx : World), PP NN wx P s g v h xz vl' vs 1 nx [q] ks → 0 < q.m → q.cs = L → ks.length ≤ 100 → xz.length ≤ 1000 → Calls Tryz.prog 13 #[.pointer (some ⟨P, 0, none⟩), .int .i64 n] wx fun e w' => ∃ v0 v1 v2 er, e = .returned (.tuple #[.agg #[v0, v1, v2], .int .i64 er]) ∧ SignOk NN P 4 (P + 1) vl' vs 1 nx [q] ks xz s n v0 v1 v2 er wx w') := fun vs q ks v h xz n wx u hq hqc hkl hxl => by
      obtain ⟨av7, cv7, ev7, hat⟩ := u.pu.at
      subst ev7
      refine pSign_any NN P vl' vs 1 nx [q] ks av7 xz.length cv7 xz s n wx u.ls (by simp) (by omega) (paq_c0 u.pu) u.pu.c0 hat rfl (by omega) (fun p hp => by rw [List.mem_singleton.1 hp]; exact hq) (fun p hp x hx => ?_)
      rw [List.mem_singleton.1 hp, hqc, ← HPC.out] at hx
      exact HSAY.out.ky x hx
    have s0 := HI7.out.sn.c0
    go_wp2_with fail
    refine (HSG.out _ p [] _ _ xs 0 _ HPP7.out HPN.out HPC.out (by simp) (by omega)).mono ?_
    rintro e w8 ⟨v0, v1, v2, er8, rfl, h8⟩
    obtain ⟨t8, bi, bn, bc, bp, bm, bd, rfl, rfl, rfl⟩ := h8.vals
    obtain ⟨rfl, hv0, L8, vs8, New, hsg, hsl⟩ := sg_first HSAY.out.sg HPS.out h8
    injection hv0 with _ hv0
    rw [HPT.out] at hv0
    subst hv0
    have hE8 : ∀ k, K k → ¬ (k = P ∨ vl'.ownBlock = some k ∨ (Value.slice none 0 0).ownBlock = some k) := fun k hk e => by
      rcases e with e | e | e
      · exact (HK.out k hk).1 e
      · exact HKV.out k hk e
      · cases e
    have HI8 : Hid (AcI K S P X s g (.slice ai0 (xs.map Cel.id).length ci0) ac cc (xs.map Cel.kept) gq ys 0 (tag : Int) ch (.slice ai n2 ci) (.slice ap n3 cp) (.slice ak n4 ck) w w8) := HI7.out.fr hsl.fr hE8 (fun k e => by
      rcases e with e | e | e
      · omega
      · have := (HPP7.out.ls.ol.blk k e).1; omega
      · cases e)
    have HAX8 : Hid (AcX K ⟨(tag : Int), ai, n2, ci, ap, n3, cp, L.map fun x => (⟨x.id, x.pos, none, 0, 0, []⟩ : InD), ys ++ ex⟩ ak L w8) := HAX7.out.fr hsl.fr hE8
    have HPP8 : Hid (PP NN w8 P s g (.slice av xs.length cv) ((xs.length : Nat) : Int) xs vl' vs8 1 nx [p.on] (addKeysZ [] p.cs)) := HPP7.out.signed hsl
    have HTX8 : Hid (SgTx w7.heap.size s p (.slice bi bn bc) (.slice bp bm bd) L8 w8) := hsg
    have hz8 : w7.heap.size ≤ w8.heap.size := hsl.fr.size
    have HKL : Hid ((addKeysZ [] p.cs).length ≤ 100) := by
      show _ ≤ _
      have h1 := addKeys_len p.cs []
      have h2 := HL10.out
      rw [HPC.out] at h1 ⊢
      simp at h1
      omega
    clear h8 hsg hsl hE8 s0 HPP7 HI7 HAX7
    generalize addKeysZ [] p.cs = ks8 at *
    have bB : Below w8.heap.size w8 (w8.alloc (.cells #[.int .i64 (tag : Int), .slice bi bn bc, .slice bp bm bd] 35)) := (Below.refl _ _).alloc (Nat.le_refl _) _
    have HI9 : Hid (AcI K S P X s g (.slice ai0 (xs.map Cel.id).length ci0) ac cc (xs.map Cel.kept) gq ys 0 (tag : Int) ch (.slice ai n2 ci) (.slice ap n3 cp) (.slice ak n4 ck) w (w8.alloc (.cells #[.int .i64 (tag : Int), .slice bi bn bc, .slice bp bm bd] 35))) := HI8.out.grown bB
    have HAX9 : Hid (AcX K ⟨(tag : Int), ai, n2, ci, ap, n3, cp, L.map fun x => (⟨x.id, x.pos, none, 0, 0, []⟩ : InD), ys ++ ex⟩ ak L (w8.alloc (.cells #[.int .i64 (tag : Int), .slice bi bn bc, .slice bp bm bd] 35))) := HAX8.out.grown bB
    have HPP9 : Hid (PP NN (w8.alloc (.cells #[.int .i64 (tag : Int), .slice bi bn bc, .slice bp bm bd] 35)) P s g (.slice av xs.length cv) ((xs.length : Nat) : Int) xs vl' vs8 1 nx [p.on] ks8) := HPP8.out.grown bB
    have HTX9 : Hid (SgTx w7.heap.size s p (.slice bi bn bc) (.slice bp bm bd) L8 (w8.alloc (.cells #[.int .i64 (tag : Int), .slice bi bn bc, .slice bp bm bd] 35))) := HTX8.out.grown bB
    have HT9 : Hid (V3 (w8.alloc (.cells #[.int .i64 (tag : Int), .slice bi bn bc, .slice bp bm bd] 35)) w8.heap.size (.int .i64 (tag : Int)) (.slice bi bn bc) (.slice bp bm bd)) := V3.new w8 _ _ _ 35
    go_upto_region 8 with fail
    clear bB HI8 HAX8 HPP8 HTX8
    generalize w8.alloc (.cells #[.int .i64 (tag : Int), .slice bi bn bc, .slice bp bm bd] 35) = w9 at *
    generalize w8.heap.size = T at *
    have s0 := HI9.out.sn.c0
    go_wp2_with fail
    refine (HSG.out _ p.on ks8 _ _ xs 1 _ HPP9.out HPN.out HPC.out HKL.out (by omega)).mono ?_
    rintro e w10 ⟨v0, v1, v2, er8, rfl, h10⟩
    obtain ⟨rfl, rfl, rfl, rfl, hb10⟩ := sg_err (sgz_other (show p.on.num ≠ 1 by show p.num ≠ 1; rw [HP0.out]; decide)) h10
    have HI10 : Hid (AcI K S P X s g (.slice ai0 (xs.map Cel.id).length ci0) ac cc (xs.map Cel.kept) gq ys 0 (tag : Int) ch (.slice ai n2 ci) (.slice ap n3 cp) (.slice ak n4 ck) w w10) := HI9.out.grown hb10
    have HAX10 : Hid (AcX K ⟨(tag : Int), ai, n2, ci, ap, n3, cp, L.map fun x => (⟨x.id, x.pos, none, 0, 0, []⟩ : InD), ys ++ ex⟩ ak L w10) := HAX9.out.grown hb10
    have HPP10 : Hid (PP NN w10 P s g (.slice av xs.length cv) ((xs.length : Nat) : Int) xs vl' vs8 1 nx [p.on] ks8) := HPP9.out.grown hb10
    have HTX10 : Hid (SgTx w7.heap.size s p (.slice bi bn bc) (.slice bp bm bd) L8 w10) := HTX9.out.grown hb10
    have HT10 : Hid (V3 w10 T (.int .i64 (tag : Int)) (.slice bi bn bc) (.slice bp bm bd)) := HT9.out.grown hb10
    have bB : Below w10.heap.size w10 (w10.alloc (.cells #[.int .i64 0, .slice none 0 0, .slice none 0 0] 35)) := (Below.refl _ _).alloc (Nat.le_refl _) _
    have HI11 : Hid (AcI K S P X s g (.slice ai0 (xs.map Cel.id).length ci0) ac cc (xs.map Cel.kept) gq ys 0 (tag : Int) ch (.slice ai n2 ci) (.slice ap n3 cp) (.slice ak n4 ck) w (w10.alloc (.cells #[.int .i64 0, .slice none 0 0, .slice none 0 0] 35))) := HI10.out.grown bB
    have HAX11 : Hid (AcX K ⟨(tag : Int), ai, n2, ci, ap, n3, cp, L.map fun x => (⟨x.id, x.pos, none, 0, 0, []⟩ : InD), ys ++ ex⟩ ak L (w10.alloc (.cells #[.int .i64 0, .slice none 0 0, .slice none 0 0] 35))) := HAX10.out.grown bB
    have HPP11 : Hid (PP NN (w10.alloc (.cells #[.int .i64 0, .slice none 0 0, .slice none 0 0] 35)) P s g (.slice av xs.length cv) ((xs.length : Nat) : Int) xs vl' vs8 1 nx [p.on] ks8) := HPP10.out.grown bB
    have HTX11 : Hid (SgTx w7.heap.size s p (.slice bi bn bc) (.slice bp bm bd) L8 (w10.alloc (.cells #[.int .i64 0, .slice none 0 0, .slice none 0 0] 35))) := HTX10.out.grown bB
    have HT11 : Hid (V3 (w10.alloc (.cells #[.int .i64 0, .slice none 0 0, .slice none 0 0] 35)) T (.int .i64 (tag : Int)) (.slice bi bn bc) (.slice bp bm bd)) := HT10.out.grown bB
    go_upto_region 9 with fail
    clear s0 h10 hb10 bB HI9 HI10 HAX9 HAX10 HPP9 HPP10 HTX9 HTX10 HT9 HT10
    generalize w10.alloc (.cells #[.int .i64 0, .slice none 0 0, .slice none 0 0] 35) = w11 at *
    have s4 : w11.cell? ⟨S, 4, none⟩ = some (.slice ac xs.length cc) := by have := HI11.out.sn.c4; rwa [List.length_map] at this
    go_wp2_with fail
    refine (HCE.out _ HI11.out.sn HI11.out.oq).mono ?_
    rintro e w12 ⟨rfl, hb12⟩
    have HI12 : Hid (AcI K S P X s g (.slice ai0 (xs.map Cel.id).length ci0) ac cc (xs.map Cel.kept) gq ys 0 (tag : Int) ch (.slice ai n2 ci) (.slice ap n3 cp) (.slice ak n4 ck) w w12) := HI11.out.grown hb12
    have HAX12 : Hid (AcX K ⟨(tag : Int), ai, n2, ci, ap, n3, cp, L.map fun x => (⟨x.id, x.pos, none, 0, 0, []⟩ : InD), ys ++ ex⟩ ak L w12) := HAX11.out.grown hb12
    have HPP12 : Hid (PP NN w12 P s g (.slice av xs.length cv) ((xs.length : Nat) : Int) xs vl' vs8 1 nx [p.on] ks8) := HPP11.out.grown hb12
    have HTX12 : Hid (SgTx w7.heap.size s p (.slice bi bn bc) (.slice bp bm bd) L8 w12) := HTX11.out.grown hb12
    have HT12 : Hid (V3 w12 T (.int .i64 (tag : Int)) (.slice bi bn bc) (.slice bp bm bd)) := HT11.out.grown hb12
    clear s4 hb12 HI11 HAX11 HPP11 HTX11 HT11
    -- the lists' lengths are the same
    obtain ⟨hl1, hl2, hl3⟩ := HTX12.out.lens
    have hbn : n2 = bn := by have := HL2.out.1; rw [HPC.out] at hl2; omega
    have hbm : n3 = bm := by have := HL2.out.2.2; rw [HPY.out] at hl3; omega
    have hn4 : n4 = bn := by have := HL2.out.2.1; omega
    subst hbn
    subst hbm
    subst hn4
    have HL8 : Hid (L8.length = n4) := hl1
    clear hl1 hl2 hl3
    have bD : Below w12.heap.size w12 w12.drew := (Below.refl _ _).drew
    have HIS : Hid ((L8.map (sgIn s p.id)).map InD.st = L.map (sgI0 s p.id)) := by show _ = _; rw [sgIn_st, HTX12.out.fst, HPC.out]
    have HID : Hid (idZ (tag : Int) (L8.map (sgIn s p.id)) (ys ++ ex) = p.id) := by
      show _ = _
      rw [← HPY.out]
      exact HSAY.out.id _ _ HPT.out.symm (by rw [HPC.out]; exact HIS.out)
    have HOA : Hid (OutsAt w12.drew bp (ys ++ ex)) := by rw [← HPY.out]; exact HTX12.out.outsAt.grown bD
    have HIA : Hid (InsAt w12.drew bi (L8.map (sgIn s p.id))) := HTX12.out.insAt.grown bD
    have HAXD : Hid (AcX K ⟨(tag : Int), ai, n4, ci, ap, n3, cp, L.map fun x => (⟨x.id, x.pos, none, 0, 0, []⟩ : InD), ys ++ ex⟩ ak L w12.drew) := HAX12.out.grown bD
    have HKY : Hid (∀ x ∈ L, Mk.isK s x.br x.ix = true) := fun x hx => HSAY.out.ky x (by rw [HPC.out]; exact hx)
    obtain ⟨x0, x1, x2, x3, x4, x5, _⟩ := HI12.out.vx
    obtain ⟨t0, t1, t2, _⟩ := HT12.out
    have s1 := HI12.out.sn.c1
    have HKX : Hid (w12.drew.cell? ⟨S, 1, none⟩ = some (.int .i64 s) ∧ (w12.drew.cell? ⟨X, 0, none⟩ = some (.int .i64 0) ∧ w12.drew.cell? ⟨X, 1, none⟩ = some (.int .i64 (tag : Int)) ∧ w12.drew.cell? ⟨X, 2, none⟩ = some (.slice ai n4 ci) ∧ w12.drew.cell? ⟨X, 3, none⟩ = some (.slice ap n3 cp) ∧ w12.drew.cell? ⟨X, 4, none⟩ = some (.slice ak n4 ck) ∧ w12.drew.cell? ⟨X, 5, none⟩ = some (.int .i64 ch)) ∧ w12.drew.cell? ⟨T, 0, none⟩ = some (.int .i64 (tag : Int)) ∧ w12.drew.cell? ⟨T, 1, none⟩ = some (.slice bi n4 bc) ∧ w12.drew.cell? ⟨T, 2, none⟩ = some (.slice bp n3 bd)) := ⟨s1, ⟨x0, x1, x2, x3, x4, x5⟩, t0, t1, t2⟩
    have HBD : Hid (Below w12.heap.size w12 w12.drew) := bD
    clear bD
    go_upto_region 18 with fail
    go_region_held3 (fun w' => w'.cell? ⟨S, 1, none⟩ = some (.int .i64 s) ∧ (w'.cell? ⟨X, 0, none⟩ = some (.int .i64 0) ∧ w'.cell? ⟨X, 1, none⟩ = some (.int .i64 (tag : Int)) ∧ w'.cell? ⟨X, 2, none⟩ = some (.slice ai n4 ci) ∧ w'.cell? ⟨X, 3, none⟩ = some (.slice ap n3 cp) ∧ w'.cell? ⟨X, 4, none⟩ = some (.slice ak n4 ck) ∧ w'.cell? ⟨X, 5, none⟩ = some (.int .i64 ch)) ∧ w'.cell? ⟨T, 0, none⟩ = some (.int .i64 (tag : Int)) ∧ w'.cell? ⟨T, 1, none⟩ = some (.slice bi n4 bc) ∧ w'.cell? ⟨T, 2, none⟩ = some (.slice bp n3 bd)) (first | go_keep | with_reducible exact HKX.out | exact keepOX hb13 HKX.out) ((go_at_call 17; refine (opens_any s 0 (tag : Int) ch ai n4 ci ap n3 cp ak ck bi bc bp bd L (ys ++ ex) (L8.map (sgIn s p.id)) p.id w12.drew HAXD.out.tx.ins HAXD.out.rk HAXD.out.tx.outs HIA.out HOA.out HL2.out.1 HL2.out.2.2 HIS.out HID.out HKY.out (by have h1 := HL10.out; have h2 := HL2.out.1; omega) (by have h1 := HL10.out; have h2 := HL2.out.1; omega) (by have h1 := HL10.out; have h2 := HL2.out.2.2; omega)).mono ?_; rintro e w13 ⟨rfl, hb13⟩))
    have hb1213 : Below w12.heap.size w12 w13 := below_blk HBD.out hb13
    have HI13 : Hid (AcI K S P X s g (.slice ai0 (xs.map Cel.id).length ci0) ac cc (xs.map Cel.kept) gq ys 0 (tag : Int) ch (.slice ai n4 ci) (.slice ap n3 cp) (.slice ak n4 ck) w w13) := HI12.out.grown hb1213
    have HAX13 : Hid (AcX K ⟨(tag : Int), ai, n4, ci, ap, n3, cp, L.map fun x => (⟨x.id, x.pos, none, 0, 0, []⟩ : InD), ys ++ ex⟩ ak L w13) := HAX12.out.grown hb1213
    have HPP13 : Hid (PP NN w13 P s g (.slice av xs.length cv) ((xs.length : Nat) : Int) xs vl' vs8 1 nx [p.on] ks8) := HPP12.out.grown hb1213
    have HTX13 : Hid (SgTx w7.heap.size s p (.slice bi n4 bc) (.slice bp n3 bd) L8 w13) := HTX12.out.grown hb1213
    have HT13 : Hid (V3 w13 T (.int .i64 (tag : Int)) (.slice bi n4 bc) (.slice bp n3 bd)) := HT12.out.grown hb1213
    clear x0 x1 x2 x3 x4 x5 t0 t1 t2 s1 hb13 hb1213 HKX HBD HOA HIA HAXD HI12 HAX12 HPP12 HTX12 HT12
    obtain ⟨x0, x1, x2, x3, x4, x5, _⟩ := HI13.out.vx
    obtain ⟨t0, t1, t2, _⟩ := HT13.out
    have hTl : T < w13.heap.size := cell_lt t0
    have HEB : Hid (∀ k, chE P (.slice av xs.length cv) k → k < w7.heap.size) := fun k e => by
      have h1 := (HSE.out k e).2.2
      have h2 := HW12.out
      omega
    have HNN : Hid (∀ k, (K k ∨ (w7.heap.size ≤ k ∧ k < w13.heap.size)) → k < w13.heap.size ∧ ¬ chE P (.slice av xs.length cv) k) := fun k hk => by
      rcases hk with hk | hk
      · have := HK.out k hk
        exact ⟨by omega, this.2.2⟩
      · exact ⟨hk.2, fun e => by have := HEB.out k e; omega⟩
    have HTA : Hid (TxOk (fun k => K k ∨ (w7.heap.size ≤ k ∧ k < w13.heap.size)) w13 ⟨(tag : Int), ai, n4, ci, ap, n3, cp, L.map fun x => (⟨x.id, x.pos, none, 0, 0, []⟩ : InD), ys ++ ex⟩) := HAX13.out.tx.weak (fun k hk => Or.inl hk)
    have HTB : Hid (TxOk (fun k => K k ∨ (w7.heap.size ≤ k ∧ k < w13.heap.size)) w13 ⟨(tag : Int), bi, n4, bc, bp, n3, bd, L8.map (sgIn s p.id), ys ++ ex⟩) := by
      have := sgtx_ok HTX13.out
      rw [HPY.out, HPT.out] at this
      exact this.weak (fun k hk => Or.inr hk)
    have HSA : Hid (TxSm ⟨(tag : Int), ai, n4, ci, ap, n3, cp, L.map fun x => (⟨x.id, x.pos, none, 0, 0, []⟩ : InD), ys ++ ex⟩) := ⟨by show n4 ≤ _; have h1 := HL10.out; have h2 := HL2.out.1; omega, by show n3 ≤ _; have h1 := HL10.out; have h2 := HL2.out.2.2; omega, HZ3.out⟩
    have HSB : Hid (TxSm ⟨(tag : Int), bi, n4, bc, bp, n3, bd, L8.map (sgIn s p.id), ys ++ ex⟩) := ⟨by show n4 ≤ _; have h1 := HL10.out; have h2 := HL2.out.1; omega, by show n3 ≤ _; have h1 := HL10.out; have h2 := HL2.out.2.2; omega, fun e => by
      simp only at e
      have := HTX13.out.oo
      rw [e] at this
      rcases this.2 with ⟨e2, _⟩ | ⟨gg, cap, cur, e2, _⟩
      · injection e2
      · cases e2⟩
    have HRAW : Hid (∀ z : TxD, z.t = (tag : Int) → z.ins.map InD.st = (L.map fun x => (⟨x.id, x.pos, none, 0, 0, []⟩ : InD)).map InD.st → z.ys = ys ++ ex → connZ ((xs.length : Nat) : Int) xs [z] = (6, 0, ((xs.length : Nat) : Int), xs)) := fun z h1 h2 h3 => HSAY.out.say.raw z (by rw [HPT.out]; exact h1) (by rw [h2, HPC.out, List.map_map]; rfl) (by rw [HPY.out]; exact h3)
    have HTK : Hid (∀ z : TxD, z.t = (tag : Int) → z.ins.map InD.st = (L8.map (sgIn s p.id)).map InD.st → z.ys = ys ++ ex → connZ ((xs.length : Nat) : Int) xs [z] = (0, 0, (((xs.length : Nat) : Int) + 1), xs2)) := fun z h1 h2 h3 => by
      rw [HSAY.out.x2]
      exact HSAY.out.say.tk z (by rw [HPT.out]; exact h1) (by rw [h2, HIS.out, HPC.out]) (by rw [HPY.out]; exact h3)
    have HTW : Hid (∀ z : TxD, z.t = (tag : Int) → z.ins.map InD.st = (L8.map (sgIn s p.id)).map InD.st → z.ys = ys ++ ex → connZ (((xs.length : Nat) : Int) + 1) xs2 [z] = (4, 0, (((xs.length : Nat) : Int) + 1), xs2)) := fun z h1 h2 h3 => HSAY.out.tw z (by rw [HPT.out]; exact h1) (by rw [h2, HIS.out, HPC.out]) (by rw [HPY.out]; exact h3)
    have HGO : Hid ((!((L8.map (sgIn s p.id)).any fun i => namedB (ownOf xs2 s g) i.id i.pos)) = true) := by
      show _ = true
      have h1 : ((L8.map (sgIn s p.id)).any fun i => namedB (ownOf xs2 s g) i.id i.pos) = ((L8.map (sgIn s p.id)).map InD.st).any fun i => namedB (ownOf xs2 s g) i.id i.pos := by simp only [List.any_map]; rfl
      have h2 := HSAY.out.say.gone
      rw [← HSAY.out.x2, HPC.out] at h2
      rw [h1, HIS.out]
      exact h2
    have HCH : Hid (0 ≤ ch → ∃ k : Nat, (ys ++ ex).length = k + 1 ∧ hasZ (ownOf xs2 s g) ⟨p.id, (k : Int), ((ys ++ ex).getD k (0, 0)).1, ((ys ++ ex).getD k (0, 0)).2, 0, 0⟩ = true) := fun hc => by
      have := HSAY.out.bk hc
      rw [HPY.out] at this
      exact this
    have HLB : Hid ((L8.map (sgIn s p.id)).length ≤ 1000) := by show _ ≤ _; rw [List.length_map]; have h1 := HL8.out; have h2 := HL10.out; have h3 := HL2.out.1; omega
    have HX2 : Hid (xs2.length ≤ 40) := HSAY.out.ln
    go_wp2_with fail
    refine (mined_any S P s g (.slice av xs.length cv) ((xs.length : Nat) : Int) xs xs2 vl' vs8 1 nx _ ⟨(tag : Int), ai, n4, ci, ap, n3, cp, L.map fun x => (⟨x.id, x.pos, none, 0, 0, []⟩ : InD), ys ++ ex⟩ ⟨(tag : Int), bi, n4, bc, bp, n3, bd, L8.map (sgIn s p.id), ys ++ ex⟩ 0 ch p.id ak n4 ck _ HI13.out.sn.c0 (HK.out S HI13.out.kS).2.2 HPP13.out.toE (by omega) (by have := HX2.out; omega) HDP.out.vals HSAY.out.vl (by omega) HSM.out hg1 hg2 HTA.out HTB.out HNN.out HSA.out HSB.out HLB.out HRAW.out HTK.out HTW.out HGO.out HID.out HCH.out (by show (ys ++ ex).length ≤ 1000; have := HL10.out; omega)).mono ?_
    rintro e w14 ⟨rfl, v14, hp14, hst14⟩
    have HPP14 : Hid (PP NN w14 P s g v14 (((xs.length : Nat) : Int) + 1) xs2 vl' vs8 1 nx [p.on] ks8) := HPP13.out.chain hp14 hst14
    have HI14 : Hid (AcI K S P X s g (.slice ai0 (xs.map Cel.id).length ci0) ac cc (xs.map Cel.kept) gq ys 0 (tag : Int) ch (.slice ai n4 ci) (.slice ap n3 cp) (.slice ak n4 ck) w w14) := HI13.out.fr hst14.fr (fun k hk => (HK.out k hk).2.2) (fun k e => (HPP13.out.pu.blk k e).1)
    have HTX14 : Hid (SgTx w7.heap.size s p (.slice bi n4 bc) (.slice bp n3 bd) L8 w14) := HTX13.out.fr hst14.fr (fun k hk e => by have := HEB.out k e; omega)
    have HT14 : Hid (V3 w14 T (.int .i64 (tag : Int)) (.slice bi n4 bc) (.slice bp n3 bd)) := HT13.out.fr hst14.fr (fun e => by have := HEB.out T e; omega)
    have hz14 : T < w14.heap.size := Nat.lt_of_lt_of_le hTl hst14.fr.size
    clear x0 x1 x2 x3 x4 x5 t0 t1 t2 hp14 hst14 HPP13 HI13 HTX13 HT13 HTA HTB HSA HSB HRAW HTK HTW HGO HCH HAX13 HNN HLB
    have s0 := HI14.out.sn.c0
    go_wp2_with fail
    refine (HSG.out vs8 p.on ks8 v14 _ xs2 0 _ HPP14.out HPN.out HPC.out HKL.out (by have := HX2.out; omega)).mono ?_
    rintro e w15 ⟨v0, v1, v2, er15, rfl, h15⟩
    obtain ⟨t15, ui, un, uc, up, um, ud, rfl, rfl, rfl⟩ := h15.vals
    obtain ⟨rfl, hv0, L15, hsg, hb15⟩ := sg_again (sgz_again HP0.out) h15
    injection hv0 with _ hv0
    rw [HPT.out] at hv0
    subst hv0
    obtain ⟨hl1, hl2, hl3⟩ := hsg.lens
    have hun : n4 = un := by have h1 := HL2.out.1; have h2 := HPC.out; have h3 : p.cs.length = un := hl2; rw [h2] at h3; omega
    have hum : n3 = um := by have h1 := HL2.out.2.2; have h2 := HPY.out; have h3 : p.ys.length = um := hl3; rw [h2] at h3; omega
    subst hun
    subst hum
    have HI15 : Hid (AcI K S P X s g (.slice ai0 (xs.map Cel.id).length ci0) ac cc (xs.map Cel.kept) gq ys 0 (tag : Int) ch (.slice ai n4 ci) (.slice ap n3 cp) (.slice ak n4 ck) w w15) := HI14.out.grown hb15
    have HPP15 : Hid (PP NN w15 P s g v14 (((xs.length : Nat) : Int) + 1) xs2 vl' vs8 1 nx [p.on] ks8) := HPP14.out.grown hb15
    have HTX15 : Hid (SgTx w7.heap.size s p (.slice bi n4 bc) (.slice bp n3 bd) L8 w15) := HTX14.out.grown hb15
    have HT15 : Hid (V3 w15 T (.int .i64 (tag : Int)) (.slice bi n4 bc) (.slice bp n3 bd)) := HT14.out.grown hb15
    have HSU15 : Hid (SgTx w14.heap.size s p.on (.slice ui n4 uc) (.slice up n3 ud) L15 w15) := hsg
    have HL15 : Hid (L15.length = n4) := hl1
    have bB : Below w15.heap.size w15 (w15.alloc (.cells #[.int .i64 (tag : Int), .slice ui n4 uc, .slice up n3 ud] 35)) := (Below.refl _ _).alloc (Nat.le_refl _) _
    have HI16 : Hid (AcI K S P X s g (.slice ai0 (xs.map Cel.id).length ci0) ac cc (xs.map Cel.kept) gq ys 0 (tag : Int) ch (.slice ai n4 ci) (.slice ap n3 cp) (.slice ak n4 ck) w (w15.alloc (.cells #[.int .i64 (tag : Int), .slice ui n4 uc, .slice up n3 ud] 35))) := HI15.out.grown bB
    have HPP16 : Hid (PP NN (w15.alloc (.cells #[.int .i64 (tag : Int), .slice ui n4 uc, .slice up n3 ud] 35)) P s g v14 (((xs.length : Nat) : Int) + 1) xs2 vl' vs8 1 nx [p.on] ks8) := HPP15.out.grown bB
    have HTX16 : Hid (SgTx w7.heap.size s p (.slice bi n4 bc) (.slice bp n3 bd) L8 (w15.alloc (.cells #[.int .i64 (tag : Int), .slice ui n4 uc, .slice up n3 ud] 35))) := HTX15.out.grown bB
    have HT16 : Hid (V3 (w15.alloc (.cells #[.int .i64 (tag : Int), .slice ui n4 uc, .slice up n3 ud] 35)) T (.int .i64 (tag : Int)) (.slice bi n4 bc) (.slice bp n3 bd)) := HT15.out.grown bB
    have HSU16 : Hid (SgTx w14.heap.size s p.on (.slice ui n4 uc) (.slice up n3 ud) L15 (w15.alloc (.cells #[.int .i64 (tag : Int), .slice ui n4 uc, .slice up n3 ud] 35))) := HSU15.out.grown bB
    have HU16 : Hid (V3 (w15.alloc (.cells #[.int .i64 (tag : Int), .slice ui n4 uc, .slice up n3 ud] 35)) w15.heap.size (.int .i64 (tag : Int)) (.slice ui n4 uc) (.slice up n3 ud)) := V3.new w15 _ _ _ 35
    go_upto_region 23 with fail
    clear s0 h15 hsg hb15 hl1 hl2 hl3 bB HI14 HI15 HPP14 HPP15 HTX14 HTX15 HT14 HT15 HSU15
    generalize w15.alloc (.cells #[.int .i64 (tag : Int), .slice ui n4 uc, .slice up n3 ud] 35) = w16 at *
    generalize w15.heap.size = U at *
    obtain ⟨t0, t1, t2, _⟩ := HT16.out
    obtain ⟨u0, u1, u2, _⟩ := HU16.out
    have HFS : Hid (L15.map Prod.fst = L8.map Prod.fst) := by show _ = _; rw [HTX16.out.fst]; exact HSU16.out.fst
    have HO1 : Hid (OutsAt w16 up (ys ++ ex)) := by rw [← HPY.out]; exact HSU16.out.outsAt
    have HO2 : Hid (OutsAt w16 bp (ys ++ ex)) := by rw [← HPY.out]; exact HTX16.out.outsAt
    have HSM2 : Hid (∀ k, k < n4 → ((L15.map (sgIn s p.id)).getD k dIn).st = ((L8.map (sgIn s p.id)).getD k dIn).st ∧ ((L15.map (sgIn s p.id)).getD k dIn).l.length = 5) := fun k hk => sg_same HFS.out k (by rw [HL15.out]; exact hk)
    have HI1 : Hid (InsAt w16 ui (L15.map (sgIn s p.id))) := HSU16.out.insAt
    go_wp2_with fail
    refine (sameTx_any (tag : Int) ui bi n4 uc bc up bp n3 ud bd (L15.map (sgIn s p.id)) (L8.map (sgIn s p.id)) (ys ++ ex) _ HI1.out HTX16.out.insAt (by rw [List.length_map]; exact HL15.out) (by rw [List.length_map]; exact HL8.out) HSM2.out HO1.out HO2.out HL2.out.2.2 (by have h1 := HL10.out; have h2 := HL2.out.1; omega) (by have h1 := HL10.out; have h2 := HL2.out.1; omega) (by have h1 := HL10.out; have h2 := HL2.out.2.2; omega)).mono ?_
    rintro e w17 ⟨rfl, hb17⟩
    have HI17 : Hid (AcI K S P X s g (.slice ai0 (xs.map Cel.id).length ci0) ac cc (xs.map Cel.kept) gq ys 0 (tag : Int) ch (.slice ai n4 ci) (.slice ap n3 cp) (.slice ak n4 ck) w w17) := HI16.out.grown hb17
    have HPP17 : Hid (PP NN w17 P s g v14 (((xs.length : Nat) : Int) + 1) xs2 vl' vs8 1 nx [p.on] ks8) := HPP16.out.grown hb17
    clear t0 t1 t2 u0 u1 u2 hb17 HI16 HPP16 HTX16 HT16 HSU16 HU16 HO1 HO2 HI1 HSM2 HFS
    have s0 := HI17.out.sn.c0
    go_wp2_with fail
    refine (pAbandon_any NN P s g v14 (((xs.length : Nat) : Int) + 1) xs2 vl' vs8 1 nx [p.on] ks8 0 _ HPP17.out (by simp)).mono ?_
    rintro e w18 ⟨er18, rfl, h18⟩
    obtain ⟨rfl, vl18, hls, hf, hnew, hc⟩ := ab_this (show p.on.num = 0 from HP0.out) h18
    have HPP18 : Hid (PP NN w18 P s g v14 (((xs.length : Nat) : Int) + 1) xs2 vl18 vs8 1 nx [] ks8) := HPP17.out.given hls hf hnew hc
    have HI18 : Hid (AcI K S P X s g (.slice ai0 (xs.map Cel.id).length ci0) ac cc (xs.map Cel.kept) gq ys 0 (tag : Int) ch (.slice ai n4 ci) (.slice ap n3 cp) (.slice ak n4 ck) w w18) := HI17.out.fr hf (fun k hk => (HK.out k hk).1) (fun k e => by omega)
    clear s0 h18 hls hf hnew hc HI17 HPP17
    have s0 := HI18.out.sn.c0
    obtain ⟨av18, cv18, ev18, hat⟩ := HPP18.out.pu.at
    subst ev18
    have HX18 : Hid (CelsAt w18 av18 xs2) := hat
    clear hat
    go_wp2_with fail
    refine (pSign_any NN P vl18 vs8 1 nx [] ks8 av18 xs2.length cv18 xs2 s 0 _ HPP18.out.ls (by simp) (by have := HKL.out; omega) (paq_c0 HPP18.out.pu) HPP18.out.pu.c0 HX18.out rfl (by have := HX2.out; omega) (by simp) (by simp)).mono ?_
    rintro e w19 ⟨v0, v1, v2, er19, rfl, h19⟩
    obtain ⟨rfl, rfl, rfl, rfl, hb19⟩ := sg_err (sgz_none _ _ _) h19
    have HI19 : Hid (AcI K S P X s g (.slice ai0 (xs.map Cel.id).length ci0) ac cc (xs.map Cel.kept) gq ys 0 (tag : Int) ch (.slice ai n4 ci) (.slice ap n3 cp) (.slice ak n4 ck) w w19) := HI18.out.grown hb19
    have HI20 : Hid (AcI K S P X s g (.slice ai0 (xs.map Cel.id).length ci0) ac cc (xs.map Cel.kept) gq ys 0 (tag : Int) ch (.slice ai n4 ci) (.slice ap n3 cp) (.slice ak n4 ck) w (w19.alloc (.cells #[.int .i64 0, .slice none 0 0, .slice none 0 0] 35))) := HI19.out.grown ((Below.refl _ _).alloc (Nat.le_refl _) _)
    clear s0 h19 hb19 HI18
    go_wp2
    go_ret
    exact ⟨rfl, by rw [HPE.out]; exact HI20.out.hb⟩
end Go.Proofs.YtffgpepngcnjeabGreatQ

namespace Go.Proofs.YtffgpepngcnjeabGreatQ
open Go.ChangeShapes Go.WideShapes Go.ChangeAt Go.RowKit
def I64 (x : Int) : Prop := -9223372036854775808 ≤ x ∧ x ≤ 9223372036854775807
theorem tCells3 : Tryz.prog.cellsOf 3 = 1 := by kernel_rfl
theorem tCells93 : Tryz.prog.cellsOf 93 = 2 := by kernel_rfl
theorem len3 {cs : List Value} (h : cs.length = 3) : ∃ a b c, cs = [a, b, c] := by
  match cs, h with
  | [a, b, c], _ => exact ⟨a, b, c, rfl⟩
theorem len2c {cs : List Value} (h : cs.length = 2) : ∃ a b, cs = [a, b] := by
  match cs, h with
  | [a, b], _ => exact ⟨a, b, rfl⟩
section
variable {H : Type} {enc : TypeId × Value → H} {W : World} {fuel : Nat} {cs : List Value} {x : DataW H × List MemPlace}
theorem open_num (h : DataW.trod enc Tryz.prog W 0 (fun _ => true) true fuel 3 cs = some x) : ∃ n : Int, cs = [.int .i64 n] ∧ I64 n := by
  obtain ⟨n, hcs, _, hw⟩ := DataW.trod_int Tryz.underlying3 h
  exact ⟨n, hcs, bounds_i64 hw⟩
structure In64 (x : InD) : Prop where
  id : I64 x.id
  pos : I64 x.pos
  l : ∀ z ∈ x.l, I64 z
theorem open_out (h : DataW.trod enc Tryz.prog W 0 (fun _ => true) true fuel 93 cs = some x) : ∃ y : Int × Int, cs = [.int .i64 y.1, .int .i64 y.2] ∧ I64 y.1 ∧ I64 y.2 := by
  obtain ⟨y0, y1, n, _, hlen, h0, h1⟩ := trod_struct2 Tryz.underlying93 h
  rw [tCells93] at hlen
  obtain ⟨a, b, rfl⟩ := len2c hlen
  simp only [tCells3, List.drop, List.take] at h0 h1
  obtain ⟨i, hi, bi⟩ := open_num h0
  obtain ⟨p, hp, bp⟩ := open_num h1
  cases hi
  cases hp
  exact ⟨(i, p), rfl, bi, bp⟩
end
theorem choose_upto {α : Type} (d : α) {n : Nat} {p : Nat → α → Prop} (h : ∀ i, i < n → ∃ x, p i x) : ∃ l : List α, l.length = n ∧ ∀ i, i < n → p i (l.getD i d) := by
  refine ⟨(List.range n).map fun i => if hi : i < n then Classical.choose (h i hi) else d, by simp, fun i hi => ?_⟩
  have e : ((List.range n).map fun i => if hi : i < n then Classical.choose (h i hi) else d).getD i d = Classical.choose (h i hi) := by
    simp [List.getD, hi]
  rw [e]
  exact Classical.choose_spec (h i hi)
/-- cells of a plain address -/
theorem cells_at {W : World} {a : Addr} {n : Nat} {cs : List Value} (h : W.cells? 0 a n = some cs) (hn : 0 < n) : a.spot = none ∧ ∀ i, i < n → W.cell? ⟨a.block, a.off + i, none⟩ = cs[i]? := by
  obtain ⟨_, hl, hc⟩ := World.cells?_some h
  obtain ⟨b, off, spot⟩ := a
  have hs : spot = none := by
    have h0 := hc 0 hn
    have : (W.cell? ((⟨b, off, spot⟩ : Addr).add 0)) = some (cs[0]'(by omega)) := by rw [h0]; exact List.getElem?_eq_getElem _
    simpa [Addr.add] using World.cell?_spot this
  subst hs
  exact ⟨rfl, fun i hi => by have := hc i hi; rw [add_plain] at this; exact this⟩
section
variable {H : Type} {enc : TypeId × Value → H} {W : World} {fuel : Nat} {cs : List Value} {x : DataW H × List MemPlace}
end
end Go.Proofs.YtffgpepngcnjeabGreatQ
