/-
  Back: the walk of the law itself.
  A transaction that came in as data: what lies in memory.
-/
import Derived.Test.YtffgpepngcnjeabMap
import Derived.Test.YtffgpepngcnjeabMab
import Derived.ProofKit
import Derived.OpenShut
import Derived.Deep.Slices
import Derived.Deep.Strs
import Derived.Lib.SmallJoins
import Derived.SizedLaws
namespace Go.Proofs.Ytffgpepngcnjeab
open Go.RowKit
/-- Abandon, where nothing is paid -/
theorem ab_none {N : Nat → Prop} {b o base : Nat} {vs : Value} {md nx : Int} {ks : List (Int × Int)} {k er : Int} {w w' : World} (h : AbOk N b o base vs md nx [] ks k er w w') : er = 11 ∧ Below w.heap.size w w' := by
  rcases h with ⟨_, h2, h3⟩ | ⟨h1, _⟩
  · exact ⟨h2, h3⟩
  · exact absurd rfl h1
theorem ab_other {N : Nat → Prop} {b o base : Nat} {vs : Value} {md nx : Int} {ks : List (Int × Int)} {p : PayD} {k er : Int} {w w' : World} (hk : p.num ≠ k) (h : AbOk N b o base vs md nx [p] ks k er w w') : er = 11 ∧ Below w.heap.size w w' := by
  rcases h with ⟨_, h2, h3⟩ | ⟨h1, _⟩
  · exact ⟨h2, h3⟩
  · exfalso
    apply h1
    unfold leftZ
    simp [hk]
theorem ab_this {N : Nat → Prop} {b o base : Nat} {vs : Value} {md nx : Int} {ks : List (Int × Int)} {p : PayD} {k er : Int} {w w' : World} (hk : p.num = k) (h : AbOk N b o base vs md nx [p] ks k er w w') : er = 0 ∧ ∃ vl', LsAt N w' b o base vl' vs md nx [] ks ∧ Fr (fun q => q = b) w w' ∧ (∀ q, vl'.ownBlock = some q → w.heap.size ≤ q) ∧ (∀ j, j ≠ o → w'.cell? ⟨b, j, none⟩ = w.cell? ⟨b, j, none⟩) := by
  have e : leftZ [p] k = [] := by unfold leftZ; simp [hk]
  rcases h with ⟨h1, _⟩ | ⟨_, h2, vl', h3, h4⟩
  · rw [e] at h1; simp at h1
  · rw [e] at h3
    exact ⟨h2, vl', h3, h4⟩
set_option maxRecDepth 100000 in
set_option maxHeartbeats 2000000 in
theorem back_any (a b rt : Int) (al : Option Addr) (n c : Nat) (ds : List DepR) (ao : Option Addr) (m d : Nat) (raw : List (Int × Int)) (w : World) (a1 : -9223372036854775808 ≤ a) (a2 : a ≤ 9223372036854775807) (b1 : -9223372036854775808 ≤ b) (b2 : b ≤ 9223372036854775807) (r1 : -9223372036854775808 ≤ rt) (r2 : rt ≤ 9223372036854775807)
    (hd : RecAt DepR.l w al ds) (hdn : ds.length = n) (hdr : ∀ x ∈ ds, (-9223372036854775808 ≤ x.br ∧ x.br ≤ 9223372036854775807) ∧ (-9223372036854775808 ≤ x.ix ∧ x.ix ≤ 9223372036854775807) ∧ (-9223372036854775808 ≤ x.val ∧ x.val ≤ 9223372036854775807)) (ho : OutsAt w ao raw) (hon : raw.length = m) (hor : ∀ y ∈ raw, (-9223372036854775808 ≤ y.1 ∧ y.1 ≤ 9223372036854775807) ∧ (-9223372036854775808 ≤ y.2 ∧ y.2 ≤ 9223372036854775807)) :
    Calls Try.prog 3 #[.int .i64 a, .int .i64 b, .slice al n c, .slice ao m d, .int .i64 rt] w fun e w' => e = .returned (.bool true) ∧ Below w.heap.size w w' := by
  obtain ⟨g, hg⟩ : ∃ g : Nat, (g : Int) = 1 + Mk.pk b 20 := ⟨(1 + Mk.pk b 20).toNat, by have := Mk.pk_bd b 20 (by decide); omega⟩
  have hpb := Mk.pk_bd b 20 (by decide)
  have hg1 : 1 ≤ g := by omega
  have hg2 : g ≤ 20 := by omega
  have HSM : Hid (Mk.isM (Mk.pk a 99991) = true) := (Mk.isM_iff _).2 (Mk.pk_bd a 99991 (by decide))
  have HD : Hid (RecAt DepR.l w al ds) := hd
  have HDN : Hid (ds.length = n) := hdn
  have HDR : Hid (∀ x ∈ ds, (-9223372036854775808 ≤ x.br ∧ x.br ≤ 9223372036854775807) ∧ (-9223372036854775808 ≤ x.ix ∧ x.ix ≤ 9223372036854775807) ∧ (-9223372036854775808 ≤ x.val ∧ x.val ≤ 9223372036854775807)) := hdr
  have HO : Hid (OutsAt w ao raw) := ho
  have HON : Hid (raw.length = m) := hon
  have HOR : Hid (∀ y ∈ raw, (-9223372036854775808 ≤ y.1 ∧ y.1 ≤ 9223372036854775807) ∧ (-9223372036854775808 ≤ y.2 ∧ y.2 ≤ 9223372036854775807)) := hor
  have hprt := Mk.pk_bd rt 1001 (by decide)
  clear hd hdn hdr ho hon hor hpb
  go_enter Try.func3, Try.ntmps3
  go_wp2_with fail
  refine (deposited_any a b al n c ds g _ a1 a2 b1 b2 hg HD.out HDN.out HDR.out).mono ?_
  rintro e w1 ⟨rfl, v, vi, vc, xs, h24, hsc, hdp, hb1⟩
  clear hg a1 a2 b1 b2
  generalize Mk.pk a 99991 = s at *
  have HDP : Hid (Dp s g xs) := hdp
  have HB1 : Hid (Below w.heap.size w w1) := hb1
  obtain ⟨av, cv, ev, hatv⟩ := OwnRec.at cel6 hsc.pat.own
  obtain ⟨ai0, ci0, ei, hati⟩ := OwnRec.at iv1 hsc.oi
  obtain ⟨ac, cc, ec, hatc⟩ := OwnRec.at coin6 hsc.oc
  clear hatv hati
  have HAC : Hid (∀ x, ac = some x → x.block ≠ w.heap.size) := fun x hx e => (hsc.d1 w.heap.size (Or.inl rfl)).2.2 (by rw [ec, hx, ← e]; rfl)
  have HACL : Hid (∀ x, ac = some x → x.block < w1.heap.size) := fun x hx => (hsc.oc.blk x.block (by rw [ec, hx]; rfl)).2
  subst ev
  subst ei
  subst ec
  have HSN1 : Hid (Sn (w.heap.size + 1) w.heap.size s g (.slice ai0 (xs.map Cel.id).length ci0) ac cc (xs.map Cel.kept) w1) := ⟨hsc.c0, hsc.c1, hsc.c2, hsc.c3, hsc.c4, hatc⟩
  have HPA1 : Hid (PAt w1 w.heap.size s g (.slice av xs.length cv) ((xs.length : Nat) : Int) xs) := hsc.pat
  clear hsc hatc hdp hb1
  have HO1 : Hid (OutsAt w1 ao raw) := HO.out.grown HB1.out
  go_wp2_with fail
  refine (request_any ao m d raw _ HO1.out HON.out HOR.out).mono ?_
  obtain ⟨hy1, hy7, hyr⟩ := reqZ_right raw
  rintro e w2 ⟨vq, rfl, hq, hb2⟩
  generalize reqZ raw = ys at *
  have HYR : Hid (∀ y ∈ ys, rOut y = true) := hyr
  clear hyr HO1 HO HON HOR
  obtain ⟨aq, cq, eq, _⟩ := OwnRec.at kv2 hq
  subst eq
  obtain ⟨gq, rfl, hgq, hgq2, _, _⟩ := own_some kv2 hq rfl (by omega)
  have HGQ : Hid (gq ≠ w.heap.size ∧ gq < w2.heap.size) := ⟨by have : w.heap.size < w1.heap.size := cell_lt HPA1.out.c0; omega, hgq2⟩
  clear hgq hgq2
  have HQ2 : Hid (OutsAt w2 (some ⟨gq, 0, none⟩) ys) := rec_outs (own_atS kv2 hq)
  have HSN2 : Hid (Sn (w.heap.size + 1) w.heap.size s g (.slice ai0 (xs.map Cel.id).length ci0) ac cc (xs.map Cel.kept) w2) := HSN1.out.grown hb2
  have HPA2 : Hid (PAt w2 w.heap.size s g (.slice av xs.length cv) ((xs.length : Nat) : Int) xs) := HPA1.out.grown hb2
  have HB2 : Hid (Below w.heap.size w w2) := below_blk HB1.out hb2
  have HAC2 : Hid (∀ x, ac = some x → x.block < w2.heap.size) := fun x hx => Nat.lt_of_lt_of_le (HACL.out x hx) hb2.size
  clear hq hb2 HSN1 HPA1 HB1 HACL
  have HCV : Hid (∀ x ∈ xs.map Cel.kept, 0 ≤ x.val ∧ x.val ≤ 1099511627776) := fun x hx => by
    obtain ⟨y, hy, rfl⟩ := List.mem_map.1 hx
    have := HDP.out.va y hy
    exact ⟨by show 0 ≤ y.val; omega, this.2⟩
  have HCL : Hid ((xs.map Cel.kept).length ≤ 24) := by show _ ≤ _; rw [List.length_map]; exact h24
  have HSU : Hid (sumC (ownZ (keysZ xs s g) (coinsC xs)) = sumC (xs.map Cel.kept)) := HDP.out.sum hg2
  have HOV : Hid (∀ x ∈ ownZ (keysZ xs s g) (coinsC xs), 0 ≤ x.val ∧ x.val ≤ 1099511627776) := fun x hx => ((HDP.out.own HSM.out hg2 hx).1).b
  have HYV : Hid (∀ y ∈ ys, 0 ≤ y.2 ∧ y.2 ≤ 1099511627776) := fun y hy => by have := (rOut_bd (HYR.out y hy)).2; omega
  have HSP : Hid (w.heap.size + 1 ≠ w.heap.size) := by show _ ≠ _; omega
  generalize hPe : w.heap.size = P at *
  have HPE : Hid (w.heap.size = P) := hPe
  clear hPe
  have HPS : Hid (P < P + 1) := by show _ < _; omega
  generalize P + 1 = S at *
  go_wp2_with (go_at_call 7; refine (pick_any rt 1001 _ (by omega) (by omega) r1 r2).mono ?_; rintro e w' ⟨rfl, rfl⟩)
  generalize Mk.pk rt 1001 = r at *
  have hr : 0 ≤ r ∧ r ≤ 1000 := by omega
  clear hprt r1 r2
  refine (total_any S ac (xs.map Cel.kept).length cc (xs.map Cel.kept) _ HSN2.out.c4 HSN2.out.at_ rfl (by have := HCL.out; omega) HCV.out).mono ?_
  rintro e w5 ⟨rfl, hb3⟩
  have HSN5 : Hid (Sn S P s g (.slice ai0 (xs.map Cel.id).length ci0) ac cc (xs.map Cel.kept) w5) := HSN2.out.grown hb3
  have HPA5 : Hid (PAt w5 P s g (.slice av xs.length cv) ((xs.length : Nat) : Int) xs) := HPA2.out.grown hb3
  have HQ5 : Hid (OutsAt w5 (some ⟨gq, 0, none⟩) ys) := HQ2.out.grown hb3
  have HB5 : Hid (Below P w w5) := HB2.out.trans (hb3.mono (by have : P < w2.heap.size := cell_lt HPA2.out.c0; omega))
  have HGQ5 : Hid (gq ≠ P ∧ gq < w5.heap.size) := ⟨HGQ.out.1, Nat.lt_of_lt_of_le HGQ.out.2 hb3.size⟩
  have HAC5 : Hid (∀ x, ac = some x → x.block < w5.heap.size) := fun x hx => Nat.lt_of_lt_of_le (HAC2.out x hx) hb3.size
  have HP5 : Hid (P < w5.heap.size) := cell_lt HPA5.out.c0
  have HS5 : Hid (S < w5.heap.size) := cell_lt HSN5.out.c0
  clear hb3 HSN2 HPA2 HQ2 HB2 HGQ HAC2
  generalize hT : sumC (xs.map Cel.kept) = tot at *
  clear hT
  go_wp2_with fail
  refine (scPay_any (fun _ => False) S P s g (.slice av xs.length cv) ((xs.length : Nat) : Int) xs (.slice none 0 0) (.slice none 0 0) 0 0 [] [] ai0 (xs.map Cel.id).length ci0 ⟨gq, 0, none⟩ ys.length cq ys r _ HSM.out hg1 hg2 (pp_none HPA5.out) (by omega) HDP.out.vals HQ5.out rfl (by omega) (by omega) (by simp) (by simp) (by rw [List.length_map]; omega) HSN5.out.c0 HSN5.out.c3 (fun e => e.elim HSP.out (fun e => by cases e))).mono ?_
  rintro e w6 ⟨tag, htag, hold, z0, z1, z2, z3, z4, z5, er, rfl, hpay, hnew⟩
  obtain ⟨n0, t, ai, n2, ci, ap, n3, cp, ak, n4, ck, ch, rfl, rfl, rfl, rfl, rfl, rfl⟩ := payOkR_vals hpay
  rw [List.length_map] at htag hnew
  have HPG : Hid (PGen (fun _ => False) P s g (.slice av xs.length cv) ((xs.length : Nat) : Int) xs (.slice none 0 0) (.slice none 0 0) 0 0 ys r (decide (targetZ ys r ≤ wsum r ((orderZ r (xs.map Cel.kept)).take 10))) n0 (.slice ai n2 ci) (.slice ap n3 cp) (.slice ak n4 ck) ch er w5 w6) := paid_gen HDP.out HSM.out hg2 h24 hy1 hy7 HYR.out hr htag hold hnew hpay
  have HF6 : Hid (Fr (fun q => q = P ∨ (Value.slice none 0 0).ownBlock = some q) w5 w6) := payOkR_fr hpay
  clear hpay hold hnew htag
  have hnP : ∀ q, q ≠ P → ¬ (q = P ∨ (Value.slice none 0 0).ownBlock = some q) := fun q h e => e.elim h (fun e => by cases e)
  have HQ6 : Hid (OutsAt w6 (some ⟨gq, 0, none⟩) ys) := outsAt_fr HF6.out HQ5.out (fun _ x hx => by injection hx with hx; subst hx; exact hnP _ HGQ5.out.1)
  have HSN6 : Hid (Sn S P s g (.slice ai0 (xs.map Cel.id).length ci0) ac cc (xs.map Cel.kept) w6) := HSN5.out.fr HF6.out (hnP _ HSP.out) (fun x hx => hnP _ (HAC.out x hx))
  have HB6 : Hid (Below P w w6) := HB5.out.trans (HF6.out.toBelow P (by have := HP5.out; omega) (fun q hq => by
    rcases hq with e | e
    · omega
    · cases e))
  have hs6 : w5.heap.size ≤ w6.heap.size := HF6.out.size
  clear hnP HF6 HSN5 HQ5 HB5
  have HCE : Hid (∀ wx : World, Sn S P s g (.slice ai0 (xs.map Cel.id).length ci0) ac cc (xs.map Cel.kept) wx → OutsAt wx (some ⟨gq, 0, none⟩) ys → Calls Try.prog 12 #[.slice ac xs.length cc, .slice (some ⟨gq, 0, none⟩) ys.length cq, .int .i64 r] wx fun e w' => e = .returned (.bool (decide (targetZ ys r ≤ wsum r ((orderZ r (xs.map Cel.kept)).take 10)))) ∧ Below wx.heap.size wx w') := fun wx h1 h2 => enough_any ac xs.length cc (xs.map Cel.kept) (some ⟨gq, 0, none⟩) ys.length cq ys r wx h1.at_ (List.length_map _) (by omega) HCV.out h2 rfl (by omega) HYV.out hr
  have HPG2 : Hid (∀ (N : Nat → Prop) (vl vs : Value) (md nx : Int) (tag : Nat) (n0 t : Int) (v2 v3 v4 : Value) (ch er : Int) (wa wb : World), tag ≤ xs.length → (∀ j : Nat, j < tag → payZ xs s g [] [] nx ys r (j : Int) = .inl 4) → (tag < xs.length → payZ xs s g [] [] nx ys r (tag : Int) ≠ .inl 4) → PayOkR N P s g (.slice av xs.length cv) ((xs.length : Nat) : Int) xs vl vs md nx [] [] ys r (tag : Int) (.int .i64 n0) (.int .i64 t) v2 v3 v4 (.int .i64 ch) er wa wb → PGen N P s g (.slice av xs.length cv) ((xs.length : Nat) : Int) xs vl vs md nx ys r (decide (targetZ ys r ≤ wsum r ((orderZ r (xs.map Cel.kept)).take 10))) n0 v2 v3 v4 ch er wa wb) := fun N vl vs md nx tag n0 t v2 v3 v4 ch er wa wb h1 h2 h3 h4 => paid_gen HDP.out HSM.out hg2 h24 hy1 hy7 HYR.out hr h1 h2 h3 h4
  generalize decide (targetZ ys r ≤ wsum r ((orderZ r (xs.map Cel.kept)).take 10)) = can at *
  have bA : Below w6.heap.size w6 (w6.alloc (.cells #[.int .i64 n0, .int .i64 t, .slice ai n2 ci, .slice ap n3 cp, .slice ak n4 ck, .int .i64 ch] 34)) := (Below.refl _ _).alloc (Nat.le_refl _) _
  have HV7 : Hid (VB (w6.alloc (.cells #[.int .i64 n0, .int .i64 t, .slice ai n2 ci, .slice ap n3 cp, .slice ak n4 ck, .int .i64 ch] 34)) w6.heap.size (.int .i64 n0) (.int .i64 t) (.slice ai n2 ci) (.slice ap n3 cp) (.slice ak n4 ck) (.int .i64 ch)) := VB.new w6 _ _ _ _ _ _ 34
  go_upto_region 8 with fail
  have HB67 : Hid (Below w6.heap.size w6 (w6.alloc (.cells #[.int .i64 n0, .int .i64 t, .slice ai n2 ci, .slice ap n3 cp, .slice ak n4 ck, .int .i64 ch] 34))) := bA
  have HSN7 : Hid _ := HSN6.out.grown bA
  have HQ7 : Hid (OutsAt (w6.alloc (.cells #[.int .i64 n0, .int .i64 t, .slice ai n2 ci, .slice ap n3 cp, .slice ak n4 ck, .int .i64 ch] 34)) (some ⟨gq, 0, none⟩) ys) := HQ6.out.grown bA
  have HB7 : Hid (Below P w (w6.alloc (.cells #[.int .i64 n0, .int .i64 t, .slice ai n2 ci, .slice ap n3 cp, .slice ak n4 ck, .int .i64 ch] 34))) := HB6.out.trans (bA.mono (by have := HP5.out; omega))
  have hX6 : P < w6.heap.size := by have := HP5.out; omega
  clear bA HSN6 HQ6 HB6
  generalize w6.alloc (.cells #[.int .i64 n0, .int .i64 t, .slice ai n2 ci, .slice ap n3 cp, .slice ak n4 ck, .int .i64 ch] 34) = w7 at *
  have hX7 : w6.heap.size < w7.heap.size := cell_lt HV7.out.c0
  generalize hXe : w6.heap.size = X at *
  have HXE : Hid (w6.heap.size = X) := hXe
  clear hXe
  have HK : Hid ((((can = false ∧ er = 9) ∨ (can = true ∧ er = 10 ∧ unpZ xs s g 0 = none)) ∧ Below w5.heap.size w5 w6) ∨ (can = true ∧ er = 0 ∧ n0 = 0 ∧ ∃ L ex tg, Paid1 s g xs 0 ys r L ex ch ∧ PayGo (fun _ => False) P s g (.slice av xs.length cv) ((xs.length : Nat) : Int) xs (.slice none 0 0) (.slice none 0 0) 0 0 [] [] tg L (ys ++ ex) ch (.slice ai n2 ci) (.slice ap n3 cp) (.slice ak n4 ck) w5 w6)) := by
    rcases HPG.out with ⟨h1, h2, h3⟩ | ⟨h1, h2, h3, _, h5⟩ | h
    · exact Or.inl ⟨Or.inl ⟨h1, h2⟩, h3⟩
    · exact Or.inl ⟨Or.inr ⟨h1, h2, h3⟩, h5⟩
    · exact Or.inr h
  clear HPG
  rcases HK.out with ⟨hk, hb56⟩ | ⟨rfl, rfl, rfl, L, ex, tg, hpd, hgo⟩
  · have HKK : Hid ((can = false ∧ er = 9) ∨ (can = true ∧ er = 10 ∧ unpZ xs s g 0 = none)) := hk
    have HPA7 : Hid (PAt w7 P s g (.slice av xs.length cv) ((xs.length : Nat) : Int) xs) := (HPA5.out.grown hb56).grown (by rw [HXE.out]; exact HB67.out)
    clear hk hb56 HK HPA5
    have hP7 : P < w7.heap.size := by omega
    have s0 := HSN7.out.c0
    go_wp2_with fail
    refine (pAbandon_any (fun _ => False) P s g (.slice av xs.length cv) ((xs.length : Nat) : Int) xs (.slice none 0 0) (.slice none 0 0) 0 0 [] [] 1 _ (pp_none HPA7.out) (by simp)).mono ?_
    rintro e w8 ⟨er8, rfl, h8⟩
    obtain ⟨rfl, hb8⟩ := ab_none h8
    have HPA8 : Hid (PAt w8 P s g (.slice av xs.length cv) ((xs.length : Nat) : Int) xs) := HPA7.out.grown hb8
    have HSN8 : Hid (Sn S P s g (.slice ai0 (xs.map Cel.id).length ci0) ac cc (xs.map Cel.kept) w8) := HSN7.out.grown hb8
    have HQ8 : Hid (OutsAt w8 (some ⟨gq, 0, none⟩) ys) := HQ7.out.grown hb8
    have HB8 : Hid (Below P w w8) := HB7.out.trans (hb8.mono (by omega))
    have hP8 : P < w8.heap.size := by have := hb8.size; omega
    clear h8 hb8 s0 HPA7 HSN7 HQ7 HB7
    have s0 := HSN8.out.c0
    go_wp2_with fail
    refine (pAbandon_any (fun _ => False) P s g (.slice av xs.length cv) ((xs.length : Nat) : Int) xs (.slice none 0 0) (.slice none 0 0) 0 0 [] [] 0 _ (pp_none HPA8.out) (by simp)).mono ?_
    rintro e w9 ⟨er9, rfl, h9⟩
    obtain ⟨rfl, hb9⟩ := ab_none h9
    have HPA9 : Hid (PAt w9 P s g (.slice av xs.length cv) ((xs.length : Nat) : Int) xs) := HPA8.out.grown hb9
    have HSN9 : Hid (Sn S P s g (.slice ai0 (xs.map Cel.id).length ci0) ac cc (xs.map Cel.kept) w9) := HSN8.out.grown hb9
    have HQ9 : Hid (OutsAt w9 (some ⟨gq, 0, none⟩) ys) := HQ8.out.grown hb9
    have HB9 : Hid (Below P w w9) := HB8.out.trans (hb9.mono (by omega))
    have hP9 : P < w9.heap.size := by have := hb9.size; omega
    clear h9 hb9 s0 HPA8 HSN8 HQ8 HB8
    have s0 := HSN9.out.c0
    go_wp2_with fail
    refine (pAbandon_any (fun _ => False) P s g (.slice av xs.length cv) ((xs.length : Nat) : Int) xs (.slice none 0 0) (.slice none 0 0) 0 0 [] [] 0 _ (pp_none HPA9.out) (by simp)).mono ?_
    rintro e w10 ⟨er10, rfl, h10⟩
    obtain ⟨rfl, hb10⟩ := ab_none h10
    have HPA10 : Hid (PAt w10 P s g (.slice av xs.length cv) ((xs.length : Nat) : Int) xs) := HPA9.out.grown hb10
    have HSN10 : Hid (Sn S P s g (.slice ai0 (xs.map Cel.id).length ci0) ac cc (xs.map Cel.kept) w10) := HSN9.out.grown hb10
    have HQ10 : Hid (OutsAt w10 (some ⟨gq, 0, none⟩) ys) := HQ9.out.grown hb10
    have HB10 : Hid (Below P w w10) := HB9.out.trans (hb10.mono (by omega))
    have hP10 : P < w10.heap.size := by have := hb10.size; omega
    clear h10 hb10 s0 HPA9 HSN9 HQ9 HB9
    have s0 := HSN10.out.c0
    have HPR10 : Hid (PurseRow w10 P s g (.slice av xs.length cv) ((xs.length : Nat) : Int)) := pat_row HPA10.out
    obtain ⟨av7, cv7, ev7, hatv⟩ := HPA10.out.at
    injection ev7 with ev7 _ _
    subst ev7
    have HX10 : Hid (CelsAt w10 av xs) := hatv
    clear hatv
    go_wp2_with fail
    refine (pBalance_none P s g av xs.length cv _ xs _ HSM.out hg1 hg2 HPR10.out HPR10.out.c4 HPR10.out.c5 HX10.out rfl (by omega) HOV.out).mono ?_
    rw [HSU.out]
    rintro e w11 ⟨rfl, hb11⟩
    have HPA11 : Hid (PAt w11 P s g (.slice av xs.length cv) ((xs.length : Nat) : Int) xs) := HPA10.out.grown hb11
    have HSN11 : Hid (Sn S P s g (.slice ai0 (xs.map Cel.id).length ci0) ac cc (xs.map Cel.kept) w11) := HSN10.out.grown hb11
    have HQ11 : Hid (OutsAt w11 (some ⟨gq, 0, none⟩) ys) := HQ10.out.grown hb11
    have HB11 : Hid (Below P w w11) := HB10.out.trans (hb11.mono (by omega))
    have hP11 : P < w11.heap.size := by have := hb11.size; omega
    clear hb11 s0 HPA10 HSN10 HQ10 HB10 HPR10 HX10
    have s4 : w11.cell? ⟨S, 4, none⟩ = some (.slice ac xs.length cc) := by have := HSN11.out.c4; rwa [List.length_map] at this
    go_wp2_with fail
    refine (HCE.out _ HSN11.out HQ11.out).mono ?_
    rintro e w12 ⟨rfl, hb12⟩
    have HPA12 : Hid (PAt w12 P s g (.slice av xs.length cv) ((xs.length : Nat) : Int) xs) := HPA11.out.grown hb12
    have HSN12 : Hid (Sn S P s g (.slice ai0 (xs.map Cel.id).length ci0) ac cc (xs.map Cel.kept) w12) := HSN11.out.grown hb12
    have HB12 : Hid (Below P w w12) := HB11.out.trans (hb12.mono (by omega))
    have hP12 : P < w12.heap.size := by have := hb12.size; omega
    clear hb12 s4 HPA11 HSN11 HQ11 HB11
    rcases HKK.out with ⟨rfl, rfl⟩ | ⟨rfl, rfl, hun⟩
    · go_wp2
      go_ret
      exact ⟨rfl, by rw [HPE.out]; exact HB12.out⟩
    · have HR12 : Hid (PRow4 w12 P s g (.slice av xs.length cv) ((xs.length : Nat) : Int)) := paq_row (pp_none HPA12.out).pu
      obtain ⟨av8, cv8, ev8, hatv8⟩ := HPA12.out.at
      injection ev8 with ev8 _ _
      subst ev8
      have HX12 : Hid (CelsAt w12 av xs) := hatv8
      have HFU : Hid (∀ i : Nat, i < winZ xs s g 1 → Mk.isK s 1 (i : Int) = true ∧ ((xs.map Cel.kept).any fun c => c.tt == Mk.adr s 1 (i : Int)) = true) := fun i hi => ⟨key_ok HSM.out (Or.inr rfl) (by omega) (by have := winZ_le xs s g 1; omega), unp_full hun hi⟩
      have HW0 : Hid (0 < winZ xs s g 1) := by show _ < _; have := (win_spec xs s g 1 hg2).1; omega
      clear hun hatv8
      go_wp2_with fail
      refine (sFull_any S P s g (.slice ai0 (xs.map Cel.id).length ci0) ac cc (xs.map Cel.kept) av cv _ xs _ HSN12.out (by have := HCL.out; omega) HSM.out hg1 hg2 HR12.out HX12.out (by omega) HW0.out HFU.out).mono ?_
      rintro e w13 ⟨rfl, hb13⟩
      have HB13 : Hid (Below P w w13) := HB12.out.trans (hb13.mono (by omega))
      clear hb13
      go_wp2
      go_ret
      exact ⟨rfl, by rw [HPE.out]; exact HB13.out⟩
  · have HPD : Hid (Paid1 s g xs 0 ys r L ex ch) := hpd
    obtain ⟨vl', gc, ccc, go, co, hpp, hpdk, hfr56, hsep⟩ := hgo
    have o1 := own_cap hpdk.oi
    have HN2 : Hid (L.length = n2) := o1.1
    have HAI : Hid (∀ x, ai = some x → x.block ≠ P ∧ x.block < w6.heap.size) := fun x hx => by
      have := hpdk.oi.blk x.block (by rw [hx]; rfl)
      exact ⟨by have := HP5.out; omega, this.2⟩
    have HRI6 : Hid (RecAt inC w6 ai L) := own_atS inC3 hpdk.oi
    have hb67 : Below w6.heap.size w6 w7 := by rw [HXE.out]; exact HB67.out
    have HRI7 : Hid (RecAt inC w7 ai L) := HRI6.out.grown hb67
    generalize hNN : (fun k => (fun _ => False) k ∨ k = gc ∨ k = go) = NN at hpp
    have HPP7 : Hid (PP NN w7 P s g (.slice av xs.length cv) ((xs.length : Nat) : Int) xs vl' (.slice none 0 0) (0 + 1) (if (0 : Int) ≤ ch then ch + 1 else 0) ([] ++ [⟨0, some ⟨gc, 0, none⟩, L.length, ccc, some ⟨go, 0, none⟩, (ys ++ ex).length, co, tg, false, L, ys ++ ex⟩]) []) := hpp.grown hb67
    clear hpd hpp hpdk hfr56 hsep hNN HRI6 hb67 o1 HK HPA5
    rw [List.nil_append, show (0 : Int) + 1 = 1 from rfl] at HPP7
    generalize hnx : (if (0 : Int) ≤ ch then ch + 1 else 0) = nx at *
    have HNX : Hid ((if (0 : Int) ≤ ch then ch + 1 else 0) = nx) := hnx
    clear hnx
    generalize hpe : (⟨0, some ⟨gc, 0, none⟩, L.length, ccc, some ⟨go, 0, none⟩, (ys ++ ex).length, co, tg, false, L, ys ++ ex⟩ : PayD) = p at *
    have HP0 : Hid (p.num = 0) := by rw [← hpe]; rfl
    clear hpe
    have hP7 : P < w7.heap.size := by omega
    have s0 := HSN7.out.c0
    go_wp2_with fail
    refine (pAbandon_any NN P s g (.slice av xs.length cv) ((xs.length : Nat) : Int) xs vl' (.slice none 0 0) 1 nx [p] [] 1 _ HPP7.out (by simp)).mono ?_
    rintro e w8 ⟨er8, rfl, h8⟩
    obtain ⟨rfl, hb8⟩ := ab_other (by rw [HP0.out]; decide) h8
    have HPP8 : Hid (PP NN w8 P s g (.slice av xs.length cv) ((xs.length : Nat) : Int) xs vl' (.slice none 0 0) 1 nx [p] []) := HPP7.out.grown hb8
    have HSN8 : Hid (Sn S P s g (.slice ai0 (xs.map Cel.id).length ci0) ac cc (xs.map Cel.kept) w8) := HSN7.out.grown hb8
    have HQ8 : Hid (OutsAt w8 (some ⟨gq, 0, none⟩) ys) := HQ7.out.grown hb8
    have HB8 : Hid (Below P w w8) := HB7.out.trans (hb8.mono (by omega))
    have HRI8 : Hid (RecAt inC w8 ai L) := HRI7.out.grown hb8
    have HV8 : Hid (VB w8 X (.int .i64 0) (.int .i64 t) (.slice ai n2 ci) (.slice ap n3 cp) (.slice ak n4 ck) (.int .i64 ch)) := HV7.out.fr (Fr.of_below hb8 (fun _ => False)) (fun h => h)
    have hs8 : w7.heap.size ≤ w8.heap.size := hb8.size
    clear h8 hb8 s0 HPP7 HSN7 HQ7 HB7 HRI7 HV7
    have s0 := HSN8.out.c0
    go_wp2_with fail
    refine (pAbandon_any NN P s g (.slice av xs.length cv) ((xs.length : Nat) : Int) xs vl' (.slice none 0 0) 1 nx [p] [] 0 _ HPP8.out (by simp)).mono ?_
    rintro e w9 ⟨er9, rfl, h9⟩
    obtain ⟨rfl, vl2, hls9, hf9, hnew9, hc9⟩ := ab_this HP0.out h9
    have HPP9 : Hid (PP NN w9 P s g (.slice av xs.length cv) ((xs.length : Nat) : Int) xs vl2 (.slice none 0 0) 1 nx [] []) := HPP8.out.given hls9 hf9 hnew9 hc9
    have HSN9 : Hid (Sn S P s g (.slice ai0 (xs.map Cel.id).length ci0) ac cc (xs.map Cel.kept) w9) := HSN8.out.fr hf9 HSP.out (fun x hx => HAC.out x hx)
    have HQ9 : Hid (OutsAt w9 (some ⟨gq, 0, none⟩) ys) := outsAt_fr hf9 HQ8.out (fun _ x hx => by injection hx with hx; subst hx; exact HGQ5.out.1)
    have HB9 : Hid (Below P w w9) := HB8.out.trans (hf9.toBelow P (by omega) (fun q hq => by omega))
    have HRI9 : Hid (RecAt inC w9 ai L) := rec_fr hf9 HRI8.out (fun _ x hx => (HAI.out x hx).1)
    have HV9 : Hid (VB w9 X (.int .i64 0) (.int .i64 t) (.slice ai n2 ci) (.slice ap n3 cp) (.slice ak n4 ck) (.int .i64 ch)) := HV8.out.fr hf9 (show ¬ X = P by omega)
    have HNEW : Hid (∀ q, vl2.ownBlock = some q → w8.heap.size ≤ q) := hnew9
    have hs9 : w8.heap.size ≤ w9.heap.size := hf9.size
    clear h9 hls9 hf9 hnew9 hc9 s0 HPP8 HSN8 HQ8 HB8 HRI8 HV8
    have s0 := HSN9.out.c0
    go_wp2_with fail
    refine (pAbandon_any NN P s g (.slice av xs.length cv) ((xs.length : Nat) : Int) xs vl2 (.slice none 0 0) 1 nx [] [] 0 _ HPP9.out (by simp)).mono ?_
    rintro e w10 ⟨er10, rfl, h10⟩
    obtain ⟨rfl, hb10⟩ := ab_none h10
    have HPP10 : Hid (PP NN w10 P s g (.slice av xs.length cv) ((xs.length : Nat) : Int) xs vl2 (.slice none 0 0) 1 nx [] []) := HPP9.out.grown hb10
    have HSN10 : Hid (Sn S P s g (.slice ai0 (xs.map Cel.id).length ci0) ac cc (xs.map Cel.kept) w10) := HSN9.out.grown hb10
    have HQ10 : Hid (OutsAt w10 (some ⟨gq, 0, none⟩) ys) := HQ9.out.grown hb10
    have HB10 : Hid (Below P w w10) := HB9.out.trans (hb10.mono (by omega))
    have HRI10 : Hid (RecAt inC w10 ai L) := HRI9.out.grown hb10
    have HV10 : Hid (VB w10 X (.int .i64 0) (.int .i64 t) (.slice ai n2 ci) (.slice ap n3 cp) (.slice ak n4 ck) (.int .i64 ch)) := HV9.out.fr (Fr.of_below hb10 (fun _ => False)) (fun h => h)
    have hs10 : w9.heap.size ≤ w10.heap.size := hb10.size
    clear h10 hb10 s0 HPP9 HSN9 HQ9 HB9 HRI9 HV9
    have s0 := HSN10.out.c0
    have HR10 : Hid (PRow4 w10 P s g (.slice av xs.length cv) ((xs.length : Nat) : Int)) := paq_row HPP10.out.pu
    obtain ⟨av7, cv7, ev7, hatv⟩ := HPP10.out.pu.at
    injection ev7 with ev7 _ _
    subst ev7
    have HX10 : Hid (CelsAt w10 av xs) := hatv
    have HPM : Hid (PayM NN w10 P 4 [] []) := HPP10.out.ls.payM (by simp) (by simp)
    have HFR : Hid (sumC ((ownZ (keysZ xs s g) (coinsC xs)).filter (freeB [] [])) = tot) := by rw [free_nil_all]; exact HSU.out
    clear hatv
    go_wp2_with fail
    refine (pBalance4 NN [] [] P s g av xs.length cv _ xs _ HSM.out hg1 hg2 HR10.out HPM.out HX10.out rfl (by omega) HOV.out).mono ?_
    rw [HFR.out, HSU.out]
    rintro e w11 ⟨rfl, hb11⟩
    have HPP11 : Hid (PP NN w11 P s g (.slice av xs.length cv) ((xs.length : Nat) : Int) xs vl2 (.slice none 0 0) 1 nx [] []) := HPP10.out.grown hb11
    have HSN11 : Hid (Sn S P s g (.slice ai0 (xs.map Cel.id).length ci0) ac cc (xs.map Cel.kept) w11) := HSN10.out.grown hb11
    have HQ11 : Hid (OutsAt w11 (some ⟨gq, 0, none⟩) ys) := HQ10.out.grown hb11
    have HB11 : Hid (Below P w w11) := HB10.out.trans (hb11.mono (by omega))
    have HRI11 : Hid (RecAt inC w11 ai L) := HRI10.out.grown hb11
    have HV11 : Hid (VB w11 X (.int .i64 0) (.int .i64 t) (.slice ai n2 ci) (.slice ap n3 cp) (.slice ak n4 ck) (.int .i64 ch)) := HV10.out.fr (Fr.of_below hb11 (fun _ => False)) (fun h => h)
    have hs11 : w10.heap.size ≤ w11.heap.size := hb11.size
    clear hb11 s0 HPP10 HSN10 HQ10 HB10 HRI10 HV10 HR10 HX10 HPM HFR
    have s4 : w11.cell? ⟨S, 4, none⟩ = some (.slice ac xs.length cc) := by have := HSN11.out.c4; rwa [List.length_map] at this
    go_wp2_with fail
    refine (HCE.out _ HSN11.out HQ11.out).mono ?_
    rintro e w12 ⟨rfl, hb12⟩
    have HPP12 : Hid (PP NN w12 P s g (.slice av xs.length cv) ((xs.length : Nat) : Int) xs vl2 (.slice none 0 0) 1 nx [] []) := HPP11.out.grown hb12
    have HSN12 : Hid (Sn S P s g (.slice ai0 (xs.map Cel.id).length ci0) ac cc (xs.map Cel.kept) w12) := HSN11.out.grown hb12
    have HQ12 : Hid (OutsAt w12 (some ⟨gq, 0, none⟩) ys) := HQ11.out.grown hb12
    have HB12 : Hid (Below P w w12) := HB11.out.trans (hb12.mono (by omega))
    have HRI12 : Hid (RecAt inC w12 ai L) := HRI11.out.grown hb12
    have HV12 : Hid (VB w12 X (.int .i64 0) (.int .i64 t) (.slice ai n2 ci) (.slice ap n3 cp) (.slice ak n4 ck) (.int .i64 ch)) := HV11.out.fr (Fr.of_below hb12 (fun _ => False)) (fun h => h)
    have hs12 : w11.heap.size ≤ w12.heap.size := hb12.size
    clear hb12 s4 HPP11 HSN11 HQ11 HB11 HRI11 HV11
    have HSV : Hid (¬ (S = P ∨ vl2.ownBlock = some S)) := fun e => by
      rcases e with e | e
      · exact HSP.out e
      · have := HNEW.out S e; have := HS5.out; omega
    go_wp2_with fail
    refine (scPay_any NN S P s g (.slice av xs.length cv) ((xs.length : Nat) : Int) xs vl2 (.slice none 0 0) 1 nx [] [] ai0 (xs.map Cel.id).length ci0 ⟨gq, 0, none⟩ ys.length cq ys r _ HSM.out hg1 hg2 HPP12.out (by omega) HDP.out.vals HQ12.out rfl (by omega) (by omega) (by simp) (by simp) (by rw [List.length_map]; omega) HSN12.out.c0 HSN12.out.c3 HSV.out).mono ?_
    rintro e w13 ⟨tag, htag, hold, z0, z1, z2, z3, z4, z5, er2, rfl, hpay, hnew⟩
    obtain ⟨n02, t2, ai2, n22, ci2, ap2, n32, cp2, ak2, n42, ck2, ch2, rfl, rfl, rfl, rfl, rfl, rfl⟩ := payOkR_vals hpay
    rw [List.length_map] at htag hnew
    have HPG3 : Hid _ := HPG2.out NN vl2 (.slice none 0 0) 1 nx tag n02 t2 _ _ _ ch2 er2 _ _ htag hold hnew hpay
    have HF13 : Hid (Fr (fun q => q = P ∨ vl2.ownBlock = some q) w12 w13) := payOkR_fr hpay
    have hnE : ∀ q, q ≠ P → q < w8.heap.size → ¬ (q = P ∨ vl2.ownBlock = some q) := fun q h1 h2 e => by
      rcases e with e | e
      · exact h1 e
      · have := HNEW.out q e; omega
    have HRI13 : Hid (RecAt inC w13 ai L) := rec_fr HF13.out HRI12.out (fun _ x hx => hnE _ (HAI.out x hx).1 (by have := (HAI.out x hx).2; have := HXE.out; omega))
    have HV13 : Hid (VB w13 X (.int .i64 0) (.int .i64 t) (.slice ai n2 ci) (.slice ap n3 cp) (.slice ak n4 ck) (.int .i64 ch)) := HV12.out.fr HF13.out (hnE X (by omega) (by omega))
    have HB13 : Hid (Below P w w13) := HB12.out.trans (HF13.out.toBelow P (by omega) (fun q hq => by
      rcases hq with e | e
      · omega
      · have := HNEW.out q e; omega))
    have hs13 : w12.heap.size ≤ w13.heap.size := HF13.out.size
    clear hpay hold hnew htag hnE HF13 HRI12 HV12 HB12 HSN12 HQ12 HPP12
    have bB : Below w13.heap.size w13 (w13.alloc (.cells #[.int .i64 n02, .int .i64 t2, .slice ai2 n22 ci2, .slice ap2 n32 cp2, .slice ak2 n42 ck2, .int .i64 ch2] 34)) := (Below.refl _ _).alloc (Nat.le_refl _) _
    have HY14 : Hid (VB (w13.alloc (.cells #[.int .i64 n02, .int .i64 t2, .slice ai2 n22 ci2, .slice ap2 n32 cp2, .slice ak2 n42 ck2, .int .i64 ch2] 34)) w13.heap.size (.int .i64 n02) (.int .i64 t2) (.slice ai2 n22 ci2) (.slice ap2 n32 cp2) (.slice ak2 n42 ck2) (.int .i64 ch2)) := VB.new w13 _ _ _ _ _ _ 34
    go_upto_region 23 with fail
    have HRI14 : Hid _ := HRI13.out.grown bB
    have HV14 : Hid _ := HV13.out.fr (Fr.of_below bB (fun _ => False)) (fun h => h)
    have HB14 : Hid _ := HB13.out.trans (bB.mono (show P ≤ w13.heap.size by omega))
    have HB1314 : Hid _ := bB
    clear bB
    generalize w13.alloc (.cells #[.int .i64 n02, .int .i64 t2, .slice ai2 n22 ci2, .slice ap2 n32 cp2, .slice ak2 n42 ck2, .int .i64 ch2] 34) = w14 at *
    generalize hYe : w13.heap.size = Y at *
    have HYE : Hid (w13.heap.size = Y) := hYe
    clear hYe
    obtain ⟨x0, x1, x2, x3, x4, x5, _⟩ := HV14.out
    obtain ⟨c1, hck1, hce⟩ := HPD.out.ck
    rcases HPG3.out with ⟨hcan, _⟩ | ⟨_, rfl, _, ⟨L2, c2, hck2, hc2⟩, _⟩ | ⟨_, rfl, rfl, L2, ex2, tg2, hpd2, hgo2⟩
    · cases hcan
    · have hch : 0 ≤ ch := by
        rw [hck1] at hck2
        injection hck2 with hck2
        injection hck2 with _ hcc
        rcases HPD.out.fair with ⟨he, _⟩ | ⟨i, v, _, he, _⟩
        · exact absurd hc2 (by rw [← hcc]; exact hce.1 he)
        · omega
      have hd0 : decide (0 ≤ ch) = true := decide_eq_true hch
      clear HPG3
      go_wp2
      go_ret
      exact ⟨rfl, by rw [HPE.out]; exact HB14.out⟩
    · obtain ⟨c2, hck2, hce2⟩ := hpd2.ck
      have hLL : L2 = L ∧ c2 = c1 := by
        rw [hck1] at hck2
        injection hck2 with hck2
        injection hck2 with h1 h2
        exact ⟨h1.symm, h2.symm⟩
      obtain ⟨rfl, rfl⟩ := hLL
      obtain ⟨vl3, gc3, cc3, go3, co3, _, hpdk3, _, _⟩ := hgo2
      have o3 := own_cap hpdk3.oi
      have hn22 : n22 = n2 := by have := HN2.out; omega
      subst hn22
      have HRJ13 : Hid (RecAt inC w13 ai2 L2) := own_atS inC3 hpdk3.oi
      have HRJ14 : Hid (RecAt inC w14 ai2 L2) := HRJ13.out.grown (by rw [HYE.out]; exact HB1314.out)
      have HCH : Hid ((ch < ch2) ∨ (ch = -1 ∧ ch2 = -1)) := by
        show _ ∨ _
        have hxx := HNX.out
        rcases HPD.out.fair with ⟨he, e1, _⟩ | ⟨i, v, he, e1, _⟩
        · have hn := hce.1 he
          rcases hpd2.fair with ⟨_, e2, _⟩ | ⟨i2, v2, he2, e2, _⟩
          · exact Or.inr ⟨e1, e2⟩
          · have := hce2.2 hn; rw [this] at he2; cases he2
        · left
          have hex : ex2 ≠ [] := fun e => by
            have h1 := hce2.1 e
            have h2 := hce.2 h1
            rw [h2] at he; cases he
          rcases hpd2.nx with e | e
          · exact absurd e hex
          · rw [if_pos (by omega)] at hxx
            omega
      have hl0 : 0 < n22 := by rw [← o3.1]; exact hpd2.l0
      have hl10 : n22 ≤ 10 := by rw [← o3.1]; exact hpd2.l10
      have HLN : Hid (L2.length = n22) := o3.1
      obtain ⟨y0, y1, y2, y3, y4, y5, _⟩ := HY14.out
      have hX14 : X < w14.heap.size := cell_lt x0
      have hY14 : Y < w14.heap.size := cell_lt y0
      clear hpd2 hpdk3 HPG3 hck1 hce hck2 hce2 o3
      go_wp2_with fail
      refine (sameNames_any ai ai2 n22 ci ci2 L2 _ HRI14.out HRJ14.out HLN.out hl0 (by omega)).mono ?_
      rintro e w15 ⟨rfl, hb15⟩
      have p0 := (hb15.cell (p := ⟨Y, 0, none⟩) hY14).trans y0
      have p2 := (hb15.cell (p := ⟨Y, 2, none⟩) hY14).trans y2
      have p5 := (hb15.cell (p := ⟨Y, 5, none⟩) hY14).trans y5
      have q5 := (hb15.cell (p := ⟨X, 5, none⟩) hX14).trans x5
      have HB15 : Hid (Below P w w15) := HB14.out.trans (hb15.mono (by omega))
      have hn0I : decide ((0 : Int) < (n22 : Int)) = true := decide_eq_true (by omega)
      clear x0 x1 x2 x3 x4 x5 y0 y1 y2 y3 y4 y5 hb15
      rcases HCH.out with hlt | ⟨rfl, rfl⟩
      · have hd5 : decide (ch < ch2) = true := decide_eq_true hlt
        go_wp2
        go_ret
        exact ⟨rfl, by rw [HPE.out]; exact HB15.out⟩
      · go_wp2
        go_ret
        exact ⟨rfl, by rw [HPE.out]; exact HB15.out⟩
end Go.Proofs.Ytffgpepngcnjeab

namespace Go.Proofs.Ytffgpepngcnjeab
open Go.ChangeShapes Go.WideShapes Go.ChangeAt Go.RowKit
def I64 (x : Int) : Prop := -9223372036854775808 ≤ x ∧ x ≤ 9223372036854775807
theorem tCells3 : Try.prog.cellsOf 3 = 1 := by kernel_rfl
theorem tCells68 : Try.prog.cellsOf 68 = 2 := by kernel_rfl
theorem len3 {cs : List Value} (h : cs.length = 3) : ∃ a b c, cs = [a, b, c] := by
  match cs, h with
  | [a, b, c], _ => exact ⟨a, b, c, rfl⟩
theorem len2c {cs : List Value} (h : cs.length = 2) : ∃ a b, cs = [a, b] := by
  match cs, h with
  | [a, b], _ => exact ⟨a, b, rfl⟩
section
variable {H : Type} {enc : TypeId × Value → H} {W : World} {fuel : Nat} {cs : List Value} {x : DataW H × List MemPlace}
theorem open_num (h : DataW.trod enc Try.prog W 0 (fun _ => true) true fuel 3 cs = some x) : ∃ n : Int, cs = [.int .i64 n] ∧ I64 n := by
  obtain ⟨n, hcs, _, hw⟩ := DataW.trod_int Try.underlying3 h
  exact ⟨n, hcs, bounds_i64 hw⟩
structure In64 (x : InD) : Prop where
  id : I64 x.id
  pos : I64 x.pos
  l : ∀ z ∈ x.l, I64 z
theorem open_out (h : DataW.trod enc Try.prog W 0 (fun _ => true) true fuel 68 cs = some x) : ∃ y : Int × Int, cs = [.int .i64 y.1, .int .i64 y.2] ∧ I64 y.1 ∧ I64 y.2 := by
  obtain ⟨y0, y1, n, _, hlen, h0, h1⟩ := trod_struct2 Try.underlying68 h
  rw [tCells68] at hlen
  obtain ⟨a, b, rfl⟩ := len2c hlen
  simp only [tCells3, List.drop, List.take] at h0 h1
  obtain ⟨i, hi, bi⟩ := open_num h0
  obtain ⟨p, hp, bp⟩ := open_num h1
  cases hi
  cases hp
  exact ⟨(i, p), rfl, bi, bp⟩
end
theorem choose_upto {α : Type} (d : α) {n : Nat} {p : Nat → α → Prop} (h : ∀ i, i < n → ∃ x, p i x) : ∃ l : List α, l.length = n ∧ ∀ i, i < n → p i (l.getD i d) := by
  refine ⟨(List.range n).map fun i => if hi : i < n then Classical.choose (h i hi) else d, by simp, fun i hi => ?_⟩
  have e : ((List.range n).map fun i => if hi : i < n then Classical.choose (h i hi) else d).getD i d = Classical.choose (h i hi) := by
    simp [List.getD, hi]
  rw [e]
  exact Classical.choose_spec (h i hi)
/-- cells of a plain address -/
theorem cells_at {W : World} {a : Addr} {n : Nat} {cs : List Value} (h : W.cells? 0 a n = some cs) (hn : 0 < n) : a.spot = none ∧ ∀ i, i < n → W.cell? ⟨a.block, a.off + i, none⟩ = cs[i]? := by
  obtain ⟨_, hl, hc⟩ := World.cells?_some h
  obtain ⟨b, off, spot⟩ := a
  have hs : spot = none := by
    have h0 := hc 0 hn
    have : (W.cell? ((⟨b, off, spot⟩ : Addr).add 0)) = some (cs[0]'(by omega)) := by rw [h0]; exact List.getElem?_eq_getElem _
    simpa [Addr.add] using World.cell?_spot this
  subst hs
  exact ⟨rfl, fun i hi => by have := hc i hi; rw [add_plain] at this; exact this⟩
section
variable {H : Type} {enc : TypeId × Value → H} {W : World} {fuel : Nat} {cs : List Value} {x : DataW H × List MemPlace}
end
end Go.Proofs.Ytffgpepngcnjeab
