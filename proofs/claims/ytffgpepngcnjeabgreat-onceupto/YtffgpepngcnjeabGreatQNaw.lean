/-
  A book of payments: signs.
-/
import Derived.Test.YtffgpepngcnjeabGreatQNav
import Derived.Deep.RegionHeld3
namespace Go.Proofs.YtffgpepngcnjeabGreatQ
open Go.RowKit
theorem PayI.pos {s tag : Int} {cs : List CoinD} {ys : List (Int × Int)} (h : PayI s tag cs ys) : 0 < ys.length := by
  have := h.rt
  unfold rTx rOuts at this
  simp only [Bool.and_eq_true, decide_eq_true_iff] at this
  omega
theorem sgz_lt {xs : List Cel} {ps : List PayD} {ks : List (Int × Int)} {n : Int} (h : pfindZ ps n < 0) : signZ xs ps ks n = .inl 11 := by
  unfold signZ
  rw [if_pos h]
theorem sgz_at {xs : List Cel} {ps : List PayD} {ks : List (Int × Int)} {n : Int} {j : Nat} (h : pfindZ ps n = (j : Int)) : ((ps.getD j dP).sg = true ∧ signZ xs ps ks n = .inr j) ∨ ((ps.getD j dP).sg = false ∧ ((signZ xs ps ks n = .inl 12) ∨ (signZ xs ps ks n = .inl 13 ∧ anySealZ ks (ps.getD j dP).cs = true) ∨ (signZ xs ps ks n = .inr j ∧ anySealZ ks (ps.getD j dP).cs = false ∧ hasId xs (ps.getD j dP).id = false ∧ hasAllZ xs (ps.getD j dP).cs = true))) := by
  unfold signZ
  rw [h, if_neg (by omega), Int.toNat_natCast]
  cases hsg : (ps.getD j dP).sg
  · right
    refine ⟨rfl, ?_⟩
    by_cases h1 : hasId xs (ps.getD j dP).id = true ∨ hasAllZ xs (ps.getD j dP).cs = false
    · left
      rw [if_pos ⟨rfl, h1⟩]
    · right
      rw [if_neg (fun e => h1 e.2)]
      cases h2 : anySealZ ks (ps.getD j dP).cs
      · right
        rw [if_neg (fun e => by cases e.2)]
        refine ⟨rfl, rfl, ?_, ?_⟩
        · cases e : hasId xs (ps.getD j dP).id
          · rfl
          · exact absurd (Or.inl e) h1
        · cases e : hasAllZ xs (ps.getD j dP).cs
          · exact absurd (Or.inr e) h1
          · rfl
      · left
        rw [if_pos ⟨rfl, rfl⟩]
        exact ⟨rfl, rfl⟩
  · left
    refine ⟨rfl, ?_⟩
    rw [if_neg (fun e => by cases e.1), if_neg (fun e => by cases e.1)]
theorem st_getD {l l2 : List InD} (h : l.map InD.st = l2.map InD.st) (k : Nat) (hk : k < l.length) : (l.getD k dIn).st = (l2.getD k dIn).st := by
  have hl : l.length = l2.length := by have := congrArg List.length h; rwa [List.length_map, List.length_map] at this
  have := congrArg (fun x : List InD => x.getD k dIn) h
  have f1 : (l.map InD.st).getD k dIn = (l.getD k dIn).st := by simp [List.getD, hk]
  have f2 : (l2.map InD.st).getD k dIn = (l2.getD k dIn).st := by simp [List.getD, hl ▸ hk]
  rw [← f1, ← f2]
  exact this
theorem sg_old {N : Nat → Prop} {b o base : Nat} {vl vs : Value} {md nx : Int} {ps : List PayD} {ks : List (Int × Int)} {xs : List Cel} {s n : Int} {j : Nat} {v0 v1 v2 : Value} {er : Int} {w w' : World} (hz : signZ xs ps ks n = .inr j) (hs : (ps.getD j dP).sg = true) (h : SignOk N b o base vl vs md nx ps ks xs s n v0 v1 v2 er w w') : er = 0 ∧ v0 = .int .i64 (ps.getD j dP).tag ∧ ∃ L, SgTx w.heap.size s (ps.getD j dP) v1 v2 L w' ∧ Below w.heap.size w w' := by
  rcases h with ⟨y, h1, _⟩ | ⟨i, L, h1, hj, h2, h3, h4, h5⟩
  · rw [hz] at h1; cases h1
  · rw [hz] at h1
    injection h1 with h1
    subst h1
    rcases h5 with ⟨_, h5⟩ | ⟨h5, _⟩
    · exact ⟨h2, h3, L, h4, h5⟩
    · rw [hs] at h5; cases h5
theorem sg_new {N : Nat → Prop} {b o base : Nat} {vl vs : Value} {md nx : Int} {ps : List PayD} {ks : List (Int × Int)} {xs : List Cel} {s n : Int} {j : Nat} {v0 v1 v2 : Value} {er : Int} {w w' : World} (hz : signZ xs ps ks n = .inr j) (hs : (ps.getD j dP).sg = false) (h : SignOk N b o base vl vs md nx ps ks xs s n v0 v1 v2 er w w') : er = 0 ∧ v0 = .int .i64 (ps.getD j dP).tag ∧ ∃ L vs', SgTx w.heap.size s (ps.getD j dP) v1 v2 L w' ∧ SgL N b o base vl vs vs' md nx ps (ps.set j (ps.getD j dP).on) ks (addKeysZ ks (ps.getD j dP).cs) w w' (fun q => v1.ownBlock ≠ some q ∧ v2.ownBlock ≠ some q ∧ ∀ p ∈ L, p.2 ≠ q) := by
  rcases h with ⟨y, h1, _⟩ | ⟨i, L, h1, hj, h2, h3, h4, h5⟩
  · rw [hz] at h1; cases h1
  · rw [hz] at h1
    injection h1 with h1
    subst h1
    rcases h5 with ⟨h5, _⟩ | ⟨_, vs', h5⟩
    · rw [hs] at h5; cases h5
    · exact ⟨h2, h3, L, vs', h4, h5⟩
variable {NP ND : Nat → Prop} {w : World} {B P : Nat} {s : Int} {g : Nat} {v : Value} {h : Int} {xs : List Cel} {vl vs : Value} {md nx : Int} {ps : List PayD} {ks : List (Int × Int)} {vd : Value} {ds : List DeedD}
/-- the book's own memory, behind a call of the purse -/
structure BkS (ND : Nat → Prop) (w : World) (B P : Nat) (s : Int) (gd cd : Nat) (ds : List DeedD) : Prop where
  b0 : w.cell? ⟨B, 0, none⟩ = some (.pointer (some ⟨P, 0, none⟩))
  b1 : w.cell? ⟨B, 1, none⟩ = some (.int .i64 s)
  b2 : w.cell? ⟨B, 2, none⟩ = some (.slice (some ⟨gd, 0, none⟩) ds.length cd)
  row : VRow w gd 0 (ds.flatMap DeedD.v)
  ok : ∀ d ∈ ds, DeedOk ND w d
theorem BkS.grown {gd cd : Nat} {w' : World} (u : BkS ND w B P s gd cd ds) (hb : Below w.heap.size w w') : BkS ND w' B P s gd cd ds :=
  ⟨(hb.cell (p := ⟨B, 0, none⟩) (cell_lt u.b0)).trans u.b0, (hb.cell (p := ⟨B, 1, none⟩) (cell_lt u.b1)).trans u.b1, (hb.cell (p := ⟨B, 2, none⟩) (cell_lt u.b2)).trans u.b2, u.row.grown hb, fun d hd => (u.ok d hd).grown hb⟩
theorem Bk.own {w' : World} {gd cd : Nat} {E : Nat → Prop} (u : Bk NP ND w B P s g v h xs vl vs md nx ps ks (.slice (some ⟨gd, 0, none⟩) ds.length cd) ds) (hrow : VRow w gd 0 (ds.flatMap DeedD.v)) (hf : Fr E w w') (hE : ∀ k, E k → lsE P vl vs k) : BkS ND w' B P s gd cd ds := by
  have hd : ∀ k, E k → k ≠ B ∧ (Value.slice (some ⟨gd, 0, none⟩) ds.length cd).ownBlock ≠ some k ∧ ¬ ND k := fun k e => u.dj k (Or.inr (Or.inl (hE k e)))
  exact ⟨hf.cell u.b0 (fun e => (hd _ e).1 rfl), hf.cell u.b1 (fun e => (hd _ e).1 rfl), hf.cell u.b2 (fun e => (hd _ e).1 rfl), hf.vrow hrow (fun e => (hd _ e).2.1 rfl), fun d hdd => (u.ok d hdd).fr hf (fun k hk e => (hd k e).2.2 hk)⟩
/-- the eleven cells of a deed -/
structure DeedAll (w : World) (b off : Nat) (a : DeedD) : Prop where
  c0 : w.cell? ⟨b, off, none⟩ = some (.int .i64 a.num)
  c1 : w.cell? ⟨b, off + 1, none⟩ = some (.int .i64 a.tag)
  c2 : w.cell? ⟨b, off + 2, none⟩ = some (.slice a.ai a.n a.ci)
  c3 : w.cell? ⟨b, off + 3, none⟩ = some (.slice a.ap a.m a.cp)
  c4 : w.cell? ⟨b, off + 4, none⟩ = some (.slice a.ak a.q a.ck)
  c5 : w.cell? ⟨b, off + 5, none⟩ = some (.int .i64 a.ch)
  c6 : w.cell? ⟨b, off + 6, none⟩ = some (.int .i64 a.t2)
  c7 : w.cell? ⟨b, off + 7, none⟩ = some (.slice a.ti a.tn a.tc)
  c8 : w.cell? ⟨b, off + 8, none⟩ = some (.slice a.tp a.tm a.td)
  c10 : w.cell? ⟨b, off + 10, none⟩ = some (.bool a.sg)
theorem deedAll {w : World} {b : Nat} {xs : List DeedD} (h : VRow w b 0 (xs.flatMap DeedD.v)) (j : Nat) (hj : j < xs.length) : DeedAll w b (j * 11) (xs.getD j dDD) := by
  have h0 := rcell deed11 dDD h j hj 0 (by omega)
  have h1 := rcell deed11 dDD h j hj 1 (by omega)
  have h2 := rcell deed11 dDD h j hj 2 (by omega)
  have h3 := rcell deed11 dDD h j hj 3 (by omega)
  have h4 := rcell deed11 dDD h j hj 4 (by omega)
  have h5 := rcell deed11 dDD h j hj 5 (by omega)
  have h6 := rcell deed11 dDD h j hj 6 (by omega)
  have h7 := rcell deed11 dDD h j hj 7 (by omega)
  have h8 := rcell deed11 dDD h j hj 8 (by omega)
  have h10 := rcell deed11 dDD h j hj 10 (by omega)
  rw [Nat.zero_add] at h0 h1 h2 h3 h4 h5 h6 h7 h8 h10
  exact ⟨h0, h1, h2, h3, h4, h5, h6, h7, h8, h10⟩
theorem keepS {w w' : World} {B T D : Nat} {o : Nat} {b2 t0 t1 t2 d0 d1 d2 : Value} (hb : Below w.heap.size w w') (h : w.cell? ⟨B, 2, none⟩ = some b2 ∧ (w.cell? ⟨T, 0, none⟩ = some t0 ∧ w.cell? ⟨T, 1, none⟩ = some t1 ∧ w.cell? ⟨T, 2, none⟩ = some t2) ∧ w.cell? ⟨D, o + 6, none⟩ = some d0 ∧ w.cell? ⟨D, o + 7, none⟩ = some d1 ∧ w.cell? ⟨D, o + 8, none⟩ = some d2) :
    w'.cell? ⟨B, 2, none⟩ = some b2 ∧ (w'.cell? ⟨T, 0, none⟩ = some t0 ∧ w'.cell? ⟨T, 1, none⟩ = some t1 ∧ w'.cell? ⟨T, 2, none⟩ = some t2) ∧ w'.cell? ⟨D, o + 6, none⟩ = some d0 ∧ w'.cell? ⟨D, o + 7, none⟩ = some d1 ∧ w'.cell? ⟨D, o + 8, none⟩ = some d2 := by
  have k : ∀ {b o : Nat} {v : Value}, w.cell? ⟨b, o, none⟩ = some v → w'.cell? ⟨b, o, none⟩ = some v := fun {b o v} h => (hb.cell (p := ⟨b, o, none⟩) (cell_lt h)).trans h
  obtain ⟨h0, ⟨h1, h2, h3⟩, h4, h5, h6⟩ := h
  exact ⟨k h0, ⟨k h1, k h2, k h3⟩, k h4, k h5, k h6⟩
theorem keepS2 {w w' : World} {B T D : Nat} {o : Nat} {b1 b2 t0 t1 t2 d0 d1 d2 d3 d4 d5 : Value} (hb : Below w.heap.size w w') (h : (w.cell? ⟨B, 1, none⟩ = some b1 ∧ w.cell? ⟨B, 2, none⟩ = some b2) ∧ (w.cell? ⟨T, 0, none⟩ = some t0 ∧ w.cell? ⟨T, 1, none⟩ = some t1 ∧ w.cell? ⟨T, 2, none⟩ = some t2) ∧ w.cell? ⟨D, o, none⟩ = some d0 ∧ w.cell? ⟨D, o + 1, none⟩ = some d1 ∧ w.cell? ⟨D, o + 2, none⟩ = some d2 ∧ w.cell? ⟨D, o + 3, none⟩ = some d3 ∧ w.cell? ⟨D, o + 4, none⟩ = some d4 ∧ w.cell? ⟨D, o + 5, none⟩ = some d5) :
    (w'.cell? ⟨B, 1, none⟩ = some b1 ∧ w'.cell? ⟨B, 2, none⟩ = some b2) ∧ (w'.cell? ⟨T, 0, none⟩ = some t0 ∧ w'.cell? ⟨T, 1, none⟩ = some t1 ∧ w'.cell? ⟨T, 2, none⟩ = some t2) ∧ w'.cell? ⟨D, o, none⟩ = some d0 ∧ w'.cell? ⟨D, o + 1, none⟩ = some d1 ∧ w'.cell? ⟨D, o + 2, none⟩ = some d2 ∧ w'.cell? ⟨D, o + 3, none⟩ = some d3 ∧ w'.cell? ⟨D, o + 4, none⟩ = some d4 ∧ w'.cell? ⟨D, o + 5, none⟩ = some d5 := by
  have k : ∀ {b o : Nat} {v : Value}, w.cell? ⟨b, o, none⟩ = some v → w'.cell? ⟨b, o, none⟩ = some v := fun {b o v} h => (hb.cell (p := ⟨b, o, none⟩) (cell_lt h)).trans h
  obtain ⟨⟨h0, h00⟩, ⟨h1, h2, h3⟩, h4, h5, h6, h7, h8, h9⟩ := h
  exact ⟨⟨k h0, k h00⟩, ⟨k h1, k h2, k h3⟩, k h4, k h5, k h6, k h7, k h8, k h9⟩
set_option maxRecDepth 100000 in
set_option maxHeartbeats 8000000 in
theorem bSigns_any {base hN : Nat} (w : World) (u : Bk NP ND w B P s g v (hN : Nat) xs vl vs (ds.length : Nat) nx ps ks vd ds) (hlk : LkB s ps ks ds) (hba : ∀ k, (chE P v k ∨ lsE P vl vs k ∨ NP k ∨ k = B ∨ vd.ownBlock = some k ∨ ND k) → base ≤ k) (hc : Chn hN xs) (hs : Mk.isM s = true) (hg1 : 1 ≤ g) (hg2 : g ≤ 20) (hdl : ds.length ≤ 1000000000) (hkl : ks.length ≤ 20000000) (n : Int) :
    Calls Tryz.prog 25 #[.pointer (some ⟨B, 0, none⟩), .int .i64 n] w fun e w' => e = .returned (.bool true) ∧ Fr (fun k => base ≤ k) w w' ∧ ∃ ks' ds', BkQ base w' B P s g (hN : Nat) xs ks' ds' ∧ ds'.length ≤ ds.length ∧ ks'.length ≤ ks.length + 10 := by
  have HU : Hid (Bk NP ND w B P s g v (hN : Nat) xs vl vs (ds.length : Nat) nx ps ks vd ds) := u
  have HLK : Hid (LkB s ps ks ds) := hlk
  have HBA : Hid (∀ k, (chE P v k ∨ lsE P vl vs k ∨ NP k ∨ k = B ∨ vd.ownBlock = some k ∨ ND k) → base ≤ k) := hba
  have HC : Hid (Chn hN xs) := hc
  have HPL : Hid (ps.length ≤ 1000000000) := Nat.le_trans hlk.len hdl
  obtain ⟨hV, hx1, hh1, _⟩ := hc.facts
  have HV : Hid (Vals xs) := hV
  obtain ⟨ad, cd, ed, hatd⟩ := OwnRec.at deed11 u.od
  subst ed
  have b2 := u.b2
  have HAD : Hid (RecAt DeedD.v w ad ds) := hatd
  have hbw : base ≤ w.heap.size := by have := hba B (Or.inr (Or.inr (Or.inr (Or.inl rfl)))); have : B < w.heap.size := cell_lt b2; omega
  clear u hlk hba hatd hc hV
  go_enter Tryz.func25, Tryz.ntmps25
  go_wp2_with fail
  refine (bLive_any B ad cd ds n _ b2 HAD.out).mono ?_
  rintro e w1 ⟨rfl, hb1⟩
  have HU1 : Hid (Bk NP ND w1 B P s g v (hN : Nat) xs vl vs (ds.length : Nat) nx ps ks (.slice ad ds.length cd) ds) := HU.out.grown hb1
  have HF1 : Hid (Fr (fun k => base ≤ k) w w1) := Fr.of_below hb1 _
  have hs1 := hb1.size
  clear hb1 b2 HAD HU
  have b0 := HU1.out.b0
  obtain ⟨av, cv, ev, hatv⟩ := HU1.out.pp.pu.at
  subst ev
  have HX1 : Hid (CelsAt w1 av xs) := hatv
  have HPM : Hid (∀ p ∈ ps, 0 < p.m) := fun p hp => by
    have h1 := (HU1.out.pp.ls.ok p hp).ol
    have h2 := (HLK.out.py p hp).pos
    omega
  have HKK : Hid (∀ p ∈ ps, ∀ x ∈ p.cs, Mk.isK s x.br x.ix = true) := fun p hp x hx => ((HLK.out.py p hp).ky x hx).1
  clear hatv
  go_wp2_with fail
  refine (pSign_any NP P vl vs (ds.length : Nat) nx ps ks av xs.length cv xs s n _ HU1.out.pp.ls (by have := HPL.out; omega) hkl (paq_c0 HU1.out.pp.pu) HU1.out.pp.pu.c0 HX1.out rfl (by omega) HPM.out HKK.out).mono ?_
  rintro e w2 ⟨v0, v1, v2, er, rfl, h2⟩
  obtain ⟨t, bi, bn, bc, bp, bm, bd, rfl, rfl, rfl⟩ := h2.vals
  have HS2 : Hid (SignOk NP P 4 (P + 1) vl vs (ds.length : Nat) nx ps ks xs s n (.int .i64 t) (.slice bi bn bc) (.slice bp bm bd) er w1 w2) := h2
  clear h2 b0
  have bB : Below w2.heap.size w2 (w2.alloc (.cells #[.int .i64 t, .slice bi bn bc, .slice bp bm bd] 35)) := (Below.refl _ _).alloc (Nat.le_refl _) _
  have HT3 : Hid (V3 (w2.alloc (.cells #[.int .i64 t, .slice bi bn bc, .slice bp bm bd] 35)) w2.heap.size (.int .i64 t) (.slice bi bn bc) (.slice bp bm bd)) := V3.new w2 _ _ _ 35
  have HB23 : Hid (Below w2.heap.size w2 (w2.alloc (.cells #[.int .i64 t, .slice bi bn bc, .slice bp bm bd] 35))) := bB
  clear bB
  rcases HLK.out.find n with ⟨hE, hf⟩ | ⟨k, j, rfl, hE, hk, hlv, hf, hj, hjn, hb⟩
  · rw [hE]
    obtain ⟨rfl, e0, e1, e2, hb2⟩ := sg_err (sgz_lt hf) HS2.out
    cases e0
    cases e1
    cases e2
    go_upto_region 3 with fail
    generalize w2.alloc (.cells #[.int .i64 0, .slice none 0 0, .slice none 0 0] 35) = w3 at *
    have HU3 : Hid (Bk NP ND w3 B P s g (.slice av xs.length cv) (hN : Nat) xs vl vs (ds.length : Nat) nx ps ks (.slice ad ds.length cd) ds) := (HU1.out.grown hb2).grown HB23.out
    have HF3 : Hid (Fr (fun k => base ≤ k) w w3) := (HF1.out.trans (Fr.of_below hb2 _)).trans (Fr.of_below HB23.out _)
    obtain ⟨t0, t1, t2, _⟩ := HT3.out
    clear hb2 HB23 HU1 HF1 hE hf
    go_wp2_with fail
    refine (bare_zero _).mono ?_
    rintro e w4 ⟨rfl, hb4⟩
    have HFI : Hid (Fr (fun k => base ≤ k) w w4 ∧ BkQ base w4 B P s g (hN : Nat) xs ks ds) := ⟨HF3.out.trans (Fr.of_below hb4 _), ⟨_, _, _, _, _, _, _, _, HU3.out.grown hb4, HLK.out, HBA.out⟩⟩
    clear t0 t1 t2 hb4
    go_wp2
    go_ret
    exact ⟨rfl, HFI.out.1, ks, ds, HFI.out.2, Nat.le_refl _, by omega⟩
  · rw [hE]
    rcases HU1.out.od.slice deed11 with ⟨_, hnil⟩ | ⟨gd, cd2, e, _, _, hrow, hfz⟩
    · rw [hnil] at hk; simp at hk
    injection e with e1 _ e3
    subst e1
    subst e3
    have HFZ : Hid (∀ i, w1.frozen? ⟨gd, i, none⟩ = false) := hfz
    have HBS3 : Hid (BkS ND (w2.alloc (.cells #[.int .i64 t, .slice bi bn bc, .slice bp bm bd] 35)) B P s gd cd ds) := (HU1.out.own hrow HS2.out.fr (fun k e => e)).grown HB23.out
    have HROW : Hid (VRow w1 gd 0 (ds.flatMap DeedD.v)) := hrow
    have HDM : Hid (ds.getD k dDD ∈ ds) := getD_mem ds dDD k hk
    have HB : Hid ((ps.getD j dP).b = (ds.getD k dDD).b) := hb
    have HFND : Hid (pfindZ ps (k : Int) = (j : Int)) := hf
    have HJ : Hid (j < ps.length ∧ (ps.getD j dP).num = (k : Nat)) := ⟨hj, hjn⟩
    go_upto_region 3 with fail
    clear hb hf hj hjn hlv hE hrow hfz
    generalize w2.alloc (.cells #[.int .i64 t, .slice bi bn bc, .slice bp bm bd] 35) = w3 at *
    have hkI : (k : Int) < (ds.length : Int) := by omega
    have hk0 : (0 : Int) ≤ (k : Int) := by omega
    have hz2 : w1.heap.size ≤ w2.heap.size := HS2.out.fr.size
    generalize hTe : w2.heap.size = T at *
    have HTE : Hid (w2.heap.size = T) := hTe
    clear hTe
    have hall := deedAll HBS3.out.row k hk
    have HOK3 : Hid (DeedOk ND w3 (ds.getD k dDD)) := HBS3.out.ok _ HDM.out
    have HSD : Hid ((ds.getD k dDD).sg = true → (ds.getD k dDD).t2 = (ds.getD k dDD).tag ∧ (ds.getD k dDD).is.map InD.st = (ds.getD k dDD).cs.map (sgI0 s (ds.getD k dDD).id)) := HLK.out.sd _ HDM.out
    have HPI : Hid (PayI s (ps.getD j dP).tag (ps.getD j dP).cs (ps.getD j dP).ys) := HLK.out.py _ (getD_mem ps dP j HJ.out.1)
    obtain ⟨hb1, hb2, hb3, hb4, hb5⟩ : (ps.getD j dP).num = (ds.getD k dDD).num ∧ (ps.getD j dP).cs = (ds.getD k dDD).cs ∧ (ps.getD j dP).sg = (ds.getD k dDD).sg ∧ (ps.getD j dP).tag = (ds.getD k dDD).tag ∧ (ps.getD j dP).ys = (ds.getD k dDD).ys := by
      have := HB.out
      unfold PayD.b DeedD.b at this
      injection this with e1 e
      injection e with e2 e
      injection e with e3 e
      injection e with e4 e5
      exact ⟨e1, e2, e3, e4, e5⟩
    have HID : Hid ((ds.getD k dDD).id = (ps.getD j dP).id) := by
      show _ = _
      unfold DeedD.id PayD.id
      rw [hb2, hb4, hb5]
    generalize hpe : ps.getD j dP = p at *
    have HPQ : Hid (ps.getD j dP = p) := hpe
    generalize hde : ds.getD k dDD = d at *
    have HDQ : Hid (ds.getD k dDD = d) := hde
    have HZ : Hid _ := sgz_at (xs := xs) (ks := ks) HFND.out
    obtain ⟨dnum, dtag, dai, dn, dci, dap, dm, dcp, dak, dq, dck, dch, dt2, dti, dtn, dtc, dtp, dtm, dtd, dlv, dsg, dcs, dys, dis⟩ := d
    simp only at hb1 hb2 hb3 hb4 hb5
    obtain ⟨c0, c1, c2, c3, c4, c5, c6, c7, c8, c10⟩ := hall
    simp only at c0 c1 c2 c3 c4 c5 c6 c7 c8 c10
    have HPC : Hid (p.cs = dcs ∧ p.tag = dtag ∧ p.ys = dys ∧ p.sg = dsg) := ⟨hb2, hb4, hb5, hb3⟩
    clear hb1 hb2 hb3 hb4 hb5 hpe hde HB
    obtain ⟨t0, t1, t2, _⟩ := HT3.out
    have b2 := HBS3.out.b2
    cases dsg with
    | true =>
      have hz : signZ xs ps ks (k : Int) = .inr j := by
        rcases HZ.out with ⟨_, h⟩ | ⟨h, _⟩
        · exact h
        · rw [HPQ.out, HPC.out.2.2.2] at h; cases h
      obtain ⟨rfl, hv0, L, hsg, hb2⟩ := sg_old hz (by rw [HPQ.out]; exact HPC.out.2.2.2) HS2.out
      rw [HPQ.out] at hv0 hsg
      injection hv0 with _ hv0
      rw [HPC.out.2.1] at hv0
      subst hv0
      obtain ⟨hd1, hd2⟩ := HSD.out rfl
      simp only at hd1 hd2
      subst hd1
      have HU3 : Hid (Bk NP ND w3 B P s g (.slice av xs.length cv) (hN : Nat) xs vl vs (ds.length : Nat) nx ps ks (.slice (some ⟨gd, 0, none⟩) ds.length cd) ds) := (HU1.out.grown hb2).grown (by rw [HTE.out]; exact HB23.out)
      have HF3 : Hid (Fr (fun k => base ≤ k) w w3) := (HF1.out.trans (Fr.of_below hb2 _)).trans (Fr.of_below (by rw [HTE.out]; exact HB23.out) _)
      have HTX3 : Hid (SgTx w1.heap.size s p (.slice bi bn bc) (.slice bp bm bd) L w3) := hsg.grown (by rw [HTE.out]; exact HB23.out)
      obtain ⟨hl1, hl2, hl3⟩ := hsg.lens
      have HTD3 : Hid (TxOk ND w3 ⟨dt2, dti, dtn, dtc, dtp, dtm, dtd, dis, dys⟩) := HOK3.out.tx rfl
      have hil := HTD3.out.il
      have hol := HTD3.out.ol
      simp only at hil hol
      have hst : (L.map (sgIn s p.id)).map InD.st = dis.map InD.st := by
        rw [hd2, sgIn_st, hsg.fst, HPC.out.1]
        have h1 := HID.out
        rw [h1]
      have hls := congrArg List.length hst
      rw [List.length_map, List.length_map, List.length_map] at hls
      have hbn : bn = dtn := by omega
      have hbm : bm = dtm := by rw [HPC.out.2.2.1] at hl3; omega
      subst hbn
      subst hbm
      have HST : Hid (∀ m, m < bn → ((L.map (sgIn s p.id)).getD m dIn).st = (dis.getD m dIn).st ∧ ((L.map (sgIn s p.id)).getD m dIn).l.length = 5) := fun m hm => by
        refine ⟨st_getD hst m (by rw [List.length_map]; omega), ?_⟩
        have e1 : (L.map (sgIn s p.id)).getD m dIn = sgIn s p.id (L.getD m dQ) := by
          have : m < L.length := by omega
          simp [List.getD, this]
        rw [e1]
        exact Mk.sealL_len _ _ _ _
      have HLN : Hid ((L.map (sgIn s p.id)).length = bn ∧ dis.length = bn ∧ dys.length = bm) := ⟨by rw [List.length_map]; exact hl1, hil, hol⟩
      have HLB : Hid (0 < bn ∧ bn ≤ 10 ∧ bm ≤ 8) := by
        have h1 := HOK3.out.b1
        have h2 := HOK3.out.ln
        have h3 := HOK3.out.b2
        have h4 := HOK3.out.lm
        have h5 := List.length_pos_iff.2 HPI.out.nn
        simp only at h1 h2 h3 h4
        rw [HPC.out.1] at hl2 h5
        exact ⟨by omega, by omega, by omega⟩
      have bD : Below w3.heap.size w3 w3.drew := (Below.refl _ _).drew
      have HOA : Hid (OutsAt w3.drew bp dys) := by
        have := HTX3.out.outsAt.grown bD
        rw [HPC.out.2.2.1] at this
        exact this
      have HIA : Hid (InsAt w3.drew bi (L.map (sgIn s p.id))) := HTX3.out.insAt.grown bD
      have HIB : Hid (InsAt w3.drew dti dis) := HTD3.out.ins.grown bD
      have HOB : Hid (OutsAt w3.drew dtp dys) := HTD3.out.outs.grown bD
      have HKX : Hid (w3.drew.cell? ⟨B, 2, none⟩ = some (.slice (some ⟨gd, 0, none⟩) ds.length cd) ∧ (w3.drew.cell? ⟨T, 0, none⟩ = some (.int .i64 dt2) ∧ w3.drew.cell? ⟨T, 1, none⟩ = some (.slice bi bn bc) ∧ w3.drew.cell? ⟨T, 2, none⟩ = some (.slice bp bm bd)) ∧ w3.drew.cell? ⟨gd, k * 11 + 6, none⟩ = some (.int .i64 dt2) ∧ w3.drew.cell? ⟨gd, k * 11 + 7, none⟩ = some (.slice dti bn dtc) ∧ w3.drew.cell? ⟨gd, k * 11 + 8, none⟩ = some (.slice dtp bm dtd)) := ⟨b2, ⟨t0, t1, t2⟩, c6, c7, c8⟩
      have HBD : Hid (Below w3.heap.size w3 w3.drew) := bD
      clear bD hst hls hil hol hl1 hl2 hl3 hd2 hsg hb2 c0 c1 c2 c3 c4 c5
      go_upto_region 7 with fail
      go_region_held3 (fun w' => w'.cell? ⟨B, 2, none⟩ = some (.slice (some ⟨gd, 0, none⟩) ds.length cd) ∧ (w'.cell? ⟨T, 0, none⟩ = some (.int .i64 dt2) ∧ w'.cell? ⟨T, 1, none⟩ = some (.slice bi bn bc) ∧ w'.cell? ⟨T, 2, none⟩ = some (.slice bp bm bd)) ∧ w'.cell? ⟨gd, k * 11 + 6, none⟩ = some (.int .i64 dt2) ∧ w'.cell? ⟨gd, k * 11 + 7, none⟩ = some (.slice dti bn dtc) ∧ w'.cell? ⟨gd, k * 11 + 8, none⟩ = some (.slice dtp bm dtd)) (first | go_keep | with_reducible exact HKX.out | exact keepS hb4 HKX.out) ((go_at_call 19; refine (sameTx_any dt2 bi dti bn bc dtc bp dtp bm bd dtd (L.map (sgIn s p.id)) dis dys w3.drew HIA.out HIB.out HLN.out.1 HLN.out.2.1 HST.out HOA.out HOB.out HLN.out.2.2 HLB.out.1 (by have := HLB.out; omega) (by have := HLB.out; omega)).mono ?_; rintro e w4 ⟨rfl, hb4⟩))
      have hb34 : Below w3.heap.size w3 w4 := below_blk HBD.out hb4
      have HFI : Hid (Fr (fun k => base ≤ k) w w4 ∧ BkQ base w4 B P s g (hN : Nat) xs ks ds) := ⟨HF3.out.trans (Fr.of_below hb34 _), ⟨_, _, _, _, _, _, _, _, HU3.out.grown hb34, HLK.out, HBA.out⟩⟩
      clear hb34 hb4 t0 t1 t2 b2 c6 c7 c8 c10
      go_wp2
      go_ret
      exact ⟨rfl, HFI.out.1, ks, ds, HFI.out.2, Nat.le_refl _, by omega⟩
    | false =>
      have HQN : Hid (dq = dn ∧ dcs.length = dn ∧ dn ≤ 10 ∧ dm ≤ 8 ∧ dys.length = dm) := ⟨HOK3.out.lq, HOK3.out.ln, HOK3.out.b1, HOK3.out.b2, HOK3.out.lm⟩
      have HRK : Hid (RecAt kC w3 dak dcs) := HOK3.out.rk
      have HUSE : Hid (anySealZ ks p.cs = dcs.any fun x => sealD ds x.br x.ix) := by
        show _ = _
        rw [HPC.out.1]
        unfold anySealZ
        congr 1
        funext x
        exact HLK.out.used x.br x.ix
      have hq10 : dq ≤ 10 := by have := HQN.out; omega
      have HCL : Hid (dcs.length = dq) := by show _ = _; have := HQN.out; omega
      clear c0 c1 c2 c3 c5 c6 c7 c8
      go_wp2
      go_loopw [10, 11] (fun us i wr => ∃ m : Nat, m ≤ dq ∧ i = .int .i64 m ∧ us = .bool ((dcs.take m).any fun x => sealD ds x.br x.ix) ∧ Below w3.heap.size w3 wr) (fun _ i _ => dq - (intOf i).toNat)
      case atStart => exact ⟨0, Nat.zero_le _, rfl, by simp, Below.refl _ _⟩
      case round =>
        obtain ⟨m, hm, rfl, rfl, hbl⟩ := hrel
        have e2 := (hbl.cell (p := ⟨B, 2, none⟩) (cell_lt b2)).trans b2
        have e4 := (hbl.cell (p := ⟨gd, k * 11 + 4, none⟩) (cell_lt c4)).trans c4
        by_cases hlt : m < dq
        · have hml : m < dcs.length := by rw [HCL.out]; exact hlt
          have hmI : (m : Int) < (dq : Int) := by omega
          have hm0 : (0 : Int) ≤ (m : Int) := by omega
          rcases HRK.out.grown hbl with hnil | ⟨gk, ok, rfl, hrk⟩
          · rw [hnil] at hml; simp at hml
          have k0c : wr.cell? ⟨gk, ok + m * 2, none⟩ = some (.int .i64 (dcs.getD m dN).br) := rcell kC2 dN hrk m hml 0 (by omega)
          have k1c : wr.cell? ⟨gk, ok + m * 2 + 1, none⟩ = some (.int .i64 (dcs.getD m dN).ix) := rcell kC2 dN hrk m hml 1 (by omega)
          have HTK : Hid (((dcs.take (m + 1)).any fun x => sealD ds x.br x.ix) = (((dcs.take m).any fun x => sealD ds x.br x.ix) || sealD ds (dcs.getD m dN).br (dcs.getD m dN).ix)) := by
            show _ = _
            rw [List.take_succ_eq_append_getElem hml, List.any_append]
            simp [List.getD, hml]
          have HBSr : Hid (BkS ND wr B P s gd cd ds) := HBS3.out.grown hbl
          clear hrk
          generalize (dcs.getD m dN).br = x0 at *
          generalize (dcs.getD m dN).ix = x1 at *
          generalize ((dcs.take m).any fun x => sealD ds x.br x.ix) = ub at *
          go_wp2_with fail
          refine (bSealed_any ND B (some ⟨gd, 0, none⟩) ds.length cd ds x0 x1 _ e2 (Or.inr ⟨gd, 0, rfl, HBSr.out.row⟩) rfl (by omega) HBSr.out.ok).mono ?_
          rintro e w4 ⟨rfl, hb4⟩
          have hb34 : Below w3.heap.size w3 w4 := below_blk hbl hb4
          clear e2 e4 k0c k1c hb4 hbl
          generalize sealD ds x0 x1 = sb at *
          cases ub
          · cases sb
            · go_wp2
              go_roundw
              case rel => exact ⟨m + 1, by omega, by go_num, by rw [HTK.out]; rfl, hb34⟩
              case measure => simp [intOf]; omega
            · go_wp2
              go_roundw
              case rel => exact ⟨m + 1, by omega, by go_num, by rw [HTK.out]; rfl, hb34⟩
              case measure => simp [intOf]; omega
          · go_wp2
            go_roundw
            case rel => exact ⟨m + 1, by omega, by go_num, by rw [HTK.out]; rfl, hb34⟩
            case measure => simp [intOf]; omega
        · have hmq : m = dq := by omega
          subst hmq
          rw [List.take_of_length_le (by rw [HCL.out]; omega), ← HUSE.out]
          have HB34 : Hid (Below w3.heap.size w3 wr) := hbl
          have HT4 : Hid (V3 wr T (.int .i64 t) (.slice bi bn bc) (.slice bp bm bd)) := HT3.out.grown hbl
          have HBS4 : Hid (BkS ND wr B P s gd cd ds) := HBS3.out.grown hbl
          clear t0 t1 t2 b2 c4 c10 hbl
          obtain ⟨t0, t1, t2, _⟩ := HT4.out
          rcases HZ.out with ⟨h, _⟩ | ⟨_, h⟩
          · rw [HPQ.out, HPC.out.2.2.2] at h; cases h
          rw [HPQ.out] at h
          rcases h with hz | ⟨hz, hu⟩ | ⟨hz, hu, hhi, hha⟩
          · obtain ⟨rfl, e0, e1, e2x, hb2⟩ := sg_err hz HS2.out
            cases e0
            cases e1
            cases e2x
            have HU4 : Hid (Bk NP ND wr B P s g (.slice av xs.length cv) (hN : Nat) xs vl vs (ds.length : Nat) nx ps ks (.slice (some ⟨gd, 0, none⟩) ds.length cd) ds) := ((HU1.out.grown hb2).grown (by rw [HTE.out]; exact HB23.out)).grown HB34.out
            have HF4 : Hid (Fr (fun k => base ≤ k) w wr) := ((HF1.out.trans (Fr.of_below hb2 _)).trans (Fr.of_below (by rw [HTE.out]; exact HB23.out) _)).trans (Fr.of_below HB34.out _)
            clear hb2 hz
            generalize anySealZ ks p.cs = ub at *
            go_wp2_with fail
            refine (bare_zero _).mono ?_
            rintro e w5 ⟨rfl, hb5⟩
            have HFI : Hid (Fr (fun k => base ≤ k) w w5 ∧ BkQ base w5 B P s g (hN : Nat) xs ks ds) := ⟨HF4.out.trans (Fr.of_below hb5 _), ⟨_, _, _, _, _, _, _, _, HU4.out.grown hb5, HLK.out, HBA.out⟩⟩
            clear t0 t1 t2 hb5 e2 e4
            go_wp2
            go_ret
            exact ⟨rfl, HFI.out.1, ks, ds, HFI.out.2, Nat.le_refl _, by omega⟩
          · obtain ⟨rfl, e0, e1, e2x, hb2⟩ := sg_err hz HS2.out
            cases e0
            cases e1
            cases e2x
            have HU4 : Hid (Bk NP ND wr B P s g (.slice av xs.length cv) (hN : Nat) xs vl vs (ds.length : Nat) nx ps ks (.slice (some ⟨gd, 0, none⟩) ds.length cd) ds) := ((HU1.out.grown hb2).grown (by rw [HTE.out]; exact HB23.out)).grown HB34.out
            have HF4 : Hid (Fr (fun k => base ≤ k) w wr) := ((HF1.out.trans (Fr.of_below hb2 _)).trans (Fr.of_below (by rw [HTE.out]; exact HB23.out) _)).trans (Fr.of_below HB34.out _)
            rw [hu]
            clear hb2 hz hu
            go_wp2_with fail
            refine (bare_zero _).mono ?_
            rintro e w5 ⟨rfl, hb5⟩
            have HFI : Hid (Fr (fun k => base ≤ k) w w5 ∧ BkQ base w5 B P s g (hN : Nat) xs ks ds) := ⟨HF4.out.trans (Fr.of_below hb5 _), ⟨_, _, _, _, _, _, _, _, HU4.out.grown hb5, HLK.out, HBA.out⟩⟩
            clear t0 t1 t2 hb5 e2 e4
            go_wp2
            go_ret
            exact ⟨rfl, HFI.out.1, ks, ds, HFI.out.2, Nat.le_refl _, by omega⟩
          · obtain ⟨rfl, hv0, L, vs8, hsg, hsl⟩ := sg_new hz (by rw [HPQ.out]; exact HPC.out.2.2.2) HS2.out
            rw [HPQ.out] at hv0 hsg hsl
            injection hv0 with _ hv0
            rw [HPC.out.2.1] at hv0
            subst hv0
            obtain ⟨hl1, hl2, hl3⟩ := hsg.lens
            have hdn := HQN.out
            have hbn : m = bn := by rw [HPC.out.1] at hl2; omega
            have hbm : dm = bm := by rw [HPC.out.2.2.1] at hl3; omega
            have hqn : m = dn := by omega
            subst hbn
            subst hbm
            subst hqn
            have HL1 : Hid (L.length = m) := hl1
            have HU2 : Hid (Bk NP ND w2 B P s g (.slice av xs.length cv) (hN : Nat) xs vl vs8 (ds.length : Nat) nx (ps.set j p.on) (addKeysZ ks p.cs) (.slice (some ⟨gd, 0, none⟩) ds.length cd) ds) := HU1.out.signed hsl
            have HB24 : Hid (Below w2.heap.size w2 wr) := below_blk (by rw [HTE.out]; exact HB23.out) HB34.out
            have HU4 : Hid (Bk NP ND wr B P s g (.slice av xs.length cv) (hN : Nat) xs vl vs8 (ds.length : Nat) nx (ps.set j p.on) (addKeysZ ks p.cs) (.slice (some ⟨gd, 0, none⟩) ds.length cd) ds) := HU2.out.grown HB24.out
            have HTX4 : Hid (SgTx w1.heap.size s p (.slice bi m bc) (.slice bp dm bd) L wr) := hsg.grown HB24.out
            have HF4 : Hid (Fr (fun q => base ≤ q) w wr) := (HF1.out.trans (hsl.fr.weak (fun q _ e => HBA.out q (Or.inr (Or.inl e))))).trans (Fr.of_below HB24.out _)
            have HNW : Hid (∀ q, vs8.ownBlock = some q → vs.ownBlock = some q ∨ (w1.heap.size ≤ q ∧ ((Value.slice bi m bc).ownBlock ≠ some q ∧ (Value.slice bp dm bd).ownBlock ≠ some q ∧ ∀ x ∈ L, x.2 ≠ q))) := hsl.nw
            have HNQ : Hid (∀ q, ((Value.slice bi m bc).ownBlock = some q ∨ (Value.slice bp dm bd).ownBlock = some q ∨ ∃ x ∈ L, x.2 = q) → w1.heap.size ≤ q ∧ q < w2.heap.size) := fun q hq => by
              rcases hq with hq | hq | ⟨x, hx, rfl⟩
              · exact hsg.own.blk q hq
              · exact hsg.oo.blk q hq
              · exact ⟨(hsg.row x hx).2.2.1, (hsg.row x hx).2.2.2⟩
            have HIS : Hid ((L.map (sgIn s p.id)).map InD.st = dcs.map (sgI0 s p.id)) := by show _ = _; rw [sgIn_st, hsg.fst, HPC.out.1]
            have HPI2 : Hid (PayI s t dcs dys) := by have := HPI.out; rw [HPC.out.1, HPC.out.2.1, HPC.out.2.2.1] at this; exact this
            have HPID : Hid (p.id = idZ t (dcs.map fun x => (⟨x.id, x.pos, none, 0, 0, []⟩ : InD)) dys) := by
              show _ = _
              unfold PayD.id
              rw [HPC.out.1, HPC.out.2.1, HPC.out.2.2.1]
            have HJD : Hid (idZ t (L.map (sgIn s p.id)) dys = p.id) := by
              show _ = _
              rw [← idZ_st, HIS.out, id_seal HPI2.out.rt, HPID.out]
            have HZ3 : Hid (bp = none → bd = 0) := fun e => by
              have := hsg.oo
              rw [e] at this
              rcases this.2 with ⟨e2, _⟩ | ⟨gg, cap, cur, e2, _⟩
              · injection e2
              · cases e2
            have HHI : Hid (hasId xs p.id = false ∧ hasAllZ xs p.cs = true) := ⟨hhi, hha⟩
            rw [hu]
            clear hsg hsl hz hu hhi hha hl1 hl2 hl3 HZ
            have hall4 := deedAll HBS4.out.row k hk
            rw [HDQ.out] at hall4
            obtain ⟨c0, c1, c2, c3, c4, c5, _, _, _, c10⟩ := hall4
            simp only at c0 c1 c2 c3 c4 c5 c10
            have HOK4 : Hid (DeedOk ND wr ⟨dnum, t, dai, m, dci, dap, dm, dcp, dak, m, dck, dch, dt2, dti, dtn, dtc, dtp, dtm, dtd, dlv, false, dcs, dys, dis⟩) := HBS4.out.ok _ HDM.out
            have b1 := HBS4.out.b1
            have bD : Below wr.heap.size wr wr.drew := (Below.refl _ _).drew
            have HKX : Hid ((wr.drew.cell? ⟨B, 1, none⟩ = some (.int .i64 s) ∧ wr.drew.cell? ⟨B, 2, none⟩ = some (.slice (some ⟨gd, 0, none⟩) ds.length cd)) ∧ (wr.drew.cell? ⟨T, 0, none⟩ = some (.int .i64 t) ∧ wr.drew.cell? ⟨T, 1, none⟩ = some (.slice bi m bc) ∧ wr.drew.cell? ⟨T, 2, none⟩ = some (.slice bp dm bd)) ∧ wr.drew.cell? ⟨gd, k * 11, none⟩ = some (.int .i64 dnum) ∧ wr.drew.cell? ⟨gd, k * 11 + 1, none⟩ = some (.int .i64 t) ∧ wr.drew.cell? ⟨gd, k * 11 + 2, none⟩ = some (.slice dai m dci) ∧ wr.drew.cell? ⟨gd, k * 11 + 3, none⟩ = some (.slice dap dm dcp) ∧ wr.drew.cell? ⟨gd, k * 11 + 4, none⟩ = some (.slice dak m dck) ∧ wr.drew.cell? ⟨gd, k * 11 + 5, none⟩ = some (.int .i64 dch)) := ⟨⟨b1, e2⟩, ⟨t0, t1, t2⟩, c0, c1, c2, c3, c4, c5⟩
            have HBD : Hid (Below wr.heap.size wr wr.drew) := bD
            have HOKd : Hid (DeedOk ND wr.drew ⟨dnum, t, dai, m, dci, dap, dm, dcp, dak, m, dck, dch, dt2, dti, dtn, dtc, dtp, dtm, dtd, dlv, false, dcs, dys, dis⟩) := HOK4.out.grown bD
            have HIAd : Hid (InsAt wr.drew bi (L.map (sgIn s p.id))) := HTX4.out.insAt.grown bD
            have HOAd : Hid (OutsAt wr.drew bp dys) := by have := HTX4.out.outsAt.grown bD; rw [HPC.out.2.2.1] at this; exact this
            have HKY : Hid (∀ x ∈ dcs, Mk.isK s x.br x.ix = true) := fun x hx => (HPI2.out.ky x hx).1
            have HLB : Hid (0 < m ∧ dcs.length = m ∧ dys.length = dm ∧ m ≤ 10 ∧ dm ≤ 8) := by
              have h5 := List.length_pos_iff.2 HPI2.out.nn
              exact ⟨by omega, by omega, by omega, by omega, by omega⟩
            have HRI : Hid (InsAt wr.drew dai (dcs.map fun x => (⟨x.id, x.pos, none, 0, 0, []⟩ : InD))) := inC_insQ HOKd.out.ri
            clear bD
            go_upto_region 18 with fail
            go_region_held3 (fun w' => (w'.cell? ⟨B, 1, none⟩ = some (.int .i64 s) ∧ w'.cell? ⟨B, 2, none⟩ = some (.slice (some ⟨gd, 0, none⟩) ds.length cd)) ∧ (w'.cell? ⟨T, 0, none⟩ = some (.int .i64 t) ∧ w'.cell? ⟨T, 1, none⟩ = some (.slice bi m bc) ∧ w'.cell? ⟨T, 2, none⟩ = some (.slice bp dm bd)) ∧ w'.cell? ⟨gd, k * 11, none⟩ = some (.int .i64 dnum) ∧ w'.cell? ⟨gd, k * 11 + 1, none⟩ = some (.int .i64 t) ∧ w'.cell? ⟨gd, k * 11 + 2, none⟩ = some (.slice dai m dci) ∧ w'.cell? ⟨gd, k * 11 + 3, none⟩ = some (.slice dap dm dcp) ∧ w'.cell? ⟨gd, k * 11 + 4, none⟩ = some (.slice dak m dck) ∧ w'.cell? ⟨gd, k * 11 + 5, none⟩ = some (.int .i64 dch)) (first | go_keep | with_reducible exact HKX.out | exact keepS2 hb5 HKX.out) ((go_at_call 17; refine (opens_any s dnum t dch dai m dci dap dm dcp dak dck bi bc bp bd dcs dys (L.map (sgIn s p.id)) p.id wr.drew HRI.out HOKd.out.rk HOKd.out.ro HIAd.out HOAd.out HLB.out.2.1 HLB.out.2.2.1 HIS.out HJD.out HKY.out HLB.out.1 (by have := HLB.out; omega) (by have := HLB.out; omega)).mono ?_; rintro e w5 ⟨rfl, hb5⟩))
            have hb45 : Below wr.heap.size wr w5 := below_blk HBD.out hb5
            have HU5 : Hid (Bk NP ND w5 B P s g (.slice av xs.length cv) (hN : Nat) xs vl vs8 (ds.length : Nat) nx (ps.set j p.on) (addKeysZ ks p.cs) (.slice (some ⟨gd, 0, none⟩) ds.length cd) ds) := HU4.out.grown hb45
            have HTX5 : Hid (SgTx w1.heap.size s p (.slice bi m bc) (.slice bp dm bd) L w5) := HTX4.out.grown hb45
            have HT5 : Hid (V3 w5 T (.int .i64 t) (.slice bi m bc) (.slice bp dm bd)) := HT4.out.grown hb45
            have HF5 : Hid (Fr (fun q => base ≤ q) w w5) := HF4.out.trans (Fr.of_below hb45 _)
            have hz5 : w2.heap.size ≤ w5.heap.size := Nat.le_trans HB24.out.size hb45.size
            clear e2 e4 c0 c1 c2 c3 c4 c5 c10 b1 t0 t1 t2 hb5 hb45 HU4 HTX4 HT4 HF4 HKX HBD HOKd HIAd HOAd HRI HOK4 HBS4 HB24
            rcases HU5.out.od.slice deed11 with ⟨_, hnil⟩ | ⟨gd2, cd2, e, _, _, hrow5, hfz5⟩
            · rw [hnil] at hk; simp at hk
            injection e with e1 _ e3
            injection e1 with e1
            injection e1 with e1 _ _
            subst e1
            subst e3
            have HRW5 : Hid (VRow w5 gd 0 (ds.flatMap DeedD.v)) := hrow5
            have m10 := (deedAll hrow5 k hk).c10
            rw [HDQ.out] at m10
            simp only at m10
            have m6 := (deedAll hrow5 k hk).c6
            have m7 := (deedAll hrow5 k hk).c7
            have m8 := (deedAll hrow5 k hk).c8
            rw [HDQ.out] at m6 m7 m8
            simp only at m6 m7 m8
            have f10 := hfz5 (k * 11 + 10)
            have b2 := HU5.out.b2
            have hBg : B ≠ gd := by have := (HU5.out.od.blk gd rfl).1; omega
            have hgl : gd < w1.heap.size := (HU1.out.od.blk gd rfl).2
            have hTg : T ≠ gd := by have := HTE.out; omega
            obtain ⟨t0, t1, t2, _⟩ := HT5.out
            have hf56 : Fr (fun q => q = gd) w5 (w5.setCell ⟨gd, k * 11 + 10, none⟩ (.bool true)) := (Fr.refl (fun q => q = gd) w5).set gd (k * 11 + 10) _ (fun _ => rfl)
            have HTK5 : Hid (TxOk (fun q => (Value.slice bi m bc).ownBlock = some q ∨ (Value.slice bp dm bd).ownBlock = some q ∨ ∃ x ∈ L, x.2 = q) w5 ⟨t, bi, m, bc, bp, dm, bd, L.map (sgIn s p.id), dys⟩) := by
              have := sgtx_okN HTX5.out
              rw [HPC.out.2.1, HPC.out.2.2.1] at this
              exact this
            have HNB : Hid (∀ q, (fun q => (Value.slice bi m bc).ownBlock = some q ∨ (Value.slice bp dm bd).ownBlock = some q ∨ ∃ x ∈ L, x.2 = q) q → q < w5.heap.size ∧ q ≠ B ∧ q ≠ gd ∧ ¬ (chE P (.slice av xs.length cv) q ∨ lsE P vl vs8 q ∨ NP q)) := fun q hq => by
              have h1 := HNQ.out q hq
              have hBl : B < w1.heap.size := cell_lt HU1.out.b0
              refine ⟨by omega, by omega, by omega, fun e => ?_⟩
              rcases e with e | e | e
              · have := (HU1.out.pp.pu.blk q e).2; omega
              · rcases e with e | e | e
                · have := (HU1.out.pp.pu.blk q (Or.inl e)).2; omega
                · have := (HU1.out.pp.ls.ol.blk q e).2; omega
                · rcases HNW.out q e with h2 | ⟨_, h2, h3, h4⟩
                  · have := (HU1.out.pp.ls.os.blk q h2).2; omega
                  · rcases hq with hq | hq | ⟨x, hx, hq⟩
                    · exact h2 hq
                    · exact h3 hq
                    · exact h4 x hx hq
              · have := (HU1.out.pp.ls.nN q e).1; omega
            have hf59 : Fr (fun q => q = gd) w5 (((((w5.setCell ⟨gd, k * 11 + 10, none⟩ (.bool true)).setCell ⟨gd, k * 11 + 6, none⟩ (.int .i64 t)).setCell ⟨gd, k * 11 + 6 + 1, none⟩ (.slice bi m bc)).setCell ⟨gd, k * 11 + 6 + 2, none⟩ (.slice bp dm bd)).drew) := (((hf56.set gd (k * 11 + 6) _ (fun _ => rfl)).set gd (k * 11 + 6 + 1) _ (fun _ => rfl)).set gd (k * 11 + 6 + 2) _ (fun _ => rfl)).drew
            have HU9 : Hid (Bk NP (fun q => ND q ∨ (fun q => (Value.slice bi m bc).ownBlock = some q ∨ (Value.slice bp dm bd).ownBlock = some q ∨ ∃ x ∈ L, x.2 = q) q) (((((w5.setCell ⟨gd, k * 11 + 10, none⟩ (.bool true)).setCell ⟨gd, k * 11 + 6, none⟩ (.int .i64 t)).setCell ⟨gd, k * 11 + 6 + 1, none⟩ (.slice bi m bc)).setCell ⟨gd, k * 11 + 6 + 2, none⟩ (.slice bp dm bd)).drew) B P s g (.slice av xs.length cv) (hN : Nat) xs vl vs8 (ds.length : Nat) nx (ps.set j p.on) (addKeysZ ks p.cs) (.slice (some ⟨gd, 0, none⟩) ds.length cd) (sgnD ds k ⟨t, bi, m, bc, bp, dm, bd, L.map (sgIn s p.id), dys⟩)) := HU5.out.sgnd k hk HTK5.out (by rw [HDQ.out]) HNB.out (OwnRec.drew (own_sg678 hk ⟨t, bi, m, bc, bp, dm, bd, L.map (sgIn s p.id), dys⟩ (own_sg10 HU5.out.od hk))) hf59
            have HF9 : Hid (Fr (fun q => base ≤ q) w (((((w5.setCell ⟨gd, k * 11 + 10, none⟩ (.bool true)).setCell ⟨gd, k * 11 + 6, none⟩ (.int .i64 t)).setCell ⟨gd, k * 11 + 6 + 1, none⟩ (.slice bi m bc)).setCell ⟨gd, k * 11 + 6 + 2, none⟩ (.slice bp dm bd)).drew)) := HF5.out.trans (hf59.weak (fun q _ e => by rw [e]; exact HBA.out gd (Or.inr (Or.inr (Or.inr (Or.inr (Or.inl rfl)))))))
            have HT9 : Hid (V3 (((((w5.setCell ⟨gd, k * 11 + 10, none⟩ (.bool true)).setCell ⟨gd, k * 11 + 6, none⟩ (.int .i64 t)).setCell ⟨gd, k * 11 + 6 + 1, none⟩ (.slice bi m bc)).setCell ⟨gd, k * 11 + 6 + 2, none⟩ (.slice bp dm bd)).drew) T (.int .i64 t) (.slice bi m bc) (.slice bp dm bd)) := HT5.out.fr hf59 hTg
            have HTK9 : Hid (TxOk (fun q => (Value.slice bi m bc).ownBlock = some q ∨ (Value.slice bp dm bd).ownBlock = some q ∨ ∃ x ∈ L, x.2 = q) (((((w5.setCell ⟨gd, k * 11 + 10, none⟩ (.bool true)).setCell ⟨gd, k * 11 + 6, none⟩ (.int .i64 t)).setCell ⟨gd, k * 11 + 6 + 1, none⟩ (.slice bi m bc)).setCell ⟨gd, k * 11 + 6 + 2, none⟩ (.slice bp dm bd)).drew) ⟨t, bi, m, bc, bp, dm, bd, L.map (sgIn s p.id), dys⟩) := HTK5.out.fr hf59 (fun q hq => (HNB.out q hq).2.2.1)
            have HNB9 : Hid (∀ q, (fun q => (Value.slice bi m bc).ownBlock = some q ∨ (Value.slice bp dm bd).ownBlock = some q ∨ ∃ x ∈ L, x.2 = q) q → q < (((((w5.setCell ⟨gd, k * 11 + 10, none⟩ (.bool true)).setCell ⟨gd, k * 11 + 6, none⟩ (.int .i64 t)).setCell ⟨gd, k * 11 + 6 + 1, none⟩ (.slice bi m bc)).setCell ⟨gd, k * 11 + 6 + 2, none⟩ (.slice bp dm bd)).drew).heap.size ∧ ¬ chE P (.slice av xs.length cv) q) := fun q hq => ⟨Nat.lt_of_lt_of_le (HNB.out q hq).1 hf59.size, fun e => (HNB.out q hq).2.2.2 (Or.inl e)⟩
            have HLK9 : Hid (LkB s (ps.set j p.on) (addKeysZ ks p.cs) (sgnD ds k ⟨t, bi, m, bc, bp, dm, bd, L.map (sgIn s p.id), dys⟩)) := by
              have h1 := HLK.out.sign hk HJ.out.1 (by rw [HPQ.out]; exact HJ.out.2) ⟨t, bi, m, bc, bp, dm, bd, L.map (sgIn s p.id), dys⟩ (by rw [HDQ.out]) (by rw [HDQ.out]; rw [HIS.out]; have h2 := HID.out; rw [h2])
              rw [HPQ.out, HDQ.out] at h1
              rw [HPC.out.1]
              exact h1
            have HBA9 : Hid (∀ q, (chE P (.slice av xs.length cv) q ∨ lsE P vl vs8 q ∨ NP q ∨ q = B ∨ (Value.slice (some ⟨gd, 0, none⟩) ds.length cd).ownBlock = some q ∨ (ND q ∨ (fun q => (Value.slice bi m bc).ownBlock = some q ∨ (Value.slice bp dm bd).ownBlock = some q ∨ ∃ x ∈ L, x.2 = q) q)) → base ≤ q) := fun q hq => by
              rcases hq with hq | hq | hq | hq | hq | hq
              · exact HBA.out q (Or.inl hq)
              · rcases hq with hq | hq | hq
                · exact HBA.out q (Or.inr (Or.inl (Or.inl hq)))
                · exact HBA.out q (Or.inr (Or.inl (Or.inr (Or.inl hq))))
                · rcases HNW.out q hq with h2 | ⟨h2, _⟩
                  · exact HBA.out q (Or.inr (Or.inl (Or.inr (Or.inr h2))))
                  · omega
              · exact HBA.out q (Or.inr (Or.inr (Or.inl hq)))
              · exact HBA.out q (Or.inr (Or.inr (Or.inr (Or.inl hq))))
              · exact HBA.out q (Or.inr (Or.inr (Or.inr (Or.inr (Or.inl hq)))))
              · rcases hq with hq | hq
                · exact HBA.out q (Or.inr (Or.inr (Or.inr (Or.inr (Or.inr hq)))))
                · have := (HNQ.out q hq).1; omega
            have HKL9 : Hid ((addKeysZ ks p.cs).length ≤ ks.length + 10) := by
              show _ ≤ _
              have h1 := addKeys_len p.cs ks
              rw [HPC.out.1] at h1 ⊢
              have h2 := HLB.out
              omega
            go_upto_region 22 with fail
            have b2' := hf56.cell b2 hBg
            have t0' := hf56.cell t0 hTg
            have t1' := hf56.cell t1 hTg
            have t2' := hf56.cell t2 hTg
            have q6 : (w5.setCell ⟨gd, k * 11 + 10, none⟩ (.bool true)).cell? ⟨gd, k * 11 + 6, none⟩ = some (.int .i64 dt2) := so m6 (by omega)
            have q7 : (w5.setCell ⟨gd, k * 11 + 10, none⟩ (.bool true)).cell? ⟨gd, k * 11 + 7, none⟩ = some (.slice dti dtn dtc) := so m7 (by omega)
            have q8 : (w5.setCell ⟨gd, k * 11 + 10, none⟩ (.bool true)).cell? ⟨gd, k * 11 + 8, none⟩ = some (.slice dtp dtm dtd) := so m8 (by omega)
            have f6 : (w5.setCell ⟨gd, k * 11 + 10, none⟩ (.bool true)).frozen? ⟨gd, k * 11 + 6, none⟩ = false := by rw [World.frozen?_setCell]; exact hfz5 _
            have f7 : (w5.setCell ⟨gd, k * 11 + 10, none⟩ (.bool true)).frozen? ⟨gd, k * 11 + 7, none⟩ = false := by rw [World.frozen?_setCell]; exact hfz5 _
            have f8 : (w5.setCell ⟨gd, k * 11 + 10, none⟩ (.bool true)).frozen? ⟨gd, k * 11 + 8, none⟩ = false := by rw [World.frozen?_setCell]; exact hfz5 _
            clear b2 t0 t1 t2 m6 m7 m8 m10 f10 hfz5 hrow5 hf56 hf59
            go_region
            clear b2' t0' t1' t2' q6 q7 q8 f6 f7 f8
            generalize ((((w5.setCell ⟨gd, k * 11 + 10, none⟩ (.bool true)).setCell ⟨gd, k * 11 + 6, none⟩ (.int .i64 t)).setCell ⟨gd, k * 11 + 6 + 1, none⟩ (.slice bi m bc)).setCell ⟨gd, k * 11 + 6 + 2, none⟩ (.slice bp dm bd)).drew = w9 at *
            have HL9 : Hid ((sgnD ds k ⟨t, bi, m, bc, bp, dm, bd, L.map (sgIn s p.id), dys⟩).length = ds.length) := sgnD_len _ _ _
            have b0 := HU9.out.b0
            have HR9 : Hid (PRow4 w9 P s g (.slice av xs.length cv) (hN : Nat)) := paq_row HU9.out.pp.pu
            have HU9L : Hid (Bk NP (fun q => ND q ∨ (fun q => (Value.slice bi m bc).ownBlock = some q ∨ (Value.slice bp dm bd).ownBlock = some q ∨ ∃ x ∈ L, x.2 = q) q) w9 B P s g (.slice av xs.length cv) (hN : Nat) xs vl vs8 ((sgnD ds k ⟨t, bi, m, bc, bp, dm, bd, L.map (sgIn s p.id), dys⟩).length : Nat) nx (ps.set j p.on) (addKeysZ ks p.cs) (.slice (some ⟨gd, 0, none⟩) ds.length cd) (sgnD ds k ⟨t, bi, m, bc, bp, dm, bd, L.map (sgIn s p.id), dys⟩)) := by rw [HL9.out]; exact HU9.out
            by_cases h40 : 40 ≤ hN
            · have hd40 : decide ((hN : Int) ≥ 40) = true := decide_eq_true (by omega)
              have hd41 : decide ((40 : Int) ≤ (hN : Int)) = true := decide_eq_true (by omega)
              have HFI : Hid (BkQ base w9 B P s g (hN : Nat) xs (addKeysZ ks p.cs) (sgnD ds k ⟨t, bi, m, bc, bp, dm, bd, L.map (sgIn s p.id), dys⟩)) := ⟨_, _, _, _, _, _, _, _, HU9L.out, HLK9.out, HBA9.out⟩
              go_wp2_with (go_at_call 58; refine (pHeight4 P s g (.slice av xs.length cv) (hN : Nat) _ HR9.out).mono ?_; rintro e w' ⟨rfl, rfl⟩)
              go_ret
              exact ⟨rfl, HF9.out, _, _, HFI.out, by rw [HL9.out]; exact Nat.le_refl _, HKL9.out⟩
            · have hd40 : decide ((hN : Int) ≥ 40) = false := decide_eq_false (by omega)
              have hd41 : decide ((40 : Int) ≤ (hN : Int)) = false := decide_eq_false (by omega)
              obtain ⟨xs2, hsay⟩ := sg_say (g := g) HC.out (by omega) HPI.out HHI.out.1 HHI.out.2
              have HSAY : Hid (SgSay (hN : Int) xs xs2 s g p) := hsay
              clear hsay
              have bD : Below w9.heap.size w9 w9.drew := (Below.refl _ _).drew
              have HUd : Hid (PP NP w9.drew P s g (.slice av xs.length cv) (hN : Nat) xs vl vs8 (ds.length : Nat) nx (ps.set j p.on) (addKeysZ ks p.cs)) := HU9.out.pp.grown bD
              have HTKd : Hid (TxOk (fun q => (Value.slice bi m bc).ownBlock = some q ∨ (Value.slice bp dm bd).ownBlock = some q ∨ ∃ x ∈ L, x.2 = q) w9.drew ⟨t, bi, m, bc, bp, dm, bd, L.map (sgIn s p.id), dys⟩) := HTK9.out.fr (Fr.of_below bD (fun _ => False)) (fun _ _ h => h)
              have HNBd : Hid (∀ q, (fun q => (Value.slice bi m bc).ownBlock = some q ∨ (Value.slice bp dm bd).ownBlock = some q ∨ ∃ x ∈ L, x.2 = q) q → q < w9.drew.heap.size ∧ ¬ chE P (.slice av xs.length cv) q) := HNB9.out
              have HSMd : Hid (TxSm ⟨t, bi, m, bc, bp, dm, bd, L.map (sgIn s p.id), dys⟩) := ⟨by show m ≤ _; have := HLB.out; omega, by show dm ≤ _; have := HLB.out; omega, HZ3.out⟩
              have HTKz : Hid (∀ z : TxD, z.t = t → z.ins.map InD.st = (L.map (sgIn s p.id)).map InD.st → z.ys = dys → connZ (hN : Int) xs [z] = (0, 0, (hN : Int) + 1, xs2)) := fun z h1 h2 h3 => HSAY.out.tk z (by rw [HPC.out.2.1]; exact h1) (by rw [h2, HIS.out, HPC.out.1]) (by rw [HPC.out.2.2.1]; exact h3)
              have HGO : Hid ((!((L.map (sgIn s p.id)).any fun i => namedB (ownOf xs2 s g) i.id i.pos)) = true) := by
                show _ = true
                have h1 : ((L.map (sgIn s p.id)).any fun i => namedB (ownOf xs2 s g) i.id i.pos) = ((L.map (sgIn s p.id)).map InD.st).any fun i => namedB (ownOf xs2 s g) i.id i.pos := by simp only [List.any_map]; rfl
                have h2 := HSAY.out.gone
                rw [HPC.out.1] at h2
                rw [h1, HIS.out]
                exact h2
              have HLm : Hid ((L.map (sgIn s p.id)).length ≤ 1000) := by show _ ≤ _; rw [List.length_map, HL1.out]; have := HLB.out; omega
              have HPLs : Hid ((ps.set j p.on).length ≤ 1000000000) := by show _ ≤ _; rw [List.length_set]; exact HPL.out
              have HKX : Hid (w9.drew.cell? ⟨B, 0, none⟩ = some (.pointer (some ⟨P, 0, none⟩)) ∧ w9.drew.cell? ⟨T, 0, none⟩ = some (.int .i64 t) ∧ w9.drew.cell? ⟨T, 1, none⟩ = some (.slice bi m bc) ∧ w9.drew.cell? ⟨T, 2, none⟩ = some (.slice bp dm bd)) := ⟨b0, HT9.out.c0, HT9.out.c1, HT9.out.c2⟩
              have HBD : Hid (Below w9.heap.size w9 w9.drew) := bD
              have HBn : Hid (¬ chE P (.slice av xs.length cv) B) := fun e => (HU9.out.dj B (Or.inl e)).1 rfl
              have HTn : Hid (¬ chE P (.slice av xs.length cv) T) := fun e => by have h1 := (HU1.out.pp.pu.blk T e).2; have h2 := HTE.out; omega
              have HLX : Hid (xs2.length ≤ 3000) := by have := HSAY.out.ln; show _ ≤ _; omega
              obtain ⟨t0, t1, t2, _⟩ := HT9.out
              clear bD
              go_upto_region 26 with (go_at_call 58; refine (pHeight4 P s g (.slice av xs.length cv) (hN : Nat) _ HR9.out).mono ?_; rintro e w' ⟨rfl, rfl⟩)
              go_region_held3 (fun w' => w'.cell? ⟨B, 0, none⟩ = some (.pointer (some ⟨P, 0, none⟩)) ∧ w'.cell? ⟨T, 0, none⟩ = some (.int .i64 t) ∧ w'.cell? ⟨T, 1, none⟩ = some (.slice bi m bc) ∧ w'.cell? ⟨T, 2, none⟩ = some (.slice bp dm bd)) (first | go_keep | with_reducible exact HKX.out | exact keepM4 hst.fr HKX.out HBn.out HTn.out) ((go_at_call 59; refine (taken_any NP P s g (.slice av xs.length cv) (hN : Nat) xs xs2 vl vs8 (ds.length : Nat) nx (ps.set j p.on) (addKeysZ ks p.cs) (fun q => (Value.slice bi m bc).ownBlock = some q ∨ (Value.slice bp dm bd).ownBlock = some q ∨ ∃ x ∈ L, x.2 = q) ⟨t, bi, m, bc, bp, dm, bd, L.map (sgIn s p.id), dys⟩ w9.drew HUd.out (by omega) HLX.out HV.out HSAY.out.vl (by omega) hs hg1 hg2 (by have := HPLs.out; omega) (by have := HKL9.out; omega) HTKd.out HNBd.out HSMd.out HLm.out HTKz.out HSAY.out.tb HGO.out).mono ?_; rintro e w10 ⟨rfl, v10, hp, hst⟩))
              have HFI : Hid (BkQ base w10 B P s g (hN : Nat) xs (addKeysZ ks p.cs) (sgnD ds k ⟨t, bi, m, bc, bp, dm, bd, L.map (sgIn s p.id), dys⟩) ∧ Fr (fun q => base ≤ q) w9.drew w10) := (HU9L.out.grown HBD.out).chainQ HLK9.out HBA9.out (by rw [HL9.out]; exact hp) hst
              have HF10 : Hid (Fr (fun q => base ≤ q) w w10) := (HF9.out.trans (Fr.of_below HBD.out _)).trans HFI.out.2
              clear hp hst b0 t0 t1 t2
              go_wp2
              go_ret
              exact ⟨rfl, HF10.out, _, _, HFI.out.1, by rw [HL9.out]; exact Nat.le_refl _, HKL9.out⟩
end Go.Proofs.YtffgpepngcnjeabGreatQ
