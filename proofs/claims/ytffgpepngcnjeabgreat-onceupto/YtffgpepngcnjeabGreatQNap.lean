/-
  Package payments: Sign: the walk.
  A purse's Sign.
  Package pursekeep: named, spent.
-/
import Derived.Test.YtffgpepngcnjeabGreatQNao
import Derived.Deep.DeepCutAuto
import Derived.Deep.RegionHeld3
namespace Go.Proofs.YtffgpepngcnjeabGreatQ
open Go.RowKit
theorem inC_insQ {w : World} {ao : Option Addr} {cs : List CoinD} (h : RecAt inC w ao cs) : InsAt w ao (cs.map fun x => (⟨x.id, x.pos, none, 0, 0, []⟩ : InD)) := by
  rcases h with h | ⟨b, off, e, hr⟩
  · rw [h]; exact Or.inl rfl
  · refine Or.inr ⟨b, off, e, fun j hj => ?_⟩
    rw [List.length_map] at hj
    have eg : (cs.map fun x => (⟨x.id, x.pos, none, 0, 0, []⟩ : InD)).getD j dIn = ⟨(cs.getD j dN).id, (cs.getD j dN).pos, none, 0, 0, []⟩ := by simp [List.getD, hj]
    rw [eg]
    exact ⟨⟨rcell inC3 dN hr j hj 0 (by omega), rcell inC3 dN hr j hj 1 (by omega), rcell inC3 dN hr j hj 2 (by omega)⟩, ⟨Or.inl rfl, rfl, by show (0 : Nat) ≤ _; omega, fun _ => rfl⟩⟩
/-- the list behind a signature -/
structure SgL (N : Nat → Prop) (b o base : Nat) (vl vs vs' : Value) (md nx : Int) (ps ps' : List PayD) (ks ks' : List (Int × Int)) (w w' : World) (New : Nat → Prop) : Prop where
  ls : LsAt N w' b o base vl vs' md nx ps' ks'
  fr : Fr (fun q => q = b ∨ vl.ownBlock = some q ∨ vs.ownBlock = some q) w w'
  nw : ∀ q, vs'.ownBlock = some q → vs.ownBlock = some q ∨ (w.heap.size ≤ q ∧ New q)
  cl : ∀ i u, i ≠ o + 1 → w.cell? ⟨b, i, none⟩ = some u → w'.cell? ⟨b, i, none⟩ = some u
def SignOk (N : Nat → Prop) (b o base : Nat) (vl vs : Value) (md nx : Int) (ps : List PayD) (ks : List (Int × Int)) (xs : List Cel) (s n : Int) (v0 v1 v2 : Value) (er : Int) (w w' : World) : Prop :=
  (∃ x, signZ xs ps ks n = .inl x ∧ er = x ∧ v0 = .int .i64 0 ∧ v1 = .slice none 0 0 ∧ v2 = .slice none 0 0 ∧ Below w.heap.size w w') ∨
  (∃ j L, signZ xs ps ks n = .inr j ∧ j < ps.length ∧ er = 0 ∧ v0 = .int .i64 (ps.getD j dP).tag ∧ SgTx w.heap.size s (ps.getD j dP) v1 v2 L w' ∧
    (((ps.getD j dP).sg = true ∧ Below w.heap.size w w') ∨ ((ps.getD j dP).sg = false ∧ ∃ vs', SgL N b o base vl vs vs' md nx ps (ps.set j (ps.getD j dP).on) ks (addKeysZ ks (ps.getD j dP).cs) w w' (fun q => v1.ownBlock ≠ some q ∧ v2.ownBlock ≠ some q ∧ ∀ p ∈ L, p.2 ≠ q))))
theorem frTR (w : World) (T R : Nat) (u0 u1 u2 u3 : Value) : Fr (fun k => k = T ∨ k = R) w ((((w.setCell ⟨T, 1, none⟩ u0).setCell ⟨R, 0, none⟩ u1).setCell ⟨R, 1, none⟩ u2).setCell ⟨R, 2, none⟩ u3) :=
  ((((Fr.refl (fun k => k = T ∨ k = R) w).set T 1 _ (fun _ => Or.inl rfl)).set R 0 _ (fun _ => Or.inr rfl)).set R 1 _ (fun _ => Or.inr rfl)).set R 2 _ (fun _ => Or.inr rfl)
theorem SgTx.fin {s : Int} {p : PayD} {w5 w6 wF : World} {v vo : Value} {L : List (CoinD × Nat)} {T R bs b0 : Nat} (hsq : SqI s p.id w5 v L w6) (hfst : L.map Prod.fst = p.cs) (hoo : OwnRec kV 93 2 w6 bs vo p.ys) (hvo : ∀ k, vo.ownBlock = some k → k < T) (hT : T < w5.heap.size) (hR : R < bs) (hRT : R < T) (hb0 : b0 ≤ bs) (hbs : bs ≤ w5.heap.size) (hf : Fr (fun k => k = T ∨ k = R) w6 wF) : SgTx b0 s p v vo L wF := by
  have hnew : ∀ k, w5.heap.size ≤ k → ¬ (k = T ∨ k = R) := fun k hk e => by omega
  refine ⟨hfst, owns_lower (hf.own hsq.own (fun k hk => hnew k (hsq.own.blk k hk).1)) (by omega), fun q hq => ⟨fun j hj => hf.cell ((hsq.row q hq).1 j hj) (hnew _ (hsq.row q hq).2.2.1), fun j hj => (hf.frozen (hsq.row q hq).2.2.2 (hnew _ (hsq.row q hq).2.2.1)).trans ((hsq.row q hq).2.1 j hj), by have := (hsq.row q hq).2.2.1; omega, Nat.lt_of_lt_of_le (hsq.row q hq).2.2.2 hf.size⟩, fun q hq => ⟨hsq.nv q hq, fun e => ?_⟩, hsq.nd, owns_lower (hf.own hoo (fun k hk e => ?_)) hb0, fun k hk e => ?_⟩
  · have := hvo _ e
    have := (hsq.row q hq).2.2.1
    omega
  · have h1 := hvo k hk
    have h2 := (hoo.blk k hk).1
    omega
  · have h1 := hvo k e
    have h2 := (hsq.own.blk k hk).1
    omega
theorem frNewQ {E F : Nat → Prop} {a b c : World} (h : Fr E a b) (k : Fr F b c) (hF : ∀ q, F q → a.heap.size ≤ q) : Fr E a c :=
  ⟨k.os.trans h.os, k.tape.trans h.tape, k.output.trans h.output, Nat.le_trans h.size k.size, fun i hi he => (k.block i (Nat.lt_of_lt_of_le hi h.size) (fun e => by have := hF i e; omega)).trans (h.block i hi he)⟩
theorem SgL.fin {N : Nat → Prop} {b o base gl cl : Nat} {vs vs' v1 vo : Value} {md nx : Int} {ps : List PayD} {j : Nat} {ks ks' : List (Int × Int)} {s id0 : Int} {L : List (CoinD × Nat)} {w w8 w9 w10 w11 wF : World} {T R : Nat} (hL : LsAt N w b o base (.slice (some ⟨gl, 0, none⟩) ps.length cl) vs md nx ps ks) (hb8 : Below w.heap.size w w8) (hf9 : Fr (fun k => k = gl) w8 w9) (hsl : SlI N b o base (.slice (some ⟨gl, 0, none⟩) ps.length cl) vs md nx (ps.set j (ps.getD j dP).on) w9 vs' ks' w10) (hsq : SqI s id0 w10 v1 L w11) (hvo : ∀ k, vo.ownBlock = some k → k < T) (hT : T < w8.heap.size) (hRT : R < T) (hR : w.heap.size ≤ R) (hf : Fr (fun k => k = T ∨ k = R) w11 wF) :
    SgL N b o base (.slice (some ⟨gl, 0, none⟩) ps.length cl) vs vs' md nx ps (ps.set j (ps.getD j dP).on) ks ks' w wF (fun q => v1.ownBlock ≠ some q ∧ vo.ownBlock ≠ some q ∧ ∀ p ∈ L, p.2 ≠ q) := by
  have hgl := hL.ol.blk gl rfl
  have hnb := hL.nb
  have hbl : b < w.heap.size := by omega
  have s8 := hb8.size
  have s9 := hf9.size
  have s10 := hsl.fr.size
  have hvs : ∀ k, vs.ownBlock = some k → k < w.heap.size := fun k hk => (hL.os.blk k hk).2
  have l11 := hsl.ls.grown hsq.bl
  refine ⟨l11.fr hf (fun k hk e => ?_) (fun k hk e => ?_), ?_, fun q hq => ?_, fun i u hi hu => ?_⟩
  · rcases hk with hk | hk | hk
    · omega
    · simp [Value.ownBlock] at hk
      omega
    · rcases hsl.nw k hk with h1 | h1
      · have := hvs k h1; omega
      · omega
  · have := (hL.nN k hk).1
    omega
  · refine frNewQ ((((Fr.of_below hb8 _).trans (hf9.weak (fun k _ e => Or.inr (Or.inl (by rw [e]; rfl))))).trans (hsl.fr.weak (fun k _ e => ?_))).trans (Fr.of_below hsq.bl _)) hf (fun q hq => by omega)
    rcases e with e | e
    · exact Or.inl e
    · exact Or.inr (Or.inr e)
  · rcases hsl.nw q hq with h1 | h1
    · exact Or.inl h1
    · refine Or.inr ⟨by omega, fun e => ?_, fun e => ?_, fun p hp e => ?_⟩
      · have h2 := (hsq.own.blk q e).1
        have h3 := (hsl.ls.os.blk q hq).2
        omega
      · have := hvo q e; omega
      · have h2 := (hsq.row p hp).2.2.1
        have h3 := (hsl.ls.os.blk q hq).2
        omega
  · have h8 := (hb8.cell (p := ⟨b, i, none⟩) hbl).trans hu
    have h9 := hf9.cell h8 (by omega)
    have h10 := hsl.cl i u hi h9
    have h11 := (hsq.bl.cell (p := ⟨b, i, none⟩) (cell_lt h10)).trans h10
    exact hf.cell h11 (by omega)
set_option maxRecDepth 100000 in
set_option maxHeartbeats 4000000 in
theorem lSign_any (N : Nat → Prop) (b o base : Nat) (vl vs : Value) (md nx : Int) (ps : List PayD) (ks : List (Int × Int)) (cb co : Nat) (ao : Option Addr) (nn cx : Nat) (xs : List Cel) (s n : Int) (w : World) (hL : LsAt N w b o base vl vs md nx ps ks) (hbs : base ≤ w.heap.size) (hpl : ps.length ≤ 1000000000000) (hkl : ks.length ≤ 20000000) (hcc : w.cell? ⟨cb, co, none⟩ = some (.slice ao nn cx)) (hcx : CelsAt w ao xs) (hcn : xs.length = nn) (hcm : nn ≤ 1000000) (hp0 : ∀ p ∈ ps, 0 < p.m) (hkk : ∀ p ∈ ps, ∀ x ∈ p.cs, Mk.isK s x.br x.ix = true) :
    Calls Tryz.prog 35 #[.pointer (some ⟨b, o, none⟩), .pointer (some ⟨cb, co, none⟩), .int .i64 s, .int .i64 n] w fun e w' => ∃ v0 v1 v2 er, e = .returned (.tuple #[.agg #[v0, v1, v2], .int .i64 er]) ∧ SignOk N b o base vl vs md nx ps ks xs s n v0 v1 v2 er w w' := by
  obtain ⟨al, cl, ev, hat⟩ := OwnRec.at pay5 hL.ol
  subst ev
  have HL : Hid (LsAt N w b o base (.slice al ps.length cl) vs md nx ps ks) := hL
  have HX : Hid (CelsAt w ao xs) := hcx
  have HXN : Hid (xs.length = nn) := hcn
  have HP0 : Hid (∀ p ∈ ps, 0 < p.m) := hp0
  have HKK : Hid (∀ p ∈ ps, ∀ x ∈ p.cs, Mk.isK s x.br x.ix = true) := hkk
  have bA : Below w.heap.size w (w.alloc (.cells #[.int .i64 0, .slice none 0 0, .slice none 0 0] 35)) := (Below.refl _ _).alloc (Nat.le_refl _) _
  have HB0 : Hid (Below w.heap.size w (w.alloc (.cells #[.int .i64 0, .slice none 0 0, .slice none 0 0] 35))) := bA
  have HR0 : Hid (V3 (w.alloc (.cells #[.int .i64 0, .slice none 0 0, .slice none 0 0] 35)) w.heap.size (.int .i64 0) (.slice none 0 0) (.slice none 0 0)) := V3.new w _ _ _ 35
  have HL0 : Hid (LsAt N (w.alloc (.cells #[.int .i64 0, .slice none 0 0, .slice none 0 0] 35)) b o base (.slice al ps.length cl) vs md nx ps ks) := hL.grown bA
  have HA0 : Hid (RecAt PayD.v (w.alloc (.cells #[.int .i64 0, .slice none 0 0, .slice none 0 0] 35)) al ps) := hat.grown bA
  have c0 := HL0.out.c0
  clear hL hcx hcn hp0 hkk hat bA
  go_enter Tryz.func35, Tryz.ntmps35
  go_upto_region 1 with fail
  generalize w.alloc (.cells #[.int .i64 0, .slice none 0 0, .slice none 0 0] 35) = w0 at *
  generalize hR : w.heap.size = R at *
  have HRe : Hid (w.heap.size = R) := hR
  clear hR
  go_wp2_with fail
  refine (pFind_any b o al ps.length cl ps n _ c0 HA0.out rfl hpl).mono ?_
  rintro e w1 ⟨rfl, hb1⟩
  have HB1 : Hid (Below w.heap.size w w1) := by rw [HRe.out]; exact HB0.out.trans (hb1.mono (by have := HB0.out.size; have := HRe.out; omega))
  have HL1 : Hid (LsAt N w1 b o base (.slice al ps.length cl) vs md nx ps ks) := HL0.out.grown hb1
  have HR1 : Hid (V3 w1 R (.int .i64 0) (.slice none 0 0) (.slice none 0 0)) := HR0.out.grown hb1
  clear hb1 c0 HB0 HR0 HL0 HA0
  rcases pfind_spec ps n with ⟨hneg, _⟩ | ⟨j, hj, hpj, hnum⟩
  · have HZ : Hid (signZ xs ps ks n = .inl 11) := by show _ = _; unfold signZ; rw [hneg, if_pos (by omega)]
    rw [hneg]
    obtain ⟨q0, q1, q2, qz⟩ := HR1.out
    have f0 := qz 0
    have f1 := qz 1
    have f2 := qz 2
    have HVF : Hid _ := ((HR1.out.s0 (.int .i64 0)).s1 (.slice none 0 0)).s2 (.slice none 0 0)
    have HBF : Hid (Below w.heap.size w (((w1.setCell ⟨R, 0, none⟩ (.int .i64 0)).setCell ⟨R, 1, none⟩ (.slice none 0 0)).setCell ⟨R, 2, none⟩ (.slice none 0 0))) := HB1.out.trans ((fr3K w1 R _ _ _).toBelow _ HB1.out.size (fun q hq => by rw [hq, HRe.out]; exact Nat.le_refl _))
    clear qz
    go_upto_region 3 with fail
    repeat (first | go_values | go_skip | go_guarded | go_step | go_upon)
    obtain ⟨z0, z1, z2, _⟩ := HVF.out
    refine bodyPost_ret (v := .tuple #[.agg #[.int .i64 0, .slice none 0 0, .slice none 0 0], .int .i64 11]) ?_ rfl ⟨_, _, _, _, rfl, Or.inl ⟨11, HZ.out, rfl, rfl, rfl, rfl, HBF.out⟩⟩
    simp [results, Tryz.results35, go_sem, z0, z1, z2]
  · have HPS : Hid (signZ xs ps ks n = if (ps.getD j dP).sg = false ∧ (hasId xs (ps.getD j dP).id = true ∨ hasAllZ xs (ps.getD j dP).cs = false) then .inl 12 else if (ps.getD j dP).sg = false ∧ anySealZ ks (ps.getD j dP).cs = true then .inl 13 else .inr j) := by
      show _ = _
      unfold signZ
      rw [hpj, if_neg (by omega), show ((j : Nat) : Int).toNat = j by omega]
    rw [hpj]
    clear hpj hnum
    rcases HL1.out.ol.slice pay5 with ⟨_, hnil⟩ | ⟨gl, c2, e, _, _, hrow, hfz⟩
    · rw [hnil] at hj; simp at hj
    injection e with e1 _ e3
    subst e1
    subst e3
    have HFZ : Hid (∀ i, w1.frozen? ⟨gl, i, none⟩ = false) := hfz
    have c0 := HL1.out.c0
    obtain ⟨m0, m1, m2, m3, m4⟩ := payCells hrow j hj
    rw [Nat.zero_add] at m0 m1 m2 m3 m4
    have hmem := getD_mem ps dP j hj
    have HOK : Hid (PayOk N w1 (ps.getD j dP)) := HL1.out.ok _ hmem
    have HPM : Hid (0 < (ps.getD j dP).m) := HP0.out _ hmem
    have HPK : Hid (∀ x ∈ (ps.getD j dP).cs, Mk.isK s x.br x.ix = true) := HKK.out _ hmem
    have HGE : Hid (∀ v0 v1 v2 er w', SignOk N b o base (.slice (some ⟨gl, 0, none⟩) ps.length cl) vs md nx ps ks xs s n v0 v1 v2 er w w' ↔ SignOk N b o base (.slice (some ⟨gl, 0, none⟩) ps.length cl) vs md nx ps ks xs s n v0 v1 v2 er w w') := fun _ _ _ _ _ => Iff.rfl
    clear hrow hfz hmem HGE
    generalize hpe : ps.getD j dP = p at *
    have HPE : Hid (ps.getD j dP = p) := hpe
    clear hpe
    obtain ⟨pn, pac, pnc, pcc, pap, pm, pd, ptag, psg, pcs, pys⟩ := p
    simp only at m0 m1 m2 m3 m4
    have hjI : (j : Int) < (ps.length : Int) := by omega
    have hj0 : (0 : Int) ≤ (j : Int) := by omega
    have hjn : ¬ ((j : Int) < 0) := by omega
    have bK : Below w1.heap.size w1 (w1.alloc (.cells #[.int .i64 pn, .slice pac pnc pcc, .slice pap pm pd, .int .i64 ptag, .bool psg] 159)) := (Below.refl _ _).alloc (Nat.le_refl _) _
    have k1 : (w1.alloc (.cells #[.int .i64 pn, .slice pac pnc pcc, .slice pap pm pd, .int .i64 ptag, .bool psg] 159)).cell? ⟨w1.heap.size, 1, none⟩ = some (.slice pac pnc pcc) := by go_simp
    have k2 : (w1.alloc (.cells #[.int .i64 pn, .slice pac pnc pcc, .slice pap pm pd, .int .i64 ptag, .bool psg] 159)).cell? ⟨w1.heap.size, 2, none⟩ = some (.slice pap pm pd) := by go_simp
    have k3 : (w1.alloc (.cells #[.int .i64 pn, .slice pac pnc pcc, .slice pap pm pd, .int .i64 ptag, .bool psg] 159)).cell? ⟨w1.heap.size, 3, none⟩ = some (.int .i64 ptag) := by go_simp
    have k4 : (w1.alloc (.cells #[.int .i64 pn, .slice pac pnc pcc, .slice pap pm pd, .int .i64 ptag, .bool psg] 159)).cell? ⟨w1.heap.size, 4, none⟩ = some (.bool psg) := by go_simp
    go_upto_region 5 with fail
    have HL2 : Hid (LsAt N (w1.alloc (.cells #[.int .i64 pn, .slice pac pnc pcc, .slice pap pm pd, .int .i64 ptag, .bool psg] 159)) b o base (.slice (some ⟨gl, 0, none⟩) ps.length cl) vs md nx ps ks) := HL1.out.grown bK
    have HB2 : Hid (Below w.heap.size w (w1.alloc (.cells #[.int .i64 pn, .slice pac pnc pcc, .slice pap pm pd, .int .i64 ptag, .bool psg] 159))) := below_blk HB1.out bK
    have HR2 : Hid (V3 (w1.alloc (.cells #[.int .i64 pn, .slice pac pnc pcc, .slice pap pm pd, .int .i64 ptag, .bool psg] 159)) R (.int .i64 0) (.slice none 0 0) (.slice none 0 0)) := HR1.out.grown bK
    have HO2 : Hid (PayOk N (w1.alloc (.cells #[.int .i64 pn, .slice pac pnc pcc, .slice pap pm pd, .int .i64 ptag, .bool psg] 159)) ⟨pn, pac, pnc, pcc, pap, pm, pd, ptag, psg, pcs, pys⟩) := HOK.out.fr (Fr.of_below bK (fun _ => False)) (fun _ _ h => h)
    have HB1s : Hid (w.heap.size ≤ w1.heap.size) := HB1.out.size
    clear bK m0 m1 m2 m3 m4 c0 HL1 HR1 HOK HB1
    generalize w1.alloc (.cells #[.int .i64 pn, .slice pac pnc pcc, .slice pap pm pd, .int .i64 ptag, .bool psg] 159) = w2 at *
    have HKw : Hid (w.heap.size ≤ w1.heap.size) := HB1s.out
    generalize w1.heap.size = K at *
    go_wp2_with fail
    refine (unsealed_any pac pnc pcc pcs pap pm pd pys ptag _ HO2.out.co HO2.out.cl (by have := HO2.out.b1; simp only at this; omega) HO2.out.ou HO2.out.ol HPM.out (by have := HO2.out.b2; simp only at this; omega)).mono ?_
    rintro e w3 ⟨vi, vo, rfl, hun, hb3⟩
    obtain ⟨ai, ci, evi, hati⟩ := OwnRec.at inC3 hun.oi
    obtain ⟨ap2, co2, evo, hato⟩ := OwnRec.at kv2 hun.oo
    subst evi
    subst evo
    have bT : Below w3.heap.size w3 (w3.alloc (.cells #[.int .i64 ptag, .slice ai pcs.length ci, .slice ap2 pys.length co2] 35)) := (Below.refl _ _).alloc (Nat.le_refl _) _
    have b24 := below_blk hb3 bT
    have HT4 : Hid (V3 (w3.alloc (.cells #[.int .i64 ptag, .slice ai pcs.length ci, .slice ap2 pys.length co2] 35)) w3.heap.size (.int .i64 ptag) (.slice ai pcs.length ci) (.slice ap2 pys.length co2)) := V3.new w3 _ _ _ 35
    have HI4 : Hid (RecAt inC (w3.alloc (.cells #[.int .i64 ptag, .slice ai pcs.length ci, .slice ap2 pys.length co2] 35)) ai pcs) := hati.grown bT
    have HO4 : Hid (RecAt kV (w3.alloc (.cells #[.int .i64 ptag, .slice ai pcs.length ci, .slice ap2 pys.length co2] 35)) ap2 pys) := hato.grown bT
    have HOO4 : Hid (OwnRec kV 93 2 (w3.alloc (.cells #[.int .i64 ptag, .slice ai pcs.length ci, .slice ap2 pys.length co2] 35)) w2.heap.size (.slice ap2 pys.length co2) pys) := hun.oo.grown bT
    have HL4 : Hid (LsAt N (w3.alloc (.cells #[.int .i64 ptag, .slice ai pcs.length ci, .slice ap2 pys.length co2] 35)) b o base (.slice (some ⟨gl, 0, none⟩) ps.length cl) vs md nx ps ks) := HL2.out.grown b24
    have HB4 : Hid (Below w.heap.size w (w3.alloc (.cells #[.int .i64 ptag, .slice ai pcs.length ci, .slice ap2 pys.length co2] 35))) := below_blk HB2.out b24
    have HR4 : Hid (V3 (w3.alloc (.cells #[.int .i64 ptag, .slice ai pcs.length ci, .slice ap2 pys.length co2] 35)) R (.int .i64 0) (.slice none 0 0) (.slice none 0 0)) := HR2.out.grown b24
    have HP4 : Hid (PayOk N (w3.alloc (.cells #[.int .i64 ptag, .slice ai pcs.length ci, .slice ap2 pys.length co2] 35)) ⟨pn, pac, pnc, pcc, pap, pm, pd, ptag, psg, pcs, pys⟩) := HO2.out.fr (Fr.of_below b24 (fun _ => False)) (fun _ _ h => h)
    have n1 := (b24.cell (p := ⟨K, 1, none⟩) (cell_lt k1)).trans k1
    have n4 := (b24.cell (p := ⟨K, 4, none⟩) (cell_lt k4)).trans k4
    go_upto_region 6 with fail
    have hs24 := HB2.out.size
    have hs23 := hb3.size
    have hRl : R < w2.heap.size := cell_lt HR2.out.c0
    have HVO : Hid (∀ k, (Value.slice ap2 pys.length co2).ownBlock = some k → k < w3.heap.size) := fun k hk => (hun.oo.blk k hk).2
    have hTl : w3.heap.size < (w3.alloc (.cells #[.int .i64 ptag, .slice ai pcs.length ci, .slice ap2 pys.length co2] 35)).heap.size := by rw [World.size_alloc]; omega
    clear bT b24 hun hati hato hb3 k1 k2 k3 k4 HL2 HR2 HO2
    generalize w3.alloc (.cells #[.int .i64 ptag, .slice ai pcs.length ci, .slice ap2 pys.length co2] 35) = w4 at *
    generalize hT : w3.heap.size = T at *
    have HTe : Hid (w.heap.size ≤ T ∧ R < T ∧ R < w2.heap.size ∧ w.heap.size ≤ w2.heap.size ∧ w2.heap.size ≤ T) := by refine ⟨?_, ?_, ?_, ?_, ?_⟩ <;> omega
    clear hT hs24 hs23 hRl
    obtain ⟨t0, t1, t2, _⟩ := HT4.out
    go_wp2_with fail
    refine (txId_any ptag ai pcs.length ci ap2 pys.length co2 (pcs.map fun x => (⟨x.id, x.pos, none, 0, 0, []⟩ : InD)) pys _ (inC_insQ HI4.out) (by simp) (rec_outs HO4.out) rfl).mono ?_
    rintro e w5 ⟨rfl, hb5⟩
    have HID : Hid (Mk.isM (idZ ptag (pcs.map fun x => (⟨x.id, x.pos, none, 0, 0, []⟩ : InD)) pys) = true) := idZ_bd _ _ _
    have HPI : Hid (PayD.id ⟨pn, pac, pnc, pcc, pap, pm, pd, ptag, psg, pcs, pys⟩ = idZ ptag (pcs.map fun x => (⟨x.id, x.pos, none, 0, 0, []⟩ : InD)) pys) := rfl
    have HT5 : Hid (V3 w5 T (.int .i64 ptag) (.slice ai pcs.length ci) (.slice ap2 pys.length co2)) := HT4.out.grown hb5
    have HOO5 : Hid (OwnRec kV 93 2 w5 w2.heap.size (.slice ap2 pys.length co2) pys) := HOO4.out.grown hb5
    have HL5 : Hid (LsAt N w5 b o base (.slice (some ⟨gl, 0, none⟩) ps.length cl) vs md nx ps ks) := HL4.out.grown hb5
    have HB5 : Hid (Below w.heap.size w w5) := below_blk HB4.out hb5
    have HR5 : Hid (V3 w5 R (.int .i64 0) (.slice none 0 0) (.slice none 0 0)) := HR4.out.grown hb5
    have HP5 : Hid (PayOk N w5 ⟨pn, pac, pnc, pcc, pap, pm, pd, ptag, psg, pcs, pys⟩) := HP4.out.fr (Fr.of_below hb5 (fun _ => False)) (fun _ _ h => h)
    have HT5l : Hid (T < w5.heap.size) := Nat.lt_of_lt_of_le hTl hb5.size
    clear hTl
    have l1 := (hb5.cell (p := ⟨K, 1, none⟩) (cell_lt n1)).trans n1
    have l4 := (hb5.cell (p := ⟨K, 4, none⟩) (cell_lt n4)).trans n4
    clear hb5 n1 n4 t0 t1 t2 HT4 HI4 HO4 HOO4 HL4 HB4 HR4 HP4
    generalize idZ ptag (pcs.map fun x => (⟨x.id, x.pos, none, 0, 0, []⟩ : InD)) pys = id0 at *
    cases psg
    · have HC5 : Hid (w5.cell? ⟨cb, co, none⟩ = some (.slice ao nn cx)) := (HB5.out.cell (p := ⟨cb, co, none⟩) (cell_lt hcc)).trans hcc
      have HX5 : Hid (CelsAt w5 ao xs) := HX.out.grown HB5.out
      go_wp2_with fail
      refine (hasId_any cb co ao nn cx xs id0 _ HC5.out HX5.out HXN.out hcm).mono ?_
      rintro e w6 ⟨rfl, hb6⟩
      have HB6 : Hid (Below w.heap.size w w6) := below_blk HB5.out hb6
      have HR6 : Hid (V3 w6 R (.int .i64 0) (.slice none 0 0) (.slice none 0 0)) := HR5.out.grown hb6
      have m1 := (hb6.cell (p := ⟨K, 1, none⟩) (cell_lt l1)).trans l1
      cases hh : hasId xs id0
      · have HC6 : Hid (w6.cell? ⟨cb, co, none⟩ = some (.slice ao nn cx)) := (hb6.cell (p := ⟨cb, co, none⟩) (cell_lt HC5.out)).trans HC5.out
        have HX6 : Hid (CelsAt w6 ao xs) := HX5.out.grown hb6
        have HCO6 : Hid (RecAt CoinD.l w6 pac pcs) := HP5.out.co.grown hb6
        clear l1 l4
        go_wp2_with fail
        refine (hasAll_any cb co ao nn cx xs pac pnc pcc pcs _ HC6.out HX6.out HXN.out hcm HCO6.out HP5.out.cl (by have := HP5.out.b1; simp only at this; omega)).mono ?_
        rintro e w7 ⟨rfl, hb7⟩
        have HB7 : Hid (Below w.heap.size w w7) := below_blk HB6.out hb7
        have HR7 : Hid (V3 w7 R (.int .i64 0) (.slice none 0 0) (.slice none 0 0)) := HR6.out.grown hb7
        have m2 := (hb7.cell (p := ⟨K, 1, none⟩) (cell_lt m1)).trans m1
        cases ha : hasAllZ xs pcs
        · have HZ : Hid (signZ xs ps ks n = .inl 12) := by show _ = _; rw [HPS.out, if_pos ⟨by first | trivial | rfl, Or.inr ha⟩]
          obtain ⟨q0, q1, q2, qz⟩ := HR7.out
          have f0 := qz 0
          have f1 := qz 1
          have f2 := qz 2
          have HVF : Hid (V3 (((w7.setCell ⟨R, 0, none⟩ (.int .i64 0)).setCell ⟨R, 1, none⟩ (.slice none 0 0)).setCell ⟨R, 2, none⟩ (.slice none 0 0)) R (.int .i64 0) (.slice none 0 0) (.slice none 0 0)) := ((HR7.out.s0 _).s1 _).s2 _
          have HBF : Hid (Below w.heap.size w (((w7.setCell ⟨R, 0, none⟩ (.int .i64 0)).setCell ⟨R, 1, none⟩ (.slice none 0 0)).setCell ⟨R, 2, none⟩ (.slice none 0 0))) := HB7.out.trans ((fr3K w7 R _ _ _).toBelow _ HB7.out.size (fun q hq => by rw [hq, HRe.out]; exact Nat.le_refl _))
          clear qz
          go_upto_region 9 with fail
          repeat (first | go_values | go_skip | go_guarded | go_step | go_upon)
          obtain ⟨z0, z1, z2, _⟩ := HVF.out
          refine bodyPost_ret (v := .tuple #[.agg #[.int .i64 0, .slice none 0 0, .slice none 0 0], .int .i64 12]) ?_ rfl ⟨_, _, _, _, rfl, Or.inl ⟨12, HZ.out, rfl, rfl, rfl, rfl, HBF.out⟩⟩
          simp [results, Tryz.results35, go_sem, z0, z1, z2]
        · have hb57 := below_blk hb6 hb7
          have HL7 : Hid (LsAt N w7 b o base (.slice (some ⟨gl, 0, none⟩) ps.length cl) vs md nx ps ks) := HL5.out.grown hb57
          have HCO7 : Hid (RecAt CoinD.l w7 pac pcs) := HP5.out.co.grown hb57
          obtain ⟨ak, ck, eks, hatk⟩ := OwnRec.at kv2 HL7.out.os
          have HAK : Hid (RecAt kV w7 ak ks) := hatk
          have c1 := HL7.out.c1
          rw [eks] at c1
          clear hatk m1
          go_wp2_with fail
          refine (anySealed_any b o ak ks.length ck ks pac pnc pcc pcs _ c1 HAK.out rfl (by omega) HCO7.out HP5.out.cl (by have := HP5.out.b1; simp only at this; omega)).mono ?_
          rintro e w8 ⟨rfl, hb8⟩
          have HB8 : Hid (Below w.heap.size w w8) := below_blk HB7.out hb8
          have HR8 : Hid (V3 w8 R (.int .i64 0) (.slice none 0 0) (.slice none 0 0)) := HR7.out.grown hb8
          have m3 := (hb8.cell (p := ⟨K, 1, none⟩) (cell_lt m2)).trans m2
          cases hk : anySealZ ks pcs
          · have hb58 := below_blk hb57 hb8
            have HL8 : Hid (LsAt N w8 b o base (.slice (some ⟨gl, 0, none⟩) ps.length cl) vs md nx ps ks) := HL5.out.grown hb58
            have HT8 : Hid (V3 w8 T (.int .i64 ptag) (.slice ai pcs.length ci) (.slice ap2 pys.length co2)) := HT5.out.grown hb58
            have HOO8 : Hid (OwnRec kV 93 2 w8 w2.heap.size (.slice ap2 pys.length co2) pys) := HOO5.out.grown hb58
            have HT8l : Hid (T < w8.heap.size) := Nat.lt_of_lt_of_le HT5l.out hb58.size
            have HZ : Hid (signZ xs ps ks n = .inr j) := by
              show _ = _
              rw [HPS.out, if_neg (fun e => ?_), if_neg (fun e => ?_)]
              · have := e.2; rw [hk] at this; cases this
              · rcases e.2 with e | e
                · rw [HPI.out, hh] at e; cases e
                · rw [ha] at e; cases e
            clear hb6 hb7 hb8 hb57 hb58 HC5 HX5 HC6 HX6 HL7 HCO6 HCO7 HAK c1 m2 HB6 HB7 HR6 HR7 HL5 HT5 HOO5 HB5 HR5
            rcases HL8.out.ol.slice pay5 with ⟨_, hnil⟩ | ⟨gl2, cl2, e, _, _, hrow, hfz⟩
            · rw [hnil] at hj; simp at hj
            injection e with e1 _ e3
            injection e1 with e1
            injection e1 with e1
            subst e1
            subst e3
            have c0 := HL8.out.c0
            have g4 := (payCells hrow j hj).c4
            rw [HPE.out, Nat.zero_add] at g4
            simp only at g4
            have fg := hfz (j * 5 + 4)
            have hputS := HL8.out.putS j hj
            have HL9 : Hid (LsAt N (w8.setCell ⟨gl, j * 5 + 4, none⟩ (.bool true)) b o base (.slice (some ⟨gl, 0, none⟩) ps.length cl) vs md nx (ps.set j (ps.getD j dP).on) ks) := hputS.1
            have HF9 : Hid (Fr (fun k => k = gl) w8 (w8.setCell ⟨gl, j * 5 + 4, none⟩ (.bool true))) := hputS.2
            clear hputS hrow hfz
            obtain ⟨hT1, hT2, hT3, hT4, hT5⟩ := HTe.out
            have hgl := (HL.out.ol.blk gl rfl).2
            have hKw : w.heap.size ≤ K := HKw.out
            have m4 := HF9.out.cell m3 (by omega)
            have HT9 : Hid (V3 (w8.setCell ⟨gl, j * 5 + 4, none⟩ (.bool true)) T (.int .i64 ptag) (.slice ai pcs.length ci) (.slice ap2 pys.length co2)) := HT8.out.fr HF9.out (by omega)
            have HR9 : Hid (V3 (w8.setCell ⟨gl, j * 5 + 4, none⟩ (.bool true)) R (.int .i64 0) (.slice none 0 0) (.slice none 0 0)) := HR8.out.fr HF9.out (by have := HRe.out; omega)
            have HOO9 : Hid (OwnRec kV 93 2 (w8.setCell ⟨gl, j * 5 + 4, none⟩ (.bool true)) w2.heap.size (.slice ap2 pys.length co2) pys) := HF9.out.own HOO8.out (fun k hk e => by have := (HOO8.out.blk k hk).1; omega)
            have HP9 : Hid (PayOk N (w8.setCell ⟨gl, j * 5 + 4, none⟩ (.bool true)) ⟨pn, pac, pnc, pcc, pap, pm, pd, ptag, true, pcs, pys⟩) := by
              have := HL9.out.ok (ps.getD j dP).on (List.mem_iff_getElem.2 ⟨j, by simpa using hj, by simp⟩)
              rw [HPE.out] at this
              exact this
            have hbs9 : base ≤ (w8.setCell ⟨gl, j * 5 + 4, none⟩ (.bool true)).heap.size := by have h1 := HB8.out.size; have h2 := HF9.out.size; have h3 := HRe.out; omega
            go_upto_region 13 with fail
            clear c0 g4 fg m3
            generalize w8.setCell ⟨gl, j * 5 + 4, none⟩ (.bool true) = w9 at *
            go_wp2_with fail
            refine (addSealed_any N b o base (.slice (some ⟨gl, 0, none⟩) ps.length cl) vs md nx (ps.set j (ps.getD j dP).on) ks pac pnc pcc pcs _ HL9.out hbs9 hkl HP9.out.co HP9.out.cl (by have := HP9.out.b1; simp only at this; omega) HP9.out.nc).mono ?_
            rintro e w10 ⟨rfl, vs', hsl⟩
            have HSL : Hid (SlI N b o base (.slice (some ⟨gl, 0, none⟩) ps.length cl) vs md nx (ps.set j (ps.getD j dP).on) w9 vs' (addKeysZ ks pcs) w10) := hsl
            have hnb := HL.out.nb
            have hE : ∀ k, w.heap.size ≤ k → ¬ (k = b ∨ vs.ownBlock = some k) := fun k hk e => by
              rcases e with e | e
              · omega
              · have := (HL.out.os.blk k e).2; omega
            have l1 := hsl.fr.cell m4 (hE _ hKw)
            have HT5 : Hid (V3 w10 T (.int .i64 ptag) (.slice ai pcs.length ci) (.slice ap2 pys.length co2)) := HT9.out.fr hsl.fr (hE _ hT1)
            have HR5 : Hid (V3 w10 R (.int .i64 0) (.slice none 0 0) (.slice none 0 0)) := HR9.out.fr hsl.fr (hE _ (by have := HRe.out; omega))
            have HOO5 : Hid (OwnRec kV 93 2 w10 w2.heap.size (.slice ap2 pys.length co2) pys) := hsl.fr.own HOO9.out (fun k hk => hE k (by have := (HOO9.out.blk k hk).1; omega))
            have HP10 : Hid (PayOk N w10 ⟨pn, pac, pnc, pcc, pap, pm, pd, ptag, true, pcs, pys⟩) := by
              have := hsl.ls.ok (ps.getD j dP).on (List.mem_iff_getElem.2 ⟨j, by simpa using hj, by simp⟩)
              rw [HPE.out] at this
              exact this
            have HT10l : Hid (T < w10.heap.size) := Nat.lt_of_lt_of_le HT8l.out (Nat.le_trans HF9.out.size hsl.fr.size)
            clear hsl m4 hE
            go_wp2_with fail
            refine (sealedIns_any pac pnc pcc pcs s id0 _ HP10.out.co HP10.out.cl (by have := HP10.out.b1; simp only at this; omega) HPK.out HID.out).mono ?_
            rintro e w11 ⟨v, L, rfl, hfst, hsq⟩
            obtain ⟨a9, c9, e9, _⟩ := OwnRec.at sn3 hsq.own
            subst e9
            have HT6 : Hid (V3 w11 T (.int .i64 ptag) (.slice ai pcs.length ci) (.slice ap2 pys.length co2)) := HT5.out.grown hsq.bl
            have HR6 : Hid (V3 w11 R (.int .i64 0) (.slice none 0 0) (.slice none 0 0)) := HR5.out.grown hsq.bl
            have HFT : Hid (Fr (fun k => k = T) w11 (w11.setCell ⟨T, 1, none⟩ (.slice a9 L.length c9))) := (Fr.refl _ w11).set T 1 _ (fun _ => rfl)
            have HT7 : Hid (V3 (w11.setCell ⟨T, 1, none⟩ (.slice a9 L.length c9)) T (.int .i64 ptag) (.slice a9 L.length c9) (.slice ap2 pys.length co2)) := HT6.out.s1 _
            have HR7 : Hid (V3 (w11.setCell ⟨T, 1, none⟩ (.slice a9 L.length c9)) R (.int .i64 0) (.slice none 0 0) (.slice none 0 0)) := HR6.out.fr HFT.out (by omega)
            have HVF : Hid (V3 ((((w11.setCell ⟨T, 1, none⟩ (.slice a9 L.length c9)).setCell ⟨R, 0, none⟩ (.int .i64 ptag)).setCell ⟨R, 1, none⟩ (.slice a9 L.length c9)).setCell ⟨R, 2, none⟩ (.slice ap2 pys.length co2)) R (.int .i64 ptag) (.slice a9 L.length c9) (.slice ap2 pys.length co2)) := ((HR7.out.s0 _).s1 _).s2 _
            have HFF : Hid (Fr (fun k => k = T ∨ k = R) w11 ((((w11.setCell ⟨T, 1, none⟩ (.slice a9 L.length c9)).setCell ⟨R, 0, none⟩ (.int .i64 ptag)).setCell ⟨R, 1, none⟩ (.slice a9 L.length c9)).setCell ⟨R, 2, none⟩ (.slice ap2 pys.length co2))) := frTR w11 T R _ _ _ _
            have HSG : Hid (SgTx w.heap.size s ⟨pn, pac, pnc, pcc, pap, pm, pd, ptag, false, pcs, pys⟩ (.slice a9 L.length c9) (.slice ap2 pys.length co2) L ((((w11.setCell ⟨T, 1, none⟩ (.slice a9 L.length c9)).setCell ⟨R, 0, none⟩ (.int .i64 ptag)).setCell ⟨R, 1, none⟩ (.slice a9 L.length c9)).setCell ⟨R, 2, none⟩ (.slice ap2 pys.length co2))) := SgTx.fin (p := ⟨pn, pac, pnc, pcc, pap, pm, pd, ptag, false, pcs, pys⟩) (by rw [HPI.out]; exact hsq) hfst (HOO5.out.grown hsq.bl) HVO.out HT10l.out hT3 hT2 hT4 (by have := HT10l.out; omega) HFF.out
            have HSF : Hid (SgL N b o base (.slice (some ⟨gl, 0, none⟩) ps.length cl) vs vs' md nx ps (ps.set j (ps.getD j dP).on) ks (addKeysZ ks pcs) w ((((w11.setCell ⟨T, 1, none⟩ (.slice a9 L.length c9)).setCell ⟨R, 0, none⟩ (.int .i64 ptag)).setCell ⟨R, 1, none⟩ (.slice a9 L.length c9)).setCell ⟨R, 2, none⟩ (.slice ap2 pys.length co2)) (fun q => (Value.slice a9 L.length c9).ownBlock ≠ some q ∧ (Value.slice ap2 pys.length co2).ownBlock ≠ some q ∧ ∀ p ∈ L, p.2 ≠ q)) := SgL.fin HL.out HB8.out HF9.out HSL.out hsq HVO.out HT8l.out hT2 (by have := HRe.out; omega) HFF.out
            obtain ⟨t0, t1, t2, tz⟩ := HT6.out
            have ft := tz 1
            obtain ⟨r0, r1, r2, rz⟩ := HR6.out
            have fr0 := rz 0
            have fr1 := rz 1
            have fr2 := rz 2
            clear tz rz hsq hfst
            have hRT : ¬ (R = T) := by omega
            go_upto_region 15 with fail
            clear t0 t1 t2 ft r0 r1 r2 fr0 fr1 fr2 HFT HT6 HR6
            generalize w11.setCell ⟨T, 1, none⟩ (.slice a9 L.length c9) = w12 at *
            obtain ⟨t0, t1, t2, _⟩ := HT7.out
            obtain ⟨r0, r1, r2, rz⟩ := HR7.out
            have fr0 := rz 0
            have fr1 := rz 1
            have fr2 := rz 2
            clear rz
            repeat (first | go_values | go_skip | go_guarded | go_step | go_upon)
            obtain ⟨z0, z1, z2, _⟩ := HVF.out
            refine bodyPost_ret (v := .tuple #[.agg #[.int .i64 ptag, .slice a9 L.length c9, .slice ap2 pys.length co2], .int .i64 0]) ?_ rfl ⟨_, _, _, _, rfl, Or.inr ⟨j, L, HZ.out, hj, rfl, by rw [HPE.out], by rw [HPE.out]; exact HSG.out, Or.inr ⟨by rw [HPE.out], vs', by rw [show (ps.getD j dP).cs = pcs by rw [HPE.out]]; exact HSF.out⟩⟩⟩
            simp [results, Tryz.results35, go_sem, z0, z1, z2]
          · have HZ : Hid (signZ xs ps ks n = .inl 13) := by show _ = _; rw [HPS.out, if_neg (fun e => ?_), if_pos ⟨by first | trivial | rfl, hk⟩]; rcases e.2 with e | e; (rw [HPI.out, hh] at e; cases e); (rw [ha] at e; cases e)
            obtain ⟨q0, q1, q2, qz⟩ := HR8.out
            have f0 := qz 0
            have f1 := qz 1
            have f2 := qz 2
            have HVF : Hid (V3 (((w8.setCell ⟨R, 0, none⟩ (.int .i64 0)).setCell ⟨R, 1, none⟩ (.slice none 0 0)).setCell ⟨R, 2, none⟩ (.slice none 0 0)) R (.int .i64 0) (.slice none 0 0) (.slice none 0 0)) := ((HR8.out.s0 _).s1 _).s2 _
            have HBF : Hid (Below w.heap.size w (((w8.setCell ⟨R, 0, none⟩ (.int .i64 0)).setCell ⟨R, 1, none⟩ (.slice none 0 0)).setCell ⟨R, 2, none⟩ (.slice none 0 0))) := HB8.out.trans ((fr3K w8 R _ _ _).toBelow _ HB8.out.size (fun q hq => by rw [hq, HRe.out]; exact Nat.le_refl _))
            clear qz
            go_upto_region 11 with fail
            repeat (first | go_values | go_skip | go_guarded | go_step | go_upon)
            obtain ⟨z0, z1, z2, _⟩ := HVF.out
            refine bodyPost_ret (v := .tuple #[.agg #[.int .i64 0, .slice none 0 0, .slice none 0 0], .int .i64 13]) ?_ rfl ⟨_, _, _, _, rfl, Or.inl ⟨13, HZ.out, rfl, rfl, rfl, rfl, HBF.out⟩⟩
            simp [results, Tryz.results35, go_sem, z0, z1, z2]
      · have HZ : Hid (signZ xs ps ks n = .inl 12) := by show _ = _; rw [HPS.out, if_pos ⟨by first | trivial | rfl, Or.inl (by rw [HPI.out]; exact hh)⟩]
        obtain ⟨q0, q1, q2, qz⟩ := HR6.out
        have f0 := qz 0
        have f1 := qz 1
        have f2 := qz 2
        have HVF : Hid (V3 (((w6.setCell ⟨R, 0, none⟩ (.int .i64 0)).setCell ⟨R, 1, none⟩ (.slice none 0 0)).setCell ⟨R, 2, none⟩ (.slice none 0 0)) R (.int .i64 0) (.slice none 0 0) (.slice none 0 0)) := ((HR6.out.s0 _).s1 _).s2 _
        have HBF : Hid (Below w.heap.size w (((w6.setCell ⟨R, 0, none⟩ (.int .i64 0)).setCell ⟨R, 1, none⟩ (.slice none 0 0)).setCell ⟨R, 2, none⟩ (.slice none 0 0))) := HB6.out.trans ((fr3K w6 R _ _ _).toBelow _ HB6.out.size (fun q hq => by rw [hq, HRe.out]; exact Nat.le_refl _))
        clear qz
        go_upto_region 9 with fail
        repeat (first | go_values | go_skip | go_guarded | go_step | go_upon)
        obtain ⟨z0, z1, z2, _⟩ := HVF.out
        refine bodyPost_ret (v := .tuple #[.agg #[.int .i64 0, .slice none 0 0, .slice none 0 0], .int .i64 12]) ?_ rfl ⟨_, _, _, _, rfl, Or.inl ⟨12, HZ.out, rfl, rfl, rfl, rfl, HBF.out⟩⟩
        simp [results, Tryz.results35, go_sem, z0, z1, z2]
    · go_wp2_with fail
      refine (sealedIns_any pac pnc pcc pcs s id0 _ HP5.out.co HP5.out.cl (by have := HP5.out.b1; simp only at this; omega) HPK.out HID.out).mono ?_
      rintro e w6 ⟨v, L, rfl, hfst, hsq⟩
      obtain ⟨a9, c9, e9, _⟩ := OwnRec.at sn3 hsq.own
      subst e9
      obtain ⟨hT1, hT2, hT3, hT4, hT5⟩ := HTe.out
      have HT6 : Hid (V3 w6 T (.int .i64 ptag) (.slice ai pcs.length ci) (.slice ap2 pys.length co2)) := HT5.out.grown hsq.bl
      have HR6 : Hid (V3 w6 R (.int .i64 0) (.slice none 0 0) (.slice none 0 0)) := HR5.out.grown hsq.bl
      have HFT : Hid (Fr (fun k => k = T) w6 (w6.setCell ⟨T, 1, none⟩ (.slice a9 L.length c9))) := (Fr.refl _ w6).set T 1 _ (fun _ => rfl)
      have HT7 : Hid (V3 (w6.setCell ⟨T, 1, none⟩ (.slice a9 L.length c9)) T (.int .i64 ptag) (.slice a9 L.length c9) (.slice ap2 pys.length co2)) := HT6.out.s1 _
      have HR7 : Hid (V3 (w6.setCell ⟨T, 1, none⟩ (.slice a9 L.length c9)) R (.int .i64 0) (.slice none 0 0) (.slice none 0 0)) := HR6.out.fr HFT.out (by omega)
      have HVF : Hid (V3 ((((w6.setCell ⟨T, 1, none⟩ (.slice a9 L.length c9)).setCell ⟨R, 0, none⟩ (.int .i64 ptag)).setCell ⟨R, 1, none⟩ (.slice a9 L.length c9)).setCell ⟨R, 2, none⟩ (.slice ap2 pys.length co2)) R (.int .i64 ptag) (.slice a9 L.length c9) (.slice ap2 pys.length co2)) := ((HR7.out.s0 _).s1 _).s2 _
      have HFF : Hid (Fr (fun k => k = T ∨ k = R) w6 ((((w6.setCell ⟨T, 1, none⟩ (.slice a9 L.length c9)).setCell ⟨R, 0, none⟩ (.int .i64 ptag)).setCell ⟨R, 1, none⟩ (.slice a9 L.length c9)).setCell ⟨R, 2, none⟩ (.slice ap2 pys.length co2))) := frTR w6 T R _ _ _ _
      have HSG : Hid (SgTx w.heap.size s ⟨pn, pac, pnc, pcc, pap, pm, pd, ptag, true, pcs, pys⟩ (.slice a9 L.length c9) (.slice ap2 pys.length co2) L ((((w6.setCell ⟨T, 1, none⟩ (.slice a9 L.length c9)).setCell ⟨R, 0, none⟩ (.int .i64 ptag)).setCell ⟨R, 1, none⟩ (.slice a9 L.length c9)).setCell ⟨R, 2, none⟩ (.slice ap2 pys.length co2))) := SgTx.fin (p := ⟨pn, pac, pnc, pcc, pap, pm, pd, ptag, true, pcs, pys⟩) (by rw [HPI.out]; exact hsq) hfst (HOO5.out.grown hsq.bl) HVO.out HT5l.out hT3 hT2 hT4 (by have := HT5l.out; omega) HFF.out
      have HBF : Hid (Below w.heap.size w ((((w6.setCell ⟨T, 1, none⟩ (.slice a9 L.length c9)).setCell ⟨R, 0, none⟩ (.int .i64 ptag)).setCell ⟨R, 1, none⟩ (.slice a9 L.length c9)).setCell ⟨R, 2, none⟩ (.slice ap2 pys.length co2))) := by
        have h1 := below_blk HB5.out hsq.bl
        refine h1.trans (HFF.out.toBelow _ h1.size (fun q hq => ?_))
        have := HRe.out
        rcases hq with e | e <;> omega
      have HZ : Hid (signZ xs ps ks n = .inr j) := by show _ = _; rw [HPS.out, if_neg (by simp), if_neg (by simp)]
      obtain ⟨t0, t1, t2, tz⟩ := HT6.out
      have ft := tz 1
      obtain ⟨r0, r1, r2, rz⟩ := HR6.out
      have fr0 := rz 0
      have fr1 := rz 1
      have fr2 := rz 2
      clear tz rz hsq hfst
      have hRT : ¬ (R = T) := by omega
      go_upto_region 15 with fail
      clear t0 t1 t2 ft r0 r1 r2 fr0 fr1 fr2 HFT HT6 HR6
      generalize w6.setCell ⟨T, 1, none⟩ (.slice a9 L.length c9) = w7 at *
      obtain ⟨t0, t1, t2, _⟩ := HT7.out
      obtain ⟨r0, r1, r2, rz⟩ := HR7.out
      have fr0 := rz 0
      have fr1 := rz 1
      have fr2 := rz 2
      clear rz
      repeat (first | go_values | go_skip | go_guarded | go_step | go_upon)
      obtain ⟨z0, z1, z2, _⟩ := HVF.out
      refine bodyPost_ret (v := .tuple #[.agg #[.int .i64 ptag, .slice a9 L.length c9, .slice ap2 pys.length co2], .int .i64 0]) ?_ rfl ⟨_, _, _, _, rfl, Or.inr ⟨j, L, HZ.out, hj, rfl, by rw [HPE.out], by rw [HPE.out]; exact HSG.out, Or.inl ⟨by rw [HPE.out], HBF.out⟩⟩⟩
      simp [results, Tryz.results35, go_sem, z0, z1, z2]
end Go.Proofs.YtffgpepngcnjeabGreatQ

namespace Go.Proofs.YtffgpepngcnjeabGreatQ
open Go.RowKit
variable {N : Nat → Prop} {b o base : Nat} {vl vs : Value} {md nx : Int} {ps : List PayD} {ks : List (Int × Int)} {xs : List Cel} {s n : Int} {v0 v1 v2 : Value} {er : Int} {w w' : World}
theorem SignOk.fr (h : SignOk N b o base vl vs md nx ps ks xs s n v0 v1 v2 er w w') : Fr (fun q => q = b ∨ vl.ownBlock = some q ∨ vs.ownBlock = some q) w w' := by
  rcases h with ⟨x, _, _, _, _, _, h6⟩ | ⟨j, L, _, _, _, _, _, ⟨_, h7⟩ | ⟨_, vs', h8⟩⟩
  · exact Fr.of_below h6 _
  · exact Fr.of_below h7 _
  · exact h8.fr
theorem SignOk.cell (h : SignOk N b o base vl vs md nx ps ks xs s n v0 v1 v2 er w w') {i : Nat} {u : Value} (hi : i ≠ o + 1) (hu : w.cell? ⟨b, i, none⟩ = some u) : w'.cell? ⟨b, i, none⟩ = some u := by
  rcases h with ⟨x, _, _, _, _, _, h6⟩ | ⟨j, L, _, _, _, _, _, ⟨_, h7⟩ | ⟨_, vs', h8⟩⟩
  · exact (h6.cell (p := ⟨b, i, none⟩) (cell_lt hu)).trans hu
  · exact (h7.cell (p := ⟨b, i, none⟩) (cell_lt hu)).trans hu
  · exact h8.cl i u hi hu
theorem SignOk.vals (h : SignOk N b o base vl vs md nx ps ks xs s n v0 v1 v2 er w w') : ∃ t ai ni ci ap np cp, v0 = .int .i64 t ∧ v1 = .slice ai ni ci ∧ v2 = .slice ap np cp := by
  rcases h with ⟨x, _, _, h3, h4, h5, _⟩ | ⟨j, L, _, _, _, h4, h5, _⟩
  · exact ⟨_, _, _, _, _, _, _, h3, h4, h5⟩
  · obtain ⟨ai, ci, e1, _⟩ := OwnRec.at sn3 h5.own
    obtain ⟨ap, cp, e2, _⟩ := OwnRec.at kv2 h5.oo
    exact ⟨_, _, _, _, _, _, _, h4, e1, e2⟩
theorem SgTx.move {p : PayD} {vi vo : Value} {L : List (CoinD × Nat)} {B0 B1 R : Nat} {w2 : World} (h : SgTx B1 s p vi vo L w') (hb : B0 ≤ B1) (hR : R < B1) (hf : Fr (fun k => k = R) w' w2) : SgTx B0 s p vi vo L w2 := by
  refine ⟨h.fst, owns_lower (hf.own h.own (fun k hk e => ?_)) hb, fun q hq => ?_, h.nv, h.nd, owns_lower (hf.own h.oo (fun k hk e => ?_)) hb, h.ne⟩
  · have := (h.own.blk k hk).1; omega
  · obtain ⟨h1, h2, h3, h4⟩ := h.row q hq
    exact ⟨fun j hj => hf.cell (h1 j hj) (by omega), fun j hj => (hf.frozen h4 (by omega)).trans (h2 j hj), by omega, Nat.lt_of_lt_of_le h4 hf.size⟩
  · have := (h.oo.blk k hk).1; omega
theorem SignOk.lift {w0 w1 w2 : World} {R : Nat} (hr : SignOk N b o base vl vs md nx ps ks xs s n v0 v1 v2 er w0 w1) (hL : LsAt N w b o base vl vs md nx ps ks) (hb : Below w.heap.size w w0) (hR : w.heap.size ≤ R) (hR2 : R < w0.heap.size) (hf : Fr (fun k => k = R) w1 w2) : SignOk N b o base vl vs md nx ps ks xs s n v0 v1 v2 er w w2 := by
  have hsz := hb.size
  rcases hr with ⟨x, h1, h2, h3, h4, h5, h6⟩ | ⟨j, L, h1, hj, h2, h3, h4, h5⟩
  · refine Or.inl ⟨x, h1, h2, h3, h4, h5, ?_⟩
    have h10 : Below w.heap.size w w1 := hb.trans (h6.mono hsz)
    exact h10.trans (hf.toBelow _ h10.size (fun q hq => by rw [hq]; exact hR))
  · refine Or.inr ⟨j, L, h1, hj, h2, h3, h4.move hsz hR2 hf, ?_⟩
    rcases h5 with ⟨h5, h6⟩ | ⟨h5, vs', h6⟩
    · refine Or.inl ⟨h5, ?_⟩
      have h10 : Below w.heap.size w w1 := hb.trans (h6.mono hsz)
      exact h10.trans (hf.toBelow _ h10.size (fun q hq => by rw [hq]; exact hR))
    · have hbl : b < w.heap.size := cell_lt hL.c0
      refine Or.inr ⟨h5, vs', h6.ls.fr hf (fun k hk e => ?_) (fun k hk e => ?_), frNewQ ((Fr.of_below hb _).trans h6.fr) hf (fun q hq => by rw [hq]; exact hR), fun q hq => ?_, fun i u hi hu => ?_⟩
      · rcases hk with hk | hk | hk
        · omega
        · have := (hL.ol.blk k hk).2; omega
        · rcases h6.nw k hk with h7 | h7
          · have := (hL.os.blk k h7).2; omega
          · omega
      · have := (hL.nN k hk).1; omega
      · rcases h6.nw q hq with h7 | h7
        · exact Or.inl h7
        · exact Or.inr ⟨by omega, h7.2⟩
      · exact hf.cell (h6.cl i u hi ((hb.cell (p := ⟨b, i, none⟩) hbl).trans hu)) (by omega)
theorem keepR3 {w : World} {P R i : Nat} {x : Value} (u0 u1 u2 : Value) (hne : P ≠ R) (h : w.cell? ⟨P, i, none⟩ = some x) : (((w.setCell ⟨R, 0, none⟩ u0).setCell ⟨R, 1, none⟩ u1).setCell ⟨R, 2, none⟩ u2).cell? ⟨P, i, none⟩ = some x := (fr3K w R u0 u1 u2).cell h hne
set_option maxRecDepth 100000 in
set_option maxHeartbeats 4000000 in
theorem pSign_any (N : Nat → Prop) (P : Nat) (vl vs : Value) (md nx : Int) (ps : List PayD) (ks : List (Int × Int)) (ao : Option Addr) (nn cx : Nat) (xs : List Cel) (s n : Int) (w : World) (hL : LsAt N w P 4 (P + 1) vl vs md nx ps ks) (hpl : ps.length ≤ 1000000000000) (hkl : ks.length ≤ 20000000) (hp0 : w.cell? ⟨P, 0, none⟩ = some (.int .i64 s)) (hcc : w.cell? ⟨P, 2, none⟩ = some (.slice ao nn cx)) (hcx : CelsAt w ao xs) (hcn : xs.length = nn) (hcm : nn ≤ 1000000) (hpm : ∀ p ∈ ps, 0 < p.m) (hkk : ∀ p ∈ ps, ∀ x ∈ p.cs, Mk.isK s x.br x.ix = true) :
    Calls Tryz.prog 13 #[.pointer (some ⟨P, 0, none⟩), .int .i64 n] w fun e w' => ∃ v0 v1 v2 er, e = .returned (.tuple #[.agg #[v0, v1, v2], .int .i64 er]) ∧ SignOk N P 4 (P + 1) vl vs md nx ps ks xs s n v0 v1 v2 er w w' := by
  have HL : Hid (LsAt N w P 4 (P + 1) vl vs md nx ps ks) := hL
  have HXN : Hid (xs.length = nn) := hcn
  have HPM : Hid (∀ p ∈ ps, 0 < p.m) := hpm
  have HKK : Hid (∀ p ∈ ps, ∀ x ∈ p.cs, Mk.isK s x.br x.ix = true) := hkk
  have hPl : P < w.heap.size := cell_lt hp0
  have bA : Below w.heap.size w ((w.alloc (.cells #[.int .i64 0, .slice none 0 0, .slice none 0 0] 35)).drew) := ((Below.refl _ _).alloc (Nat.le_refl _) _).drew
  have HB0 : Hid (Below w.heap.size w ((w.alloc (.cells #[.int .i64 0, .slice none 0 0, .slice none 0 0] 35)).drew)) := bA
  have HR0 : Hid (V3 ((w.alloc (.cells #[.int .i64 0, .slice none 0 0, .slice none 0 0] 35)).drew) w.heap.size (.int .i64 0) (.slice none 0 0) (.slice none 0 0)) := (V3.new w _ _ _ 35).grown (Below.refl _ _).drew
  have HL0 : Hid (LsAt N ((w.alloc (.cells #[.int .i64 0, .slice none 0 0, .slice none 0 0] 35)).drew) P 4 (P + 1) vl vs md nx ps ks) := hL.grown bA
  have HX0 : Hid (CelsAt ((w.alloc (.cells #[.int .i64 0, .slice none 0 0, .slice none 0 0] 35)).drew) ao xs) := hcx.grown bA
  have HC0 : Hid (((w.alloc (.cells #[.int .i64 0, .slice none 0 0, .slice none 0 0] 35)).drew).cell? ⟨P, 2, none⟩ = some (.slice ao nn cx)) := (bA.cell (p := ⟨P, 2, none⟩) hPl).trans hcc
  have HS0 : Hid (((w.alloc (.cells #[.int .i64 0, .slice none 0 0, .slice none 0 0] 35)).drew).cell? ⟨P, 0, none⟩ = some (.int .i64 s)) := (bA.cell (p := ⟨P, 0, none⟩) hPl).trans hp0
  have x0 : (w.alloc (.cells #[.int .i64 0, .slice none 0 0, .slice none 0 0] 35)).cell? ⟨P, 0, none⟩ = some (.int .i64 s) := (((Below.refl w.heap.size w).alloc (Nat.le_refl _) _).cell (p := ⟨P, 0, none⟩) hPl).trans hp0
  have hsz0 : P + 1 ≤ ((w.alloc (.cells #[.int .i64 0, .slice none 0 0, .slice none 0 0] 35)).drew).heap.size := by have := bA.size; omega
  have hR0 : w.heap.size < ((w.alloc (.cells #[.int .i64 0, .slice none 0 0, .slice none 0 0] 35)).drew).heap.size := cell_lt HR0.out.c0
  clear hL hcx hcn hcc hpm hkk bA hp0
  go_enter Tryz.func13, Tryz.ntmps13
  go_upto_region 1 with fail
  generalize w.alloc (.cells #[.int .i64 0, .slice none 0 0, .slice none 0 0] 35) = w0 at *
  generalize hR : w.heap.size = R at *
  have HRe : Hid (w.heap.size = R) := hR
  clear hR
  have hPR : P ≠ R := by omega
  go_region_held3 (fun w' => w'.cell? ⟨P, 0, none⟩ = some (.int .i64 s)) (first | go_keep | with_reducible exact HS0.out | with_reducible exact hS2w | with_reducible exact keepR3 _ _ _ hPR hS2w) ((go_at_call 35; (with_reducible refine (lSign_any N P 4 (P + 1) vl vs md nx ps ks P 2 ao nn cx xs s n w0.drew HL0.out hsz0 hpl hkl HC0.out HX0.out HXN.out hcm HPM.out HKK.out).mono ?_); rintro e w1 ⟨v0, v1, v2, er, rfl, hsg⟩; obtain ⟨t, ai, ni, ci, ap, np, cp, rfl, rfl, rfl⟩ := hsg.vals; have HSG : Hid (SignOk N P 4 (P + 1) vl vs md nx ps ks xs s n (.int .i64 t) (.slice ai ni ci) (.slice ap np cp) er w0.drew w1) := hsg; have hS2w := hsg.cell (i := 0) (by omega) HS0.out; have hRw := HR0.out.fr hsg.fr (by have h1 := HL.out.ol.blk R; have h2 := HL.out.os.blk R; have h3 := HRe.out; intro e; rcases e with e | e | e; (exact hPR e.symm); (have := (h1 e).2; omega); (have := (h2 e).2; omega)); obtain ⟨q0, q1, q2, qz⟩ := hRw; have f0 := qz 0; have f1 := qz 1; have f2 := qz 2; clear qz hsg))
  have HRP : ¬ (R = P ∨ vl.ownBlock = some R ∨ vs.ownBlock = some R) := fun e => by
    have h3 := HRe.out
    rcases e with e | e | e
    · exact hPR e.symm
    · have := (HL.out.ol.blk R e).2; omega
    · have := (HL.out.os.blk R e).2; omega
  have HVF : Hid (V3 (((w1.setCell ⟨R, 0, none⟩ (.int .i64 t)).setCell ⟨R, 1, none⟩ (.slice ai ni ci)).setCell ⟨R, 2, none⟩ (.slice ap np cp)) R (.int .i64 t) (.slice ai ni ci) (.slice ap np cp)) := (((HR0.out.fr HSG.out.fr HRP).s0 _).s1 _).s2 _
  have HLF : Hid (SignOk N P 4 (P + 1) vl vs md nx ps ks xs s n (.int .i64 t) (.slice ai ni ci) (.slice ap np cp) er w (((w1.setCell ⟨R, 0, none⟩ (.int .i64 t)).setCell ⟨R, 1, none⟩ (.slice ai ni ci)).setCell ⟨R, 2, none⟩ (.slice ap np cp))) := HSG.out.lift HL.out (by rw [HRe.out]; exact HB0.out) (by rw [HRe.out]; exact Nat.le_refl _) hR0 (fr3K w1 R _ _ _)
  repeat (first | go_values | go_skip | go_guarded | go_step | go_upon)
  obtain ⟨z0, z1, z2, _⟩ := HVF.out
  refine bodyPost_ret (v := .tuple #[.agg #[.int .i64 t, .slice ai ni ci, .slice ap np cp], .int .i64 er]) ?_ rfl ⟨_, _, _, _, rfl, HLF.out⟩
  simp [results, Tryz.results13, go_sem, z0, z1, z2]
end Go.Proofs.YtffgpepngcnjeabGreatQ

namespace Go.Proofs.YtffgpepngcnjeabGreatQ
open Go.RowKit
/-- is there a coin of this name? -/
def namedB (cs : List CoinD) (id pos : Int) : Bool := cs.any fun x => x.id == id && x.pos == pos
set_option maxRecDepth 100000 in
set_option maxHeartbeats 1000000 in
theorem named_any (ao : Option Addr) (n c : Nat) (cs : List CoinD) (id pos : Int) (w : World) (hx : RecAt CoinD.l w ao cs) (hn : cs.length = n) (hm : n ≤ 9007199254740992) :
    Calls Tryz.prog 98 #[.slice ao n c, .int .i64 id, .int .i64 pos] w fun e w' => e = .returned (.bool (namedB cs id pos)) ∧ Below w.heap.size w w' := by
  have HN : Hid (cs.length = n) := hn
  have HX : Hid (RecAt CoinD.l w ao cs) := hx
  clear hn hx
  go_enter Tryz.func98, Tryz.ntmps98
  go_wp2
  go_loopw [7] (fun i wr => ∃ k : Nat, k ≤ n ∧ i = .int .i64 k ∧ Hid ((cs.take k).any (fun x => x.id == id && x.pos == pos) = false) ∧ Below w.heap.size w wr) (fun i _ => n - (intOf i).toNat)
  case atStart => exact ⟨0, Nat.zero_le _, rfl, by show List.any _ _ = false; simp, Below.refl _ _⟩
  case round =>
    obtain ⟨k, hk, rfl, hany, hbl⟩ := hrel
    by_cases hlt : k < n
    · have hkl : k < cs.length := by rw [HN.out]; exact hlt
      rcases HX.out.grown hbl with hnil | ⟨gg, off, rfl, hrow⟩
      · rw [hnil] at hkl; simp at hkl
      obtain ⟨c0, c1, c2, c3, c4, c5⟩ := coinCells hrow k hkl
      have HS : Hid _ := any_no (fun x : CoinD => x.id == id && x.pos == pos) cs dN k hkl hany.out
      have HZ : Hid _ := any_yes (fun x : CoinD => x.id == id && x.pos == pos) cs dN k hkl
      clear hrow c2 c3 c4 c5
      generalize cs.getD k dN = y at *
      obtain ⟨y0, y1, y2, y3, y4, y5⟩ := y
      simp only at c0 c1
      have hkI : (k : Int) < (n : Int) := by omega
      have hk0 : (0 : Int) ≤ (k : Int) := by omega
      cases h1 : (y0 == id)
      · go_wp2
        go_roundw
        case rel => exact ⟨k + 1, by omega, by go_num, HS.out (by simp [h1]), hbl⟩
        case measure => simp [intOf]; omega
      · cases h2 : (y1 == pos)
        · go_wp2
          go_roundw
          case rel => exact ⟨k + 1, by omega, by go_num, HS.out (by simp [h2]), hbl⟩
          case measure => simp [intOf]; omega
        · go_wp2
          go_ret
          exact ⟨ret_bool (HZ.out (by show (y0 == id && y1 == pos) = true; rw [h1, h2]; rfl)).symm, hbl⟩
    · go_wp2
      go_ret
      exact ⟨ret_bool (any_done _ cs n HN.out k (by omega) hany.out), hbl⟩
theorem keepN4 {w w' : World} {a b : Nat} {p q r : Nat} {x y z : Value} (hb : Below w.heap.size w w') (h : w.cell? ⟨a, p, none⟩ = some x ∧ w.cell? ⟨b, q, none⟩ = some y ∧ w.cell? ⟨b, r, none⟩ = some z) : w'.cell? ⟨a, p, none⟩ = some x ∧ w'.cell? ⟨b, q, none⟩ = some y ∧ w'.cell? ⟨b, r, none⟩ = some z :=
  ⟨(hb.cell (p := ⟨a, p, none⟩) (cell_lt h.1)).trans h.1, (hb.cell (p := ⟨b, q, none⟩) (cell_lt h.2.1)).trans h.2.1, (hb.cell (p := ⟨b, r, none⟩) (cell_lt h.2.2)).trans h.2.2⟩
set_option maxRecDepth 100000 in
set_option maxHeartbeats 2000000 in
theorem spent_any (ao : Option Addr) (n c : Nat) (cs : List CoinD) (t : Int) (ai : Option Addr) (ni ci : Nat) (ap : Option Addr) (np cp : Nat) (is : List InD) (w : World) (hx : RecAt CoinD.l w ao cs) (hn : cs.length = n) (hm : n ≤ 9007199254740992) (hi : InsAt w ai is) (hin : is.length = ni) (him : ni ≤ 1000) :
    Calls Tryz.prog 45 #[.slice ao n c, .agg #[.int .i64 t, .slice ai ni ci, .slice ap np cp]] w fun e w' => e = .returned (.bool (!(is.any fun i => namedB cs i.id i.pos))) ∧ Below w.heap.size w w' := by
  have HN : Hid (cs.length = n) := hn
  have HIN : Hid (is.length = ni) := hin
  have bA : Below w.heap.size w (w.alloc (.cells #[.int .i64 t, .slice ai ni ci, .slice ap np cp] 35)) := (Below.refl _ _).alloc (Nat.le_refl _) _
  have HX : Hid (RecAt CoinD.l (w.alloc (.cells #[.int .i64 t, .slice ai ni ci, .slice ap np cp] 35)) ao cs) := hx.grown bA
  have HI : Hid (InsAt (w.alloc (.cells #[.int .i64 t, .slice ai ni ci, .slice ap np cp] 35)) ai is) := hi.grown bA
  have HB : Hid (Below w.heap.size w (w.alloc (.cells #[.int .i64 t, .slice ai ni ci, .slice ap np cp] 35))) := bA
  have x1 : (w.alloc (.cells #[.int .i64 t, .slice ai ni ci, .slice ap np cp] 35)).cell? ⟨w.heap.size, 1, none⟩ = some (.slice ai ni ci) := by go_simp
  clear hn hx hi hin bA
  go_enter Tryz.func45, Tryz.ntmps45
  go_upto_region 1 with fail
  generalize w.alloc (.cells #[.int .i64 t, .slice ai ni ci, .slice ap np cp] 35) = w0 at *
  generalize hT : w.heap.size = T at *
  have HTe : Hid (w.heap.size = T) := hT
  clear hT
  have hTl : T < w0.heap.size := cell_lt x1
  go_wp2
  go_loopw [5] (fun i wr => ∃ k : Nat, k ≤ ni ∧ i = .int .i64 k ∧ Hid ((is.take k).any (fun i => namedB cs i.id i.pos) = false) ∧ Below w0.heap.size w0 wr) (fun i _ => ni - (intOf i).toNat)
  case atStart => exact ⟨0, Nat.zero_le _, rfl, by show List.any _ _ = false; simp, Below.refl _ _⟩
  case round =>
    obtain ⟨k, hk, rfl, hany, hbl⟩ := hrel
    have y1 := (hbl.cell (p := ⟨T, 1, none⟩) hTl).trans x1
    have hbw : Below T w wr := HB.out.trans (hbl.mono (by omega))
    by_cases hlt : k < ni
    · have hkl : k < is.length := by rw [HIN.out]; exact hlt
      rcases HI.out.grown hbl with hnil | ⟨gg, off, rfl, hrow⟩
      · rw [hnil] at hkl; simp at hkl
      obtain ⟨i0, i1, _⟩ := (hrow k hkl).1
      have HS : Hid _ := any_no (fun i : InD => namedB cs i.id i.pos) is dIn k hkl hany.out
      have HZ : Hid _ := any_yes (fun i : InD => namedB cs i.id i.pos) is dIn k hkl
      clear hrow
      generalize is.getD k dIn = y at *
      obtain ⟨z0, z1, z2, z3, z4, z5⟩ := y
      simp only at i0 i1 HS HZ
      have hkI : (k : Int) < (ni : Int) := by omega
      have hk0 : (0 : Int) ≤ (k : Int) := by omega
      have bD : Below wr.heap.size wr wr.drew := (Below.refl _ _).drew
      have HXd : Hid (RecAt CoinD.l wr.drew ao cs) := HX.out.grown (below_blk hbl bD)
      have HKX : Hid (wr.drew.cell? ⟨T, 1, none⟩ = some (.slice (some ⟨gg, off, none⟩) ni ci) ∧ wr.drew.cell? ⟨gg, off + k * 3, none⟩ = some (.int .i64 z0) ∧ wr.drew.cell? ⟨gg, off + k * 3 + 1, none⟩ = some (.int .i64 z1)) := ⟨y1, i0, i1⟩
      have HBd : Hid (Below w0.heap.size w0 wr.drew) := below_blk hbl bD
      clear bD
      go_upto_region 4 with fail
      go_region_held3 (fun w' => w'.cell? ⟨T, 1, none⟩ = some (.slice (some ⟨gg, off, none⟩) ni ci) ∧ w'.cell? ⟨gg, off + k * 3, none⟩ = some (.int .i64 z0) ∧ w'.cell? ⟨gg, off + k * 3 + 1, none⟩ = some (.int .i64 z1)) (first | go_keep | with_reducible exact HKX.out | exact keepN4 hb3 HKX.out) ((go_at_call 98; (with_reducible refine (named_any ao n c cs z0 z1 wr.drew HXd.out HN.out hm).mono ?_); rintro e w3 ⟨rfl, hb3⟩))
      have hb03 := below_blk HBd.out hb3
      have HBF : Hid (Below T w w3) := HB.out.trans (hb03.mono (by omega))
      cases hv : namedB cs z0 z1
      · go_wp2
        go_roundw
        case rel => exact ⟨k + 1, by omega, by go_num, HS.out hv, hb03⟩
        case measure => simp [intOf]; omega
      · have HE : Hid (is.any (fun i => namedB cs i.id i.pos) = true) := HZ.out hv
        go_wp2
        go_ret
        exact ⟨ret_bool (by rw [HE.out]; rfl), by rw [HTe.out]; exact HBF.out⟩
    · have HE : Hid (is.any (fun i => namedB cs i.id i.pos) = false) := (any_done _ is ni HIN.out k (by omega) hany.out).symm
      go_wp2
      go_ret
      exact ⟨ret_bool (by rw [HE.out]; rfl), by rw [HTe.out]; exact hbw⟩
end Go.Proofs.YtffgpepngcnjeabGreatQ
