import Derived.Test.YtffgpepngcnjeabGreatSbe
namespace Go.Proofs.YtffgpepngcnjeabGreat
set_option maxRecDepth 100000
set_option maxHeartbeats 1000000
section
open Go.RowKit
variable {b0 z g q G P D Dr nx K K2 o base ni ci np cp mi di mp dp m : Nat} {b1 b : DgP} {s er n md1 nx1 er2 md k t t2 : Int} {ps : List PayD} {C C' E N M Nd Lx : NPr} {v0 v1 v2 u0 u1 u2 vl vs vm v a0 a2 : Value} {w w' w1 w3 wx wy w9 w0 w1' w2 : World} {col : NtN} {a a1 : PgP} {ms : List MadeD} {ks : LII} {xs : List Cel} {bls : List (List TxD)} {ai ap bi bp : OAd}
def colS (col : NtN) (z : Nat) (vs : Value) (k : Nat) : Nat := if col k = 0 ∧ vs.ownBlock = some k then z + 4 else col k
def SRes (b0 : Nat) (s : Int) (r : Sum Int Nat) (ps : List PayD) (C : NPr) (v0 v1 v2 : Value) (er : Int) (w : World) : Prop :=
 (∃ x, r = .inl x ∧ er = x ∧ v0 = .int .i64 0 ∧ v1 = .slice none 0 0 ∧ v2 = .slice none 0 0) ∨
 (∃ j L B, r = .inr j ∧ j < ps.length ∧ er = 0 ∧ v0 = .int .i64 (ps.getD j dP).tag ∧ b0 ≤ B ∧ SgTx B s (ps.getD j dP) v1 v2 L w ∧ ∀ k, sgB v1 v2 L k → C k)
theorem SRes.fr {b1 : Nat} {r : Sum Int Nat} (h : SRes b0 s r ps C v0 v1 v2 er w) (hf : Fr E w w') (hE : ∀ k, b0 ≤ k → k < w.heap.size → C k → ¬ E k ∧ C' k) (hb : b1 ≤ b0) : SRes b1 s r ps C' v0 v1 v2 er w' := by
 rcases h with h | ⟨j, L, B, h1, h2, h3, h4, h5, h6, h7⟩
 ·exact Or.inl h
 ·have h8 : ∀ k, sgB v1 v2 L k → ¬ E k ∧ C' k := fun k hk => hE k (leT h5 (h6.blk hk).1) (h6.blk hk).2 (h7 k hk)
  exact Or.inr ⟨j, L, B, h1, h2, h3, h4, leT hb h5, h6.frB hf (fun k hk => (h8 k hk).1), fun k hk => (h8 k hk).2⟩
def SRel (r : Sum Int Nat) (a a1 : PgP) : Prop :=
 (a1 = a ∧ ∀ j, r = .inr j → (a.ps.getD j dP).sg = true) ∨
 (∃ j vs', r = .inr j ∧ j < a.ps.length ∧ (a.ps.getD j dP).sg = false ∧ a1 = { a with vs := vs', ps := a.ps.set j (a.ps.getD j dP).on, ks := aeZ a.ks (a.ps.getD j dP).cs })
abbrev SignAG (P : Nat) (s : Int) (a : PgP) (b : DgP) (nx : Nat) (n : Int) (v0 v1 v2 : Value) (er : Int) (w w' : World) : Prop :=
 SignOk a.NP P 4 (P + 1) a.vl a.vs (b.ms.length : Nat) (nx : Int) a.ps a.ks a.xs s n v0 v1 v2 er w w'
theorem AG.s1 (h : AG z s g N q col G P D Dr a b nx w) : S1 z s g N (13 * q) col G P D Dr a b nx (b.ms.length : Nat) (nx : Int) w := ⟨h.pg, h.dg, h.dr, h.gm, h.kg, h.nz, h.nn⟩
theorem AG.sgA (h : AG z s g N q col G P D Dr a b nx w) (hr : SignAG P s a b nx n v0 v1 v2 er w w') :
 ∃ col1 a1, Ext z 1 24 col col1 w' ∧ (∀ k, k < w.heap.size → col k = 0 → col1 k = 0) ∧ Fr (fun k => z < col k ∧ col k ≤ z + 5) w w' ∧ S1 z s g N (13 * q) col1 G P D Dr a1 b nx (b.ms.length : Nat) (nx : Int) w' ∧ SRes w.heap.size s (signZ a.xs a.ps a.ks n) a.ps (fun k => col1 k = 0) v0 v1 v2 er w' ∧ SRel (signZ a.xs a.ps a.ks n) a a1 := by
 rcases hr with ⟨x, e1, e2, e3, e4, e5, hb⟩ | ⟨j, L, e1, e2, e3, e4, hsg, ⟨hs, hb⟩ | ⟨hs, vs', h6⟩⟩
 ·exact ⟨col, a, Ext.refl _ _ _ _ _, fun _ _ h => h, Fr.of_below hb _, (h.grown hb).s1, Or.inl ⟨x, e1, e2, e3, e4, e5⟩, Or.inl ⟨rfl, fun j e => by rw [e1] at e; cases e⟩⟩
 ·exact ⟨col, a, Ext.refl _ _ _ _ _, fun _ _ h => h, Fr.of_below hb _, (h.grown hb).s1, Or.inr ⟨j, L, _, e1, e2, e3, e4, leR, hsg, fun k hk => h.nz k (hsg.blk hk).1⟩, Or.inl ⟨rfl, fun j' e => by rw [e1] at e; injection e with e; subst e; exact hs⟩⟩
 ·have hpg := h.pg
  have hls := h6.ls
  have hf := h6.fr
  have hE : ∀ k, (k = P ∨ a.vl.ownBlock = some k ∨ a.vs.ownBlock = some k) → col k = z + 1 ∨ col k = z + 3 ∨ col k = z + 4 := fun k e => by
   rcases e with e | e | e
   ·subst e; exact Or.inl hpg.k1
   ·exact Or.inr (Or.inl (hpg.k3 k e))
   ·exact Or.inr (Or.inr (hpg.k4 k e))
  have hnE : ∀ k, col k ≠ z + 1 → col k ≠ z + 3 → col k ≠ z + 4 → ¬ (k = P ∨ a.vl.ownBlock = some k ∨ a.vs.ownBlock = some k) := fun k h1 h2 h3 e => by
   rcases hE k e with e | e | e <;> omega
  have hkeep : ∀ k, col k ≠ 0 → colS col z vs' k = col k := fun k hk => by
   unfold colS
   rw [if_neg (fun e => hk e.1)]
  have hv : ∀ k, vs'.ownBlock = some k → col k = z + 4 ∨ (col k = 0 ∧ w.heap.size ≤ k) := fun k hk => by
   rcases h6.nw k hk with e | ⟨e, _⟩
   ·exact Or.inl (hpg.k4 k e)
   ·exact Or.inr ⟨h.nz k e, e⟩
  have hold : ∀ k, k < w.heap.size → col k = 0 → colS col z vs' k = 0 := fun k hk h0 => by
   unfold colS
   rw [if_neg (fun e => by rcases hv k e.2 with e | e <;> omega)]
   exact h0
  have hpu : PAt [] w' P s g a.v (b.bls.length : Nat) a.xs := by
   have hp := hpg.pp.pu
   refine ⟨h6.cl 2 _ (by omega) hp.c0, h6.cl 3 _ (by omega) hp.c1, hls.fz 2, hls.fz, hf.own hp.own (fun k hk => hnE k (by rw [hpg.k2 k hk]; omega) (by rw [hpg.k2 k hk]; omega) (by rw [hpg.k2 k hk]; omega)), fun q hq => ?_⟩
   have h9 := hp.ext q hq
   refine ⟨h9.1, h9.2.1, h6.cl q.1 _ ?_ h9.2.2⟩
   simp only [List.mem_cons, List.not_mem_nil, or_false] at hq
   rcases hq with rfl | rfl <;> simp
  have hz : ∀ k, w'.heap.size ≤ k → colS col z vs' k = 0 := fun k hk => by
   have h1 := h.nz k (leT hf.size hk)
   unfold colS
   rw [if_neg (fun e => by have := (hls.os.blk k e.2).2; omega)]
   exact h1
  have hn : ∀ k, N k → colS col z vs' k = 0 := fun k hk => hold k (h.nn k hk).2 (h.nn k hk).1
  refine ⟨colS col z vs', { a with vs := vs', ps := a.ps.set j (a.ps.getD j dP).on, ks := aeZ a.ks (a.ps.getD j dP).cs }, fun k => ?_, hold, hf.weak (fun k _ e => by rcases hE k e with e | e | e <;> omega), ⟨⟨⟨hpu, hls, fun k hk => ⟨(hpg.pp.dj k hk).1, fun e => ?_, (hpg.pp.dj k hk).2.2⟩⟩, ?_, fun k hk => ?_, fun k hk => ?_, fun k hk => ?_, fun k hk => ?_⟩, h.dg.mv hf (fun k e h9 => by rcases hE k e with e | e | e <;> omega) (fun k hk e => by have := (h.nn k hk).1; rcases hE k e with e | e | e <;> omega) hkeep, h.dr.mv hf (fun k e h9 => by rcases hE k e with e | e | e <;> omega) hkeep leR, hf.vrow h.gm (hnE G (by rw [h.kg]; omega) (by rw [h.kg]; omega) (by rw [h.kg]; omega)), ?_, hz, fun k hk => ⟨hn k hk, ltL (h.nn k hk).2 hf.size⟩⟩, Or.inr ⟨j, L, _, e1, e2, e3, e4, leR, hsg, fun k hk => ?_⟩, Or.inr ⟨j, vs', e1, e2, hs, rfl⟩⟩
  ·unfold colS
   split
   ·rename_i e
    exact Or.inr ⟨e.1, by omega, by omega, (hls.os.blk k e.2).2⟩
   ·exact Or.inl rfl
  ·have h1 := hpg.k2 k hk
   rcases hv k e with e | e <;> omega
  ·rw [hkeep P (by rw [hpg.k1]; omega)]; exact hpg.k1
  ·rw [hkeep k (by rw [hpg.k2 k hk]; omega)]; exact hpg.k2 k hk
  ·rw [hkeep k (by rw [hpg.k3 k hk]; omega)]; exact hpg.k3 k hk
  ·rcases hv k hk with e | e
   ·rw [hkeep k (by omega)]; exact e
   ·unfold colS; rw [if_pos ⟨e.1, hk⟩]
  ·have h1 := hpg.k5 k hk
   rw [hkeep k (by omega)]; exact h1
  ·rw [hkeep G (by rw [h.kg]; omega)]; exact h.kg
  ·have hkb := hsg.blk hk
   show colS col z vs' k = 0
   unfold colS
   rw [if_neg (fun e => ?_)]
   ·exact h.nz k hkb.1
   ·rcases h6.nw k e.2 with e9 | ⟨_, n1, n2, n3⟩
    ·have := (h.pg.pp.ls.os.blk k e9).2; omega
    ·rcases hk with hk | hk | ⟨q9, hq, hk⟩
     ·exact n1 hk
     ·exact n2 hk
     ·exact n3 q9 hq hk
structure TA (z : Nat) (s : Int) (g : Nat) (N : NPr) (q : Nat) (col : NtN) (G P D Dr : Nat) (a : PgP) (b : DgP) (nx : Nat) (n : Int) (w : World) (col1 : NtN) (a1 : PgP) (K : Nat) (v0 v1 v2 : Value) (er : Int) (wx : World) : Prop where
 s1 : S1 z s g N (13 * q) col1 G P D Dr a1 b nx (b.ms.length : Nat) (nx : Int) wx
 ext : Ext z 1 24 col col1 wx
 old : ∀ k, k < w.heap.size → col k = 0 → col1 k = 0
 fr : Fr (fun k => z < col k ∧ col k ≤ z + 24) w wx
 vb : V3 wx K v0 v1 v2
 kk : col1 K = 0 ∧ w.heap.size ≤ K
 res : SRes w.heap.size s (signZ a.xs a.ps a.ks n) a.ps (fun k => col1 k = 0 ∧ k ≠ K) v0 v1 v2 er wx
 rel : SRel (signZ a.xs a.ps a.ks n) a a1
theorem AG.ta1 (h : AG z s g N q col G P D Dr a b nx w) (hb : Below w.heap.size w w1) (hr : SignAG P s a b nx n v0 v1 v2 er w1 w3) :
 (∃ col1 a1, TA z s g N q col G P D Dr a b nx n w col1 a1 w3.heap.size v0 v1 v2 er (w3.alloc (.cells #[v0, v1, v2] 35))) ∧
 (∀ K, w.heap.size ≤ K → K < w1.heap.size → (∃ a0 a1 a2, V3 w1 K a0 a1 a2) → ∃ col1 a1, TA z s g N q col G P D Dr a b nx n w col1 a1 K v0 v1 v2 er (((w3.setCell ⟨K, 0, none⟩ v0).setCell ⟨K, 1, none⟩ v1).setCell ⟨K, 2, none⟩ v2)) := by
 have h1 := h.grown hb
 obtain ⟨col1, a1, e1, e2, e3, hS, e5, e7⟩ := h1.sgA hr
 have hsz := hb.size
 have hz3 := hS.nz
 have hfr : Fr (fun k => z < col k ∧ col k ≤ z + 24) w w3 := (Fr.of_below hb _).trans (e3.weak (fun k _ e => by omega))
 refine ⟨⟨col1, a1, ?_⟩, fun K hK1 hK2 ⟨b0, b1, b2, hvb⟩ => ⟨col1, a1, ?_⟩⟩
 ·have hb3 : Below w3.heap.size w3 (w3.alloc (.cells #[v0, v1, v2] 35)) := (Below.refl _ _).alloc leR _
  exact ⟨hS.grown hb3, e1.weak leR leR hb3.size, fun k hk h0 => e2 k (by omega) h0, hfr.trans (Fr.of_below hb3 _), V3.new _ _ _ _ _, ⟨hz3 _ leR, leT hsz e3.size⟩, e5.fr (Fr.of_below hb3 (fun _ => False)) (fun k _ hk hc => ⟨fun h => h, hc, by omega⟩) hsz, e7⟩
 ·have hcK : col K = 0 := h.nz K hK1
  have hcK1 : col1 K = 0 := e2 K hK2 hcK
  have hf : Fr (fun k => k = K) w3 (((w3.setCell ⟨K, 0, none⟩ v0).setCell ⟨K, 1, none⟩ v1).setCell ⟨K, 2, none⟩ v2) := fr3K w3 K v0 v1 v2
  have hvb3 := hvb.fr e3 (fun e => by omega)
  exact ⟨hS.mv hf (fun k e => by have e' : k = K := e; rw [e', hcK1]; omega) (fun k hk e => by have e' : k = K := e; subst e'; have := (h.nn k hk).2; omega) (fun _ _ => rfl) (fun k hk => (hS.nn k hk).1) (fun k hk => hz3 k (leT hf.size hk)), e1.weak leR leR hf.size, fun k hk h0 => e2 k (by omega) h0, Fr.trans_new2 hfr hf (fun k e => by have e' : k = K := e; omega), ((hvb3.s0 v0).s1 v1).s2 v2, ⟨hcK1, hK1⟩, e5.fr hf (fun k hk _ hc => ⟨fun e => by have e' : k = K := e; omega, hc, by omega⟩) hsz, e7⟩
def DRs (s : Int) (r : Sum Int Nat) (ms : List MadeD) (b0 : Nat) (u0 u1 u2 : Value) (er : Int) (w : World) : Prop :=
 (∃ x, r = .inl x ∧ er = x ∧ u0 = .int .i64 0 ∧ u1 = .slice none 0 0 ∧ u2 = .slice none 0 0) ∨
 (∃ k, r = .inr k ∧ k < ms.length ∧ er = 0 ∧ u0 = .int .i64 (ms.getD k dM).tag ∧ RdNew b0 s (ms.getD k dM) u1 u2 w)
theorem DRs.fr {r : Sum Int Nat} (h : DRs s r ms b0 u0 u1 u2 er w) (hf : Fr E w w') (hE : ∀ k, b0 ≤ k → ¬ E k) : DRs s r ms b0 u0 u1 u2 er w' :=
 h.imp id (fun ⟨k, h1, h2, h3, h4, h5⟩ => ⟨k, h1, h2, h3, h4, h5.fr hf hE⟩)
def DRl (r : Sum Int Nat) (b b1 : DgP) : Prop :=
 (b1 = b ∧ ∀ k, r = .inr k → (b.ms.getD k dM).sg = true) ∨ (∃ k, r = .inr k ∧ k < b.ms.length ∧ (b.ms.getD k dM).sg = false ∧ b1 = { b with ms := onD b.ms k })
theorem S1.sgB (h : S1 z s g N q col G P D Dr a b nx md1 nx1 w) (hr : DSgOk b.ND D (D + 1) b.vm (nx : Int) b.ms b.bls s n u0 u1 u2 er w w') :
 ∃ b1, Fr (fun k => col k = z + 11) w w' ∧ S1 z s g N q col G P D Dr a b1 nx md1 nx1 w' ∧ DRs s (dgZ b.bls b.ms n) b.ms w.heap.size u0 u1 u2 er w' ∧ DRl (dgZ b.bls b.ms n) b b1 := by
 rcases hr.out with ⟨x, e1, e2, e3, e4, e5, hb⟩ | ⟨k, ek, e1, e2, e3, e4, hrd, ⟨hs, hb⟩ | ⟨hs, hd, hf⟩⟩
 ·exact ⟨b, Fr.of_below hb _, h.grown hb, Or.inl ⟨x, e1, e2, e3, e4, e5⟩, Or.inl ⟨rfl, fun k e => by rw [e1] at e; cases e⟩⟩
 ·exact ⟨b, Fr.of_below hb _, h.grown hb, Or.inr ⟨k, e1, e2, e3, e4, hrd⟩, Or.inl ⟨rfl, fun k' e => by rw [e1] at e; injection e with e; subst e; exact hs⟩⟩
 ·have hE : ∀ k, b.vm.ownBlock = some k → col k = z + 11 := h.dg.k11
  have hn : ∀ k, col k ≠ z + 11 → ¬ b.vm.ownBlock = some k := fun k hk e => hk (hE k e)
  have hdg := h.dg
  exact ⟨{ b with ms := onD b.ms k }, hf.weak (fun k _ e => hE k e), ⟨h.pg.mv hf (fun k e h9 => by have := hE k e; omega) (fun _ _ => rfl), ⟨hdg.dc.fr hf (fun k hk => hn k (by have := (h.nn k hk).1; omega)) (fun x hx => hn _ (by rw [hdg.k8 x hx]; omega)) (hn D (by rw [hdg.k7]; omega)), ⟨hf.cell hdg.ad.c1 (hn D (by rw [hdg.k7]; omega)), hf.cell hdg.ad.c2 (hn D (by rw [hdg.k7]; omega)), hf.cell hdg.ad.c3 (hn D (by rw [hdg.k7]; omega)), ints_fr hf hdg.ad.i0 (fun _ x hx => hn _ (by rw [hdg.k9 x hx]; omega)), ints_fr hf hdg.ad.i1 (fun _ x hx => hn _ (by rw [hdg.k10 x hx]; omega))⟩, hf.cell hdg.c0 (hn D (by rw [hdg.k7]; omega)), hd, hdg.k7, hdg.k8, hdg.k9, hdg.k10, hdg.k11, hdg.k12⟩, h.dr.mv hf (fun k e h9 => by have := hE k e; omega) (fun _ _ => rfl) leR, hf.vrow h.gm (hn G (by rw [h.kg]; omega)), h.kg, fun k hk => h.nz k (leT hf.size hk), fun k hk => ⟨(h.nn k hk).1, ltL (h.nn k hk).2 hf.size⟩⟩, Or.inr ⟨k, e1, e2, e3, e4, hrd⟩, Or.inr ⟨k, e1, e2, hs, rfl⟩⟩
structure TB (z : Nat) (s : Int) (g : Nat) (N : NPr) (q : Nat) (col : NtN) (G P D Dr : Nat) (a : PgP) (b : DgP) (nx : Nat) (n : Int) (w : World) (col1 : NtN) (a1 : PgP) (b1 : DgP) (K : Nat) (v0 v1 v2 : Value) (er : Int) (K2 : Nat) (u0 u1 u2 : Value) (er2 : Int) (wx : World) : Prop where
 s1 : S1 z s g N (13 * q) col1 G P D Dr a1 b1 nx (b.ms.length : Nat) (nx : Int) wx
 ext : Ext z 1 24 col col1 wx
 old : ∀ k, k < w.heap.size → col k = 0 → col1 k = 0
 fr : Fr (fun k => z < col k ∧ col k ≤ z + 24) w wx
 vb : V3 wx K v0 v1 v2
 vb2 : V3 wx K2 u0 u1 u2
 kk : col1 K = 0 ∧ w.heap.size ≤ K
 res : SRes w.heap.size s (signZ a.xs a.ps a.ks n) a.ps (fun k => col1 k = 0 ∧ k ≠ K) v0 v1 v2 er wx
 res2 : ∃ b0, DRs s (dgZ b.bls b.ms n) b.ms b0 u0 u1 u2 er2 wx
 rel : SRel (signZ a.xs a.ps a.ks n) a a1
 rel2 : DRl (dgZ b.bls b.ms n) b b1
theorem TB.grown {col1 : NtN} (h : TB z s g N q col G P D Dr a b nx n w col1 a1 b1 K v0 v1 v2 er K2 u0 u1 u2 er2 wx) (hb : Below wx.heap.size wx wy) : TB z s g N q col G P D Dr a b nx n w col1 a1 b1 K v0 v1 v2 er K2 u0 u1 u2 er2 wy :=
 ⟨h.s1.grown hb, h.ext.weak leR leR hb.size, h.old, h.fr.trans (Fr.of_below hb _), h.vb.grown hb, h.vb2.grown hb, h.kk, h.res.fr (Fr.of_below hb (fun _ => False)) (fun _ _ _ h => ⟨fun h => h, h⟩) leR, h.res2.elim fun b0 h => ⟨b0, h.fr (Fr.of_below hb (fun _ => False)) (fun _ _ h => h)⟩, h.rel, h.rel2⟩
theorem TA.tb1 {col1 : NtN} (h : TA z s g N q col G P D Dr a b nx n w col1 a1 K v0 v1 v2 er wx) (hb : Below wx.heap.size wx w1) (hr : DSgOk b.ND D (D + 1) b.vm (nx : Int) b.ms b.bls s n u0 u1 u2 er2 w1 w3) :
 (∃ b1, TB z s g N q col G P D Dr a b nx n w col1 a1 b1 K v0 v1 v2 er w3.heap.size u0 u1 u2 er2 (w3.alloc (.cells #[u0, u1, u2] 35))) ∧
 (∀ K2, wx.heap.size ≤ K2 → K2 < w1.heap.size → (∃ a0 a1 a2, V3 w1 K2 a0 a1 a2) → ∃ b1, TB z s g N q col G P D Dr a b nx n w col1 a1 b1 K v0 v1 v2 er K2 u0 u1 u2 er2 (((w3.setCell ⟨K2, 0, none⟩ u0).setCell ⟨K2, 1, none⟩ u1).setCell ⟨K2, 2, none⟩ u2)) := by
 obtain ⟨b1, hf, hS, hrs, hrl⟩ := (h.s1.grown hb).sgB hr
 have hsx := h.fr.size
 have hsz := hb.size
 have hK : K < wx.heap.size := clT h.vb.c0
 have hfr : Fr (fun k => z < col k ∧ col k ≤ z + 24) w w3 := by
  refine ⟨hf.os.trans (hb.os.trans h.fr.os), hf.tape.trans (hb.tape.trans h.fr.tape), hf.output.trans (hb.output.trans h.fr.output), leT hsx (leT hsz hf.size), fun k hk hne => ?_⟩
  refine (hf.block k (by omega) (fun e => ?_)).trans ((hb.block k (by omega)).trans (h.fr.block k hk hne))
  rcases h.ext k with e2 | e2
  ·exact hne (by omega)
  ·have := h.old k hk e2.1
   omega
 have hvb : V3 w3 K v0 v1 v2 := (h.vb.grown hb).fr hf (by show ¬ col1 K = z + 11; rw [h.kk.1]; omega)
 have hres : SRes w.heap.size s (signZ a.xs a.ps a.ks n) a.ps (fun k => (col1 k = 0 ∧ k ≠ K) ∧ k < wx.heap.size) v0 v1 v2 er w3 := by
  have h1 := h.res.fr (C' := fun k => (col1 k = 0 ∧ k ≠ K) ∧ k < wx.heap.size) (Fr.of_below hb (fun _ => False)) (fun k _ hk hc => ⟨fun h => h, hc, hk⟩) leR
  exact h1.fr hf (fun k _ _ hc => ⟨by show ¬ col1 k = z + 11; rw [hc.1.1]; omega, hc⟩) leR
 have hext : Ext z 1 24 col col1 w3 := h.ext.weak leR leR (leT hsz hf.size)
 refine ⟨⟨b1, ?_⟩, fun K2 hK1 hK2 ⟨c0, c1, c2, hv2⟩ => ⟨b1, ?_⟩⟩
 ·have hb3 : Below w3.heap.size w3 (w3.alloc (.cells #[u0, u1, u2] 35)) := (Below.refl _ _).alloc leR _
  exact ⟨hS.grown hb3, hext.weak leR leR hb3.size, h.old, hfr.trans (Fr.of_below hb3 _), hvb.grown hb3, V3.new _ _ _ _ _, h.kk, hres.fr (Fr.of_below hb3 (fun _ => False)) (fun k _ _ hc => ⟨fun h => h, hc.1⟩) leR, ⟨_, hrs.fr (Fr.of_below hb3 (fun _ => False)) (fun _ _ h => h)⟩, h.rel, hrl⟩
 ·have hg : Fr (fun k => k = K2) w3 (((w3.setCell ⟨K2, 0, none⟩ u0).setCell ⟨K2, 1, none⟩ u1).setCell ⟨K2, 2, none⟩ u2) := fr3K w3 K2 u0 u1 u2
  have hc2 : col1 K2 = 0 := h.s1.nz K2 hK1
  have hv3 := hv2.fr hf (by show ¬ col1 K2 = z + 11; rw [hc2]; omega)
  exact ⟨hS.mv hg (fun k e => by have e' : k = K2 := e; rw [e', hc2]; omega) (fun k hk e => by have e' : k = K2 := e; subst e'; have := (h.s1.nn k hk).2; omega) (fun _ _ => rfl) (fun k hk => (hS.nn k hk).1) (fun k hk => hS.nz k (leT hg.size hk)), hext.weak leR leR hg.size, h.old, Fr.trans_new2 hfr hg (fun k e => by have e' : k = K2 := e; omega), hvb.fr hg (by show ¬ K = K2; omega), ((hv3.s0 u0).s1 u1).s2 u2, h.kk, hres.fr hg (fun k _ _ hc => ⟨by show ¬ k = K2; have := hc.2; omega, hc.1⟩) leR, ⟨_, hrs.fr hg (fun k hk => by show ¬ k = K2; omega)⟩, h.rel, hrl⟩
theorem sign_shape {b : Nat} {nx : Int} (h : SignOk M b o base vl vs md nx ps ks xs s n v0 v1 v2 er w w') : ∃ t ai ni ci ap np cp, v0 = .int .i64 t ∧ v1 = .slice ai ni ci ∧ v2 = .slice ap np cp := by
 rcases h with ⟨x, e1, e2, e3, e4, e5, hb⟩ | ⟨j, L, e1, e2, e3, e4, hsg, _⟩
 ·exact ⟨_, _, _, _, _, _, _, e3, e4, e5⟩
 ·obtain ⟨ai, ni, ci, ap, np, cp, h1, h2⟩ := hsg.shape
  exact ⟨_, _, _, _, _, _, _, e4, h1, h2⟩
theorem dsign_shape {nx : Int} (h : DSgOk Nd D base vm nx ms bls s n v0 v1 v2 er w w') : ∃ t ai ni ci ap np cp, v0 = .int .i64 t ∧ v1 = .slice ai ni ci ∧ v2 = .slice ap np cp := by
 rcases h.out with ⟨x, e1, e2, e3, e4, e5, hb⟩ | ⟨k, ek, e1, e2, e3, e4, ⟨bi, bn, bc, bp, bm, bd, is, h1, h2, _⟩, _⟩
 ·exact ⟨_, _, _, _, _, _, _, e3, e4, e5⟩
 ·exact ⟨_, _, _, _, _, _, _, e4, h1, h2⟩
theorem AG.live (h : AG z s g N q col G P D Dr a b nx w) : ∀ k : Nat, k < b.ms.length → (b.ms.getD k dM).lv = true → (∀ x ∈ (b.ms.getD k dM).cs, Mk.isK s x.br x.ix = true) ∧ (b.ms.getD k dM).zs ≠ [] := fun k hk hl => by
 obtain ⟨p, hp, hn⟩ := (live_num h.lp (k : Int)).2 ⟨k, rfl, hk, hl⟩
 obtain ⟨_, _, hkk⟩ := h.lp.at hp hn
 have e1 : p.cs = (b.ms.getD k dM).cs := congrArg (fun t : PK => t.2.1) hkk
 have e2 : p.ys = (b.ms.getD k dM).zs := congrArg (fun t : PK => t.2.2.1) hkk
 have h1 := h.ky p hp
 rw [e1, e2] at h1
 exact ⟨h1.1, h1.2.2⟩
theorem signS_any (n : Int) (w : World) (h : AG z s g N q col G P D Dr a b nx w) (hq : q ≤ 1048576) :
 Calls Tryz.prog 13 #[.pointer (some ⟨P, 0, none⟩), .int .i64 n] w fun e w' => ∃ t ai ni ci ap np cp er, e = .returned (.tuple #[.agg #[.int .i64 t, .slice ai ni ci, .slice ap np cp], .int .i64 er]) ∧ SignAG P s a b nx n (.int .i64 t) (.slice ai ni ci) (.slice ap np cp) er w w' := by
 have hpl := h.lp.len
 have hml := h.ml
 have hkl := h.kl
 have hlk := h.lk.here
 have h40 := h.lk.len
 obtain ⟨av, cv, hv, hat⟩ := h.pg.pp.pu.at
 have hc2 := h.pg.pp.pu.c0
 rw [hv] at hc2
 refine (pSign_any a.NP P a.vl a.vs (b.ms.length : Nat) (nx : Int) a.ps a.ks av a.xs.length cv a.xs s n w h.pg.pp.ls (by omega) (by omega) (pat_c0 h.pg.pp.pu) hc2 hat rfl (by omega) (fun p hp => ?_) (fun p hp => (h.ky p hp).1)).mono ?_
 ·have h1 := (h.pg.pp.ls.ok p hp).ol
  have h2 := List.length_pos_iff.2 (h.ky p hp).2.2
  omega
 ·rintro e w' ⟨v0, v1, v2, er, rfl, hr⟩
  obtain ⟨t, ai, ni, ci, ap, np, cp, rfl, rfl, rfl⟩ := sign_shape hr
  exact ⟨t, ai, ni, ci, ap, np, cp, er, rfl, hr⟩
theorem dSignS_any (n : Int) (w : World) (h : S1 z s g N q col G P D Dr a b nx md1 nx1 w) (hgd : Good b.bls) (h40 : b.bls.length ≤ 40) (hml : b.ms.length ≤ 100000000) (hlv : ∀ k : Nat, k < b.ms.length → (b.ms.getD k dM).lv = true → (∀ x ∈ (b.ms.getD k dM).cs, Mk.isK s x.br x.ix = true) ∧ (b.ms.getD k dM).zs ≠ []) :
 Calls Tryz.prog 119 #[.pointer (some ⟨D, 0, none⟩), .int .i64 n] w fun e w' => ∃ t ai ni ci ap np cp er, e = .returned (.tuple #[.agg #[.int .i64 t, .slice ai ni ci, .slice ap np cp], .int .i64 er]) ∧ DSgOk b.ND D (D + 1) b.vm (nx : Int) b.ms b.bls s n (.int .i64 t) (.slice ai ni ci) (.slice ap np cp) er w w' := by
 refine (dSign_any N b.ND D (D + 1) b.ao b.c b.bls s b.vm (nx : Int) b.ms n w h.dg.dc hgd h40 h.dg.c0 h.dg.dp hml hlv).mono ?_
 rintro e w' ⟨v0, v1, v2, er, rfl, hr⟩
 obtain ⟨t, ai, ni, ci, ap, np, cp, rfl, rfl, rfl⟩ := dsign_shape hr
 exact ⟨t, ai, ni, ci, ap, np, cp, er, rfl, hr⟩
theorem signR_cell (h : AG z s g N q col G P D Dr a b nx w) (hr : SignAG P s a b nx n v0 v1 v2 er w w') {k : Nat} (hc : w.cell? ⟨k, o, none⟩ = some v) (h1 : ¬ (z < col k ∧ col k ≤ z + 5)) : w'.cell? ⟨k, o, none⟩ = some v := by
 obtain ⟨_, _, _, _, hf, _⟩ := h.sgA hr
 exact hf.cell hc h1
theorem signR_v3 (h : AG z s g N q col G P D Dr a b nx w) (hr : SignAG P s a b nx n v0 v1 v2 er w w') {a1 : Value} (hc : V3 w K a0 a1 a2) (h1 : col K = 0) : V3 w' K a0 a1 a2 := by
 obtain ⟨_, _, _, _, hf, _⟩ := h.sgA hr
 exact hc.fr hf (fun e => by omega)
theorem dsignR_cell (h : S1 z s g N q col G P D Dr a b nx md1 nx1 w) (hr : DSgOk b.ND D (D + 1) b.vm (nx : Int) b.ms b.bls s n u0 u1 u2 er w w') {k : Nat} (hc : w.cell? ⟨k, o, none⟩ = some v) (h1 : col k ≠ z + 11) : w'.cell? ⟨k, o, none⟩ = some v := by
 obtain ⟨_, hf, _⟩ := h.sgB hr
 exact hf.cell hc h1
theorem dsignR_v3 (h : S1 z s g N q col G P D Dr a b nx md1 nx1 w) (hr : DSgOk b.ND D (D + 1) b.vm (nx : Int) b.ms b.bls s n u0 u1 u2 er w w') {a1 : Value} (hc : V3 w K a0 a1 a2) (h1 : col K ≠ z + 11) : V3 w' K a0 a1 a2 := by
 obtain ⟨_, hf, _⟩ := h.sgB hr
 exact hc.fr hf h1
structure TSame (s : Int) (b0 : Nat) (col1 : NtN) (K : Nat) (t : Int) (ai : OAd) (ni ci : Nat) (ap : OAd) (np cp : Nat) (er : Int) (t2 : Int) (bi : OAd) (mi di : Nat) (bp : OAd) (mp dp : Nat) (er2 : Int) (xs ys : List InD) (zs : LII) (w : World) : Prop where
 ee : er = er2
 et : t = t2
 ei : ni = mi
 ep : np = mp
 i1 : IAa w ai xs
 i2 : IAa w bi ys
 l1 : xs.length = ni
 l2 : ys.length = mi
 st : xs.map InD.st = ys.map InD.st
 b1 : ni ≤ 10
 o1 : OsT w ap zs
 o2 : OsT w bp zs
 lz : zs.length = np
 b2 : np ≤ 8
 hi : HdI col1 w (.slice ai ni ci) xs
 ho : HdD 2 col1 w (.slice ap np cp)
 ne : ∀ k, (Value.slice ap np cp).ownBlock = some k → ¬ ((Value.slice ai ni ci).ownBlock = some k ∨ slB xs xs.length k)
 nw : ∀ k, (((Value.slice ai ni ci).ownBlock = some k ∨ slB xs xs.length k) ∨ (Value.slice ap np cp).ownBlock = some k) → col1 k = 0 ∧ k ≠ K ∧ b0 ≤ k
theorem TB.same {col1 : NtN} (h : AG z s g N q col G P D Dr a b nx w9) (y : TB z s g N q col G P D Dr a b nx n w col1 a1 b1 K (.int .i64 t) (.slice ai ni ci) (.slice ap np cp) er K2 (.int .i64 t2) (.slice bi mi di) (.slice bp mp dp) er2 wx) :
 ∃ xs ys zs, TSame s w.heap.size col1 K t ai ni ci ap np cp er t2 bi mi di bp mp dp er2 xs ys zs wx := by
 obtain ⟨b0, hr2⟩ := y.res2
 rcases sign_sync h.lk h.lp n with ⟨x, s1, s2⟩ | ⟨j, k, s1, s2, hj, hk, hn, hnum, hkk⟩
 ·rcases y.res with ⟨x1, r1, r2, r3, r4, r5⟩ | ⟨j, L, B, r1, _⟩
  ·rcases hr2 with ⟨x2, q1, q2, q3, q4, q5⟩ | ⟨k, q1, _⟩
   ·rw [s1] at r1
    rw [s2] at q1
    injection r1 with r1
    injection q1 with q1
    injection r3 with _ r3
    injection q3 with _ q3
    injection r4 with f1 f2 f3
    injection r5 with f4 f5 f6
    injection q4 with g1 g2 g3
    injection q5 with g4 g5 g6
    subst f1 f2 f3 f4 f5 f6 g1 g2 g3 g4 g5 g6
    refine ⟨[], [], [], ⟨by rw [r2, q2, ← r1, ← q1], by rw [r3, q3], rfl, rfl, Or.inl rfl, Or.inl rfl, rfl, rfl, rfl, by omega, Or.inl rfl, Or.inl rfl, rfl, by omega, Or.inl ⟨rfl, rfl⟩, Or.inl rfl, fun k e => (by cases e), fun k e => ?_⟩⟩
    rcases e with (e | ⟨i, hi, _⟩) | e
    ·cases e
    ·exact absurd hi (Nat.not_lt_zero _)
    ·cases e
   ·rw [s2] at q1; cases q1
  ·rw [s1] at r1; cases r1
 ·rcases y.res with ⟨x1, r1, _⟩ | ⟨j', L, B, r1, r2, r3, r4, r5, hsg, hC⟩
  ·rw [s1] at r1; cases r1
  ·rcases hr2 with ⟨x2, q1, _⟩ | ⟨k', q1, q2, q3, q4, hrd⟩
   ·rw [s2] at q1; cases q1
   ·rw [s1] at r1
    rw [s2] at q1
    injection r1 with r1
    injection q1 with q1
    subst r1
    subst q1
    obtain ⟨ci', ni', cc', cp', np', cd', is, e1, e2, h1, h2, h3, h4, h5, _⟩ := hrd
    injection e1 with f1 f2 f3
    injection e2 with f4 f5 f6
    subst f1 f2 f3 f4 f5 f6
    have d1 : (a.ps.getD j dP).cs = (b.ms.getD k dM).cs := congrArg (fun t : PK => t.2.1) hkk
    have d2 : (a.ps.getD j dP).ys = (b.ms.getD k dM).zs := congrArg (fun t : PK => t.2.2.1) hkk
    have d3 : (a.ps.getD j dP).tag = (b.ms.getD k dM).tag := congrArg (fun t : PK => t.2.2.2.1) hkk
    have hid : (a.ps.getD j dP).id = idZ (b.ms.getD k dM).tag ((b.ms.getD k dM).cs.map CoinD.inD) (b.ms.getD k dM).zs := by
     unfold PayD.id
     rw [d1, d2, d3]
     rfl
    obtain ⟨l1, l2, l3⟩ := hsg.lens
    have hpo := h.pg.pp.ls.ok _ (gDM a.ps dP j hj)
    have c1 := hpo.cl
    have c2 := hpo.b1
    have c3 := hpo.ol
    have c4 := hpo.b2
    have lis : is.length = (b.ms.getD k dM).cs.length := by
     have := congrArg List.length h3
     rw [List.length_map, List.length_map] at this
     exact this
    injection r4 with _ r4
    injection q4 with _ q4
    refine ⟨L.map (sgIn s (a.ps.getD j dP).id), is, (a.ps.getD j dP).ys, ⟨by rw [r3, q3], by rw [r4, q4, d3], ?_, ?_, hsg.insAt, h1, by rw [List.length_map]; exact l1, h2, ?_, by omega, hsg.outsAt, by rw [d2]; exact h4, l3, by omega, hsg.hand (fun k hk => (hC k hk).1), HdD.of kv2 hsg.oo (fun k hk => (hC k (Or.inr (Or.inl hk))).1), fun k hk e => ?_, fun k hk => ?_⟩⟩
    ·rw [← h2, lis, ← d1, l2]
    ·rw [← h5, ← d2, l3]
    ·rw [sgIn_st, hsg.fst, h3, d1, hid]
    ·rcases e with e | e
     ·exact hsg.ne k e hk
     ·obtain ⟨q9, hq9, e9⟩ := SgTx.seals (by simp) e
      exact (hsg.nv q9 hq9).2 (by rw [e9]; exact hk)
    ·have hb : sgB (.slice ai ni ci) (.slice ap np cp) L k := by
      rcases hk with (e | e) | e
      ·exact Or.inl e
      ·exact Or.inr (Or.inr (SgTx.seals (by simp) e))
      ·exact Or.inr (Or.inl e)
     exact ⟨(hC k hb).1, (hC k hb).2, leT r5 (hsg.blk hb).1⟩
theorem TB.done {col1 : NtN} (h0 : Below w0.heap.size w0 w) (h : AG z s g N q col G P D Dr a b nx w) (y : TB z s g N q col G P D Dr a b nx n w col1 a1 b1 K v0 v1 v2 er K2 u0 u1 u2 er2 wx) (hk : KeptM col1 z Dr (13 * q) m Lx wx w') (hm : m ≤ 13) (hL : ∀ k, Lx k → col1 k = 0 ∧ w.heap.size ≤ k) : SOk z s g N q col G P D Dr w0 w' := by
 obtain ⟨col4, he, hd, hf, hold4⟩ := hk
 have hs1 := y.s1
 have hnL : ∀ k, N k → ¬ Lx k := fun k hk e => by have := (h.nn k hk).2; have := (hL k e).2; omega
 have hn : ∀ k, N k → col4 k = 0 := fun k hk => hold4 k (hs1.nn k hk).1 (hs1.nn k hk).2 (hnL k hk)
 have hkeep : ∀ k, col1 k ≠ 0 → col4 k = col1 k := fun k hk => he.same hk
 have hz4 : ∀ k, w'.heap.size ≤ k → col4 k = 0 := Ext.zero (w := wx) he hf.size hs1.nz
 have hE : ∀ k, ((z + 13 ≤ col1 k ∧ col1 k ≤ z + 23) ∨ Lx k) → ¬ (z + 1 ≤ col1 k ∧ col1 k ≤ z + 12) := fun k e h9 => by
  rcases e with e | e
  ·omega
  ·have := (hL k e).1; omega
 have hN : ∀ k, N k → ¬ ((z + 13 ≤ col1 k ∧ col1 k ≤ z + 23) ∨ Lx k) := fun k hk e => by
  rcases e with e | e
  ·have := (hs1.nn k hk).1; omega
  ·exact hnL k hk e
 have hpg := hs1.pg.mv hf (fun k e h => hE k e (by omega)) hkeep
 have hdg := hs1.dg.mv hf (fun k e h => hE k e (by omega)) hN hkeep
 have hgm := hf.vrow hs1.gm (fun e => hE G e (by rw [hs1.kg]; omega))
 have hkg : col4 G = z + 6 := by rw [hkeep G (by rw [hs1.kg]; omega)]; exact hs1.kg
 have hfin : Fr (fun k => z < col k ∧ col k ≤ z + 24) w w' := by
  refine ⟨hf.os.trans y.fr.os, hf.tape.trans y.fr.tape, hf.output.trans y.fr.output, leT y.fr.size hf.size, fun k hk hne => ?_⟩
  refine (hf.block k (ltL hk y.fr.size) (fun e => hne ?_)).trans (y.fr.block k hk hne)
  rcases e with e | e
  ·rcases y.ext k with e2 | e2
   ·omega
   ·have := y.old k hk e2.1; omega
  ·have := (hL k e).2; omega
 have hext : Ext z 1 24 col col4 w' := (y.ext.weak leR leR leR).trans (he.weak (by omega) leR leR) hf.size
 have hnn : ∀ k, N k → col4 k = 0 ∧ k < w'.heap.size := fun k hk => ⟨hn k hk, ltL (hs1.nn k hk).2 hf.size⟩
 have hdr : DrA col4 z w' Dr (13 * (q + 1)) := hd.mv (Fr.refl (fun _ => False) w') (fun _ e => e.elim) (fun _ _ => rfl) (by omega)
 refine ⟨col4, a1, b1, nx, hext, ?_, (Fr.of_below h0 _).trans (hfin.weak (fun k _ e => e))⟩
 have hml := h.ml
 have hkl := h.kl
 rcases sign_sync h.lk h.lp n with ⟨x, s1, s2⟩ | ⟨j, k, s1, s2, hj, hk, hnk, hnum, hkk⟩
 ·rcases y.rel with ⟨ea, _⟩ | ⟨j', vs', ej, _⟩
  ·rcases y.rel2 with ⟨eb, _⟩ | ⟨k', ek, _⟩
   ·subst ea
    subst eb
    exact ⟨hpg, hdg, hdr, hgm, hkg, h.lk, h.lp, h.ky, hz4, hnn, by omega, by omega, h.nl⟩
   ·rw [s2] at ek; cases ek
  ·rw [s1] at ej; cases ej
 ·have d1 : (a.ps.getD j dP).cs = (b.ms.getD k dM).cs := congrArg (fun t : PK => t.2.1) hkk
  have d4 : (a.ps.getD j dP).sg = (b.ms.getD k dM).sg := congrArg (fun t : PK => t.2.2.2.2) hkk
  rcases y.rel with ⟨ea, hsa⟩ | ⟨j', vs', ej, hj', hsj, ea⟩
  ·rcases y.rel2 with ⟨eb, _⟩ | ⟨k', ek, hk', hsk, eb⟩
   ·subst ea
    subst eb
    exact ⟨hpg, hdg, hdr, hgm, hkg, h.lk, h.lp, h.ky, hz4, hnn, by omega, by omega, h.nl⟩
   ·rw [s2] at ek
    injection ek with ek
    subst ek
    have := hsa j s1
    rw [d4, hsk] at this
    cases this
  ·rw [s1] at ej
   injection ej with ej
   subst ej
   rcases y.rel2 with ⟨eb, hsb⟩ | ⟨k', ek, hk', hsk, eb⟩
   ·have := hsb k s2
    rw [← d4, hsj] at this
    cases this
   ·rw [s2] at ek
    injection ek with ek
    subst ek
    subst ea
    subst eb
    have hol := onD_len b.ms k
    have hlc : (a.ps.getD j dP).cs.length ≤ 10 := by
     have hpo := h.pg.pp.ls.ok _ (gDM a.ps dP j hj)
     have c1 := hpo.cl
     have c2 := hpo.b1
     omega
    have hak := addKeys_len (a.ps.getD j dP).cs a.ks
    refine ⟨?_, hdg, hdr, hgm, hkg, h.lk, ?_, fun p hp => ?_, hz4, hnn, by simp only; omega, by simp only; omega, h.nl⟩
    ·simp only
     rw [hol]
     exact hpg
    ·simp only
     rw [h.lp.set hj hnum, d1]
     exact h.lp.sign hk
    ·simp only at hp
     rcases List.mem_or_eq_of_mem_set hp with e | e
     ·exact h.ky p e
     ·subst e
      have h9 := h.ky (a.ps.getD j dP) (gDM a.ps dP j hj)
      exact h9
theorem left_all (h : (lfZ ps k).length = ps.length) : lfZ ps k = ps := by
 unfold lfZ at *
 exact List.Sublist.eq_of_length List.filter_sublist h
def colA (col : NtN) (z : Nat) (vl : Value) (k : Nat) : Nat := if col k = 0 ∧ vl.ownBlock = some k then z + 3 else col k
theorem AG.abA (h : AG z s g N q col G P D Dr a b nx w) (hr : AbOk a.NP P 4 (P + 1) a.vs (b.ms.length : Nat) (nx : Int) a.ps a.ks k er w w') :
 ∃ col1 vl', S1 z s g N (13 * q) col1 G P D Dr { a with vl := vl', ps := lfZ a.ps k } b nx (b.ms.length : Nat) (nx : Int) w' ∧ Ext z 1 24 col col1 w' ∧ Fr (fun k => z < col k ∧ col k ≤ z + 24) w w' ∧ (∀ k, k < w.heap.size → col k = 0 → col1 k = 0) ∧ er = (if (lfZ a.ps k).length = a.ps.length then 11 else 0) := by
 rcases hr with ⟨e1, e2, hb⟩ | ⟨e1, e2, vl', hls, hf, hnew, hcell⟩
 ·have hl := left_all e1
  have h1 := h.grown hb
  refine ⟨col, a.vl, ⟨?_, h1.dg, h1.dr, h1.gm, h1.kg, h1.nz, h1.nn⟩, Ext.refl _ _ _ _ _, Fr.of_below hb _, fun _ _ h => h, by rw [if_pos e1]; exact e2⟩
  rw [hl]
  exact h1.pg
 ·have hpg := h.pg
  have hkeep : ∀ k, col k ≠ 0 → colA col z vl' k = col k := fun k hk => by
   unfold colA
   rw [if_neg (fun e => hk e.1)]
  have hvl : ∀ k, vl'.ownBlock = some k → col k = 0 := fun k hk => h.nz k (hnew k hk)
  have hE : ∀ k, k = P → col k = z + 1 := fun k e => by subst e; exact hpg.k1
  have hnP : ∀ k, col k ≠ z + 1 → ¬ k = P := fun k hk e => hk (hE k e)
  have hpu : PAt [] w' P s g a.v (b.bls.length : Nat) a.xs := by
   have hp := hpg.pp.pu
   refine ⟨(hcell 2 (by omega)).trans hp.c0, (hcell 3 (by omega)).trans hp.c1, hls.fz 2, hls.fz, hf.own hp.own (fun k hk => hnP k (by rw [hpg.k2 k hk]; omega)), fun q hq => ?_⟩
   have h9 := hp.ext q hq
   refine ⟨h9.1, h9.2.1, (hcell q.1 ?_).trans h9.2.2⟩
   simp only [List.mem_cons, List.not_mem_nil, or_false] at hq
   rcases hq with rfl | rfl <;> simp
  have hz : ∀ k, w'.heap.size ≤ k → colA col z vl' k = 0 := fun k hk => by
   have h1 := h.nz k (leT hf.size hk)
   unfold colA
   rw [if_neg (fun e => by have := (hls.ol.blk k e.2).2; omega)]
   exact h1
  have hn : ∀ k, N k → colA col z vl' k = 0 := fun k hk => by
   have h1 := h.nn k hk
   unfold colA
   rw [if_neg (fun e => by have := hnew k e.2; omega)]
   exact h1.1
  refine ⟨colA col z vl', vl', ⟨⟨⟨hpu, hls, fun k hk => ⟨fun e => ?_, (hpg.pp.dj k hk).2⟩⟩, ?_, fun k hk => ?_, fun k hk => ?_, fun k hk => ?_, fun k hk => ?_⟩, h.dg.mv hf (fun k e h9 => by have := hE k e; omega) (fun k hk e => by have := hE k e; have := (h.nn k hk).1; omega) hkeep, h.dr.mv hf (fun k e h9 => by have := hE k e; omega) hkeep leR, hf.vrow h.gm (hnP G (by rw [h.kg]; omega)), ?_, hz, fun k hk => ⟨hn k hk, ltL (h.nn k hk).2 hf.size⟩⟩, fun k => ?_, hf.weak (fun k _ e => by have := hE k e; omega), fun k hk h0 => ?_, by rw [if_neg e1]; exact e2⟩
  ·have h1 := hpg.k2 k hk
   have h2 := hvl k e
   omega
  ·rw [hkeep P (by rw [hpg.k1]; omega)]; exact hpg.k1
  ·rw [hkeep k (by rw [hpg.k2 k hk]; omega)]; exact hpg.k2 k hk
  ·unfold colA; rw [if_pos ⟨hvl k hk, hk⟩]
  ·rw [hkeep k (by rw [hpg.k4 k hk]; omega)]; exact hpg.k4 k hk
  ·have h1 := hpg.k5 k hk
   rw [hkeep k (by omega)]; exact h1
  ·rw [hkeep G (by rw [h.kg]; omega)]; exact h.kg
  ·unfold colA
   split
   ·rename_i e
    exact Or.inr ⟨e.1, by omega, by omega, (hls.ol.blk k e.2).2⟩
   ·exact Or.inl rfl
  ·unfold colA
   rw [if_neg (fun e => by have := hnew k e.2; omega)]
   exact h0
theorem S1.abB (h : S1 z s g N q col G P D Dr a b nx md1 nx1 w) (hr : DAbOk b.ND D (D + 1) b.vm (nx : Int) b.ms k er w w') :
 Fr (fun k => col k = z + 11) w w' ∧ ((liveB b.ms k = false ∧ er = 11 ∧ S1 z s g N q col G P D Dr a b nx md1 nx1 w') ∨ (∃ n : Nat, k = (n : Int) ∧ n < b.ms.length ∧ (b.ms.getD n dM).lv = true ∧ er = 0 ∧ S1 z s g N q col G P D Dr a { b with ms := offD b.ms n } nx md1 nx1 w')) := by
 rcases hr with ⟨e1, e2, rfl⟩ | ⟨n, e1, e2, e3, e4, hd, hf⟩
 ·exact ⟨Fr.refl _ _, Or.inl ⟨e1, e2, h⟩⟩
 ·have hE : ∀ k, b.vm.ownBlock = some k → col k = z + 11 := h.dg.k11
  have hn : ∀ k, col k ≠ z + 11 → ¬ b.vm.ownBlock = some k := fun k hk e => hk (hE k e)
  have hdg := h.dg
  refine ⟨hf.weak (fun k _ e => hE k e), Or.inr ⟨n, e1, e2, e3, e4, h.pg.mv hf (fun k e h9 => by have := hE k e; omega) (fun _ _ => rfl), ⟨hdg.dc.fr hf (fun k hk => hn k (by have := (h.nn k hk).1; omega)) (fun x hx => hn _ (by rw [hdg.k8 x hx]; omega)) (hn D (by rw [hdg.k7]; omega)), ⟨hf.cell hdg.ad.c1 (hn D (by rw [hdg.k7]; omega)), hf.cell hdg.ad.c2 (hn D (by rw [hdg.k7]; omega)), hf.cell hdg.ad.c3 (hn D (by rw [hdg.k7]; omega)), ints_fr hf hdg.ad.i0 (fun _ x hx => hn _ (by rw [hdg.k9 x hx]; omega)), ints_fr hf hdg.ad.i1 (fun _ x hx => hn _ (by rw [hdg.k10 x hx]; omega))⟩, hf.cell hdg.c0 (hn D (by rw [hdg.k7]; omega)), hd, hdg.k7, hdg.k8, hdg.k9, hdg.k10, hdg.k11, hdg.k12⟩, h.dr.mv hf (fun k e h9 => by have := hE k e; omega) (fun _ _ => rfl) leR, hf.vrow h.gm (hn G (by rw [h.kg]; omega)), h.kg, fun k hk => h.nz k (leT hf.size hk), fun k hk => ⟨(h.nn k hk).1, ltL (h.nn k hk).2 hf.size⟩⟩⟩
theorem AG.abAB (h : AG z s g N q col G P D Dr a b nx w) (hr : AbOk a.NP P 4 (P + 1) a.vs (b.ms.length : Nat) (nx : Int) a.ps a.ks k er w w1) (hb : Below w1.heap.size w1 w1') (hr2 : DAbOk b.ND D (D + 1) b.vm (nx : Int) b.ms k er2 w1' w2) :
 er = er2 ∧ SOk z s g N q col G P D Dr w w2 := by
 obtain ⟨col1, vl', h1, hx, hf, hold, he⟩ := h.abA hr
 have h1' := h1.grown hb
 obtain ⟨hf2, h2⟩ := h1'.abB hr2
 have hfr : Fr (fun k => z < col k ∧ col k ≤ z + 24) w w2 := by
  refine ⟨hf2.os.trans (hb.os.trans hf.os), hf2.tape.trans (hb.tape.trans hf.tape), hf2.output.trans (hb.output.trans hf.output), leT hf.size (leT hb.size hf2.size), fun k hk hne => ?_⟩
  have hk1 : k < w1.heap.size := ltL hk hf.size
  refine (hf2.block k (ltL hk1 hb.size) (fun e => ?_)).trans ((hb.block k hk1).trans (hf.block k hk hne))
  rcases hx k with e2 | e2
  ·exact hne (by omega)
  ·have := hold k hk e2.1
   omega
 have hx2 : Ext z 1 24 col col1 w2 := hx.weak leR leR (leT hb.size hf2.size)
 have hlm : ∀ p ∈ lfZ a.ps k, p ∈ a.ps := fun p hp => (List.mem_filter.1 hp).1
 have hml := h.ml
 have hkl := h.kl
 rcases h2 with ⟨e1, e2, h3⟩ | ⟨n, e1, e2, e3, e4, h3⟩
 ·have hno : ¬ ∃ p ∈ a.ps, p.num = k := fun e => by
   have := (liveB_iff b.ms k).2 ((live_num h.lp k).1 e)
   rw [e1] at this
   cases this
  have hlen := (left_same a.ps k).2 hno
  rw [if_pos hlen] at he
  refine ⟨he.trans e2.symm, col1, _, b, nx, hx2, ⟨h3.pg, h3.dg, h3.dr.mv (Fr.refl (fun _ => False) w2) (fun _ e => e.elim) (fun _ _ => rfl) (by omega), h3.gm, h3.kg, h.lk, ?_, fun p hp => h.ky p (hlm p hp), h3.nz, h3.nn, by omega, by simp only; omega, h.nl⟩, hfr⟩
  simp only
  rw [left_all hlen]
  exact h.lp
 ·subst e1
  have hyes : ∃ p ∈ a.ps, p.num = (n : Int) := (live_num h.lp _).2 ⟨n, rfl, e2, e3⟩
  have hlen : ¬ (lfZ a.ps (n : Int)).length = a.ps.length := fun e => (left_same a.ps _).1 e hyes
  rw [if_neg hlen] at he
  have hol := offD_len b.ms n
  refine ⟨he.trans e4.symm, col1, { a with vl := vl', ps := lfZ a.ps (n : Int) }, { b with ms := offD b.ms n }, nx, hx2, ⟨?_, h3.dg, h3.dr.mv (Fr.refl (fun _ => False) w2) (fun _ e => e.elim) (fun _ _ => rfl) (by omega), h3.gm, h3.kg, h.lk, h.lp.off e2, fun p hp => h.ky p (hlm p hp), h3.nz, h3.nn, by simp only; omega, by simp only; omega, h.nl⟩, hfr⟩
  simp only
  rw [hol]
  exact h3.pg
theorem pAbandon_any (N : NPr) (P : Nat) (s : Int) (g : Nat) (v : Value) (h : Int) (xs : List Cel) (vl vs : Value) (md nx : Int) (ps : List PayD) (ks : LII) (k : Int) (w : World) (u : PP N w P s g v h xs vl vs md nx ps ks) (hpl : ps.length ≤ 1000000000000) :
 Calls Tryz.prog 20 #[.pointer (some ⟨P, 0, none⟩), .int .i64 k] w fun e w' => ∃ er, e = .returned (.int .i64 er) ∧ AbOk N P 4 (P + 1) vs md nx ps ks k er w w' := by
 have HL := hiD u.ls
 have hb : P + 1 ≤ w.heap.size := clT u.ls.c0
 clear u
 go_enter Tryz.func20, Tryz.ntmps20
 go_wp2_with fail
 refine (lAbandon_any N P 4 (P + 1) vl vs md nx ps ks k _ HL hb hpl).mono ?_
 rintro e w1 ⟨er, rfl, hr⟩
 have HR := hiD hr
 clear hr
 go_wp2
 go_ret
 exact ⟨er, rfl, HR⟩
theorem balanceA_any (w : World) (h : AG z s g N q col G P D Dr a b nx w) (hf : fitZ s (g : Int) = true) (hq : q ≤ 1048576) :
 Calls Tryz.prog 74 #[.pointer (some ⟨G, 0, none⟩)] w fun e w' => e = .returned (.bool true) ∧ Below w.heap.size w w' := by
 obtain ⟨hs, h1, h2⟩ := fitZ_yes hf
 have hg1 : 1 ≤ g := by omega
 have hg2 : g ≤ 20 := by omega
 have g0 : w.cell? ⟨G, 0, none⟩ = some (.pointer (some ⟨P, 0, none⟩)) := h.gm 0 (by simp)
 have g1 : w.cell? ⟨G, 1, none⟩ = some (.pointer (some ⟨D, 0, none⟩)) := h.gm 1 (by simp)
 have hGl : G < w.heap.size := clT g0
 obtain ⟨av, cv, hv, hat⟩ := h.pg.pp.pu.at
 have HP : Hid (PeW w P s g (.slice av a.xs.length cv) (b.bls.length : Nat)) := by have := pat_row h.pg.pp.pu; rw [hv] at this; exact this
 have HPM : Hid (PayM a.NP w P 4 a.ps a.ks) := h.pg.pp.ls.payM (by have := h.lp.len; have := h.ml; omega) (by have := h.kl; omega)
 have HAT := hiD hat
 have hlk := h.lk.here
 have h40 := h.lk.len
 have hml : b.ms.length ≤ 100000000 := by have := h.ml; omega
 have HX := hiD h
 have HVL : Hid _ := own_vals a.xs s g hlk.2.2.1
 have HOS : Hid (ownR (clR b.bls) (adrs s 0 100) (adrs s 1 100) (winR (clR b.bls) s g 0) (winR (clR b.bls) s g 1) = ownZ (kyZ a.xs s g) (cnC a.xs)) := by show _ = _; rw [← hlk.1]; exact own_sync a.xs s g (by omega)
 have hxl : a.xs.length ≤ 10000 := by have := hlk.2.2.2; omega
 have HOL : Hid ((ownZ (kyZ a.xs s g) (cnC a.xs)).length ≤ 100000) := by show _ ≤ _; have := ownZ_len (kyZ a.xs s g) (cnC a.xs); have := coinsC_len a.xs; omega
 have HFR : Hid (freeB a.ps a.ks = freeD b.ms) := by
  show _ = _
  funext x
  exact h.lp.free x
 have HGO := hiD h.lk.good
 clear h hat hlk hf h1 h2 hv
 go_enter Tryz.func74, Tryz.ntmps74
 go_wp2_with fail
 refine (pBalance_any a.NP a.ps a.ks P s g av a.xs.length cv (b.bls.length : Nat) a.xs _ hs hg1 hg2 HP HPM HAT rfl hxl HVL).mono ?_
 rintro e w1 ⟨rfl, hb1⟩
 have g1' := (hb1.cell (p := ⟨G, 1, none⟩) hGl).trans g1
 have HX1 := hiD (HX.out.grown hb1)
 rw [HFR.out]
 clear g0 g1 HP HAT HPM HX
 go_wp2_with fail
 refine (dBalance_any N b.ND D (D + 1) b.ao b.c b.bls s g b.ar b.cr b.ac b.cc b.vm (nx : Int) b.ms _ HX1.out.dg.dc HGO h40 HX1.out.dg.ad hg2 HX1.out.dg.dp hml (ownZ (kyZ a.xs s g) (cnC a.xs)) HOS HOL HVL).mono ?_
 rintro e w2 ⟨rfl, hb2⟩
 have hb02 := bwK hb1 hb2
 generalize sumC (ownZ (kyZ a.xs s g) (cnC a.xs)) = sa at *
 generalize sumC ((ownZ (kyZ a.xs s g) (cnC a.xs)).filter (freeD b.ms)) = sb at *
 go_wp2
 go_ret
 exact ⟨rbL (by simp), hb02⟩
end
end Go.Proofs.YtffgpepngcnjeabGreat
