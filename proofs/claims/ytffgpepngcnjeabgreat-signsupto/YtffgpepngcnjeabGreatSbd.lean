import Derived.Test.YtffgpepngcnjeabGreatSbc
namespace Go.Proofs.YtffgpepngcnjeabGreat
set_option maxRecDepth 100000
set_option maxHeartbeats 8000000
section
open Go.RowKit
variable {md tag er s md1 nx1 r : Int} {v0 v1 v2 v3 v4 v5 : Value} {base z g q G P D Dr nx K : Nat} {w w' wx wy w1 w3 : World} {N E XE XE' : NPr} {col col' : NtN} {a a1 : PgP} {b : DgP} {ys : LII}
theorem pres_shape {pz : Sum Int (List CoinD × LII × Int)} (h : PRes pz md tag v0 v1 v2 v3 v4 v5 er base w) : ∃ n0 t ai ni ci ap np cp ak nk ck ch, v0 = .int .i64 n0 ∧ v1 = .int .i64 t ∧ v2 = .slice ai ni ci ∧ v3 = .slice ap np cp ∧ v4 = .slice ak nk ck ∧ v5 = .int .i64 ch := by
 rcases h with ⟨x, _, _, h0, h1, h2, h3, h4, h5⟩ | ⟨cs, zs, ch, _, _, h0, h1, h5, h6⟩
 ·exact ⟨_, _, _, _, _, _, _, _, _, _, _, _, h0, h1, h2, h3, h4, h5⟩
 ·obtain ⟨ai, ci, e2, _⟩ := ORC.at inC3 h6.oi
  obtain ⟨ap, cp, e3, _⟩ := ORC.at kv2 h6.oo
  obtain ⟨ak, ck, e4, _⟩ := ORC.at kC2 h6.ok
  exact ⟨_, _, _, _, _, _, _, _, _, _, _, _, h0, h1, e2, e3, e4, h5⟩
structure S1 (z : Nat) (s : Int) (g : Nat) (N : NPr) (q : Nat) (col : NtN) (G P D Dr : Nat) (a : PgP) (b : DgP) (nx : Nat) (md1 nx1 : Int) (w : World) : Prop where
 pg : Pg col z w P s g (b.bls.length : Nat) a md1 nx1
 dg : Dg col z N w D s g b nx
 dr : DrA col z w Dr q
 gm : VRow w G 0 [.pointer (some ⟨P, 0, none⟩), .pointer (some ⟨D, 0, none⟩), .pointer (some ⟨Dr, 0, none⟩)]
 kg : col G = z + 6
 nz : ∀ k, w.heap.size ≤ k → col k = 0
 nn : ∀ k, N k → col k = 0 ∧ k < w.heap.size
theorem S1.mv (h : S1 z s g N q col G P D Dr a b nx md1 nx1 w) (hf : Fr E w w') (hE : ∀ k, E k → ¬ (z + 1 ≤ col k ∧ col k ≤ z + 24)) (hN : ∀ k, N k → ¬ E k) (hc : ∀ k, col k ≠ 0 → col' k = col k) (hn : ∀ k, N k → col' k = 0) (hz : ∀ k, w'.heap.size ≤ k → col' k = 0) : S1 z s g N q col' G P D Dr a b nx md1 nx1 w' :=
 ⟨h.pg.mv hf (fun k e h => hE k e (by omega)) hc, h.dg.mv hf (fun k e h => hE k e (by omega)) hN hc, h.dr.mv hf (fun k e h => hE k e (by omega)) hc leR, hf.vrow h.gm (fun e => hE G e (by rw [h.kg]; omega)), by rw [hc G (by rw [h.kg]; omega)]; exact h.kg, hz, fun k hk => ⟨hn k hk, ltL (h.nn k hk).2 hf.size⟩⟩
theorem S1.grown (h : S1 z s g N q col G P D Dr a b nx md1 nx1 w) (hb : Below w.heap.size w w') : S1 z s g N q col G P D Dr a b nx md1 nx1 w' :=
 h.mv (Fr.of_below hb (fun _ => False)) (fun _ e => e.elim) (fun _ _ e => e) (fun _ _ => rfl) (fun k hk => (h.nn k hk).1) (fun k hk => h.nz k (leT hb.size hk))
structure YA (z : Nat) (s : Int) (g : Nat) (N : NPr) (q : Nat) (col : NtN) (G P D Dr : Nat) (a : PgP) (b : DgP) (nx : Nat) (ys : LII) (r tag : Int) (XE : NPr) (w : World) (col1 : NtN) (a1 : PgP) (md1 nx1 : Int) (K : Nat) (v0 v1 v2 v3 v4 v5 : Value) (er : Int) (wx : World) : Prop where
 s1 : S1 z s g N (13 * q) col1 G P D Dr a1 b nx md1 nx1 wx
 ext : Ext z 1 24 col col1 wx
 old : ∀ k, k < w.heap.size → col k = 0 → col1 k = 0
 fr : Fr (fun k => (z < col k ∧ col k ≤ z + 24) ∨ XE k) w wx
 vb : VB wx K v0 v1 v2 v3 v4 v5
 kk : col1 K = 0 ∧ w.heap.size ≤ K
 res : PRes (payZ a.xs s g a.ps a.ks nx ys r tag) (b.ms.length : Nat) tag v0 v1 v2 v3 v4 v5 er w.heap.size wx
 lst : ∀ k, (v2.ownBlock = some k ∨ v3.ownBlock = some k ∨ v4.ownBlock = some k) → col1 k = 0 ∧ k ≠ K
 rel : PRel (payZ a.xs s g a.ps a.ks nx ys r tag) a a1 (b.ms.length : Nat) (nx : Int) md1 nx1 tag
theorem YA.fr' {col1 : NtN} (h : YA z s g N q col G P D Dr a b nx ys r tag XE w col1 a1 md1 nx1 K v0 v1 v2 v3 v4 v5 er wx) (hf : Fr E wx wy) (hE : ∀ k, E k → col1 k = 0 ∧ ¬ N k ∧ k ≠ K ∧ ¬ (v2.ownBlock = some k ∨ v3.ownBlock = some k ∨ v4.ownBlock = some k)) (hw : ∀ k, E k → XE' k) (hx : ∀ k, XE k → XE' k) : YA z s g N q col G P D Dr a b nx ys r tag XE' w col1 a1 md1 nx1 K v0 v1 v2 v3 v4 v5 er wy :=
 ⟨h.s1.mv hf (fun k e => by have := (hE k e).1; omega) (fun k hk e => (hE k e).2.1 hk) (fun _ _ => rfl) (fun k hk => (h.s1.nn k hk).1) (fun k hk => h.s1.nz k (leT hf.size hk)), h.ext.weak leR leR hf.size, h.old, (h.fr.weak (fun k _ e => e.imp id (hx k))).trans (hf.weak (fun k _ e => Or.inr (hw k e))), h.vb.fr hf (fun e => (hE K e).2.2.1 rfl), h.kk, h.res.fr hf (fun k hk e => (hE k e).2.2.2 hk), h.lst, h.rel⟩
theorem YA.grown {col1 : NtN} (h : YA z s g N q col G P D Dr a b nx ys r tag XE w col1 a1 md1 nx1 K v0 v1 v2 v3 v4 v5 er wx) (hb : Below wx.heap.size wx wy) : YA z s g N q col G P D Dr a b nx ys r tag XE w col1 a1 md1 nx1 K v0 v1 v2 v3 v4 v5 er wy :=
 h.fr' (Fr.of_below hb (fun _ => False)) (fun _ e => e.elim) (fun _ e => e.elim) (fun _ e => e)
theorem fr6K (w : World) (B : Nat) (b0 b1 b2 b3 b4 b5 : Value) : Fr (fun k => k = B) w ((((((w.setCell ⟨B, 0, none⟩ b0).setCell ⟨B, 1, none⟩ b1).setCell ⟨B, 2, none⟩ b2).setCell ⟨B, 3, none⟩ b3).setCell ⟨B, 4, none⟩ b4).setCell ⟨B, 5, none⟩ b5) :=
 ((((((Fr.refl (fun k => k = B) w).set B 0 b0 (fun _ => rfl)).set B 1 b1 (fun _ => rfl)).set B 2 b2 (fun _ => rfl)).set B 3 b3 (fun _ => rfl)).set B 4 b4 (fun _ => rfl)).set B 5 b5 (fun _ => rfl)
theorem AG.ya1 (h : AG z s g N q col G P D Dr a b nx w) (hb : Below w.heap.size w w1) (hr : PayOkR a.NP P s g a.v (b.bls.length : Nat) a.xs a.vl a.vs (b.ms.length : Nat) (nx : Int) a.ps a.ks ys r tag v0 v1 v2 v3 v4 v5 er w1 w3) :
 (∃ col1 a1 md1 nx1, YA z s g N q col G P D Dr a b nx ys r tag XE w col1 a1 md1 nx1 w3.heap.size v0 v1 v2 v3 v4 v5 er (w3.alloc (.cells #[v0, v1, v2, v3, v4, v5] 38))) ∧
 (∀ K, w.heap.size ≤ K → K < w1.heap.size → (∀ j, w1.frozen? ⟨K, j, none⟩ = false) → (∃ a0 a1 a2 a3 a4 a5, VB w1 K a0 a1 a2 a3 a4 a5) → ∃ col1 a1 md1 nx1, YA z s g N q col G P D Dr a b nx ys r tag XE w col1 a1 md1 nx1 K v0 v1 v2 v3 v4 v5 er ((((((w3.setCell ⟨K, 0, none⟩ v0).setCell ⟨K, 1, none⟩ v1).setCell ⟨K, 2, none⟩ v2).setCell ⟨K, 3, none⟩ v3).setCell ⟨K, 4, none⟩ v4).setCell ⟨K, 5, none⟩ v5)) := by
 have h1 := h.grown hb
 obtain ⟨col1, a1, md1, nx1, e1, e2, e3, e4, e5, e6, e7⟩ := h1.payA hr
 have hsz := hb.size
 have hkeep : ∀ k, col k ≠ 0 → col1 k = col k := fun k hk => e1.same hk
 have hz3 : ∀ k, w3.heap.size ≤ k → col1 k = 0 := Ext.zero (w := w1) e1 e3.size h1.nz
 have hnn : ∀ k, N k → col1 k = 0 ∧ k < w3.heap.size := fun k hk => ⟨e2 k (h1.nn k hk).2 (h1.nn k hk).1, ltL (h1.nn k hk).2 e3.size⟩
 have hS : S1 z s g N (13 * q) col1 G P D Dr a1 b nx md1 nx1 w3 := ⟨e4, h1.dg.mv e3 (fun k e => by omega) (fun k hk e => by have := (h1.nn k hk).1; omega) hkeep, h1.dr.mv e3 (fun k e => by omega) hkeep leR, e3.vrow h1.gm (fun e => by have := h1.kg; omega), by rw [hkeep G (by rw [h1.kg]; omega)]; exact h1.kg, hz3, hnn⟩
 have hfr : Fr (fun k => (z < col k ∧ col k ≤ z + 24) ∨ XE k) w w3 := (Fr.of_below hb _).trans (e3.weak (fun k _ e => Or.inl (by omega)))
 have hlow : PRes (payZ a.xs s g a.ps a.ks nx ys r tag) (b.ms.length : Nat) tag v0 v1 v2 v3 v4 v5 er w.heap.size w3 := by
  rcases e5 with e | ⟨cs, zs, ch, f1, f2, f3, f4, f5, f6⟩
  ·exact Or.inl e
  ·exact Or.inr ⟨cs, zs, ch, f1, f2, f3, f4, f5, f6.lower hsz⟩
 refine ⟨⟨col1, a1, md1, nx1, ?_⟩, fun K hK1 hK2 hKf ⟨b0, b1, b2, b3, b4, b5, hvb⟩ => ⟨col1, a1, md1, nx1, ?_⟩⟩
 ·have hb3 : Below w3.heap.size w3 (w3.alloc (.cells #[v0, v1, v2, v3, v4, v5] 38)) := (Below.refl _ _).alloc leR _
  exact ⟨hS.grown hb3, e1.weak leR leR hb3.size, fun k hk h0 => e2 k (by omega) h0, hfr.trans (Fr.of_below hb3 _), VB.new _ _ _ _ _ _ _ _, ⟨hz3 _ leR, leT hsz e3.size⟩, hlow.grown hb3, fun k hk => ⟨e6 k hk, fun e => by have := (hlow.blk k hk).2; omega⟩, e7⟩
 ·have hcK : col K = 0 := h.nz K hK1
  have hcK1 : col1 K = 0 := e2 K hK2 hcK
  have hf : Fr (fun k => k = K) w3 ((((((w3.setCell ⟨K, 0, none⟩ v0).setCell ⟨K, 1, none⟩ v1).setCell ⟨K, 2, none⟩ v2).setCell ⟨K, 3, none⟩ v3).setCell ⟨K, 4, none⟩ v4).setCell ⟨K, 5, none⟩ v5) := fr6K w3 K v0 v1 v2 v3 v4 v5
  have hvb3 := hvb.fr e3 (fun e => by omega)
  have hnK : ∀ k, (v2.ownBlock = some k ∨ v3.ownBlock = some k ∨ v4.ownBlock = some k) → k ≠ K := fun k hk e => by
   have := (e5.blk k hk).1
   omega
  exact ⟨hS.mv hf (fun k e => by rw [e, hcK1]; omega) (fun k hk e => by subst e; have := (h.nn k hk).2; omega) (fun _ _ => rfl) (fun k hk => (hnn k hk).1) (fun k hk => hz3 k (leT hf.size hk)), e1.weak leR leR hf.size, fun k hk h0 => e2 k (by omega) h0, Fr.trans_new2 hfr hf (fun k e => by omega), (((((hvb3.s0 v0).s1 v1).s2 v2).s3 v3).s4 v4).s5 v5, ⟨hcK1, hK1⟩, hlow.fr hf (fun k hk e => hnK k hk e), fun k hk => ⟨e6 k hk, hnK k hk⟩, e7⟩
theorem info28 : (Tryz.prog.info? 28).map (fun i => (i.zero, i.size, i.bytes)) = some (some (.slice none 0 0), 1, 24) := by kernel_rfl
theorem keepOuts_some (col : NtN) (z Dr q g n cc : Nat) (w : World) (hd : DrA col z w Dr q) (hz : ∀ k, w.heap.size ≤ k → col k = 0) (hr : Room w g (cc * 2)) (hgc : col g = 0) (hgw : g < w.heap.size) (hnc : n ≤ cc) (hq : q ≤ 20000000) (hcc : cc ≤ 9223372036854775807) :
 Calls Tryz.prog 173 #[.pointer (some ⟨Dr, 0, none⟩), .slice (some ⟨g, 0, none⟩) n cc] w fun e w' => e = .returned (.tuple #[]) ∧ KeptR col z Dr q (fun k => k = g) w w' := by
 obtain ⟨z0, n0⟩ := hd.n0
 have f0 := hd.fz 0
 have hDl : Dr < w.heap.size := hd.lt
 have hDg : Dr ≠ g := fun e => by have := hd.kd; rw [e, hgc] at this; omega
 have HR := hiD hr
 have HKD := hiD hd.kd
 have HZ := hiD hz
 have HLZ : Hid (∀ k, k = g → col k = 0) := fun k e => by rw [e]; exact hgc
 have e0 : (0 : Int) ≤ (cc : Int) := by omega
 have e1 : (cc : Int) ≤ (cc : Int) := by omega
 obtain ⟨z1, hz1e⟩ : ∃ z1, IntKind.i64.wrap (z0 + 1) = z1 := ⟨_, rfl⟩
 have HD1 : Hid (DrA col z (w.setCell ⟨Dr, 0, none⟩ (.int .i64 z1)) Dr q) := (hd.tick z1).1
 have c1 := (hd.tick z1).2
 have HW1 : Hid (Wrote (fun k => k = g ∨ k = Dr) w (w.setCell ⟨Dr, 0, none⟩ (.int .i64 z1))) := (Wrote.refl _ w).set Dr 0 _ (Or.inr rfl)
 have HS1 : Hid ((w.setCell ⟨Dr, 0, none⟩ (.int .i64 z1)).heap.size = w.heap.size) := by show _ = _; simp
 clear hd hr hz hgc
 go_enter Tryz.func173, Tryz.ntmps173
 go_wp2
 clear hz1e
 generalize w.setCell ⟨Dr, 0, none⟩ (.int .i64 z1) = w1 at *
 clear n0 f0
 go_loopw [5] (fun i wr => ∃ j : Nat, j ≤ cc ∧ i = .int .i64 j ∧ Wrote (fun k => k = g) w1 wr ∧ Hid (VRow wr g 0 ((List.replicate j z1).flatMap (ptF 3)))) (fun i _ => cc - (intOf i).toNat)
 case atStart => exact ⟨0, Nat.zero_le _, rfl, Wrote.refl _ _, fun j hj => by simp at hj⟩
 case round =>
  obtain ⟨j, hj, rfl, hw, hv⟩ := hrel
  have m0 := hw.fr.cell c1 hDg
  by_cases hjt : j < cc
  ·have hro := (HW1.out.trans (hw.weak (fun k _ e => Or.inl e))).room _ _ HR.out
   obtain ⟨v0, d0⟩ := hro.here (j * 2) (by omega)
   obtain ⟨v1, d1⟩ := hro.here (j * 2 + 1) (by omega)
   have fz0 := hro.free (j * 2) (by omega)
   have fz1 := hro.free (j * 2 + 1) (by omega)
   have e2 : (0 : Int) ≤ (j : Int) := by omega
   have e3 : (j : Int) < (cc : Int) := by omega
   have hgD : g ≠ Dr := fun e => hDg e.symm
   have HWW := hiD hw
   have HLL : Hid (((List.replicate j z1).flatMap (ptF 3)).length = j * 2) := rep_len (ptF 3) 2 (fun _ => rfl) j z1
   have HSN : Hid ((List.replicate (j + 1) z1).flatMap (ptF 3) = (List.replicate j z1).flatMap (ptF 3) ++ ptF 3 z1) := rep_snoc (ptF 3) j z1
   have HP0 := hiD hv.out
   have HP1 : Hid (VRow (wr.setCell ⟨g, j * 2, none⟩ (.int .i64 z1)) g 0 (((List.replicate j z1).flatMap (ptF 3)) ++ [.int .i64 z1])) := VRow.put HP0.out (n := j * 2) (by have := HLL.out; omega) _ ⟨_, d0⟩
   have HP2 : Hid (VRow ((wr.setCell ⟨g, j * 2, none⟩ (.int .i64 z1)).setCell ⟨g, j * 2 + 1, none⟩ (.int .i64 z1)) g 0 ((((List.replicate j z1).flatMap (ptF 3)) ++ [.int .i64 z1]) ++ [.int .i64 z1])) := VRow.put HP1.out (n := j * 2 + 1) (by simp only [List.length_append, List.length_cons, List.length_nil]; have := HLL.out; omega) _ ⟨_, so (d1) (by omega)⟩
   have HPF : Hid (VRow ((wr.setCell ⟨g, j * 2, none⟩ (.int .i64 z1)).setCell ⟨g, j * 2 + 1, none⟩ (.int .i64 z1)) g 0 ((List.replicate (j + 1) z1).flatMap (ptF 3))) := by show VRow _ _ _ _; rw [HSN.out]; show VRow _ g 0 ((List.replicate j z1).flatMap (ptF 3) ++ [.int .i64 z1, .int .i64 z1]); have := HP2.out; simpa only [List.append_assoc, List.cons_append, List.nil_append] using this
   clear hro hw hv HP0 HP1 HP2
   go_wp2
   go_region
   all_goals
    go_wp2
    go_roundw
    case rel => exact ⟨j + 1, by omega, by go_num, ((HWW.out.set g (j * 2) _ rfl).set g (j * 2 + 1) _ rfl).drew, HPF⟩
    case measure => simp [intOf]; omega
  ·have hjc : j = cc := by omega
   subst hjc
   have hwz := hw.fr.size
   have hD2 : DrA col z wr Dr q := HD1.out.mv hw.fr (fun k e => by rw [e, HLZ.out g rfl]; omega) (fun _ _ => rfl) leR
   have HXK : Hid (KeptAt (ptF 3) wr ⟨some ⟨g, 0, none⟩, j, j⟩ z1) := Or.inr ⟨g, rfl, hv.out⟩
   have HXC : Hid (∀ k, (CbD.mk (some ⟨g, 0, none⟩) j j).blk = some k → col k = 0 ∧ k < wr.heap.size) := fun k hk => by
    unfold CbD.blk at hk
    split at hk
    ·cases hk
    ·simp only [Option.map_some, Option.some.injEq] at hk
     subst hk
     exact ⟨HLZ _ rfl, by have := HS1.out; omega⟩
   have HXL : Hid (∀ k, (CbD.mk (some ⟨g, 0, none⟩) j j).blk = some k → k = g) := fun k hk => by
    unfold CbD.blk at hk
    split at hk
    ·cases hk
    ·simp only [Option.map_some, Option.some.injEq] at hk
     exact hk.symm
   have HZR : Hid (∀ k, wr.heap.size ≤ k → col k = 0) := fun k hk => HZ.out k (by have := HS1.out; omega)
   have HFW : Hid (Fr (fun k => k = Dr ∨ k = g) w wr) := (HW1.out.fr.weak (fun k _ e => e.elim Or.inr Or.inl)).trans (hw.fr.weak (fun k _ e => Or.inr e))
   clear hw hv hwz
   obtain ⟨V, W, cs, ns, hk⟩ := hD2.kn 3 (by omega) (by omega)
   have m5 := hk.ca
   have mf5 := hD2.fz 3
   have HD2 := hiD hD2
   have HK := hiD hk
   have HOC := hiD hk.oc
   have HLC : Hid (cs.length ≤ q) := by show _ ≤ _; rw [hk.ln]; exact hk.lq
   have HLN := hiD hk.lq
   clear hD2 hk
   go_upto_region 7 with (at_builtin; refine wtR 72 24 _ Tryz.underlying72 info28 rfl (by decide) cb1 cbv_one (wr.alloc (.cells #[.slice (some ⟨g, 0, none⟩) j j] 28)) rfl _ _ rfl 0 wr.heap.size 1 V cs ⟨some ⟨g, 0, none⟩, j, j⟩ (by rfl) (by rfl) (HOC.out.alloc _) (vwW _ _ _) (Nat.zero_le _) (by have := HLC.out; unfold maxLen; omega) (by have := HLC.out; omega) ?_; intro g5 cap5 w5 hown5 hg5 hl5 hlt5; have h6 := dr_one HD2 HK (by omega) HZR m0 HXK HXC rfl hown5 hg5 hl5; have k5 := h6.1; have kf5 := h6.2.1; have H6 : Hid _ := h6; clear h6)
   obtain ⟨_, _, hB6, fr6, ex6, ey6⟩ := H6.out
   have x0 := hB6.c0
   have x10 := hB6.cb
   have xf10 := hB6.fz 8
   have HB6 : Hid _ := hB6
   have HFR6 : Hid _ := fr6
   have HEX6 : Hid _ := ex6
   have HEY6 : Hid _ := ey6
   have hbv : some Dr ≠ W.ownBlock := fun e => by have h1 := hB6.kw _ e.symm; have h2 := hB6.kd; omega
   have HON := hiD hB6.on
   have hD6 : Dr < (w5.setCell ⟨Dr, 3, none⟩ (.slice (some ⟨g5, 0, none⟩) (cs.length + 1) cap5)).heap.size := clT x0
   clear k5 kf5 H6 m0 m5 mf5 hown5 hg5 hl5 hlt5 hB6 fr6 ex6 ey6 HOC
   generalize hw6 : w5.setCell ⟨Dr, 3, none⟩ (.slice (some ⟨g5, 0, none⟩) (cs.length + 1) cap5) = w6 at *
   have HW6 := hiD hw6
   clear hw6
   go_region_law (refine saR 44 8 _ Tryz.underlying44 info3 rfl (by decide) iv1 iv_one _ ?_ (.tmp 49) (.tmp 54) ?_ 0 w6.heap.size 1 W ns z1 ?_ ?_ ?_ ?_ ?_ ?_ ?_ ?_; rfl; rfl; rfl; rfl; exact ORC.drew (HON.out.alloc _); exact VRow.drew (vwW w6 _ _); exact Nat.zero_le _; (have := HLN.out; unfold maxLen; omega); (have := HLN.out; omega); intro g7 cap7 w7 hown7 hg7 hl7 hlt7; have k0 := keepO hg7 x10 hbv; have k1 := keepF hg7 xf10 hD6 hbv)
   all_goals
    go_wp2
    go_end0
    refine ⟨rfl, ?_⟩
    have e6 := HW6.out
    subst e6
    exact dr_end (a := 3) HKD HK.out.kv HK.out.kw (by omega) HZ HFW HXL HB6 HFR6 HEX6 HEY6 rfl hown7 hg7 hl7
theorem keepOuts_none (col : NtN) (z Dr q : Nat) (w : World) (hd : DrA col z w Dr q) (hz : ∀ k, w.heap.size ≤ k → col k = 0) (hq : q ≤ 20000000) :
 Calls Tryz.prog 173 #[.pointer (some ⟨Dr, 0, none⟩), .slice none 0 0] w fun e w' => e = .returned (.tuple #[]) ∧ KeptR col z Dr q (fun _ => False) w w' := by
 obtain ⟨z0, n0⟩ := hd.n0
 have f0 := hd.fz 0
 have hDl : Dr < w.heap.size := hd.lt
 have HKD := hiD hd.kd
 have HZ := hiD hz
 have HLZ : Hid (∀ k, False → col k = 0) := fun k e => e.elim
 obtain ⟨z1, hz1e⟩ : ∃ z1, IntKind.i64.wrap (z0 + 1) = z1 := ⟨_, rfl⟩
 have HD1 : Hid (DrA col z (w.setCell ⟨Dr, 0, none⟩ (.int .i64 z1)) Dr q) := (hd.tick z1).1
 have c1 := (hd.tick z1).2
 have HFW0 : Hid (Fr (fun k => k = Dr ∨ False) w (w.setCell ⟨Dr, 0, none⟩ (.int .i64 z1))) := (Fr.refl _ w).set Dr 0 _ (fun _ => Or.inl rfl)
 have HS1 : Hid ((w.setCell ⟨Dr, 0, none⟩ (.int .i64 z1)).heap.size = w.heap.size) := by show _ = _; simp
 clear hd hz
 go_enter Tryz.func173, Tryz.ntmps173
 go_wp2
 clear hz1e
 generalize w.setCell ⟨Dr, 0, none⟩ (.int .i64 z1) = w1 at *
 clear n0 f0
 refine wp_loop_rounds 1 ?_
 rw [rounds_succ]
 obtain ⟨wr, rfl⟩ : ∃ wr : World, wr = w1 := ⟨_, rfl⟩
 have m0 := c1
 have HFW := hiD HFW0.out
 have hD2 : DrA col z wr Dr q := HD1.out
 have HXK : Hid (KeptAt (ptF 3) wr ⟨none, 0, 0⟩ z1) := Or.inl rfl
 have HXC : Hid (∀ k, (CbD.mk none 0 0).blk = some k → col k = 0 ∧ k < wr.heap.size) := fun k hk => by
  unfold CbD.blk at hk
  rw [if_pos rfl] at hk
  cases hk
 have HXL : Hid (∀ k, (CbD.mk none 0 0).blk = some k → False) := fun k hk => by
  unfold CbD.blk at hk
  rw [if_pos rfl] at hk
  cases hk
 have HZR : Hid (∀ k, wr.heap.size ≤ k → col k = 0) := fun k hk => HZ.out k (by have := HS1.out; omega)
 clear c1
 obtain ⟨V, W, cs, ns, hk⟩ := hD2.kn 3 (by omega) (by omega)
 have m5 := hk.ca
 have mf5 := hD2.fz 3
 have HD2 := hiD hD2
 have HK := hiD hk
 have HOC := hiD hk.oc
 have HLC : Hid (cs.length ≤ q) := by show _ ≤ _; rw [hk.ln]; exact hk.lq
 have HLN := hiD hk.lq
 clear hD2 hk
 go_upto_region 7 with (at_builtin; refine wtR 72 24 _ Tryz.underlying72 info28 rfl (by decide) cb1 cbv_one (wr.alloc (.cells #[.slice none 0 0] 28)) rfl _ _ rfl 0 wr.heap.size 1 V cs ⟨none, 0, 0⟩ (by rfl) (by rfl) (HOC.out.alloc _) (vwW _ _ _) (Nat.zero_le _) (by have := HLC.out; unfold maxLen; omega) (by have := HLC.out; omega) ?_; intro g5 cap5 w5 hown5 hg5 hl5 hlt5; have h6 := dr_one HD2 HK (by omega) HZR m0 HXK HXC rfl hown5 hg5 hl5; have k5 := h6.1; have kf5 := h6.2.1; have H6 : Hid _ := h6; clear h6)
 obtain ⟨_, _, hB6, fr6, ex6, ey6⟩ := H6.out
 have x0 := hB6.c0
 have x10 := hB6.cb
 have xf10 := hB6.fz 8
 have HB6 : Hid _ := hB6
 have HFR6 : Hid _ := fr6
 have HEX6 : Hid _ := ex6
 have HEY6 : Hid _ := ey6
 have hbv : some Dr ≠ W.ownBlock := fun e => by have h1 := hB6.kw _ e.symm; have h2 := hB6.kd; omega
 have HON := hiD hB6.on
 have hD6 : Dr < (w5.setCell ⟨Dr, 3, none⟩ (.slice (some ⟨g5, 0, none⟩) (cs.length + 1) cap5)).heap.size := clT x0
 clear k5 kf5 H6 m0 m5 mf5 hown5 hg5 hl5 hlt5 hB6 fr6 ex6 ey6 HOC
 generalize hw6 : w5.setCell ⟨Dr, 3, none⟩ (.slice (some ⟨g5, 0, none⟩) (cs.length + 1) cap5) = w6 at *
 have HW6 := hiD hw6
 clear hw6
 go_region_law (refine saR 44 8 _ Tryz.underlying44 info3 rfl (by decide) iv1 iv_one _ ?_ (.tmp 49) (.tmp 54) ?_ 0 w6.heap.size 1 W ns z1 ?_ ?_ ?_ ?_ ?_ ?_ ?_ ?_; rfl; rfl; rfl; rfl; exact ORC.drew (HON.out.alloc _); exact VRow.drew (vwW w6 _ _); exact Nat.zero_le _; (have := HLN.out; unfold maxLen; omega); (have := HLN.out; omega); intro g7 cap7 w7 hown7 hg7 hl7 hlt7; have k0 := keepO hg7 x10 hbv; have k1 := keepF hg7 xf10 hD6 hbv)
 all_goals
  go_wp2
  go_end0
  refine ⟨rfl, ?_⟩
  have e6 := HW6.out
  subst e6
  exact dr_end (a := 3) HKD HK.out.kv HK.out.kw (by omega) HZ HFW HXL HB6 HFR6 HEX6 HEY6 rfl hown7 hg7 hl7
theorem keepOuts_any (col : NtN) (z Dr q : Nat) (v : Value) (w : World) (hd : DrA col z w Dr q) (hz : ∀ k, w.heap.size ≤ k → col k = 0) (hv : HdD 2 col w v) (hq : q ≤ 20000000) :
 Calls Tryz.prog 173 #[.pointer (some ⟨Dr, 0, none⟩), v] w fun e w' => e = .returned (.tuple #[]) ∧ KeptR col z Dr q (fun k => v.ownBlock = some k) w w' := by
 rcases hv with rfl | ⟨g, n, cc, rfl, h1, h2, h3, h4, h5⟩
 ·refine (keepOuts_none col z Dr q w hd hz hq).mono ?_
  rintro e w' ⟨rfl, h⟩
  exact ⟨rfl, h.weak (fun k e => e.elim)⟩
 ·refine (keepOuts_some col z Dr q g n cc w hd hz h1 h2 h3 h4 hq h5).mono ?_
  rintro e w' ⟨rfl, h⟩
  exact ⟨rfl, h.weak (fun k e => by rw [e]; rfl)⟩
theorem info44 : (Tryz.prog.info? 44).map (fun i => (i.zero, i.size, i.bytes)) = some (some (.slice none 0 0), 1, 24) := by kernel_rfl
theorem keepInts_some (col : NtN) (z Dr q g n cc : Nat) (w : World) (hd : DrA col z w Dr q) (hz : ∀ k, w.heap.size ≤ k → col k = 0) (hr : Room w g (cc * 1)) (hgc : col g = 0) (hgw : g < w.heap.size) (hnc : n ≤ cc) (hq : q ≤ 20000000) (hcc : cc ≤ 9223372036854775807) :
 Calls Tryz.prog 209 #[.pointer (some ⟨Dr, 0, none⟩), .slice (some ⟨g, 0, none⟩) n cc] w fun e w' => e = .returned (.tuple #[]) ∧ KeptR col z Dr q (fun k => k = g) w w' := by
 obtain ⟨z0, n0⟩ := hd.n0
 have f0 := hd.fz 0
 have hDl : Dr < w.heap.size := hd.lt
 have hDg : Dr ≠ g := fun e => by have := hd.kd; rw [e, hgc] at this; omega
 have HR := hiD hr
 have HKD := hiD hd.kd
 have HZ := hiD hz
 have HLZ : Hid (∀ k, k = g → col k = 0) := fun k e => by rw [e]; exact hgc
 have e0 : (0 : Int) ≤ (cc : Int) := by omega
 have e1 : (cc : Int) ≤ (cc : Int) := by omega
 obtain ⟨z1, hz1e⟩ : ∃ z1, IntKind.i64.wrap (z0 + 1) = z1 := ⟨_, rfl⟩
 have HD1 : Hid (DrA col z (w.setCell ⟨Dr, 0, none⟩ (.int .i64 z1)) Dr q) := (hd.tick z1).1
 have c1 := (hd.tick z1).2
 have HW1 : Hid (Wrote (fun k => k = g ∨ k = Dr) w (w.setCell ⟨Dr, 0, none⟩ (.int .i64 z1))) := (Wrote.refl _ w).set Dr 0 _ (Or.inr rfl)
 have HS1 : Hid ((w.setCell ⟨Dr, 0, none⟩ (.int .i64 z1)).heap.size = w.heap.size) := by show _ = _; simp
 clear hd hr hz hgc
 go_enter Tryz.func209, Tryz.ntmps209
 go_wp2
 clear hz1e
 generalize w.setCell ⟨Dr, 0, none⟩ (.int .i64 z1) = w1 at *
 clear n0 f0
 go_loopw [5] (fun i wr => ∃ j : Nat, j ≤ cc ∧ i = .int .i64 j ∧ Wrote (fun k => k = g) w1 wr ∧ Hid (VRow wr g 0 ((List.replicate j z1).flatMap (ptF 1)))) (fun i _ => cc - (intOf i).toNat)
 case atStart => exact ⟨0, Nat.zero_le _, rfl, Wrote.refl _ _, fun j hj => by simp at hj⟩
 case round =>
  obtain ⟨j, hj, rfl, hw, hv⟩ := hrel
  have m0 := hw.fr.cell c1 hDg
  by_cases hjt : j < cc
  ·have hro := (HW1.out.trans (hw.weak (fun k _ e => Or.inl e))).room _ _ HR.out
   obtain ⟨v0, d0⟩ := hro.here (j) (by omega)
   have fz0 := hro.free (j) (by omega)
   have e2 : (0 : Int) ≤ (j : Int) := by omega
   have e3 : (j : Int) < (cc : Int) := by omega
   have hgD : g ≠ Dr := fun e => hDg e.symm
   have HWW := hiD hw
   have HLL : Hid (((List.replicate j z1).flatMap (ptF 1)).length = j * 1) := rep_len (ptF 1) 1 (fun _ => rfl) j z1
   have HSN : Hid ((List.replicate (j + 1) z1).flatMap (ptF 1) = (List.replicate j z1).flatMap (ptF 1) ++ ptF 1 z1) := rep_snoc (ptF 1) j z1
   have HP0 := hiD hv.out
   have HP1 : Hid (VRow (wr.setCell ⟨g, j, none⟩ (.int .i64 z1)) g 0 (((List.replicate j z1).flatMap (ptF 1)) ++ [.int .i64 z1])) := VRow.put HP0.out (n := j) (by have := HLL.out; omega) _ ⟨_, d0⟩
   have HPF : Hid (VRow (wr.setCell ⟨g, j, none⟩ (.int .i64 z1)) g 0 ((List.replicate (j + 1) z1).flatMap (ptF 1))) := by show VRow _ _ _ _; rw [HSN.out]; show VRow _ g 0 ((List.replicate j z1).flatMap (ptF 1) ++ [.int .i64 z1]); have := HP1.out; simpa only [List.append_assoc, List.cons_append, List.nil_append] using this
   clear hro hw hv HP0 HP1
   go_wp2
   go_roundw
   case rel => exact ⟨j + 1, by omega, by go_num, (HWW.out.set g (j) _ rfl), HPF⟩
   case measure => simp [intOf]; omega
  ·have hjc : j = cc := by omega
   subst hjc
   have hwz := hw.fr.size
   have hD2 : DrA col z wr Dr q := HD1.out.mv hw.fr (fun k e => by rw [e, HLZ.out g rfl]; omega) (fun _ _ => rfl) leR
   have HXK : Hid (KeptAt (ptF 1) wr ⟨some ⟨g, 0, none⟩, j, j⟩ z1) := Or.inr ⟨g, rfl, hv.out⟩
   have HXC : Hid (∀ k, (CbD.mk (some ⟨g, 0, none⟩) j j).blk = some k → col k = 0 ∧ k < wr.heap.size) := fun k hk => by
    unfold CbD.blk at hk
    split at hk
    ·cases hk
    ·simp only [Option.map_some, Option.some.injEq] at hk
     subst hk
     exact ⟨HLZ _ rfl, by have := HS1.out; omega⟩
   have HXL : Hid (∀ k, (CbD.mk (some ⟨g, 0, none⟩) j j).blk = some k → k = g) := fun k hk => by
    unfold CbD.blk at hk
    split at hk
    ·cases hk
    ·simp only [Option.map_some, Option.some.injEq] at hk
     exact hk.symm
   have HZR : Hid (∀ k, wr.heap.size ≤ k → col k = 0) := fun k hk => HZ.out k (by have := HS1.out; omega)
   have HFW : Hid (Fr (fun k => k = Dr ∨ k = g) w wr) := (HW1.out.fr.weak (fun k _ e => e.elim Or.inr Or.inl)).trans (hw.fr.weak (fun k _ e => Or.inr e))
   clear hw hv hwz
   obtain ⟨V, W, cs, ns, hk⟩ := hD2.kn 1 (by omega) (by omega)
   have m5 := hk.ca
   have mf5 := hD2.fz 1
   have HD2 := hiD hD2
   have HK := hiD hk
   have HOC := hiD hk.oc
   have HLC : Hid (cs.length ≤ q) := by show _ ≤ _; rw [hk.ln]; exact hk.lq
   have HLN := hiD hk.lq
   clear hD2 hk
   go_upto_region 7 with (at_builtin; refine wtR 70 24 _ Tryz.underlying70 info44 rfl (by decide) cb1 cbv_one (wr.alloc (.cells #[.slice (some ⟨g, 0, none⟩) j j] 44)) rfl _ _ rfl 0 wr.heap.size 1 V cs ⟨some ⟨g, 0, none⟩, j, j⟩ (by rfl) (by rfl) (HOC.out.alloc _) (vwW _ _ _) (Nat.zero_le _) (by have := HLC.out; unfold maxLen; omega) (by have := HLC.out; omega) ?_; intro g5 cap5 w5 hown5 hg5 hl5 hlt5; have h6 := dr_one HD2 HK (by omega) HZR m0 HXK HXC rfl hown5 hg5 hl5; have k5 := h6.1; have kf5 := h6.2.1; have H6 : Hid _ := h6; clear h6)
   obtain ⟨_, _, hB6, fr6, ex6, ey6⟩ := H6.out
   have x0 := hB6.c0
   have x10 := hB6.cb
   have xf10 := hB6.fz 6
   have HB6 : Hid _ := hB6
   have HFR6 : Hid _ := fr6
   have HEX6 : Hid _ := ex6
   have HEY6 : Hid _ := ey6
   have hbv : some Dr ≠ W.ownBlock := fun e => by have h1 := hB6.kw _ e.symm; have h2 := hB6.kd; omega
   have HON := hiD hB6.on
   have hD6 : Dr < (w5.setCell ⟨Dr, 1, none⟩ (.slice (some ⟨g5, 0, none⟩) (cs.length + 1) cap5)).heap.size := clT x0
   clear k5 kf5 H6 m0 m5 mf5 hown5 hg5 hl5 hlt5 hB6 fr6 ex6 ey6 HOC
   generalize hw6 : w5.setCell ⟨Dr, 1, none⟩ (.slice (some ⟨g5, 0, none⟩) (cs.length + 1) cap5) = w6 at *
   have HW6 := hiD hw6
   clear hw6
   go_region_law (refine saR 44 8 _ Tryz.underlying44 info3 rfl (by decide) iv1 iv_one _ ?_ (.tmp 44) (.tmp 49) ?_ 0 w6.heap.size 1 W ns z1 ?_ ?_ ?_ ?_ ?_ ?_ ?_ ?_; rfl; rfl; rfl; rfl; exact ORC.drew (HON.out.alloc _); exact VRow.drew (vwW w6 _ _); exact Nat.zero_le _; (have := HLN.out; unfold maxLen; omega); (have := HLN.out; omega); intro g7 cap7 w7 hown7 hg7 hl7 hlt7; have k0 := keepO hg7 x10 hbv; have k1 := keepF hg7 xf10 hD6 hbv)
   all_goals
    go_wp2
    go_end0
    refine ⟨rfl, ?_⟩
    have e6 := HW6.out
    subst e6
    exact dr_end (a := 1) HKD HK.out.kv HK.out.kw (by omega) HZ HFW HXL HB6 HFR6 HEX6 HEY6 rfl hown7 hg7 hl7
theorem keepInts_none (col : NtN) (z Dr q : Nat) (w : World) (hd : DrA col z w Dr q) (hz : ∀ k, w.heap.size ≤ k → col k = 0) (hq : q ≤ 20000000) :
 Calls Tryz.prog 209 #[.pointer (some ⟨Dr, 0, none⟩), .slice none 0 0] w fun e w' => e = .returned (.tuple #[]) ∧ KeptR col z Dr q (fun _ => False) w w' := by
 obtain ⟨z0, n0⟩ := hd.n0
 have f0 := hd.fz 0
 have hDl : Dr < w.heap.size := hd.lt
 have HKD := hiD hd.kd
 have HZ := hiD hz
 have HLZ : Hid (∀ k, False → col k = 0) := fun k e => e.elim
 obtain ⟨z1, hz1e⟩ : ∃ z1, IntKind.i64.wrap (z0 + 1) = z1 := ⟨_, rfl⟩
 have HD1 : Hid (DrA col z (w.setCell ⟨Dr, 0, none⟩ (.int .i64 z1)) Dr q) := (hd.tick z1).1
 have c1 := (hd.tick z1).2
 have HFW0 : Hid (Fr (fun k => k = Dr ∨ False) w (w.setCell ⟨Dr, 0, none⟩ (.int .i64 z1))) := (Fr.refl _ w).set Dr 0 _ (fun _ => Or.inl rfl)
 have HS1 : Hid ((w.setCell ⟨Dr, 0, none⟩ (.int .i64 z1)).heap.size = w.heap.size) := by show _ = _; simp
 clear hd hz
 go_enter Tryz.func209, Tryz.ntmps209
 go_wp2
 clear hz1e
 generalize w.setCell ⟨Dr, 0, none⟩ (.int .i64 z1) = w1 at *
 clear n0 f0
 refine wp_loop_rounds 1 ?_
 rw [rounds_succ]
 obtain ⟨wr, rfl⟩ : ∃ wr : World, wr = w1 := ⟨_, rfl⟩
 have m0 := c1
 have HFW := hiD HFW0.out
 have hD2 : DrA col z wr Dr q := HD1.out
 have HXK : Hid (KeptAt (ptF 1) wr ⟨none, 0, 0⟩ z1) := Or.inl rfl
 have HXC : Hid (∀ k, (CbD.mk none 0 0).blk = some k → col k = 0 ∧ k < wr.heap.size) := fun k hk => by
  unfold CbD.blk at hk
  rw [if_pos rfl] at hk
  cases hk
 have HXL : Hid (∀ k, (CbD.mk none 0 0).blk = some k → False) := fun k hk => by
  unfold CbD.blk at hk
  rw [if_pos rfl] at hk
  cases hk
 have HZR : Hid (∀ k, wr.heap.size ≤ k → col k = 0) := fun k hk => HZ.out k (by have := HS1.out; omega)
 clear c1
 obtain ⟨V, W, cs, ns, hk⟩ := hD2.kn 1 (by omega) (by omega)
 have m5 := hk.ca
 have mf5 := hD2.fz 1
 have HD2 := hiD hD2
 have HK := hiD hk
 have HOC := hiD hk.oc
 have HLC : Hid (cs.length ≤ q) := by show _ ≤ _; rw [hk.ln]; exact hk.lq
 have HLN := hiD hk.lq
 clear hD2 hk
 go_upto_region 7 with (at_builtin; refine wtR 70 24 _ Tryz.underlying70 info44 rfl (by decide) cb1 cbv_one (wr.alloc (.cells #[.slice none 0 0] 44)) rfl _ _ rfl 0 wr.heap.size 1 V cs ⟨none, 0, 0⟩ (by rfl) (by rfl) (HOC.out.alloc _) (vwW _ _ _) (Nat.zero_le _) (by have := HLC.out; unfold maxLen; omega) (by have := HLC.out; omega) ?_; intro g5 cap5 w5 hown5 hg5 hl5 hlt5; have h6 := dr_one HD2 HK (by omega) HZR m0 HXK HXC rfl hown5 hg5 hl5; have k5 := h6.1; have kf5 := h6.2.1; have H6 : Hid _ := h6; clear h6)
 obtain ⟨_, _, hB6, fr6, ex6, ey6⟩ := H6.out
 have x0 := hB6.c0
 have x10 := hB6.cb
 have xf10 := hB6.fz 6
 have HB6 : Hid _ := hB6
 have HFR6 : Hid _ := fr6
 have HEX6 : Hid _ := ex6
 have HEY6 : Hid _ := ey6
 have hbv : some Dr ≠ W.ownBlock := fun e => by have h1 := hB6.kw _ e.symm; have h2 := hB6.kd; omega
 have HON := hiD hB6.on
 have hD6 : Dr < (w5.setCell ⟨Dr, 1, none⟩ (.slice (some ⟨g5, 0, none⟩) (cs.length + 1) cap5)).heap.size := clT x0
 clear k5 kf5 H6 m0 m5 mf5 hown5 hg5 hl5 hlt5 hB6 fr6 ex6 ey6 HOC
 generalize hw6 : w5.setCell ⟨Dr, 1, none⟩ (.slice (some ⟨g5, 0, none⟩) (cs.length + 1) cap5) = w6 at *
 have HW6 := hiD hw6
 clear hw6
 go_region_law (refine saR 44 8 _ Tryz.underlying44 info3 rfl (by decide) iv1 iv_one _ ?_ (.tmp 44) (.tmp 49) ?_ 0 w6.heap.size 1 W ns z1 ?_ ?_ ?_ ?_ ?_ ?_ ?_ ?_; rfl; rfl; rfl; rfl; exact ORC.drew (HON.out.alloc _); exact VRow.drew (vwW w6 _ _); exact Nat.zero_le _; (have := HLN.out; unfold maxLen; omega); (have := HLN.out; omega); intro g7 cap7 w7 hown7 hg7 hl7 hlt7; have k0 := keepO hg7 x10 hbv; have k1 := keepF hg7 xf10 hD6 hbv)
 all_goals
  go_wp2
  go_end0
  refine ⟨rfl, ?_⟩
  have e6 := HW6.out
  subst e6
  exact dr_end (a := 1) HKD HK.out.kv HK.out.kw (by omega) HZ HFW HXL HB6 HFR6 HEX6 HEY6 rfl hown7 hg7 hl7
theorem keepInts_any (col : NtN) (z Dr q : Nat) (v : Value) (w : World) (hd : DrA col z w Dr q) (hz : ∀ k, w.heap.size ≤ k → col k = 0) (hv : HdD 1 col w v) (hq : q ≤ 20000000) :
 Calls Tryz.prog 209 #[.pointer (some ⟨Dr, 0, none⟩), v] w fun e w' => e = .returned (.tuple #[]) ∧ KeptR col z Dr q (fun k => v.ownBlock = some k) w w' := by
 rcases hv with rfl | ⟨g, n, cc, rfl, h1, h2, h3, h4, h5⟩
 ·refine (keepInts_none col z Dr q w hd hz hq).mono ?_
  rintro e w' ⟨rfl, h⟩
  exact ⟨rfl, h.weak (fun k e => e.elim)⟩
 ·refine (keepInts_some col z Dr q g n cc w hd hz h1 h2 h3 h4 hq h5).mono ?_
  rintro e w' ⟨rfl, h⟩
  exact ⟨rfl, h.weak (fun k e => by rw [e]; rfl)⟩
theorem info33 : (Tryz.prog.info? 33).map (fun i => (i.zero, i.size, i.bytes)) = some (some (.slice none 0 0), 1, 24) := by kernel_rfl
abbrev InD.sv (x : InD) : Value := .slice x.ao x.n x.c
structure InsH (col : NtN) (w : World) (g : Nat) (xs : List InD) : Prop where
 c2 : ∀ j, j < xs.length → w.cell? ⟨g, j * 3 + 2, none⟩ = some (xs.getD j dIn).sv
 hd : ∀ j, j < xs.length → HdD 1 col w (xs.getD j dIn).sv
 ng : ∀ j, j < xs.length → (xs.getD j dIn).sv.ownBlock ≠ some g
 ne : ∀ i j, i < j → j < xs.length → ∀ k, (xs.getD i dIn).sv.ownBlock = some k → (xs.getD j dIn).sv.ownBlock ≠ some k
def slB (xs : List InD) (j k : Nat) : Prop := ∃ i, i < j ∧ (xs.getD i dIn).sv.ownBlock = some k
theorem keepIns_some (col0 : NtN) (z Dr q0 g n cc : Nat) (xs : List InD) (w0 : World) (hd : DrA col0 z w0 Dr q0) (hz : ∀ k, w0.heap.size ≤ k → col0 k = 0) (hr : Room w0 g (cc * 3)) (hgc : col0 g = 0) (hgw : g < w0.heap.size) (hnc : n ≤ cc) (hi : InsH col0 w0 g xs) (hn : xs.length = n) (hn1 : n ≤ 1000) (hq : q0 ≤ 19000000) (hcc : cc ≤ 9223372036854775807) :
 Calls Tryz.prog 172 #[.pointer (some ⟨Dr, 0, none⟩), .slice (some ⟨g, 0, none⟩) n cc] w0 fun e w' => e = .returned (.tuple #[]) ∧ KeptM col0 z Dr q0 (n + 1) (fun k => k = g ∨ slB xs n k) w0 w' := by
 have HI := hiD hi
 have HN := hiD hn
 have HR0 := hiD hr
 have HGC := hiD hgc
 have HZ0 := hiD hz
 have HD0 := hiD hd
 have e0 : (0 : Int) ≤ (cc : Int) := by omega
 have e1 : (cc : Int) ≤ (cc : Int) := by omega
 clear hi hn hr hgc hz hd
 go_enter Tryz.func172, Tryz.ntmps172
 go_wp2
 go_loopw [4] (fun i wr => ∃ j : Nat, j ≤ n ∧ i = .int .i64 j ∧ Hid (KeptM col0 z Dr q0 j (slB xs j) w0 wr)) (fun i _ => n - (intOf i).toNat)
 case atStart => exact ⟨0, Nat.zero_le _, rfl, col0, Ext.refl _ _ _ _ _, HD0, Fr.refl _ _, fun k h _ _ => h⟩
 case round =>
  obtain ⟨j, hj, rfl, hk⟩ := hrel
  obtain ⟨colj, hx1, hx2, hx3, hx4⟩ := hk.out
  have hgn : ¬ slB xs j g := fun ⟨i, hi, e⟩ => HI.out.ng i (by rw [HN.out]; omega) e
  have hgE : ¬ ((z + 13 ≤ col0 g ∧ col0 g ≤ z + 23) ∨ slB xs j g) := fun e => e.elim (fun e => by rw [HGC.out] at e; omega) hgn
  have hzj : ∀ k, wr.heap.size ≤ k → colj k = 0 := Ext.zero (w := w0) hx1 hx3.size HZ0.out
  by_cases hlt : j < n
  ·have c2 := hx3.cell (HI.out.c2 j (by rw [HN.out]; exact hlt)) hgE
   have HH : Hid (HdD 1 colj wr (xs.getD j dIn).sv) := (HI.out.hd j (by rw [HN.out]; exact hlt)).mv hx3 (fun b hb => by
    have hb0 : col0 b = 0 ∧ b < w0.heap.size := by
     rcases HI.out.hd j (by rw [HN.out]; exact hlt) with e | ⟨g', n', c', e, _, h2, h3, _, _⟩
     ·rw [e] at hb; cases hb
     ·rw [e] at hb; simp [Value.ownBlock] at hb; subst hb; exact ⟨h2, h3⟩
    have hnb : ¬ slB xs j b := fun ⟨i, hi, e⟩ => HI.out.ne i j hi (by rw [HN.out]; exact hlt) b e hb
    exact ⟨fun e => e.elim (fun e => by omega) hnb, hx4 b hb0.1 hb0.2 hnb⟩)
   have HZ9 := hiD hzj
   have HX2 := hiD hx2
   have HKM := hiD hk.out
   have HK9 : Hid (∀ w2, KeptR colj z Dr (q0 + j) (fun k => (xs.getD j dIn).sv.ownBlock = some k) wr w2 → KeptM col0 z Dr q0 (j + 1) (slB xs (j + 1)) w0 w2) := fun w2 h2 => by
    obtain ⟨c2', y1, y2, y3, y4⟩ := h2
    have hy3 := y3.size
    refine ⟨c2', hx1.trans y1 hy3, by rw [← Nat.add_assoc]; exact y2, ?_, fun k f1 f2 f3 => ?_⟩
    ·refine ⟨y3.os.trans hx3.os, y3.tape.trans hx3.tape, y3.output.trans hx3.output, leT hx3.size hy3, fun k hk he => ?_⟩
     have he1 : ¬ ((z + 13 ≤ col0 k ∧ col0 k ≤ z + 23) ∨ slB xs j k) := fun e => he (e.imp id (fun ⟨i, hi, e⟩ => ⟨i, by omega, e⟩))
     refine (y3.block k (ltL hk hx3.size) (fun e => ?_)).trans (hx3.block k hk he1)
     rcases e with e | e
     ·rcases hx1 k with e2 | e2
      ·exact he (Or.inl (by omega))
      ·have := hx4 k e2.1 hk (fun e => he1 (Or.inr e)); omega
     ·exact he (Or.inr ⟨j, by omega, e⟩)
    ·exact y4 k (hx4 k f1 f2 (fun ⟨i, hi, e⟩ => f3 ⟨i, by omega, e⟩)) (ltL f2 hx3.size) (fun e => f3 ⟨j, by omega, e⟩)
   clear hx1 hx2 hx3 hx4 hk hzj
   generalize (xs.getD j dIn) = y at *
   obtain ⟨y0, y1, y2, y3, y4, y5⟩ := y
   simp only [InD.sv] at c2
   have e2 : (0 : Int) ≤ (j : Int) := by omega
   have e3 : (j : Int) < (n : Int) := by omega
   go_wp2_with fail
   refine (keepInts_any colj z Dr (q0 + j) _ _ HX2 HZ9 HH (by omega)).mono ?_
   rintro e w2 ⟨rfl, hk2⟩
   have HK2 : Hid _ := HK9.out w2 hk2
   clear hk2 c2
   go_wp2
   go_roundw
   case rel => exact ⟨j + 1, by omega, by go_num, HK2⟩
   case measure => simp [intOf]; omega
  ·have hjn : j = n := by omega
   subst hjn
   obtain ⟨w, rfl⟩ : ∃ w : World, w = wr := ⟨_, rfl⟩
   obtain ⟨col, rfl⟩ : ∃ col : Nat → Nat, col = colj := ⟨_, rfl⟩
   obtain ⟨q, hqe⟩ : ∃ q, q = q0 + j := ⟨_, rfl⟩
   rw [← hqe] at hx2
   have hgc : col g = 0 := hx4 g HGC.out hgw hgn
   have hgw1 : g < w.heap.size := ltL hgw hx3.size
   have hr := Room.fr hx3 HR0.out hgE
   have HFIN : Hid (∀ w2, KeptR col z Dr q (fun k => k = g) w w2 → KeptM col0 z Dr q0 (j + 1) (fun k => k = g ∨ slB xs j k) w0 w2) := fun w2 h2 => by
    obtain ⟨c2', y1, y2, y3, y4⟩ := h2
    have hy3 := y3.size
    refine ⟨c2', hx1.trans y1 hy3, by rw [← Nat.add_assoc, ← hqe]; exact y2, ?_, fun k f1 f2 f3 => ?_⟩
    ·refine ⟨y3.os.trans hx3.os, y3.tape.trans hx3.tape, y3.output.trans hx3.output, leT hx3.size hy3, fun k hk he => ?_⟩
     have he1 : ¬ ((z + 13 ≤ col0 k ∧ col0 k ≤ z + 23) ∨ slB xs j k) := fun e => he (e.imp id Or.inr)
     refine (y3.block k (ltL hk hx3.size) (fun e => ?_)).trans (hx3.block k hk he1)
     rcases e with e | e
     ·rcases hx1 k with e2 | e2
      ·exact he (Or.inl (by omega))
      ·have := hx4 k e2.1 hk (fun e => he1 (Or.inr e)); omega
     ·exact he (Or.inr (Or.inl e))
    ·exact y4 k (hx4 k f1 f2 (fun e => f3 (Or.inr e))) (ltL f2 hx3.size) (fun e => f3 (Or.inl e))
   have hz := hzj
   have hd := hx2
   have hq9 : q ≤ 20000000 := by omega
   clear hx1 hx2 hx3 hx4 hk hzj hgn hgE HI HN HR0 HGC HZ0 HD0 hqe
   obtain ⟨z0, n0⟩ := hd.n0
   have f0 := hd.fz 0
   have hDl : Dr < w.heap.size := hd.lt
   have hDg : Dr ≠ g := fun e => by have := hd.kd; rw [e, hgc] at this; omega
   have HR := hiD hr
   have HKD := hiD hd.kd
   have HZ := hiD hz
   have HLZ : Hid (∀ k, k = g → col k = 0) := fun k e => by rw [e]; exact hgc
   obtain ⟨z1, hz1e⟩ : ∃ z1, IntKind.i64.wrap (z0 + 1) = z1 := ⟨_, rfl⟩
   have HD1 : Hid (DrA col z (w.setCell ⟨Dr, 0, none⟩ (.int .i64 z1)) Dr q) := (hd.tick z1).1
   have c1 := (hd.tick z1).2
   have HW1 : Hid (Wrote (fun k => k = g ∨ k = Dr) w (w.setCell ⟨Dr, 0, none⟩ (.int .i64 z1))) := (Wrote.refl _ w).set Dr 0 _ (Or.inr rfl)
   have HS1 : Hid ((w.setCell ⟨Dr, 0, none⟩ (.int .i64 z1)).heap.size = w.heap.size) := by show _ = _; simp
   clear hd hr hz hgc
   go_wp2
   clear hz1e
   generalize w.setCell ⟨Dr, 0, none⟩ (.int .i64 z1) = w1 at *
   clear n0 f0
   go_loopw [6] (fun i wr => ∃ i9 : Nat, i9 ≤ cc ∧ i = .int .i64 i9 ∧ Wrote (fun k => k = g) w1 wr ∧ Hid (VRow wr g 0 ((List.replicate i9 z1).flatMap (ptF 2)))) (fun i _ => cc - (intOf i).toNat)
   case atStart => exact ⟨0, Nat.zero_le _, rfl, Wrote.refl _ _, fun i9 hj => by simp at hj⟩
   case round =>
    obtain ⟨i9, hj, rfl, hw, hv⟩ := hrel
    have m0 := hw.fr.cell c1 hDg
    by_cases hjt : i9 < cc
    ·have hro := (HW1.out.trans (hw.weak (fun k _ e => Or.inl e))).room _ _ HR.out
     obtain ⟨v0, d0⟩ := hro.here (i9 * 3) (by omega)
     obtain ⟨v1, d1⟩ := hro.here (i9 * 3 + 1) (by omega)
     obtain ⟨v2, d2⟩ := hro.here (i9 * 3 + 2) (by omega)
     have fz0 := hro.free (i9 * 3) (by omega)
     have fz1 := hro.free (i9 * 3 + 1) (by omega)
     have fz2 := hro.free (i9 * 3 + 2) (by omega)
     have e2 : (0 : Int) ≤ (i9 : Int) := by omega
     have e3 : (i9 : Int) < (cc : Int) := by omega
     have hgD : g ≠ Dr := fun e => hDg e.symm
     have HWW := hiD hw
     have HLL : Hid (((List.replicate i9 z1).flatMap (ptF 2)).length = i9 * 3) := rep_len (ptF 2) 3 (fun _ => rfl) i9 z1
     have HSN : Hid ((List.replicate (i9 + 1) z1).flatMap (ptF 2) = (List.replicate i9 z1).flatMap (ptF 2) ++ ptF 2 z1) := rep_snoc (ptF 2) i9 z1
     have HP0 := hiD hv.out
     have HP1 : Hid (VRow (wr.setCell ⟨g, i9 * 3, none⟩ (.int .i64 z1)) g 0 (((List.replicate i9 z1).flatMap (ptF 2)) ++ [.int .i64 z1])) := VRow.put HP0.out (n := i9 * 3) (by have := HLL.out; omega) _ ⟨_, d0⟩
     have HP2 : Hid (VRow ((wr.setCell ⟨g, i9 * 3, none⟩ (.int .i64 z1)).setCell ⟨g, i9 * 3 + 1, none⟩ (.int .i64 z1)) g 0 ((((List.replicate i9 z1).flatMap (ptF 2)) ++ [.int .i64 z1]) ++ [.int .i64 z1])) := VRow.put HP1.out (n := i9 * 3 + 1) (by simp only [List.length_append, List.length_cons, List.length_nil]; have := HLL.out; omega) _ ⟨_, so (d1) (by omega)⟩
     have HP3 : Hid (VRow (((wr.setCell ⟨g, i9 * 3, none⟩ (.int .i64 z1)).setCell ⟨g, i9 * 3 + 1, none⟩ (.int .i64 z1)).setCell ⟨g, i9 * 3 + 2, none⟩ (.slice none 0 0)) g 0 (((((List.replicate i9 z1).flatMap (ptF 2)) ++ [.int .i64 z1]) ++ [.int .i64 z1]) ++ [.slice none 0 0])) := VRow.put HP2.out (n := i9 * 3 + 2) (by simp only [List.length_append, List.length_cons, List.length_nil]; have := HLL.out; omega) _ ⟨_, so (so (d2) (by omega)) (by omega)⟩
     have HPF : Hid (VRow (((wr.setCell ⟨g, i9 * 3, none⟩ (.int .i64 z1)).setCell ⟨g, i9 * 3 + 1, none⟩ (.int .i64 z1)).setCell ⟨g, i9 * 3 + 2, none⟩ (.slice none 0 0)) g 0 ((List.replicate (i9 + 1) z1).flatMap (ptF 2))) := by show VRow _ _ _ _; rw [HSN.out]; show VRow _ g 0 ((List.replicate i9 z1).flatMap (ptF 2) ++ [.int .i64 z1, .int .i64 z1, .slice none 0 0]); have := HP3.out; simpa only [List.append_assoc, List.cons_append, List.nil_append] using this
     clear hro hw hv HP0 HP1 HP2 HP3
     go_wp2
     go_region
     all_goals
      go_wp2
      go_roundw
      case rel => exact ⟨i9 + 1, by omega, by go_num, (((HWW.out.set g (i9 * 3) _ rfl).set g (i9 * 3 + 1) _ rfl).set g (i9 * 3 + 2) _ rfl).drew, HPF⟩
      case measure => simp [intOf]; omega
    ·have hjc : i9 = cc := by omega
     subst hjc
     have hwz := hw.fr.size
     have hD2 : DrA col z wr Dr q := HD1.out.mv hw.fr (fun k e => by rw [e, HLZ.out g rfl]; omega) (fun _ _ => rfl) leR
     have HXK : Hid (KeptAt (ptF 2) wr ⟨some ⟨g, 0, none⟩, i9, i9⟩ z1) := Or.inr ⟨g, rfl, hv.out⟩
     have HXC : Hid (∀ k, (CbD.mk (some ⟨g, 0, none⟩) i9 i9).blk = some k → col k = 0 ∧ k < wr.heap.size) := fun k hk => by
      unfold CbD.blk at hk
      split at hk
      ·cases hk
      ·simp only [Option.map_some, Option.some.injEq] at hk
       subst hk
       exact ⟨HLZ _ rfl, by have := HS1.out; omega⟩
     have HXL : Hid (∀ k, (CbD.mk (some ⟨g, 0, none⟩) i9 i9).blk = some k → k = g) := fun k hk => by
      unfold CbD.blk at hk
      split at hk
      ·cases hk
      ·simp only [Option.map_some, Option.some.injEq] at hk
       exact hk.symm
     have HZR : Hid (∀ k, wr.heap.size ≤ k → col k = 0) := fun k hk => HZ.out k (by have := HS1.out; omega)
     have HFW : Hid (Fr (fun k => k = Dr ∨ k = g) w wr) := (HW1.out.fr.weak (fun k _ e => e.elim Or.inr Or.inl)).trans (hw.fr.weak (fun k _ e => Or.inr e))
     clear hw hv hwz
     obtain ⟨V, W, cs, ns, hk⟩ := hD2.kn 2 (by omega) (by omega)
     have m5 := hk.ca
     have mf5 := hD2.fz 2
     have HD2 := hiD hD2
     have HK := hiD hk
     have HOC := hiD hk.oc
     have HLC : Hid (cs.length ≤ q) := by show _ ≤ _; rw [hk.ln]; exact hk.lq
     have HLN := hiD hk.lq
     clear hD2 hk
     go_upto_region 11 with (at_builtin; refine wtR 71 24 _ Tryz.underlying71 info33 rfl (by decide) cb1 cbv_one (wr.alloc (.cells #[.slice (some ⟨g, 0, none⟩) i9 i9] 33)) rfl _ _ rfl 0 wr.heap.size 1 V cs ⟨some ⟨g, 0, none⟩, i9, i9⟩ (by rfl) (by rfl) (HOC.out.alloc _) (vwW _ _ _) (Nat.zero_le _) (by have := HLC.out; unfold maxLen; omega) (by have := HLC.out; omega) ?_; intro g5 cap5 w5 hown5 hg5 hl5 hlt5; have h6 := dr_one HD2 HK (by omega) HZR m0 HXK HXC rfl hown5 hg5 hl5; have k5 := h6.1; have kf5 := h6.2.1; have H6 : Hid _ := h6; clear h6)
     obtain ⟨_, _, hB6, fr6, ex6, ey6⟩ := H6.out
     have x0 := hB6.c0
     have x10 := hB6.cb
     have xf10 := hB6.fz 7
     have HB6 : Hid _ := hB6
     have HFR6 : Hid _ := fr6
     have HEX6 : Hid _ := ex6
     have HEY6 : Hid _ := ey6
     have hbv : some Dr ≠ W.ownBlock := fun e => by have h1 := hB6.kw _ e.symm; have h2 := hB6.kd; omega
     have HON := hiD hB6.on
     have hD6 : Dr < (w5.setCell ⟨Dr, 2, none⟩ (.slice (some ⟨g5, 0, none⟩) (cs.length + 1) cap5)).heap.size := clT x0
     clear k5 kf5 H6 m0 m5 mf5 hown5 hg5 hl5 hlt5 hB6 fr6 ex6 ey6 HOC
     generalize hw6 : w5.setCell ⟨Dr, 2, none⟩ (.slice (some ⟨g5, 0, none⟩) (cs.length + 1) cap5) = w6 at *
     have HW6 := hiD hw6
     clear hw6
     go_region_law (refine saR 44 8 _ Tryz.underlying44 info3 rfl (by decide) iv1 iv_one _ ?_ (.tmp 63) (.tmp 68) ?_ 0 w6.heap.size 1 W ns z1 ?_ ?_ ?_ ?_ ?_ ?_ ?_ ?_; rfl; rfl; rfl; rfl; exact ORC.drew (HON.out.alloc _); exact VRow.drew (vwW w6 _ _); exact Nat.zero_le _; (have := HLN.out; unfold maxLen; omega); (have := HLN.out; omega); intro g7 cap7 w7 hown7 hg7 hl7 hlt7; have k0 := keepO hg7 x10 hbv; have k1 := keepF hg7 xf10 hD6 hbv)
     all_goals
      go_wp2
      go_end0
      refine ⟨rfl, ?_⟩
      have e6 := HW6.out
      subst e6
      exact HFIN _ (dr_end (a := 2) HKD HK.out.kv HK.out.kw (by omega) HZ HFW HXL HB6 HFR6 HEX6 HEY6 rfl hown7 hg7 hl7)
theorem keepIns_none (col : NtN) (z Dr q : Nat) (w : World) (hd : DrA col z w Dr q) (hz : ∀ k, w.heap.size ≤ k → col k = 0) (hq : q ≤ 20000000) :
 Calls Tryz.prog 172 #[.pointer (some ⟨Dr, 0, none⟩), .slice none 0 0] w fun e w' => e = .returned (.tuple #[]) ∧ KeptR col z Dr q (fun _ => False) w w' := by
 obtain ⟨z0, n0⟩ := hd.n0
 have f0 := hd.fz 0
 have hDl : Dr < w.heap.size := hd.lt
 have HKD := hiD hd.kd
 have HZ := hiD hz
 have HLZ : Hid (∀ k, False → col k = 0) := fun k e => e.elim
 obtain ⟨z1, hz1e⟩ : ∃ z1, IntKind.i64.wrap (z0 + 1) = z1 := ⟨_, rfl⟩
 have HD1 : Hid (DrA col z (w.setCell ⟨Dr, 0, none⟩ (.int .i64 z1)) Dr q) := (hd.tick z1).1
 have c1 := (hd.tick z1).2
 have HFW0 : Hid (Fr (fun k => k = Dr ∨ False) w (w.setCell ⟨Dr, 0, none⟩ (.int .i64 z1))) := (Fr.refl _ w).set Dr 0 _ (fun _ => Or.inl rfl)
 have HS1 : Hid ((w.setCell ⟨Dr, 0, none⟩ (.int .i64 z1)).heap.size = w.heap.size) := by show _ = _; simp
 clear hd hz
 go_enter Tryz.func172, Tryz.ntmps172
 go_wp2
 refine wp_loop_rounds 1 ?_
 rw [rounds_succ]
 go_wp2
 clear hz1e
 generalize w.setCell ⟨Dr, 0, none⟩ (.int .i64 z1) = w1 at *
 clear n0 f0
 refine wp_loop_rounds 1 ?_
 rw [rounds_succ]
 obtain ⟨wr, rfl⟩ : ∃ wr : World, wr = w1 := ⟨_, rfl⟩
 have m0 := c1
 have HFW := hiD HFW0.out
 have hD2 : DrA col z wr Dr q := HD1.out
 have HXK : Hid (KeptAt (ptF 2) wr ⟨none, 0, 0⟩ z1) := Or.inl rfl
 have HXC : Hid (∀ k, (CbD.mk none 0 0).blk = some k → col k = 0 ∧ k < wr.heap.size) := fun k hk => by
  unfold CbD.blk at hk
  rw [if_pos rfl] at hk
  cases hk
 have HXL : Hid (∀ k, (CbD.mk none 0 0).blk = some k → False) := fun k hk => by
  unfold CbD.blk at hk
  rw [if_pos rfl] at hk
  cases hk
 have HZR : Hid (∀ k, wr.heap.size ≤ k → col k = 0) := fun k hk => HZ.out k (by have := HS1.out; omega)
 clear c1
 obtain ⟨V, W, cs, ns, hk⟩ := hD2.kn 2 (by omega) (by omega)
 have m5 := hk.ca
 have mf5 := hD2.fz 2
 have HD2 := hiD hD2
 have HK := hiD hk
 have HOC := hiD hk.oc
 have HLC : Hid (cs.length ≤ q) := by show _ ≤ _; rw [hk.ln]; exact hk.lq
 have HLN := hiD hk.lq
 clear hD2 hk
 go_upto_region 11 with (at_builtin; refine wtR 71 24 _ Tryz.underlying71 info33 rfl (by decide) cb1 cbv_one (wr.alloc (.cells #[.slice none 0 0] 33)) rfl _ _ rfl 0 wr.heap.size 1 V cs ⟨none, 0, 0⟩ (by rfl) (by rfl) (HOC.out.alloc _) (vwW _ _ _) (Nat.zero_le _) (by have := HLC.out; unfold maxLen; omega) (by have := HLC.out; omega) ?_; intro g5 cap5 w5 hown5 hg5 hl5 hlt5; have h6 := dr_one HD2 HK (by omega) HZR m0 HXK HXC rfl hown5 hg5 hl5; have k5 := h6.1; have kf5 := h6.2.1; have H6 : Hid _ := h6; clear h6)
 obtain ⟨_, _, hB6, fr6, ex6, ey6⟩ := H6.out
 have x0 := hB6.c0
 have x10 := hB6.cb
 have xf10 := hB6.fz 7
 have HB6 : Hid _ := hB6
 have HFR6 : Hid _ := fr6
 have HEX6 : Hid _ := ex6
 have HEY6 : Hid _ := ey6
 have hbv : some Dr ≠ W.ownBlock := fun e => by have h1 := hB6.kw _ e.symm; have h2 := hB6.kd; omega
 have HON := hiD hB6.on
 have hD6 : Dr < (w5.setCell ⟨Dr, 2, none⟩ (.slice (some ⟨g5, 0, none⟩) (cs.length + 1) cap5)).heap.size := clT x0
 clear k5 kf5 H6 m0 m5 mf5 hown5 hg5 hl5 hlt5 hB6 fr6 ex6 ey6 HOC
 generalize hw6 : w5.setCell ⟨Dr, 2, none⟩ (.slice (some ⟨g5, 0, none⟩) (cs.length + 1) cap5) = w6 at *
 have HW6 := hiD hw6
 clear hw6
 go_region_law (refine saR 44 8 _ Tryz.underlying44 info3 rfl (by decide) iv1 iv_one _ ?_ (.tmp 63) (.tmp 68) ?_ 0 w6.heap.size 1 W ns z1 ?_ ?_ ?_ ?_ ?_ ?_ ?_ ?_; rfl; rfl; rfl; rfl; exact ORC.drew (HON.out.alloc _); exact VRow.drew (vwW w6 _ _); exact Nat.zero_le _; (have := HLN.out; unfold maxLen; omega); (have := HLN.out; omega); intro g7 cap7 w7 hown7 hg7 hl7 hlt7; have k0 := keepO hg7 x10 hbv; have k1 := keepF hg7 xf10 hD6 hbv)
 all_goals
  go_wp2
  go_end0
  refine ⟨rfl, ?_⟩
  have e6 := HW6.out
  subst e6
  exact dr_end (a := 2) HKD HK.out.kv HK.out.kw (by omega) HZ HFW HXL HB6 HFR6 HEX6 HEY6 rfl hown7 hg7 hl7
def HdI (col : NtN) (w : World) (v : Value) (xs : List InD) : Prop := (v = .slice none 0 0 ∧ xs = []) ∨ ∃ g n cc, v = .slice (some ⟨g, 0, none⟩) n cc ∧ Room w g (cc * 3) ∧ col g = 0 ∧ g < w.heap.size ∧ n ≤ cc ∧ cc ≤ 9223372036854775807 ∧ InsH col w g xs ∧ xs.length = n
theorem keepIns_any (col : NtN) (z Dr q : Nat) (v : Value) (xs : List InD) (w : World) (hd : DrA col z w Dr q) (hz : ∀ k, w.heap.size ≤ k → col k = 0) (hv : HdI col w v xs) (hn : xs.length ≤ 1000) (hq : q ≤ 19000000) :
 Calls Tryz.prog 172 #[.pointer (some ⟨Dr, 0, none⟩), v] w fun e w' => e = .returned (.tuple #[]) ∧ KeptM col z Dr q (xs.length + 1) (fun k => v.ownBlock = some k ∨ slB xs xs.length k) w w' := by
 rcases hv with ⟨rfl, rfl⟩ | ⟨g, n, cc, rfl, h1, h2, h3, h4, h5, h6, h7⟩
 ·refine (keepIns_none col z Dr q w hd hz (by omega)).mono ?_
  rintro e w' ⟨rfl, h⟩
  exact ⟨rfl, h.weak (fun k e => e.elim)⟩
 ·refine (keepIns_some col z Dr q g n cc xs w hd hz h1 h2 h3 h4 h6 h7 (by omega) hq h5).mono ?_
  rintro e w' ⟨rfl, h⟩
  rw [h7]
  exact ⟨rfl, h.weak (fun k e => e.imp (fun e => by rw [e]; rfl) id)⟩
end
end Go.Proofs.YtffgpepngcnjeabGreat
