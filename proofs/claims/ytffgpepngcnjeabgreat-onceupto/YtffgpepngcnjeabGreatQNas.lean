/-
  A book of payments: a payment more.
  A book of payments: pays.
-/
import Derived.Test.YtffgpepngcnjeabGreatQNao
import Derived.Test.YtffgpepngcnjeabGreatQNar
import Derived.Deep.RegionLaw
import Derived.Deep.DeepCutAuto
import Derived.BigQuiet
namespace Go.Proofs.YtffgpepngcnjeabGreatQ
open Go.RowKit
theorem copy_outsQ (ao : Option Addr) (n c : Nat) (ys : List (Int × Int)) (w : World) (hr : OutsAt w ao ys) (hn : ys.length = n) (hm : n ≤ 8796093022208) (h0 : ao = none → c = 0) :
    ∃ w1, Sem.run Tryz.prog (Builtin.copy_ #[28, 28] 3 #[.slice (some ⟨w.heap.size, 0, none⟩) n n, .slice ao n c]) (w.alloc (.cells (Go.madeCells #[.int .i64 0, .int .i64 0] (n * 2)) 93)) = .ok (.int .i64 n) w1 ∧
      OutsAt w1 (some ⟨w.heap.size, 0, none⟩) ys ∧ Below w.heap.size w w1 := by
  cases ao with
  | none =>
    have hy : ys = [] := by
      rcases hr with h | ⟨b, o, e, _⟩
      · exact h
      · cases e
    subst hy
    simp only [List.length_nil] at hn
    subst hn
    rw [h0 rfl]
    exact ⟨_, run_copy_nil Tryz.prog _ 28 28 3 93 _ _ _ Tryz.underlying28 (by rw [sizeInfo56]; rfl), Or.inl rfl, (Below.refl _ _).alloc (Nat.le_refl _) _⟩
  | some a =>
    have hheap := heap_made w (Go.madeCells #[Value.int .i64 0, .int .i64 0] (n * 2)) 93
    have hl : (outL ys).length = n * 2 := by rw [outL_len, hn]; omega
    have hcs := copy_src (W := w.alloc (.cells (Go.madeCells #[.int .i64 0, .int .i64 0] (n * 2)) 93)) (ints_of_outs hr) ((Below.refl _ _).alloc (Nat.le_refl _) _) w.heap.size
    have hsrc : ∀ (j : Nat) (v : Value), ((outL ys).map (Value.int .i64))[j]? = some v → (w.alloc (.cells (Go.madeCells #[.int .i64 0, .int .i64 0] (n * 2)) 93)).cell? (a.add j) = some v := by
      intro j v hj
      by_cases hp : 0 < ((outL ys).map (Value.int .i64)).length
      · obtain ⟨_, ad, e, h⟩ := hcs hp
        cases e
        exact h j v hj
      · have : (outL ys).map (Value.int .i64) = [] := List.length_eq_zero_iff.1 (by omega)
        rw [this] at hj
        simp at hj
    have hlm : ((outL ys).map (Value.int .i64)).length = n * 2 := by rw [List.length_map, hl]
    have hrun := run_copy_wide Tryz.prog (w.alloc (.cells (Go.madeCells #[.int .i64 0, .int .i64 0] (n * 2)) 93)) 28 28 3 93 w.heap.size 0 n n a n c (Go.madeCells #[Value.int .i64 0, .int .i64 0] (n * 2)) 93 ((outL ys).map (Value.int .i64)) 2 Tryz.underlying28 sizeInfo56 hheap (by rw [hlm, show n.min n = n from Nat.min_self n]) hsrc (by rw [hlm, size_madeCells]; omega) (ints_one _)
    have hh := setRow_heap (w.alloc (.cells (Go.madeCells #[.int .i64 0, .int .i64 0] (n * 2)) 93)) w.heap.size (Go.madeCells #[Value.int .i64 0, .int .i64 0] (n * 2)) (splice (Go.madeCells #[Value.int .i64 0, .int .i64 0] (n * 2)).toList 0 ((outL ys).map (Value.int .i64))).toArray 93 (0, 0) hheap
    refine ⟨(w.alloc (.cells (Go.madeCells #[.int .i64 0, .int .i64 0] (n * 2)) 93)).setRow w.heap.size (splice (Go.madeCells #[Value.int .i64 0, .int .i64 0] (n * 2)).toList 0 ((outL ys).map (Value.int .i64))).toArray, ?_, ?_, below_setRow ((Below.refl _ _).alloc (Nat.le_refl _) _) (Nat.le_refl _) _⟩
    · rw [hrun, show n.min n = n from Nat.min_self n]
      simp [splice, goInt]
    · have hsp : splice (Go.madeCells #[Value.int .i64 0, .int .i64 0] (n * 2)).toList 0 ((outL ys).map (Value.int .i64)) = ys.flatMap kV := by
        unfold splice
        rw [List.take_zero, List.nil_append, List.drop_of_length_le (by rw [Array.length_toList, size_madeCells, hlm]; omega), List.append_nil, kV_outL]
      rw [hsp] at hh
      have hfl : (ys.flatMap kV).length = n * 2 := by rw [← kV_outL, hlm]
      have hw : OwnRec kV 93 2 ((w.alloc (.cells (Go.madeCells #[.int .i64 0, .int .i64 0] (n * 2)) 93)).setRow w.heap.size (splice (Go.madeCells #[Value.int .i64 0, .int .i64 0] (n * 2)).toList 0 ((outL ys).map (Value.int .i64))).toArray) w.heap.size (.slice (some ⟨w.heap.size, 0, none⟩) n n) ys := by
        refine ⟨by rw [hfl, hn], Or.inr ⟨w.heap.size, n, (ys.flatMap kV).toArray, by rw [hn], Nat.le_refl _, ?_, by omega, by unfold maxLen; omega, by rw [List.size_toArray]; exact hfl, ?_⟩⟩
        · rw [hsp]; exact hh
        · rw [List.take_of_length_le (by simp [hfl, hn])]
      exact rec_outs (own_atS kv2 hw)
theorem payZ_err {xs : List Cel} {s : Int} {g : Nat} {ps : List PayD} {ks : List (Int × Int)} {nx : Int} {ys : List (Int × Int)} {r tag x : Int} (h : payZ xs s g ps ks nx ys r tag = .inl x) : x ≠ 0 := by
  have key : ∀ (L : List CoinD) (zs : List (Int × Int)) (c2 : Int), payFin xs tag L zs c2 = .inl x → x ≠ 0 := fun L zs c2 h => by
    unfold payFin at h
    split at h
    · injection h with h; omega
    · cases h
  unfold payZ at h
  split at h
  · injection h with h; omega
  split at h
  · injection h with h; omega
  split at h
  · injection h with h; omega
  split at h
  · split at h
    · injection h with h; omega
    · exact key _ _ _ h
  · exact key _ _ _ h
variable {NP ND : Nat → Prop} {w : World} {B P : Nat} {s : Int} {g : Nat} {v : Value} {h : Int} {xs : List Cel} {vl vs : Value} {md nx : Int} {ps : List PayD} {ks : List (Int × Int)} {vd : Value} {ds : List DeedD}
/-- what lies behind the call of Pay and the box of what it gave -/
structure PQ (NP : Nat → Prop) (P : Nat) (s : Int) (g : Nat) (v : Value) (h : Int) (xs : List Cel) (vl vs : Value) (md nx : Int) (ps : List PayD) (ks : List (Int × Int)) (ys : List (Int × Int)) (r tag : Int) (a0 a1 a2 a3 a4 a5 : Value) (er : Int) (K : Nat) (w w2 wx : World) : Prop where
  vb : VB wx K a0 a1 a2 a3 a4 a5
  pay : PayOkR NP P s g v h xs vl vs md nx ps ks ys r tag a0 a1 a2 a3 a4 a5 er w wx
  fr : Fr (fun k => k = P ∨ vl.ownBlock = some k) w2 wx
abbrev Z34 : Obj := .cells #[.int .i64 0, .int .i64 0, .slice none 0 0, .slice none 0 0, .slice none 0 0, .int .i64 0] 38
theorem PQ.one {ys : List (Int × Int)} {r tag : Int} {a0 a1 a2 a3 a4 a5 : Value} {er : Int} {w2 w3 : World} {X : Nat} (u : PP NP w P s g v h xs vl vs md nx ps ks) (hb : Below w.heap.size w w2) (hX : w.heap.size ≤ X) (hX2 : X < w2.heap.size) (hr : PayOkR NP P s g v h xs vl vs md nx ps ks ys r tag a0 a1 a2 a3 a4 a5 er w2.drew w3) :
    PQ NP P s g v h xs vl vs md nx ps ks ys r tag a0 a1 a2 a3 a4 a5 er w3.heap.size w w2 (w3.alloc (.cells #[a0, a1, a2, a3, a4, a5] 38)) :=
  ⟨VB.new w3 _ _ _ _ _ _ 38, hr.lift u hb.drew hX hX2 (Fr.of_below ((Below.refl _ _).alloc (Nat.le_refl _) _) _), ((Fr.of_below (Below.refl _ _).drew _).trans (payOkR_fr hr)).alloc _⟩
theorem PQ.two {ys : List (Int × Int)} {r tag : Int} {a0 a1 a2 a3 a4 a5 : Value} {er : Int} {w2 w3 : World} {K : Nat} (u : PP NP w P s g v h xs vl vs md nx ps ks) (hb : Below w.heap.size w w2) (hK : w2.heap.size = K) (hr : PayOkR NP P s g v h xs vl vs md nx ps ks ys r tag a0 a1 a2 a3 a4 a5 er ((w2.alloc Z34).drew) w3) :
    VB w3 K (.int .i64 0) (.int .i64 0) (.slice none 0 0) (.slice none 0 0) (.slice none 0 0) (.int .i64 0) ∧ PQ NP P s g v h xs vl vs md nx ps ks ys r tag a0 a1 a2 a3 a4 a5 er K w w2 ((((((w3.setCell ⟨K, 0, none⟩ a0).setCell ⟨K, 1, none⟩ a1).setCell ⟨K, 2, none⟩ a2).setCell ⟨K, 3, none⟩ a3).setCell ⟨K, 4, none⟩ a4).setCell ⟨K, 5, none⟩ a5) := by
  have hsz := hb.size
  have bB : Below w2.heap.size w2 ((w2.alloc Z34).drew) := ((Below.refl _ _).alloc (Nat.le_refl _) _).drew
  have hv0 : VB ((w2.alloc Z34).drew) K (.int .i64 0) (.int .i64 0) (.slice none 0 0) (.slice none 0 0) (.slice none 0 0) (.int .i64 0) := by rw [← hK]; exact (VB.new w2 _ _ _ _ _ _ 38).grown ((Below.refl _ _).drew)
  have hKP : ¬ (K = P ∨ vl.ownBlock = some K) := fun e => by
    rcases e with e | e
    · have : P < w.heap.size := cell_lt u.pu.c0
      omega
    · have := (u.ls.ol.blk K e).2
      omega
  have hv3 := hv0.fr (payOkR_fr hr) hKP
  refine ⟨hv3, ⟨(((((hv3.s0 a0).s1 a1).s2 a2).s3 a3).s4 a4).s5 a5, hr.lift u (below_blk hb bB) (by omega) (by rw [World.size_drew, World.size_alloc]; omega) (fr6K w3 K a0 a1 a2 a3 a4 a5), ?_⟩⟩
  exact Fr.trans_new2 ((Fr.of_below bB _).trans (payOkR_fr hr)) (fr6K w3 K a0 a1 a2 a3 a4 a5) (fun q hq => by omega)
theorem LkB.push (hl : LkB s ps ks ds) {p : PayD} {d : DeedD} (h1 : p.b = d.b) (h2 : d.lv = true) (h3 : d.sg = false) (h4 : d.num = (ds.length : Nat)) (h5 : PayI s p.tag p.cs p.ys) : LkB s (ps ++ [p]) ks (ds ++ [d]) := by
  refine ⟨?_, fun i hi => ?_, fun b i => ?_, fun q hq => ?_, fun q hq e => ?_⟩
  · rw [List.map_append, List.filter_append, List.map_append, hl.live]
    simp [h2, h1]
  · rw [List.length_append, List.length_singleton] at hi
    by_cases e : i < ds.length
    · have := hl.num i e
      simp only [List.getD, List.getElem?_append_left e] at this ⊢
      exact this
    · have e2 : i = ds.length := by omega
      subst e2
      simp [List.getD, h4]
  · rw [hl.used]
    unfold sealD
    rw [List.any_append]
    simp [h3]
  · rcases List.mem_append.1 hq with hq | hq
    · exact hl.py q hq
    · rw [List.mem_singleton.1 hq]; exact h5
  · rcases List.mem_append.1 hq with hq | hq
    · exact hl.sd q hq e
    · rw [List.mem_singleton.1 hq, h3] at e; cases e
/-- the book, and all below base left alone -/
def BkQ (base : Nat) (w : World) (B P : Nat) (s : Int) (g : Nat) (h : Int) (xs : List Cel) (ks : List (Int × Int)) (ds : List DeedD) : Prop :=
  ∃ NP ND v vl vs nx ps vd, Bk NP ND w B P s g v h xs vl vs (ds.length : Nat) nx ps ks vd ds ∧ LkB s ps ks ds ∧ ∀ k, (chE P v k ∨ lsE P vl vs k ∨ NP k ∨ k = B ∨ vd.ownBlock = some k ∨ ND k) → base ≤ k
theorem own_someQ {α : Type} {f : α → List Value} {e k : Nat} {w : World} {base n c : Nat} {ao : Option Addr} {l : List α} (h : OwnRec f e k w base (.slice ao n c) l) {x : Addr} (hx : ao = some x) : (Value.slice ao n c).ownBlock = some x.block := by
  subst hx; rfl
theorem Bk.push {base : Nat} (u : Bk NP ND w B P s g v h xs vl vs (ds.length : Nat) nx ps ks vd ds) (hlk : LkB s ps ks ds) (hba : ∀ k, (chE P v k ∨ lsE P vl vs k ∨ NP k ∨ k = B ∨ vd.ownBlock = some k ∨ ND k) → base ≤ k) {tag ch : Int} {cs : List CoinD} {zs : List (Int × Int)} {ai : Option Addr} {ni ci : Nat} {ap : Option Addr} {np cp : Nat} {ak : Option Addr} {nk ck : Nat} {wx W w7 : World} (hpay : PayGo NP P s g v h xs vl vs (ds.length : Nat) nx ps ks tag cs zs ch (.slice ai ni ci) (.slice ap np cp) (.slice ak nk ck) w wx) (hb : Below wx.heap.size wx W) {gd cd : Nat} {d : DeedD} (hown : OwnRec DeedD.v 135 11 w7 (B + 1) (.slice (some ⟨gd, 0, none⟩) (ds.length + 1) cd) (ds ++ [d])) (hg : W.grownBy w7 vd.ownBlock) (hl : vd.ownBlock = some gd ∨ W.heap.size ≤ gd)
    (d1 : d.num = (ds.length : Nat)) (d2 : d.cs = cs) (d3 : d.lv = true) (d4 : d.sg = false) (d5 : d.ai = ai) (d6 : d.ak = ak) (d7 : d.n = ni) (d8 : d.q = nk) (d9 : d.ap = ap) (d10 : d.m = np) (d11 : d.ys = zs) (d12 : d.tag = tag) (h10 : cs.length ≤ 10) (h8 : zs.length ≤ 8) (hpi : PayI s tag cs zs) :
    BkQ base (w7.setCell ⟨B, 2, none⟩ (.slice (some ⟨gd, 0, none⟩) (ds.length + 1) cd)) B P s g h xs ks (ds ++ [d]) ∧ Fr (fun k => base ≤ k) w (w7.setCell ⟨B, 2, none⟩ (.slice (some ⟨gd, 0, none⟩) (ds.length + 1) cd)) := by
  obtain ⟨vl', gc, cc, go, co, hpp, hpd, hfr, hsep⟩ := hpay
  have hBl : B < w.heap.size := cell_lt u.b0
  have hwx := hfr.size
  have hWs := hb.size
  have hPB := u.dj P (Or.inl (Or.inl rfl))
  have hold : ∀ k, (chE P v k ∨ lsE P vl vs k ∨ NP k) → k < w.heap.size := fun k hk => by
    rcases hk with hk | hk | hk
    · exact (u.pp.pu.blk k hk).2
    · exact u.pp.ls.blk k hk
    · exact (u.pp.ls.nN k hk).1
  have hvd : ∀ k, vd.ownBlock = some k → B < k ∧ k < w.heap.size := fun k hk => by have := u.od.blk k hk; omega
  -- from w to W
  have hE0 : ∀ k, (k = P ∨ vl.ownBlock = some k) → (chE P v k ∨ lsE P vl vs k ∨ NP k) := fun k e => by
    rcases e with e | e
    · exact Or.inl (Or.inl e)
    · exact Or.inr (Or.inl (Or.inr (Or.inl e)))
  have hfW : Fr (fun k => k = P ∨ vl.ownBlock = some k) w W := hfr.trans (Fr.of_below hb _)
  -- from W to the end
  have hfE : Fr (fun k => k = B ∨ vd.ownBlock = some k) W (w7.setCell ⟨B, 2, none⟩ (.slice (some ⟨gd, 0, none⟩) (ds.length + 1) cd)) := (Fr.of_gb hg (fun k hk _ => Or.inr hk)).set B 2 _ (fun _ => Or.inl rfl)
  have hfA : Fr (fun k => base ≤ k) w (w7.setCell ⟨B, 2, none⟩ (.slice (some ⟨gd, 0, none⟩) (ds.length + 1) cd)) := by
    refine (hfW.weak (fun k _ e => ?_)).trans (hfE.weak (fun k _ e => ?_))
    · rcases hE0 k e with e | e | e
      · exact hba k (Or.inl e)
      · exact hba k (Or.inr (Or.inl e))
      · exact hba k (Or.inr (Or.inr (Or.inl e)))
    · rcases e with e | e
      · exact hba k (Or.inr (Or.inr (Or.inr (Or.inl e))))
      · exact hba k (Or.inr (Or.inr (Or.inr (Or.inr (Or.inl e)))))
  have hbw : base ≤ w.heap.size := by have := hba B (Or.inr (Or.inr (Or.inr (Or.inl rfl)))); omega
  -- the purse's blocks, behind the payment
  have hNew : ∀ k, (chE P v k ∨ lsE P vl' vs k ∨ (NP k ∨ k = gc ∨ k = go)) → (chE P v k ∨ lsE P vl vs k ∨ NP k) ∨ (w.heap.size ≤ k ∧ k < wx.heap.size ∧ (Value.slice ai ni ci).ownBlock ≠ some k ∧ (Value.slice ap np cp).ownBlock ≠ some k ∧ (Value.slice ak nk ck).ownBlock ≠ some k) := fun k hk => by
    have new : (vl'.ownBlock = some k ∨ k = gc ∨ k = go) → (chE P v k ∨ lsE P vl vs k ∨ NP k) ∨ (w.heap.size ≤ k ∧ k < wx.heap.size ∧ (Value.slice ai ni ci).ownBlock ≠ some k ∧ (Value.slice ap np cp).ownBlock ≠ some k ∧ (Value.slice ak nk ck).ownBlock ≠ some k) := fun e => by
      rcases hsep k e with e2 | ⟨e2, e3, e4, e5⟩
      · exact Or.inl (Or.inr (Or.inl (Or.inr (Or.inl e2))))
      · refine Or.inr ⟨e2, ?_, e3, e4, e5⟩
        rcases e with e | e
        · exact (hpp.ls.ol.blk k e).2
        · exact (hpp.ls.nN k (Or.inr e)).1
    rcases hk with hk | hk | hk
    · exact Or.inl (Or.inl hk)
    · rcases hk with hk | hk | hk
      · exact Or.inl (Or.inl (Or.inl hk))
      · exact new (Or.inl hk)
      · exact Or.inl (Or.inr (Or.inl (Or.inr (Or.inr hk))))
    · rcases hk with hk | hk
      · exact Or.inl (Or.inr (Or.inr hk))
      · exact new (Or.inr hk)
  have hNB : ∀ k, (chE P v k ∨ lsE P vl' vs k ∨ (NP k ∨ k = gc ∨ k = go)) → ¬ (k = B ∨ vd.ownBlock = some k) := fun k hk e => by
    rcases hNew k hk with h1 | ⟨h1, _⟩
    · have := u.dj k h1
      exact e.elim this.1 this.2.1
    · rcases e with e | e
      · omega
      · have := hvd k e; omega
  have hppW := hpp.grown hb
  have hppE := hppW.fr hfE (fun k hk => hNB k (Or.inl hk)) (fun k hk => hNB k (Or.inr (Or.inl hk))) (fun k hk => hNB k (Or.inr (Or.inr hk)))
  have hBP : ¬ (B = P ∨ vl.ownBlock = some B) := fun e => (u.dj B (hE0 B e)).1 rfl
  have hBvd : some B ≠ vd.ownBlock := fun e => by have := hvd B e.symm; omega
  have hgdB : gd ≠ B := fun e => by
    rcases hl with h1 | h1
    · have := hvd gd h1; omega
    · omega
  have hndE : ∀ k, ND k → ¬ (k = P ∨ vl.ownBlock = some k) := fun k hk e => (u.dj k (hE0 k e)).2.2 hk
  have hndF : ∀ k, ND k → ¬ (k = B ∨ vd.ownBlock = some k) := fun k hk e => e.elim (u.nd k hk).2.1 (u.nd k hk).2.2
  have hiN : ∀ k, (Value.slice ai ni ci).ownBlock = some k → w.heap.size ≤ k ∧ k < wx.heap.size := hpd.oi.blk
  have hoN : ∀ k, (Value.slice ap np cp).ownBlock = some k → w.heap.size ≤ k ∧ k < wx.heap.size := hpd.oo.blk
  have hkN : ∀ k, (Value.slice ak nk ck).ownBlock = some k → w.heap.size ≤ k ∧ k < wx.heap.size := hpd.ok.blk
  have hnF : ∀ k, w.heap.size ≤ k → ¬ (k = B ∨ vd.ownBlock = some k) := fun k hk e => by
    rcases e with e | e
    · omega
    · have := hvd k e; omega
  have hlen : (ds ++ [d]).length = ds.length + 1 := by simp
  have hln : cs.length = ni := by
    obtain ⟨a', c', e', _⟩ := OwnRec.at inC3 hpd.oi
    injection e' with _ e' _; exact e'.symm
  have hlq : cs.length = nk := by
    obtain ⟨a', c', e', _⟩ := OwnRec.at kC2 hpd.ok
    injection e' with _ e' _; exact e'.symm
  have hlo : zs.length = np := by
    obtain ⟨a', c', e', _⟩ := OwnRec.at kv2 hpd.oo
    injection e' with _ e' _; exact e'.symm
  have hdok : DeedOk (fun k => ND k ∨ (Value.slice ai ni ci).ownBlock = some k ∨ (Value.slice ak nk ck).ownBlock = some k ∨ (Value.slice ap np cp).ownBlock = some k) (w7.setCell ⟨B, 2, none⟩ (.slice (some ⟨gd, 0, none⟩) (ds.length + 1) cd)) d := by
    refine ⟨?_, ?_, by rw [d2, d7]; exact hln, by rw [d7, d8, ← hln, ← hlq], by rw [d7, ← hln]; exact h10, fun _ x hx => ?_, fun _ x hx => ?_, ?_, by rw [d11, d10]; exact hlo, by rw [d10, ← hlo]; exact h8, fun _ x hx => ?_, fun e => by rw [d4] at e; cases e⟩
    · rw [d5, d2]
      exact rec_fr hfE ((own_atS inC3 hpd.oi).grown hb) (fun _ x hx => hnF _ (hiN _ (own_someQ hpd.oi hx)).1)
    · rw [d6, d2]
      exact rec_fr hfE ((own_atS kC2 hpd.ok).grown hb) (fun _ x hx => hnF _ (hkN _ (own_someQ hpd.ok hx)).1)
    · rw [d5] at hx
      exact Or.inr (Or.inl (own_someQ hpd.oi hx))
    · rw [d6] at hx
      exact Or.inr (Or.inr (Or.inl (own_someQ hpd.ok hx)))
    · rw [d9, d11]
      exact outsAt_fr hfE ((rec_outs (own_atS kv2 hpd.oo)).grown hb) (fun _ x hx => hnF _ (hoN _ (own_someQ hpd.oo hx)).1)
    · rw [d9] at hx
      exact Or.inr (Or.inr (Or.inr (own_someQ hpd.oo hx)))
  have hsz9 := hfE.size
  have hgd9 : gd < w7.heap.size := (hown.blk gd rfl).2
  have hnew9 : ∀ k, (chE P v k ∨ lsE P vl' vs k ∨ (NP k ∨ k = gc ∨ k = go)) → k < wx.heap.size := fun k hk => by
    rcases hNew k hk with h1 | h1
    · have := hold k h1; omega
    · exact h1.2.1
  have hlk2 : LkB s (ps ++ [⟨((ds.length : Nat) : Int), some ⟨gc, 0, none⟩, cs.length, cc, some ⟨go, 0, none⟩, zs.length, co, tag, false, cs, zs⟩]) ks (ds ++ [d]) := hlk.push (by unfold PayD.b DeedD.b; rw [d1, d2, d4, d11, d12]) d3 d4 d1 hpi
  refine ⟨⟨fun k => NP k ∨ k = gc ∨ k = go, fun k => ND k ∨ (Value.slice ai ni ci).ownBlock = some k ∨ (Value.slice ak nk ck).ownBlock = some k ∨ (Value.slice ap np cp).ownBlock = some k, v, vl', vs, (if nx ≤ ch then ch + 1 else nx), _, .slice (some ⟨gd, 0, none⟩) (ds.length + 1) cd, ⟨?_, ?_, ?_, ?_, fun j => ?_, ?_, fun d' hd' => ?_, fun k hk => ⟨?_, ?_, ?_⟩, fun k hk => ?_⟩, hlk2, fun k hk => ?_⟩, hfA⟩
  · rw [hlen]; push_cast; exact hppE
  · exact so (gb_cell hg (hfW.cell u.b0 hBP) hBvd) (by omega)
  · exact so (gb_cell hg (hfW.cell u.b1 hBP) hBvd) (by omega)
  · exact World.cell?_setCell_same _ _ _ (gb_cell hg (hfW.cell u.b2 hBP) hBvd)
  · rw [World.frozen?_setCell]
    exact (gb_frozen hg (by omega) hBvd).trans ((hfW.frozen hBl hBP).trans (u.fb j))
  · exact hown.gb (gb_set w7 B 2 _) (fun k hk e => by simp [Value.ownBlock] at hk; injection e with e; omega)
  · rcases List.mem_append.1 hd' with hd' | hd'
    · exact (((u.ok d' hd').fr hfW hndE).fr hfE hndF).more (fun k hk => Or.inl hk)
    · rw [List.mem_singleton.1 hd']; exact hdok
  · exact fun e => hNB k hk (Or.inl e)
  · intro e
    simp [Value.ownBlock] at e
    subst e
    rcases hl with h1 | h1
    · exact hNB _ hk (Or.inr h1)
    · have := hnew9 _ hk; omega
  · intro e
    rcases hNew k hk with h1 | ⟨h1, h2, h3, h5, h4⟩
    · rcases e with e | e | e | e
      · exact (u.dj k h1).2.2 e
      · have := (hiN k e).1; have := hold k h1; omega
      · have := (hkN k e).1; have := hold k h1; omega
      · have := (hoN k e).1; have := hold k h1; omega
    · rcases e with e | e | e | e
      · have := (u.nd k e).1; omega
      · exact h3 e
      · exact h4 e
      · exact h5 e
  · have hk2 : k < wx.heap.size ∧ ¬ (k = B ∨ vd.ownBlock = some k) := by
      rcases hk with hk | hk | hk | hk
      · exact ⟨by have := (u.nd k hk).1; omega, hndF k hk⟩
      · exact ⟨(hiN k hk).2, hnF k (hiN k hk).1⟩
      · exact ⟨(hkN k hk).2, hnF k (hkN k hk).1⟩
      · exact ⟨(hoN k hk).2, hnF k (hoN k hk).1⟩
    refine ⟨by omega, fun e => hk2.2 (Or.inl e), fun e => ?_⟩
    simp [Value.ownBlock] at e
    subst e
    rcases hl with h1 | h1
    · exact hk2.2 (Or.inr h1)
    · omega
  · have pur : (chE P v k ∨ lsE P vl' vs k ∨ (NP k ∨ k = gc ∨ k = go)) → base ≤ k := fun e => by
      rcases hNew k e with h1 | h1
      · rcases h1 with h1 | h1 | h1
        · exact hba k (Or.inl h1)
        · exact hba k (Or.inr (Or.inl h1))
        · exact hba k (Or.inr (Or.inr (Or.inl h1)))
      · omega
    rcases hk with hk | hk | hk | hk | hk | hk
    · exact pur (Or.inl hk)
    · exact pur (Or.inr (Or.inl hk))
    · exact pur (Or.inr (Or.inr hk))
    · exact hba k (Or.inr (Or.inr (Or.inr (Or.inl hk))))
    · simp [Value.ownBlock] at hk
      subst hk
      rcases hl with h1 | h1
      · exact hba _ (Or.inr (Or.inr (Or.inr (Or.inr (Or.inl h1)))))
      · omega
    · rcases hk with hk | hk | hk | hk
      · exact hba k (Or.inr (Or.inr (Or.inr (Or.inr (Or.inr hk)))))
      · have := (hiN k hk).1; omega
      · have := (hkN k hk).1; omega
      · have := (hoN k hk).1; omega
end Go.Proofs.YtffgpepngcnjeabGreatQ

namespace Go.Proofs.YtffgpepngcnjeabGreatQ
open Go.RowKit
theorem info135 : (Tryz.prog.info? 135).map (fun i => (i.zero, i.size, i.bytes)) = some (some (.agg #[.int .i64 0, .int .i64 0, .slice none 0 0, .slice none 0 0, .slice none 0 0, .int .i64 0, .int .i64 0, .slice none 0 0, .slice none 0 0, .bool false, .bool false]), 11, 160) := by kernel_rfl
variable {NP ND : Nat → Prop} {w : World} {B P : Nat} {s : Int} {g : Nat} {v : Value} {h : Int} {xs : List Cel} {vl vs : Value} {md nx : Int} {ps : List PayD} {ks : List (Int × Int)} {vd : Value} {ds : List DeedD}
theorem keepA3 {w : World} {G X K : Nat} {x y u : Value} {i j : Nat} (v0 v1 v2 v3 v4 v5 : Value) (h1 : G ≠ K) (h2 : X ≠ K) (h : w.cell? ⟨G, 0, none⟩ = some x ∧ w.cell? ⟨X, i, none⟩ = some y ∧ w.cell? ⟨X, j, none⟩ = some u) :
    ((((((w.setCell ⟨K, 0, none⟩ v0).setCell ⟨K, 1, none⟩ v1).setCell ⟨K, 2, none⟩ v2).setCell ⟨K, 3, none⟩ v3).setCell ⟨K, 4, none⟩ v4).setCell ⟨K, 5, none⟩ v5).cell? ⟨G, 0, none⟩ = some x ∧ ((((((w.setCell ⟨K, 0, none⟩ v0).setCell ⟨K, 1, none⟩ v1).setCell ⟨K, 2, none⟩ v2).setCell ⟨K, 3, none⟩ v3).setCell ⟨K, 4, none⟩ v4).setCell ⟨K, 5, none⟩ v5).cell? ⟨X, i, none⟩ = some y ∧ ((((((w.setCell ⟨K, 0, none⟩ v0).setCell ⟨K, 1, none⟩ v1).setCell ⟨K, 2, none⟩ v2).setCell ⟨K, 3, none⟩ v3).setCell ⟨K, 4, none⟩ v4).setCell ⟨K, 5, none⟩ v5).cell? ⟨X, j, none⟩ = some u := by
  have hf := fr6K w K v0 v1 v2 v3 v4 v5
  exact ⟨hf.cell h.1 h1, hf.cell h.2.1 h2, hf.cell h.2.2 h2⟩
/-- the book, as it lies behind a payment and before it is booked -/
structure BkM (ND : Nat → Prop) (w : World) (B P : Nat) (vd : Value) (ds : List DeedD) : Prop where
  b0 : w.cell? ⟨B, 0, none⟩ = some (.pointer (some ⟨P, 0, none⟩))
  b2 : w.cell? ⟨B, 2, none⟩ = some vd
  fb : ∀ j, w.frozen? ⟨B, j, none⟩ = false
  od : OwnRec DeedD.v 135 11 w (B + 1) vd ds
  ok : ∀ d ∈ ds, DeedOk ND w d
theorem Bk.notE (u : Bk NP ND w B P s g v h xs vl vs md nx ps ks vd ds) {k : Nat} (e : k = P ∨ vl.ownBlock = some k) : k ≠ B ∧ vd.ownBlock ≠ some k ∧ ¬ ND k := by
  rcases e with e | e
  · exact u.dj k (Or.inl (Or.inl e))
  · exact u.dj k (Or.inr (Or.inl (Or.inr (Or.inl e))))
theorem Bk.mid (u : Bk NP ND w B P s g v h xs vl vs md nx ps ks vd ds) {wx : World} (hf : Fr (fun k => k = P ∨ vl.ownBlock = some k) w wx) : BkM ND wx B P vd ds := by
  have hB : ¬ (B = P ∨ vl.ownBlock = some B) := fun e => (u.notE e).1 rfl
  exact ⟨hf.cell u.b0 hB, hf.cell u.b2 hB, fun j => (hf.frozen (cell_lt u.b0) hB).trans (u.fb j), hf.own u.od (fun k hk e => (u.notE e).2.1 hk), fun d hd => (u.ok d hd).fr hf (fun k hk e => (u.notE e).2.2 hk)⟩
theorem BkM.grown {w' : World} (u : BkM ND w B P vd ds) (hb : Below w.heap.size w w') : BkM ND w' B P vd ds :=
  ⟨(hb.cell (p := ⟨B, 0, none⟩) (cell_lt u.b0)).trans u.b0, (hb.cell (p := ⟨B, 2, none⟩) (cell_lt u.b2)).trans u.b2, fun j => (hb.frozen (p := ⟨B, j, none⟩) (show B < w.heap.size from cell_lt u.b0)).trans (u.fb j), u.od.grown hb, fun d hd => (u.ok d hd).grown hb⟩
theorem outs_pre {w : World} {ao : Option Addr} {zs ys : List (Int × Int)} {n : Nat} (h : OutsAt w ao zs) (hn : ys.length = n) (hz : zs.take ys.length = ys) : OutsAt w ao ys := by
  rcases h with h | ⟨b, off, e, hr⟩
  · subst h
    rw [List.take_nil] at hz
    exact Or.inl hz.symm
  · refine Or.inr ⟨b, off, e, fun j hj => ?_⟩
    have hj2 : j < zs.length := by
      have := congrArg List.length hz
      rw [List.length_take] at this
      omega
    have := hr j hj2
    have e2 : zs.getD j (0, 0) = ys.getD j (0, 0) := by
      have e3 := congrArg (fun l => l.getD j (0, 0)) hz
      simpa [List.getD, List.getElem?_take, hj] using e3
    have e4 : zs[j] = ys[j] := by simpa [List.getD, hj, hj2] using e2
    simpa [List.getD, hj, hj2, e4] using this
theorem outs_frQ {E : Nat → Prop} {w w' : World} (hf : Fr E w w') {ao : Option Addr} {ys : List (Int × Int)} (h : OutsAt w ao ys) (hn : ys ≠ [] → ∀ x, ao = some x → ¬ E x.block) : OutsAt w' ao ys := by
  by_cases e : ys = []
  · exact Or.inl e
  · rcases h with h | ⟨b, off, rfl, hr⟩
    · exact absurd h e
    · exact Or.inr ⟨b, off, rfl, fun j hj => ⟨hf.cell (hr j hj).1 (hn e _ rfl), hf.cell (hr j hj).2 (hn e _ rfl)⟩⟩
theorem own_len {α : Type} {f : α → List Value} {e k : Nat} (hf : ∀ x, (f x).length = k) {w : World} {base n c : Nat} {ao : Option Addr} {l : List α} (h : OwnRec f e k w base (.slice ao n c) l) : l.length = n := by
  obtain ⟨a', c', e', _⟩ := OwnRec.at hf h
  injection e' with _ e' _
  exact e'.symm
set_option maxRecDepth 100000 in
set_option maxHeartbeats 4000000 in
theorem bPays_any {base : Nat} (w : World) (u : Bk NP ND w B P s g v h xs vl vs (ds.length : Nat) nx ps ks vd ds) (hlk : LkB s ps ks ds) (hba : ∀ k, (chE P v k ∨ lsE P vl vs k ∨ NP k ∨ k = B ∨ vd.ownBlock = some k ∨ ND k) → base ≤ k) (hs : Mk.isM s = true) (hg : 1 ≤ g) (hg2 : g ≤ 20) (hxl : xs.length ≤ 5000) (hV : Vals xs) (hnm : (xs.map Cel.nm).Nodup) (hmk : Mks xs) (hdl : ds.length ≤ 1000000000) (hkl : ks.length ≤ 1000000000)
    (kd a b : Int) (ab : Option Addr) (m d : Nat) (oa : Option Addr) (om od : Nat) (ys : List (Int × Int)) (hy : OutsAt w oa ys) (hyl : ys.length = om) (hom : om ≤ 8796093022208) (h0 : oa = none → od = 0) (hyo : ys ≠ [] → ∀ x, oa = some x → x.block < base) :
    Calls Tryz.prog 23 #[.pointer (some ⟨B, 0, none⟩), .agg #[.int .i64 kd, .int .i64 a, .int .i64 b, .slice ab m d, .slice oa om od]] w fun e w' => e = .returned (.bool true) ∧ Fr (fun k => base ≤ k) w w' ∧ ∃ ds', BkQ base w' B P s g h xs ks ds' ∧ ds'.length ≤ ds.length + 1 := by
  have HMK : Hid (Mks xs) := hmk
  clear hmk
  have HU : Hid (Bk NP ND w B P s g v h xs vl vs (ds.length : Nat) nx ps ks vd ds) := u
  have HLK : Hid (LkB s ps ks ds) := hlk
  have HBA : Hid (∀ k, (chE P v k ∨ lsE P vl vs k ∨ NP k ∨ k = B ∨ vd.ownBlock = some k ∨ ND k) → base ≤ k) := hba
  have HV : Hid (Vals xs) := hV
  have HNM : Hid ((xs.map Cel.nm).Nodup) := hnm
  have HYL : Hid (ys.length = om) := hyl
  have HYO : Hid (ys ≠ [] → ∀ x, oa = some x → x.block < base) := hyo
  have HPL : Hid (ps.length ≤ 1000000000) := Nat.le_trans hlk.len hdl
  obtain ⟨av, cv, ev, hatv⟩ := u.pp.pu.at
  obtain ⟨ad, cd, ed, _⟩ := OwnRec.at deed11 u.od
  subst ed
  have HR : Hid (PRow4 w P s g (.slice av xs.length cv) h) := by have := paq_row u.pp.pu; rw [ev] at this; exact this
  have HX : Hid (CelsAt w av xs) := hatv
  have HOL : Hid ((ownOf xs s g).length ≤ 5000) := by show _ ≤ _; have := Nat.le_trans (ownZ_len (keysZ xs s g) (coinsC xs)) (coinsC_len xs); unfold ownOf; omega
  have bA : Below w.heap.size w (w.alloc (.cells #[.int .i64 kd, .int .i64 a, .int .i64 b, .slice ab m d, .slice oa om od] 62)) := (Below.refl _ _).alloc (Nat.le_refl _) _
  have x1 : (w.alloc (.cells #[.int .i64 kd, .int .i64 a, .int .i64 b, .slice ab m d, .slice oa om od] 62)).cell? ⟨w.heap.size, 1, none⟩ = some (.int .i64 a) := by go_simp
  have x2 : (w.alloc (.cells #[.int .i64 kd, .int .i64 a, .int .i64 b, .slice ab m d, .slice oa om od] 62)).cell? ⟨w.heap.size, 2, none⟩ = some (.int .i64 b) := by go_simp
  have x4 : (w.alloc (.cells #[.int .i64 kd, .int .i64 a, .int .i64 b, .slice ab m d, .slice oa om od] 62)).cell? ⟨w.heap.size, 4, none⟩ = some (.slice oa om od) := by go_simp
  have HB0 : Hid (Below w.heap.size w (w.alloc (.cells #[.int .i64 kd, .int .i64 a, .int .i64 b, .slice ab m d, .slice oa om od] 62))) := bA
  have HY0 : Hid (OutsAt (w.alloc (.cells #[.int .i64 kd, .int .i64 a, .int .i64 b, .slice ab m d, .slice oa om od] 62)) oa ys) := hy.grown bA
  have HR0 : Hid (PRow4 (w.alloc (.cells #[.int .i64 kd, .int .i64 a, .int .i64 b, .slice ab m d, .slice oa om od] 62)) P s g (.slice av xs.length cv) h) := VRow.grown HR.out bA
  have HX0 : Hid (CelsAt (w.alloc (.cells #[.int .i64 kd, .int .i64 a, .int .i64 b, .slice ab m d, .slice oa om od] 62)) av xs) := HX.out.grown bA
  have b0 : (w.alloc (.cells #[.int .i64 kd, .int .i64 a, .int .i64 b, .slice ab m d, .slice oa om od] 62)).cell? ⟨B, 0, none⟩ = some (.pointer (some ⟨P, 0, none⟩)) := (bA.cell (p := ⟨B, 0, none⟩) (cell_lt u.b0)).trans u.b0
  have hBw : B < w.heap.size := cell_lt u.b0
  clear u hlk hba hV hnm hyl hyo hatv ev HR HX bA hy
  go_enter Tryz.func23, Tryz.ntmps23
  go_upto_region 1 with fail
  generalize w.alloc (.cells #[.int .i64 kd, .int .i64 a, .int .i64 b, .slice ab m d, .slice oa om od] 62) = w0 at *
  generalize hX : w.heap.size = X at *
  have HXe : Hid (w.heap.size = X) := hX
  clear hX
  have hXl0 : X < w0.heap.size := cell_lt x1
  go_wp2_with fail
  refine (pCoins4 P s g av xs.length cv h xs _ hs hg hg2 HR0.out HX0.out rfl (by omega)).mono ?_
  rintro e w1 ⟨v1, rfl, hown, hb1⟩
  obtain ⟨al, cl, rfl, _⟩ := OwnRec.at coin6 hown
  have HOW1 : Hid (OwnRec CoinD.l 107 6 w1 w0.heap.size (.slice al (ownOf xs s g).length cl) (ownOf xs s g)) := hown
  have HY1 : Hid (OutsAt w1 oa ys) := HY0.out.grown hb1
  have y1 := (hb1.cell (p := ⟨X, 1, none⟩) hXl0).trans x1
  have y2 := (hb1.cell (p := ⟨X, 2, none⟩) hXl0).trans x2
  have y4 := (hb1.cell (p := ⟨X, 4, none⟩) hXl0).trans x4
  have c0 := (hb1.cell (p := ⟨B, 0, none⟩) (cell_lt b0)).trans b0
  have HB1 : Hid (Below X w w1) := HB0.out.trans (hb1.mono (by omega))
  have hs1 := hb1.size
  clear hown hb1 x1 x2 x4 b0 HY0 HR0 HX0 HB0
  have hmk := make_outsN om (by omega)
  obtain ⟨w2, hrun, hout, hb2⟩ := copy_outsQ oa om od ys w1 HY1.out HYL.out hom h0
  have y4m : (w1.alloc (.cells (Go.madeCells #[.int .i64 0, .int .i64 0] (om * 2)) 93)).cell? ⟨X, 4, none⟩ = some (.slice oa om od) := (((Below.refl w1.heap.size w1).alloc (Nat.le_refl _) (.cells (Go.madeCells #[.int .i64 0, .int .i64 0] (om * 2)) 93)).cell (p := ⟨X, 4, none⟩) (cell_lt y4)).trans y4
  go_upto_region 4 with fail
  clear hrun hmk y4m
  have HOW2 : Hid (OwnRec CoinD.l 107 6 w2 w0.heap.size (.slice al (ownOf xs s g).length cl) (ownOf xs s g)) := HOW1.out.grown hb2
  have HY2 : Hid (OutsAt w2 oa ys) := HY1.out.grown hb2
  have HYN : Hid (OutsAt w2 (some ⟨w1.heap.size, 0, none⟩) ys) := hout
  have z1 := (hb2.cell (p := ⟨X, 1, none⟩) (cell_lt y1)).trans y1
  have z2 := (hb2.cell (p := ⟨X, 2, none⟩) (cell_lt y2)).trans y2
  have z4 := (hb2.cell (p := ⟨X, 4, none⟩) (cell_lt y4)).trans y4
  have d0 := (hb2.cell (p := ⟨B, 0, none⟩) (cell_lt c0)).trans c0
  have HB2 : Hid (Below w.heap.size w w2) := by rw [HXe.out]; exact HB1.out.trans (hb2.mono (by omega))
  have hs2 := hb2.size
  have hon : (ownZ (keysZ xs s g) (coinsC xs)).length = (ownOf xs s g).length := rfl
  rw [hon]
  clear hon hb2 y1 y2 y4 c0 HY1 HOW1 HB1 hout
  generalize w1.heap.size = K2 at *
  generalize (ownOf xs s g).length = nl at *
  -- the call of Pay
  have bA : Below w2.heap.size w2 w2.drew := (Below.refl _ _).drew
  have bB : Below w2.heap.size w2 ((w2.alloc Z34).drew) := ((Below.refl _ _).alloc (Nat.le_refl _) _).drew
  have HUA : Hid (PP NP w2.drew P s g v h xs vl vs (ds.length : Nat) nx ps ks) := HU.out.pp.grown (below_blk HB2.out bA)
  have HUB : Hid (PP NP ((w2.alloc Z34).drew) P s g v h xs vl vs (ds.length : Nat) nx ps ks) := HU.out.pp.grown (below_blk HB2.out bB)
  have HYA : Hid (OutsAt w2.drew (some ⟨K2, 0, none⟩) ys) := HYN.out.grown bA
  have HYB : Hid (OutsAt ((w2.alloc Z34).drew) (some ⟨K2, 0, none⟩) ys) := HYN.out.grown bB
  have hBP : ¬ (B = P ∨ vl.ownBlock = some B) := fun e => (HU.out.notE e).1 rfl
  have hXP : ¬ (X = P ∨ vl.ownBlock = some X) := fun e => by
    have := HXe.out
    rcases e with e | e
    · have : P < w.heap.size := cell_lt HU.out.pp.pu.c0
      omega
    · have := (HU.out.pp.ls.ol.blk X e).2
      omega
  have HKA : Hid (∀ (w3 : World), Fr (fun k => k = P ∨ vl.ownBlock = some k) w2.drew w3 → w3.cell? ⟨B, 0, none⟩ = some (.pointer (some ⟨P, 0, none⟩)) ∧ w3.cell? ⟨X, 1, none⟩ = some (.int .i64 a) ∧ w3.cell? ⟨X, 2, none⟩ = some (.int .i64 b)) := fun w3 hf => ⟨hf.cell d0 hBP, hf.cell z1 hXP, hf.cell z2 hXP⟩
  have HSB : Hid (((w2.alloc Z34).drew).cell? ⟨B, 0, none⟩ = some (.pointer (some ⟨P, 0, none⟩)) ∧ ((w2.alloc Z34).drew).cell? ⟨X, 1, none⟩ = some (.int .i64 a) ∧ ((w2.alloc Z34).drew).cell? ⟨X, 2, none⟩ = some (.int .i64 b)) := ⟨(bB.cell (p := ⟨B, 0, none⟩) (cell_lt d0)).trans d0, (bB.cell (p := ⟨X, 1, none⟩) (cell_lt z1)).trans z1, (bB.cell (p := ⟨X, 2, none⟩) (cell_lt z2)).trans z2⟩
  have HKB : Hid (∀ (w3 : World), Fr (fun k => k = P ∨ vl.ownBlock = some k) ((w2.alloc Z34).drew) w3 → w3.cell? ⟨B, 0, none⟩ = some (.pointer (some ⟨P, 0, none⟩)) ∧ w3.cell? ⟨X, 1, none⟩ = some (.int .i64 a) ∧ w3.cell? ⟨X, 2, none⟩ = some (.int .i64 b)) := fun w3 hf => ⟨hf.cell HSB.out.1 hBP, hf.cell HSB.out.2.1 hXP, hf.cell HSB.out.2.2 hXP⟩
  obtain ⟨K0, hK0⟩ : ∃ K0, w2.heap.size = K0 := ⟨_, rfl⟩
  have HK0 : Hid (w2.heap.size = K0) := hK0
  have hX2l : X < K0 := by omega
  have hB2l : B < K0 := by omega
  have hXn : X ≠ K0 := by omega
  have hBn : B ≠ K0 := by omega
  have HQ1 : Hid (∀ (w3 : World) v0 v1 v2 v3 v4 v5 er, PayOkR NP P s g v h xs vl vs (ds.length : Nat) nx ps ks ys a b v0 v1 v2 v3 v4 v5 er w2.drew w3 → PQ NP P s g v h xs vl vs (ds.length : Nat) nx ps ks ys a b v0 v1 v2 v3 v4 v5 er w3.heap.size w w2 (w3.alloc (.cells #[v0, v1, v2, v3, v4, v5] 38))) := fun w3 v0 v1 v2 v3 v4 v5 er hr => PQ.one (X := X) HU.out.pp HB2.out (by rw [HXe.out]; exact Nat.le_refl _) (by omega) hr
  have HQ2 : Hid (∀ (w3 : World) v0 v1 v2 v3 v4 v5 er, PayOkR NP P s g v h xs vl vs (ds.length : Nat) nx ps ks ys a b v0 v1 v2 v3 v4 v5 er ((w2.alloc Z34).drew) w3 → VB w3 K0 (.int .i64 0) (.int .i64 0) (.slice none 0 0) (.slice none 0 0) (.slice none 0 0) (.int .i64 0) ∧ PQ NP P s g v h xs vl vs (ds.length : Nat) nx ps ks ys a b v0 v1 v2 v3 v4 v5 er K0 w w2 ((((((w3.setCell ⟨K0, 0, none⟩ v0).setCell ⟨K0, 1, none⟩ v1).setCell ⟨K0, 2, none⟩ v2).setCell ⟨K0, 3, none⟩ v3).setCell ⟨K0, 4, none⟩ v4).setCell ⟨K0, 5, none⟩ v5)) := fun w3 v0 v1 v2 v3 v4 v5 er hr => PQ.two HU.out.pp HB2.out HK0.out hr
  have hmd : (0 : Int) ≤ (ds.length : Nat) ∧ ((ds.length : Nat) : Int) ≤ 4611686018427387904 := by omega
  have HPL2 : Hid (ps.length ≤ 1000000000000) := Nat.le_trans HPL.out (by omega)
  have HKL2 : Hid (ks.length ≤ 1000000000000) := Nat.le_trans hkl (by omega)
  go_cut [7, 8] (fun uk uf wx => ∃ (K : Nat) (n0 t : Int) (ai : Option Addr) (ni ci : Nat) (ap : Option Addr) (np cp : Nat) (ak : Option Addr) (nk ck : Nat) (ch er : Int), uk = .pointer (some ⟨K, 0, none⟩) ∧ uf = .int .i64 er ∧ Hid (PQ NP P s g v h xs vl vs (ds.length : Nat) nx ps ks ys a b (.int .i64 n0) (.int .i64 t) (.slice ai ni ci) (.slice ap np cp) (.slice ak nk ck) (.int .i64 ch) er K w w2 wx))
  case first =>
    clear bA bB z4 HOW2 HY2 HYN HLK HBA HNM HYO HOL hXl0 hs1 hs2
    go_region_held3 (fun w' => w'.cell? ⟨B, 0, none⟩ = some (.pointer (some ⟨P, 0, none⟩)) ∧ w'.cell? ⟨X, 1, none⟩ = some (.int .i64 a) ∧ w'.cell? ⟨X, 2, none⟩ = some (.int .i64 b)) (first | go_keep | exact keepA3 _ _ _ _ _ _ hBn hXn ⟨s1, s2, s3⟩) (first | (go_at_call 34; (with_reducible refine (pay_any NP P s g v h xs vl vs (ds.length : Nat) nx ps ks (some ⟨K2, 0, none⟩) om om ys a b w2.drew hs hg hg2 HUA.out hxl HV.out HYA.out HYL.out hmd HPL2.out HKL2.out).mono ?_); rintro e w3 ⟨v0, v1, v2, v3, v4, v5, er, rfl, hpayA⟩; obtain ⟨n0, t, ai, ni, ci, ap, np, cp, ak, nk, ck, ch, rfl, rfl, rfl, rfl, rfl, rfl⟩ := payOkR_vals hpayA; have hS9 := HKA.out _ (payOkR_fr hpayA); obtain ⟨s1, s2, s3⟩ := hS9; have hBw : B < w3.heap.size := cell_lt s1; have hXw : X < w3.heap.size := cell_lt s2; have HPA : Hid (PayOkR NP P s g v h xs vl vs (ds.length : Nat) nx ps ks ys a b (.int .i64 n0) (.int .i64 t) (.slice ai ni ci) (.slice ap np cp) (.slice ak nk ck) (.int .i64 ch) er w2.drew w3) := hpayA; clear hpayA) | (go_at_call 34; (with_reducible refine (pay_any NP P s g v h xs vl vs (ds.length : Nat) nx ps ks (some ⟨K2, 0, none⟩) om om ys a b ((w2.alloc Z34).drew) hs hg hg2 HUB.out hxl HV.out HYB.out HYL.out hmd HPL2.out HKL2.out).mono ?_); rintro e w3 ⟨v0, v1, v2, v3, v4, v5, er, rfl, hpayB⟩; obtain ⟨n0, t, ai, ni, ci, ap, np, cp, ak, nk, ck, ch, rfl, rfl, rfl, rfl, rfl, rfl⟩ := payOkR_vals hpayB; have hS9 := HKB.out _ (payOkR_fr hpayB); obtain ⟨s1, s2, s3⟩ := hS9; obtain ⟨k0, k1, k2, k3, k4, k5, kz⟩ := (HQ2.out _ _ _ _ _ _ _ _ hpayB).1; have kf0 := kz 0; have kf1 := kz 1; have kf2 := kz 2; have kf3 := kz 3; have kf4 := kz 4; have kf5 := kz 5; have HPB : Hid (PayOkR NP P s g v h xs vl vs (ds.length : Nat) nx ps ks ys a b (.int .i64 n0) (.int .i64 t) (.slice ai ni ci) (.slice ap np cp) (.slice ak nk ck) (.int .i64 ch) er ((w2.alloc Z34).drew) w3) := hpayB; clear kz hpayB))
    all_goals first
      | (have HYA : Hid _ := HQ1.out _ _ _ _ _ _ _ _ HPA.out
         go_wp2_with fail
         go_meet
         exact ⟨w3.heap.size, n0, t, ai, ni, ci, ap, np, cp, ak, nk, ck, ch, er, rfl, rfl, HYA.out⟩)
      | (have HYA : Hid _ := (HQ2.out _ _ _ _ _ _ _ _ HPB.out).2
         go_wp2_with fail
         go_meet
         exact ⟨K0, n0, t, ai, ni, ci, ap, np, cp, ak, nk, ck, ch, er, rfl, rfl, HYA.out⟩)
  case rest =>
    obtain ⟨K, n0, t, ai, ni, ci, ap, np, cp, ak, nk, ck, ch, er, rfl, rfl, hya⟩ := hcut
    have HQ : Hid (PQ NP P s g v h xs vl vs (ds.length : Nat) nx ps ks ys a b (.int .i64 n0) (.int .i64 t) (.slice ai ni ci) (.slice ap np cp) (.slice ak nk ck) (.int .i64 ch) er K w w2 wc) := hya.out
    clear hya HUA HUB HYA HYB HKA HSB HKB HQ1 HQ2 hK0 HK0 hX2l hB2l hXn hBn bA bB d0
    obtain ⟨k0, k1, k2, k3, k4, k5, _⟩ := HQ.out.vb
    have q2 := HQ.out.fr.cell z2 hXP
    have q4 := HQ.out.fr.cell z4 hXP
    have HYC : Hid (OutsAt wc oa ys) := outs_frQ HQ.out.fr HY2.out (fun e x hx e2 => by
      have h1 := HYO.out e x hx
      have h2 : base ≤ x.block := by
        rcases e2 with e2 | e2
        · exact HBA.out _ (Or.inl (Or.inl e2))
        · exact HBA.out _ (Or.inr (Or.inl (Or.inr (Or.inl e2))))
      omega)
    have HOWC : Hid (OwnRec CoinD.l 107 6 wc w0.heap.size (.slice al nl cl) (ownOf xs s g)) := HQ.out.fr.own HOW2.out (fun k hk e => by
      have h1 := (HOW2.out.blk k hk).1
      have h2 : k < w.heap.size := by
        rcases e with e | e
        · rw [e]; exact cell_lt HU.out.pp.pu.c0
        · exact (HU.out.pp.ls.ol.blk k e).2
      have := HXe.out
      omega)
    have HM : Hid (BkM ND wc B P (.slice ad ds.length cd) ds) := HU.out.mid (payOkR_fr HQ.out.pay)
    clear HY2 HOW2 z1 z2 z4 HYN
    rcases HQ.out.pay with ⟨x, hz, he, e0, e1, e2, e3, e4, e5, hbl⟩ | ⟨cs, zs, ch2, hz, he, e0, e1, e5, hgo⟩
    · have hx0 := payZ_err hz
      rw [← he] at hx0
      have hx1 : (er == 0) = false := by simpa using hx0
      cases e0
      cases e1
      cases e2
      cases e3
      cases e4
      cases e5
      have HBL : Hid (Below w.heap.size w wc) := hbl
      clear hbl hz
      go_wp2_with fail
      refine (nothing_zero _).mono ?_
      rintro e w5 ⟨rfl, hb5⟩
      have HF : Hid (Below w.heap.size w w5) := below_blk HBL.out hb5
      go_wp2
      go_ret
      exact ⟨rfl, Fr.of_below HF.out _, ds, ⟨_, _, _, _, _, _, _, _, HU.out.grown HF.out, HLK.out, HBA.out⟩, by omega⟩
    · cases e0
      cases e1
      cases e5
      subst he
      have HPF : Hid (PayF xs s g ps ks ys cs zs) := pay_facts hz HNM.out
      have HPI : Hid (PayI s b cs zs) := pay_inv hz HNM.out HMK.out HV.out hs
      have HGO : Hid (PayGo NP P s g v h xs vl vs (ds.length : Nat) nx ps ks b cs zs ch (.slice ai ni ci) (.slice ap np cp) (.slice ak nk ck) w wc) := hgo
      obtain ⟨vl', gc, cc, go, co, _, hpd, _, _⟩ := hgo
      have hni := own_len inC3 hpd.oi
      have hnk := own_len kC2 hpd.ok
      have hnp := own_len kv2 hpd.oo
      have hcap := own_cap hpd.oo
      have HI : Hid (RecAt inC wc ai cs) := own_atS inC3 hpd.oi
      have HK : Hid (RecAt kC wc ak cs) := own_atS kC2 hpd.ok
      have HZ : Hid (OutsAt wc ap zs) := rec_outs (own_atS kv2 hpd.oo)
      have hl0 := HPF.out.l0
      have hl10 := HPF.out.l10
      have hzl := HPF.out.zl
      have hy1 := HYL.out
      have hnln := own_len coin6 HOWC.out
      have HNL : Hid ((ownOf xs s g).length = nl) := hnln
      have HOC : Hid (RecAt CoinD.l wc al (ownOf xs s g)) := own_atS coin6 HOWC.out
      have hnl5 : nl ≤ 5000 := HOL.out
      have hkk : nk = ni := by omega
      subst hkk
      have homp : om ≤ np := by omega
      have homc : om ≤ cp := by omega
      have HCN : Hid (cs.length = nk) := hni
      have HFR : Hid (∀ y ∈ cs, y ∈ ownOf xs s g ∧ takenD ds y.id y.pos = false ∧ sealD ds y.br y.ix = false) := fun y hy => by
        have h1 := HPF.out.own y hy
        have h2 := h1.2
        rw [HLK.out.free, Bool.and_eq_true] at h2
        exact ⟨h1.1, by simpa using h2.1, by simpa using h2.2⟩
      have hn0 : 0 < nk := by omega
      have hn10 : nk ≤ 10 := by omega
      clear hpd hz hni hnk hnp hcap hl0 hl10 hzl hy1 hnln HOWC
      go_wp2_with fail
      refine (apart_any ND B ad cd ds (ds.length : Nat) b ch ai nk ci ap np cp ak ck cs al nl cl (ownOf xs s g) _ HM.out.b2 (own_atS deed11 HM.out.od) HM.out.ok hdl HI.out HK.out HCN.out hn0 hn10 HOC.out HNL.out hnl5 HFR.out (nm_uq (own_nm xs s g HNM.out)) HPF.out.nd).mono ?_
      rintro e w4 ⟨rfl, hb4⟩
      have HB4 : Hid (Below wc.heap.size wc w4) := hb4
      have HM4 : Hid (BkM ND w4 B P (.slice ad ds.length cd) ds) := HM.out.grown hb4
      have HZ4 : Hid (OutsAt w4 ap zs) := HZ.out.grown hb4
      have HY4 : Hid (OutsAt w4 oa ys) := HYC.out.grown hb4
      have r0 := (hb4.cell (p := ⟨K, 0, none⟩) (cell_lt k0)).trans k0
      have r1 := (hb4.cell (p := ⟨K, 1, none⟩) (cell_lt k1)).trans k1
      have r2 := (hb4.cell (p := ⟨K, 2, none⟩) (cell_lt k2)).trans k2
      have r3 := (hb4.cell (p := ⟨K, 3, none⟩) (cell_lt k3)).trans k3
      have r4 := (hb4.cell (p := ⟨K, 4, none⟩) (cell_lt k4)).trans k4
      have r5 := (hb4.cell (p := ⟨K, 5, none⟩) (cell_lt k5)).trans k5
      have t2 := (hb4.cell (p := ⟨X, 2, none⟩) (cell_lt q2)).trans q2
      have t4 := (hb4.cell (p := ⟨X, 4, none⟩) (cell_lt q4)).trans q4
      have c2 := HM4.out.b2
      clear hb4 k0 k1 k2 k3 k4 k5 q2 q4 HM HZ HYC HI HK HOC
      have hompI : ¬ ((np : Int) < (om : Int)) := by omega
      go_wp2
      go_quiet (fail)
      go_upto_region 11 with fail
      have b5 : Below w4.heap.size w4 (w4.drewN nq) := below_drewN (Below.refl _ _) nq
      have HB5 : Hid (Below wc.heap.size wc (w4.drewN nq)) := below_blk HB4.out b5
      have HM5 : Hid (BkM ND (w4.drewN nq) B P (.slice ad ds.length cd) ds) := HM4.out.grown b5
      have HZ5 : Hid (OutsAt (w4.drewN nq) ap ys) := outs_pre (HZ4.out.grown b5) HYL.out HPF.out.zt
      have HY5 : Hid (OutsAt (w4.drewN nq) oa ys) := HY4.out.grown b5
      have HVB5 : Hid (VB (w4.drewN nq) K (.int .i64 (ds.length : Nat)) (.int .i64 b) (.slice ai nk ci) (.slice ap np cp) (.slice ak nk ck) (.int .i64 ch)) := (HQ.out.vb.grown HB4.out).grown b5
      have u4 := (b5.cell (p := ⟨X, 4, none⟩) (cell_lt t4)).trans t4
      clear HB4 HM4 HZ4 HY4 r0 r1 r2 r3 r4 r5 t2 t4 c2 b5
      generalize w4.drewN nq = w5 at *
      have b5d : Below w5.heap.size w5 w5.drew := (Below.refl _ _).drew
      have HZd : Hid (OutsAt w5.drew ap ys) := HZ5.out.grown b5d
      have HYd : Hid (OutsAt w5.drew oa ys) := HY5.out.grown b5d
      have HKX : Hid (w5.drew.cell? ⟨K, 3, none⟩ = some (.slice ap np cp) ∧ w5.drew.cell? ⟨X, 4, none⟩ = some (.slice oa om od)) := ⟨HVB5.out.c3, u4⟩
      have HB5d : Hid (Below wc.heap.size wc w5.drew) := below_blk HB5.out b5d
      have HM5d : Hid (BkM ND w5.drew B P (.slice ad ds.length cd) ds) := HM5.out.grown b5d
      have HV5d : Hid (VB w5.drew K (.int .i64 (ds.length : Nat)) (.int .i64 b) (.slice ai nk ci) (.slice ap np cp) (.slice ak nk ck) (.int .i64 ch)) := HVB5.out.grown b5d
      have v3 := HVB5.out.c3
      clear b5d HZ5 HY5 HM5 HVB5 HB5
      have homI : (om : Int) ≤ (cp : Int) := by omega
      have homI0 : (0 : Int) ≤ (om : Int) := by omega
      go_region_held3 (fun w' => w'.cell? ⟨K, 3, none⟩ = some (.slice ap np cp) ∧ w'.cell? ⟨X, 4, none⟩ = some (.slice oa om od)) (first | go_keep | with_reducible exact HKX.out | exact keepB2' hb6 HKX.out) ((go_at_call 39; (with_reducible refine (kOuts_any ap oa om cp od ys w5.drew HZd.out HYd.out HYL.out (by omega)).mono ?_); rintro e w6 ⟨rfl, hb6⟩))
      have HB6 : Hid (Below wc.heap.size wc w6) := below_blk HB5d.out hb6
      have HM6 : Hid (BkM ND w6 B P (.slice ad ds.length cd) ds) := HM5d.out.grown hb6
      have HV6 : Hid (VB w6 K (.int .i64 (ds.length : Nat)) (.int .i64 b) (.slice ai nk ci) (.slice ap np cp) (.slice ak nk ck) (.int .i64 ch)) := HV5d.out.grown hb6
      clear HB5d HM5d HV5d HKX HZd HYd hb6 v3 u4
      obtain ⟨k0, k1, k2, k3, k4, k5, _⟩ := HV6.out
      have c2 := HM6.out.b2
      have f2 := HM6.out.fb 2
      have hBl6 : B < w6.heap.size := cell_lt c2
      have n2 := World.new_ne w6 ⟨B, 2, none⟩ c2
      have hvb : some B ≠ (Value.slice ad ds.length cd).ownBlock := fun e => by have := (HM6.out.od.blk B e.symm).1; omega
      have HOD : Hid (OwnRec DeedD.v 135 11 w6 (B + 1) (.slice ad ds.length cd) ds) := HM6.out.od
      have HFI : Hid (∀ (w1 : World) (gl capl : Nat), OwnRec DeedD.v 135 11 w1 (B + 1) (.slice (some ⟨gl, 0, none⟩) (ds.length + 1) capl) (ds ++ [⟨(ds.length : Nat), b, ai, nk, ci, ap, np, cp, ak, nk, ck, ch, 0, none, 0, 0, none, 0, 0, true, false, cs, zs, []⟩]) → ((w6.alloc (.cells #[.int .i64 (ds.length : Nat), .int .i64 b, .slice ai nk ci, .slice ap np cp, .slice ak nk ck, .int .i64 ch, .int .i64 0, .slice none 0 0, .slice none 0 0, .bool true, .bool false] 135)).drew).grownBy w1 (Value.slice ad ds.length cd).ownBlock → ((Value.slice ad ds.length cd).ownBlock = some gl ∨ ((w6.alloc (.cells #[.int .i64 (ds.length : Nat), .int .i64 b, .slice ai nk ci, .slice ap np cp, .slice ak nk ck, .int .i64 ch, .int .i64 0, .slice none 0 0, .slice none 0 0, .bool true, .bool false] 135)).drew).heap.size ≤ gl) → BkQ base (w1.setCell ⟨B, 2, none⟩ (.slice (some ⟨gl, 0, none⟩) (ds.length + 1) capl)) B P s g h xs ks (ds ++ [⟨(ds.length : Nat), b, ai, nk, ci, ap, np, cp, ak, nk, ck, ch, 0, none, 0, 0, none, 0, 0, true, false, cs, zs, []⟩]) ∧ Fr (fun k => base ≤ k) w (w1.setCell ⟨B, 2, none⟩ (.slice (some ⟨gl, 0, none⟩) (ds.length + 1) capl))) := fun w1 gl capl h1 h2 h3 => HU.out.push HLK.out HBA.out HGO.out (below_blk HB6.out (((Below.refl _ _).alloc (Nat.le_refl _) _).drew)) h1 h2 h3 rfl rfl rfl rfl rfl rfl rfl rfl rfl rfl rfl rfl HPF.out.l10 HPF.out.z8 HPI.out
      clear HM6 HV6 HGO HQ
      go_upto_region 12 with fail
      go_region_law (refine step_appR 127 160 _ Tryz.underlying127 info135 rfl (by decide) deed11 deed_one _ ?_ (.tmp 88) (.tmp 91) ?_ (B + 1) w6.heap.size 1 (.slice ad ds.length cd) ds ⟨(ds.length : Nat), b, ai, nk, ci, ap, np, cp, ak, nk, ck, ch, 0, none, 0, 0, none, 0, 0, true, false, cs, zs, []⟩ ?_ ?_ ?_ ?_ ?_ ?_ ?_ ?_; rfl; rfl; rfl; rfl; exact OwnRec.drew (HOD.out.alloc _); exact VRow.drew (vrow_new w6 _ _); (rw [World.size_drew, World.size_alloc]; omega); (unfold maxLen; omega); omega; intro gl capl w1 hown1 hg1 hl1 hlt1; have r0 := keepO hg1 c2 hvb; have r1 := keepF hg1 f2 hBl6 hvb)
      all_goals
        have HF9 : Hid _ := HFI.out w1 gl capl hown1 hg1 hl1
        go_wp2
        go_ret
        exact ⟨rfl, HF9.out.2, _, HF9.out.1, by simp⟩
end Go.Proofs.YtffgpepngcnjeabGreatQ
