import Derived.Test.YtffgpepngcnjeabGreatSas
namespace Go.Proofs.YtffgpepngcnjeabGreat
set_option maxRecDepth 100000
set_option maxHeartbeats 16000000
section
open Go.RowKit
variable {E F N : NPr} {a b c w w' wx wy w1 : World} {p q P K g B C T base n4 c4 g1 n1 k1 : Nat} {x y u0 u1 u2 v vl vs vi vo vk : Value} {s h md nx tag ch4 ch : Int} {xs : List Cel} {ps : List PayD} {ks zs : LII} {cs : List CoinD} {a4 ao : OAd}
theorem Fr.trans_new2 (h : Fr E a b) (k : Fr F b c) (hF : ∀ q, F q → a.heap.size ≤ q) : Fr E a c :=
 ⟨k.os.trans h.os, k.tape.trans h.tape, k.output.trans h.output, leT h.size k.size, fun i hi he => (k.block i (ltL hi h.size) (fun e => by have := hF i e; omega)).trans (h.block i hi he)⟩
theorem keepB2 {a b : Nat} (hb : Below w.heap.size w w') (h : w.cell? ⟨a, p, none⟩ = some x ∧ w.cell? ⟨b, q, none⟩ = some y) : w'.cell? ⟨a, p, none⟩ = some x ∧ w'.cell? ⟨b, q, none⟩ = some y :=
 ⟨(hb.cell (p := ⟨a, p, none⟩) (clT h.1)).trans h.1, (hb.cell (p := ⟨b, q, none⟩) (clT h.2)).trans h.2⟩
theorem keepS3 (hne : P ≠ K) (h : w.cell? ⟨P, 0, none⟩ = some x ∧ w.cell? ⟨P, 1, none⟩ = some y) : (((w.setCell ⟨K, 0, none⟩ u0).setCell ⟨K, 1, none⟩ u1).setCell ⟨K, 2, none⟩ u2).cell? ⟨P, 0, none⟩ = some x ∧ (((w.setCell ⟨K, 0, none⟩ u0).setCell ⟨K, 1, none⟩ u1).setCell ⟨K, 2, none⟩ u2).cell? ⟨P, 1, none⟩ = some y :=
 ⟨sob (sob (sob h.1 hne) hne) hne, sob (sob (sob h.2 hne) hne) hne⟩
theorem target_pos (ys : LII) (r : Int) (hr : 0 ≤ r) (h0 : 0 < ys.length) (hb : ∀ y ∈ ys, 10 ≤ y.2) : 0 < tgZ ys r := by
 unfold tgZ
 have h2 : 0 ≤ r * (3 + 2 * (ys.length : Int)) := Int.mul_nonneg hr (by omega)
 have h3 : ∀ l : LII, (∀ y ∈ l, 10 ≤ y.2) → 10 * (l.length : Int) ≤ (l.map Prod.snd).sum := by
  intro l
  induction l with
  | nil => intro _; simp
  | cons x t ih =>
   intro hl
   have h4 := ih (fun y hy => hl y (List.mem_cons_of_mem _ hy))
   have h5 := hl x List.mem_cons_self
   simp only [List.length_cons, List.map_cons, List.sum_cons]
   push_cast
   omega
 have h4 := h3 ys hb
 unfold smU
 omega
structure PMid (N : NPr) (P : Nat) (s : Int) (g : Nat) (v : Value) (h : Int) (xs : List Cel) (vl vs : Value) (md nx : Int) (ps : List PayD) (ks : LII) (tag : Int) (cs : List CoinD) (B C T base : Nat) (a4 : OAd) (n4 c4 : Nat) (ch4 : Int) (vi vo vk : Value) (zs : LII) (ch : Int) (w wx : World) : Prop where
 pp : PP N wx P s g v h xs vl vs md nx ps ks
 rb : VB wx B (.int .i64 0) (.int .i64 0) (.slice none 0 0) (.slice none 0 0) (.slice none 0 0) (.int .i64 0)
 tb : VB wx T (.int .i64 0) (.int .i64 tag) vi vo vk (.int .i64 ch)
 pd : PdOk base vi vo vk cs zs cs wx
 c0 : wx.cell? ⟨C, 0, none⟩ = some (.slice a4 n4 c4)
 c1 : wx.cell? ⟨C, 1, none⟩ = some (.int .i64 ch4)
 o4 : ORC CoinD.l 107 6 wx (B + 1) (.slice a4 n4 c4) cs
 bl : Below B w wx
 lo : ∀ k, (chE P v k ∨ lsE P vl vs k ∨ N k) → k < B
 o4b : ∀ k, (Value.slice a4 n4 c4).ownBlock = some k → k < base
 lt : B < base ∧ C < base ∧ B < C ∧ base ≤ T
 pT : ∀ k, (vi.ownBlock = some k ∨ vo.ownBlock = some k ∨ vk.ownBlock = some k) → k ≠ T
theorem PMid.grown (u : PMid N P s g v h xs vl vs md nx ps ks tag cs B C T base a4 n4 c4 ch4 vi vo vk zs ch w wx) (hb : Below wx.heap.size wx wy) : PMid N P s g v h xs vl vs md nx ps ks tag cs B C T base a4 n4 c4 ch4 vi vo vk zs ch w wy :=
 ⟨u.pp.grown hb, u.rb.grown hb, u.tb.grown hb, u.pd.grown hb, (hb.cell (p := ⟨C, 0, none⟩) (clT u.c0)).trans u.c0, (hb.cell (p := ⟨C, 1, none⟩) (clT u.c1)).trans u.c1, u.o4.grown hb, u.bl.trans (hb.mono (by have : B < wx.heap.size := clT u.rb.c0; omega)), u.lo, u.o4b, u.lt, u.pT⟩
theorem PMid.setC (u : PMid N P s g v h xs vl vs md nx ps ks tag cs B C T base a4 n4 c4 ch4 vi vo vk zs ch w wx) (x : Int) : PMid N P s g v h xs vl vs md nx ps ks tag cs B C T base a4 n4 c4 ch4 vi vo vk zs x w (wx.setCell ⟨T, 5, none⟩ (.int .i64 x)) := by
 have hf : Fr (fun k => k = T) wx (wx.setCell ⟨T, 5, none⟩ (.int .i64 x)) := (Fr.refl _ wx).set T 5 _ (fun _ => rfl)
 have hlt := u.lt
 exact ⟨u.pp.fr hf (fun k hk e => by have := u.lo k (Or.inl hk); omega) (fun k hk e => by have := u.lo k (Or.inr (Or.inl hk)); omega) (fun k hk e => by have := u.lo k (Or.inr (Or.inr hk)); omega), u.rb.fr hf (by omega), u.tb.s5 _, ⟨osT u.pd.oi _ _ _ (fun e => u.pT _ (Or.inl e) rfl), osT u.pd.oo _ _ _ (fun e => u.pT _ (Or.inr (Or.inl e)) rfl), osT u.pd.ok _ _ _ (fun e => u.pT _ (Or.inr (Or.inr e)) rfl), u.pd.n1, u.pd.n2⟩, hf.cell u.c0 (by omega), hf.cell u.c1 (by omega), osT u.o4 _ _ _ (fun e => by have := u.o4b _ e; omega), u.bl.setCell (p := ⟨T, 5, none⟩) (by show B ≤ T; omega) _, u.lo, u.o4b, u.lt, u.pT⟩
theorem PMid.pushO (u : PMid N P s g v h xs vl vs md nx ps ks tag cs B C T base a4 n4 c4 ch4 vi vo vk zs ch w wx) {y : Int × Int} (hown : ORC kV 93 2 w1 base (.slice (some ⟨g1, 0, none⟩) n1 k1) (zs ++ [y])) (hg : wx.grownBy w1 vo.ownBlock) (hl : vo.ownBlock = some g1 ∨ wx.heap.size ≤ g1) :
 PMid N P s g v h xs vl vs md nx ps ks tag cs B C T base a4 n4 c4 ch4 vi (.slice (some ⟨g1, 0, none⟩) n1 k1) vk (zs ++ [y]) ch w (w1.setCell ⟨T, 3, none⟩ (.slice (some ⟨g1, 0, none⟩) n1 k1)) := by
 have hlt := u.lt
 have hTl : T < wx.heap.size := clT u.tb.c0
 have hvob : ∀ k, vo.ownBlock = some k → base ≤ k ∧ k ≠ T := fun k hk => ⟨(u.pd.oo.blk k hk).1, u.pT k (Or.inr (Or.inl hk))⟩
 have hf1 : Fr (fun k => vo.ownBlock = some k) wx w1 := Fr.of_gb hg (fun _ hk _ => hk)
 have hf2 : Fr (fun k => k = T) w1 (w1.setCell ⟨T, 3, none⟩ (.slice (some ⟨g1, 0, none⟩) n1 k1)) := (Fr.refl _ w1).set T 3 _ (fun _ => rfl)
 have hf : Fr (fun k => vo.ownBlock = some k ∨ k = T) wx (w1.setCell ⟨T, 3, none⟩ (.slice (some ⟨g1, 0, none⟩) n1 k1)) := (hf1.weak (fun _ _ e => Or.inl e)).trans (hf2.weak (fun _ _ e => Or.inr e))
 have hlow : ∀ k, k < base → ¬ (vo.ownBlock = some k ∨ k = T) := fun k hk e => by
  rcases e with e | e
  ·have := (hvob k e).1; omega
  ·omega
 have hg1 : g1 ≠ T := by
  rcases hl with e | e
  ·exact (hvob _ e).2
  ·omega
 have hpd := u.pd.pushO hown hg hl
 refine ⟨u.pp.fr hf (fun k hk => hlow k (by have := u.lo k (Or.inl hk); omega)) (fun k hk => hlow k (by have := u.lo k (Or.inr (Or.inl hk)); omega)) (fun k hk => hlow k (by have := u.lo k (Or.inr (Or.inr hk)); omega)), u.rb.fr hf (hlow _ hlt.1), (u.tb.fr hf1 (fun e => (hvob _ e).2 rfl)).s3 _, ⟨osT hpd.oi _ _ _ (fun e => u.pT _ (Or.inl e) rfl), osT hpd.oo _ _ _ (fun e => by simp [Value.ownBlock] at e; exact hg1 e), osT hpd.ok _ _ _ (fun e => u.pT _ (Or.inr (Or.inr e)) rfl), hpd.n1, hpd.n2⟩, hf.cell u.c0 (hlow _ hlt.2.1), hf.cell u.c1 (hlow _ hlt.2.1), hf.own u.o4 (fun k hk => hlow k (u.o4b k hk)), u.bl.trans (hf.toBelow B (by omega) (fun k hk => ?_)), u.lo, u.o4b, u.lt, fun k hk => ?_⟩
 ·rcases hk with e | e
  ·have := (hvob k e).1; omega
  ·omega
 ·rcases hk with e | e | e
  ·exact u.pT k (Or.inl e)
  ·simp [Value.ownBlock] at e
   rw [← e]; exact hg1
  ·exact u.pT k (Or.inr (Or.inr e))
theorem inC_ins (h : RcT inC w ao cs) : IAa w ao (cs.map CoinD.inD) := by
 rcases h with h | ⟨b, off, e, hr⟩
 ·rw [h]; exact Or.inl rfl
 ·refine Or.inr ⟨b, off, e, fun j hj => ?_⟩
  rw [List.length_map] at hj
  have eg : (cs.map CoinD.inD).getD j dIn = (cs.getD j dN).inD := by simp [List.getD, hj]
  rw [eg]
  exact ⟨⟨reL inC3 dN hr j hj 0 (by omega), reL inC3 dN hr j hj 1 (by omega), reL inC3 dN hr j hj 2 (by omega)⟩, ⟨Or.inl rfl, rfl, by show (0 : Nat) ≤ _; omega, fun _ => rfl⟩⟩
end
end Go.Proofs.YtffgpepngcnjeabGreat
