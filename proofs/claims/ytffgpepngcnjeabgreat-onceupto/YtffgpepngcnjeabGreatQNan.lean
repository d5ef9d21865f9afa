/-
  Funds: a payment of a scene: the first tag at which the id is new.
  Funds: the walk.
  A transaction in the making: a block with its three cells; its inputs and outputs in rows of the call's own.
  copyTx: a transaction in lists of its own.
  A transaction that can be read, in blocks from some number on; one number of it turned.
  What a block brings and leaves; it hangs on its contents alone.
-/
import Derived.Test.YtffgpepngcnjeabGreatQNam
import Derived.Test.YtffgpepngcnjeabGreatQNak
import Derived.Laws.MakeOwn
import Derived.Test.YtffgpepngcnjeabGreatQNal
import Derived.Test.YtffgpepngcnjeabGreatQNab
import Derived.Deep.DeepCutAuto
import Derived.Deep.RegionLaw
import Derived.Test.YtffgpepngcnjeabGreatQNaf
import Derived.Test.YtffgpepngcnjeabGreatQNah
namespace Go.Proofs.YtffgpepngcnjeabGreatQ
open Go.RowKit
theorem kV_outL (ys : List (Int × Int)) : (outL ys).map (Value.int .i64) = ys.flatMap kV := by
  induction ys with
  | nil => rfl
  | cons y t ih => rw [List.flatMap_cons, ← ih]; rfl
theorem make_outsN (n : Nat) (hn : n ≤ 8796093022208) : ∀ u : World, (Instr.makeSlice 28 (.int .i64 (n : Int)) (.int .i64 (n : Int))).run Tryz.prog u =
    .ok (.slice (some ⟨u.heap.size, 0, none⟩) n n) (u.alloc (.cells (Go.madeCells #[.int .i64 0, .int .i64 0] (n * 2)) 93)) := fun u => by
  obtain ⟨i0, hi, hz0, hz1, hz2⟩ := info_parts info93
  have h := run_make (P := Tryz.prog) u 28 93 i0 (.agg #[.int .i64 0, .int .i64 0]) Tryz.underlying28 hi hz0 .i64 .i64 (n : Int) (n : Int) (by omega) (Int.le_refl _) (by rw [hz2]; omega) (by omega)
  have e : (n : Int).toNat = n := by omega
  rw [e] at h
  simpa [hz1, Value.cells] using h
theorem fr6K (w : World) (B : Nat) (b0 b1 b2 b3 b4 b5 : Value) : Fr (fun k => k = B) w ((((((w.setCell ⟨B, 0, none⟩ b0).setCell ⟨B, 1, none⟩ b1).setCell ⟨B, 2, none⟩ b2).setCell ⟨B, 3, none⟩ b3).setCell ⟨B, 4, none⟩ b4).setCell ⟨B, 5, none⟩ b5) :=
  ((((((Fr.refl (fun k => k = B) w).set B 0 _ (fun _ => rfl)).set B 1 _ (fun _ => rfl)).set B 2 _ (fun _ => rfl)).set B 3 _ (fun _ => rfl)).set B 4 _ (fun _ => rfl)).set B 5 _ (fun _ => rfl)
/-- what Pay has left, seen from an elder world; a block of the caller's is written -/
theorem PayOkR.lift {N : Nat → Prop} {P : Nat} {s : Int} {g : Nat} {v : Value} {h : Int} {xs : List Cel} {vl vs : Value} {md nx : Int} {ps : List PayD} {ks : List (Int × Int)} {ys : List (Int × Int)} {r tag : Int} {a0 a1 a2 a3 a4 a5 : Value} {er : Int} {w w0 w1 w2 : World} {R : Nat} (hr : PayOkR N P s g v h xs vl vs md nx ps ks ys r tag a0 a1 a2 a3 a4 a5 er w0 w1) (u : PP N w P s g v h xs vl vs md nx ps ks) (hb : Below w.heap.size w w0) (hR : w.heap.size ≤ R) (hR2 : R < w0.heap.size) (hf : Fr (fun k => k = R) w1 w2) :
    PayOkR N P s g v h xs vl vs md nx ps ks ys r tag a0 a1 a2 a3 a4 a5 er w w2 := by
  have hsz := hb.size
  rcases hr with ⟨x, h1, h2, h3, h4, h5, h6, h7, h8, h9⟩ | ⟨cs, zs, ch, h1, h2, h3, h4, h5, h6⟩
  · refine Or.inl ⟨x, h1, h2, h3, h4, h5, h6, h7, h8, ?_⟩
    have h10 : Below w.heap.size w w1 := hb.trans (h9.mono hsz)
    exact h10.trans (hf.toBelow _ h10.size (fun q hq => by rw [hq]; exact hR))
  · refine Or.inr ⟨cs, zs, ch, h1, h2, h3, h4, h5, ?_⟩
    obtain ⟨vl', gc, cc, go, co, hpp, hpd, hfr, hsep⟩ := h6
    have hold : ∀ k, (chE P v k ∨ lsE P vl vs k ∨ N k) → k < w.heap.size := fun k hk => by
      rcases hk with hk | hk | hk
      · exact (u.pu.blk k hk).2
      · exact u.ls.blk k hk
      · exact (u.ls.nN k hk).1
    have hnew : ∀ k, (vl'.ownBlock = some k ∨ k = gc ∨ k = go) → k ≠ R := fun k hk e => by
      rcases hsep k hk with h | h
      · have := hold k (Or.inr (Or.inl (Or.inr (Or.inl h)))); omega
      · omega
    refine ⟨vl', gc, cc, go, co, hpp.fr hf (fun k hk e => ?_) (fun k hk e => ?_) (fun k hk e => ?_), PdOk.lower ⟨hf.own hpd.oi (fun k hk e => ?_), hf.own hpd.oo (fun k hk e => ?_), hf.own hpd.ok (fun k hk e => ?_), hpd.n1, hpd.n2⟩ hsz, ?_, fun k hk => ?_⟩
    · have := hold k (Or.inl hk); omega
    · rcases hk with hk | hk | hk
      · have := hold k (Or.inr (Or.inl (Or.inl hk))); omega
      · exact hnew k (Or.inl hk) e
      · have := hold k (Or.inr (Or.inl (Or.inr (Or.inr hk)))); omega
    · rcases hk with hk | hk
      · have := hold k (Or.inr (Or.inr hk)); omega
      · exact hnew k (Or.inr hk) e
    · have := (hpd.oi.blk k hk).1; omega
    · have := (hpd.oo.blk k hk).1; omega
    · have := (hpd.ok.blk k hk).1; omega
    · exact Fr.trans_new2 ((Fr.of_below hb _).trans hfr) hf (fun q hq => by rw [hq]; exact hR)
    · rcases hsep k hk with h | h
      · exact Or.inl h
      · exact Or.inr ⟨by omega, h.2⟩
theorem payOkR_vals {N : Nat → Prop} {P : Nat} {s : Int} {g : Nat} {v : Value} {h : Int} {xs : List Cel} {vl vs : Value} {md nx : Int} {ps : List PayD} {ks : List (Int × Int)} {ys : List (Int × Int)} {r tag : Int} {a0 a1 a2 a3 a4 a5 : Value} {er : Int} {w w' : World} (hr : PayOkR N P s g v h xs vl vs md nx ps ks ys r tag a0 a1 a2 a3 a4 a5 er w w') :
    ∃ n0 t ai ni ci ap np cp ak nk ck ch, a0 = .int .i64 n0 ∧ a1 = .int .i64 t ∧ a2 = .slice ai ni ci ∧ a3 = .slice ap np cp ∧ a4 = .slice ak nk ck ∧ a5 = .int .i64 ch := by
  rcases hr with ⟨x, h1, h2, rfl, rfl, rfl, rfl, rfl, rfl, h9⟩ | ⟨cs, zs, ch, h1, h2, rfl, rfl, rfl, h6⟩
  · exact ⟨_, _, _, _, _, _, _, _, _, _, _, _, rfl, rfl, rfl, rfl, rfl, rfl⟩
  · obtain ⟨vl', gc, cc, go, co, hpp, hpd, hfr, hsep⟩ := h6
    obtain ⟨ai, ci, e1, _⟩ := OwnRec.at inC3 hpd.oi
    obtain ⟨ap, cp, e2, _⟩ := OwnRec.at kv2 hpd.oo
    obtain ⟨ak, ck, e3, _⟩ := OwnRec.at kC2 hpd.ok
    exact ⟨_, _, _, _, _, _, _, _, _, _, _, _, rfl, rfl, e1, e2, e3, rfl⟩
theorem payOkR_fr {N : Nat → Prop} {P : Nat} {s : Int} {g : Nat} {v : Value} {h : Int} {xs : List Cel} {vl vs : Value} {md nx : Int} {ps : List PayD} {ks : List (Int × Int)} {ys : List (Int × Int)} {r tag : Int} {a0 a1 a2 a3 a4 a5 : Value} {er : Int} {w w' : World} (hr : PayOkR N P s g v h xs vl vs md nx ps ks ys r tag a0 a1 a2 a3 a4 a5 er w w') : Fr (fun q => q = P ∨ vl.ownBlock = some q) w w' := by
  rcases hr with ⟨x, _, _, _, _, _, _, _, _, h9⟩ | ⟨cs, zs, ch, _, _, _, _, _, h6⟩
  · exact Fr.of_below h9 _
  · obtain ⟨_, _, _, _, _, _, _, hfr, _⟩ := h6
    exact hfr
end Go.Proofs.YtffgpepngcnjeabGreatQ

namespace Go.Proofs.YtffgpepngcnjeabGreatQ
open Go.RowKit
theorem own_cap {α : Type} {f : α → List Value} {e k : Nat} {w : World} {base n c : Nat} {ao : Option Addr} {xs : List α} (h : OwnRec f e k w base (.slice ao n c) xs) : xs.length = n ∧ n ≤ c := by
  rcases h.2 with ⟨e, h0⟩ | ⟨g, cap, cur, e, _, _, hc, _⟩
  · injection e with _ e2 e3
    omega
  · injection e with _ e2 e3
    omega
/-- a purse without payments -/
theorem pp_none {w : World} {P : Nat} {s : Int} {g : Nat} {v : Value} {h : Int} {xs : List Cel} (hp : PAt w P s g v h xs) : PP (fun _ => False) w P s g v h xs (.slice none 0 0) (.slice none 0 0) 0 0 [] [] := by
  refine ⟨⟨hp.c0, hp.c1, hp.f0, hp.f1, hp.own, fun q hq => hp.ext q ?_⟩, ⟨(hp.ext (4, .slice none 0 0) (by simp)).2.2, (hp.ext (5, .slice none 0 0) (by simp)).2.2, (hp.ext (6, .int .i64 0) (by simp)).2.2, (hp.ext (7, .int .i64 0) (by simp)).2.2, hp.f1, OwnRec.nil _ _ _ _ _, OwnRec.nil _ _ _ _ _, fun p hp => (by cases hp), by omega, fun k hk => (by cases hk), fun k hk => hk.elim⟩, fun k hk => ⟨fun e => (by cases e), fun e => (by cases e), fun e => e⟩⟩
  simp only [List.mem_cons, List.not_mem_nil, or_false] at hq ⊢
  rcases hq with rfl | rfl <;> simp
theorem Sn.fr {S P : Nat} {s : Int} {g : Nat} {vi : Value} {ac : Option Addr} {cc : Nat} {cs : List CoinD} {w w' : World} {E : Nat → Prop} (h : Sn S P s g vi ac cc cs w) (hf : Fr E w w') (h1 : ¬ E S) (h2 : ∀ a, ac = some a → ¬ E a.block) : Sn S P s g vi ac cc cs w' :=
  ⟨hf.cell h.c0 h1, hf.cell h.c1 h1, hf.cell h.c2 h1, hf.cell h.c3 h1, hf.cell h.c4 h1, rec_fr hf h.at_ (fun _ a ha => h2 a ha)⟩
/-- what a payment of a scene is, seen from behind -/
def ScPaid (S P : Nat) (s : Int) (g : Nat) (v vi : Value) (ac : Option Addr) (cc : Nat) (h : Int) (xs : List Cel) (ys : List (Int × Int)) (r : Int) (can : Bool) (n0 t : Int) (ai : Option Addr) (n2 ci : Nat) (ap : Option Addr) (n3 cp : Nat) (ak : Option Addr) (n4 ck : Nat) (ch er : Int) (w : World) : Prop :=
  Sn S P s g vi ac cc (xs.map Cel.kept) w ∧
  ((can = false ∧ er = 9 ∧ n0 = 0 ∧ t = 0 ∧ ai = none ∧ n2 = 0 ∧ ci = 0 ∧ ap = none ∧ n3 = 0 ∧ cp = 0 ∧ ak = none ∧ n4 = 0 ∧ ck = 0 ∧ ch = 0 ∧ PAt w P s g v h xs) ∨
   (can = true ∧ er = 10 ∧ unpZ xs s g 0 = none ∧ n0 = 0 ∧ t = 0 ∧ ai = none ∧ n2 = 0 ∧ ci = 0 ∧ ap = none ∧ n3 = 0 ∧ cp = 0 ∧ ak = none ∧ n4 = 0 ∧ ck = 0 ∧ ch = 0 ∧ PAt w P s g v h xs) ∨
   (can = true ∧ er = 0 ∧ n0 = 0 ∧ ∃ L ex NN vl' vs' md nx p, Paid1 s g xs 0 ys r L ex ch ∧ PP NN w P s g v h xs vl' vs' md nx [p] [] ∧ p.cs = L ∧ L.length = n2 ∧ n2 = n4 ∧ (ys ++ ex).length = n3 ∧ n3 ≤ cp ∧ RecAt inC w ai L ∧ RecAt kC w ak L ∧ OutsAt w ap (ys ++ ex)))
theorem ScPaid.grown {S P : Nat} {s : Int} {g : Nat} {v vi : Value} {ac : Option Addr} {cc : Nat} {h : Int} {xs : List Cel} {ys : List (Int × Int)} {r : Int} {can : Bool} {n0 t : Int} {ai : Option Addr} {n2 ci : Nat} {ap : Option Addr} {n3 cp : Nat} {ak : Option Addr} {n4 ck : Nat} {ch er : Int} {w w' : World} (u : ScPaid S P s g v vi ac cc h xs ys r can n0 t ai n2 ci ap n3 cp ak n4 ck ch er w) (hb : Below w.heap.size w w') : ScPaid S P s g v vi ac cc h xs ys r can n0 t ai n2 ci ap n3 cp ak n4 ck ch er w' := by
  refine ⟨u.1.grown hb, ?_⟩
  rcases u.2 with ⟨h1, h2, h3, h4, h5, h6, h7, h8, h9, h10, h11, h12, h13, h14, h15⟩ | ⟨h1, h2, h3, h4, h5, h6, h7, h8, h9, h10, h11, h12, h13, h14, h15, h16⟩ | ⟨h1, h2, h3, L, ex, NN, vl', vs', md, nx, p, g1, g2, g3, g4, g5, g6, g7, g8, g9, g10⟩
  · exact Or.inl ⟨h1, h2, h3, h4, h5, h6, h7, h8, h9, h10, h11, h12, h13, h14, h15.grown hb⟩
  · exact Or.inr (Or.inl ⟨h1, h2, h3, h4, h5, h6, h7, h8, h9, h10, h11, h12, h13, h14, h15, h16.grown hb⟩)
  · exact Or.inr (Or.inr ⟨h1, h2, h3, L, ex, NN, vl', vs', md, nx, p, g1, g2.grown hb, g3, g4, g5, g6, g7, g8.grown hb, g9.grown hb, g10.grown hb⟩)
/-- the sums behind a payment -/
def balF (tot : Int) (can : Bool) (er : Int) (L : List CoinD) : Int := if can = true ∧ er = 0 then tot - sumC L else tot
end Go.Proofs.YtffgpepngcnjeabGreatQ

namespace Go.Proofs.YtffgpepngcnjeabGreatQ
open Go.RowKit
/-- the block XB holds a transaction's three cells and may be written -/
structure Tx3 (w : World) (XB : Nat) (a b c : Value) : Prop where
  c0 : w.cell? ⟨XB, 0, none⟩ = some a
  c1 : w.cell? ⟨XB, 1, none⟩ = some b
  c2 : w.cell? ⟨XB, 2, none⟩ = some c
  f0 : w.frozen? ⟨XB, 0, none⟩ = false
  f1 : w.frozen? ⟨XB, 1, none⟩ = false
  f2 : w.frozen? ⟨XB, 2, none⟩ = false
theorem Tx3.gb {w w' : World} {row : Option Nat} (h : w.grownBy w' row) {XB : Nat} {a b c : Value} (hx : Tx3 w XB a b c) (hne : some XB ≠ row) : Tx3 w' XB a b c := by
  have hlt := cell_lt hx.c0
  exact ⟨gb_cell h hx.c0 hne, gb_cell h hx.c1 hne, gb_cell h hx.c2 hne, (gb_frozen h hlt hne).trans hx.f0, (gb_frozen h hlt hne).trans hx.f1, (gb_frozen h hlt hne).trans hx.f2⟩
theorem Tx3.grown {w w' : World} (h : Below w.heap.size w w') {XB : Nat} {a b c : Value} (hx : Tx3 w XB a b c) : Tx3 w' XB a b c := hx.gb (gb_below h Option.none) (by simp)
theorem Tx3.new (w : World) (a b c : Value) (T : TypeId) : Tx3 (w.alloc (.cells #[a, b, c] T)) w.heap.size a b c := by
  refine ⟨?_, ?_, ?_, World.frozen?_alloc_at _ _ _ _ rfl, World.frozen?_alloc_at _ _ _ _ rfl, World.frozen?_alloc_at _ _ _ _ rfl⟩
  all_goals
    rw [World.cell?_alloc_new]
    rfl
theorem ne_off {b i j : Nat} (h : i ≠ j) : (⟨b, i, none⟩ : Addr) ≠ ⟨b, j, none⟩ := fun e => h (congrArg Addr.off e)
theorem Tx3.set1 {w : World} {XB : Nat} {a b c : Value} (h : Tx3 w XB a b c) (v : Value) : Tx3 (w.setCell ⟨XB, 1, none⟩ v) XB a v c :=
  ⟨by rw [World.cell?_setCell_other _ _ _ _ (ne_off (by decide))]; exact h.c0, World.cell?_setCell_same _ _ _ h.c1, by rw [World.cell?_setCell_other _ _ _ _ (ne_off (by decide))]; exact h.c2,
    by rw [World.frozen?_setCell]; exact h.f0, by rw [World.frozen?_setCell]; exact h.f1, by rw [World.frozen?_setCell]; exact h.f2⟩
theorem Tx3.set2 {w : World} {XB : Nat} {a b c : Value} (h : Tx3 w XB a b c) (v : Value) : Tx3 (w.setCell ⟨XB, 2, none⟩ v) XB a b v :=
  ⟨by rw [World.cell?_setCell_other _ _ _ _ (ne_off (by decide))]; exact h.c0, by rw [World.cell?_setCell_other _ _ _ _ (ne_off (by decide))]; exact h.c1, World.cell?_setCell_same _ _ _ h.c2,
    by rw [World.frozen?_setCell]; exact h.f0, by rw [World.frozen?_setCell]; exact h.f1, by rw [World.frozen?_setCell]; exact h.f2⟩
/-- the seals of the inputs: readable, of the call's own, not in the row of the inputs -/
def Seals (w : World) (base : Nat) (row : Option Nat) (Q : Nat → InD → Prop) (xs : List InD) : Prop :=
  ∀ j, j < xs.length → InOk w (xs.getD j dIn) ∧ Q j (xs.getD j dIn) ∧ ∀ a, (xs.getD j dIn).ao = some a → base ≤ a.block ∧ a.block < w.heap.size ∧ some a.block ≠ row
theorem Seals.gb {w w' : World} {row' : Option Nat} (h : w.grownBy w' row') {base : Nat} {row : Option Nat} {Q : Nat → InD → Prop} {xs : List InD} (hs : Seals w base row Q xs) (hne : ∀ k, row' = some k → k < base ∨ row = some k) : Seals w' base row Q xs := by
  intro j hj
  obtain ⟨h1, h2, h3⟩ := hs j hj
  refine ⟨gb_ok h h1 (fun a ha e => ?_), h2, fun a ha => ⟨(h3 a ha).1, Nat.lt_of_lt_of_le (h3 a ha).2.1 h.size, (h3 a ha).2.2⟩⟩
  rcases hne a.block e.symm with hk | hk
  · have := (h3 a ha).1; omega
  · exact (h3 a ha).2.2 hk.symm
/-- the inputs so far -/
structure SInv (W : World) (XB : Nat) (Q : Nat → InD → Prop) (t : Int) (vi vo : Value) (xs : List InD) (wr : World) : Prop where
  own : OwnIns wr (XB + 1) vi xs
  ok : Seals wr (XB + 1) vi.ownBlock Q xs
  tx : Tx3 wr XB (.int .i64 t) vi vo
  bel : Below XB W wr
  lt : XB < wr.heap.size
theorem SInv.grown {W : World} {XB : Nat} {Q : Nat → InD → Prop} {t : Int} {vi vo : Value} {xs : List InD} {wr ws : World} (h : SInv W XB Q t vi vo xs wr) (hb : Below wr.heap.size wr ws) : SInv W XB Q t vi vo xs ws := by
  have hg := gb_below hb Option.none
  exact ⟨owns_gb hg h.own (fun k _ => by simp), h.ok.gb hg (fun k hk => by cases hk), h.tx.grown hb, h.bel.trans (hb.mono (by have := h.lt; omega)), Nat.lt_of_lt_of_le h.lt hb.size⟩
theorem SInv.push {W : World} {XB : Nat} {Q : Nat → InD → Prop} {t : Int} {vi vo : Value} {xs : List InD} {wr ws w2 : World} {y : InD} {g cap : Nat} (h : SInv W XB Q t vi vo xs wr) (hb : Below wr.heap.size wr ws)
    (hy : InOk ws y) (hq : Q xs.length y) (hyb : ∀ a, y.ao = some a → wr.heap.size ≤ a.block ∧ a.block < ws.heap.size)
    (hown : OwnIns w2 (XB + 1) (.slice (some ⟨g, 0, none⟩) (xs.length + 1) cap) (xs ++ [y])) (hg : ws.grownBy w2 vi.ownBlock) (hlies : vi.ownBlock = some g ∨ ws.heap.size ≤ g) :
    SInv W XB Q t (.slice (some ⟨g, 0, none⟩) (xs.length + 1) cap) vo (xs ++ [y]) (w2.setCell ⟨XB, 1, none⟩ (.slice (some ⟨g, 0, none⟩) (xs.length + 1) cap)) := by
  have hs := h.grown hb
  have hvi := owns_blk h.own
  have hvX : some XB ≠ vi.ownBlock := fun e => by have := (hvi XB e.symm).1; omega
  have hgX : XB + 1 ≤ g := (owns_blk hown g rfl).1
  have hset := gb_set w2 XB 1 (.slice (some ⟨g, 0, none⟩) (xs.length + 1) cap)
  have hvg : ∀ k, vi.ownBlock = some k → XB ≤ k := fun k hk => by have := (hvi k hk).1; omega
  refine ⟨owns_gb hset hown (fun k hk e => ?_), ?_, (hs.tx.gb hg hvX).set1 _, ((hs.bel.trans (gb_to_below hg (by have := hs.lt; omega) hvg)).setCell (Nat.le_refl _) _), ?_⟩
  · simp [Value.ownBlock] at hk
    subst hk
    injection e with e
    omega
  · intro j hj
    rw [List.length_append] at hj
    by_cases hjl : j < xs.length
    · have e : (xs ++ [y]).getD j dIn = xs.getD j dIn := by simp only [List.getD]; rw [List.getElem?_append_left hjl]
      rw [e]
      obtain ⟨h1, h2, h3⟩ := hs.ok j hjl
      have hoff : Off (xs.getD j dIn).ao vi.ownBlock := fun a ha => (h3 a ha).2.2
      have hoff2 : Off (xs.getD j dIn).ao (some XB) := fun a ha e => by injection e with e; have := (h3 a ha).1; omega
      refine ⟨gb_ok hset (gb_ok hg h1 hoff) hoff2, h2, fun a ha => ⟨(h3 a ha).1, ?_, fun e => ?_⟩⟩
      · rw [World.size_setCell]; exact Nat.lt_of_lt_of_le (h3 a ha).2.1 hg.size
      · simp [Value.ownBlock] at e
        rcases hlies with hl | hl
        · exact (h3 a ha).2.2 (by rw [e]; exact hl.symm)
        · have := (h3 a ha).2.1; omega
    · have e : j = xs.length := by simp at hj; omega
      subst e
      have e : (xs ++ [y]).getD xs.length dIn = y := by simp [List.getD]
      rw [e]
      have hoff : Off y.ao vi.ownBlock := fun a ha e => by have := (hvi _ e.symm).2; have := (hyb a ha).1; omega
      have hoff2 : Off y.ao (some XB) := fun a ha e => by injection e with e; have := (hyb a ha).1; have := h.lt; omega
      refine ⟨gb_ok hset (gb_ok hg hy hoff) hoff2, hq, fun a ha => ⟨?_, ?_, fun e => ?_⟩⟩
      · have := (hyb a ha).1; have := h.lt; omega
      · rw [World.size_setCell]; exact Nat.lt_of_lt_of_le (hyb a ha).2 hg.size
      · simp [Value.ownBlock] at e
        rcases hlies with hl | hl
        · have := (hvi g hl).2; have := (hyb a ha).1; omega
        · have := (hyb a ha).2; omega
  · rw [World.size_setCell]; exact Nat.lt_of_lt_of_le hs.lt hg.size
/-- the outputs so far -/
structure OInv (Wm : World) (XB : Nat) (Q : Int × Int → Prop) (t : Int) (vi vo : Value) (ys : List (Int × Int)) (wr : World) : Prop where
  own : OwnOuts wr Wm.heap.size vo ys
  ok : ∀ j, j < ys.length → Q (ys.getD j (0, 0))
  tx : Tx3 wr XB (.int .i64 t) vi vo
  gb : Wm.grownBy wr (some XB)
  lt : XB < Wm.heap.size
theorem OInv.grown {Wm : World} {XB : Nat} {Q : Int × Int → Prop} {t : Int} {vi vo : Value} {ys : List (Int × Int)} {wr ws : World} (h : OInv Wm XB Q t vi vo ys wr) (hb : Below wr.heap.size wr ws) : OInv Wm XB Q t vi vo ys ws :=
  ⟨owns_gb (gb_below hb Option.none) h.own (fun k _ => by simp), h.ok, h.tx.grown hb, gb_trans h.gb (gb_below hb _), h.lt⟩
theorem OInv.push {Wm : World} {XB : Nat} {Q : Int × Int → Prop} {t : Int} {vi vo : Value} {ys : List (Int × Int)} {ws w2 : World} {y : Int × Int} {g cap : Nat} (hs : OInv Wm XB Q t vi vo ys ws) (hq : Q y)
    (hown : OwnOuts w2 Wm.heap.size (.slice (some ⟨g, 0, none⟩) (ys.length + 1) cap) (ys ++ [y])) (hg : ws.grownBy w2 vo.ownBlock) :
    OInv Wm XB Q t vi (.slice (some ⟨g, 0, none⟩) (ys.length + 1) cap) (ys ++ [y]) (w2.setCell ⟨XB, 2, none⟩ (.slice (some ⟨g, 0, none⟩) (ys.length + 1) cap)) := by
  have hvo := owns_blk hs.own
  have hlt := hs.lt
  have hvX : some XB ≠ vo.ownBlock := fun e => by have := (hvo XB e.symm).1; omega
  have hgX : Wm.heap.size ≤ g := (owns_blk hown g rfl).1
  have hset := gb_set w2 XB 2 (.slice (some ⟨g, 0, none⟩) (ys.length + 1) cap)
  have hg2 : Wm.grownBy w2 (some XB) := by
    refine ⟨hg.os.trans hs.gb.os, hg.tape.trans hs.gb.tape, hg.output.trans hs.gb.output, Nat.le_trans hs.gb.size hg.size, fun k hk hne => ?_⟩
    refine (hg.block k (Nat.lt_of_lt_of_le hk hs.gb.size) (fun e => ?_)).trans (hs.gb.block k hk hne)
    have := (hvo k e.symm).1
    omega
  refine ⟨owns_gb hset hown (fun k hk e => ?_), fun j hj => ?_, (hs.tx.gb hg hvX).set2 _, gb_trans hg2 hset, hlt⟩
  · simp [Value.ownBlock] at hk
    subst hk
    injection e with e
    omega
  · rw [List.length_append] at hj
    by_cases hjl : j < ys.length
    · have e : (ys ++ [y]).getD j (0, 0) = ys.getD j (0, 0) := by simp only [List.getD]; rw [List.getElem?_append_left hjl]
      rw [e]
      exact hs.ok j hjl
    · have e : j = ys.length := by simp at hj; omega
      subst e
      have e : (ys ++ [y]).getD ys.length (0, 0) = y := by simp [List.getD]
      rw [e]
      exact hq
/-- a transaction in lists of the call's own -/
structure Fresh (w : World) (base : Nat) (vi vo : Value) (Q : Nat → InD → Prop) (xs : List InD) (ys : List (Int × Int)) : Prop where
  ins : OwnIns w base vi xs
  outs : OwnOuts w base vo ys
  ok : Seals w base vi.ownBlock Q xs
  apart : ∀ k, vo.ownBlock = some k → some k ≠ vi.ownBlock ∧ ∀ j, j < xs.length → Off (xs.getD j dIn).ao (some k)
theorem Fresh.of {W Wm wr : World} {XB : Nat} {Q : Nat → InD → Prop} {P : Int × Int → Prop} {t : Int} {vi vo vo0 : Value} {xs : List InD} {ys : List (Int × Int)} (hs : SInv W XB Q t vi vo0 xs Wm) (ho : OInv Wm XB P t vi vo ys wr) : Fresh wr (XB + 1) vi vo Q xs ys := by
  have hvi := owns_blk hs.own
  have hvo := owns_blk ho.own
  refine ⟨owns_gb ho.gb hs.own (fun k hk e => ?_), ?_, hs.ok.gb ho.gb (fun k hk => ?_), fun k hk => ⟨fun e => ?_, fun j hj a ha e => ?_⟩⟩
  · injection e with e
    have := (hvi k hk).1
    omega
  · obtain ⟨h1, h2 | ⟨g, cap, cur, e, hb, hr⟩⟩ := ho.own
    · exact ⟨h1, Or.inl h2⟩
    · exact ⟨h1, Or.inr ⟨g, cap, cur, e, by have := hs.lt; omega, hr⟩⟩
  · injection hk with hk
    exact Or.inl (by omega)
  · have := (hvo k hk).1
    have := (hvi k e.symm).2
    omega
  · injection e with e
    have := ((hs.ok j hj).2.2 a ha).2.1
    have := (hvo k hk).1
    omega
theorem Fresh.gb {w w' : World} {row : Option Nat} (h : w.grownBy w' row) {base : Nat} {vi vo : Value} {Q : Nat → InD → Prop} {xs : List InD} {ys : List (Int × Int)} (hf : Fresh w base vi vo Q xs ys) (hr : ∀ k, row = some k → k < base) : Fresh w' base vi vo Q xs ys := by
  have hvi := owns_blk hf.ins
  have hvo := owns_blk hf.outs
  exact ⟨owns_gb h hf.ins (fun k hk e => by have := hr k e.symm; have := (hvi k hk).1; omega), owns_gb h hf.outs (fun k hk e => by have := hr k e.symm; have := (hvo k hk).1; omega), hf.ok.gb h (fun k hk => Or.inl (hr k hk)), hf.apart⟩
theorem Fresh.grown {w w' : World} (h : Below w.heap.size w w') {base : Nat} {vi vo : Value} {Q : Nat → InD → Prop} {xs : List InD} {ys : List (Int × Int)} (hf : Fresh w base vi vo Q xs ys) : Fresh w' base vi vo Q xs ys :=
  hf.gb (gb_below h Option.none) (fun k hk => by cases hk)
theorem gb_put3 (w : World) (b o : Nat) (x y z : Value) : w.grownBy (put3 w b o x y z) (some b) := gb_trans (gb_trans (gb_set _ _ _ _) (gb_set _ _ _ _)) (gb_set _ _ _ _)
theorem owns_lowerT {w : World} {base B e size : Nat} {v : Value} {n : Nat} {cs : List Value} (h : w.ownsRow base e size v n cs) (hB : B ≤ base) : w.ownsRow B e size v n cs := by
  obtain ⟨h1, h | ⟨g, cap, cur, rfl, hbg, hg⟩⟩ := h
  · exact ⟨h1, Or.inl h⟩
  · exact ⟨h1, Or.inr ⟨g, cap, cur, rfl, Nat.le_trans hB hbg, hg⟩⟩
theorem Fresh.lower {w : World} {base B : Nat} {vi vo : Value} {Q : Nat → InD → Prop} {xs : List InD} {ys : List (Int × Int)} (h : Fresh w base vi vo Q xs ys) (hB : B ≤ base) : Fresh w B vi vo Q xs ys :=
  ⟨owns_lowerT h.ins hB, owns_lowerT h.outs hB, fun j hj => ⟨(h.ok j hj).1, (h.ok j hj).2.1, fun a ha => ⟨Nat.le_trans hB ((h.ok j hj).2.2 a ha).1, ((h.ok j hj).2.2 a ha).2⟩⟩, h.apart⟩
end Go.Proofs.YtffgpepngcnjeabGreatQ

namespace Go.Proofs.YtffgpepngcnjeabGreatQ
open Go.RowKit
theorem copy_gen {sT elem sz : Nat} (hu : Tryz.prog.underlying sT = some (.slice elem)) (hs : (Tryz.prog.info? elem).map (fun x : TypeInfo => x.size) = some sz) (W : World) (g n : Nat) (ao : Option Addr) (c : Nat) (cur : Array Value) (cs : List Value)
    (hg : W.heap[g]? = some (.cells cur elem (0, 0))) (hsz : cur.size = n * sz) (hl : cs.length = n * sz) (hsrc : 0 < cs.length → ∃ a, ao = some a ∧ ∀ j v, cs[j]? = some v → W.cell? (a.add j) = some v) (h1 : ∀ v ∈ cs, v.oneCell' = true) (h0 : ao = none → n = 0 ∧ c = 0) :
    ∃ w1, Sem.run Tryz.prog (Builtin.copy_ #[sT, sT] 3 #[.slice (some ⟨g, 0, none⟩) n n, .slice ao n c]) W = .ok (.int .i64 n) w1 ∧ w1.heap[g]? = some (.cells cs.toArray elem (0, 0)) ∧ W.grownBy w1 (some g) := by
  cases ao with
  | none =>
    obtain ⟨rfl, rfl⟩ := h0 rfl
    have e1 : cs = [] := List.length_eq_zero_iff.1 (by rw [hl]; omega)
    have e2 : cur = #[] := Array.size_eq_zero_iff.1 (by rw [hsz]; omega)
    subst e1
    subst e2
    exact ⟨W, run_copy_nil Tryz.prog _ sT sT 3 elem _ _ _ hu (by rw [hs]; rfl), hg, ⟨rfl, rfl, rfl, Nat.le_refl _, fun _ _ _ => rfl⟩⟩
  | some a =>
    have hsrc' : ∀ j v, cs[j]? = some v → W.cell? (a.add j) = some v := by
      intro j v hj
      by_cases hp : 0 < cs.length
      · obtain ⟨b, e, h⟩ := hsrc hp
        cases e
        exact h j v hj
      · have : cs = [] := List.length_eq_zero_iff.1 (by omega)
        rw [this] at hj
        simp at hj
    have hmin : Nat.min n n = n := Nat.min_self n
    have hrun := run_copy_wide Tryz.prog W sT sT 3 elem g 0 n n a n c cur elem cs sz hu hs hg (by rw [hmin]; exact hl) hsrc' (by omega) h1
    have e : (cur.toList.take 0 ++ cs ++ cur.toList.drop (0 + cs.length)).toArray = cs.toArray := by
      rw [List.take_zero, List.nil_append, List.drop_of_length_le (by rw [Array.length_toList]; omega), List.append_nil]
    rw [e, hmin] at hrun
    exact ⟨_, hrun, setRow_heap W g cur cs.toArray elem (0, 0) hg, ⟨rfl, rfl, rfl, by simp [World.setRow], fun k _ hne => setRow_other W g k _ (fun e => hne (by rw [e]))⟩⟩
theorem ints_src {W : World} {ao : Option Addr} {l : List Int} (h : IntsAt W ao l) : 0 < (l.map (Value.int .i64)).length → ∃ a, ao = some a ∧ ∀ j v, (l.map (Value.int .i64))[j]? = some v → W.cell? (a.add j) = some v := by
  intro hp
  obtain ⟨_, ad, e, hh⟩ := copy_src h (Below.refl _ _) 0 hp
  exact ⟨ad, e, hh⟩
theorem owns_whole {w : World} {g e n size base : Nat} {cs : List Value} (h : w.heap[g]? = some (.cells cs.toArray e (0, 0))) (hl : cs.length = n * size) (hb : base ≤ g) (hn : n ≤ maxLen) : w.ownsRow base e size (.slice (some ⟨g, 0, none⟩) n n) n cs := by
  refine ⟨hl, Or.inr ⟨g, n, cs.toArray, rfl, hb, h, Nat.le_refl _, hn, by simpa using hl, ?_⟩⟩
  rw [List.take_of_length_le (by simpa using Nat.le_of_eq hl)]
theorem make_intsN (n : Nat) (hn : n ≤ 17592186044416) : ∀ u : World, (Instr.makeSlice 44 (.int .i64 (n : Int)) (.int .i64 (n : Int))).run Tryz.prog u =
    .ok (.slice (some ⟨u.heap.size, 0, none⟩) n n) (u.alloc (.cells (madeCells #[.int .i64 0] n) 3)) := fun u => by
  obtain ⟨i0, hi, hz0, hz1, hz2⟩ := info_parts info3
  have h := run_make (P := Tryz.prog) u 44 3 i0 (.int .i64 0) Tryz.underlying44 hi hz0 .i64 .i64 (n : Int) (n : Int) (by omega) (Int.le_refl _) (by rw [hz2]; omega) (by omega)
  simpa [hz1, Value.cells] using h
theorem make_outsT (n : Nat) (hn : n ≤ 8796093022208) : ∀ u : World, (Instr.makeSlice 28 (.int .i64 (n : Int)) (.int .i64 (n : Int))).run Tryz.prog u =
    .ok (.slice (some ⟨u.heap.size, 0, none⟩) n n) (u.alloc (.cells (madeCells #[.int .i64 0, .int .i64 0] (n * 2)) 93)) := fun u => by
  obtain ⟨i0, hi, hz0, hz1, hz2⟩ := info_parts info93
  have h := run_make (P := Tryz.prog) u 28 93 i0 (.agg #[.int .i64 0, .int .i64 0]) Tryz.underlying28 hi hz0 .i64 .i64 (n : Int) (n : Int) (by omega) (Int.le_refl _) (by rw [hz2]; omega) (by omega)
  simpa [hz1, Value.cells] using h
/-- the copy of a seal: made and filled -/
theorem copy_seal (ao : Option Addr) (n c : Nat) (l : List Int) (w : World) (hr : IntsAt w ao l) (hn : l.length = n) (hm : n ≤ 17592186044416) (h0 : ao = none → c = 0) :
    ∃ w1, Sem.run Tryz.prog (Builtin.copy_ #[44, 44] 3 #[.slice (some ⟨w.heap.size, 0, none⟩) n n, .slice ao n c]) (w.alloc (.cells (madeCells #[.int .i64 0] n) 3)) = .ok (.int .i64 n) w1 ∧
      OwnInts w1 w.heap.size (.slice (some ⟨w.heap.size, 0, none⟩) n n) l ∧ Below w.heap.size w w1 ∧ w.heap.size < w1.heap.size := by
  have hnil : ao = none → n = 0 ∧ c = 0 := by
    intro e
    refine ⟨?_, h0 e⟩
    rcases hr with rfl | ⟨b, off, e', _⟩
    · rw [← hn]; rfl
    · rw [e] at e'; cases e'
  have hb : Below w.heap.size w (w.alloc (.cells (madeCells #[.int .i64 0] n) 3)) := (Below.refl _ _).alloc (Nat.le_refl _) _
  obtain ⟨w1, h1, h2, h3⟩ := copy_gen Tryz.underlying44 sizeInfo3 (w.alloc (.cells (madeCells #[.int .i64 0] n) 3)) w.heap.size n ao c (madeCells #[.int .i64 0] n) (l.map (Value.int .i64)) (by have := heap_made w (madeCells #[.int .i64 0] n) 3; simpa using this) (by rw [size_madeCells]; omega) (by rw [List.length_map, hn]; omega) (ints_src (hr.grown hb)) (ints_one l) hnil
  refine ⟨w1, h1, ?_, hb.trans (gb_to_below h3 (by rw [World.size_alloc]; omega) (fun k hk => by injection hk with hk; omega)), ?_⟩
  · have := owns_whole (base := w.heap.size) (size := 1) (n := n) h2 (by rw [List.length_map, hn]; omega) (Nat.le_refl _) (by unfold maxLen; omega)
    unfold OwnInts
    rw [hn]
    exact this
  · have := h3.size
    rw [World.size_alloc] at this
    omega
theorem outCs_map (ys : List (Int × Int)) : outCs ys = (outL ys).map (Value.int .i64) := by
  induction ys with
  | nil => rfl
  | cons y r ih => simp only [outCs, outL, List.flatMap_cons, List.map_append] at ih ⊢; rw [ih]; rfl
/-- append(ins, x): at a step of a region that draws its order -/
theorem step_appIn (W : World) {ops : Array Oper} {o : Oper} {a : Act} {K : Act → World → Prop} {Q : Exit → Act → World → Prop} {E : Prop} (hgd : o.guard = none) (s x : Operand)
    (ho : o.op = .call { callee := .builtin .append, args := #[s, x], argTypes := #[33, 33] })
    (base g0 : Nat) (v : Value) (xs : List InD) (y : InD) (hs : a.eval s = v) (hx : a.eval x = .slice (some ⟨g0, 0, none⟩) 1 1) (hown : OwnIns W base v xs) (hc : W.cell? ⟨g0, 0, none⟩ = some (.int .i64 y.id) ∧ W.cell? ⟨g0, 1, none⟩ = some (.int .i64 y.pos) ∧ W.cell? ⟨g0, 2, none⟩ = some (.slice y.ao y.n y.c)) (hbase : base ≤ W.heap.size) (hlen : xs.length < 3518437208883)
    (h : ∀ g cap w', OwnIns w' base (.slice (some ⟨g, 0, none⟩) (xs.length + 1) cap) (xs ++ [y]) → W.grownBy w' v.ownBlock → (v.ownBlock = some g ∨ W.heap.size ≤ g) → g < w'.heap.size → K (a.put o.dst (.slice (some ⟨g, 0, none⟩) (xs.length + 1) cap)) w') :
    if Region.wanted o (yielded ops a.tmps) = true then Oper.wp Tryz.prog o a W K Q else E := by
  obtain ⟨i0, hi, hz0, hz1, hz2⟩ := info_parts info115
  refine step_append_lies W hgd s x 33 ho base 115 i0 _ 3 40 Tryz.underlying33 hi hz0 hz1 hz2 rfl (by decide) v xs.length (inCs xs) hs hown ⟨g0, 0, none⟩ 1 1 [.int .i64 y.id, .int .i64 y.pos, .slice y.ao y.n y.c] hx rfl ?_ (one3 _ _ _ _ _) (by decide) (by unfold maxLen; omega) (by omega) hbase W.heap.size rfl ?_
  · intro j u hj
    rw [Go.WideShapes.add_plain, Nat.zero_add]
    match j, hj with
    | 0, hj => simp at hj; subst hj; exact hc.1
    | 1, hj => simp at hj; subst hj; exact hc.2.1
    | 2, hj => simp at hj; subst hj; exact hc.2.2
  · intro g cap w' hown' hg hlies hlt
    refine h g cap w' ?_ hg ?_ hlt
    · unfold OwnIns
      rw [List.length_append, ← inCs_snoc]
      exact hown'
    · rcases hlies with e | e
      · exact Or.inl e
      · exact Or.inr (by omega)
/-- an input as another's, but for where its seal lies -/
def Same (x y : InD) : Prop := y.id = x.id ∧ y.pos = x.pos ∧ y.n = x.n ∧ y.l = x.l
end Go.Proofs.YtffgpepngcnjeabGreatQ

namespace Go.Proofs.YtffgpepngcnjeabGreatQ
open Go.RowKit
theorem cells3_drew (w : World) (x y z : Value) (T : TypeId) : (w.alloc (.cells #[x, y, z] T)).drew.cell? ⟨w.heap.size, 0, none⟩ = some x ∧ (w.alloc (.cells #[x, y, z] T)).drew.cell? ⟨w.heap.size, 1, none⟩ = some y ∧ (w.alloc (.cells #[x, y, z] T)).drew.cell? ⟨w.heap.size, 2, none⟩ = some z := by
  refine ⟨?_, ?_, ?_⟩
  all_goals
    rw [World.cell?_drew, World.cell?_alloc_new]
    rfl
theorem own_slice' {w : World} {base g n : Nat} {l : List Int} (h : OwnInts w base (.slice (some ⟨g, 0, none⟩) n n) l) (hn : l.length = n) : IntsAt w (some ⟨g, 0, none⟩) l ∧ l.length = n := by
  obtain ⟨ao, c, e, hat, _⟩ := h.slice
  injection e with e1 e2 e3
  rw [e1]
  exact ⟨hat, hn⟩
theorem outs_oneT (ys : List (Int × Int)) : ∀ v ∈ outCs ys, v.oneCell' = true := by
  rw [outCs_map]
  exact ints_one _
theorem outCs_len (ys : List (Int × Int)) : (outCs ys).length = ys.length * 2 := by
  rw [outCs_map, List.length_map, outL_len]
  omega
theorem copy_outsTx {w wr : World} {XB : Nat} {T : Int} {vi V vo0 : Value} {ap : Option Addr} {m d : Nat} {ys : List (Int × Int)} (hww : Below w.heap.size w wr) (hX : w.heap.size ≤ XB) (hXB : XB < wr.heap.size) (hy : OutsAt w ap ys) (hm : ys.length = m) (m1 : m ≤ 8796093022208) (h0 : ap = none → d = 0)
    (htx : Tx3 wr XB (.int .i64 T) vi vo0) (hV : V = .slice (some ⟨wr.heap.size, 0, none⟩) m m) :
    ∃ w1, Sem.run Tryz.prog (Builtin.copy_ #[28, 28] 3 #[.slice (some ⟨wr.heap.size, 0, none⟩) m m, .slice ap m d]) ((wr.setCell ⟨XB, 2, none⟩ V).alloc (.cells (madeCells #[.int .i64 0, .int .i64 0] (m * 2)) 93)) = .ok (.int .i64 m) w1 ∧
      OInv wr XB (fun _ => True) T vi V ys w1 := by
  have hsz : (wr.setCell ⟨XB, 2, none⟩ V).heap.size = wr.heap.size := World.size_setCell _ _ _
  have hbW : Below w.heap.size w ((wr.setCell ⟨XB, 2, none⟩ V).alloc (.cells (madeCells #[.int .i64 0, .int .i64 0] (m * 2)) 93)) := (hww.setCell hX _).alloc (by rw [hsz]; exact hww.size) _
  have hnil : ap = none → m = 0 ∧ d = 0 := by
    intro e
    refine ⟨?_, h0 e⟩
    rcases hy with rfl | ⟨b, off, e', _⟩
    · rw [← hm]; rfl
    · rw [e] at e'; cases e'
  have hheap := heap_made (wr.setCell ⟨XB, 2, none⟩ V) (madeCells #[.int .i64 0, .int .i64 0] (m * 2)) 93
  rw [hsz] at hheap
  have hsrc := ints_src ((ints_of_outs hy).grown hbW)
  rw [← outCs_map] at hsrc
  obtain ⟨w1, h1, h2, h3⟩ := copy_gen Tryz.underlying28 sizeInfo56 ((wr.setCell ⟨XB, 2, none⟩ V).alloc (.cells (madeCells #[.int .i64 0, .int .i64 0] (m * 2)) 93)) wr.heap.size m ap d (madeCells #[.int .i64 0, .int .i64 0] (m * 2)) (outCs ys) (by simpa using hheap) (by rw [size_madeCells]) (by rw [outCs_len, hm]) hsrc (outs_oneT ys) hnil
  refine ⟨w1, h1, ?_, fun _ _ => trivial, ?_, ?_, hXB⟩
  · subst hV
    have := owns_whole (base := wr.heap.size) (size := 2) (n := m) h2 (by rw [outCs_len, hm]) (Nat.le_refl _) (by unfold maxLen; omega)
    unfold OwnOuts
    rw [hm]
    exact this
  · exact ((htx.set2 V).gb (gb_alloc _ _ Option.none) (by simp)).gb h3 (fun e => by injection e with e; omega)
  · refine ⟨h3.os, h3.tape, h3.output, ?_, fun k hk hne => ?_⟩
    · have := h3.size; rw [World.size_alloc, hsz] at this; omega
    · refine (h3.block k (by rw [World.size_alloc, hsz]; omega) (fun e => by injection e with e; omega)).trans ?_
      rw [Below.heap_alloc _ _ _ (by rw [hsz]; exact hk)]
      exact Below.heap_setCell wr ⟨XB, 2, none⟩ V k (fun e => hne (by rw [e]))
set_option maxRecDepth 100000 in
set_option maxHeartbeats 4000000 in
theorem copyTx_any (t : Int) (ai : Option Addr) (n c : Nat) (ap : Option Addr) (m d : Nat) (xs : List InD) (ys : List (Int × Int)) (w : World) (hx : InsAt w ai xs) (hn : xs.length = n) (hy : OutsAt w ap ys) (hm : ys.length = m)
    (n1 : n ≤ 3518437208883) (m1 : m ≤ 8796093022208) (h0 : ap = none → d = 0) :
    Calls Tryz.prog 42 #[.agg #[.int .i64 t, .slice ai n c, .slice ap m d]] w fun e w' => ∃ vi vo xs', e = .returned (.agg #[.int .i64 t, vi, vo]) ∧ Fresh w' w.heap.size vi vo (fun j x => Same (xs.getD j dIn) x) xs' ys ∧ xs'.length = n ∧ Below w.heap.size w w' := by
  have HN : Hid (xs.length = n) := hn
  have HM : Hid (ys.length = m) := hm
  have HX : Hid (InsAt w ai xs) := hx
  have HY : Hid (OutsAt w ap ys) := hy
  have H0 : Hid _ := h0
  clear hn hm hx hy h0
  go_enter Tryz.func42, Tryz.ntmps42
  go_wp2
  obtain ⟨W2, HW2, hsz2, hbel2, bx, rs⟩ := htx_start w t ai ap n c m d
  rw [← HW2.out]
  have HBL2 : Hid _ := hbel2
  have HBX : Hid _ := bx
  have HRS : Hid _ := rs
  clear hbel2 bx rs
  generalize hX : w.heap.size = X at *
  have HXX : Hid _ := hX
  clear hX
  have HSZ2 : Hid (W2.heap.size = X + 1 + 1) := hsz2
  clear hsz2
  go_loopw [4] (fun i wr => ∃ (k : Nat) (vi : Value) (zs : List InD), k ≤ n ∧ i = .int .i64 k ∧ Hid (zs.length = k) ∧ SInv W2 (X + 1 + 1) (fun j x => Same (xs.getD j dIn) x) t vi (.slice none 0 0) zs wr) (fun i _ => n - (intOf i).toNat)
  case atStart =>
    refine ⟨0, _, [], Nat.zero_le _, rfl, rfl, OwnIns.nil _ _, fun j hj => by simp at hj, ?_, ?_, ?_⟩
    · rw [← HSZ2.out]; exact Tx3.new W2 _ _ _ _
    · exact (Below.refl _ _).alloc (by rw [HSZ2.out]; exact Nat.le_refl _) _
    · rw [World.size_alloc, HSZ2.out]; omega
  case round =>
    obtain ⟨k, vi, zs, hk, rfl, hzl, hinv⟩ := hrel
    have hbl := hinv.bel
    have hlt0 := hinv.lt
    obtain ⟨x0, x1, x2⟩ := HBX.out wr hbl
    have hw : Below X w wr := HBL2.out.trans (hbl.mono (by omega))
    have hww : Below w.heap.size w wr := by rw [HXX.out]; exact hw
    have HINV : Hid (SInv W2 (X + 1 + 1) (fun j x => Same (xs.getD j dIn) x) t vi (.slice none 0 0) zs wr) := hinv
    clear hinv
    by_cases hlt : k < n
    · rcases HX.out with hnil | ⟨b, off, rfl, hrow⟩
      · have := HN.out; rw [hnil] at this; simp at this; omega
      obtain ⟨⟨c0, c1, c2⟩, hok⟩ := (hrow.grown hww) k (by rw [HN.out]; exact hlt)
      clear hrow
      generalize hyy : xs.getD k dIn = y at c0 c1 c2 hok
      have HYY : Hid (xs.getD k dIn = y) := hyy
      clear hyy
      obtain ⟨yid, ypos, yao, yn, yc, yl⟩ := y
      obtain ⟨k1, k2, k3, k4⟩ := hok
      simp only at c0 c1 c2 k1 k2 k3 k4
      have hmk := make_intsN yn k3
      obtain ⟨w1, hrun, hos, hb1, hlt1⟩ := copy_seal yao yn yc yl wr k1 k2 k3 k4
      have hs := HINV.out.grown hb1
      have d1 := cell_move hb1 x1 (cell_lt x1)
      have d2 := cell_move hb1 c0 (cell_lt c0)
      have d3 := cell_move hb1 c1 (cell_lt c1)
      have t1 := hs.tx.c1
      have tf1 := hs.tx.f1
      have hszr := hs.lt
      have hvX : some (X + 1 + 1) ≠ vi.ownBlock := fun e => by have := (owns_blk hs.own _ e.symm).1; omega
      have hzl10 : zs.length < 3518437208883 := by rw [hzl.out]; omega
      have hXr : X < wr.heap.size := by omega
      have hbr : b < wr.heap.size := cell_lt c0
      have HS : Hid (SInv W2 (X + 1 + 1) (fun j x => Same (xs.getD j dIn) x) t vi (.slice none 0 0) zs w1) := hs
      have HB1 : Hid (Below wr.heap.size wr w1) := hb1
      have HVX : Hid _ := hvX
      have HOS : Hid (OwnInts w1 wr.heap.size (.slice (some ⟨wr.heap.size, 0, none⟩) yn yn) yl) := hos
      have K2 : Hid (yl.length = yn) := k2
      have e1 : (k : Int) < (n : Int) := by omega
      have e2 : (0 : Int) ≤ (k : Int) := by omega
      clear hs hb1 hvX hos k1 k2 k4
      go_wp2
      clear hmk hrun
      go_region_law (refine step_appIn _ ?_ (.tmp 33) (.tmp 48) ?_ (X + 1 + 1 + 1) w1.heap.size vi zs ⟨yid, ypos, some ⟨wr.heap.size, 0, none⟩, yn, yn, yl⟩ ?_ ?_ ?_ ?_ ?_ hzl10 ?_; rfl; rfl; rfl; rfl; exact (World.ownsRow.alloc HS.out.own _); exact cells3_drew _ _ _ _ _; exact Nat.le_trans hszr (le_oned _ _); intro g cap w2 hown2 hg hlies hglt; have hg2 := gb_trans (gb_trans (gb_alloc _ _ _) (gb_drew _ _)) hg; have q1 := gb_cell hg2 t1 HVX.out; have qf := (gb_frozen hg2 (b := X + 1 + 1) (o := 1) hszr HVX.out).trans tf1)
      all_goals
        go_wp2
        go_roundw
        case rel => exact ⟨k + 1, _, zs ++ [⟨yid, ypos, some ⟨wr.heap.size, 0, none⟩, yn, yn, yl⟩], by omega, by go_num, by show List.length _ = _; rw [List.length_append, hzl.out]; rfl, HINV.out.push HB1.out ⟨(own_slice' HOS.out K2.out).1, K2.out, k3, fun h => (by cases h)⟩ (by rw [hzl.out, HYY.out]; exact ⟨rfl, rfl, rfl, rfl⟩) (fun a ha => by injection ha with ha; subst ha; exact ⟨Nat.le_refl _, hlt1⟩) hown2 hg2 (hlies.imp id (fun h => Nat.le_of_succ_le (by simpa using h)))⟩
        case measure => simp [intOf]; omega
    · have hkn : k = n := by omega
      subst hkn
      obtain ⟨aio, ci, hvi⟩ : ∃ aio ci, vi = .slice aio zs.length ci := by
        rcases HINV.out.own.cells with ⟨h1, h2⟩ | ⟨g, cc, h1, _⟩
        · subst h2; exact ⟨_, _, h1⟩
        · exact ⟨_, _, h1⟩
      subst hvi
      have hmk := make_outsT m m1
      have t2 := HINV.out.tx.c2
      have tf := HINV.out.tx.f2
      have hXr : X < wr.heap.size := by omega
      obtain ⟨w1, hrun, ho⟩ := copy_outsTx (V := .slice (some ⟨wr.heap.size, 0, none⟩) m m) (T := t) (vi := .slice aio zs.length ci) (XB := X + 1 + 1) hww (by rw [HXX.out]; omega) hlt0 HY.out HM.out m1 H0.out HINV.out.tx rfl
      have hbx : Below (X + 1 + 1) W2 w1 := hbl.trans (gb_to_below ho.gb (by omega) (fun q hq => by injection hq with hq; omega))
      obtain ⟨⟨r0, r1, r2⟩, s0, s1, s2⟩ := HRS.out w1 hbx
      have q0 := ho.tx.c0
      have q1 := ho.tx.c1
      have q2 := ho.tx.c2
      have hfr := Fresh.of HINV.out ho
      have HFR : Hid (Fresh w1 (X + 1 + 1 + 1) (.slice aio zs.length ci) (.slice (some ⟨wr.heap.size, 0, none⟩) m m) (fun j x => Same (xs.getD j dIn) x) zs ys) := hfr
      clear hfr ho
      go_wp2
      refine bodyPost_ret (v := .agg #[.int .i64 t, .slice aio zs.length ci, .slice (some ⟨wr.heap.size, 0, none⟩) m m]) ?_ rfl ⟨_, _, zs, rfl, ?_, hzl.out, ?_⟩
      · simp [results, Tryz.results42, go_sem, r0, r1, r2]
      · rw [HXX.out]
        exact (HFR.out.gb (gb_put3 _ (X + 1) 0 _ _ _) (fun q hq => by injection hq with hq; omega)).lower (by omega)
      · rw [HXX.out]
        exact put3_below (HBL2.out.trans (hbx.mono (by omega))) (Nat.le_succ X)
end Go.Proofs.YtffgpepngcnjeabGreatQ

namespace Go.Proofs.YtffgpepngcnjeabGreatQ
open Go.RowKit
structure Reads (w : World) (base : Nat) (ai : Option Addr) (xs : List InD) (ap : Option Addr) (ys : List (Int × Int)) : Prop where
  ins : xs = [] ∨ ∃ b, ai = some ⟨b, 0, none⟩ ∧ base ≤ b ∧ ∀ j, j < xs.length → InCells w b (j * 3) (xs.getD j dIn)
  seals : ∀ j, j < xs.length → InOk w (xs.getD j dIn) ∧ ∀ a, (xs.getD j dIn).ao = some a → base ≤ a.block
  outs : ys = [] ∨ ∃ b, ap = some ⟨b, 0, none⟩ ∧ base ≤ b ∧ OutsRow w b 0 ys
theorem Reads.gb {w w' : World} {row : Option Nat} (h : w.grownBy w' row) {base : Nat} {ai ap : Option Addr} {xs : List InD} {ys : List (Int × Int)} (hr : Reads w base ai xs ap ys) (hk : ∀ k, row = some k → k < base) : Reads w' base ai xs ap ys := by
  have off : ∀ b, base ≤ b → some b ≠ row := fun b hb e => by have := hk b e.symm; omega
  refine ⟨?_, fun j hj => ⟨gb_ok h (hr.seals j hj).1 (fun a ha => off _ ((hr.seals j hj).2 a ha)), (hr.seals j hj).2⟩, ?_⟩
  · rcases hr.ins with e | ⟨b, e, hb, hc⟩
    · exact Or.inl e
    · exact Or.inr ⟨b, e, hb, fun j hj => ⟨gb_cell h (hc j hj).c0 (off b hb), gb_cell h (hc j hj).c1 (off b hb), gb_cell h (hc j hj).c2 (off b hb)⟩⟩
  · rcases hr.outs with e | ⟨b, e, hb, hc⟩
    · exact Or.inl e
    · exact Or.inr ⟨b, e, hb, gb_outs h hc (off b hb)⟩
theorem Reads.lower {w : World} {base B : Nat} {ai ap : Option Addr} {xs : List InD} {ys : List (Int × Int)} (hr : Reads w base ai xs ap ys) (hB : B ≤ base) : Reads w B ai xs ap ys := by
  refine ⟨?_, fun j hj => ⟨(hr.seals j hj).1, fun a ha => Nat.le_trans hB ((hr.seals j hj).2 a ha)⟩, ?_⟩
  · rcases hr.ins with e | ⟨b, e, hb, hc⟩
    · exact Or.inl e
    · exact Or.inr ⟨b, e, Nat.le_trans hB hb, hc⟩
  · rcases hr.outs with e | ⟨b, e, hb, hc⟩
    · exact Or.inl e
    · exact Or.inr ⟨b, e, Nat.le_trans hB hb, hc⟩
theorem Reads.insAt {w : World} {base : Nat} {ai ap : Option Addr} {xs : List InD} {ys : List (Int × Int)} (hr : Reads w base ai xs ap ys) : InsAt w ai xs := by
  rcases hr.ins with e | ⟨b, e, hb, hc⟩
  · exact Or.inl e
  · exact Or.inr ⟨b, 0, e, fun j hj => ⟨by rw [Nat.zero_add]; exact hc j hj, (hr.seals j hj).1⟩⟩
theorem Reads.outsAt {w : World} {base : Nat} {ai ap : Option Addr} {xs : List InD} {ys : List (Int × Int)} (hr : Reads w base ai xs ap ys) : OutsAt w ap ys := by
  rcases hr.outs with e | ⟨b, e, hb, hc⟩
  · exact Or.inl e
  · exact Or.inr ⟨b, 0, e, hc⟩
theorem Fresh.reads' {w : World} {base : Nat} {ai ap : Option Addr} {n c m d : Nat} {Q : Nat → InD → Prop} {xs : List InD} {ys : List (Int × Int)} (hf : Fresh w base (.slice ai n c) (.slice ap m d) Q xs ys) : Reads w base ai xs ap ys := by
  refine ⟨?_, fun j hj => ⟨(hf.ok j hj).1, fun a ha => ((hf.ok j hj).2.2 a ha).1⟩, ?_⟩
  · rcases hf.ins.cells with ⟨_, h2⟩ | ⟨g, c', h1, h2, h3, h4, h5⟩
    · exact Or.inl h2
    · injection h1 with e1 e2 e3
      exact Or.inr ⟨g, e1, h2, h4⟩
  · rcases hf.outs.cells with ⟨_, h2⟩ | ⟨g, c', h1, h2, h3, h4, h5⟩
    · exact Or.inl h2
    · injection h1 with e1 e2 e3
      exact Or.inr ⟨g, e1, h2, h4⟩
end Go.Proofs.YtffgpepngcnjeabGreatQ

namespace Go.Proofs.YtffgpepngcnjeabGreatQ
open Go.RowKit
/-- xs is xs0 with what block h has brought so far -/
def Over (h : Int) (xs0 xs : List Cel) : Prop := ∃ pre new, xs = pre ++ new ∧ (∀ x ∈ new, x.made = h ∧ (x.spent = -1 ∨ x.spent = h)) ∧ (∀ x ∈ pre, x.made ≠ h) ∧ pre.map (unsp h) = xs0
theorem leftI_eq (h : Int) (xs : List Cel) (p : Nat) (hp : p = 0 ∨ (xs.getD (p - 1) dC).made ≠ h) : ∀ k, p ≤ k → (∀ j, p ≤ j → j < k → (xs.getD j dC).made = h) → leftI h xs k = p := by
  intro k
  induction k with
  | zero => intro hk _; exact (Nat.le_zero.1 hk).symm
  | succ k ih =>
    intro hk hj
    rw [leftI_succ]
    by_cases e : p = k + 1
    · subst e
      rcases hp with hp | hp
      · omega
      · rw [if_neg (by simpa using hp)]
    · rw [if_pos (hj k (by omega) (by omega))]
      exact ih (by omega) (fun j h1 h2 => hj j h1 (by omega))
theorem getD_app_left {α : Type} (a b : List α) (d : α) (j : Nat) (h : j < a.length) : (a ++ b).getD j d = a.getD j d := by
  simp only [List.getD]; rw [List.getElem?_append_left h]
theorem getD_app_right {α : Type} (a b : List α) (d : α) (j : Nat) (h : a.length ≤ j) : (a ++ b).getD j d = b.getD (j - a.length) d := by
  simp only [List.getD]; rw [List.getElem?_append_right h]
theorem tb_over {h : Int} {xs0 xs : List Cel} (ho : Over h xs0 xs) : tbZ h xs = xs0 := by
  obtain ⟨pre, new, rfl, hn, hp, hu⟩ := ho
  have hl : leftI h (pre ++ new) (pre ++ new).length = pre.length := by
    refine leftI_eq h _ _ ?_ _ (by simp) ?_
    · by_cases e : pre.length = 0
      · exact Or.inl e
      · right
        rw [getD_app_left _ _ _ _ (by omega)]
        exact hp _ (getD_mem pre dC _ (by omega))
    · intro j h1 h2
      rw [getD_app_right _ _ _ _ h1]
      exact (hn _ (getD_mem new dC _ (by rw [List.length_append] at h2; omega))).1
  unfold tbZ
  rw [hl, List.take_left]
  exact hu
theorem over_refl {h : Int} {xs : List Cel} (hx : ∀ x ∈ xs, x.made ≠ h ∧ x.spent ≠ h) : Over h xs xs := by
  refine ⟨xs, [], by simp, by simp, fun x hx' => (hx x hx').1, ?_⟩
  have e : ∀ x ∈ xs, unsp h x = id x := fun x hx' => by unfold unsp; rw [if_neg (hx x hx').2]; rfl
  rw [List.map_congr_left e, List.map_id]
theorem set_map_same {α β : Type} (f : α → β) (l : List α) (q : Nat) (y : α) (d : α) (hq : q < l.length) (hy : f y = f (l.getD q d)) : (l.set q y).map f = l.map f := by
  rw [List.map_set, hy]
  simp only [List.getD, List.getElem?_eq_getElem hq, Option.getD_some]
  have : f l[q] = (l.map f)[q]'(by simpa using hq) := by simp
  rw [this]
  exact List.set_getElem_self (by simpa using hq)
theorem over_mark1 {h : Int} {xs0 xs : List Cel} (ho : Over h xs0 xs) (hh : h ≠ -1) (q : Nat) (hq : q < xs.length) (hs : (xs.getD q dC).spent = -1 ∨ (xs.getD q dC).spent = h) : Over h xs0 (xs.set q ((xs.getD q dC).sp h)) := by
  obtain ⟨pre, new, rfl, hn, hp, hu⟩ := ho
  by_cases hl : q < pre.length
  · rw [getD_app_left _ _ _ _ hl] at hs ⊢
    refine ⟨pre.set q ((pre.getD q dC).sp h), new, by rw [List.set_append_left _ _ hl], hn, fun x hx => ?_, ?_⟩
    · rcases List.mem_or_eq_of_mem_set hx with hx | hx
      · exact hp x hx
      · have h3 := hp _ (getD_mem pre dC q hl)
        rw [hx]
        exact h3
    · rw [set_map_same (unsp h) pre q _ dC hl ?_]
      · exact hu
      · have e1 : unsp h ((pre.getD q dC).sp h) = ((pre.getD q dC).sp h).sp (-1) := by unfold unsp; exact if_pos rfl
        rw [e1]
        rcases hs with hs | hs
        · unfold unsp
          rw [if_neg (by rw [hs]; exact fun e => hh e.symm)]
          generalize pre.getD q dC = z at hs
          obtain ⟨z0, z1, z2, z3, z4, z5⟩ := z
          simp only at hs
          subst hs
          rfl
        · unfold unsp
          rw [if_pos hs]
          rfl
  · rw [getD_app_right _ _ _ _ (by omega)] at hs ⊢
    have hq2 : q - pre.length < new.length := by rw [List.length_append] at hq; omega
    refine ⟨pre, new.set (q - pre.length) ((new.getD (q - pre.length) dC).sp h), by rw [List.set_append_right _ _ (by omega)], fun x hx => ?_, hp, hu⟩
    rcases List.mem_or_eq_of_mem_set hx with hx | hx
    · exact hn x hx
    · rw [hx]
      exact ⟨(hn _ (getD_mem new dC _ hq2)).1, Or.inr rfl⟩
theorem over_mark {h : Int} (hh : h ≠ -1) {xs0 : List Cel} : ∀ (ss : List SpD) (xs : List Cel), Over h xs0 xs → (∀ s ∈ ss, s.pl.toNat < xs.length ∧ ((xs.getD s.pl.toNat dC).spent = -1 ∨ (xs.getD s.pl.toNat dC).spent = h)) → Over h xs0 (markZ h xs ss) := by
  intro ss
  induction ss with
  | nil => intro xs ho _; exact ho
  | cons s r ih =>
    intro xs ho hs
    obtain ⟨h1, h2⟩ := hs s (by simp)
    rw [markZ]
    refine ih _ (over_mark1 ho hh _ h1 h2) (fun s' hs' => ?_)
    obtain ⟨g1, g2⟩ := hs s' (by simp [hs'])
    refine ⟨by rw [List.length_set]; exact g1, ?_⟩
    by_cases e : s'.pl.toNat = s.pl.toNat
    · right
      rw [e]
      simp only [List.getD]
      rw [List.getElem?_set_self h1]
      rfl
    · simp only [List.getD] at g2 ⊢
      rw [List.getElem?_set_ne (fun e' => e e'.symm)]
      exact g2
theorem over_add {h : Int} (hh : h ≠ -1) {xs0 xs : List Cel} (ho : Over h xs0 xs) (t : Int) (ins : List InD) (ys : List (Int × Int)) (first : Bool) : Over h xs0 (addZ xs h t ins ys first).2 := by
  rcases addZ_cases xs h t ins ys first with ⟨_, h2⟩ | ⟨_, _, _, ss, hss, _, _, he⟩
  · rw [h2]; exact ho
  · rw [he]
    have hq : ∀ s ∈ ss, s.pl.toNat < xs.length ∧ ((xs.getD s.pl.toNat dC).spent = -1 ∨ (xs.getD s.pl.toNat dC).spent = h) := spZ_good xs (fun s => s.pl.toNat < xs.length ∧ ((xs.getD s.pl.toNat dC).spent = -1 ∨ (xs.getD s.pl.toNat dC).spent = h)) ins [] ss (fun i _ q hq hc => by
      have e : ((q : Int)).toNat = q := Int.toNat_natCast q
      simp only [e]
      refine ⟨hq, Or.inl ?_⟩
      simp only [isCoin, Bool.and_eq_true, beq_iff_eq] at hc
      exact hc.2.2) hss (fun s hs => by simp at hs)
    obtain ⟨pre, new, e, hn, hp, hu⟩ := over_mark hh ss xs ho hq
    refine ⟨pre, new ++ newC (idZ t ins ys) h ys ys.length, ?_, fun x hx => ?_, hp, hu⟩
    · show markZ h xs ss ++ _ = _
      rw [e, List.append_assoc]
    · rcases List.mem_append.1 hx with hx | hx
      · exact hn x hx
      · simp only [newC, List.mem_map, List.mem_range] at hx
        obtain ⟨j, _, rfl⟩ := hx
        exact ⟨rfl, Or.inl rfl⟩
theorem over_go {h : Int} (hh : h ≠ -1) {xs0 : List Cel} : ∀ (bl : List TxD) (xs : List Cel) (i : Nat), Over h xs0 xs → ((connGo h xs bl i).1 ≠ 0 → (connGo h xs bl i).2.2 = xs0) ∧ ((connGo h xs bl i).1 = 0 → Over h xs0 (connGo h xs bl i).2.2) := by
  intro bl
  induction bl with
  | nil => intro xs i ho; exact ⟨fun h => absurd rfl h, fun _ => ho⟩
  | cons t r ih =>
    intro xs i ho
    have ha := over_add hh ho t.t t.ins t.ys (i == 0)
    unfold connGo
    by_cases e : (addZ xs h t.t t.ins t.ys (i == 0)).1 ≠ 0
    · rw [if_pos e]
      exact ⟨fun _ => tb_over ha, fun h0 => absurd h0 e⟩
    · rw [if_neg e]
      exact ih _ _ ha
/-- made and spent by blocks below h -/
def Und (h : Int) (xs : List Cel) : Prop := ∀ x ∈ xs, x.made < h ∧ x.spent < h
theorem Und.over {h : Int} {xs0 xs : List Cel} (hu : Und h xs0) (ho : Over h xs0 xs) (hh : 0 ≤ h) : Und (h + 1) xs := by
  obtain ⟨pre, new, rfl, hn, hp, hm⟩ := ho
  intro x hx
  rcases List.mem_append.1 hx with hx | hx
  · have h1 : unsp h x ∈ xs0 := by rw [← hm]; exact List.mem_map_of_mem hx
    have h2 := hu _ h1
    unfold unsp at h2
    split at h2
    · rename_i e
      have h3 : x.made < h := h2.1
      omega
    · omega
  · obtain ⟨h1, h2⟩ := hn x hx
    omega
theorem Und.ne {h : Int} {xs : List Cel} (hu : Und h xs) : ∀ x ∈ xs, x.made ≠ h ∧ x.spent ≠ h := fun x hx => by have := hu x hx; omega
/-- what Connect says of a chain whose outputs are all of blocks below its height -/
theorem conn_cases (h : Int) (xs : List Cel) (bl : List TxD) (hu : Und h xs) (hh : 0 ≤ h) :
    ((connZ h xs bl).1 ≠ 0 ∧ (connZ h xs bl).2.2 = (h, xs)) ∨ (h < 40 ∧ (connZ h xs bl).1 = 0 ∧ (connZ h xs bl).2.1 = 0 ∧ (connZ h xs bl).2.2.1 = h + 1 ∧ Over h xs (connZ h xs bl).2.2.2) := by
  unfold connZ
  by_cases h40 : 40 ≤ h
  · rw [if_pos h40]; left; simp
  · rw [if_neg h40]
    by_cases h6 : 6 < bl.length
    · rw [if_pos h6]; left; simp
    · rw [if_neg h6]
      obtain ⟨g1, g2⟩ := over_go (h := h) (by omega) bl xs 0 (over_refl hu.ne)
      by_cases e : (connGo h xs bl 0).1 ≠ 0
      · rw [if_pos e]
        left
        refine ⟨e, ?_⟩
        simp only
        rw [g1 e]
      · rw [if_neg e]
        right
        exact ⟨by omega, rfl, rfl, rfl, g2 (by simpa using e)⟩
theorem go_len (h : Int) : ∀ (bl : List TxD) (xs : List Cel) (i : Nat), Vals xs → (connGo h xs bl i).1 = 0 → Vals (connGo h xs bl i).2.2 ∧ (connGo h xs bl i).2.2.length ≤ xs.length + 8 * bl.length := by
  intro bl
  induction bl with
  | nil => intro xs i hv _; exact ⟨hv, by simp [connGo]⟩
  | cons t r ih =>
    intro xs i hv
    obtain ⟨a1, a2⟩ := addZ_good xs h t.t t.ins t.ys (i == 0) hv
    unfold connGo
    by_cases e : (addZ xs h t.t t.ins t.ys (i == 0)).1 ≠ 0
    · rw [if_pos e]
      intro h0
      exact absurd h0 e
    · rw [if_neg e]
      intro h0
      obtain ⟨b1, b2⟩ := ih _ _ a1 h0
      refine ⟨b1, ?_⟩
      simp only [List.length_cons]
      omega
theorem conn_len (h : Int) (xs : List Cel) (bl : List TxD) (hv : Vals xs) (h0 : (connZ h xs bl).1 = 0) : Vals (connZ h xs bl).2.2.2 ∧ (connZ h xs bl).2.2.2.length ≤ xs.length + 48 := by
  unfold connZ at h0 ⊢
  by_cases h40 : 40 ≤ h
  · rw [if_pos h40] at h0; simp at h0
  · rw [if_neg h40] at h0 ⊢
    by_cases h6 : 6 < bl.length
    · rw [if_pos h6] at h0; simp at h0
    · rw [if_neg h6] at h0 ⊢
      by_cases e : (connGo h xs bl 0).1 ≠ 0
      · rw [if_pos e] at h0; exact absurd h0 e
      · rw [if_neg e]
        have := go_len h bl xs 0 hv (by simpa using e)
        refine ⟨this.1, ?_⟩
        have := this.2
        simp only
        omega
end Go.Proofs.YtffgpepngcnjeabGreatQ
namespace Go.Proofs.YtffgpepngcnjeabGreatQ
open Go.RowKit
def InD.st (x : InD) : InD := ⟨x.id, x.pos, none, x.n, 0, x.l⟩
def SpD.st (x : SpD) : SpD := match x with
  | ⟨a, b, c, _, n, _, l⟩ => ⟨a, b, c, none, n, 0, l⟩
theorem rIns_st (xs : List InD) : rIns (xs.map InD.st) = rIns xs := by
  unfold rIns
  rw [List.length_map, List.all_map]
  rfl
theorem rTx_st (t : Int) (xs : List InD) (ys : List (Int × Int)) : rTx t (xs.map InD.st) ys = rTx t xs ys := by
  unfold rTx
  rw [rIns_st]
theorem inL_st (xs : List InD) : inL (xs.map InD.st) = inL xs := by
  unfold inL
  rw [List.flatMap_map]
  rfl
theorem idZ_st (t : Int) (xs : List InD) (ys : List (Int × Int)) : idZ t (xs.map InD.st) ys = idZ t xs ys := by
  unfold idZ idL
  rw [rTx_st, inL_st, List.length_map]
theorem isSp_st (acc : List SpD) (p : Int) : isSp (acc.map SpD.st) p = isSp acc p := by
  unfold isSp
  rw [List.any_map]
  rfl
theorem spZ_st (xs : List Cel) : ∀ (ins : List InD) (acc : List SpD), spZ xs (ins.map InD.st) (acc.map SpD.st) = (spZ xs ins acc).map (List.map SpD.st) := by
  intro ins
  induction ins with
  | nil => intro acc; rfl
  | cons i r ih =>
    intro acc
    rw [List.map_cons]
    unfold spZ
    rw [isSp_st]
    by_cases hc : findZ xs i.id i.pos < 0 ∨ isSp acc (findZ xs i.id i.pos) = true
    · have hc' : findZ xs i.st.id i.st.pos < 0 ∨ isSp acc (findZ xs i.st.id i.st.pos) = true := hc
      rw [if_pos hc', if_pos hc]
      rfl
    · have hc' : ¬(findZ xs i.st.id i.st.pos < 0 ∨ isSp acc (findZ xs i.st.id i.st.pos) = true) := hc
      rw [if_neg hc', if_neg hc, ← ih]
      rw [List.map_append]
      rfl
theorem all_st (id : Int) (ss : List SpD) : (ss.map SpD.st).all (opens id) = ss.all (opens id) := by
  rw [List.all_map]
  rfl
theorem sumSp_st (ss : List SpD) : sumSp (ss.map SpD.st) = sumSp ss := by
  unfold sumSp
  rw [List.map_map]
  rfl
theorem markZ_st (h : Int) (ss : List SpD) : ∀ xs, markZ h xs (ss.map SpD.st) = markZ h xs ss := by
  induction ss with
  | nil => intro xs; rfl
  | cons s r ih => intro xs; rw [List.map_cons, markZ, markZ, ih]; rfl
theorem addZ_st (xs : List Cel) (h t : Int) (ins : List InD) (ys : List (Int × Int)) (first : Bool) : addZ xs h t (ins.map InD.st) ys first = addZ xs h t ins ys first := by
  unfold addZ
  rw [rTx_st, idZ_st]
  have e0 : (ins.map InD.st = [] ∧ first = false) = (ins = [] ∧ first = false) := by rw [List.map_eq_nil_iff]
  simp only [e0]
  have e1 := spZ_st xs ins []
  rw [List.map_nil] at e1
  rw [e1]
  cases spZ xs ins [] with
  | none => rfl
  | some ss =>
    simp only [Option.map_some]
    rw [all_st, sumSp_st, markZ_st]
    have e2 : (ss.map SpD.st ≠ [] ∧ sumSp ss < sumOu ys) = (ss ≠ [] ∧ sumSp ss < sumOu ys) := by rw [ne_eq, List.map_eq_nil_iff]
    simp only [e2]
/-- the contents of a transaction -/
def TxD.k (x : TxD) : Int × List InD × List (Int × Int) := (x.t, x.ins.map InD.st, x.ys)
theorem connGo_k (h : Int) : ∀ (bl bl' : List TxD) (xs : List Cel) (i : Nat), bl.map TxD.k = bl'.map TxD.k → connGo h xs bl i = connGo h xs bl' i := by
  intro bl
  induction bl with
  | nil =>
    intro bl' xs i e
    cases bl' with
    | nil => rfl
    | cons t r => simp at e
  | cons t r ih =>
    intro bl' xs i e
    cases bl' with
    | nil => simp at e
    | cons t' r' =>
      rw [List.map_cons, List.map_cons] at e
      injection e with e1 e2
      simp only [TxD.k, Prod.mk.injEq] at e1
      obtain ⟨k1, k2, k3⟩ := e1
      have ea : addZ xs h t.t t.ins t.ys (i == 0) = addZ xs h t'.t t'.ins t'.ys (i == 0) := by
        rw [← addZ_st xs h t.t t.ins, ← addZ_st xs h t'.t t'.ins, k1, k2, k3]
      unfold connGo
      rw [ea, ih r' _ _ e2]
theorem connZ_k (h : Int) (xs : List Cel) (bl bl' : List TxD) (e : bl.map TxD.k = bl'.map TxD.k) : connZ h xs bl = connZ h xs bl' := by
  have el : bl.length = bl'.length := by have := congrArg List.length e; simpa using this
  unfold connZ
  rw [connGo_k h bl bl' xs 0 e, el]
theorem same_st {xs xs' : List InD} (hl : xs'.length = xs.length) (h : ∀ j, j < xs.length → Same (xs.getD j dIn) (xs'.getD j dIn)) : xs'.map InD.st = xs.map InD.st := by
  apply List.ext_getElem
  · rw [List.length_map, List.length_map, hl]
  · intro j h1 h2
    rw [List.length_map] at h1 h2
    have := h j h2
    simp only [List.getD, List.getElem?_eq_getElem h1, List.getElem?_eq_getElem h2, Option.getD_some] at this
    obtain ⟨e1, e2, e3, e4⟩ := this
    rw [List.getElem_map, List.getElem_map]
    unfold InD.st
    rw [e1, e2, e3, e4]
end Go.Proofs.YtffgpepngcnjeabGreatQ
