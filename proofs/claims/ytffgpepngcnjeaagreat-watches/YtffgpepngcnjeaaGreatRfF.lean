/-
  The document's answer: all outputs of a chain.
-/
import Derived.Test.YtffgpepngcnjeaaGreatRfZ
import Derived.Test.YtffgpepngcnjeaaGreatPutB
import Derived.Deep.DeepCutAuto
import Derived.Deep.RegionLaw
namespace Go.Proofs.YtffgpepngcnjeaaGreat
open Go.RowKit

def RCel.mark (x : RCel) : RCel := ⟨x.id, x.pos, x.ad, x.val, true⟩
/-- the coin that an input names is spent -/
def markI (l : List RCel) (i : InD) : List RCel := if rfindZ l i.id i.pos < 0 then l else l.set (rfindZ l i.id i.pos).toNat ((l.getD (rfindZ l i.id i.pos).toNat dR).mark)
def insR (l : List RCel) (ins : List InD) : List RCel := ins.foldl markI l
def outR (id : Int) (ys : List (Int × Int)) (k : Nat) : List RCel := (List.range k).map fun j : Nat => ⟨id, j, (ys.getD j (0, 0)).1, (ys.getD j (0, 0)).2, false⟩
def txR (l : List RCel) (t : TxD) : List RCel := insR l t.ins ++ outR t.id t.ys t.ys.length
def blkR (l : List RCel) (bl : List TxD) : List RCel := bl.foldl txR l
def cellsR (bls : List (List TxD)) : List RCel := bls.foldl blkR []

theorem markI_len (l : List RCel) (i : InD) : (markI l i).length = l.length := by
  unfold markI; split <;> simp
theorem insR_len (ins : List InD) : ∀ l : List RCel, (insR l ins).length = l.length := by
  unfold insR
  induction ins with
  | nil => intro l; rfl
  | cons x r ih => intro l; rw [List.foldl_cons, ih, markI_len]
theorem outR_len (id : Int) (ys : List (Int × Int)) (k : Nat) : (outR id ys k).length = k := by simp [outR]
theorem txR_len (l : List RCel) (t : TxD) : (txR l t).length = l.length + t.ys.length := by simp [txR, insR_len, outR_len]
theorem foldl_take {α β : Type} (f : β → α → β) (a : β) (l : List α) (d : α) (k : Nat) (h : k < l.length) : (l.take (k + 1)).foldl f a = f ((l.take k).foldl f a) (l.getD k d) := by
  rw [List.take_succ_eq_append_getElem h, List.foldl_append]
  simp only [List.getD, List.getElem?_eq_getElem h, Option.getD_some]
  rfl
theorem outR_snoc (id : Int) (ys : List (Int × Int)) (k : Nat) : outR id ys (k + 1) = outR id ys k ++ [⟨id, k, (ys.getD k (0, 0)).1, (ys.getD k (0, 0)).2, false⟩] := by
  unfold outR
  rw [List.range_succ, List.map_append]
  rfl

theorem rfindZ_cases (l : List RCel) (id pos : Int) : rfindZ l id pos = -1 ∨ ∃ j, j < l.length ∧ rfindZ l id pos = (j : Int) ∧ isRC id pos (l.getD j dR) = true := by
  rcases idxOf_cases (isRC id pos) dR l 0 with h | ⟨j, h1, h2, h3⟩
  · exact Or.inl h
  · exact Or.inr ⟨j, h1, by rw [rfindZ, h2]; simp, h3⟩

theorem info160 : (Tryz.prog.info? 160).map (fun i => (i.zero, i.size, i.bytes)) = some (some (.agg #[.int .i64 0, .int .i64 0, .int .i64 0, .int .i64 0, .bool false]), 5, 40) := by kernel_rfl

abbrev OwnR (w : World) (base : Nat) (v : Value) (l : List RCel) : Prop := OwnRec RCel.v 160 5 w base v l

/-- the list in the making, a transaction boxed in block T -/
structure CI (w : World) (B T : Nat) (a1 a2 : Value) (v : Value) (l : List RCel) (wr : World) : Prop where
  own : OwnR wr B v l
  bel : Below B w wr
  t1 : wr.cell? ⟨T, 1, none⟩ = some a1
  t2 : wr.cell? ⟨T, 2, none⟩ = some a2
  ne : ∀ k, v.ownBlock = some k → k ≠ T
  bt : B ≤ T

theorem CI.drew {w : World} {B T : Nat} {a1 a2 v : Value} {l : List RCel} {wr : World} (h : CI w B T a1 a2 v l wr) : CI w B T a1 a2 v l wr.drew := ⟨h.own, h.bel.drew, h.t1, h.t2, h.ne, h.bt⟩
theorem CI.mark {w : World} {B T : Nat} {a1 a2 : Value} {g ln c : Nat} {l : List RCel} {wr : World} (h : CI w B T a1 a2 (.slice (some ⟨g, 0, none⟩) ln c) l wr) (hl : l.length = ln) (q : Nat) (hq : q < ln) : CI w B T a1 a2 (.slice (some ⟨g, 0, none⟩) ln c) (l.set q ((l.getD q dR).mark)) (wr.setCell ⟨g, q * 5 + 4, none⟩ (.bool true)) := by
  subst hl
  have hg : B ≤ g := (h.own.blk g rfl).1
  have hT : g ≠ T := h.ne g rfl
  have e : l.getD q dR = l[q] := by simp [List.getD, hq]
  refine ⟨?_, h.bel.setCell hg _, ?_, ?_, h.ne, h.bt⟩
  · rw [e]
    exact OwnRec.put rc5 h.own q 4 hq (by omega) (.bool true) _ rfl
  · exact (World.cell?_setCell_other _ _ _ _ (fun e => hT (congrArg Addr.block e))).trans h.t1
  · exact (World.cell?_setCell_other _ _ _ _ (fun e => hT (congrArg Addr.block e))).trans h.t2
theorem CI.push {w : World} {B T : Nat} {a1 a2 v : Value} {l : List RCel} {wa w2 : World} {ob : Obj} {g n c : Nat} {x : RCel} (h : CI w B T a1 a2 v l wa) (ho : OwnR w2 B (.slice (some ⟨g, 0, none⟩) n c) (l ++ [x])) (hg : ((wa.alloc ob).drew).grownBy w2 v.ownBlock) (hl : v.ownBlock = some g ∨ (wa.alloc ob).drew.heap.size ≤ g) : CI w B T a1 a2 (.slice (some ⟨g, 0, none⟩) n c) (l ++ [x]) w2 := by
  have hT : some T ≠ v.ownBlock := fun e => h.ne T e.symm rfl
  have hTl : T < wa.heap.size := cell_lt h.t1
  have hs := h.bel.size
  refine ⟨ho, ?_, keepO hg h.t1 hT, keepO hg h.t2 hT, ?_, h.bt⟩
  · have hB : B ≤ wa.heap.size := Nat.le_trans h.bt (Nat.le_of_lt hTl)
    exact (h.bel.trans (((Below.refl _ wa).alloc hB ob).drew)).trans (gb_to_below hg (by rw [World.size_drew, World.size_alloc]; omega) (fun r hr => (h.own.blk r hr).1))
  · intro k hk e
    simp [Value.ownBlock] at hk
    subst hk
    rcases hl with hl | hl
    · exact h.ne g hl e
    · rw [World.size_drew, World.size_alloc] at hl; omega

end Go.Proofs.YtffgpepngcnjeaaGreat
