/-
  The payments of a purse in memory; which coins they leave free.
-/
import Derived.Test.YtffgpepngcnjeaaWatZ
namespace Go.Proofs.Ytffgpepngcnjeaa
open Go.RowKit

/-- a live payment -/
structure PayD where
  num : Int
  ac : Option Addr
  nc : Nat
  cc : Nat
  ap : Option Addr
  m : Nat
  d : Nat
  tag : Int
  sg : Bool
  cs : List CoinD
  ys : List (Int × Int)
def dP : PayD := ⟨0, none, 0, 0, none, 0, 0, 0, false, [], []⟩
def PayD.v (x : PayD) : List Value := [.int .i64 x.num, .slice x.ac x.nc x.cc, .slice x.ap x.m x.d, .int .i64 x.tag, .bool x.sg]
theorem pay5 (x : PayD) : x.v.length = 5 := rfl
theorem pay_one (x : PayD) : ∀ u ∈ x.v, u.oneCell' = true := by
  intro u hu
  simp only [PayD.v, List.mem_cons, List.not_mem_nil, or_false] at hu
  rcases hu with rfl | rfl | rfl | rfl | rfl <;> rfl
structure PayCells (w : World) (b off : Nat) (x : PayD) : Prop where
  c0 : w.cell? ⟨b, off, none⟩ = some (.int .i64 x.num)
  c1 : w.cell? ⟨b, off + 1, none⟩ = some (.slice x.ac x.nc x.cc)
  c2 : w.cell? ⟨b, off + 2, none⟩ = some (.slice x.ap x.m x.d)
  c3 : w.cell? ⟨b, off + 3, none⟩ = some (.int .i64 x.tag)
  c4 : w.cell? ⟨b, off + 4, none⟩ = some (.bool x.sg)
theorem payCells {w : World} {b off : Nat} {xs : List PayD} (h : VRow w b off (xs.flatMap PayD.v)) (j : Nat) (hj : j < xs.length) : PayCells w b (off + j * 5) (xs.getD j dP) :=
  ⟨rcell pay5 dP h j hj 0 (by omega), rcell pay5 dP h j hj 1 (by omega), rcell pay5 dP h j hj 2 (by omega), rcell pay5 dP h j hj 3 (by omega), rcell pay5 dP h j hj 4 (by omega)⟩

/-- its coins and outputs, in blocks of N -/
structure PayOk (N : Nat → Prop) (w : World) (x : PayD) : Prop where
  co : RecAt CoinD.l w x.ac x.cs
  cl : x.cs.length = x.nc
  ou : OutsAt w x.ap x.ys
  ol : x.ys.length = x.m
  nc : x.cs ≠ [] → ∀ a, x.ac = some a → N a.block
  np : x.ys ≠ [] → ∀ a, x.ap = some a → N a.block
  b1 : x.nc ≤ 10
  b2 : x.m ≤ 8

theorem rec_fr {α : Type} {f : α → List Value} {E : Nat → Prop} {w w' : World} (hf : Fr E w w') {ao : Option Addr} {l : List α} (h : RecAt f w ao l) (hn : l ≠ [] → ∀ a, ao = some a → ¬ E a.block) : RecAt f w' ao l := by
  by_cases he : l = []
  · exact Or.inl he
  · rcases h with h | ⟨b, off, rfl, hr⟩
    · exact Or.inl h
    · exact Or.inr ⟨b, off, rfl, hf.vrow hr (hn he _ rfl)⟩
theorem outsAt_fr {E : Nat → Prop} {w w' : World} (hf : Fr E w w') {ao : Option Addr} {l : List (Int × Int)} (h : OutsAt w ao l) (hn : l ≠ [] → ∀ a, ao = some a → ¬ E a.block) : OutsAt w' ao l := by
  by_cases he : l = []
  · exact Or.inl he
  · rcases h with h | ⟨b, off, rfl, hr⟩
    · exact Or.inl h
    · exact Or.inr ⟨b, off, rfl, fun j hj => ⟨hf.cell (hr j hj).1 (hn he _ rfl), hf.cell (hr j hj).2 (hn he _ rfl)⟩⟩
theorem PayOk.fr {E N : Nat → Prop} {w w' : World} (hf : Fr E w w') {x : PayD} (h : PayOk N w x) (hn : ∀ k, N k → ¬ E k) : PayOk N w' x :=
  ⟨rec_fr hf h.co (fun e a ha => hn _ (h.nc e a ha)), h.cl, outsAt_fr hf h.ou (fun e a ha => hn _ (h.np e a ha)), h.ol, h.nc, h.np, h.b1, h.b2⟩
theorem PayOk.grown {N : Nat → Prop} {w w' : World} {x : PayD} (h : PayOk N w x) (hb : Below w.heap.size w w') : PayOk N w' x := h.fr (Fr.of_below hb (fun _ => False)) (fun _ _ h => h)

/-- a key -/
def kV (k : Int × Int) : List Value := [.int .i64 k.1, .int .i64 k.2]
theorem kv2 (k : Int × Int) : (kV k).length = 2 := rfl
theorem kv_one (k : Int × Int) : ∀ u ∈ kV k, u.oneCell' = true := by
  intro u hu
  simp only [kV, List.mem_cons, List.not_mem_nil, or_false] at hu
  rcases hu with rfl | rfl <;> rfl
def KvCells (w : World) (b off : Nat) (k : Int × Int) : Prop := w.cell? ⟨b, off, none⟩ = some (.int .i64 k.1) ∧ w.cell? ⟨b, off + 1, none⟩ = some (.int .i64 k.2)
theorem kvCells {w : World} {b off : Nat} {xs : List (Int × Int)} (h : VRow w b off (xs.flatMap kV)) (j : Nat) (hj : j < xs.length) : KvCells w b (off + j * 2) (xs.getD j (0, 0)) :=
  ⟨rcell kv2 (0, 0) h j hj 0 (by omega), rcell kv2 (0, 0) h j hj 1 (by omega)⟩

def heldB (ps : List PayD) (id pos : Int) : Bool := ps.any fun p => p.cs.any fun x => x.id == id && x.pos == pos
def usedB (ks : List (Int × Int)) (k : Int × Int) : Bool := ks.any fun x => x.1 == k.1 && x.2 == k.2
def freeB (ps : List PayD) (ks : List (Int × Int)) (x : CoinD) : Bool := !heldB ps x.id x.pos && !usedB ks (x.br, x.ix)

end Go.Proofs.Ytffgpepngcnjeaa
