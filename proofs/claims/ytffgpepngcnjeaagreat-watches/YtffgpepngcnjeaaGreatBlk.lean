/-
  Transactions and blocks in memory.
-/
import Derived.Test.YtffgpepngcnjeaaGreatChD
namespace Go.Proofs.YtffgpepngcnjeaaGreat
open Go.RowKit

/-- a transaction in memory -/
structure TxD where
  t : Int
  ai : Option Addr
  n : Nat
  c : Nat
  ap : Option Addr
  m : Nat
  d : Nat
  ins : List InD
  ys : List (Int × Int)
def dT : TxD := ⟨0, none, 0, 0, none, 0, 0, [], []⟩
def TxD.v (x : TxD) : List Value := [.int .i64 x.t, .slice x.ai x.n x.c, .slice x.ap x.m x.d]
theorem tx3 (x : TxD) : x.v.length = 3 := rfl
structure TxCells (w : World) (b off : Nat) (x : TxD) : Prop where
  c0 : w.cell? ⟨b, off, none⟩ = some (.int .i64 x.t)
  c1 : w.cell? ⟨b, off + 1, none⟩ = some (.slice x.ai x.n x.c)
  c2 : w.cell? ⟨b, off + 2, none⟩ = some (.slice x.ap x.m x.d)
theorem txCells {w : World} {b off : Nat} {xs : List TxD} (h : VRow w b off (xs.flatMap TxD.v)) (j : Nat) (hj : j < xs.length) : TxCells w b (off + j * 3) (xs.getD j dT) :=
  ⟨rcell tx3 dT h j hj 0 (by omega), rcell tx3 dT h j hj 1 (by omega), rcell tx3 dT h j hj 2 (by omega)⟩

/-- its inputs and outputs lie in blocks of N -/
structure TxOk (N : Nat → Prop) (w : World) (x : TxD) : Prop where
  ins : InsAt w x.ai x.ins
  il : x.ins.length = x.n
  outs : OutsAt w x.ap x.ys
  ol : x.ys.length = x.m
  na : x.ins ≠ [] → ∀ a, x.ai = some a → N a.block
  np : x.ys ≠ [] → ∀ a, x.ap = some a → N a.block
  ns : ∀ i ∈ x.ins, i.l ≠ [] → ∀ a, i.ao = some a → N a.block

theorem ints_fr {E : Nat → Prop} {w w' : World} (hf : Fr E w w') {ao : Option Addr} {l : List Int} (h : IntsAt w ao l) (hn : l ≠ [] → ∀ a, ao = some a → ¬ E a.block) : IntsAt w' ao l := by
  by_cases he : l = []
  · exact Or.inl he
  · rcases h with h | ⟨b, off, rfl, hr⟩
    · exact Or.inl h
    · exact Or.inr ⟨b, off, rfl, hf.row hr (hn he _ rfl)⟩
theorem ins_fr {E : Nat → Prop} {w w' : World} (hf : Fr E w w') {ao : Option Addr} {l : List InD} (h : InsAt w ao l) (hn : l ≠ [] → ∀ a, ao = some a → ¬ E a.block) (hs : ∀ i ∈ l, i.l ≠ [] → ∀ a, i.ao = some a → ¬ E a.block) : InsAt w' ao l := by
  by_cases he : l = []
  · exact Or.inl he
  · rcases h with h | ⟨b, off, rfl, hr⟩
    · exact Or.inl h
    · refine Or.inr ⟨b, off, rfl, fun j hj => ?_⟩
      obtain ⟨⟨h0, h1, h2⟩, h3⟩ := hr j hj
      have hb := hn he _ rfl
      exact ⟨⟨hf.cell h0 hb, hf.cell h1 hb, hf.cell h2 hb⟩, ⟨ints_fr hf h3.lies (hs _ (getD_mem l dIn j hj)), h3.len, h3.sz, h3.nil⟩⟩
theorem outs_fr {E : Nat → Prop} {w w' : World} (hf : Fr E w w') {ao : Option Addr} {l : List (Int × Int)} (h : OutsAt w ao l) (hn : l ≠ [] → ∀ a, ao = some a → ¬ E a.block) : OutsAt w' ao l := by
  by_cases he : l = []
  · exact Or.inl he
  · rcases h with h | ⟨b, off, rfl, hr⟩
    · exact Or.inl h
    · exact Or.inr ⟨b, off, rfl, fun j hj => ⟨hf.cell (hr j hj).1 (hn he _ rfl), hf.cell (hr j hj).2 (hn he _ rfl)⟩⟩
theorem TxOk.fr {E N : Nat → Prop} {w w' : World} (hf : Fr E w w') {x : TxD} (h : TxOk N w x) (hn : ∀ k, N k → ¬ E k) : TxOk N w' x :=
  ⟨ins_fr hf h.ins (fun e a ha => hn _ (h.na e a ha)) (fun i hi e a ha => hn _ (h.ns i hi e a ha)), h.il, outs_fr hf h.outs (fun e a ha => hn _ (h.np e a ha)), h.ol, h.na, h.np, h.ns⟩

/-- a block of transactions in memory -/
structure BlkAt (N : Nat → Prop) (w : World) (ao : Option Addr) (bl : List TxD) : Prop where
  row : RecAt TxD.v w ao bl
  na : bl ≠ [] → ∀ a, ao = some a → N a.block
  ok : ∀ x ∈ bl, TxOk N w x
theorem BlkAt.fr {E N : Nat → Prop} {w w' : World} (hf : Fr E w w') {ao : Option Addr} {bl : List TxD} (h : BlkAt N w ao bl) (hn : ∀ k, N k → ¬ E k) : BlkAt N w' ao bl := by
  refine ⟨?_, h.na, fun x hx => (h.ok x hx).fr hf hn⟩
  by_cases he : bl = []
  · exact Or.inl he
  · rcases h.row with h1 | ⟨b, off, rfl, hr⟩
    · exact Or.inl h1
    · exact Or.inr ⟨b, off, rfl, hf.vrow hr (hn _ (h.na he _ rfl))⟩

end Go.Proofs.YtffgpepngcnjeaaGreat
