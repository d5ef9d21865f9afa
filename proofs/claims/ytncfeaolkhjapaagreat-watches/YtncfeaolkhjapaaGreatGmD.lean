/-
  A script where there is no purse; Connects.
-/
import Derived.Test.YtncfeaolkhjapaaGreatGmC
namespace Go.Proofs.YtncfeaolkhjapaaGreat
open Go.RowKit

set_option maxRecDepth 100000 in
set_option maxHeartbeats 1000000 in
theorem plays_no (s g last lo hi ask asks : Int) (hf : fitZ s g = false) (v : Value) (w : World) :
    Calls Tryz.prog 7 #[.int .i64 s, .int .i64 g, v, .agg #[.int .i64 last, .int .i64 lo, .int .i64 hi, .int .i64 ask, .int .i64 asks, .bool false]] w fun e w' => e = .returned (.bool true) ∧ Below w.heap.size w w' := by
  have hb1 : Below w.heap.size w (w.alloc (.cells #[.int .i64 last, .int .i64 lo, .int .i64 hi, .int .i64 ask, .int .i64 asks, .bool false] 25)) := (Below.refl _ _).alloc (Nat.le_refl _) _
  go_enter Tryz.func7, Tryz.ntmps7
  go_wp2_with fail
  refine (begin_no s g _ hf).mono ?_
  rintro e w2 ⟨rfl, hb2⟩
  go_wp2
  go_ret
  exact ⟨rfl, below_blk hb1 hb2⟩

/-- the game of Connects: what each step keeps -/
def CInv (s : Int) (g : Nat) (G B : Nat) (w : World) : Prop :=
  ∃ (X : Nat → Prop) (DE : List (Nat × Value)) (D : Nat) (V v : Value) (ao : Option Addr) (c : Nat) (bls : List (List TxD)) (xs : List Cel), GI (fun k => k < B) X exE DE G B D V s g v ao c bls xs w

theorem GStep.toB {X : Nat → Prop} {E DE : List (Nat × Value)} {G B D : Nat} {V : Value} {s : Int} {g : Nat} {v : Value} {ao : Option Addr} {c : Nat} {bls : List (List TxD)} {xs : List Cel} {w w' : World} (h : GI (fun k => k < B) X E DE G B D V s g v ao c bls xs w) (hs : GStep (fun k => k < B) X E DE G B D V s g v w w') : Fr (fun k => B ≤ k) w w' := by
  obtain ⟨_, _, _, _, _, _, _, h2, _⟩ := hs
  refine h2.weak (fun k hk e => ?_)
  rcases e with e | e
  · exact (h.pu.blk k e).1
  · subst e
    exact Classical.byContradiction fun hn => (h.xl k h.xd).2 (by omega)

theorem conn_play (s : Int) (g : Nat) : PlayOk 2 6 6 (CInv s g) := by
  refine ⟨fun G B w w' ⟨X, DE, D, V, v, ao, c, bls, xs, h⟩ hb => ⟨X, DE, D, V, v, ao, c, bls, xs, h.grown hb⟩, fun G B w ⟨X, DE, D, V, v, ao, c, bls, xs, h⟩ => Nat.le_of_lt (h.ch B (Or.inl rfl)), ?_⟩
  rintro G B w o ⟨X, DE, D, V, v, ao, c, bls, xs, h⟩ ho hk
  have fin : ∀ (e : Ending) (w' : World), e = .returned (.bool true) ∧ GStep (fun k => k < B) X exE DE G B D V s g v w w' → e = .returned (.bool true) ∧ CInv s g G B w' ∧ Fr (fun k => B ≤ k) w w' := by
    rintro e w' ⟨rfl, hst⟩
    refine ⟨rfl, ?_, hst.toB h⟩
    obtain ⟨X', v', ao', c', bls', xs', _, _, h3⟩ := hst
    exact ⟨X', DE, D, V, v', ao', c', bls', xs', h3⟩
  by_cases h1 : o.kd < 1
  · exact (stepN_any o w h1 h).mono fin
  · by_cases h2 : o.kd = 1
    · exact (stepC_any o w h2 h ho).mono fin
    · by_cases h3 : o.kd = 2
      · exact (stepD_any o w h3 h).mono fin
      · exact (stepH_any o w (by omega) h).mono fin

theorem conn_begin (s : Int) (g : Nat) (hf : fitZ s (g : Int) = true) (w : World) : Calls Tryz.prog 8 #[.int .i64 s, .int .i64 (g : Int)] w fun e w' => ∃ G, e = .returned (.tuple #[.pointer (some ⟨G, 0, none⟩), .bool true]) ∧ CInv s g G w.heap.size w' ∧ Below w.heap.size w w' := by
  refine (begin_yes s g w hf).mono ?_
  rintro e w' ⟨G, D, Dr, vr, vc, rfl, h, hb⟩
  exact ⟨G, rfl, ⟨_, _, _, _, _, _, _, _, _, h.gi⟩, hb⟩

set_option maxRecDepth 100000 in
set_option maxHeartbeats 1000000 in
theorem connects_law (s g : Int) (so : Option Addr) (n c : Nat) (ops : List OpD) (w : World) (hs : Scr w.heap.size w so ops) (hn : ops.length = n) (hm : n ≤ 9000000000000000000) :
    Calls Tryz.prog 3 #[.int .i64 s, .int .i64 g, .slice so n c] w fun e w' => e = .returned (.bool true) ∧ Below w.heap.size w w' := by
  cases hf : fitZ s g
  · go_enter Tryz.func3, Tryz.ntmps3
    go_wp2_with fail
    refine (plays_no s g 2 1 2 6 6 hf (.slice so n c) _).mono ?_
    rintro e w1 ⟨rfl, hb⟩
    go_wp2
    go_ret
    exact ⟨rfl, hb⟩
  · obtain ⟨h1, h2, h3⟩ := fitZ_yes hf
    obtain ⟨k, rfl⟩ : ∃ k : Nat, g = (k : Int) := ⟨g.toNat, by omega⟩
    have HS : Hid (Scr w.heap.size w so ops) := hs
    have HN : Hid (ops.length = n) := hn
    clear hs hn
    go_enter Tryz.func3, Tryz.ntmps3
    go_wp2_with fail
    refine (plays_yes s (k : Int) 2 1 2 6 6 (CInv s k) (conn_play s k) (conn_begin s k hf) so n c ops _ HS.out HN.out (by omega)).mono ?_
    rintro e w1 ⟨rfl, hb⟩
    go_wp2
    go_ret
    exact ⟨rfl, hb⟩

end Go.Proofs.YtncfeaolkhjapaaGreat
