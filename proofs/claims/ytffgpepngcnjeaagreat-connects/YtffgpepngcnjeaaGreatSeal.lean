import Derived.Test.YtffgpepngcnjeaaGreatKeyB
import Derived.Deep.RegionWith
namespace Go.Proofs.YtffgpepngcnjeaaGreat
open Go.RowKit

theorem mk5 : ∀ w : World, (Instr.makeSlice 52 (.int .i64 5) (.int .i64 5)).run Tryz.prog w = .ok (.slice (some ⟨w.heap.size, 0, none⟩) 5 5) (w.alloc (.cells #[.int .i64 0, .int .i64 0, .int .i64 0, .int .i64 0, .int .i64 0] 3)) := fun _ => by kernel_rfl

def secL (s b i : Int) : List Int := [Mk.sec s b i 0, Mk.sec s b i 1, Mk.sec s b i 2, Mk.sec s b i 3, Mk.sec s b i 4]
def dgL (id : Int) : List Int := [Mk.dg id 0, Mk.dg id 1, Mk.dg id 2, Mk.dg id 3, Mk.dg id 4]
/-- what five cells hold once the first k of them are written -/
def partL (f : Nat → Int) (k : Nat) : List Int := (List.range 5).map fun j => if j < k then f j else 0
theorem partL_len (f : Nat → Int) (k : Nat) : (partL f k).length = 5 := by simp [partL]
theorem partL_set (f : Nat → Int) (k : Nat) : (partL f k).set k (f k) = partL f (k + 1) := by
  apply List.ext_getElem
  · simp [partL]
  · intro j h1 h2
    simp only [partL, List.getElem_set, List.getElem_map, List.getElem_range]
    by_cases e : k = j
    · subst e; simp
    · have : (j < k) ↔ (j < k + 1) := by omega
      simp [e, this]
theorem partL_all (f : Nat → Int) : partL f 5 = (List.range 5).map f := by
  unfold partL
  apply List.map_congr_left
  intro j hj
  have : j < 5 := by simpa using hj
  simp [this]
theorem secL_at (s b i : Int) (k : Nat) (h : k < 5) : (secL s b i).getD k 0 = Mk.sec s b i k := by
  match k, h with
  | 0, _ | 1, _ | 2, _ | 3, _ | 4, _ => rfl
theorem dgL_at (id : Int) (k : Nat) (h : k < 5) : (dgL id).getD k 0 = Mk.dg id k := by
  match k, h with
  | 0, _ | 1, _ | 2, _ | 3, _ | 4, _ => rfl
theorem row_new (w : World) (a b c d e : Int) (t : TypeId) : Row (w.alloc (.cells #[.int .i64 a, .int .i64 b, .int .i64 c, .int .i64 d, .int .i64 e] t)) w.heap.size 0 [a, b, c, d, e] := by
  intro j hj
  rw [World.cell?_alloc_new]
  match j, hj with
  | 0, _ | 1, _ | 2, _ | 3, _ | 4, _ => rfl

structure SealInv (w : World) (s b i id : Int) (B1 B2 B3 : Nat) (k : Nat) (wr : World) : Prop where
  r1 : Row wr B1 0 (secL s b i)
  r2 : Row wr B2 0 (dgL id)
  r3 : Row wr B3 0 (partL (fun j => Mk.tnN (Mk.sec s b i j) (Mk.dg id j).toNat) k)
  fr : Free wr B3 0 5
  bl : Below w.heap.size w wr
  n1 : B3 ≠ B1
  n2 : B3 ≠ B2
  lo : w.heap.size ≤ B3

theorem SealInv.step {w : World} {s b i id : Int} {B1 B2 B3 k : Nat} {wr : World} (h : SealInv w s b i id B1 B2 B3 k wr) (hk : k < 5) :
    SealInv w s b i id B1 B2 B3 (k + 1) (wr.setCell ⟨B3, k, none⟩ (.int .i64 (Mk.tnN (Mk.sec s b i k) (Mk.dg id k).toNat))) := by
  refine ⟨h.r1.other (by simpa using h.n1) _, h.r2.other (by simpa using h.n2) _, ?_, h.fr.set _ _, h.bl.setCell (by simpa using h.lo) _, h.n1, h.n2, h.lo⟩
  have := h.r3.set (k := k) (by rw [partL_len]; exact hk) (Mk.tnN (Mk.sec s b i k) (Mk.dg id k).toNat)
  rw [Nat.zero_add, partL_set (fun j => Mk.tnN (Mk.sec s b i j) (Mk.dg id j).toNat) k] at this
  exact this
theorem SealInv.drew {w : World} {s b i id : Int} {B1 B2 B3 k : Nat} {wr : World} (h : SealInv w s b i id B1 B2 B3 k wr) : SealInv w s b i id B1 B2 B3 k wr.drew :=
  ⟨h.r1, h.r2, h.r3, h.fr, h.bl.drew, h.n1, h.n2, h.lo⟩

theorem seal_start {w w1 w2 : World} {s b i id : Int} (hb1 : Below w.heap.size w w1)
    (hb2 : Below (w1.alloc (.cells #[.int .i64 (Mk.sec s b i 0), .int .i64 (Mk.sec s b i 1), .int .i64 (Mk.sec s b i 2), .int .i64 (Mk.sec s b i 3), .int .i64 (Mk.sec s b i 4)] 222)).heap.size (w1.alloc (.cells #[.int .i64 (Mk.sec s b i 0), .int .i64 (Mk.sec s b i 1), .int .i64 (Mk.sec s b i 2), .int .i64 (Mk.sec s b i 3), .int .i64 (Mk.sec s b i 4)] 222)) w2) :
    SealInv w s b i id w1.heap.size w2.heap.size (w2.heap.size + 1) 0 ((w2.alloc (.cells #[.int .i64 (Mk.d0 id), .int .i64 (Mk.d1 id), .int .i64 (Mk.d2 id), .int .i64 (Mk.lk id / 8), .int .i64 (Mk.lk id % 8)] 222)).alloc (.cells #[.int .i64 0, .int .i64 0, .int .i64 0, .int .i64 0, .int .i64 0] 3)) := by
  have hs1 := hb1.size
  have hs2 := hb2.size
  rw [World.size_alloc] at hs2
  refine ⟨?_, ?_, ?_, ?_, ?_, by omega, by omega, by omega⟩
  · exact (((row_new w1 _ _ _ _ _ 222).grown hb2).alloc _).alloc _
  · exact (row_new w2 _ _ _ _ _ 222).alloc _
  · have := row_new (w2.alloc (.cells #[.int .i64 (Mk.d0 id), .int .i64 (Mk.d1 id), .int .i64 (Mk.d2 id), .int .i64 (Mk.lk id / 8), .int .i64 (Mk.lk id % 8)] 222)) 0 0 0 0 0 3
    rw [World.size_alloc] at this
    exact this
  · intro j hj
    exact World.frozen?_alloc_at _ _ _ _ (by simp)
  · exact (((hb1.alloc hs1 _).trans (hb2.mono (by simp; omega))).alloc (by omega) _).alloc (by simp; omega) _

end Go.Proofs.YtffgpepngcnjeaaGreat

