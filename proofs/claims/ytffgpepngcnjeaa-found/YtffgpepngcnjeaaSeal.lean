import Derived.Test.YtffgpepngcnjeaaKeyB
import Derived.Deep.RegionWith
namespace Go.Proofs.Ytffgpepngcnjeaa
open Go.RowKit

theorem mk5 : ∀ w : World, (Instr.makeSlice 30 (.int .i64 5) (.int .i64 5)).run Try.prog w = .ok (.slice (some ⟨w.heap.size, 0, none⟩) 5 5) (w.alloc (.cells #[.int .i64 0, .int .i64 0, .int .i64 0, .int .i64 0, .int .i64 0] 3)) := fun _ => by kernel_rfl

def secL (s b i : Int) : List Int := [Mk.sec s b i 0, Mk.sec s b i 1, Mk.sec s b i 2, Mk.sec s b i 3, Mk.sec s b i 4]
def dgL (id : Int) : List Int := [Mk.dg id 0, Mk.dg id 1, Mk.dg id 2, Mk.dg id 3, Mk.dg id 4]
/-- what five cells hold once the first k of them are written -/
def partL (f : Nat → Int) (k : Nat) : List Int := (List.range 5).map fun j => if j < k then f j else 0
theorem partL_len (f : Nat → Int) (k : Nat) : (partL f k).length = 5 := by simp [partL]
theorem partL_set (f : Nat → Int) (k : Nat) : (partL f k).set k (f k) = partL f (k + 1) := by
  apply List.ext_getElem
  · simp [partL]
  · intro j h1 h2
    simp only [partL, List.getElem_set, List.getElem_map, List.getElem_range]
    by_cases e : k = j
    · subst e; simp
    · have : (j < k) ↔ (j < k + 1) := by omega
      simp [e, this]
theorem partL_all (f : Nat → Int) : partL f 5 = (List.range 5).map f := by
  unfold partL
  apply List.map_congr_left
  intro j hj
  have : j < 5 := by simpa using hj
  simp [this]
theorem secL_at (s b i : Int) (k : Nat) (h : k < 5) : (secL s b i).getD k 0 = Mk.sec s b i k := by
  match k, h with
  | 0, _ | 1, _ | 2, _ | 3, _ | 4, _ => rfl
theorem dgL_at (id : Int) (k : Nat) (h : k < 5) : (dgL id).getD k 0 = Mk.dg id k := by
  match k, h with
  | 0, _ | 1, _ | 2, _ | 3, _ | 4, _ => rfl
theorem row_new (w : World) (a b c d e : Int) (t : TypeId) : Row (w.alloc (.cells #[.int .i64 a, .int .i64 b, .int .i64 c, .int .i64 d, .int .i64 e] t)) w.heap.size 0 [a, b, c, d, e] := by
  intro j hj
  rw [World.cell?_alloc_new]
  match j, hj with
  | 0, _ | 1, _ | 2, _ | 3, _ | 4, _ => rfl

structure SealInv (w : World) (s b i id : Int) (B1 B2 B3 : Nat) (k : Nat) (wr : World) : Prop where
  r1 : Row wr B1 0 (secL s b i)
  r2 : Row wr B2 0 (dgL id)
  r3 : Row wr B3 0 (partL (fun j => Mk.tnN (Mk.sec s b i j) (Mk.dg id j).toNat) k)
  fr : Free wr B3 0 5
  bl : Below w.heap.size w wr
  n1 : B3 ≠ B1
  n2 : B3 ≠ B2
  lo : w.heap.size ≤ B3

theorem SealInv.step {w : World} {s b i id : Int} {B1 B2 B3 k : Nat} {wr : World} (h : SealInv w s b i id B1 B2 B3 k wr) (hk : k < 5) :
    SealInv w s b i id B1 B2 B3 (k + 1) (wr.setCell ⟨B3, k, none⟩ (.int .i64 (Mk.tnN (Mk.sec s b i k) (Mk.dg id k).toNat))) := by
  refine ⟨h.r1.other (by simpa using h.n1) _, h.r2.other (by simpa using h.n2) _, ?_, h.fr.set _ _, h.bl.setCell (by simpa using h.lo) _, h.n1, h.n2, h.lo⟩
  have := h.r3.set (k := k) (by rw [partL_len]; exact hk) (Mk.tnN (Mk.sec s b i k) (Mk.dg id k).toNat)
  rw [Nat.zero_add, partL_set (fun j => Mk.tnN (Mk.sec s b i j) (Mk.dg id j).toNat) k] at this
  exact this
theorem SealInv.drew {w : World} {s b i id : Int} {B1 B2 B3 k : Nat} {wr : World} (h : SealInv w s b i id B1 B2 B3 k wr) : SealInv w s b i id B1 B2 B3 k wr.drew :=
  ⟨h.r1, h.r2, h.r3, h.fr, h.bl.drew, h.n1, h.n2, h.lo⟩

theorem seal_start {w w1 w2 : World} {s b i id : Int} (hb1 : Below w.heap.size w w1)
    (hb2 : Below (w1.alloc (.cells #[.int .i64 (Mk.sec s b i 0), .int .i64 (Mk.sec s b i 1), .int .i64 (Mk.sec s b i 2), .int .i64 (Mk.sec s b i 3), .int .i64 (Mk.sec s b i 4)] 155)).heap.size (w1.alloc (.cells #[.int .i64 (Mk.sec s b i 0), .int .i64 (Mk.sec s b i 1), .int .i64 (Mk.sec s b i 2), .int .i64 (Mk.sec s b i 3), .int .i64 (Mk.sec s b i 4)] 155)) w2) :
    SealInv w s b i id w1.heap.size w2.heap.size (w2.heap.size + 1) 0 ((w2.alloc (.cells #[.int .i64 (Mk.d0 id), .int .i64 (Mk.d1 id), .int .i64 (Mk.d2 id), .int .i64 (Mk.lk id / 8), .int .i64 (Mk.lk id % 8)] 155)).alloc (.cells #[.int .i64 0, .int .i64 0, .int .i64 0, .int .i64 0, .int .i64 0] 3)) := by
  have hs1 := hb1.size
  have hs2 := hb2.size
  rw [World.size_alloc] at hs2
  refine ⟨?_, ?_, ?_, ?_, ?_, by omega, by omega, by omega⟩
  · exact (((row_new w1 _ _ _ _ _ 155).grown hb2).alloc _).alloc _
  · exact (row_new w2 _ _ _ _ _ 155).alloc _
  · have := row_new (w2.alloc (.cells #[.int .i64 (Mk.d0 id), .int .i64 (Mk.d1 id), .int .i64 (Mk.d2 id), .int .i64 (Mk.lk id / 8), .int .i64 (Mk.lk id % 8)] 155)) 0 0 0 0 0 3
    rw [World.size_alloc] at this
    exact this
  · intro j hj
    exact World.frozen?_alloc_at _ _ _ _ (by simp)
  · exact (((hb1.alloc hs1 _).trans (hb2.mono (by simp; omega))).alloc (by omega) _).alloc (by simp; omega) _

set_option maxRecDepth 100000 in
set_option maxHeartbeats 1000000 in
theorem seal_yes (s b i id : Int) (w : World) (hk : Mk.isK s b i = true) (hm : Mk.isM id = true) :
    Calls Try.prog 64 #[.int .i64 s, .int .i64 b, .int .i64 i, .int .i64 id] w fun e w' => ∃ B, e = .returned (.tuple #[.slice (some ⟨B, 0, none⟩) 5 5, .int .i64 0]) ∧ Row w' B 0 (Mk.sealL s b i id) ∧ Below w.heap.size w w' := by
  have hm' := (Mk.isM_iff id).1 hm
  have hmk := mk5
  go_enter Try.func64, Try.ntmps64
  go_wp2_with (first | (go_at_call 97; refine (keyIs_any _ _ _ _).mono ?_; rintro e w' ⟨rfl, rfl⟩) | (go_at_call 103; refine (is_any _ _).mono ?_; rintro e w' ⟨rfl, rfl⟩) | (go_at_call 98; refine (secrets_any _ _ _ _ hk).mono ?_; rintro e w1 ⟨rfl, hb1⟩) | (go_at_call 104; refine (digits_any _ _ hm'.1 hm'.2).mono ?_; rintro e w2 ⟨rfl, hb2⟩))
  have hs1 := hb1.size
  have hs2 := hb2.size
  rw [World.size_alloc] at hs2
  have hinv := seal_start (id := id) hb1 hb2
  have HI : Hid _ := hinv
  clear hinv hb1 hb2 hmk
  generalize hB1 : w1.heap.size = B1 at *
  generalize hB2 : w2.heap.size = B2 at *
  clear hB1 hB2
  go_loopw [13] (fun v wr => ∃ k : Nat, k ≤ 5 ∧ v = .int .i64 k ∧ SealInv w s b i id B1 B2 (B2 + 1) k wr) (fun v _ => 5 - (intOf v).toNat)
  case atStart => exact ⟨0, by omega, rfl, HI.out⟩
  case round =>
    obtain ⟨k, hk5, rfl, hinv⟩ := hrel
    by_cases hlt : k < 5
    · have c1 : wr.cell? ⟨B1, k, none⟩ = some (.int .i64 (Mk.sec s b i k)) := by
        have := hinv.r1 k (by simpa [secL] using hlt); rw [Nat.zero_add, secL_at s b i k hlt] at this; exact this
      have c2 : wr.cell? ⟨B2, k, none⟩ = some (.int .i64 (Mk.dg id k)) := by
        have := hinv.r2 k (by simpa [dgL] using hlt); rw [Nat.zero_add, dgL_at id k hlt] at this; exact this
      obtain ⟨v3, c3⟩ : ∃ v3, wr.cell? ⟨B2 + 1, k, none⟩ = some v3 := by
        have := hinv.r3 k (by rw [partL_len]; exact hlt); rw [Nat.zero_add] at this; exact ⟨_, this⟩
      have f3 : wr.frozen? ⟨B2 + 1, k, none⟩ = false := by
        have := hinv.fr k hlt; rw [Nat.zero_add] at this; exact this
      have bs := Mk.sec_bd s b i k
      have bd := Mk.dg_bd id k
      go_wp2
      go_region_with (go_at_call 99; refine (times_any _ _ _ (by omega) (by omega) (by omega) (by omega)).mono ?_; rintro e w' ⟨rfl, rfl⟩)
      all_goals go_wp2
      all_goals go_roundw
      all_goals first | exact ⟨k + 1, by omega, by go_num, hinv.drew.step hlt⟩ | (simp [intOf]; omega)
    · have hk : k = 5 := by omega
      subst hk
      go_wp2
      go_ret2
      refine ⟨_, rfl, ?_, hinv.bl⟩
      have := hinv.r3
      rw [partL_all] at this
      exact this

set_option maxRecDepth 100000 in
set_option maxHeartbeats 400000 in
theorem seal_noKey (s b i id : Int) (w : World) (hk : Mk.isK s b i = false) :
    Calls Try.prog 64 #[.int .i64 s, .int .i64 b, .int .i64 i, .int .i64 id] w fun e w' => e = .returned (.tuple #[.slice none 0 0, .int .i64 1]) ∧ w = w' := by
  go_enter Try.func64, Try.ntmps64
  go_wp2_with (go_at_call 97; refine (keyIs_any _ _ _ _).mono ?_; rintro e w' ⟨rfl, rfl⟩)
  go_ret2
  exact ⟨rfl, rfl⟩

set_option maxRecDepth 100000 in
set_option maxHeartbeats 400000 in
theorem seal_noMark (s b i id : Int) (w : World) (hk : Mk.isK s b i = true) (hm : Mk.isM id = false) :
    Calls Try.prog 64 #[.int .i64 s, .int .i64 b, .int .i64 i, .int .i64 id] w fun e w' => e = .returned (.tuple #[.slice none 0 0, .int .i64 1]) ∧ w = w' := by
  go_enter Try.func64, Try.ntmps64
  go_wp2_with (first | (go_at_call 97; refine (keyIs_any _ _ _ _).mono ?_; rintro e w' ⟨rfl, rfl⟩) | (go_at_call 103; refine (is_any _ _).mono ?_; rintro e w' ⟨rfl, rfl⟩))
  go_ret2
  exact ⟨rfl, rfl⟩

end Go.Proofs.Ytffgpepngcnjeaa
