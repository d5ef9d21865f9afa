/-
  The game that a script is played with; what a purse with an empty chain shows.
-/
import Derived.Test.YtdafkhdgobdhaaaNewA
import Derived.BigQuiet
namespace Go.Proofs.Ytdafkhdgobdhaaa
open Go.RowKit

/-- the document's purse, as it begins, in block D -/
structure Begun (w : World) (base D : Nat) (s g : Int) (vr vc : Value) : Prop where
  row : VRow w D 0 [.int .i64 s, .int .i64 g, vr, vc, .slice none 0 0, .slice none 0 0, .int .i64 (-1)]
  own0 : OwnInts w base vr (adrs s 0 100)
  own1 : OwnInts w base vc (adrs s 1 100)

theorem Begun.grown {w w' : World} {base D : Nat} {s g : Int} {vr vc : Value} (h : Begun w base D s g vr vc) (hb : Below w.heap.size w w') : Begun w' base D s g vr vc :=
  ⟨h.row.grown hb, h.own0.grown hb, h.own1.grown hb⟩

theorem OwnInts.lower {w : World} {base base' : Nat} {v : Value} {l : List Int} (h : OwnInts w base v l) (hb : base' ≤ base) : OwnInts w base' v l := by
  obtain ⟨h1, h | ⟨g, cap, cur, rfl, hbg, hg⟩⟩ := h
  · exact ⟨h1, Or.inl h⟩
  · exact ⟨h1, Or.inr ⟨g, cap, cur, rfl, Nat.le_trans hb hbg, hg⟩⟩

set_option maxHeartbeats 400000 in
theorem rBegin_any (s g : Int) (w : World) (hs : Mk.isM s = true) :
    Calls Try.prog 67 #[.int .i64 s, .int .i64 g] w fun e w' => ∃ D vr vc, e = .returned (.pointer (some ⟨D, 0, none⟩)) ∧ w.heap.size ≤ D ∧ D < w'.heap.size ∧ Begun w' w.heap.size D s g vr vc ∧ Below w.heap.size w w' := by
  go_enter Try.func67, Try.ntmps67
  go_wp2_with fail
  refine (addresses_any s 0 _ hs (Or.inl rfl)).mono ?_
  rintro e w1 ⟨vr, rfl, ho1, hb1⟩
  go_wp2_with fail
  refine (addresses_any s 1 _ hs (Or.inr rfl)).mono ?_
  rintro e w2 ⟨vc, rfl, ho2, hb2⟩
  have hs1 := hb1.size
  have hs2 := hb2.size
  have hbb := below_blk hb1 hb2
  obtain ⟨ar, cr, rfl, _, _⟩ := ho1.slice
  obtain ⟨ac, cc, rfl, _, _⟩ := ho2.slice
  have HO1 : Hid (OwnInts w1 w.heap.size (.slice ar (adrs s 0 100).length cr) (adrs s 0 100)) := ho1
  have HO2 : Hid (OwnInts w2 w1.heap.size (.slice ac (adrs s 1 100).length cc) (adrs s 1 100)) := ho2
  clear ho1 ho2
  go_wp2
  go_ret
  refine ⟨w2.heap.size, _, _, rfl, by omega, by simp, ⟨vrow_new _ _ _, ((HO1.out.grown hb2)).alloc _, (HO2.out.lower hs1).alloc _⟩, hbb.alloc (by omega) _⟩

/-- a purse in block P -/
def PurseRow (w : World) (P : Nat) (s g : Int) (v : Value) (h : Int) : Prop := VRow w P 0 [.int .i64 s, .int .i64 g, v, .int .i64 h]
theorem PurseRow.c0 {w : World} {P : Nat} {s g : Int} {v : Value} {h : Int} (hr : PurseRow w P s g v h) : w.cell? ⟨P, 0, none⟩ = some (.int .i64 s) := hr 0 (by simp)
theorem PurseRow.c1 {w : World} {P : Nat} {s g : Int} {v : Value} {h : Int} (hr : PurseRow w P s g v h) : w.cell? ⟨P, 1, none⟩ = some (.int .i64 g) := hr 1 (by simp)
theorem PurseRow.c2 {w : World} {P : Nat} {s g : Int} {v : Value} {h : Int} (hr : PurseRow w P s g v h) : w.cell? ⟨P, 2, none⟩ = some v := hr 2 (by simp)
theorem PurseRow.c3 {w : World} {P : Nat} {s g : Int} {v : Value} {h : Int} (hr : PurseRow w P s g v h) : w.cell? ⟨P, 3, none⟩ = some (.int .i64 h) := hr 3 (by simp)

set_option maxHeartbeats 1000000 in
theorem begin_yes (s g : Int) (w : World) (hf : fitZ s g = true) :
    Calls Try.prog 28 #[.int .i64 s, .int .i64 g] w fun e w' => ∃ G D vr vc V, e = .returned (.tuple #[.pointer (some ⟨G, 0, none⟩), .bool true]) ∧ w.heap.size < D ∧ D < G ∧ G < w'.heap.size ∧ PurseRow w' w.heap.size s g (.slice none 0 0) 0 ∧ Begun w' (w.heap.size + 1) D s g vr vc ∧ VRow w' G 0 [.pointer (some ⟨w.heap.size, 0, none⟩), .pointer (some ⟨D, 0, none⟩), V] ∧ Below w.heap.size w w' := by
  obtain ⟨hs, h1, h2⟩ := fitZ_yes hf
  go_enter Try.func28, Try.ntmps28
  go_wp2_with fail
  refine (new_yes s g _ hs h1 h2).mono ?_
  rintro e w1 ⟨rfl, hw1⟩
  have hb1 : Below w.heap.size w w1 := by rw [← hw1]; exact (Below.refl _ _).alloc (Nat.le_refl _) _
  have hr1 : PurseRow w1 w.heap.size s g (.slice none 0 0) 0 := by rw [← hw1]; exact vrow_new _ _ _
  have hz1 : w1.heap.size = w.heap.size + 1 := by rw [← hw1]; simp
  clear hw1
  generalize hP : w.heap.size = P at *
  have HP : Hid (w.heap.size = P) := hP
  clear hP
  have HR : Hid (PurseRow w1 P s g (.slice none 0 0) 0) := hr1
  clear hr1
  go_wp2_with (first | (go_at_call 66; refine (fit_any _ _ _).mono ?_; rintro e w' ⟨rfl, rfl⟩; rw [hf]) | (go_at_call 16; refine (num_any _ _).mono ?_; rintro e w' ⟨rfl, rfl⟩) | fail)
  refine (rBegin_any s g _ hs).mono ?_
  rintro e w2 ⟨D, vr, vc, rfl, hD1, hD2, hbg, hb2⟩
  have hs2 := hb2.size
  have HG : Hid (Begun w2 w1.heap.size D s g vr vc) := hbg
  clear hbg
  have HR2 : Hid (PurseRow w2 P s g (.slice none 0 0) 0) := VRow.grown HR.out hb2
  have hbb : Below P w w2 := hb1.trans (hb2.mono (by omega))
  go_wp2
  go_ret2
  rw [HP.out]
  have hbn : ∀ o o', Below w2.heap.size w2 ((w2.alloc o).alloc o') := fun o o' => ((Below.refl _ _).alloc (Nat.le_refl _) _).alloc (by simp) _
  refine ⟨w2.heap.size + 1, D, vr, vc, .pointer (some ⟨w2.heap.size, 0, none⟩), rfl, by omega, by omega, by simp, VRow.grown HR2.out (hbn _ _), ?_, ?_, hbb.trans ((hbn _ _).mono (by omega))⟩
  · rw [← hz1]
    exact HG.out.grown (hbn _ _)
  · have := vrow_new (w2.alloc (Obj.cells #[.int .i64 0, .slice none 0 0, .slice none 0 0, .slice none 0 0, .slice none 0 0, .slice none 0 0, .slice none 0 0, .slice none 0 0, .slice none 0 0, .slice none 0 0, .slice none 0 0] 115)) [.pointer (some ⟨P, 0, none⟩), .pointer (some ⟨D, 0, none⟩), .pointer (some ⟨w2.heap.size, 0, none⟩)] 60
    rw [World.size_alloc] at this
    exact this

set_option maxHeartbeats 1000000 in
theorem begin_no (s g : Int) (w : World) (hf : fitZ s g = false) :
    Calls Try.prog 28 #[.int .i64 s, .int .i64 g] w fun e w' => e = .returned (.tuple #[.pointer none, .bool true]) ∧ Below w.heap.size w w' := by
  go_enter Try.func28, Try.ntmps28
  go_wp2_with (first | (go_at_call 65; refine (new_no _ _ _ hf).mono ?_; rintro e w' ⟨rfl, rfl⟩) | (go_at_call 66; refine (fit_any _ _ _).mono ?_; rintro e w' ⟨rfl, rfl⟩; rw [hf]) | (go_at_call 16; refine (num_any _ _).mono ?_; rintro e w' ⟨rfl, rfl⟩))
  go_ret2
  exact ⟨rfl, Below.refl _ _⟩

end Go.Proofs.Ytdafkhdgobdhaaa
