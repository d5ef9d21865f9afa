/-
  What a purse shows: Height, Windows.
-/
import Derived.Test.YtdafkhdgobdhaaaNewB
namespace Go.Proofs.Ytdafkhdgobdhaaa
open Go.RowKit

set_option maxHeartbeats 400000 in
theorem chHeight_any (b o : Nat) (h : Int) (w : World) (hp : w.cell? ⟨b, o + 1, none⟩ = some (.int .i64 h)) :
    Calls Try.prog 68 #[.pointer (some ⟨b, o, none⟩)] w fun e w' => e = .returned (.int .i64 h) ∧ w = w' := by
  go_enter Try.func68, Try.ntmps68
  go_wp2
  go_ret
  exact ⟨rfl, rfl⟩

set_option maxHeartbeats 400000 in
theorem pHeight_any (P : Nat) (s g : Int) (v : Value) (h : Int) (w : World) (hp : PurseRow w P s g v h) :
    Calls Try.prog 29 #[.pointer (some ⟨P, 0, none⟩)] w fun e w' => e = .returned (.int .i64 h) ∧ w = w' := by
  go_enter Try.func29, Try.ntmps29
  go_wp2_with (go_at_call 68; refine (chHeight_any P 2 h _ hp.c3).mono ?_; rintro e w' ⟨rfl, rfl⟩)
  go_ret
  exact ⟨rfl, rfl⟩

theorem keepP {w w' w2 : World} {P : Nat} {a b : Value} (c0 : w.cell? ⟨P, 0, none⟩ = some a) (c1 : w.cell? ⟨P, 1, none⟩ = some b) (hw : w'.heap = w.heap) (hb : Below w'.heap.size w' w2) : w2.cell? ⟨P, 0, none⟩ = some a ∧ w2.cell? ⟨P, 1, none⟩ = some b := by
  have hl := cell_lt c0
  have e0 : w'.cell? ⟨P, 0, none⟩ = some a := by rw [← c0]; simp [World.cell?, hw]
  have e1 : w'.cell? ⟨P, 1, none⟩ = some b := by rw [← c1]; simp [World.cell?, hw]
  exact ⟨(hb.cell (p := ⟨P, 0, none⟩) (by rw [hw]; exact hl)).trans e0, (hb.cell (p := ⟨P, 1, none⟩) (by rw [hw]; exact hl)).trans e1⟩

theorem RecAt.heap {α : Type} {f : α → List Value} {w w' : World} {ao : Option Addr} {xs : List α} (h : RecAt f w ao xs) (hw : w'.heap = w.heap) : RecAt f w' ao xs := by
  rcases h with h | ⟨b, off, h, hr⟩
  · exact Or.inl h
  · exact Or.inr ⟨b, off, h, fun j hj => by rw [← hr j hj]; simp [World.cell?, hw]⟩

set_option maxRecDepth 100000 in
set_option maxHeartbeats 1000000 in
theorem pWindows_any (P : Nat) (s : Int) (g : Nat) (ao : Option Addr) (n c : Nat) (h : Int) (xs : List Cel) (w : World) (hs : Mk.isM s = true) (hg : 1 ≤ g) (hg2 : g ≤ 20) (hp : PurseRow w P s g (.slice ao n c) h) (hx : CelsAt w ao xs) (hn : xs.length = n) (hm : n ≤ 1000000) :
    Calls Try.prog 30 #[.pointer (some ⟨P, 0, none⟩)] w fun e w' => e = .returned (.tuple #[.int .i64 (winZ xs s g 0), .int .i64 (winZ xs s g 1)]) ∧ Below w.heap.size w w' := by
  have HN : Hid (xs.length = n) := hn
  have HX : Hid (CelsAt w ao xs) := hx
  have HP : Hid (PurseRow w P s g (.slice ao n c) h) := hp
  have c0 := hp.c0
  have c1 := hp.c1
  have hx' : ∀ w', w'.heap = w.heap → CelsAt w' ao xs := fun w' hw => RecAt.heap hx hw
  have hc2 : ∀ w' : World, w'.heap = w.heap → w'.cell? ⟨P, 2, none⟩ = some (.slice ao n c) := fun w' hw => by rw [← hp.c2]; simp [World.cell?, hw]
  have HX' : Hid (∀ w' : World, w'.heap = w.heap → CelsAt w' ao xs) := hx'
  have HC : Hid (∀ w' : World, w'.heap = w.heap → w'.cell? ⟨P, 2, none⟩ = some (.slice ao n c)) := hc2
  clear hn hx hp hx' hc2
  go_enter Try.func30, Try.ntmps30
  go_wp2
  go_region_held3 (fun w' => w'.cell? ⟨P, 0, none⟩ = some (.int .i64 s) ∧ w'.cell? ⟨P, 1, none⟩ = some (.int .i64 g)) (first | go_keep | exact keepP (w' := w.drew) c0 c1 rfl (by assumption)) ((go_at_call 69; refine (window_any P 2 ao n c xs s g 0 w.drew hs hg hg2 (Or.inl rfl) (HC.out w.drew rfl) (HX'.out w.drew rfl) HN.out hm).mono ?_; rintro e w1 ⟨rfl, hb1⟩))
  rename_i hHd
  obtain ⟨d0, d1⟩ := hHd
  have hbw : Below w.heap.size w w1 := by have h0 : Below w.heap.size w w.drew := (Below.refl _ _).drew; exact h0.trans hb1
  have HX1 : Hid (CelsAt w1.drew ao xs) := RecAt.heap (HX.out.grown hbw) rfl
  have HC1 : Hid (w1.drew.cell? ⟨P, 2, none⟩ = some (.slice ao n c)) := (hbw.cell (p := ⟨P, 2, none⟩) (cell_lt HP.out.c2)).trans HP.out.c2
  clear c0 c1 hb1
  go_wp2
  go_region_held3 (fun w' => w'.cell? ⟨P, 0, none⟩ = some (.int .i64 s) ∧ w'.cell? ⟨P, 1, none⟩ = some (.int .i64 g)) (first | go_keep | exact keepP (w' := w1.drew) d0 d1 rfl (by assumption)) ((go_at_call 69; refine (window_any P 2 ao n c xs s g 1 w1.drew hs hg hg2 (Or.inr rfl) HC1.out HX1.out HN.out hm).mono ?_; rintro e w2 ⟨rfl, hb2⟩))
  go_wp2
  go_ret2
  exact ⟨rfl, hbw.trans ((((Below.refl w1.heap.size w1).drew).trans hb2).mono hbw.size)⟩

/-- a purse's memory: its seed, its gap, the chain's outputs, how many blocks -/
structure PurseAt (w : World) (P : Nat) (s : Int) (g : Nat) (xs : List Cel) (h : Int) (v : Value) : Prop where
  row : PurseRow w P s g v h
  own : ∃ ao c, v = .slice ao xs.length c ∧ CelsAt w ao xs
  len : xs.length ≤ 1000000

end Go.Proofs.Ytdafkhdgobdhaaa
