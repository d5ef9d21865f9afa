/-
  New, the game of a script, what a purse shows.
-/
import Derived.Test.YtffgpepngcnjeaaWinC
import Derived.BigQuiet
namespace Go.Proofs.Ytffgpepngcnjeaa
open Go.RowKit

def fitZ (s g : Int) : Bool := Mk.isM s && decide (1 ≤ g ∧ g ≤ 20)
theorem fitZ_yes {s g : Int} (h : fitZ s g = true) : Mk.isM s = true ∧ 1 ≤ g ∧ g ≤ 20 := by
  simp only [fitZ, Bool.and_eq_true, decide_eq_true_iff] at h
  exact ⟨h.1, h.2.1, h.2.2⟩

set_option maxRecDepth 100000 in
set_option maxHeartbeats 400000 in
theorem new_yes (s g : Int) (w : World) (hs : Mk.isM s = true) (h1 : 1 ≤ g) (h2 : g ≤ 20) :
    Calls Try.prog 73 #[.int .i64 s, .int .i64 g] w fun e w' => e = .returned (.tuple #[.pointer (some ⟨w.heap.size, 0, none⟩), .int .i64 0]) ∧ w.alloc (.cells #[.int .i64 s, .int .i64 g, .slice none 0 0, .int .i64 0, .slice none 0 0, .slice none 0 0, .int .i64 0, .int .i64 0] 136) = w' := by
  go_enter Try.func73, Try.ntmps73
  go_wp2_with (go_at_call 103; refine (is_any _ _).mono ?_; rintro e w' ⟨rfl, rfl⟩; rw [hs])
  go_ret2
  exact ⟨rfl, rfl⟩

set_option maxRecDepth 100000 in
set_option maxHeartbeats 400000 in
theorem new_no (s g : Int) (w : World) (h : fitZ s g = false) :
    Calls Try.prog 73 #[.int .i64 s, .int .i64 g] w fun e w' => e = .returned (.tuple #[.pointer none, .int .i64 1]) ∧ w = w' := by
  cases hs : Mk.isM s
  · go_enter Try.func73, Try.ntmps73
    go_wp2_with (go_at_call 103; refine (is_any _ _).mono ?_; rintro e w' ⟨rfl, rfl⟩; rw [hs])
    go_ret2
    exact ⟨rfl, rfl⟩
  · simp only [fitZ, hs, Bool.true_and, decide_eq_false_iff_not] at h
    by_cases h1 : 1 ≤ g
    · have h2 : 20 < g := by omega
      go_enter Try.func73, Try.ntmps73
      go_wp2_with (go_at_call 103; refine (is_any _ _).mono ?_; rintro e w' ⟨rfl, rfl⟩; rw [hs])
      go_ret2
      exact ⟨rfl, rfl⟩
    · go_enter Try.func73, Try.ntmps73
      go_wp2_with (go_at_call 103; refine (is_any _ _).mono ?_; rintro e w' ⟨rfl, rfl⟩; rw [hs])
      go_ret2
      exact ⟨rfl, rfl⟩

set_option maxRecDepth 100000 in
set_option maxHeartbeats 400000 in
theorem fit_any (s g : Int) (w : World) :
    Calls Try.prog 74 #[.int .i64 s, .int .i64 g] w fun e w' => e = .returned (.bool (fitZ s g)) ∧ w = w' := by
  cases hs : Mk.isM s
  · go_enter Try.func74, Try.ntmps74
    go_wp2_with (go_at_call 65; refine (rMark_any _ _).mono ?_; rintro e w' ⟨rfl, rfl⟩; rw [hs])
    go_ret
    exact ⟨ret_bool (by simp [fitZ, hs]), rfl⟩
  · by_cases h1 : 1 ≤ g
    · by_cases h2 : g ≤ 20
      · go_enter Try.func74, Try.ntmps74
        go_wp2_with (go_at_call 65; refine (rMark_any _ _).mono ?_; rintro e w' ⟨rfl, rfl⟩; rw [hs])
        go_ret
        exact ⟨ret_bool (by simp [fitZ, hs, h1, h2]), rfl⟩
      · go_enter Try.func74, Try.ntmps74
        go_wp2_with (go_at_call 65; refine (rMark_any _ _).mono ?_; rintro e w' ⟨rfl, rfl⟩; rw [hs])
        go_ret
        exact ⟨ret_bool (by simp [fitZ, hs]; omega), rfl⟩
    · go_enter Try.func74, Try.ntmps74
      go_wp2_with (go_at_call 65; refine (rMark_any _ _).mono ?_; rintro e w' ⟨rfl, rfl⟩; rw [hs])
      go_ret
      exact ⟨ret_bool (by simp [fitZ, hs]; omega), rfl⟩

def adrs (s br : Int) (k : Nat) : List Int := (List.range k).map fun i : Nat => Mk.adr s br i

set_option maxRecDepth 100000 in
set_option maxHeartbeats 1000000 in
theorem addresses_any (s br : Int) (w : World) (hs : Mk.isM s = true) (hb : br = 0 ∨ br = 1) :
    Calls Try.prog 107 #[.int .i64 s, .int .i64 br] w fun e w' => ∃ v, e = .returned v ∧ OwnInts w' w.heap.size v (adrs s br 100) ∧ Below w.heap.size w w' := by
  have HBR : Hid (br = 0 ∨ br = 1) := hb
  clear hb
  generalize hB : w.heap.size = B
  have HB : Hid (w.heap.size = B) := hB
  clear hB
  go_enter Try.func107, Try.ntmps107
  go_wp2
  go_loopw [5, 6] (fun v j wr => ∃ k : Nat, k ≤ 100 ∧ j = .int .i64 k ∧ OwnInts wr B v (adrs s br k) ∧ Below B w wr) (fun _ j _ => 100 - (intOf j).toNat)
  case atStart => exact ⟨0, by omega, rfl, OwnInts.nil _ _, Below.refl _ _⟩
  case round =>
    obtain ⟨k, hk5, rfl, hown, hbl⟩ := hrel
    have hsz := hbl.size
    rw [HB.out] at hsz
    by_cases hlt : k < 100
    · have hK := key_ok hs HBR.out (show (0 : Int) ≤ (k : Int) by omega) (show (k : Int) < 100 by omega)
      go_wp2_with fail
      refine (to_any _ _ _ _ hK).mono ?_
      rintro e w1 ⟨rfl, hb1⟩
      have hown1 := hown.grown hb1
      have hbl1 := hbl.trans (hb1.mono hsz)
      have hsz1 : B ≤ w1.heap.size := Nat.le_trans hsz hb1.size
      have HE : Hid (adrs s br (k + 1) = adrs s br k ++ [Mk.adr s br k]) := by show _ = _; unfold adrs; rw [List.range_succ, List.map_append]; rfl
      have HL : Hid ((adrs s br k).length = k) := by show _ = _; simp [adrs]
      clear hown hbl hb1 hsz
      generalize adrs s br k = L at *
      go_wp2_with (at_builtin; refine wpList_app1 w1 rfl _ _ rfl B _ _ _ (by rfl) (by rfl) hown1 hsz1 (by rw [HL.out]; omega) ?_; intro v' w2 hown2 hb2)
      go_roundw
      case rel => exact ⟨k + 1, by omega, by go_num, by rw [HE.out]; exact hown2, hbl1.trans hb2⟩
      case measure => simp [intOf]; omega
    · have hk : k = 100 := by omega
      subst hk
      go_wp2
      go_ret
      exact ⟨_, rfl, hown, hbl⟩

end Go.Proofs.Ytffgpepngcnjeaa
namespace Go.Proofs.Ytffgpepngcnjeaa
open Go.RowKit

/-- the document's purse, as it begins, in block D -/
structure Begun (w : World) (base D : Nat) (s g : Int) (vr vc : Value) : Prop where
  row : VRow w D 0 [.int .i64 s, .int .i64 g, vr, vc, .slice none 0 0, .slice none 0 0, .int .i64 (-1)]
  own0 : OwnInts w base vr (adrs s 0 100)
  own1 : OwnInts w base vc (adrs s 1 100)

theorem Begun.grown {w w' : World} {base D : Nat} {s g : Int} {vr vc : Value} (h : Begun w base D s g vr vc) (hb : Below w.heap.size w w') : Begun w' base D s g vr vc :=
  ⟨h.row.grown hb, h.own0.grown hb, h.own1.grown hb⟩

theorem OwnInts.lower {w : World} {base base' : Nat} {v : Value} {l : List Int} (h : OwnInts w base v l) (hb : base' ≤ base) : OwnInts w base' v l := by
  obtain ⟨h1, h | ⟨g, cap, cur, rfl, hbg, hg⟩⟩ := h
  · exact ⟨h1, Or.inl h⟩
  · exact ⟨h1, Or.inr ⟨g, cap, cur, rfl, Nat.le_trans hb hbg, hg⟩⟩

set_option maxRecDepth 100000 in
set_option maxHeartbeats 400000 in
theorem rBegin_any (s g : Int) (w : World) (hs : Mk.isM s = true) :
    Calls Try.prog 75 #[.int .i64 s, .int .i64 g] w fun e w' => ∃ D vr vc, e = .returned (.pointer (some ⟨D, 0, none⟩)) ∧ w.heap.size ≤ D ∧ D < w'.heap.size ∧ Begun w' w.heap.size D s g vr vc ∧ Below w.heap.size w w' := by
  go_enter Try.func75, Try.ntmps75
  go_wp2_with fail
  refine (addresses_any s 0 _ hs (Or.inl rfl)).mono ?_
  rintro e w1 ⟨vr, rfl, ho1, hb1⟩
  go_wp2_with fail
  refine (addresses_any s 1 _ hs (Or.inr rfl)).mono ?_
  rintro e w2 ⟨vc, rfl, ho2, hb2⟩
  have hs1 := hb1.size
  have hs2 := hb2.size
  have hbb := below_blk hb1 hb2
  obtain ⟨ar, cr, rfl, _, _⟩ := ho1.slice
  obtain ⟨ac, cc, rfl, _, _⟩ := ho2.slice
  have HO1 : Hid (OwnInts w1 w.heap.size (.slice ar (adrs s 0 100).length cr) (adrs s 0 100)) := ho1
  have HO2 : Hid (OwnInts w2 w1.heap.size (.slice ac (adrs s 1 100).length cc) (adrs s 1 100)) := ho2
  clear ho1 ho2
  go_wp2
  go_ret
  refine ⟨w2.heap.size, _, _, rfl, by omega, by simp, ⟨vrow_new _ _ _, ((HO1.out.grown hb2)).alloc _, (HO2.out.lower hs1).alloc _⟩, hbb.alloc (by omega) _⟩

/-- a purse in block P -/
def PurseRow (w : World) (P : Nat) (s g : Int) (v : Value) (h : Int) : Prop := VRow w P 0 [.int .i64 s, .int .i64 g, v, .int .i64 h, .slice none 0 0, .slice none 0 0, .int .i64 0, .int .i64 0]
theorem PurseRow.c0 {w : World} {P : Nat} {s g : Int} {v : Value} {h : Int} (hr : PurseRow w P s g v h) : w.cell? ⟨P, 0, none⟩ = some (.int .i64 s) := hr 0 (by simp)
theorem PurseRow.c1 {w : World} {P : Nat} {s g : Int} {v : Value} {h : Int} (hr : PurseRow w P s g v h) : w.cell? ⟨P, 1, none⟩ = some (.int .i64 g) := hr 1 (by simp)
theorem PurseRow.c2 {w : World} {P : Nat} {s g : Int} {v : Value} {h : Int} (hr : PurseRow w P s g v h) : w.cell? ⟨P, 2, none⟩ = some v := hr 2 (by simp)
theorem PurseRow.c3 {w : World} {P : Nat} {s g : Int} {v : Value} {h : Int} (hr : PurseRow w P s g v h) : w.cell? ⟨P, 3, none⟩ = some (.int .i64 h) := hr 3 (by simp)
theorem PurseRow.c4 {w : World} {P : Nat} {s g : Int} {v : Value} {h : Int} (hr : PurseRow w P s g v h) : w.cell? ⟨P, 4, none⟩ = some (.slice none 0 0) := hr 4 (by simp)
theorem PurseRow.c5 {w : World} {P : Nat} {s g : Int} {v : Value} {h : Int} (hr : PurseRow w P s g v h) : w.cell? ⟨P, 5, none⟩ = some (.slice none 0 0) := hr 5 (by simp)

set_option maxRecDepth 100000 in
set_option maxHeartbeats 1000000 in
theorem begin_yes (s g : Int) (w : World) (hf : fitZ s g = true) :
    Calls Try.prog 29 #[.int .i64 s, .int .i64 g] w fun e w' => ∃ G D vr vc V, e = .returned (.tuple #[.pointer (some ⟨G, 0, none⟩), .bool true]) ∧ w.heap.size < D ∧ D < G ∧ G < w'.heap.size ∧ PurseRow w' w.heap.size s g (.slice none 0 0) 0 ∧ Begun w' (w.heap.size + 1) D s g vr vc ∧ VRow w' G 0 [.pointer (some ⟨w.heap.size, 0, none⟩), .pointer (some ⟨D, 0, none⟩), V] ∧ Below w.heap.size w w' := by
  obtain ⟨hs, h1, h2⟩ := fitZ_yes hf
  go_enter Try.func29, Try.ntmps29
  go_wp2_with fail
  refine (new_yes s g _ hs h1 h2).mono ?_
  rintro e w1 ⟨rfl, hw1⟩
  have hb1 : Below w.heap.size w w1 := by rw [← hw1]; exact (Below.refl _ _).alloc (Nat.le_refl _) _
  have hr1 : PurseRow w1 w.heap.size s g (.slice none 0 0) 0 := by rw [← hw1]; exact vrow_new _ _ _
  have hz1 : w1.heap.size = w.heap.size + 1 := by rw [← hw1]; simp
  clear hw1
  generalize hP : w.heap.size = P at *
  have HP : Hid (w.heap.size = P) := hP
  clear hP
  have HR : Hid (PurseRow w1 P s g (.slice none 0 0) 0) := hr1
  clear hr1
  go_wp2_with (first | (go_at_call 74; refine (fit_any _ _ _).mono ?_; rintro e w' ⟨rfl, rfl⟩; rw [hf]) | (go_at_call 17; refine (num_any _ _).mono ?_; rintro e w' ⟨rfl, rfl⟩) | fail)
  refine (rBegin_any s g _ hs).mono ?_
  rintro e w2 ⟨D, vr, vc, rfl, hD1, hD2, hbg, hb2⟩
  have hs2 := hb2.size
  have HG : Hid (Begun w2 w1.heap.size D s g vr vc) := hbg
  clear hbg
  have HR2 : Hid (PurseRow w2 P s g (.slice none 0 0) 0) := VRow.grown HR.out hb2
  have hbb : Below P w w2 := hb1.trans (hb2.mono (by omega))
  go_wp2
  go_ret2
  rw [HP.out]
  have hbn : ∀ o o', Below w2.heap.size w2 ((w2.alloc o).alloc o') := fun o o' => ((Below.refl _ _).alloc (Nat.le_refl _) _).alloc (by simp) _
  refine ⟨w2.heap.size + 1, D, vr, vc, .pointer (some ⟨w2.heap.size, 0, none⟩), rfl, by omega, by omega, by simp, VRow.grown HR2.out (hbn _ _), ?_, ?_, hbb.trans ((hbn _ _).mono (by omega))⟩
  · rw [← hz1]
    exact HG.out.grown (hbn _ _)
  · have := vrow_new (w2.alloc (Obj.cells #[.int .i64 0, .slice none 0 0, .slice none 0 0, .slice none 0 0, .slice none 0 0, .slice none 0 0, .slice none 0 0, .slice none 0 0, .slice none 0 0, .slice none 0 0, .slice none 0 0] 128)) [.pointer (some ⟨P, 0, none⟩), .pointer (some ⟨D, 0, none⟩), .pointer (some ⟨w2.heap.size, 0, none⟩)] 60
    rw [World.size_alloc] at this
    exact this

set_option maxRecDepth 100000 in
set_option maxHeartbeats 1000000 in
theorem begin_no (s g : Int) (w : World) (hf : fitZ s g = false) :
    Calls Try.prog 29 #[.int .i64 s, .int .i64 g] w fun e w' => e = .returned (.tuple #[.pointer none, .bool true]) ∧ Below w.heap.size w w' := by
  go_enter Try.func29, Try.ntmps29
  go_wp2_with (first | (go_at_call 73; refine (new_no _ _ _ hf).mono ?_; rintro e w' ⟨rfl, rfl⟩) | (go_at_call 74; refine (fit_any _ _ _).mono ?_; rintro e w' ⟨rfl, rfl⟩; rw [hf]) | (go_at_call 17; refine (num_any _ _).mono ?_; rintro e w' ⟨rfl, rfl⟩))
  go_ret2
  exact ⟨rfl, Below.refl _ _⟩

end Go.Proofs.Ytffgpepngcnjeaa
namespace Go.Proofs.Ytffgpepngcnjeaa
open Go.RowKit

set_option maxRecDepth 100000 in
set_option maxHeartbeats 400000 in
theorem chHeight_any (b o : Nat) (h : Int) (w : World) (hp : w.cell? ⟨b, o + 1, none⟩ = some (.int .i64 h)) :
    Calls Try.prog 76 #[.pointer (some ⟨b, o, none⟩)] w fun e w' => e = .returned (.int .i64 h) ∧ w = w' := by
  go_enter Try.func76, Try.ntmps76
  go_wp2
  go_ret
  exact ⟨rfl, rfl⟩

set_option maxRecDepth 100000 in
set_option maxHeartbeats 400000 in
theorem pHeight_any (P : Nat) (s g : Int) (v : Value) (h : Int) (w : World) (hp : PurseRow w P s g v h) :
    Calls Try.prog 30 #[.pointer (some ⟨P, 0, none⟩)] w fun e w' => e = .returned (.int .i64 h) ∧ w = w' := by
  go_enter Try.func30, Try.ntmps30
  go_wp2_with (go_at_call 76; refine (chHeight_any P 2 h _ hp.c3).mono ?_; rintro e w' ⟨rfl, rfl⟩)
  go_ret
  exact ⟨rfl, rfl⟩

theorem keepP {w w' w2 : World} {P : Nat} {a b : Value} (c0 : w.cell? ⟨P, 0, none⟩ = some a) (c1 : w.cell? ⟨P, 1, none⟩ = some b) (hw : w'.heap = w.heap) (hb : Below w'.heap.size w' w2) : w2.cell? ⟨P, 0, none⟩ = some a ∧ w2.cell? ⟨P, 1, none⟩ = some b := by
  have hl := cell_lt c0
  have e0 : w'.cell? ⟨P, 0, none⟩ = some a := by rw [← c0]; simp [World.cell?, hw]
  have e1 : w'.cell? ⟨P, 1, none⟩ = some b := by rw [← c1]; simp [World.cell?, hw]
  exact ⟨(hb.cell (p := ⟨P, 0, none⟩) (by rw [hw]; exact hl)).trans e0, (hb.cell (p := ⟨P, 1, none⟩) (by rw [hw]; exact hl)).trans e1⟩

theorem RecAt.heap {α : Type} {f : α → List Value} {w w' : World} {ao : Option Addr} {xs : List α} (h : RecAt f w ao xs) (hw : w'.heap = w.heap) : RecAt f w' ao xs := by
  rcases h with h | ⟨b, off, h, hr⟩
  · exact Or.inl h
  · exact Or.inr ⟨b, off, h, fun j hj => by rw [← hr j hj]; simp [World.cell?, hw]⟩

set_option maxRecDepth 100000 in
set_option maxHeartbeats 1000000 in
theorem pWindows_any (P : Nat) (s : Int) (g : Nat) (ao : Option Addr) (n c : Nat) (h : Int) (xs : List Cel) (w : World) (hs : Mk.isM s = true) (hg : 1 ≤ g) (hg2 : g ≤ 20) (hp : PurseRow w P s g (.slice ao n c) h) (hx : CelsAt w ao xs) (hn : xs.length = n) (hm : n ≤ 1000000) :
    Calls Try.prog 31 #[.pointer (some ⟨P, 0, none⟩)] w fun e w' => e = .returned (.tuple #[.int .i64 (winZ xs s g 0), .int .i64 (winZ xs s g 1)]) ∧ Below w.heap.size w w' := by
  have HN : Hid (xs.length = n) := hn
  have HX : Hid (CelsAt w ao xs) := hx
  have HP : Hid (PurseRow w P s g (.slice ao n c) h) := hp
  have c0 := hp.c0
  have c1 := hp.c1
  have hx' : ∀ w', w'.heap = w.heap → CelsAt w' ao xs := fun w' hw => RecAt.heap hx hw
  have hc2 : ∀ w' : World, w'.heap = w.heap → w'.cell? ⟨P, 2, none⟩ = some (.slice ao n c) := fun w' hw => by rw [← hp.c2]; simp [World.cell?, hw]
  have HX' : Hid (∀ w' : World, w'.heap = w.heap → CelsAt w' ao xs) := hx'
  have HC : Hid (∀ w' : World, w'.heap = w.heap → w'.cell? ⟨P, 2, none⟩ = some (.slice ao n c)) := hc2
  clear hn hx hp hx' hc2
  go_enter Try.func31, Try.ntmps31
  go_wp2
  go_region_held3 (fun w' => w'.cell? ⟨P, 0, none⟩ = some (.int .i64 s) ∧ w'.cell? ⟨P, 1, none⟩ = some (.int .i64 g)) (first | go_keep | exact keepP (w' := w.drew) c0 c1 rfl (by assumption)) ((go_at_call 77; refine (window_any P 2 ao n c xs s g 0 w.drew hs hg hg2 (Or.inl rfl) (HC.out w.drew rfl) (HX'.out w.drew rfl) HN.out hm).mono ?_; rintro e w1 ⟨rfl, hb1⟩))
  rename_i hHd
  obtain ⟨d0, d1⟩ := hHd
  have hbw : Below w.heap.size w w1 := by have h0 : Below w.heap.size w w.drew := (Below.refl _ _).drew; exact h0.trans hb1
  have HX1 : Hid (CelsAt w1.drew ao xs) := RecAt.heap (HX.out.grown hbw) rfl
  have HC1 : Hid (w1.drew.cell? ⟨P, 2, none⟩ = some (.slice ao n c)) := (hbw.cell (p := ⟨P, 2, none⟩) (cell_lt HP.out.c2)).trans HP.out.c2
  clear c0 c1 hb1
  go_wp2
  go_region_held3 (fun w' => w'.cell? ⟨P, 0, none⟩ = some (.int .i64 s) ∧ w'.cell? ⟨P, 1, none⟩ = some (.int .i64 g)) (first | go_keep | exact keepP (w' := w1.drew) d0 d1 rfl (by assumption)) ((go_at_call 77; refine (window_any P 2 ao n c xs s g 1 w1.drew hs hg hg2 (Or.inr rfl) HC1.out HX1.out HN.out hm).mono ?_; rintro e w2 ⟨rfl, hb2⟩))
  go_wp2
  go_ret2
  exact ⟨rfl, hbw.trans ((((Below.refl w1.heap.size w1).drew).trans hb2).mono hbw.size)⟩

/-- a purse's memory: its seed, its gap, the chain's outputs, how many blocks -/
structure PurseAt (w : World) (P : Nat) (s : Int) (g : Nat) (xs : List Cel) (h : Int) (v : Value) : Prop where
  row : PurseRow w P s g v h
  own : ∃ ao c, v = .slice ao xs.length c ∧ CelsAt w ao xs
  len : xs.length ≤ 1000000

end Go.Proofs.Ytffgpepngcnjeaa
namespace Go.Proofs.Ytffgpepngcnjeaa
open Go.RowKit

set_option maxRecDepth 100000 in
set_option maxHeartbeats 1000000 in
theorem wCoins_nil (b o : Nat) (s : Int) (g : Nat) (w : World) (hs : Mk.isM s = true) (hg : 1 ≤ g) (hg2 : g ≤ 20) (hp : w.cell? ⟨b, o, none⟩ = some (.slice none 0 0)) :
    Calls Try.prog 78 #[.pointer (some ⟨b, o, none⟩), .int .i64 s, .int .i64 g] w fun e w' => e = .returned (.slice none 0 0) ∧ Below w.heap.size w w' := by
  have HP : Hid (w.cell? ⟨b, o, none⟩ = some (.slice none 0 0)) := hp
  clear hp
  have hlt := cell_lt HP.out
  go_enter Try.func78, Try.ntmps78
  go_wp2_with fail
  refine (keys_any b o none 0 0 [] s g _ hs hg hg2 HP.out (Or.inl rfl) rfl (by omega)).mono ?_
  rintro e w1 ⟨v, rfl, _, hb1⟩
  have hsz := hb1.size
  have hb2 := hb1.alloc hsz (.cells #[.bool false, .slice none 0 0] 167)
  have HP2 : Hid ((w1.alloc (.cells #[.bool false, .slice none 0 0] 167)).cell? ⟨b, o, none⟩ = some (.slice none 0 0)) := (hb2.cell (p := ⟨b, o, none⟩) hlt).trans HP.out
  go_wp2_with fail
  refine (chCoins_any b o none 0 0 [] _ HP2.out (Or.inl rfl) rfl (by omega)).mono ?_
  rintro e w2 ⟨u, rfl, hown, hb3⟩
  obtain ⟨au, cu, rfl, _⟩ := OwnRec.at coinC4 hown
  have hnew : w2.cell? ⟨w1.heap.size, 1, none⟩ = some (.slice none 0 0) := (hb3.cell (p := ⟨w1.heap.size, 1, none⟩) (by simp)).trans (by rw [World.cell?_alloc_new]; rfl)
  have hb4 := below_blk hb2 hb3
  have e0 : (coinsC []).length = 0 := rfl
  rw [e0]
  go_wp2
  refine wp_loop_rounds 1 ?_
  rw [rounds_succ]
  go_wp2
  go_ret
  exact ⟨rfl, hb4⟩

set_option maxRecDepth 100000 in
set_option maxHeartbeats 1000000 in
theorem pCoins_nil (P : Nat) (s : Int) (g : Nat) (h : Int) (w : World) (hs : Mk.isM s = true) (hg : 1 ≤ g) (hg2 : g ≤ 20) (hp : PurseRow w P s g (.slice none 0 0) h) :
    Calls Try.prog 32 #[.pointer (some ⟨P, 0, none⟩)] w fun e w' => e = .returned (.slice none 0 0) ∧ Below w.heap.size w w' := by
  have c0 := hp.c0
  have c1 := hp.c1
  have hc2 : w.drew.cell? ⟨P, 2, none⟩ = some (.slice none 0 0) := hp.c2
  have HC : Hid (w.drew.cell? ⟨P, 2, none⟩ = some (.slice none 0 0)) := hc2
  clear hp hc2
  go_enter Try.func32, Try.ntmps32
  go_wp2
  go_region_held3 (fun w' => w'.cell? ⟨P, 0, none⟩ = some (.int .i64 s) ∧ w'.cell? ⟨P, 1, none⟩ = some (.int .i64 g)) (first | go_keep | exact keepP (w' := w.drew) c0 c1 rfl (by assumption)) ((go_at_call 78; refine (wCoins_nil P 2 s g w.drew hs hg hg2 HC.out).mono ?_; rintro e w1 ⟨rfl, hb1⟩))
  go_wp2
  go_ret
  exact ⟨rfl, ((Below.refl w.heap.size w).drew).trans hb1⟩

set_option maxRecDepth 100000 in
set_option maxHeartbeats 400000 in
theorem free_nil (P : Nat) (w : World) : Calls Try.prog 79 #[.pointer (some ⟨P, 0, none⟩), .slice none 0 0] w fun e w' => e = .returned (.slice none 0 0) ∧ w = w' := by
  go_enter Try.func79, Try.ntmps79
  go_wp2
  refine wp_loop_rounds 1 ?_
  rw [rounds_succ]
  go_wp2
  go_ret
  exact ⟨rfl, rfl⟩

set_option maxRecDepth 100000 in
set_option maxHeartbeats 400000 in
theorem sum_nil (w : World) : Calls Try.prog 80 #[.slice none 0 0] w fun e w' => e = .returned (.int .i64 0) ∧ w = w' := by
  go_enter Try.func80, Try.ntmps80
  go_wp2
  refine wp_loop_rounds 1 ?_
  rw [rounds_succ]
  go_wp2
  go_ret
  exact ⟨rfl, rfl⟩

set_option maxRecDepth 100000 in
set_option maxHeartbeats 1000000 in
theorem pBalance_nil (P : Nat) (s : Int) (g : Nat) (h : Int) (w : World) (hs : Mk.isM s = true) (hg : 1 ≤ g) (hg2 : g ≤ 20) (hp : PurseRow w P s g (.slice none 0 0) h) :
    Calls Try.prog 33 #[.pointer (some ⟨P, 0, none⟩)] w fun e w' => e = .returned (.tuple #[.int .i64 0, .int .i64 0]) ∧ Below w.heap.size w w' := by
  go_enter Try.func33, Try.ntmps33
  go_wp2_with (first | (go_at_call 32; refine (pCoins_nil P s g h _ hs hg hg2 hp).mono ?_; rintro e w1 ⟨rfl, hb1⟩) | (go_at_call 79; refine (free_nil P _).mono ?_; rintro e w' ⟨rfl, rfl⟩) | (go_at_call 80; refine (sum_nil _).mono ?_; rintro e w' ⟨rfl, rfl⟩))
  go_ret2
  exact ⟨rfl, hb1⟩

set_option maxRecDepth 100000 in
set_option maxHeartbeats 400000 in
theorem chDis_none (b o : Nat) (w : World) (hp : w.cell? ⟨b, o + 1, none⟩ = some (.int .i64 0)) :
    Calls Try.prog 81 #[.pointer (some ⟨b, o, none⟩)] w fun e w' => e = .returned (.int .i64 8) ∧ w = w' := by
  go_enter Try.func81, Try.ntmps81
  go_wp2
  go_ret
  exact ⟨rfl, rfl⟩

set_option maxRecDepth 100000 in
set_option maxHeartbeats 400000 in
theorem pDis_none (P : Nat) (s g : Int) (v : Value) (w : World) (hp : PurseRow w P s g v 0) :
    Calls Try.prog 34 #[.pointer (some ⟨P, 0, none⟩)] w fun e w' => e = .returned (.int .i64 8) ∧ w = w' := by
  go_enter Try.func34, Try.ntmps34
  go_wp2_with (go_at_call 81; refine (chDis_none P 2 _ hp.c3).mono ?_; rintro e w' ⟨rfl, rfl⟩)
  go_ret
  exact ⟨rfl, rfl⟩

end Go.Proofs.Ytffgpepngcnjeaa
