/-
  Found: the beginning; what the deposits are.
-/
import Derived.Test.YtffgpepngcnjeaaFnF
namespace Go.Proofs.Ytffgpepngcnjeaa
open Go.RowKit

set_option maxRecDepth 100000 in
set_option maxHeartbeats 400000 in
theorem fSeeded_any (a b : Int) (w : World) (a1 : -9223372036854775808 ≤ a) (a2 : a ≤ 9223372036854775807) (b1 : -9223372036854775808 ≤ b) (b2 : b ≤ 9223372036854775807) :
    Calls Try.prog 35 #[.int .i64 a, .int .i64 b] w fun e w' => e = .returned (.tuple #[.int .i64 (Mk.pk a 99991), .int .i64 (1 + Mk.pk b 20)]) ∧ w = w' := by
  have hb := Mk.pk_bd b 20 (by decide)
  have hw : IntKind.i64.wrap (1 + Mk.pk b 20) = 1 + Mk.pk b 20 := IntWalk.i64_in _ ⟨by omega, by omega⟩
  go_enter Try.func35, Try.ntmps35
  go_wp2_with fail
  refine (pick_any a 99991 _ (by omega) (by omega) a1 a2).mono ?_
  rintro e w' ⟨rfl, rfl⟩
  go_wp2_with fail
  refine (pick_any b 20 _ (by omega) (by omega) b1 b2).mono ?_
  rintro e w' ⟨rfl, rfl⟩
  go_wp2
  go_ret2
  exact ⟨rfl, rfl⟩

set_option maxRecDepth 100000 in
set_option maxHeartbeats 400000 in
theorem fOpened_yes (s g : Int) (w : World) (hs : Mk.isM s = true) (h1 : 1 ≤ g) (h2 : g ≤ 20) :
    Calls Try.prog 36 #[.int .i64 s, .int .i64 g] w fun e w' => e = .returned (.pointer (some ⟨w.heap.size, 0, none⟩)) ∧ w.alloc (.cells #[.int .i64 s, .int .i64 g, .slice none 0 0, .int .i64 0, .slice none 0 0, .slice none 0 0, .int .i64 0, .int .i64 0] 136) = w' := by
  go_enter Try.func36, Try.ntmps36
  go_wp2_with fail
  refine (new_yes s g _ hs h1 h2).mono ?_
  rintro e w1 ⟨rfl, rfl⟩
  go_wp2
  go_ret
  exact ⟨rfl, rfl⟩

theorem sc_new (w : World) (s : Int) (g : Nat) :
    Sc (w.heap.size + 1) w.heap.size s g 0 (.slice none 0 0) (.slice none 0 0) (.slice none 0 0) [] [] [] ((w.alloc (.cells #[.int .i64 s, .int .i64 (g : Int), .slice none 0 0, .int .i64 0, .slice none 0 0, .slice none 0 0, .int .i64 0, .int .i64 0] 136)).alloc (.cells #[.pointer (some ⟨w.heap.size, 0, none⟩), .int .i64 s, .int .i64 (g : Int), .slice none 0 0, .slice none 0 0] 92)) := by
  have hp : PAt (w.alloc (.cells #[.int .i64 s, .int .i64 (g : Int), .slice none 0 0, .int .i64 0, .slice none 0 0, .slice none 0 0, .int .i64 0, .int .i64 0] 136)) w.heap.size s g (.slice none 0 0) 0 [] := by
    refine ⟨?_, ?_, World.frozen?_alloc_at _ _ _ _ rfl, World.frozen?_alloc_at _ _ _ _ rfl, OwnRec.nil _ _ _ _ _, fun q hq => ?_⟩
    · rw [World.cell?_alloc_new]; rfl
    · rw [World.cell?_alloc_new]; rfl
    · simp at hq
      rcases hq with rfl | rfl | rfl | rfl | rfl | rfl
      · exact ⟨by simp, by simp, by rw [World.cell?_alloc_new]; rfl⟩
      · exact ⟨by simp, by simp, by rw [World.cell?_alloc_new]; rfl⟩
      · exact ⟨by simp, by simp, by rw [World.cell?_alloc_new]; rfl⟩
      · exact ⟨by simp, by simp, by rw [World.cell?_alloc_new]; rfl⟩
      · exact ⟨by simp, by simp, by rw [World.cell?_alloc_new]; rfl⟩
      · exact ⟨by simp, by simp, by rw [World.cell?_alloc_new]; rfl⟩
  have hz : (w.alloc (.cells #[.int .i64 s, .int .i64 (g : Int), .slice none 0 0, .int .i64 0, .slice none 0 0, .slice none 0 0, .int .i64 0, .int .i64 0] 136)).heap.size = w.heap.size + 1 := by simp
  generalize w.alloc (.cells #[.int .i64 s, .int .i64 (g : Int), .slice none 0 0, .int .i64 0, .slice none 0 0, .slice none 0 0, .int .i64 0, .int .i64 0] 136) = w1 at *
  have hv := vrow_new w1 [.pointer (some ⟨w.heap.size, 0, none⟩), .int .i64 s, .int .i64 (g : Int), .slice none 0 0, .slice none 0 0] 92
  have hf : ∀ j, (w1.alloc (.cells #[.pointer (some ⟨w.heap.size, 0, none⟩), .int .i64 s, .int .i64 (g : Int), .slice none 0 0, .slice none 0 0] 92)).frozen? ⟨w1.heap.size, j, none⟩ = false := fun j => World.frozen?_alloc_at _ _ _ _ rfl
  rw [hz] at hv hf
  refine ⟨hp.grown ((Below.refl _ _).alloc (Nat.le_refl _) _), hv 0 (by simp), hv 1 (by simp), hv 2 (by simp), hv 3 (by simp), hv 4 (by simp), hf 3, hf 4, OwnRec.nil _ _ _ _ _, OwnRec.nil _ _ _ _ _, by omega, fun k hk => ?_, fun k hk => by cases hk⟩
  rcases hk with e | e
  · exact ⟨by omega, fun e => (by cases e), fun e => (by cases e)⟩
  · cases e

set_option maxRecDepth 100000 in
set_option maxHeartbeats 1000000 in
theorem begun_any (a b : Int) (g : Nat) (w : World) (a1 : -9223372036854775808 ≤ a) (a2 : a ≤ 9223372036854775807) (b1 : -9223372036854775808 ≤ b) (b2 : b ≤ 9223372036854775807) (hg : (g : Int) = 1 + Mk.pk b 20) :
    Calls Try.prog 43 #[.int .i64 a, .int .i64 b] w fun e w' => e = .returned (.pointer (some ⟨w.heap.size + 1, 0, none⟩)) ∧ Sc (w.heap.size + 1) w.heap.size (Mk.pk a 99991) g 0 (.slice none 0 0) (.slice none 0 0) (.slice none 0 0) [] [] [] w' ∧ Below w.heap.size w w' := by
  have hpa := Mk.pk_bd a 99991 (by decide)
  have hpb := Mk.pk_bd b 20 (by decide)
  have HS : Hid (Mk.isM (Mk.pk a 99991) = true) := (Mk.isM_iff _).2 hpa
  have HN : Hid _ := sc_new w (Mk.pk a 99991) g
  have HBL : Hid (∀ p q : Obj, Below w.heap.size w ((w.alloc p).alloc q)) := fun p q => ((Below.refl _ _).alloc (Nat.le_refl _) _).alloc (by simp) _
  go_enter Try.func43, Try.ntmps43
  go_wp2_with fail
  refine (fSeeded_any a b _ a1 a2 b1 b2).mono ?_
  rintro e w' ⟨rfl, rfl⟩
  rw [← hg]
  have hg1 : (1 : Int) ≤ (g : Int) := by omega
  have hg2 : (g : Int) ≤ 20 := by omega
  clear hg hpb
  go_wp2_with fail
  refine (fOpened_yes (Mk.pk a 99991) (g : Int) _ HS.out hg1 hg2).mono ?_
  rintro e w1 ⟨rfl, hw1⟩
  subst hw1
  go_wp2
  go_ret
  exact ⟨rfl, HN.out, HBL.out _ _⟩

/-- the deposits so far: a block each -/
structure Fu (s br : Int) (A : List Nat) (xs : List Cel) : Prop where
  len : xs.length = A.length
  at_ : ∀ j, j < A.length → (xs.getD j dC).spent = -1 ∧ (xs.getD j dC).to = Mk.adr s br ((A.getD j 0 : Nat) : Int) ∧ (xs.getD j dC).val = 10 + j ∧ (xs.getD j dC).made = j
theorem Fu.nil (s br : Int) : Fu s br [] [] := ⟨rfl, fun j hj => by cases hj⟩
theorem Fu.snoc {s br : Int} {A : List Nat} {xs : List Cel} (h : Fu s br A xs) (z : Nat) (x : Cel) (h1 : x.spent = -1) (h2 : x.to = Mk.adr s br (z : Int)) (h3 : x.val = 10 + A.length) (h4 : x.made = A.length) : Fu s br (A ++ [z]) (xs ++ [x]) := by
  refine ⟨by rw [List.length_append, List.length_append, h.len]; rfl, fun j hj => ?_⟩
  rw [List.length_append, List.length_singleton] at hj
  by_cases e : j < A.length
  · rw [get_left _ _ _ _ e, get_left _ _ _ _ (by rw [h.len]; exact e)]
    exact h.at_ j e
  · have e : j = A.length := by omega
    subst e
    rw [get_last, ← h.len, get_last]
    rw [h.len]
    exact ⟨h1, h2, h3, h4⟩
theorem getD_take {α : Type} (l : List α) (d : α) (q j : Nat) (h : j < q) : (l.take q).getD j d = l.getD j d := by
  simp only [List.getD]
  rw [List.getElem?_take_of_lt h]
theorem Fu.take {s br : Int} {A : List Nat} {xs : List Cel} (h : Fu s br A xs) (q : Nat) : Fu s br (A.take q) (xs.take q) := by
  refine ⟨by rw [List.length_take, List.length_take, h.len], fun j hj => ?_⟩
  rw [List.length_take] at hj
  rw [getD_take _ _ _ _ (by omega), getD_take _ _ _ _ (by omega)]
  exact h.at_ j (by omega)
theorem Fu.mem {s br : Int} {A : List Nat} {xs : List Cel} (h : Fu s br A xs) {x : Cel} (hx : x ∈ xs) : ∃ j, j < A.length ∧ x = xs.getD j dC := by
  obtain ⟨j, hj, e⟩ := mem_getD dC hx
  exact ⟨j, by rw [← h.len]; exact hj, e⟩
theorem Fu.vals {s br : Int} {A : List Nat} {xs : List Cel} (h : Fu s br A xs) (hl : A.length ≤ 100) : Vals xs := by
  intro x hx
  obtain ⟨j, hj, rfl⟩ := h.mem hx
  have := (h.at_ j hj).2.2.1
  omega
theorem Fu.dep {s br : Int} {A : List Nat} {xs : List Cel} (h : Fu s br A xs) (hA : ∀ i ∈ A, i < 100) {cs : List CoinD} (hl : A.length ≤ cs.length) (hc : ∀ j, j < A.length → cs.getD j dN = (xs.getD j dC).kept) : Dep s br A xs cs :=
  ⟨hA, hl, fun i hi => ⟨xs.getD i dC, getD_mem xs dC i (by rw [h.len]; exact hi), (h.at_ i hi).1, (h.at_ i hi).2.1, hc i hi⟩⟩
theorem kept_get (xs : List Cel) (j : Nat) (h : j < xs.length) : (xs.map Cel.kept).getD j dN = (xs.getD j dC).kept := by
  simp [List.getD, h]
theorem Fu.back {s br : Int} {A : List Nat} {xs : List Cel} (h : Fu s br A xs) (q : Nat) (hq : q < A.length) : tbZ (q : Int) (xs.take (q + 1)) = xs.take q := by
  have hql : q < xs.length := by rw [h.len]; exact hq
  have e : xs.take (q + 1) = xs.take q ++ [xs.getD q dC] := by
    rw [List.take_succ_eq_append_getElem hql]
    simp [List.getD, hql]
  rw [e]
  refine dep_back _ _ _ (h.at_ q hq).2.2.2 (fun y hy => ?_)
  obtain ⟨j, hj, rfl⟩ := mem_getD dC hy
  rw [List.length_take] at hj
  rw [getD_take _ _ _ _ (by omega)]
  have := h.at_ j (by omega)
  exact ⟨by rw [this.2.2.2]; omega, by rw [this.1]; omega⟩
/-- all are found in the end -/
theorem Fu.all {s br : Int} {A : List Nat} {xs : List Cel} (h : Fu s br A xs) (hb : br = 0 ∨ br = 1) {g : Nat} (hg2 : g ≤ 20) {L : List Nat} (hL : Chain g L) (h1 : ∀ i ∈ L, i ∈ A) (h2 : ∀ i ∈ A, i ∈ L) : (ownOf xs s g).length = A.length ∧ sumC (ownOf xs s g) = sumC (xs.map Cel.kept) := by
  have hd : Dep s br A xs (xs.map Cel.kept) := h.dep (fun i hi => hL.lt i (h2 i hi)) (by rw [List.length_map, h.len]; exact Nat.le_refl _) (fun j hj => kept_get xs j (by rw [h.len]; exact hj))
  have hw := win_spec xs s g br hg2
  have hall : ∀ i ∈ L, i < winZ xs s g br := hL.all hw.1 (fun i hi hlt => hw.2 i hlt (hd.hit (h1 i hi)))
  have := own_all (xs := xs) (s := s) (g := g) (fun x hx => by
    obtain ⟨j, hj, rfl⟩ := h.mem hx
    exact (h.at_ j hj).1) (fun x hx => by
    obtain ⟨j, hj, rfl⟩ := h.mem hx
    rw [(h.at_ j hj).2.1]
    exact key_mem hb (hall _ (h2 _ (getD_mem A 0 j hj))))
  rw [h.len] at this
  exact this

end Go.Proofs.Ytffgpepngcnjeaa
