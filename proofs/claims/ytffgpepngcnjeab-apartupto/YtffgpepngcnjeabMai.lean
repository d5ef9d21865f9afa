/-
  Found: the scene in memory.
  Found: a block with one coin more.
  Found: the indices, and a list without one of its numbers.
  Found: what the window comes to is found.
  Found: the beginning; what the deposits are.
  Funds: the deposits.
  Package choice: its small functions.
  Package choice: sums and sets of candidates.
  Package choice: the chosen ones, in their order.
  Package choice: the order of the candidates; Choose.
-/
import Derived.Test.YtffgpepngcnjeabMah
import Derived.Test.YtffgpepngcnjeabMab
import Derived.Test.YtffgpepngcnjeabMaf
import Derived.Laws.BitsLemmas
namespace Go.Proofs.Ytffgpepngcnjeab
open Go.RowKit
theorem dep_back (ys : List Cel) (x : Cel) (h : Int) (hx : x.made = h) (hy : ∀ y ∈ ys, y.made ≠ h ∧ y.spent ≠ h) : tbZ h (ys ++ [x]) = ys := by
  have hl : leftI h (ys ++ [x]) (ys ++ [x]).length = ys.length := by
    rw [List.length_append, List.length_singleton, leftI_succ]
    rw [if_pos (by simp [List.getD, hx])]
    have : ∀ k, k ≤ ys.length → leftI h (ys ++ [x]) k = k := by
      intro k hk
      cases k with
      | zero => rfl
      | succ k =>
        rw [leftI_succ, if_neg]
        have e : (ys ++ [x]).getD k dC = ys.getD k dC := by
          simp only [List.getD]
          rw [List.getElem?_append_left (by omega)]
        rw [e]
        exact (hy _ (getD_mem ys dC k (by omega))).1
    exact this _ (Nat.le_refl _)
  unfold tbZ
  rw [hl, List.take_left']
  · refine (List.map_congr_left (g := id) (fun y hy2 => ?_)).trans (List.map_id _)
    unfold unsp
    rw [if_neg (hy y hy2).2]
    rfl
  · rfl
/-- the blocks of a scene -/
def scE (P S : Nat) (v vi vc : Value) (k : Nat) : Prop := chE P v k ∨ k = S ∨ vi.ownBlock = some k ∨ vc.ownBlock = some k
/-- a scene in block S: its purse in block P -/
structure Sc (S P : Nat) (s : Int) (g h : Nat) (v vi vc : Value) (xs : List Cel) (ids : List Int) (cs : List CoinD) (w : World) : Prop where
  pat : PAt w P s g v h xs
  c0 : w.cell? ⟨S, 0, none⟩ = some (.pointer (some ⟨P, 0, none⟩))
  c1 : w.cell? ⟨S, 1, none⟩ = some (.int .i64 s)
  c2 : w.cell? ⟨S, 2, none⟩ = some (.int .i64 (g : Int))
  c3 : w.cell? ⟨S, 3, none⟩ = some vi
  c4 : w.cell? ⟨S, 4, none⟩ = some vc
  f3 : w.frozen? ⟨S, 3, none⟩ = false
  f4 : w.frozen? ⟨S, 4, none⟩ = false
  oi : OwnRec iV 3 1 w (S + 1) vi ids
  oc : OwnRec CoinD.l 70 6 w (S + 1) vc cs
  lt : P < S
  d1 : ∀ k, chE P v k → k ≠ S ∧ vi.ownBlock ≠ some k ∧ vc.ownBlock ≠ some k
  d2 : ∀ k, vi.ownBlock = some k → vc.ownBlock ≠ some k
variable {S P : Nat} {s : Int} {g h : Nat} {v vi vc : Value} {xs : List Cel} {ids : List Int} {cs : List CoinD} {w : World}
theorem Sc.big (u : Sc S P s g h v vi vc xs ids cs w) : S < w.heap.size ∧ P < w.heap.size := ⟨cell_lt u.c0, cell_lt u.pat.c0⟩
theorem Sc.blk (u : Sc S P s g h v vi vc xs ids cs w) : ∀ k, scE P S v vi vc k → P ≤ k ∧ k < w.heap.size := by
  intro k hk
  have hS := u.big
  have hl := u.lt
  rcases hk with e | e | e | e
  · exact u.pat.blk k e
  · omega
  · have := u.oi.blk k e; omega
  · have := u.oc.blk k e; omega
theorem Sc.fr {E : Nat → Prop} {w' : World} (u : Sc S P s g h v vi vc xs ids cs w) (hf : Fr E w w') (hE : ∀ k, scE P S v vi vc k → ¬ E k) : Sc S P s g h v vi vc xs ids cs w' := by
  have hS : ¬ E S := hE S (Or.inr (Or.inl rfl))
  have hl := u.big.1
  exact ⟨u.pat.fr hf (fun k hk => hE k (Or.inl hk)), hf.cell u.c0 hS, hf.cell u.c1 hS, hf.cell u.c2 hS, hf.cell u.c3 hS, hf.cell u.c4 hS, (hf.frozen hl hS).trans u.f3, (hf.frozen hl hS).trans u.f4, hf.own u.oi (fun k hk => hE k (Or.inr (Or.inr (Or.inl hk)))), hf.own u.oc (fun k hk => hE k (Or.inr (Or.inr (Or.inr hk)))), u.lt, u.d1, u.d2⟩
theorem Sc.grown {w' : World} (u : Sc S P s g h v vi vc xs ids cs w) (hb : Below w.heap.size w w') : Sc S P s g h v vi vc xs ids cs w' := u.fr (Fr.of_below hb (fun _ => False)) (fun _ _ h => h)
/-- one step of a scene -/
structure ScStep (P S : Nat) (v vi vc v' vi' vc' : Value) (w w' : World) : Prop where
  fr : Fr (scE P S v vi vc) w w'
  own : ∀ k, scE P S v' vi' vc' k → scE P S v vi vc k ∨ w.heap.size ≤ k
theorem ScStep.of_below {w' : World} (h : Below w.heap.size w w') : ScStep P S v vi vc v vi vc w w' := ⟨Fr.of_below h _, fun _ hk => Or.inl hk⟩
theorem ScStep.trans {v1 vi1 vc1 v2 vi2 vc2 : Value} {w1 w2 : World} (h : ScStep P S v vi vc v1 vi1 vc1 w w1) (k : ScStep P S v1 vi1 vc1 v2 vi2 vc2 w1 w2) : ScStep P S v vi vc v2 vi2 vc2 w w2 := by
  refine ⟨⟨k.fr.os.trans h.fr.os, k.fr.tape.trans h.fr.tape, k.fr.output.trans h.fr.output, Nat.le_trans h.fr.size k.fr.size, fun i hi he => ?_⟩, fun i hi => ?_⟩
  · refine (k.fr.block i (Nat.lt_of_lt_of_le hi h.fr.size) (fun e => ?_)).trans (h.fr.block i hi he)
    rcases h.own i e with e' | e'
    · exact he e'
    · omega
  · rcases k.own i hi with e | e
    · exact h.own i e
    · exact Or.inr (Nat.le_trans h.fr.size e)
/-- the chain moves -/
theorem Sc.chain (u : Sc S P s g h v vi vc xs ids cs w) {w' : World} {v' : Value} {h' : Nat} {xs' : List Cel} (hp : PAt w' P s g v' h' xs') (hst : ChStep P v v' w w') : Sc S P s g h' v' vi vc xs' ids cs w' ∧ ScStep P S v vi vc v' vi vc w w' := by
  have hf := hst.fr
  have hSE : ¬ chE P v S := fun e => (u.d1 S e).1 rfl
  have hl := u.big.1
  have hnew : ∀ k, chE P v' k → chE P v k ∨ w.heap.size ≤ k := fun k hk => by
    rcases hk with e | e
    · exact Or.inl (Or.inl e)
    · rcases hst.own k e with e' | e'
      · exact Or.inl (Or.inr e')
      · exact Or.inr e'
  refine ⟨⟨hp, hf.cell u.c0 hSE, hf.cell u.c1 hSE, hf.cell u.c2 hSE, hf.cell u.c3 hSE, hf.cell u.c4 hSE, (hf.frozen hl hSE).trans u.f3, (hf.frozen hl hSE).trans u.f4, hf.own u.oi (fun k hk e => (u.d1 k e).2.1 hk), hf.own u.oc (fun k hk e => (u.d1 k e).2.2 hk), u.lt, fun k hk => ?_, u.d2⟩, hf.weak (fun k _ e => Or.inl e), fun k hk => ?_⟩
  · rcases hnew k hk with e | e
    · exact u.d1 k e
    · exact ⟨fun e' => by omega, fun e' => by have := (u.oi.blk k e').2; omega, fun e' => by have := (u.oc.blk k e').2; omega⟩
  · rcases hk with e | e
    · exact (hnew k e).imp (fun e => Or.inl e) id
    · exact Or.inl (Or.inr e)
end Go.Proofs.Ytffgpepngcnjeab

namespace Go.Proofs.Ytffgpepngcnjeab
open Go.RowKit
end Go.Proofs.Ytffgpepngcnjeab

namespace Go.Proofs.Ytffgpepngcnjeab
open Go.RowKit
/-- keys each at most a gap further on than one ahead of it -/
structure Chain (g : Nat) (A : List Nat) : Prop where
  lt : ∀ i ∈ A, i < 100
  step : ∀ j, j < A.length → A.getD j 0 < g ∨ ∃ i, i < j ∧ A.getD j 0 ≤ A.getD i 0 + g
theorem Chain.nil (g : Nat) : Chain g [] := ⟨fun i hi => (by cases hi), fun j hj => (by cases hj)⟩
/-- a window that is as wide as what is paid in it wants comes to all of them -/
theorem Chain.all {g V : Nat} {A : List Nat} (h : Chain g A) (hV : g ≤ V) (hA : ∀ i ∈ A, i < V → min 100 (i + 1 + g) ≤ V) : ∀ i ∈ A, i < V := by
  have key : ∀ n j, j < n → j < A.length → A.getD j 0 < V := by
    intro n
    induction n with
    | zero => intro j hj; omega
    | succ n ih =>
      intro j hj hl
      have hlt := h.lt _ (getD_mem A 0 j hl)
      rcases h.step j hl with h1 | ⟨i, h1, h2⟩
      · omega
      · have h3 := ih i (by omega) (by omega)
        have h4 := hA _ (getD_mem A 0 i (by omega)) h3
        omega
  intro i hi
  obtain ⟨j, hj, rfl⟩ := mem_getD 0 hi
  exact key (j + 1) j (by omega) hj
end Go.Proofs.Ytffgpepngcnjeab

namespace Go.Proofs.Ytffgpepngcnjeab
open Go.RowKit
/-- the deposits at these indices stand in the chain, and as the scene keeps them -/
structure Dep (s br : Int) (A : List Nat) (xs : List Cel) (cs : List CoinD) : Prop where
  lt : ∀ i ∈ A, i < 100
  len : A.length ≤ cs.length
  at_ : ∀ i, i < A.length → ∃ x ∈ xs, x.spent = -1 ∧ x.to = Mk.adr s br ((A.getD i 0 : Nat) : Int) ∧ cs.getD i dN = x.kept
theorem Dep.hit {s br : Int} {A : List Nat} {xs : List Cel} {cs : List CoinD} (h : Dep s br A xs cs) {i : Nat} (hi : i ∈ A) : hitAt xs s br i = true := by
  obtain ⟨j, hj, rfl⟩ := mem_getD 0 hi
  obtain ⟨x, hx, _, e, _⟩ := h.at_ j hj
  unfold hitAt paidTo
  rw [List.any_eq_true]
  exact ⟨x, hx, by rw [e]; simp⟩
theorem Dep.has {s br : Int} {A : List Nat} {xs : List Cel} {cs : List CoinD} (h : Dep s br A xs cs) (hb : br = 0 ∨ br = 1) {g j : Nat} (hj : j < A.length) (hlt : A.getD j 0 < winZ xs s g br) : hasZ (ownOf xs s g) (cs.getD j dN) = true := by
  obtain ⟨x, hx, hs, e, ec⟩ := h.at_ j hj
  rw [ec]
  exact own_has hx hs (by rw [e]; exact key_mem hb hlt)
end Go.Proofs.Ytffgpepngcnjeab

namespace Go.Proofs.Ytffgpepngcnjeab
open Go.RowKit
set_option maxRecDepth 100000 in
set_option maxHeartbeats 400000 in
theorem fSeeded_any (a b : Int) (w : World) (a1 : -9223372036854775808 ≤ a) (a2 : a ≤ 9223372036854775807) (b1 : -9223372036854775808 ≤ b) (b2 : b ≤ 9223372036854775807) :
    Calls Try.prog 31 #[.int .i64 a, .int .i64 b] w fun e w' => e = .returned (.tuple #[.int .i64 (Mk.pk a 99991), .int .i64 (1 + Mk.pk b 20)]) ∧ w = w' := by
  have hb := Mk.pk_bd b 20 (by decide)
  have hw : IntKind.i64.wrap (1 + Mk.pk b 20) = 1 + Mk.pk b 20 := IntWalk.i64_in _ ⟨by omega, by omega⟩
  go_enter Try.func31, Try.ntmps31
  go_wp2_with fail
  refine (pick_any a 99991 _ (by omega) (by omega) a1 a2).mono ?_
  rintro e w' ⟨rfl, rfl⟩
  go_wp2_with fail
  refine (pick_any b 20 _ (by omega) (by omega) b1 b2).mono ?_
  rintro e w' ⟨rfl, rfl⟩
  go_wp2
  go_ret2
  exact ⟨rfl, rfl⟩
set_option maxRecDepth 100000 in
set_option maxHeartbeats 400000 in
theorem fOpened_yes (s g : Int) (w : World) (hs : Mk.isM s = true) (h1 : 1 ≤ g) (h2 : g ≤ 20) :
    Calls Try.prog 32 #[.int .i64 s, .int .i64 g] w fun e w' => e = .returned (.pointer (some ⟨w.heap.size, 0, none⟩)) ∧ w.alloc (.cells #[.int .i64 s, .int .i64 g, .slice none 0 0, .int .i64 0, .slice none 0 0, .slice none 0 0, .int .i64 0, .int .i64 0] 79) = w' := by
  go_enter Try.func32, Try.ntmps32
  go_wp2_with fail
  refine (new_yes s g _ hs h1 h2).mono ?_
  rintro e w1 ⟨rfl, rfl⟩
  go_wp2
  go_ret
  exact ⟨rfl, rfl⟩
/-- the deposits so far: a block each -/
structure Fu (s br : Int) (A : List Nat) (xs : List Cel) : Prop where
  len : xs.length = A.length
  at_ : ∀ j, j < A.length → (xs.getD j dC).spent = -1 ∧ (xs.getD j dC).to = Mk.adr s br ((A.getD j 0 : Nat) : Int) ∧ (xs.getD j dC).val = 10 + j ∧ (xs.getD j dC).made = j
theorem Fu.nil (s br : Int) : Fu s br [] [] := ⟨rfl, fun j hj => by cases hj⟩
theorem getD_take {α : Type} (l : List α) (d : α) (q j : Nat) (h : j < q) : (l.take q).getD j d = l.getD j d := by
  simp only [List.getD]
  rw [List.getElem?_take_of_lt h]
theorem Fu.take {s br : Int} {A : List Nat} {xs : List Cel} (h : Fu s br A xs) (q : Nat) : Fu s br (A.take q) (xs.take q) := by
  refine ⟨by rw [List.length_take, List.length_take, h.len], fun j hj => ?_⟩
  rw [List.length_take] at hj
  rw [getD_take _ _ _ _ (by omega), getD_take _ _ _ _ (by omega)]
  exact h.at_ j (by omega)
theorem Fu.mem {s br : Int} {A : List Nat} {xs : List Cel} (h : Fu s br A xs) {x : Cel} (hx : x ∈ xs) : ∃ j, j < A.length ∧ x = xs.getD j dC := by
  obtain ⟨j, hj, e⟩ := mem_getD dC hx
  exact ⟨j, by rw [← h.len]; exact hj, e⟩
theorem Fu.dep {s br : Int} {A : List Nat} {xs : List Cel} (h : Fu s br A xs) (hA : ∀ i ∈ A, i < 100) {cs : List CoinD} (hl : A.length ≤ cs.length) (hc : ∀ j, j < A.length → cs.getD j dN = (xs.getD j dC).kept) : Dep s br A xs cs :=
  ⟨hA, hl, fun i hi => ⟨xs.getD i dC, getD_mem xs dC i (by rw [h.len]; exact hi), (h.at_ i hi).1, (h.at_ i hi).2.1, hc i hi⟩⟩
theorem kept_get (xs : List Cel) (j : Nat) (h : j < xs.length) : (xs.map Cel.kept).getD j dN = (xs.getD j dC).kept := by
  simp [List.getD, h]
theorem Fu.back {s br : Int} {A : List Nat} {xs : List Cel} (h : Fu s br A xs) (q : Nat) (hq : q < A.length) : tbZ (q : Int) (xs.take (q + 1)) = xs.take q := by
  have hql : q < xs.length := by rw [h.len]; exact hq
  have e : xs.take (q + 1) = xs.take q ++ [xs.getD q dC] := by
    rw [List.take_succ_eq_append_getElem hql]
    simp [List.getD, hql]
  rw [e]
  refine dep_back _ _ _ (h.at_ q hq).2.2.2 (fun y hy => ?_)
  obtain ⟨j, hj, rfl⟩ := mem_getD dC hy
  rw [List.length_take] at hj
  rw [getD_take _ _ _ _ (by omega)]
  have := h.at_ j (by omega)
  exact ⟨by rw [this.2.2.2]; omega, by rw [this.1]; omega⟩
/-- all are found in the end -/
theorem Fu.all {s br : Int} {A : List Nat} {xs : List Cel} (h : Fu s br A xs) (hb : br = 0 ∨ br = 1) {g : Nat} (hg2 : g ≤ 20) {L : List Nat} (hL : Chain g L) (h1 : ∀ i ∈ L, i ∈ A) (h2 : ∀ i ∈ A, i ∈ L) : (ownOf xs s g).length = A.length ∧ sumC (ownOf xs s g) = sumC (xs.map Cel.kept) := by
  have hd : Dep s br A xs (xs.map Cel.kept) := h.dep (fun i hi => hL.lt i (h2 i hi)) (by rw [List.length_map, h.len]; exact Nat.le_refl _) (fun j hj => kept_get xs j (by rw [h.len]; exact hj))
  have hw := win_spec xs s g br hg2
  have hall : ∀ i ∈ L, i < winZ xs s g br := hL.all hw.1 (fun i hi hlt => hw.2 i hlt (hd.hit (h1 i hi)))
  have := own_all (xs := xs) (s := s) (g := g) (fun x hx => by
    obtain ⟨j, hj, rfl⟩ := h.mem hx
    exact (h.at_ j hj).1) (fun x hx => by
    obtain ⟨j, hj, rfl⟩ := h.mem hx
    rw [(h.at_ j hj).2.1]
    exact key_mem hb (hall _ (h2 _ (getD_mem A 0 j hj))))
  rw [h.len] at this
  exact this
end Go.Proofs.Ytffgpepngcnjeab

namespace Go.Proofs.Ytffgpepngcnjeab
open Go.RowKit
/-- a deposit as it is asked for: branch, index, value, raw -/
structure DepR where
  br : Int
  ix : Int
  val : Int
def dDR : DepR := ⟨0, 0, 0⟩
def DepR.l (x : DepR) : List Value := [.int .i64 x.br, .int .i64 x.ix, .int .i64 x.val]
/-- the outputs of a scene: a deposit each -/
structure Dp (s : Int) (g : Nat) (xs : List Cel) : Prop where
  sp : ∀ x ∈ xs, x.spent = -1
  po : ∀ x ∈ xs, x.pos = 0
  tw : ∀ x ∈ xs, ∃ (br : Int) (i : Nat), (br = 0 ∨ br = 1) ∧ i < g ∧ x.to = Mk.adr s br (i : Int)
  va : ∀ x ∈ xs, 10 ≤ x.val ∧ x.val ≤ 1099511627776
  nd : (xs.map Cel.id).Nodup
  im : ∀ x ∈ xs, Mk.isM x.id = true
theorem Dp.nil (s : Int) (g : Nat) : Dp s g [] := ⟨fun _ h => (by cases h), fun _ h => (by cases h), fun _ h => (by cases h), fun _ h => (by cases h), List.nodup_nil, fun _ h => (by cases h)⟩
end Go.Proofs.Ytffgpepngcnjeab

namespace Go.Proofs.Ytffgpepngcnjeab
open Go.RowKit
set_option maxRecDepth 100000 in
set_option maxHeartbeats 400000 in
theorem worth_any (x : CoinD) (r : Int) (w : World) (hr : 0 ≤ r ∧ r ≤ 1000) (hx : 0 ≤ x.val ∧ x.val ≤ 1099511627776) :
    Calls Try.prog 92 #[coinV x, .int .i64 r] w fun e w' => e = .returned (.int .i64 (worthZ r x)) ∧ Below w.heap.size w w' := by
  obtain ⟨x0, x1, x2, x3, x4, x5⟩ := x
  simp only at hx
  have hw1 : IntKind.i64.wrap (7 * r) = 7 * r := IntWalk.i64_in _ ⟨by omega, by omega⟩
  have hw2 : IntKind.i64.wrap (x3 - 7 * r) = x3 - 7 * r := IntWalk.i64_in _ ⟨by omega, by omega⟩
  go_enter Try.func92, Try.ntmps92
  go_wp2
  go_ret
  exact ⟨rfl, (Below.refl _ _).alloc (Nat.le_refl _) _⟩
set_option maxRecDepth 100000 in
set_option maxHeartbeats 400000 in
theorem slack_any (r : Int) (w : World) (hr : 0 ≤ r ∧ r ≤ 1000) :
    Calls Try.prog 70 #[.int .i64 r] w fun e w' => e = .returned (.int .i64 (slackZ r)) ∧ w = w' := by
  have hw1 : IntKind.i64.wrap (2 * r) = 2 * r := IntWalk.i64_in _ ⟨by omega, by omega⟩
  have hw2 : IntKind.i64.wrap (2 * r + 10) = 2 * r + 10 := IntWalk.i64_in _ ⟨by omega, by omega⟩
  have hw3 : IntKind.i64.wrap (2 * r + 10 - 1) = 2 * r + 10 - 1 := IntWalk.i64_in _ ⟨by omega, by omega⟩
  go_enter Try.func70, Try.ntmps70
  go_wp2
  go_ret
  exact ⟨ret_int (by unfold slackZ; omega), rfl⟩
set_option maxRecDepth 100000 in
set_option maxHeartbeats 400000 in
theorem change_any (l r : Int) (w : World) (hr : 0 ≤ r ∧ r ≤ 1000) (hl : 0 ≤ l ∧ l ≤ 1000000000000000000) :
    Calls Try.prog 74 #[.int .i64 l, .int .i64 r] w fun e w' => e = .returned (.int .i64 (if l ≤ slackZ r then 0 else l - 2 * r)) ∧ w = w' := by
  have hw1 : IntKind.i64.wrap (2 * r) = 2 * r := IntWalk.i64_in _ ⟨by omega, by omega⟩
  have hw2 : IntKind.i64.wrap (l - 2 * r) = l - 2 * r := IntWalk.i64_in _ ⟨by omega, by omega⟩
  by_cases h : l ≤ slackZ r
  · rw [if_pos h]
    go_enter Try.func74, Try.ntmps74
    go_wp2_with (go_at_call 70; refine (slack_any r _ hr).mono ?_; rintro e w' ⟨rfl, rfl⟩)
    go_ret
    exact ⟨rfl, rfl⟩
  · rw [if_neg h]
    go_enter Try.func74, Try.ntmps74
    go_wp2_with (go_at_call 70; refine (slack_any r _ hr).mono ?_; rintro e w' ⟨rfl, rfl⟩)
    go_ret
    exact ⟨rfl, rfl⟩
def targetZ (ys : List (Int × Int)) (r : Int) : Int := r * (3 + 2 * ys.length) + sumOu ys
set_option maxRecDepth 100000 in
set_option maxHeartbeats 1000000 in
theorem target_any (ao : Option Addr) (n c : Nat) (ys : List (Int × Int)) (r : Int) (w : World) (hx : OutsAt w ao ys) (hn : ys.length = n) (hm : n ≤ 100) (hr : 0 ≤ r ∧ r ≤ 1000) (hb : ∀ y ∈ ys, 0 ≤ y.2 ∧ y.2 ≤ 1099511627776) :
    Calls Try.prog 69 #[.slice ao n c, .int .i64 r] w fun e w' => e = .returned (.int .i64 (targetZ ys r)) ∧ Below w.heap.size w w' := by
  have HX : Hid (OutsAt w ao ys) := hx
  have HN : Hid (ys.length = n) := hn
  have HB : Hid (∀ y ∈ ys, 0 ≤ y.2 ∧ y.2 ≤ 1099511627776) := hb
  clear hx hn hb
  have hrn : 0 ≤ r * (3 + 2 * (n : Int)) ∧ r * (3 + 2 * (n : Int)) ≤ 203000 := ⟨Int.mul_nonneg hr.1 (by omega), by
    have h1 : r * (3 + 2 * (n : Int)) ≤ 1000 * (3 + 2 * (n : Int)) := Int.mul_le_mul_of_nonneg_right hr.2 (by omega)
    omega⟩
  have hw1 : IntKind.i64.wrap (2 * (n : Int)) = 2 * (n : Int) := IntWalk.i64_in _ ⟨by omega, by omega⟩
  have hw2 : IntKind.i64.wrap (3 + 2 * (n : Int)) = 3 + 2 * (n : Int) := IntWalk.i64_in _ ⟨by omega, by omega⟩
  have hw3 : IntKind.i64.wrap (r * (3 + 2 * (n : Int))) = r * (3 + 2 * (n : Int)) := IntWalk.i64_in _ ⟨by omega, by omega⟩
  have HT : Hid (targetZ ys r = r * (3 + 2 * (n : Int)) + sumOu ys) := by show _ = _; unfold targetZ; rw [HN.out]
  go_enter Try.func69, Try.ntmps69
  go_wp2
  generalize r * (3 + 2 * (n : Int)) = F at *
  go_loopw [5, 16] (fun v i wr => ∃ (k : Nat) (T : Int), k ≤ n ∧ i = .int .i64 k ∧ v = .int .i64 T ∧ Hid (F + ((ys.take k).map Prod.snd).sum = T) ∧ Below w.heap.size w wr) (fun _ i _ => n - (intOf i).toNat)
  case atStart => exact ⟨0, F, Nat.zero_le _, rfl, rfl, by show F + _ = F; simp, Below.refl _ _⟩
  case round =>
    obtain ⟨k, T, hk, rfl, rfl, hT, hbl⟩ := hrel
    have hsz := hbl.size
    by_cases hlt : k < n
    · rcases HX.out with hnil | ⟨gg, off, rfl, hrow⟩
      · have := HN.out; rw [hnil] at this; simp at this; omega
      obtain ⟨c0, c1⟩ := (hrow.grown hbl) k (by rw [HN.out]; exact hlt)
      have HS : Hid _ := sum_snoc Prod.snd ys (0, 0) k (by rw [HN.out]; exact hlt)
      have hSb := sum_bd Prod.snd 1099511627776 (ys.take k) (fun x hx => HB.out x (List.mem_of_mem_take hx))
      have hyb := HB.out (ys.getD k (0, 0)) (getD_mem ys (0, 0) k (by rw [HN.out]; exact hlt))
      have hl2 : (ys.take k).length ≤ 100 := by rw [List.length_take]; omega
      have hT2 : 0 ≤ T ∧ T ≤ 120000000000000 := by have := hT.out; omega
      clear hrow hSb hl2
      generalize ys.getD k (0, 0) = y at c0 c1 HS hyb
      obtain ⟨y0, y1⟩ := y
      simp only at c0 c1 hyb
      go_wp2
      go_roundw
      case rel => exact ⟨k + 1, T + y1, by omega, by go_num, rfl, by show _ = _; rw [HS.out, ← Int.add_assoc, hT.out], hbl.alloc hsz _⟩
      case measure => simp [intOf]; omega
    · have HSe : Hid (targetZ ys r = T) := by show _ = _; rw [HT.out, ← hT.out, List.take_of_length_le (by rw [HN.out]; omega)]; rfl
      go_wp2
      go_ret
      exact ⟨ret_int HSe.out.symm, hbl⟩
/-- the candidates in block b: their list, the rate -/
structure Cand (w : World) (b : Nat) (ao : Option Addr) (c : Nat) (cs : List CoinD) (r : Int) : Prop where
  c0 : w.cell? ⟨b, 0, none⟩ = some (.slice ao cs.length c)
  c1 : w.cell? ⟨b, 1, none⟩ = some (.int .i64 r)
  at_ : RecAt CoinD.l w ao cs
theorem Cand.grown {w w' : World} {b : Nat} {ao : Option Addr} {c : Nat} {cs : List CoinD} {r : Int} (h : Cand w b ao c cs r) (hb : Below w.heap.size w w') : Cand w' b ao c cs r :=
  ⟨(hb.cell (p := ⟨b, 0, none⟩) (cell_lt h.c0)).trans h.c0, (hb.cell (p := ⟨b, 1, none⟩) (cell_lt h.c1)).trans h.c1, h.at_.grown hb⟩
theorem i64_and1 (n : Int) : bits .and .i64 n 1 = n % 2 := by
  have h1 : (BitVec.ofInt 64 1).toNat = 2 ^ 1 - 1 := by decide
  have key : (BitVec.ofInt 64 n &&& BitVec.ofInt 64 1).toNat = (n % ((2 ^ 64 : Nat) : Int)).toNat % 2 ^ 1 := by
    rw [BitVec.toNat_and, BitVec.toNat_ofInt, h1, Nat.and_two_pow_sub_one_eq_mod]
  show IntKind.i64.wrap ((BitVec.ofInt 64 n &&& BitVec.ofInt 64 1).toNat : Nat) = n % 2
  rw [key, IntKind.wrap_i64]
  omega
set_option maxRecDepth 100000 in
set_option maxHeartbeats 1000000 in
theorem cHas_any (b : Nat) (ao : Option Addr) (c : Nat) (cs : List CoinD) (r : Int) (m i : Nat) (w : World) (hc : Cand w b ao c cs r) (hi : i < 8) :
    Calls Try.prog 94 #[.pointer (some ⟨b, 0, none⟩), .int .i64 (m : Int), .int .i64 (i : Int)] w fun e w' => e = .returned (.bool (decide (i < cs.length) && bitN m 8 i)) ∧ w = w' := by
  have c0 := hc.c0
  clear hc
  generalize hl : cs.length = n at *
  clear hl
  by_cases h : i < n
  · have hw1 : IntKind.i64.wrap (7 - (i : Int)) = 7 - (i : Int) := IntWalk.i64_in _ ⟨by omega, by omega⟩
    have h7 : (0 : Int) ≤ 7 - (i : Int) := by omega
    go_enter Try.func94, Try.ntmps94
    go_wp2
    go_ret
    refine ⟨ret_bool ?_, rfl⟩
    have e : (m : Int) / 2 ^ (7 - i) % 2 = ((m / 2 ^ (7 - i) % 2 : Nat) : Int) := by push_cast; rfl
    rw [i64_and1, e, decide_eq_true h]
    unfold bitN
    rw [show 8 - 1 - i = 7 - i by omega]
    generalize m / 2 ^ (7 - i) % 2 = t
    by_cases ht : t = 1
    · subst ht; rfl
    · have h1 : ((t : Int) == 1) = false := by rw [beq_eq_false_iff_ne]; omega
      have h2 : (t == 1) = false := by rw [beq_eq_false_iff_ne]; exact ht
      rw [h1, h2]; rfl
  · go_enter Try.func94, Try.ntmps94
    go_wp2
    go_ret
    exact ⟨ret_bool (by rw [decide_eq_false h]; rfl), rfl⟩
end Go.Proofs.Ytffgpepngcnjeab

namespace Go.Proofs.Ytffgpepngcnjeab
open Go.RowKit
theorem rangeM_snoc {α : Type} (f : Nat → α) (k : Nat) : (List.range (k + 1)).map f = (List.range k).map f ++ [f k] := by
  rw [List.range_succ, List.map_append]; rfl
theorem keep8 {w w' : World} {b T o : Nat} {p q a0 a1 a2 a3 a4 a5 : Value} (hb : Below w.heap.size w w') (h : w.cell? ⟨b, 0, none⟩ = some p ∧ w.cell? ⟨b, 1, none⟩ = some q ∧ w.cell? ⟨T, o, none⟩ = some a0 ∧ w.cell? ⟨T, o + 1, none⟩ = some a1 ∧ w.cell? ⟨T, o + 2, none⟩ = some a2 ∧ w.cell? ⟨T, o + 3, none⟩ = some a3 ∧ w.cell? ⟨T, o + 4, none⟩ = some a4 ∧ w.cell? ⟨T, o + 5, none⟩ = some a5) :
    w'.cell? ⟨b, 0, none⟩ = some p ∧ w'.cell? ⟨b, 1, none⟩ = some q ∧ w'.cell? ⟨T, o, none⟩ = some a0 ∧ w'.cell? ⟨T, o + 1, none⟩ = some a1 ∧ w'.cell? ⟨T, o + 2, none⟩ = some a2 ∧ w'.cell? ⟨T, o + 3, none⟩ = some a3 ∧ w'.cell? ⟨T, o + 4, none⟩ = some a4 ∧ w'.cell? ⟨T, o + 5, none⟩ = some a5 := by
  obtain ⟨hp, hq, h0, h1, h2, h3, h4, h5⟩ := h
  have hl := cell_lt h0
  have hl2 := cell_lt hp
  exact ⟨(hb.cell (p := ⟨b, 0, none⟩) hl2).trans hp, (hb.cell (p := ⟨b, 1, none⟩) hl2).trans hq, (hb.cell (p := ⟨T, o, none⟩) hl).trans h0, (hb.cell (p := ⟨T, o + 1, none⟩) hl).trans h1, (hb.cell (p := ⟨T, o + 2, none⟩) hl).trans h2, (hb.cell (p := ⟨T, o + 3, none⟩) hl).trans h3, (hb.cell (p := ⟨T, o + 4, none⟩) hl).trans h4, (hb.cell (p := ⟨T, o + 5, none⟩) hl).trans h5⟩
abbrev CVals (cs : List CoinD) : Prop := ∀ x ∈ cs, 0 ≤ x.val ∧ x.val ≤ 1099511627776
set_option maxRecDepth 100000 in
set_option maxHeartbeats 2000000 in
theorem cSum_any (b : Nat) (ao : Option Addr) (c : Nat) (cs : List CoinD) (r : Int) (m : Nat) (w : World) (hc : Cand w b ao c cs r) (hr : 0 ≤ r ∧ r ≤ 1000) (hv : CVals cs) :
    Calls Try.prog 93 #[.pointer (some ⟨b, 0, none⟩), .int .i64 (m : Int)] w fun e w' => (∃ T, e = .returned (.int .i64 T) ∧ T = sumP r cs m ∧ -56000 ≤ T ∧ T ≤ 8796093022208) ∧ Below w.heap.size w w' := by
  have HC : Hid (Cand w b ao c cs r) := hc
  have HV : Hid (CVals cs) := hv
  clear hc hv
  go_enter Try.func93, Try.ntmps93
  go_wp2
  go_loopw [5, 6] (fun v i wr => ∃ (k : Nat) (T : Int), k ≤ 8 ∧ i = .int .i64 k ∧ v = .int .i64 T ∧ Hid (((List.range k).map fun i => if decide (i < cs.length) && bitN m 8 i then worthZ r (cs.getD i dN) else 0).sum = T) ∧ -(7000 * (k : Int)) ≤ T ∧ T ≤ 1099511627776 * (k : Int) ∧ Below w.heap.size w wr) (fun _ i _ => 8 - (intOf i).toNat)
  case atStart => exact ⟨0, 0, Nat.zero_le _, rfl, rfl, rfl, by simp, by simp, Below.refl _ _⟩
  case round =>
    obtain ⟨k, T, hk, rfl, rfl, hT, hT1, hT2, hbl⟩ := hrel
    have hsz := hbl.size
    have HCr : Hid (Cand wr b ao c cs r) := HC.out.grown hbl
    by_cases hlt : k < 8
    · have HS : Hid _ := rangeM_snoc (fun i => if decide (i < cs.length) && bitN m 8 i then worthZ r (cs.getD i dN) else 0) k
      cases hb : (decide (k < cs.length) && bitN m 8 k)
      · go_wp2_with (go_at_call 94; refine (cHas_any b ao c cs r m k _ HCr.out hlt).mono ?_; rintro e w' ⟨rfl, rfl⟩; rw [hb])
        go_roundw
        case rel => exact ⟨k + 1, T, by omega, by go_num, rfl, by show _ = _; rw [HS.out, List.sum_append, hT.out, hb]; simp, by push_cast; omega, by push_cast; omega, hbl⟩
        case measure => simp [intOf]; omega
      · have hkl : k < cs.length := by
          rw [Bool.and_eq_true, decide_eq_true_iff] at hb
          exact hb.1
        have hvk := HV.out (cs.getD k dN) (getD_mem cs dN k hkl)
        rcases HCr.out.at_ with hnil | ⟨gc, oc, rfl, hrow⟩
        · rw [hnil] at hkl; simp at hkl
        obtain ⟨e0, e1, e2, e3, e4, e5⟩ := coinCells hrow k hkl
        have p0 := HCr.out.c0
        have p1 := HCr.out.c1
        have hkI : (k : Int) < (cs.length : Int) := by omega
        have hk0 : (0 : Int) ≤ (k : Int) := by omega
        clear hrow
        generalize cs.getD k dN = y at *
        obtain ⟨y0, y1, y2, y3, y4, y5⟩ := y
        simp only at e0 e1 e2 e3 e4 e5 hvk
        have hwd : worthZ r ⟨y0, y1, y2, y3, y4, y5⟩ = y3 - 7 * r := rfl
        have HWD : Hid (worthZ r ⟨y0, y1, y2, y3, y4, y5⟩ = y3 - 7 * r) := hwd
        have hw : IntKind.i64.wrap (T + (y3 - 7 * r)) = T + (y3 - 7 * r) := IntWalk.i64_in _ ⟨by omega, by omega⟩
        have HKX : Hid (wr.cell? ⟨b, 0, none⟩ = some (.slice (some ⟨gc, oc, none⟩) cs.length c) ∧ wr.cell? ⟨b, 1, none⟩ = some (.int .i64 r) ∧ wr.cell? ⟨gc, oc + k * 6, none⟩ = some (.int .i64 y0) ∧ wr.cell? ⟨gc, oc + k * 6 + 1, none⟩ = some (.int .i64 y1) ∧ wr.cell? ⟨gc, oc + k * 6 + 2, none⟩ = some (.int .i64 y2) ∧ wr.cell? ⟨gc, oc + k * 6 + 3, none⟩ = some (.int .i64 y3) ∧ wr.cell? ⟨gc, oc + k * 6 + 4, none⟩ = some (.int .i64 y4) ∧ wr.cell? ⟨gc, oc + k * 6 + 5, none⟩ = some (.int .i64 y5)) := ⟨p0, p1, e0, e1, e2, e3, e4, e5⟩
        clear hwd
        go_upto_region 6 with (go_at_call 94; refine (cHas_any b (some ⟨gc, oc, none⟩) c cs r m k _ HCr.out hlt).mono ?_; rintro e w' ⟨rfl, rfl⟩; rw [hb])
        go_region_held3 (fun w' => w'.cell? ⟨b, 0, none⟩ = some (.slice (some ⟨gc, oc, none⟩) cs.length c) ∧ w'.cell? ⟨b, 1, none⟩ = some (.int .i64 r) ∧ w'.cell? ⟨gc, oc + k * 6, none⟩ = some (.int .i64 y0) ∧ w'.cell? ⟨gc, oc + k * 6 + 1, none⟩ = some (.int .i64 y1) ∧ w'.cell? ⟨gc, oc + k * 6 + 2, none⟩ = some (.int .i64 y2) ∧ w'.cell? ⟨gc, oc + k * 6 + 3, none⟩ = some (.int .i64 y3) ∧ w'.cell? ⟨gc, oc + k * 6 + 4, none⟩ = some (.int .i64 y4) ∧ w'.cell? ⟨gc, oc + k * 6 + 5, none⟩ = some (.int .i64 y5)) (first | assumption | go_keep | exact keep8 hb7 HKX.out) ((go_at_call 92; refine (worth_any ⟨y0, y1, y2, y3, y4, y5⟩ r _ hr hvk).mono ?_; rintro e w7 ⟨rfl, hb7⟩; rw [HWD.out]))
        have hb07 : Below w.heap.size w w7 := hbl.drew.trans (hb7.mono hsz)
        clear HKX e0 e1 e2 e3 e4 e5 p0 p1
        go_wp2
        go_roundw
        case rel => exact ⟨k + 1, T + (y3 - 7 * r), by omega, by go_num, rfl, by show _ = _; rw [HS.out, List.sum_append, hT.out, if_pos hb, HWD.out]; simp, by push_cast; omega, by push_cast; omega, hb07⟩
        case measure => simp [intOf]; omega
    · have hk8 : k = 8 := by omega
      subst hk8
      go_wp2
      go_ret
      exact ⟨⟨T, rfl, hT.out.symm, by omega, by omega⟩, hbl⟩
set_option maxRecDepth 100000 in
set_option maxHeartbeats 2000000 in
theorem cNearest_any (b : Nat) (ao : Option Addr) (c : Nat) (cs : List CoinD) (r lo hi : Int) (w : World) (hc : Cand w b ao c cs r) (hr : 0 ≤ r ∧ r ≤ 1000) (hv : CVals cs) (hh : 0 ≤ hi ∧ hi ≤ 1000000000000000000) :
    Calls Try.prog 71 #[.pointer (some ⟨b, 0, none⟩), .int .i64 lo, .int .i64 hi] w fun e w' => e = .returned (.int .i64 (bestP r cs lo hi : Nat)) ∧ bestP r cs lo hi ≤ 255 ∧ Below w.heap.size w w' := by
  have HC : Hid (Cand w b ao c cs r) := hc
  have HV : Hid (CVals cs) := hv
  clear hc hv
  have hw : IntKind.i64.wrap (hi + 1) = hi + 1 := IntWalk.i64_in _ ⟨by omega, by omega⟩
  go_enter Try.func71, Try.ntmps71
  go_wp2
  go_loopw [7, 8, 9] (fun bv lv i wr => ∃ (k q : Nat) (l : Int), k ≤ 255 ∧ q ≤ 255 ∧ i = .int .i64 k ∧ bv = .int .i64 q ∧ lv = .int .i64 l ∧ Hid ((nearZ (sumP r cs) lo k (q, l)).1 = bestP r cs lo hi) ∧ Below w.heap.size w wr) (fun _ _ i _ => (intOf i).toNat)
  case atStart => exact ⟨255, 0, hi + 1, Nat.le_refl _, Nat.zero_le _, rfl, rfl, rfl, rfl, Below.refl _ _⟩
  case round =>
    obtain ⟨k, q, l, hk, hq, rfl, rfl, rfl, hz, hbl⟩ := hrel
    have hsz := hbl.size
    have HCr : Hid (Cand wr b ao c cs r) := HC.out.grown hbl
    cases k with
    | zero =>
      have hz' : q = bestP r cs lo hi := hz.out
      have HZ : Hid (q = bestP r cs lo hi) := hz'
      clear hz'
      go_wp2
      go_ret
      rw [← HZ.out]
      exact ⟨rfl, hq, hbl⟩
    | succ k =>
      have hz' := hz.out
      rw [nearZ] at hz'
      have HZ : Hid ((nearZ (sumP r cs) lo k (if lo ≤ sumP r cs (k + 1) ∧ sumP r cs (k + 1) < l then (k + 1, sumP r cs (k + 1)) else (q, l))).1 = bestP r cs lo hi) := hz'
      clear hz' hz
      generalize hK : k + 1 = K at *
      have hK0 : 0 < K := by omega
      have hkK : k < K := by omega
      have hk255 : k ≤ 255 := by omega
      have hd0 : decide ((0 : Int) < (K : Int)) = true := by rw [decide_eq_true_iff]; omega
      have hKm : ((K : Int) - 1) = (k : Int) := by omega
      have hw1 : IntKind.i64.wrap ((K : Int) - 1) = (k : Int) := by rw [hKm]; exact IntWalk.i64_in _ ⟨by omega, by omega⟩
      clear hKm hK
      go_wp2_with fail
      refine (cSum_any b ao c cs r K _ HCr.out hr HV.out).mono ?_
      rintro e w5 ⟨⟨T, rfl, hT, t1, t2⟩, hb5⟩
      rw [← hT] at HZ
      clear hT
      have hb05 : Below w.heap.size w w5 := hbl.trans (hb5.mono hsz)
      by_cases h1 : lo ≤ T
      · by_cases h2 : T < l
        · rw [if_pos ⟨h1, h2⟩] at HZ
          go_wp2
          go_roundw
          case rel => exact ⟨k, K, T, by omega, hk, rfl, rfl, rfl, HZ.out, hb05⟩
          case measure => simp [intOf]; omega
        · rw [if_neg (fun h => h2 h.2)] at HZ
          go_wp2
          go_roundw
          case rel => exact ⟨k, q, l, by omega, hq, rfl, rfl, rfl, HZ.out, hb05⟩
          case measure => simp [intOf]; omega
      · rw [if_neg (fun h => h1 h.1)] at HZ
        go_wp2
        go_roundw
        case rel => exact ⟨k, q, l, by omega, hq, rfl, rfl, rfl, HZ.out, hb05⟩
        case measure => simp [intOf]; omega
end Go.Proofs.Ytffgpepngcnjeab

namespace Go.Proofs.Ytffgpepngcnjeab
open Go.RowKit
theorem range_filter_snoc (p : Nat → Bool) (f : Nat → CoinD) (k : Nat) : ((List.range (k + 1)).filter p).map f = ((List.range k).filter p).map f ++ if p k = true then [f k] else [] := by
  rw [List.range_succ, List.filter_append, List.map_append]
  congr 1
  cases h : p k <;> simp [h]
theorem range_filter_len (p : Nat → Bool) (f : Nat → CoinD) (k : Nat) : (((List.range k).filter p).map f).length ≤ k := by
  rw [List.length_map]
  have := List.length_filter_le p (List.range k)
  rw [List.length_range] at this
  exact this
set_option maxRecDepth 100000 in
set_option maxHeartbeats 2000000 in
theorem cMembers_any (b : Nat) (ao : Option Addr) (c : Nat) (cs : List CoinD) (r : Int) (m : Nat) (w : World) (hc : Cand w b ao c cs r) :
    Calls Try.prog 72 #[.pointer (some ⟨b, 0, none⟩), .int .i64 (m : Int)] w fun e w' => ∃ v, e = .returned v ∧ OwnRec CoinD.l 70 6 w' w.heap.size v (memP cs m) ∧ Below w.heap.size w w' := by
  have HC : Hid (Cand w b ao c cs r) := hc
  have hbl0 := cell_lt hc.c0
  clear hc
  generalize hB : w.heap.size = B
  have HB : Hid (w.heap.size = B) := hB
  clear hB
  go_enter Try.func72, Try.ntmps72
  go_wp2
  go_loopw [5, 6] (fun v i wr => ∃ (k : Nat), k ≤ 8 ∧ i = .int .i64 k ∧ OwnRec CoinD.l 70 6 wr B v (((List.range k).filter fun i => decide (i < cs.length) && bitN m 8 i).map fun i => cs.getD i dN) ∧ Below B w wr) (fun _ i _ => 8 - (intOf i).toNat)
  case atStart => exact ⟨0, Nat.zero_le _, rfl, OwnRec.nil _ _ _ _ _, Below.refl _ _⟩
  case round =>
    obtain ⟨k, hk, rfl, hown, hbl⟩ := hrel
    have hsz := hbl.size
    rw [HB.out] at hsz
    have HCr : Hid (Cand wr b ao c cs r) := HC.out.grown (by rw [HB.out]; exact hbl)
    by_cases hlt : k < 8
    · have HS : Hid _ := range_filter_snoc (fun i => decide (i < cs.length) && bitN m 8 i) (fun i => cs.getD i dN) k
      have HL : Hid _ := range_filter_len (fun i => decide (i < cs.length) && bitN m 8 i) (fun i => cs.getD i dN) k
      have HO : Hid (OwnRec CoinD.l 70 6 wr B u5 (((List.range k).filter fun i => decide (i < cs.length) && bitN m 8 i).map fun i => cs.getD i dN)) := hown
      clear hown
      generalize ((List.range k).filter fun i => decide (i < cs.length) && bitN m 8 i).map (fun i => cs.getD i dN) = acc at *
      cases hb : (decide (k < cs.length) && bitN m 8 k)
      · go_wp2_with (go_at_call 94; refine (cHas_any b ao c cs r m k _ HCr.out hlt).mono ?_; rintro e w' ⟨rfl, rfl⟩; rw [hb])
        go_roundw
        case rel => exact ⟨k + 1, by omega, by go_num, by rw [HS.out, hb, if_neg (by simp), List.append_nil]; exact HO.out, hbl⟩
        case measure => simp [intOf]; omega
      · have hkl : k < cs.length := by
          rw [Bool.and_eq_true, decide_eq_true_iff] at hb
          exact hb.1
        rcases HCr.out.at_ with hnil | ⟨gc, oc, rfl, hrow⟩
        · rw [hnil] at hkl; simp at hkl
        obtain ⟨e0, e1, e2, e3, e4, e5⟩ := coinCells hrow k hkl
        have p0 := HCr.out.c0
        have hkI : (k : Int) < (cs.length : Int) := by omega
        have hk0 : (0 : Int) ≤ (k : Int) := by omega
        clear hrow
        generalize cs.getD k dN = y at *
        obtain ⟨y0, y1, y2, y3, y4, y5⟩ := y
        simp only at e0 e1 e2 e3 e4 e5
        go_wp2_with (first | (go_at_call 94; refine (cHas_any b (some ⟨gc, oc, none⟩) c cs r m k _ HCr.out hlt).mono ?_; rintro e w' ⟨rfl, rfl⟩; rw [hb]) | (at_builtin; refine wpList_appR 40 48 _ Try.underlying40 info70 rfl (by decide) coin6 coin_one (wr.alloc (.cells #[.int .i64 y0, .int .i64 y1, .int .i64 y2, .int .i64 y3, .int .i64 y4, .int .i64 y5] 70)) rfl _ _ rfl B wr.heap.size 1 u5 acc ⟨y0, y1, y2, y3, y4, y5⟩ (by rfl) (by rfl) (HO.out.alloc _) (vrow_new _ _ _) (by simp; omega) (by have := HL.out; unfold maxLen; omega) (by have := HL.out; omega) ?_; intro g' cap w5 hown5 hg5 _ _))
        go_roundw
        case rel => exact ⟨k + 1, by omega, by go_num, by rw [HS.out, if_pos hb]; exact hown5, hbl.trans (gb_to_below (gb_trans (gb_alloc _ _ _) hg5) (by omega) (fun r hr => (HO.out.blk r hr).1))⟩
        case measure => simp [intOf]; omega
    · have hk8 : k = 8 := by omega
      subst hk8
      go_wp2
      go_ret
      exact ⟨_, rfl, hown, hbl⟩
set_option maxRecDepth 100000 in
set_option maxHeartbeats 2000000 in
theorem cFirst_any (b : Nat) (ao : Option Addr) (c : Nat) (cs : List CoinD) (r : Int) (q : Nat) (w : World) (hc : Cand w b ao c cs r) (hq : q ≤ 100) (hql : q ≤ cs.length) :
    Calls Try.prog 75 #[.pointer (some ⟨b, 0, none⟩), .int .i64 (q : Int)] w fun e w' => ∃ v, e = .returned v ∧ OwnRec CoinD.l 70 6 w' w.heap.size v (cs.take q) ∧ Below w.heap.size w w' := by
  have HC : Hid (Cand w b ao c cs r) := hc
  clear hc
  generalize hB : w.heap.size = B
  have HB : Hid (w.heap.size = B) := hB
  clear hB
  go_enter Try.func75, Try.ntmps75
  go_wp2
  go_loopw [5, 6] (fun v i wr => ∃ (k : Nat), k ≤ q ∧ i = .int .i64 k ∧ OwnRec CoinD.l 70 6 wr B v (cs.take k) ∧ Below B w wr) (fun _ i _ => q - (intOf i).toNat)
  case atStart => exact ⟨0, Nat.zero_le _, rfl, OwnRec.nil _ _ _ _ _, Below.refl _ _⟩
  case round =>
    obtain ⟨k, hk, rfl, hown, hbl⟩ := hrel
    have hsz := hbl.size
    rw [HB.out] at hsz
    have HCr : Hid (Cand wr b ao c cs r) := HC.out.grown (by rw [HB.out]; exact hbl)
    by_cases hlt : k < q
    · have hkl : k < cs.length := by omega
      have HS : Hid (cs.take (k + 1) = cs.take k ++ [cs.getD k dN]) := by
        show _ = _
        rw [List.take_succ_eq_append_getElem hkl]
        simp [List.getD, hkl]
      have HL : Hid ((cs.take k).length ≤ 100) := by show _ ≤ _; rw [List.length_take]; omega
      have HO : Hid (OwnRec CoinD.l 70 6 wr B u5 (cs.take k)) := hown
      clear hown
      rcases HCr.out.at_ with hnil | ⟨gc, oc, rfl, hrow⟩
      · rw [hnil] at hkl; simp at hkl
      obtain ⟨e0, e1, e2, e3, e4, e5⟩ := coinCells hrow k hkl
      have p0 := HCr.out.c0
      have hkI : (k : Int) < (cs.length : Int) := by omega
      have hk0 : (0 : Int) ≤ (k : Int) := by omega
      clear hrow
      generalize cs.getD k dN = y at *
      generalize cs.take k = acc at *
      obtain ⟨y0, y1, y2, y3, y4, y5⟩ := y
      simp only at e0 e1 e2 e3 e4 e5
      go_wp2_with (at_builtin; refine wpList_appR 40 48 _ Try.underlying40 info70 rfl (by decide) coin6 coin_one (wr.alloc (.cells #[.int .i64 y0, .int .i64 y1, .int .i64 y2, .int .i64 y3, .int .i64 y4, .int .i64 y5] 70)) rfl _ _ rfl B wr.heap.size 1 u5 acc ⟨y0, y1, y2, y3, y4, y5⟩ (by rfl) (by rfl) (HO.out.alloc _) (vrow_new _ _ _) (by simp; omega) (by have := HL.out; unfold maxLen; omega) (by have := HL.out; omega) ?_; intro g' cap w5 hown5 hg5 _ _)
      go_roundw
      case rel => exact ⟨k + 1, by omega, by go_num, by rw [HS.out]; exact hown5, hbl.trans (gb_to_below (gb_trans (gb_alloc _ _ _) hg5) (by omega) (fun r hr => (HO.out.blk r hr).1))⟩
      case measure => simp [intOf]; omega
    · have hkq : k = q := by omega
      subst hkq
      go_wp2
      go_ret
      exact ⟨_, rfl, hown, hbl⟩
theorem enZ_drop (r want : Int) (cs : List CoinD) (k : Nat) (h : k < cs.length) (T : Int) : enZ r want (cs.drop k) k T = if want ≤ T + worthZ r (cs.getD k dN) then (k + 1, T + worthZ r (cs.getD k dN)) else enZ r want (cs.drop (k + 1)) (k + 1) (T + worthZ r (cs.getD k dN)) := by
  rw [List.drop_eq_getElem_cons h, enZ]
  simp only [List.getD, List.getElem?_eq_getElem h, Option.getD_some]
set_option maxRecDepth 100000 in
set_option maxHeartbeats 2000000 in
theorem cEnough_any (b : Nat) (ao : Option Addr) (c : Nat) (cs : List CoinD) (r want : Int) (w : World) (hc : Cand w b ao c cs r) (hr : 0 ≤ r ∧ r ≤ 1000) (hv : CVals cs) (hl : cs.length ≤ 100000) :
    Calls Try.prog 73 #[.pointer (some ⟨b, 0, none⟩), .int .i64 want] w fun e w' => (∃ q T, e = .returned (.tuple #[.int .i64 (q : Nat), .int .i64 T]) ∧ (q, T) = enZ r want cs 0 0 ∧ T ≤ 200000000000000000) ∧ Below w.heap.size w w' := by
  have HC : Hid (Cand w b ao c cs r) := hc
  have HV : Hid (CVals cs) := hv
  have c0 := hc.c0
  have hbl0 := cell_lt c0
  simp only at hbl0
  clear hc hv
  go_enter Try.func73, Try.ntmps73
  go_wp2
  go_loopw [6, 14] (fun v i wr => ∃ (k : Nat) (T : Int), k ≤ cs.length ∧ i = .int .i64 k ∧ v = .int .i64 T ∧ Hid (enZ r want (cs.drop k) k T = enZ r want cs 0 0) ∧ -(7000 * (k : Int)) ≤ T ∧ T ≤ 1099511627776 * (k : Int) ∧ Below w.heap.size w wr) (fun _ i _ => cs.length - (intOf i).toNat)
  case atStart => exact ⟨0, 0, Nat.zero_le _, rfl, rfl, rfl, by simp, by simp, Below.refl _ _⟩
  case round =>
    obtain ⟨k, T, hk, rfl, rfl, hz, hT1, hT2, hbl⟩ := hrel
    have hsz := hbl.size
    have HCr : Hid (Cand wr b ao c cs r) := HC.out.grown hbl
    by_cases hlt : k < cs.length
    · have hz' := hz.out
      rw [enZ_drop r want cs k hlt T] at hz'
      have hvk := HV.out (cs.getD k dN) (getD_mem cs dN k hlt)
      rcases HCr.out.at_ with hnil | ⟨gc, oc, rfl, hrow⟩
      · rw [hnil] at hlt; simp at hlt
      obtain ⟨e0, e1, e2, e3, e4, e5⟩ := coinCells hrow k hlt
      have p1 := HCr.out.c1
      have hkI : (k : Int) < (cs.length : Int) := by omega
      have hk0 : (0 : Int) ≤ (k : Int) := by omega
      clear hrow hz
      generalize cs.getD k dN = y at *
      obtain ⟨y0, y1, y2, y3, y4, y5⟩ := y
      simp only at e0 e1 e2 e3 e4 e5 hvk
      have HZ : Hid ((if want ≤ T + (y3 - 7 * r) then (k + 1, T + (y3 - 7 * r)) else enZ r want (cs.drop (k + 1)) (k + 1) (T + (y3 - 7 * r))) = enZ r want cs 0 0) := hz'
      have HWD : Hid (worthZ r ⟨y0, y1, y2, y3, y4, y5⟩ = y3 - 7 * r) := rfl
      have hw : IntKind.i64.wrap (T + (y3 - 7 * r)) = T + (y3 - 7 * r) := IntWalk.i64_in _ ⟨by omega, by omega⟩
      clear hz'
      have hbx : Below wr.heap.size wr (wr.alloc (.cells #[.int .i64 y0, .int .i64 y1, .int .i64 y2, .int .i64 y3, .int .i64 y4, .int .i64 y5] 70)) := (Below.refl _ _).alloc (Nat.le_refl _) _
      obtain ⟨x0, x1, x2, x3, x4, x5⟩ := xrow (vrow_new wr [.int .i64 y0, .int .i64 y1, .int .i64 y2, .int .i64 y3, .int .i64 y4, .int .i64 y5] 70)
      have q1 := (hbx.cell (p := ⟨b, 1, none⟩) (cell_lt p1)).trans p1
      have q0 := (hbx.cell (p := ⟨b, 0, none⟩) (cell_lt HCr.out.c0)).trans HCr.out.c0
      have hb1 := hbl.alloc hsz (.cells #[.int .i64 y0, .int .i64 y1, .int .i64 y2, .int .i64 y3, .int .i64 y4, .int .i64 y5] 70)
      go_upto_region 5 with fail
      generalize wr.alloc (.cells #[.int .i64 y0, .int .i64 y1, .int .i64 y2, .int .i64 y3, .int .i64 y4, .int .i64 y5] 70) = w1 at *
      generalize wr.heap.size = X at *
      clear e0 e1 e2 e3 e4 e5 p1 hbx
      have HKX : Hid (w1.cell? ⟨b, 0, none⟩ = some (.slice (some ⟨gc, oc, none⟩) cs.length c) ∧ w1.cell? ⟨b, 1, none⟩ = some (.int .i64 r) ∧ w1.cell? ⟨X, 0, none⟩ = some (.int .i64 y0) ∧ w1.cell? ⟨X, 0 + 1, none⟩ = some (.int .i64 y1) ∧ w1.cell? ⟨X, 0 + 2, none⟩ = some (.int .i64 y2) ∧ w1.cell? ⟨X, 0 + 3, none⟩ = some (.int .i64 y3) ∧ w1.cell? ⟨X, 0 + 4, none⟩ = some (.int .i64 y4) ∧ w1.cell? ⟨X, 0 + 5, none⟩ = some (.int .i64 y5)) := ⟨q0, q1, x0, x1, x2, x3, x4, x5⟩
      have hsz1 := hb1.size
      go_region_held3 (fun w' => w'.cell? ⟨b, 0, none⟩ = some (.slice (some ⟨gc, oc, none⟩) cs.length c) ∧ w'.cell? ⟨b, 1, none⟩ = some (.int .i64 r) ∧ w'.cell? ⟨X, 0, none⟩ = some (.int .i64 y0) ∧ w'.cell? ⟨X, 1, none⟩ = some (.int .i64 y1) ∧ w'.cell? ⟨X, 2, none⟩ = some (.int .i64 y2) ∧ w'.cell? ⟨X, 3, none⟩ = some (.int .i64 y3) ∧ w'.cell? ⟨X, 4, none⟩ = some (.int .i64 y4) ∧ w'.cell? ⟨X, 5, none⟩ = some (.int .i64 y5)) (first | assumption | go_keep | exact keep8 hb7 HKX.out) ((go_at_call 92; refine (worth_any ⟨y0, y1, y2, y3, y4, y5⟩ r _ hr hvk).mono ?_; rintro e w7 ⟨rfl, hb7⟩; rw [HWD.out]))
      have hb07 : Below w.heap.size w w7 := hb1.drew.trans (hb7.mono hsz1)
      clear HKX x0 x1 x2 x3 x4 x5 q0 q1 hb7 hb1 hsz1
      generalize hTe : T + (y3 - 7 * r) = T' at *
      have hT1' : -(7000 * ((k + 1 : Nat) : Int)) ≤ T' := by push_cast; omega
      have hT2' : T' ≤ 1099511627776 * ((k + 1 : Nat) : Int) := by push_cast; omega
      have hT3 : T' ≤ 200000000000000000 := by omega
      clear hTe
      by_cases hw2 : want ≤ T'
      · rw [if_pos hw2] at HZ
        go_wp2
        go_ret2
        exact ⟨⟨k + 1, T', by push_cast; rfl, HZ.out, hT3⟩, hb07⟩
      · rw [if_neg hw2] at HZ
        go_wp2
        go_roundw
        case rel => exact ⟨k + 1, T', by omega, by go_num, rfl, HZ.out, hT1', hT2', hb07⟩
        case measure => simp [intOf]; omega
    · have hkl : k = cs.length := by omega
      have HZ : Hid ((0, 0) = enZ r want cs 0 0) := by
        have := hz.out
        rw [List.drop_of_length_le (by omega), enZ] at this
        exact this
      go_wp2
      go_ret2
      exact ⟨⟨0, 0, rfl, HZ.out, by omega⟩, hbl⟩
end Go.Proofs.Ytffgpepngcnjeab

namespace Go.Proofs.Ytffgpepngcnjeab
open Go.RowKit
theorem insG_le (gf : Bool) (cs : List CoinD) (x : CoinD) : ∀ n, insI gf cs x n ≤ n := by
  intro n
  induction n with
  | zero => exact Nat.le_refl _
  | succ n ih => unfold insI; split <;> omega
theorem insG_len (gf : Bool) (cs : List CoinD) (x : CoinD) : (insZ gf cs x).length = cs.length + 1 := insAt_len cs x _ (insG_le gf cs x _)
theorem ordStep_len (r : Int) (acc : List CoinD) (x : CoinD) : (ordStep r acc x).length ≤ acc.length + 1 := by
  unfold ordStep
  split
  · rw [insG_len]; omega
  · omega
theorem orderZ_snoc (r : Int) (l : List CoinD) (k : Nat) (h : k < l.length) : orderZ r (l.take (k + 1)) = ordStep r (orderZ r (l.take k)) (l.getD k dN) := by
  unfold orderZ
  rw [List.take_succ_eq_append_getElem h, List.foldl_append]
  simp only [List.getD, List.getElem?_eq_getElem h, Option.getD_some]
  rfl
theorem orderZ_len (r : Int) (l : List CoinD) : (orderZ r l).length ≤ l.length := by
  have h : ∀ (l : List CoinD) (acc : List CoinD), (l.foldl (ordStep r) acc).length ≤ acc.length + l.length := by
    intro l
    induction l with
    | nil => intro acc; simp
    | cons x t ih =>
      intro acc
      have h1 := ih (ordStep r acc x)
      have h2 := ordStep_len r acc x
      simp only [List.foldl_cons, List.length_cons]
      omega
  have := h l []
  simpa [orderZ] using this
theorem orderZ_mem {r : Int} {l : List CoinD} {x : CoinD} (h : x ∈ orderZ r l) : x ∈ l := by
  rw [orderZ_filter] at h
  rcases insF_mem _ _ h with h | h
  · exact (List.mem_filter.1 h).1
  · cases h
theorem enZ_want (r want : Int) : ∀ (t : List CoinD) (i : Nat) (s : Int), (enZ r want t i s).1 ≠ 0 → want ≤ (enZ r want t i s).2 := by
  intro t
  induction t with
  | nil => intro i s h; exact absurd rfl h
  | cons c t ih =>
    intro i s h
    rw [enZ] at h ⊢
    split at h
    · rename_i hw
      rw [if_pos hw]
      exact hw
    · rename_i hw
      rw [if_neg hw]
      exact ih _ _ h
/-- the sorted list in the making, in block S -/
structure OIv (w : World) (S : Nat) (v : Value) (cs : List CoinD) (wr : World) : Prop where
  s0 : wr.cell? ⟨S, 1, none⟩ = some v
  sg : wr.cell? ⟨S, 0, none⟩ = some (.bool true)
  sf : wr.frozen? ⟨S, 1, none⟩ = false
  own : OwnRec CoinD.l 70 6 wr (S + 1) v cs
  st : ChStep S (.slice none 0 0) v w wr
theorem OIv.grown {w : World} {S : Nat} {v : Value} {cs : List CoinD} {wr ws : World} (h : OIv w S v cs wr) (hb : Below wr.heap.size wr ws) : OIv w S v cs ws :=
  ⟨(hb.cell (p := ⟨S, 1, none⟩) (cell_lt h.s0)).trans h.s0, (hb.cell (p := ⟨S, 0, none⟩) (cell_lt h.sg)).trans h.sg, (hb.frozen (p := ⟨S, 1, none⟩) (cell_lt h.s0)).trans h.sf, h.own.grown hb, h.st.trans (ChStep.of_below hb _ _)⟩
set_option maxRecDepth 100000 in
set_option maxHeartbeats 4000000 in
theorem order_any (ao : Option Addr) (n c : Nat) (l : List CoinD) (r : Int) (w : World) (hx : RecAt CoinD.l w ao l) (hn : l.length = n) (hm : n ≤ 10000) (hr : 0 ≤ r ∧ r ≤ 1000) (hv : CVals l) :
    Calls Try.prog 68 #[.slice ao n c, .int .i64 r] w fun e w' => ∃ v, e = .returned (.agg #[v, .int .i64 r]) ∧ OwnRec CoinD.l 70 6 w' w.heap.size v (orderZ r l) ∧ Below w.heap.size w w' := by
  have HN : Hid (l.length = n) := hn
  have HV : Hid (CVals l) := hv
  have HX : Hid (RecAt CoinD.l w ao l) := hx
  clear hn hv hx
  have hbA : Below w.heap.size w ((w.alloc (.cells #[.slice none 0 0, .int .i64 0] 133)).alloc (.cells #[.bool true, .slice none 0 0] 144)) := ((Below.refl _ _).alloc (Nat.le_refl _) _).alloc (by simp) _
  have r0 : ((w.alloc (.cells #[.slice none 0 0, .int .i64 0] 133)).alloc (.cells #[.bool true, .slice none 0 0] 144)).cell? ⟨w.heap.size, 0, none⟩ = some (.slice none 0 0) := by go_simp
  have r1 : ((w.alloc (.cells #[.slice none 0 0, .int .i64 0] 133)).alloc (.cells #[.bool true, .slice none 0 0] 144)).cell? ⟨w.heap.size, 1, none⟩ = some (.int .i64 0) := by go_simp
  have f0 : ∀ j, ((w.alloc (.cells #[.slice none 0 0, .int .i64 0] 133)).alloc (.cells #[.bool true, .slice none 0 0] 144)).frozen? ⟨w.heap.size, j, none⟩ = false := fun j => by
    have h1 : (w.alloc (.cells #[.slice none 0 0, .int .i64 0] 133)).frozen? ⟨w.heap.size, j, none⟩ = false := World.frozen?_alloc_at _ _ _ _ rfl
    exact (((Below.refl (w.alloc (.cells #[.slice none 0 0, .int .i64 0] 133)).heap.size (w.alloc (.cells #[.slice none 0 0, .int .i64 0] 133))).alloc (Nat.le_refl _) _).frozen (p := ⟨w.heap.size, j, none⟩) (by simp)).trans h1
  have hI0 : OIv ((w.alloc (.cells #[.slice none 0 0, .int .i64 0] 133)).alloc (.cells #[.bool true, .slice none 0 0] 144)) (w.heap.size + 1) (.slice none 0 0) [] ((w.alloc (.cells #[.slice none 0 0, .int .i64 0] 133)).alloc (.cells #[.bool true, .slice none 0 0] 144)) := by
    refine ⟨by go_simp, by go_simp, ?_, OwnRec.nil _ _ _ _ _, ChStep.refl _ _ _⟩
    have hz : (w.alloc (.cells #[.slice none 0 0, .int .i64 0] 133)).heap.size = w.heap.size + 1 := by simp
    rw [← hz]
    exact World.frozen?_alloc_at _ _ _ _ rfl
  have hzS : w.heap.size + 1 < ((w.alloc (.cells #[.slice none 0 0, .int .i64 0] 133)).alloc (.cells #[.bool true, .slice none 0 0] 144)).heap.size := by simp
  have HI0 : Hid (OIv ((w.alloc (.cells #[.slice none 0 0, .int .i64 0] 133)).alloc (.cells #[.bool true, .slice none 0 0] 144)) (w.heap.size + 1) (.slice none 0 0) [] ((w.alloc (.cells #[.slice none 0 0, .int .i64 0] 133)).alloc (.cells #[.bool true, .slice none 0 0] 144))) := hI0
  clear hI0
  have HF0 : Hid _ := f0
  clear f0
  go_enter Try.func68, Try.ntmps68
  go_upto_region 2 with fail
  generalize ((w.alloc (.cells #[.slice none 0 0, .int .i64 0] 133)).alloc (.cells #[.bool true, .slice none 0 0] 144)) = w0 at *
  have HX0 : Hid (RecAt CoinD.l w0 ao l) := HX.out.grown hbA
  have HLF : Hid (∀ w', Fr (chE (w.heap.size + 1) (.slice none 0 0)) w0 w' → RecAt CoinD.l w' ao l) := by
    intro w' hf
    refine rec_fr hf HX0.out (fun hne a ha e => ?_)
    have hlt : a.block < w.heap.size := by
      rcases HX.out with hnil | ⟨bb, off, e2, hrr⟩
      · exact absurd hnil hne
      · rw [ha] at e2
        injection e2 with e2
        rw [e2]
        refine hrr.lt (fun e3 => ?_)
        have h3 := rec_len CoinD.l 6 coin6 l
        rw [e3] at h3
        exact hne (List.length_eq_zero_iff.1 (by simp at h3; omega))
    rcases e with e | e
    · omega
    · simp [Value.ownBlock] at e
  generalize hB : w.heap.size = B at *
  have HBe : Hid (w.heap.size = B) := hB
  clear hB HX HX0
  go_wp2
  go_loopw [11] (fun i wr => ∃ (k : Nat) (v : Value), k ≤ n ∧ i = .int .i64 k ∧ OIv w0 (B + 1) v (orderZ r (l.take k)) wr) (fun i _ => n - (intOf i).toNat)
  case atStart => exact ⟨0, _, Nat.zero_le _, rfl, HI0.out⟩
  case round =>
    obtain ⟨k, v, hk, rfl, hinv⟩ := hrel
    by_cases hlt : k < n
    · rcases HLF.out wr hinv.st.fr with hnil | ⟨gc, oc, rfl, hrow⟩
      · have := HN.out; rw [hnil] at this; simp at this; omega
      obtain ⟨e0, e1, e2, e3, e4, e5⟩ := coinCells hrow k (by rw [HN.out]; exact hlt)
      have HS : Hid _ := orderZ_snoc r l k (by rw [HN.out]; exact hlt)
      have HLL : Hid ((orderZ r (l.take k)).length ≤ 10000) := by show _ ≤ _; have := orderZ_len r (l.take k); rw [List.length_take] at this; omega
      have hvk := HV.out (l.getD k dN) (getD_mem l dN k (by rw [HN.out]; exact hlt))
      clear hrow
      generalize l.getD k dN = y at *
      generalize orderZ r (l.take k) = acc at *
      obtain ⟨y0, y1, y2, y3, y4, y5⟩ := y
      simp only at e0 e1 e2 e3 e4 e5 hvk
      have hb4 : Below wr.heap.size wr (wr.alloc (.cells #[.int .i64 y0, .int .i64 y1, .int .i64 y2, .int .i64 y3, .int .i64 y4, .int .i64 y5] 70)) := (Below.refl _ _).alloc (Nat.le_refl _) _
      have HI4 : Hid (OIv w0 (B + 1) v acc (wr.alloc (.cells #[.int .i64 y0, .int .i64 y1, .int .i64 y2, .int .i64 y3, .int .i64 y4, .int .i64 y5] 70))) := hinv.grown hb4
      obtain ⟨x0, x1, x2, x3, x4, x5⟩ := xrow (vrow_new wr [.int .i64 y0, .int .i64 y1, .int .i64 y2, .int .i64 y3, .int .i64 y4, .int .i64 y5] 70)
      go_upto_region 5 with fail
      generalize wr.alloc (.cells #[.int .i64 y0, .int .i64 y1, .int .i64 y2, .int .i64 y3, .int .i64 y4, .int .i64 y5] 70) = w4 at *
      generalize wr.heap.size = X at *
      clear e0 e1 e2 e3 e4 e5 hb4 hinv
      have HXK : Hid (w4.cell? ⟨X, 0, none⟩ = some (.int .i64 y0) ∧ w4.cell? ⟨X, 1, none⟩ = some (.int .i64 y1) ∧ w4.cell? ⟨X, 2, none⟩ = some (.int .i64 y2) ∧ w4.cell? ⟨X, 3, none⟩ = some (.int .i64 y3) ∧ w4.cell? ⟨X, 4, none⟩ = some (.int .i64 y4) ∧ w4.cell? ⟨X, 5, none⟩ = some (.int .i64 y5)) := ⟨x0, x1, x2, x3, x4, x5⟩
      go_wp2_with fail
      refine (worth_any ⟨y0, y1, y2, y3, y4, y5⟩ r _ hr hvk).mono ?_
      rintro e w5 ⟨rfl, hb5⟩
      have HI5 : Hid (OIv w0 (B + 1) v acc w5) := HI4.out.grown hb5
      obtain ⟨z0, z1, z2, z3, z4, z5⟩ := keep6 hb5 HXK.out
      clear x0 x1 x2 x3 x4 x5 HXK HI4 hb5
      have hS2 : orderZ r (l.take (k + 1)) = if 1 ≤ worthZ r ⟨y0, y1, y2, y3, y4, y5⟩ then insZ true acc ⟨y0, y1, y2, y3, y4, y5⟩ else acc := HS.out
      have HS2 : Hid (orderZ r (l.take (k + 1)) = if 1 ≤ worthZ r ⟨y0, y1, y2, y3, y4, y5⟩ then insZ true acc ⟨y0, y1, y2, y3, y4, y5⟩ else acc) := hS2
      clear hS2 HS
      generalize worthZ r ⟨y0, y1, y2, y3, y4, y5⟩ = W at *
      by_cases hW : 1 ≤ W
      · rw [if_pos hW] at HS2
        go_wp2_with fail
        refine (put_any true (B + 1) v acc ⟨y0, y1, y2, y3, y4, y5⟩ _ HI5.out.s0 HI5.out.sg HI5.out.sf HI5.out.own HLL.out).mono ?_
        rintro e w7 ⟨rfl, v', p1, pg, p2, p3, p4⟩
        have HI7 : Hid (OIv w0 (B + 1) v' (orderZ r (l.take (k + 1))) w7) := by rw [HS2.out]; exact ⟨p1, pg, p2, p3, HI5.out.st.trans p4⟩
        clear p1 pg p2 p3 p4 HI5 z0 z1 z2 z3 z4 z5
        go_wp2
        go_roundw
        case rel => exact ⟨k + 1, v', by omega, by go_num, HI7.out⟩
        case measure => simp [intOf]; omega
      · rw [if_neg hW] at HS2
        go_wp2
        go_roundw
        case rel => exact ⟨k + 1, v, by omega, by go_num, by rw [HS2.out]; exact HI5.out⟩
        case measure => simp [intOf]; omega
    · have HE : Hid (orderZ r (l.take k) = orderZ r l) := by show _ = _; rw [List.take_of_length_le (by rw [HN.out]; omega)]
      rw [HE.out] at hinv
      have s0 := hinv.s0
      have hnR : ¬ chE (B + 1) (.slice none 0 0) B := fun e => by
        rcases e with e | e
        · omega
        · simp [Value.ownBlock] at e
      have q0 := hinv.st.fr.cell r0 hnR
      have q1 := hinv.st.fr.cell r1 hnR
      have hBl : B < w0.heap.size := by omega
      have g0 := (hinv.st.fr.frozen (o := 0) hBl hnR).trans (HF0.out 0)
      have g1 := (hinv.st.fr.frozen (o := 1) hBl hnR).trans (HF0.out 1)
      have HOW : Hid (OwnRec CoinD.l 70 6 wr (B + 1 + 1) v (orderZ r l)) := hinv.own
      have HBW : Hid (Below B w wr) := hbA.trans (hinv.st.fr.toBelow B (by omega) (fun q hq => by
        rcases hq with e | e
        · omega
        · simp [Value.ownBlock] at e))
      clear hinv r0 r1
      obtain ⟨av, cv, ev, _⟩ := OwnRec.at coin6 HOW.out
      subst ev
      generalize (orderZ r l).length = ol at *
      go_wp2
      have k0 : ((wr.setCell ⟨B, 0, none⟩ (.slice av ol cv)).setCell ⟨B, 1, none⟩ (.int .i64 r)).cell? ⟨B, 0, none⟩ = some (.slice av ol cv) := so (ss q0) (by decide)
      have k1 : ((wr.setCell ⟨B, 0, none⟩ (.slice av ol cv)).setCell ⟨B, 1, none⟩ (.int .i64 r)).cell? ⟨B, 1, none⟩ = some (.int .i64 r) := ss (so q1 (by decide))
      refine bodyPost_ret (v := .agg #[.slice av ol cv, .int .i64 r]) ?_ rfl ⟨_, rfl, ?_, ?_⟩
      · simp [results, Try.results68, go_sem, k0, k1]
      · rw [HBe.out]
        exact owns_lower (ownsRow_setCell_below (ownsRow_setCell_below HOW.out (a := ⟨B, 0, none⟩) (by show B < B + 1 + 1; omega) _) (a := ⟨B, 1, none⟩) (by show B < B + 1 + 1; omega) _) (by omega)
      · rw [HBe.out]
        exact (HBW.out.setCell (p := ⟨B, 0, none⟩) (Nat.le_refl _) _).setCell (p := ⟨B, 1, none⟩) (Nat.le_refl _) _
end Go.Proofs.Ytffgpepngcnjeab
