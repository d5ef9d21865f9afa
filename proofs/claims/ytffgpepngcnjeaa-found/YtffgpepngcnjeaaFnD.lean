/-
  Found: the scene in memory.
-/
import Derived.Test.YtffgpepngcnjeaaChH
import Derived.Test.YtffgpepngcnjeaaFnB
namespace Go.Proofs.Ytffgpepngcnjeaa
open Go.RowKit

theorem dep_conn (h : Nat) (xs : List Cel) (t ta val : Int) (hh : h < 40) (ht : 0 ≤ t ∧ t ≤ 1099511627776) (h1 : Mk.isM ta = true) (h2 : 10 ≤ val ∧ val ≤ 1099511627776) (hn : depId t ta val ∉ xs.map Cel.id) (x : TxD) (hx1 : x.t = t) (hx2 : x.ins = []) (hx3 : x.ys = [(ta, val)]) :
    connZ h xs [x] = (0, 0, (h : Int) + 1, xs ++ [⟨depId t ta val, 0, ta, val, h, -1⟩]) := by
  have hr := dep_right t ta val ht h1 h2
  have hid : hasId xs (idZ t [] [(ta, val)]) = false := by
    unfold hasId
    rw [List.any_eq_false]
    intro y hy e
    refine hn (List.mem_map.2 ⟨y, hy, ?_⟩)
    simpa [depId] using e
  have ha : addZ xs h t [] [(ta, val)] true = (0, xs ++ [⟨depId t ta val, 0, ta, val, h, -1⟩]) := by
    have e := addZ_ok (xs := xs) (h := (h : Int)) (t := t) (ins := []) (ys := [(ta, val)]) (first := true) (ss := []) (by rw [hr]; simp) hid rfl rfl (by simp)
    rw [e]
    rfl
  have hg : connGo h xs [x] 0 = (0, 0, xs ++ [⟨depId t ta val, 0, ta, val, h, -1⟩]) := by
    rw [connGo, hx1, hx2, hx3]
    have e : (0 : Nat) == 0 := rfl
    rw [show ((0 : Nat) == 0) = true from rfl, ha]
    rfl
  unfold connZ
  rw [if_neg (by omega), if_neg (by simp), hg, if_neg (by simp)]

theorem dep_back (ys : List Cel) (x : Cel) (h : Int) (hx : x.made = h) (hy : ∀ y ∈ ys, y.made ≠ h ∧ y.spent ≠ h) : tbZ h (ys ++ [x]) = ys := by
  have hl : leftI h (ys ++ [x]) (ys ++ [x]).length = ys.length := by
    rw [List.length_append, List.length_singleton, leftI_succ]
    rw [if_pos (by simp [List.getD, hx])]
    have : ∀ k, k ≤ ys.length → leftI h (ys ++ [x]) k = k := by
      intro k hk
      cases k with
      | zero => rfl
      | succ k =>
        rw [leftI_succ, if_neg]
        have e : (ys ++ [x]).getD k dC = ys.getD k dC := by
          simp only [List.getD]
          rw [List.getElem?_append_left (by omega)]
        rw [e]
        exact (hy _ (getD_mem ys dC k (by omega))).1
    exact this _ (Nat.le_refl _)
  unfold tbZ
  rw [hl, List.take_left']
  · refine (List.map_congr_left (g := id) (fun y hy2 => ?_)).trans (List.map_id _)
    unfold unsp
    rw [if_neg (hy y hy2).2]
    rfl
  · rfl

/-- the blocks of a scene -/
def scE (P S : Nat) (v vi vc : Value) (k : Nat) : Prop := chE P v k ∨ k = S ∨ vi.ownBlock = some k ∨ vc.ownBlock = some k

/-- a scene in block S: its purse in block P -/
structure Sc (S P : Nat) (s : Int) (g h : Nat) (v vi vc : Value) (xs : List Cel) (ids : List Int) (cs : List CoinD) (w : World) : Prop where
  pat : PAt w P s g v h xs
  c0 : w.cell? ⟨S, 0, none⟩ = some (.pointer (some ⟨P, 0, none⟩))
  c1 : w.cell? ⟨S, 1, none⟩ = some (.int .i64 s)
  c2 : w.cell? ⟨S, 2, none⟩ = some (.int .i64 (g : Int))
  c3 : w.cell? ⟨S, 3, none⟩ = some vi
  c4 : w.cell? ⟨S, 4, none⟩ = some vc
  f3 : w.frozen? ⟨S, 3, none⟩ = false
  f4 : w.frozen? ⟨S, 4, none⟩ = false
  oi : OwnRec iV 3 1 w (S + 1) vi ids
  oc : OwnRec CoinD.l 143 6 w (S + 1) vc cs
  lt : P < S
  d1 : ∀ k, chE P v k → k ≠ S ∧ vi.ownBlock ≠ some k ∧ vc.ownBlock ≠ some k
  d2 : ∀ k, vi.ownBlock = some k → vc.ownBlock ≠ some k

variable {S P : Nat} {s : Int} {g h : Nat} {v vi vc : Value} {xs : List Cel} {ids : List Int} {cs : List CoinD} {w : World}

theorem Sc.big (u : Sc S P s g h v vi vc xs ids cs w) : S < w.heap.size ∧ P < w.heap.size := ⟨cell_lt u.c0, cell_lt u.pat.c0⟩
theorem Sc.blk (u : Sc S P s g h v vi vc xs ids cs w) : ∀ k, scE P S v vi vc k → P ≤ k ∧ k < w.heap.size := by
  intro k hk
  have hS := u.big
  have hl := u.lt
  rcases hk with e | e | e | e
  · exact u.pat.blk k e
  · omega
  · have := u.oi.blk k e; omega
  · have := u.oc.blk k e; omega
theorem Sc.fr {E : Nat → Prop} {w' : World} (u : Sc S P s g h v vi vc xs ids cs w) (hf : Fr E w w') (hE : ∀ k, scE P S v vi vc k → ¬ E k) : Sc S P s g h v vi vc xs ids cs w' := by
  have hS : ¬ E S := hE S (Or.inr (Or.inl rfl))
  have hl := u.big.1
  exact ⟨u.pat.fr hf (fun k hk => hE k (Or.inl hk)), hf.cell u.c0 hS, hf.cell u.c1 hS, hf.cell u.c2 hS, hf.cell u.c3 hS, hf.cell u.c4 hS, (hf.frozen hl hS).trans u.f3, (hf.frozen hl hS).trans u.f4, hf.own u.oi (fun k hk => hE k (Or.inr (Or.inr (Or.inl hk)))), hf.own u.oc (fun k hk => hE k (Or.inr (Or.inr (Or.inr hk)))), u.lt, u.d1, u.d2⟩
theorem Sc.grown {w' : World} (u : Sc S P s g h v vi vc xs ids cs w) (hb : Below w.heap.size w w') : Sc S P s g h v vi vc xs ids cs w' := u.fr (Fr.of_below hb (fun _ => False)) (fun _ _ h => h)

/-- one step of a scene -/
structure ScStep (P S : Nat) (v vi vc v' vi' vc' : Value) (w w' : World) : Prop where
  fr : Fr (scE P S v vi vc) w w'
  own : ∀ k, scE P S v' vi' vc' k → scE P S v vi vc k ∨ w.heap.size ≤ k
theorem ScStep.of_below {w' : World} (h : Below w.heap.size w w') : ScStep P S v vi vc v vi vc w w' := ⟨Fr.of_below h _, fun _ hk => Or.inl hk⟩
theorem ScStep.trans {v1 vi1 vc1 v2 vi2 vc2 : Value} {w1 w2 : World} (h : ScStep P S v vi vc v1 vi1 vc1 w w1) (k : ScStep P S v1 vi1 vc1 v2 vi2 vc2 w1 w2) : ScStep P S v vi vc v2 vi2 vc2 w w2 := by
  refine ⟨⟨k.fr.os.trans h.fr.os, k.fr.tape.trans h.fr.tape, k.fr.output.trans h.fr.output, Nat.le_trans h.fr.size k.fr.size, fun i hi he => ?_⟩, fun i hi => ?_⟩
  · refine (k.fr.block i (Nat.lt_of_lt_of_le hi h.fr.size) (fun e => ?_)).trans (h.fr.block i hi he)
    rcases h.own i e with e' | e'
    · exact he e'
    · omega
  · rcases k.own i hi with e | e
    · exact h.own i e
    · exact Or.inr (Nat.le_trans h.fr.size e)

/-- the chain moves -/
theorem Sc.chain (u : Sc S P s g h v vi vc xs ids cs w) {w' : World} {v' : Value} {h' : Nat} {xs' : List Cel} (hp : PAt w' P s g v' h' xs') (hst : ChStep P v v' w w') : Sc S P s g h' v' vi vc xs' ids cs w' ∧ ScStep P S v vi vc v' vi vc w w' := by
  have hf := hst.fr
  have hSE : ¬ chE P v S := fun e => (u.d1 S e).1 rfl
  have hl := u.big.1
  have hnew : ∀ k, chE P v' k → chE P v k ∨ w.heap.size ≤ k := fun k hk => by
    rcases hk with e | e
    · exact Or.inl (Or.inl e)
    · rcases hst.own k e with e' | e'
      · exact Or.inl (Or.inr e')
      · exact Or.inr e'
  refine ⟨⟨hp, hf.cell u.c0 hSE, hf.cell u.c1 hSE, hf.cell u.c2 hSE, hf.cell u.c3 hSE, hf.cell u.c4 hSE, (hf.frozen hl hSE).trans u.f3, (hf.frozen hl hSE).trans u.f4, hf.own u.oi (fun k hk e => (u.d1 k e).2.1 hk), hf.own u.oc (fun k hk e => (u.d1 k e).2.2 hk), u.lt, fun k hk => ?_, u.d2⟩, hf.weak (fun k _ e => Or.inl e), fun k hk => ?_⟩
  · rcases hnew k hk with e | e
    · exact u.d1 k e
    · exact ⟨fun e' => by omega, fun e' => by have := (u.oi.blk k e').2; omega, fun e' => by have := (u.oc.blk k e').2; omega⟩
  · rcases hk with e | e
    · exact (hnew k e).imp (fun e => Or.inl e) id
    · exact Or.inl (Or.inr e)

/-- an id more -/
theorem Sc.pushI (u : Sc S P s g h v vi vc xs ids cs w) {w1 : World} {gb cap : Nat} {x : Int} (hown : OwnRec iV 3 1 w1 (S + 1) (.slice (some ⟨gb, 0, none⟩) (ids.length + 1) cap) (ids ++ [x])) (hg : w.grownBy w1 vi.ownBlock) (hl : vi.ownBlock = some gb ∨ w.heap.size ≤ gb) :
    Sc S P s g h v (.slice (some ⟨gb, 0, none⟩) (ids.length + 1) cap) vc xs (ids ++ [x]) cs (w1.setCell ⟨S, 3, none⟩ (.slice (some ⟨gb, 0, none⟩) (ids.length + 1) cap)) ∧ ScStep P S v vi vc v (.slice (some ⟨gb, 0, none⟩) (ids.length + 1) cap) vc w (w1.setCell ⟨S, 3, none⟩ (.slice (some ⟨gb, 0, none⟩) (ids.length + 1) cap)) := by
  have hS := u.big.1
  have hvS : some S ≠ vi.ownBlock := fun e => by have := (u.oi.blk S e.symm).1; omega
  have hgb := (hown.blk gb rfl).1
  have hf : Fr (fun k => k = S ∨ vi.ownBlock = some k) w (w1.setCell ⟨S, 3, none⟩ (.slice (some ⟨gb, 0, none⟩) (ids.length + 1) cap)) := (Fr.of_gb hg (fun k hk _ => Or.inr hk)).set S 3 _ (fun _ => Or.inl rfl)
  have hpE : ∀ k, chE P v k → ¬ (k = S ∨ vi.ownBlock = some k) := fun k hk e => e.elim (u.d1 k hk).1 (u.d1 k hk).2.1
  refine ⟨⟨u.pat.fr hf hpE, so (gb_cell hg u.c0 hvS) (by decide), so (gb_cell hg u.c1 hvS) (by decide), so (gb_cell hg u.c2 hvS) (by decide), World.cell?_setCell_same _ _ _ (gb_cell hg u.c3 hvS), so (gb_cell hg u.c4 hvS) (by decide), by rw [World.frozen?_setCell]; exact (gb_frozen hg hS hvS).trans u.f3, by rw [World.frozen?_setCell]; exact (gb_frozen hg hS hvS).trans u.f4, hown.gb (gb_set w1 S 3 _) (fun k hk e => by simp [Value.ownBlock] at hk; injection e with e; omega), hf.own u.oc (fun k hk e => ?_), u.lt, fun k hk => ⟨(u.d1 k hk).1, fun e => ?_, (u.d1 k hk).2.2⟩, fun k hk e => ?_⟩, hf.weak (fun k _ e => Or.inr (e.imp id (fun h => Or.inl h))), fun k hk => ?_⟩
  · rcases e with e | e
    · have := (u.oc.blk k hk).1; omega
    · exact u.d2 k e hk
  · simp [Value.ownBlock] at e
    subst e
    rcases hl with h | h
    · exact (u.d1 _ hk).2.1 h
    · have := (u.pat.blk _ hk).2; omega
  · simp [Value.ownBlock] at hk
    subst hk
    rcases hl with h | h
    · exact u.d2 _ h e
    · have := (u.oc.blk _ e).2; omega
  · rcases hk with e | e | e | e
    · exact Or.inl (Or.inl e)
    · exact Or.inl (Or.inr (Or.inl e))
    · simp [Value.ownBlock] at e
      subst e
      exact hl.imp (fun h => Or.inr (Or.inr (Or.inl h))) id
    · exact Or.inl (Or.inr (Or.inr (Or.inr e)))

/-- a coin more -/
theorem Sc.pushC (u : Sc S P s g h v vi vc xs ids cs w) {w1 : World} {gb cap : Nat} {x : CoinD} (hown : OwnRec CoinD.l 143 6 w1 (S + 1) (.slice (some ⟨gb, 0, none⟩) (cs.length + 1) cap) (cs ++ [x])) (hg : w.grownBy w1 vc.ownBlock) (hl : vc.ownBlock = some gb ∨ w.heap.size ≤ gb) :
    Sc S P s g h v vi (.slice (some ⟨gb, 0, none⟩) (cs.length + 1) cap) xs ids (cs ++ [x]) (w1.setCell ⟨S, 4, none⟩ (.slice (some ⟨gb, 0, none⟩) (cs.length + 1) cap)) ∧ ScStep P S v vi vc v vi (.slice (some ⟨gb, 0, none⟩) (cs.length + 1) cap) w (w1.setCell ⟨S, 4, none⟩ (.slice (some ⟨gb, 0, none⟩) (cs.length + 1) cap)) := by
  have hS := u.big.1
  have hvS : some S ≠ vc.ownBlock := fun e => by have := (u.oc.blk S e.symm).1; omega
  have hgb := (hown.blk gb rfl).1
  have hf : Fr (fun k => k = S ∨ vc.ownBlock = some k) w (w1.setCell ⟨S, 4, none⟩ (.slice (some ⟨gb, 0, none⟩) (cs.length + 1) cap)) := (Fr.of_gb hg (fun k hk _ => Or.inr hk)).set S 4 _ (fun _ => Or.inl rfl)
  have hpE : ∀ k, chE P v k → ¬ (k = S ∨ vc.ownBlock = some k) := fun k hk e => e.elim (u.d1 k hk).1 (u.d1 k hk).2.2
  refine ⟨⟨u.pat.fr hf hpE, so (gb_cell hg u.c0 hvS) (by decide), so (gb_cell hg u.c1 hvS) (by decide), so (gb_cell hg u.c2 hvS) (by decide), so (gb_cell hg u.c3 hvS) (by decide), World.cell?_setCell_same _ _ _ (gb_cell hg u.c4 hvS), by rw [World.frozen?_setCell]; exact (gb_frozen hg hS hvS).trans u.f3, by rw [World.frozen?_setCell]; exact (gb_frozen hg hS hvS).trans u.f4, hf.own u.oi (fun k hk e => ?_), hown.gb (gb_set w1 S 4 _) (fun k hk e => by simp [Value.ownBlock] at hk; injection e with e; omega), u.lt, fun k hk => ⟨(u.d1 k hk).1, (u.d1 k hk).2.1, fun e => ?_⟩, fun k hk e => ?_⟩, hf.weak (fun k _ e => Or.inr (e.imp id (fun h => Or.inr h))), fun k hk => ?_⟩
  · rcases e with e | e
    · have := (u.oi.blk k hk).1; omega
    · exact u.d2 k hk e
  · simp [Value.ownBlock] at e
    subst e
    rcases hl with h | h
    · exact (u.d1 _ hk).2.2 h
    · have := (u.pat.blk _ hk).2; omega
  · simp [Value.ownBlock] at e
    subst e
    rcases hl with h | h
    · exact u.d2 _ hk h
    · have := (u.oi.blk _ hk).2; omega
  · rcases hk with e | e | e | e
    · exact Or.inl (Or.inl e)
    · exact Or.inl (Or.inr (Or.inl e))
    · exact Or.inl (Or.inr (Or.inr (Or.inl e)))
    · simp [Value.ownBlock] at e
      subst e
      exact hl.imp (fun h => Or.inr (Or.inr (Or.inr h))) id

end Go.Proofs.Ytffgpepngcnjeaa
