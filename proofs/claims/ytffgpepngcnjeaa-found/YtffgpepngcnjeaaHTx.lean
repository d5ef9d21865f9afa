/-
  A transaction that is handed in, in lists of its own.
-/
import Derived.Test.YtffgpepngcnjeaaCopy
namespace Go.Proofs.Ytffgpepngcnjeaa
open Go.RowKit

theorem info48 : (Try.prog.info? 48).map (fun i => (i.zero, i.size, i.bytes)) = some (some (.agg #[.int .i64 0, .int .i64 0, .slice none 0 0]), 3, 40) := by kernel_rfl

theorem made3_at (n j : Nat) (h : j < n) : ∃ v, (madeCells #[Value.int .i64 0, Value.int .i64 0, .slice none 0 0] n)[j]? = some v := by
  rw [Array.getElem?_eq_getElem (by rw [size_madeCells]; exact h)]
  exact ⟨_, rfl⟩

theorem make_ins (n : Nat) (hn : n ≤ 3518437208883) : ∀ u : World, (Instr.makeSlice 22 (.int .i64 ((n : Int) + 1)) (.int .i64 ((n : Int) + 1))).run Try.prog u =
    .ok (.slice (some ⟨u.heap.size, 0, none⟩) (n + 1) (n + 1)) (u.alloc (.cells (madeCells #[.int .i64 0, .int .i64 0, .slice none 0 0] ((n + 1) * 3)) 48)) := fun u => by
  obtain ⟨i0, hi, hz0, hz1, hz2⟩ := info_parts info48
  have h := run_make (P := Try.prog) u 22 48 i0 (.agg #[.int .i64 0, .int .i64 0, .slice none 0 0]) Try.underlying22 hi hz0 .i64 .i64 ((n : Int) + 1) ((n : Int) + 1) (by omega) (Int.le_refl _) (by rw [hz2]; omega) (by omega)
  have e : ((n : Int) + 1).toNat = n + 1 := by omega
  rw [e] at h
  simpa [hz1, Value.cells] using h

/-- the input x as it is handed in: its seal in a list of its own -/
def hIn (x : InD) (b : Nat) : InD := ⟨x.id, x.pos, some ⟨b, 0, none⟩, x.n, x.n + 1, x.l⟩

structure HIns (w : World) (BI : Nat) (xs : List InD) (k : Nat) (bs : List Nat) : Prop where
  len : bs.length = k
  done : ∀ j, j < k → InCells w BI (j * 3) (hIn (xs.getD j dIn) (bs.getD j 0)) ∧ Row w (bs.getD j 0) 0 ((xs.getD j dIn).l ++ [-5]) ∧ BI < bs.getD j 0

structure Room (w : World) (BI N : Nat) : Prop where
  here : ∀ j, j < N → ∃ v, w.cell? ⟨BI, j, none⟩ = some v
  free : ∀ j, j < N → w.frozen? ⟨BI, j, none⟩ = false

theorem Room.below {w w' : World} {BI N B : Nat} (h : Room w BI N) (hb : Below B w w') (hB : BI < B) : Room w' BI N :=
  ⟨fun j hj => by obtain ⟨v, hv⟩ := h.here j hj; exact ⟨v, cell_move hb hv hB⟩, fun j hj => (hb.frozen (p := ⟨BI, j, none⟩) hB).trans (h.free j hj)⟩
theorem Room.set {w : World} {BI N : Nat} (h : Room w BI N) (a : Addr) (v : Value) : Room (w.setCell a v) BI N := by
  refine ⟨fun j hj => ?_, fun j hj => by rw [World.frozen?_setCell]; exact h.free j hj⟩
  obtain ⟨u, hu⟩ := h.here j hj
  by_cases e : a = ⟨BI, j, none⟩
  · subst e
    exact ⟨v, World.cell?_setCell_same _ _ _ hu⟩
  · exact ⟨u, by rw [World.cell?_setCell_other _ _ _ _ e]; exact hu⟩
theorem Room.drew {w : World} {BI N : Nat} (h : Room w BI N) : Room w.drew BI N := ⟨h.here, h.free⟩

/-- three cells written -/
def put3 (w : World) (b o : Nat) (x y z : Value) : World := ((w.setCell ⟨b, o, none⟩ x).setCell ⟨b, o + 1, none⟩ y).setCell ⟨b, o + 2, none⟩ z

theorem put3_cells {w : World} {b o : Nat} {x y z : Value} (h0 : ∃ v, w.cell? ⟨b, o, none⟩ = some v) (h1 : ∃ v, w.cell? ⟨b, o + 1, none⟩ = some v) (h2 : ∃ v, w.cell? ⟨b, o + 2, none⟩ = some v) :
    (put3 w b o x y z).cell? ⟨b, o, none⟩ = some x ∧ (put3 w b o x y z).cell? ⟨b, o + 1, none⟩ = some y ∧ (put3 w b o x y z).cell? ⟨b, o + 2, none⟩ = some z := by
  obtain ⟨v0, h0⟩ := h0
  obtain ⟨v1, h1⟩ := h1
  obtain ⟨v2, h2⟩ := h2
  have ne : ∀ i j : Nat, i ≠ j → (⟨b, o + i, none⟩ : Addr) ≠ ⟨b, o + j, none⟩ := fun i j h e => h (by have := congrArg Addr.off e; simp only at this; omega)
  have n01 := ne 0 1 (by decide)
  have n02 := ne 0 2 (by decide)
  have n12 := ne 1 2 (by decide)
  simp only [Nat.add_zero] at n01 n02
  unfold put3
  refine ⟨?_, ?_, ?_⟩
  · rw [World.cell?_setCell_other _ _ _ _ n02.symm, World.cell?_setCell_other _ _ _ _ n01.symm, World.cell?_setCell_same _ _ _ h0]
  · rw [World.cell?_setCell_other _ _ _ _ n12.symm]
    refine World.cell?_setCell_same _ _ _ (u := v1) ?_
    rw [World.cell?_setCell_other _ _ _ _ n01]
    exact h1
  · refine World.cell?_setCell_same _ _ _ (u := v2) ?_
    rw [World.cell?_setCell_other _ _ _ _ n12, World.cell?_setCell_other _ _ _ _ n02]
    exact h2
theorem put3_other {w : World} {b o : Nat} {x y z : Value} {a : Addr} (h : a.block ≠ b ∨ (a.off < o ∨ o + 3 ≤ a.off)) : (put3 w b o x y z).cell? a = w.cell? a := by
  have ne : ∀ i : Nat, i < 3 → (⟨b, o + i, none⟩ : Addr) ≠ a := by
    intro i hi e
    subst e
    simp only at h
    omega
  have n0 := ne 0 (by decide)
  simp only [Nat.add_zero] at n0
  unfold put3
  rw [World.cell?_setCell_other _ _ _ _ (ne 2 (by decide)), World.cell?_setCell_other _ _ _ _ (ne 1 (by decide)), World.cell?_setCell_other _ _ _ _ n0]
theorem put3_below {w W : World} {b o B : Nat} {x y z : Value} (h : Below B W w) (hb : B ≤ b) : Below B W (put3 w b o x y z) := ((h.setCell hb _).setCell hb _).setCell hb _
theorem put3_room {w : World} {BI N b o : Nat} {x y z : Value} (h : Room w BI N) : Room (put3 w b o x y z) BI N := ((h.set _ _).set _ _).set _ _

theorem HIns.below {w w' : World} {BI k : Nat} {xs : List InD} {bs : List Nat} (h : HIns w BI xs k bs) (hb : Below w.heap.size w w') : HIns w' BI xs k bs := by
  refine ⟨h.len, fun j hj => ?_⟩
  obtain ⟨h1, h2, h3⟩ := h.done j hj
  exact ⟨h1.below hb (cell_lt h1.c0), h2.grown hb, h3⟩
theorem HIns.step {w : World} {BI k n b : Nat} {xs : List InD} {bs : List Nat} (h : HIns w BI xs k bs) (hroom : Room w BI ((n + 1) * 3)) (hk : k < n) (hb : BI < b) (hr : Row w b 0 ((xs.getD k dIn).l ++ [-5])) :
    HIns (put3 w BI (k * 3) (.int .i64 (xs.getD k dIn).id) (.int .i64 (xs.getD k dIn).pos) (.slice (some ⟨b, 0, none⟩) (xs.getD k dIn).n ((xs.getD k dIn).n + 1))) BI xs (k + 1) (bs ++ [b]) := by
  refine ⟨by simp [h.len], fun j hj => ?_⟩
  by_cases e : j = k
  · subst e
    have eb : (bs ++ [b]).getD j 0 = b := by rw [← h.len]; simp [List.getD]
    rw [eb]
    obtain ⟨q0, q1, q2⟩ := put3_cells (x := .int .i64 (xs.getD j dIn).id) (y := .int .i64 (xs.getD j dIn).pos) (z := .slice (some ⟨b, 0, none⟩) (xs.getD j dIn).n ((xs.getD j dIn).n + 1)) (hroom.here (j * 3) (by omega)) (hroom.here (j * 3 + 1) (by omega)) (hroom.here (j * 3 + 2) (by omega))
    exact ⟨⟨q0, q1, q2⟩, fun i hi => (put3_other (Or.inl (by simp only; omega))).trans (hr i hi), hb⟩
  · have hj' : j < k := by omega
    have eb : (bs ++ [b]).getD j 0 = bs.getD j 0 := by simp only [List.getD]; rw [List.getElem?_append_left (by rw [h.len]; exact hj')]
    rw [eb]
    obtain ⟨h1, h2, h3⟩ := h.done j hj'
    refine ⟨⟨(put3_other (Or.inr (by simp only; omega))).trans h1.c0, (put3_other (Or.inr (by simp only; omega))).trans h1.c1, (put3_other (Or.inr (by simp only; omega))).trans h1.c2⟩, fun i hi => (put3_other (Or.inl (by simp only; omega))).trans (h2 i hi), h3⟩
theorem HIns.end {w : World} {BI k n : Nat} {xs : List InD} {bs : List Nat} {x y z : Value} (h : HIns w BI xs k bs) (hk : k = n) : HIns (put3 w BI (n * 3) x y z) BI xs k bs := by
  refine ⟨h.len, fun j hj => ?_⟩
  obtain ⟨h1, h2, h3⟩ := h.done j hj
  exact ⟨⟨(put3_other (Or.inr (by simp only; omega))).trans h1.c0, (put3_other (Or.inr (by simp only; omega))).trans h1.c1, (put3_other (Or.inr (by simp only; omega))).trans h1.c2⟩, fun i hi => (put3_other (Or.inl (by simp only; omega))).trans (h2 i hi), h3⟩

theorem HIns.drew {w : World} {BI k : Nat} {xs : List InD} {bs : List Nat} (h : HIns w BI xs k bs) : HIns w.drew BI xs k bs :=
  ⟨h.len, fun j hj => ⟨⟨(h.done j hj).1.c0, (h.done j hj).1.c1, (h.done j hj).1.c2⟩, (h.done j hj).2.1, (h.done j hj).2.2⟩⟩

/-- what handedTx leaves: the inputs in the block BI, the outputs in BO -/
structure HTx (w : World) (BI BO : Nat) (xs : List InD) (ys : List (Int × Int)) : Prop where
  ins : ∃ bs, HIns w BI xs xs.length bs
  last : w.cell? ⟨BI, xs.length * 3, none⟩ = some (.int .i64 (-5)) ∧ w.cell? ⟨BI, xs.length * 3 + 1, none⟩ = some (.int .i64 (-5)) ∧ w.cell? ⟨BI, xs.length * 3 + 2, none⟩ = some (.slice none 0 0)
  outs : OutsRow w BO 0 (ys ++ [(-5, -5)])

theorem HTx.drew {w : World} {BI BO : Nat} {xs : List InD} {ys : List (Int × Int)} (h : HTx w BI BO xs ys) : HTx w.drew BI BO xs ys := by
  obtain ⟨⟨bs, h1⟩, h2, h3⟩ := h
  exact ⟨⟨bs, h1.drew⟩, h2, h3⟩
theorem HTx.grown {w w' : World} {BI BO : Nat} {xs : List InD} {ys : List (Int × Int)} (h : HTx w BI BO xs ys) (hb : Below w.heap.size w w') : HTx w' BI BO xs ys := by
  obtain ⟨⟨bs, h1⟩, ⟨l0, l1, l2⟩, h3⟩ := h
  exact ⟨⟨bs, h1.below hb⟩, ⟨cell_move hb l0 (cell_lt l0), cell_move hb l1 (cell_lt l1), cell_move hb l2 (cell_lt l2)⟩, h3.grown hb⟩
/-- a struct of three cells, in the block ahead of the inputs', written -/
theorem HTx.put {w : World} {X BO : Nat} {xs : List InD} {ys : List (Int × Int)} {x y z : Value} (h : HTx w (X + 1 + 1) BO xs ys) (hBO : X + 1 + 1 < BO) : HTx (put3 w (X + 1) 0 x y z) (X + 1 + 1) BO xs ys := by
  obtain ⟨⟨bs, h1⟩, ⟨l0, l1, l2⟩, h3⟩ := h
  refine ⟨⟨bs, h1.len, fun j hj => ?_⟩, ⟨(put3_other (Or.inl (by simp only; omega))).trans l0, (put3_other (Or.inl (by simp only; omega))).trans l1, (put3_other (Or.inl (by simp only; omega))).trans l2⟩, fun j hj => ?_⟩
  · obtain ⟨a, b, c⟩ := h1.done j hj
    exact ⟨⟨(put3_other (Or.inl (by simp only; omega))).trans a.c0, (put3_other (Or.inl (by simp only; omega))).trans a.c1, (put3_other (Or.inl (by simp only; omega))).trans a.c2⟩, fun i hi => (put3_other (Or.inl (by simp only; omega))).trans (b i hi), c⟩
  · exact ⟨(put3_other (Or.inl (by simp only; omega))).trans (h3 j hj).1, (put3_other (Or.inl (by simp only; omega))).trans (h3 j hj).2⟩

theorem room_new (W : World) (n : Nat) : Room (W.alloc (.cells (madeCells #[.int .i64 0, .int .i64 0, .slice none 0 0] ((n + 1) * 3)) 48)) W.heap.size ((n + 1) * 3) := by
  refine ⟨fun j hj => ?_, fun j _ => World.frozen?_alloc_at _ _ _ _ rfl⟩
  obtain ⟨v, hv⟩ := made3_at ((n + 1) * 3) j hj
  exact ⟨v, by rw [World.cell?_alloc_new]; exact hv⟩

theorem htx_start (w : World) (t : Int) (ai ap : Option Addr) (n c m d : Nat) :
    ∃ W2, Hid (W2 = (w.alloc (.cells #[.int .i64 t, .slice ai n c, .slice ap m d] 25)).alloc (.cells #[.int .i64 0, .slice none 0 0, .slice none 0 0] 25)) ∧ W2.heap.size = w.heap.size + 1 + 1 ∧ Below w.heap.size w W2 ∧
      (∀ wr, Below (w.heap.size + 1 + 1) W2 wr → wr.cell? ⟨w.heap.size, 0, none⟩ = some (.int .i64 t) ∧ wr.cell? ⟨w.heap.size, 1, none⟩ = some (.slice ai n c) ∧ wr.cell? ⟨w.heap.size, 2, none⟩ = some (.slice ap m d)) ∧
      (∀ wr, Below (w.heap.size + 1 + 1) W2 wr → (wr.cell? ⟨w.heap.size + 1, 0, none⟩ = some (.int .i64 0) ∧ wr.cell? ⟨w.heap.size + 1, 1, none⟩ = some (.slice none 0 0) ∧ wr.cell? ⟨w.heap.size + 1, 2, none⟩ = some (.slice none 0 0)) ∧
        wr.frozen? ⟨w.heap.size + 1, 0, none⟩ = false ∧ wr.frozen? ⟨w.heap.size + 1, 1, none⟩ = false ∧ wr.frozen? ⟨w.heap.size + 1, 2, none⟩ = false) := by
  refine ⟨_, rfl, by simp, ((Below.refl _ _).alloc (Nat.le_refl _) _).alloc (by simp) _, fun wr h => ?_, fun wr h => ?_⟩
  · refine ⟨cell_move h ?_ (by omega), cell_move h ?_ (by omega), cell_move h ?_ (by omega)⟩
    all_goals
      rw [World.cell?_alloc_past _ _ _ (by simp), World.cell?_alloc_new]
      rfl
  · refine ⟨⟨cell_move h ?_ (by omega), cell_move h ?_ (by omega), cell_move h ?_ (by omega)⟩, (h.frozen (p := ⟨w.heap.size + 1, 0, none⟩) (by simp only; omega)).trans ?_, (h.frozen (p := ⟨w.heap.size + 1, 1, none⟩) (by simp only; omega)).trans ?_, (h.frozen (p := ⟨w.heap.size + 1, 2, none⟩) (by simp only; omega)).trans ?_⟩
    · rw [World.cell?_alloc_at _ _ _ _ (by simp)]; rfl
    · rw [World.cell?_alloc_at _ _ _ _ (by simp)]; rfl
    · rw [World.cell?_alloc_at _ _ _ _ (by simp)]; rfl
    · exact World.frozen?_alloc_at _ _ _ _ (by simp)
    · exact World.frozen?_alloc_at _ _ _ _ (by simp)
    · exact World.frozen?_alloc_at _ _ _ _ (by simp)

set_option maxRecDepth 100000 in
set_option maxHeartbeats 2000000 in
theorem handedTx_any (t : Int) (ai : Option Addr) (n c : Nat) (ap : Option Addr) (m d : Nat) (xs : List InD) (ys : List (Int × Int)) (w : World) (hx : InsAt w ai xs) (hn : xs.length = n) (hy : OutsAt w ap ys) (hm : ys.length = m) (n1 : n ≤ 3518437208883) (m1 : m ≤ 8796093022208) (h0 : ap = none → d = 0) :
    Calls Try.prog 11 #[.agg #[.int .i64 t, .slice ai n c, .slice ap m d]] w fun e w' => ∃ BI BO, e = .returned (.agg #[.int .i64 t, .slice (some ⟨BI, 0, none⟩) n (n + 1), .slice (some ⟨BO, 0, none⟩) m (m + 1)]) ∧ HTx w' BI BO xs ys ∧ Below w.heap.size w w' := by
  have hmk := make_ins n n1
  have HN : Hid (xs.length = n) := hn
  have HM : Hid (ys.length = m) := hm
  have HX : Hid (InsAt w ai xs) := hx
  have HY : Hid (OutsAt w ap ys) := hy
  have H0 : Hid _ := h0
  clear hn hm hx hy h0
  go_enter Try.func11, Try.ntmps11
  go_wp2
  clear hmk
  have hst := htx_start w t ai ap n c m d
  obtain ⟨W2, HW2, hsz2, hbel2, bx, rs⟩ := hst
  rw [← HW2.out]
  have HBL2 : Hid _ := hbel2
  have HBX : Hid _ := bx
  have HRS : Hid _ := rs
  clear hbel2 bx rs
  generalize hX : w.heap.size = X at *
  have HXX : Hid _ := hX
  clear hX
  have HSZ2 : Hid (W2.heap.size = X + 1 + 1) := hsz2
  clear hsz2
  go_loopw [5] (fun i wr => ∃ (k : Nat) (bs : List Nat), k ≤ n ∧ i = .int .i64 k ∧ HIns wr (X + 1 + 1) xs k bs ∧ Room wr (X + 1 + 1) ((n + 1) * 3) ∧ Below (X + 1 + 1) W2 wr ∧ X + 1 + 1 < wr.heap.size) (fun i _ => n - (intOf i).toNat)
  case atStart =>
    refine ⟨0, [], Nat.zero_le _, rfl, ⟨rfl, fun j hj => by omega⟩, ?_, ?_, ?_⟩
    · have := room_new W2 n
      rw [HSZ2.out] at this
      exact this
    · exact (Below.refl _ _).alloc (by rw [HSZ2.out]; exact Nat.le_refl _) _
    · rw [World.size_alloc, HSZ2.out]; omega
  case round =>
    obtain ⟨k, bs, hk, rfl, hins, hroom, hbl, hBI⟩ := hrel
    obtain ⟨x0, x1, x2⟩ := HBX.out wr hbl
    have hw : Below X w wr := HBL2.out.trans (hbl.mono (by omega))
    have hww : Below w.heap.size w wr := by rw [HXX.out]; exact hw
    by_cases hlt : k < n
    · rcases HX.out with hnil | ⟨b, off, rfl, hrow⟩
      · have := HN.out; rw [hnil] at this; simp at this; omega
      obtain ⟨⟨c0, c1, c2⟩, hok⟩ := (hrow.grown hww) k (by rw [HN.out]; exact hlt)
      have hbX : b < X := by have := cell_lt ((hrow k (by rw [HN.out]; exact hlt)).1.c0); rw [HXX.out] at this; exact this
      clear hrow
      have HINS : Hid (HIns wr (X + 1 + 1) xs k bs) := hins
      have HROOM : Hid (Room wr (X + 1 + 1) ((n + 1) * 3)) := hroom
      clear hins hroom
      generalize hy : xs.getD k dIn = y at c0 c1 c2 hok
      have HYY : Hid (xs.getD k dIn = y) := hy
      clear hy
      obtain ⟨yid, ypos, yao, yn, yc, yl⟩ := y
      obtain ⟨k1, k2, k3, k4⟩ := hok
      simp only at c0 c1 c2 k1 k2 k3 k4
      have K2 : Hid _ := k2
      have K4 : Hid _ := k4
      clear k2 k4
      go_wp2_with (go_at_call 21; refine (handedInts_any _ _ _ yl _ k1 K2.out k3 K4.out).mono ?_; rintro e w2 ⟨B, rfl, hrB, hBlt, hb2⟩; have hwlt : ∀ {b o : Nat} {v : Value}, wr.cell? ⟨b, o, none⟩ = some v → w2.cell? ⟨b, o, none⟩ = some v := (fun h => cell_move hb2 h (cell_lt h)); have z1 := hwlt x1; have z2 := hwlt c0; have z3 := hwlt c1; have HWLT : Hid _ := @hwlt; clear hwlt x0 x1 x2 c0 c1 c2)
      have hins2 := HINS.out.below hb2
      have hroom2 := HROOM.out.below hb2 hBI
      have hbl2 : Below (X + 1 + 1) W2 w2 := hbl.trans (hb2.mono (by omega))
      have hsz2 := hb2.size
      obtain ⟨v0, q0⟩ := hroom2.here (k * 3) (by omega)
      obtain ⟨v1, q1⟩ := hroom2.here (k * 3 + 1) (by omega)
      obtain ⟨v2, q2⟩ := hroom2.here (k * 3 + 2) (by omega)
      have f0 := hroom2.free (k * 3) (by omega)
      have f1 := hroom2.free (k * 3 + 1) (by omega)
      have f2 := hroom2.free (k * 3 + 2) (by omega)
      have hstep : HIns (put3 w2 (X + 1 + 1) (k * 3) (.int .i64 yid) (.int .i64 ypos) (.slice (some ⟨B, 0, none⟩) yn (yn + 1))) (X + 1 + 1) xs (k + 1) (bs ++ [B]) := by
        have h := HIns.step hins2 hroom2 hlt (b := B) (by omega) (by rw [HYY.out]; exact hrB)
        rw [HYY.out] at h
        exact h
      have HSTEP : Hid _ := hstep
      have HROOM2 : Hid _ := put3_room (b := X + 1 + 1) (o := k * 3) (x := .int .i64 yid) (y := .int .i64 ypos) (z := .slice (some ⟨B, 0, none⟩) yn (yn + 1)) hroom2
      clear hstep hins2 hroom2
      have e1 : (k : Int) < (n : Int) + 1 := by omega
      have e2 : (0 : Int) ≤ (k : Int) := by omega
      have e3 : (k : Int) < (n : Int) := by omega
      have nb1 : X + 1 + 1 ≠ X := by omega
      have nb2 : X + 1 + 1 ≠ b := by omega
      go_region_held3 (fun w' => w'.cell? ⟨X, 1, none⟩ = some (.slice (some ⟨b, off, none⟩) n c) ∧ w'.cell? ⟨b, off + k * 3, none⟩ = some (.int .i64 yid) ∧ w'.cell? ⟨b, off + k * 3 + 1, none⟩ = some (.int .i64 ypos)) (go_keep) (fail)
      all_goals
        go_wp2
        go_roundw
        case rel => exact ⟨k + 1, bs ++ [B], by omega, by go_num, HSTEP.out.drew, HROOM2.out.drew, (put3_below hbl2 (Nat.le_refl _)).drew, by simp; omega⟩
        case measure => simp [intOf]; omega
    · have hkn : k = n := by omega
      subst hkn
      obtain ⟨v0, q0⟩ := hroom.here (k * 3) (by omega)
      obtain ⟨v1, q1⟩ := hroom.here (k * 3 + 1) (by omega)
      obtain ⟨v2, q2⟩ := hroom.here (k * 3 + 2) (by omega)
      have f0 := hroom.free (k * 3) (by omega)
      have f1 := hroom.free (k * 3 + 1) (by omega)
      have f2 := hroom.free (k * 3 + 2) (by omega)
      have HEND : Hid _ := hins.end (x := .int .i64 (-5)) (y := .int .i64 (-5)) (z := .slice none 0 0) (n := k) rfl
      have HLAST : Hid _ := put3_cells (x := .int .i64 (-5)) (y := .int .i64 (-5)) (z := .slice none 0 0) ⟨v0, q0⟩ ⟨v1, q1⟩ ⟨v2, q2⟩
      have hbl2 : Below (X + 1 + 1) W2 (put3 wr (X + 1 + 1) (k * 3) (.int .i64 (-5)) (.int .i64 (-5)) (.slice none 0 0)) := put3_below hbl (Nat.le_refl _)
      have hw2 : Below w.heap.size w (put3 wr (X + 1 + 1) (k * 3) (.int .i64 (-5)) (.int .i64 (-5)) (.slice none 0 0)) := by rw [HXX.out]; exact HBL2.out.trans (hbl2.mono (by omega))
      have HBL3 : Hid _ := hbl2
      have HW3 : Hid _ := hw2
      clear hins hroom hbl2 hw2
      go_wp2_with fail
      refine (handedOuts_any _ _ _ ys _ (HY.out.grown HW3.out) HM.out m1 H0.out).mono ?_
      rintro e w3 ⟨BO, rfl, hout, hBO, hb3⟩
      have hszp : (put3 wr (X + 1 + 1) (k * 3) (.int .i64 (-5)) (.int .i64 (-5)) (.slice none 0 0)).heap.size = wr.heap.size := by simp [put3]
      have hbl3 : Below (X + 1 + 1) W2 w3 := HBL3.out.trans (hb3.mono (by have := hszp; unfold put3 at this; omega))
      have hwf : Below X w w3 := HBL2.out.trans (hbl3.mono (by omega))
      obtain ⟨z0, z1, z2⟩ := HBX.out w3 hbl3
      obtain ⟨⟨r0, r1, r2⟩, s0, s1, s2⟩ := HRS.out w3 hbl3
      have hsz3 := hb3.size
      have e1 : (k : Int) ≤ (k : Int) + 1 := by omega
      have e2 : (0 : Int) ≤ (k : Int) := by omega
      have nb1 : X + 1 ≠ X := by omega
      have hiend := HEND.out.below (w' := w3) hb3
      have hlst := HLAST.out
      obtain ⟨l0, l1, l2⟩ := hlst
      have HF : Hid (HTx w3 (X + 1 + 1) BO xs ys) := by
        refine ⟨⟨bs, ?_⟩, ?_, hout⟩
        · rw [HN.out]; exact hiend
        · rw [HN.out]; exact ⟨cell_move hb3 l0 (cell_lt l0), cell_move hb3 l1 (cell_lt l1), cell_move hb3 l2 (cell_lt l2)⟩
      have hBO2 : X + 1 + 1 < BO := by omega
      have HBO2 : Hid _ := hBO2
      clear hiend l0 l1 l2 q0 q1 q2 f0 f1 f2 x0 x1 x2 hszp hout hb3 hBO2 hBO
      go_wp2
      go_region_held3 (fun w' => w'.cell? ⟨X, 0, none⟩ = some (.int .i64 t)) (go_keep) (fail)
      all_goals
        go_wp2
        refine bodyPost_ret (v := .agg #[.int .i64 t, .slice (some ⟨X + 1 + 1, 0, none⟩) k (k + 1), .slice (some ⟨BO, 0, none⟩) m (m + 1)]) ?_ rfl ⟨X + 1 + 1, BO, rfl, ?_, ?_⟩
        · simp [results, Try.results11, go_sem, r0, r1, r2]
        · exact (HF.out.put HBO2.out).drew
        · rw [HXX.out]; exact (put3_below (b := X + 1) (o := 0) hwf (Nat.le_succ X)).drew

end Go.Proofs.Ytffgpepngcnjeaa
