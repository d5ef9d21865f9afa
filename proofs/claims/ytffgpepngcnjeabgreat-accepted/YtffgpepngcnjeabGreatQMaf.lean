/-
  One number of a transaction turned: another id.
  A transaction that can be read, in blocks from some number on; one number of it turned.
  What a block brings and leaves; it hangs on its contents alone.
  New, the game of a script, what a purse shows.
-/
import Derived.Test.YtffgpepngcnjeabGreatQMae
import Derived.Deep.RegionLaw
import Derived.Test.YtffgpepngcnjeabGreatQMab
import Derived.Test.YtffgpepngcnjeabGreatQMac
import Derived.BigQuiet
namespace Go.Proofs.YtffgpepngcnjeabGreatQ
open Go.RowKit
theorem cells3_drew (w : World) (x y z : Value) (T : TypeId) : (w.alloc (.cells #[x, y, z] T)).drew.cell? ⟨w.heap.size, 0, none⟩ = some x ∧ (w.alloc (.cells #[x, y, z] T)).drew.cell? ⟨w.heap.size, 1, none⟩ = some y ∧ (w.alloc (.cells #[x, y, z] T)).drew.cell? ⟨w.heap.size, 2, none⟩ = some z := by
  refine ⟨?_, ?_, ?_⟩
  all_goals
    rw [World.cell?_drew, World.cell?_alloc_new]
    rfl
theorem own_slice' {w : World} {base g n : Nat} {l : List Int} (h : OwnInts w base (.slice (some ⟨g, 0, none⟩) n n) l) (hn : l.length = n) : IntsAt w (some ⟨g, 0, none⟩) l ∧ l.length = n := by
  obtain ⟨ao, c, e, hat, _⟩ := h.slice
  injection e with e1 e2 e3
  rw [e1]
  exact ⟨hat, hn⟩
theorem outs_oneT (ys : List (Int × Int)) : ∀ v ∈ outCs ys, v.oneCell' = true := by
  rw [outCs_map]
  exact ints_one _
theorem outCs_len (ys : List (Int × Int)) : (outCs ys).length = ys.length * 2 := by
  rw [outCs_map, List.length_map, outL_len]
  omega
theorem copy_outsTx {w wr : World} {XB : Nat} {T : Int} {vi V vo0 : Value} {ap : Option Addr} {m d : Nat} {ys : List (Int × Int)} (hww : Below w.heap.size w wr) (hX : w.heap.size ≤ XB) (hXB : XB < wr.heap.size) (hy : OutsAt w ap ys) (hm : ys.length = m) (m1 : m ≤ 8796093022208) (h0 : ap = none → d = 0)
    (htx : Tx3 wr XB (.int .i64 T) vi vo0) (hV : V = .slice (some ⟨wr.heap.size, 0, none⟩) m m) :
    ∃ w1, Sem.run Tryz.prog (Builtin.copy_ #[28, 28] 3 #[.slice (some ⟨wr.heap.size, 0, none⟩) m m, .slice ap m d]) ((wr.setCell ⟨XB, 2, none⟩ V).alloc (.cells (madeCells #[.int .i64 0, .int .i64 0] (m * 2)) 93)) = .ok (.int .i64 m) w1 ∧
      OInv wr XB (fun _ => True) T vi V ys w1 := by
  have hsz : (wr.setCell ⟨XB, 2, none⟩ V).heap.size = wr.heap.size := World.size_setCell _ _ _
  have hbW : Below w.heap.size w ((wr.setCell ⟨XB, 2, none⟩ V).alloc (.cells (madeCells #[.int .i64 0, .int .i64 0] (m * 2)) 93)) := (hww.setCell hX _).alloc (by rw [hsz]; exact hww.size) _
  have hnil : ap = none → m = 0 ∧ d = 0 := by
    intro e
    refine ⟨?_, h0 e⟩
    rcases hy with rfl | ⟨b, off, e', _⟩
    · rw [← hm]; rfl
    · rw [e] at e'; cases e'
  have hheap := heap_made (wr.setCell ⟨XB, 2, none⟩ V) (madeCells #[.int .i64 0, .int .i64 0] (m * 2)) 93
  rw [hsz] at hheap
  have hsrc := ints_src ((ints_of_outs hy).grown hbW)
  rw [← outCs_map] at hsrc
  obtain ⟨w1, h1, h2, h3⟩ := copy_gen Tryz.underlying28 sizeInfo56 ((wr.setCell ⟨XB, 2, none⟩ V).alloc (.cells (madeCells #[.int .i64 0, .int .i64 0] (m * 2)) 93)) wr.heap.size m ap d (madeCells #[.int .i64 0, .int .i64 0] (m * 2)) (outCs ys) (by simpa using hheap) (by rw [size_madeCells]) (by rw [outCs_len, hm]) hsrc (outs_oneT ys) hnil
  refine ⟨w1, h1, ?_, fun _ _ => trivial, ?_, ?_, hXB⟩
  · subst hV
    have := owns_whole (base := wr.heap.size) (size := 2) (n := m) h2 (by rw [outCs_len, hm]) (Nat.le_refl _) (by unfold maxLen; omega)
    unfold OwnOuts
    rw [hm]
    exact this
  · exact ((htx.set2 V).gb (gb_alloc _ _ Option.none) (by simp)).gb h3 (fun e => by injection e with e; omega)
  · refine ⟨h3.os, h3.tape, h3.output, ?_, fun k hk hne => ?_⟩
    · have := h3.size; rw [World.size_alloc, hsz] at this; omega
    · refine (h3.block k (by rw [World.size_alloc, hsz]; omega) (fun e => by injection e with e; omega)).trans ?_
      rw [Below.heap_alloc _ _ _ (by rw [hsz]; exact hk)]
      exact Below.heap_setCell wr ⟨XB, 2, none⟩ V k (fun e => hne (by rw [e]))
set_option maxRecDepth 100000 in
set_option maxHeartbeats 4000000 in
theorem copyTx_any (t : Int) (ai : Option Addr) (n c : Nat) (ap : Option Addr) (m d : Nat) (xs : List InD) (ys : List (Int × Int)) (w : World) (hx : InsAt w ai xs) (hn : xs.length = n) (hy : OutsAt w ap ys) (hm : ys.length = m)
    (n1 : n ≤ 3518437208883) (m1 : m ≤ 8796093022208) (h0 : ap = none → d = 0) :
    Calls Tryz.prog 42 #[.agg #[.int .i64 t, .slice ai n c, .slice ap m d]] w fun e w' => ∃ vi vo xs', e = .returned (.agg #[.int .i64 t, vi, vo]) ∧ Fresh w' w.heap.size vi vo (fun j x => Same (xs.getD j dIn) x) xs' ys ∧ xs'.length = n ∧ Below w.heap.size w w' := by
  have HN : Hid (xs.length = n) := hn
  have HM : Hid (ys.length = m) := hm
  have HX : Hid (InsAt w ai xs) := hx
  have HY : Hid (OutsAt w ap ys) := hy
  have H0 : Hid _ := h0
  clear hn hm hx hy h0
  go_enter Tryz.func42, Tryz.ntmps42
  go_wp2
  obtain ⟨W2, HW2, hsz2, hbel2, bx, rs⟩ := htx_start w t ai ap n c m d
  rw [← HW2.out]
  have HBL2 : Hid _ := hbel2
  have HBX : Hid _ := bx
  have HRS : Hid _ := rs
  clear hbel2 bx rs
  generalize hX : w.heap.size = X at *
  have HXX : Hid _ := hX
  clear hX
  have HSZ2 : Hid (W2.heap.size = X + 1 + 1) := hsz2
  clear hsz2
  go_loopw [4] (fun i wr => ∃ (k : Nat) (vi : Value) (zs : List InD), k ≤ n ∧ i = .int .i64 k ∧ Hid (zs.length = k) ∧ SInv W2 (X + 1 + 1) (fun j x => Same (xs.getD j dIn) x) t vi (.slice none 0 0) zs wr) (fun i _ => n - (intOf i).toNat)
  case atStart =>
    refine ⟨0, _, [], Nat.zero_le _, rfl, rfl, OwnIns.nil _ _, fun j hj => by simp at hj, ?_, ?_, ?_⟩
    · rw [← HSZ2.out]; exact Tx3.new W2 _ _ _ _
    · exact (Below.refl _ _).alloc (by rw [HSZ2.out]; exact Nat.le_refl _) _
    · rw [World.size_alloc, HSZ2.out]; omega
  case round =>
    obtain ⟨k, vi, zs, hk, rfl, hzl, hinv⟩ := hrel
    have hbl := hinv.bel
    have hlt0 := hinv.lt
    obtain ⟨x0, x1, x2⟩ := HBX.out wr hbl
    have hw : Below X w wr := HBL2.out.trans (hbl.mono (by omega))
    have hww : Below w.heap.size w wr := by rw [HXX.out]; exact hw
    have HINV : Hid (SInv W2 (X + 1 + 1) (fun j x => Same (xs.getD j dIn) x) t vi (.slice none 0 0) zs wr) := hinv
    clear hinv
    by_cases hlt : k < n
    · rcases HX.out with hnil | ⟨b, off, rfl, hrow⟩
      · have := HN.out; rw [hnil] at this; simp at this; omega
      obtain ⟨⟨c0, c1, c2⟩, hok⟩ := (hrow.grown hww) k (by rw [HN.out]; exact hlt)
      clear hrow
      generalize hyy : xs.getD k dIn = y at c0 c1 c2 hok
      have HYY : Hid (xs.getD k dIn = y) := hyy
      clear hyy
      obtain ⟨yid, ypos, yao, yn, yc, yl⟩ := y
      obtain ⟨k1, k2, k3, k4⟩ := hok
      simp only at c0 c1 c2 k1 k2 k3 k4
      have hmk := make_intsN yn k3
      obtain ⟨w1, hrun, hos, hb1, hlt1⟩ := copy_seal yao yn yc yl wr k1 k2 k3 k4
      have hs := HINV.out.grown hb1
      have d1 := cell_move hb1 x1 (cell_lt x1)
      have d2 := cell_move hb1 c0 (cell_lt c0)
      have d3 := cell_move hb1 c1 (cell_lt c1)
      have t1 := hs.tx.c1
      have tf1 := hs.tx.f1
      have hszr := hs.lt
      have hvX : some (X + 1 + 1) ≠ vi.ownBlock := fun e => by have := (owns_blk hs.own _ e.symm).1; omega
      have hzl10 : zs.length < 3518437208883 := by rw [hzl.out]; omega
      have hXr : X < wr.heap.size := by omega
      have hbr : b < wr.heap.size := cell_lt c0
      have HS : Hid (SInv W2 (X + 1 + 1) (fun j x => Same (xs.getD j dIn) x) t vi (.slice none 0 0) zs w1) := hs
      have HB1 : Hid (Below wr.heap.size wr w1) := hb1
      have HVX : Hid _ := hvX
      have HOS : Hid (OwnInts w1 wr.heap.size (.slice (some ⟨wr.heap.size, 0, none⟩) yn yn) yl) := hos
      have K2 : Hid (yl.length = yn) := k2
      have e1 : (k : Int) < (n : Int) := by omega
      have e2 : (0 : Int) ≤ (k : Int) := by omega
      clear hs hb1 hvX hos k1 k2 k4
      go_wp2
      clear hmk hrun
      go_region_law (refine step_appIn _ ?_ (.tmp 33) (.tmp 48) ?_ (X + 1 + 1 + 1) w1.heap.size vi zs ⟨yid, ypos, some ⟨wr.heap.size, 0, none⟩, yn, yn, yl⟩ ?_ ?_ ?_ ?_ ?_ hzl10 ?_; rfl; rfl; rfl; rfl; exact (World.ownsRow.alloc HS.out.own _); exact cells3_drew _ _ _ _ _; exact Nat.le_trans hszr (le_oned _ _); intro g cap w2 hown2 hg hlies hglt; have hg2 := gb_trans (gb_trans (gb_alloc _ _ _) (gb_drew _ _)) hg; have q1 := gb_cell hg2 t1 HVX.out; have qf := (gb_frozen hg2 (b := X + 1 + 1) (o := 1) hszr HVX.out).trans tf1)
      all_goals
        go_wp2
        go_roundw
        case rel => exact ⟨k + 1, _, zs ++ [⟨yid, ypos, some ⟨wr.heap.size, 0, none⟩, yn, yn, yl⟩], by omega, by go_num, by show List.length _ = _; rw [List.length_append, hzl.out]; rfl, HINV.out.push HB1.out ⟨(own_slice' HOS.out K2.out).1, K2.out, k3, fun h => (by cases h)⟩ (by rw [hzl.out, HYY.out]; exact ⟨rfl, rfl, rfl, rfl⟩) (fun a ha => by injection ha with ha; subst ha; exact ⟨Nat.le_refl _, hlt1⟩) hown2 hg2 (hlies.imp id (fun h => Nat.le_of_succ_le (by simpa using h)))⟩
        case measure => simp [intOf]; omega
    · have hkn : k = n := by omega
      subst hkn
      obtain ⟨aio, ci, hvi⟩ : ∃ aio ci, vi = .slice aio zs.length ci := by
        rcases HINV.out.own.cells with ⟨h1, h2⟩ | ⟨g, cc, h1, _⟩
        · subst h2; exact ⟨_, _, h1⟩
        · exact ⟨_, _, h1⟩
      subst hvi
      have hmk := make_outsT m m1
      have t2 := HINV.out.tx.c2
      have tf := HINV.out.tx.f2
      have hXr : X < wr.heap.size := by omega
      obtain ⟨w1, hrun, ho⟩ := copy_outsTx (V := .slice (some ⟨wr.heap.size, 0, none⟩) m m) (T := t) (vi := .slice aio zs.length ci) (XB := X + 1 + 1) hww (by rw [HXX.out]; omega) hlt0 HY.out HM.out m1 H0.out HINV.out.tx rfl
      have hbx : Below (X + 1 + 1) W2 w1 := hbl.trans (gb_to_below ho.gb (by omega) (fun q hq => by injection hq with hq; omega))
      obtain ⟨⟨r0, r1, r2⟩, s0, s1, s2⟩ := HRS.out w1 hbx
      have q0 := ho.tx.c0
      have q1 := ho.tx.c1
      have q2 := ho.tx.c2
      have hfr := Fresh.of HINV.out ho
      have HFR : Hid (Fresh w1 (X + 1 + 1 + 1) (.slice aio zs.length ci) (.slice (some ⟨wr.heap.size, 0, none⟩) m m) (fun j x => Same (xs.getD j dIn) x) zs ys) := hfr
      clear hfr ho
      go_wp2
      refine bodyPost_ret (v := .agg #[.int .i64 t, .slice aio zs.length ci, .slice (some ⟨wr.heap.size, 0, none⟩) m m]) ?_ rfl ⟨_, _, zs, rfl, ?_, hzl.out, ?_⟩
      · simp [results, Tryz.results42, go_sem, r0, r1, r2]
      · rw [HXX.out]
        exact (HFR.out.gb (gb_put3 _ (X + 1) 0 _ _ _) (fun q hq => by injection hq with hq; omega)).lower (by omega)
      · rw [HXX.out]
        exact put3_below (HBL2.out.trans (hbx.mono (by omega))) (Nat.le_succ X)
end Go.Proofs.YtffgpepngcnjeabGreatQ

namespace Go.Proofs.YtffgpepngcnjeabGreatQ
open Go.RowKit
theorem mx_inj (h h' x : Int) (a0 : 0 ≤ h) (a1 : h < 99991) (b0 : 0 ≤ h') (b1 : h' < 99991) (e : Mk.mx h x = Mk.mx h' x) : h = h' := by
  unfold Mk.mx at e
  omega
theorem mx_inj2 (h x x' : Int) (d1 : x - x' < 99991) (d2 : x' - x < 99991) (e : Mk.mx h x = Mk.mx h x') : x = x' := by
  unfold Mk.mx at e
  omega
theorem mixL_inj (l : List Int) : ∀ (h h' : Int), 0 ≤ h → h < 99991 → 0 ≤ h' → h' < 99991 → Mk.mixL h l = Mk.mixL h' l → h = h' := by
  induction l with
  | nil => intro h h' _ _ _ _ e; exact e
  | cons x r ih =>
    intro h h' a0 a1 b0 b1 e
    exact mx_inj h h' x a0 a1 b0 b1 (ih _ _ (Mk.mx_bd h x).1 (Mk.mx_bd h x).2 (Mk.mx_bd h' x).1 (Mk.mx_bd h' x).2 e)
theorem mixL_set (l : List Int) : ∀ (h : Int) (p : Nat) (v : Int), p < l.length → l.getD p 0 ≠ v → l.getD p 0 - v < 99991 → v - l.getD p 0 < 99991 → Mk.mixL h (l.set p v) ≠ Mk.mixL h l := by
  induction l with
  | nil => intro h p v hp; simp at hp
  | cons x r ih =>
    intro h p v hp hne d1 d2
    cases p with
    | zero =>
      intro e
      have e2 := mixL_inj r _ _ (Mk.mx_bd h v).1 (Mk.mx_bd h v).2 (Mk.mx_bd h x).1 (Mk.mx_bd h x).2 e
      exact hne (mx_inj2 h x v d1 d2 e2.symm)
    | succ p => exact ih (Mk.mx h x) p v (by simpa using hp) hne d1 d2
theorem id_tag (t t' : Int) (xs : List InD) (ys : List (Int × Int)) (hne : t ≠ t') (d1 : t - t' < 99991) (d2 : t' - t < 99991) : Mk.mixL 1 (idL t' xs ys) ≠ Mk.mixL 1 (idL t xs ys) := by
  have h := mixL_set (idL t xs ys) 1 0 t' (by simp [idL]) hne d1 d2
  exact h
end Go.Proofs.YtffgpepngcnjeabGreatQ

namespace Go.Proofs.YtffgpepngcnjeabGreatQ
open Go.RowKit
structure Reads (w : World) (base : Nat) (ai : Option Addr) (xs : List InD) (ap : Option Addr) (ys : List (Int × Int)) : Prop where
  ins : xs = [] ∨ ∃ b, ai = some ⟨b, 0, none⟩ ∧ base ≤ b ∧ ∀ j, j < xs.length → InCells w b (j * 3) (xs.getD j dIn)
  seals : ∀ j, j < xs.length → InOk w (xs.getD j dIn) ∧ ∀ a, (xs.getD j dIn).ao = some a → base ≤ a.block
  outs : ys = [] ∨ ∃ b, ap = some ⟨b, 0, none⟩ ∧ base ≤ b ∧ OutsRow w b 0 ys
theorem Reads.gb {w w' : World} {row : Option Nat} (h : w.grownBy w' row) {base : Nat} {ai ap : Option Addr} {xs : List InD} {ys : List (Int × Int)} (hr : Reads w base ai xs ap ys) (hk : ∀ k, row = some k → k < base) : Reads w' base ai xs ap ys := by
  have off : ∀ b, base ≤ b → some b ≠ row := fun b hb e => by have := hk b e.symm; omega
  refine ⟨?_, fun j hj => ⟨gb_ok h (hr.seals j hj).1 (fun a ha => off _ ((hr.seals j hj).2 a ha)), (hr.seals j hj).2⟩, ?_⟩
  · rcases hr.ins with e | ⟨b, e, hb, hc⟩
    · exact Or.inl e
    · exact Or.inr ⟨b, e, hb, fun j hj => ⟨gb_cell h (hc j hj).c0 (off b hb), gb_cell h (hc j hj).c1 (off b hb), gb_cell h (hc j hj).c2 (off b hb)⟩⟩
  · rcases hr.outs with e | ⟨b, e, hb, hc⟩
    · exact Or.inl e
    · exact Or.inr ⟨b, e, hb, gb_outs h hc (off b hb)⟩
theorem Reads.lower {w : World} {base B : Nat} {ai ap : Option Addr} {xs : List InD} {ys : List (Int × Int)} (hr : Reads w base ai xs ap ys) (hB : B ≤ base) : Reads w B ai xs ap ys := by
  refine ⟨?_, fun j hj => ⟨(hr.seals j hj).1, fun a ha => Nat.le_trans hB ((hr.seals j hj).2 a ha)⟩, ?_⟩
  · rcases hr.ins with e | ⟨b, e, hb, hc⟩
    · exact Or.inl e
    · exact Or.inr ⟨b, e, Nat.le_trans hB hb, hc⟩
  · rcases hr.outs with e | ⟨b, e, hb, hc⟩
    · exact Or.inl e
    · exact Or.inr ⟨b, e, Nat.le_trans hB hb, hc⟩
theorem Reads.insAt {w : World} {base : Nat} {ai ap : Option Addr} {xs : List InD} {ys : List (Int × Int)} (hr : Reads w base ai xs ap ys) : InsAt w ai xs := by
  rcases hr.ins with e | ⟨b, e, hb, hc⟩
  · exact Or.inl e
  · exact Or.inr ⟨b, 0, e, fun j hj => ⟨by rw [Nat.zero_add]; exact hc j hj, (hr.seals j hj).1⟩⟩
theorem Reads.outsAt {w : World} {base : Nat} {ai ap : Option Addr} {xs : List InD} {ys : List (Int × Int)} (hr : Reads w base ai xs ap ys) : OutsAt w ap ys := by
  rcases hr.outs with e | ⟨b, e, hb, hc⟩
  · exact Or.inl e
  · exact Or.inr ⟨b, 0, e, hc⟩
theorem Fresh.reads' {w : World} {base : Nat} {ai ap : Option Addr} {n c m d : Nat} {Q : Nat → InD → Prop} {xs : List InD} {ys : List (Int × Int)} (hf : Fresh w base (.slice ai n c) (.slice ap m d) Q xs ys) : Reads w base ai xs ap ys := by
  refine ⟨?_, fun j hj => ⟨(hf.ok j hj).1, fun a ha => ((hf.ok j hj).2.2 a ha).1⟩, ?_⟩
  · rcases hf.ins.cells with ⟨_, h2⟩ | ⟨g, c', h1, h2, h3, h4, h5⟩
    · exact Or.inl h2
    · injection h1 with e1 e2 e3
      exact Or.inr ⟨g, e1, h2, h4⟩
  · rcases hf.outs.cells with ⟨_, h2⟩ | ⟨g, c', h1, h2, h3, h4, h5⟩
    · exact Or.inl h2
    · injection h1 with e1 e2 e3
      exact Or.inr ⟨g, e1, h2, h4⟩
end Go.Proofs.YtffgpepngcnjeabGreatQ

namespace Go.Proofs.YtffgpepngcnjeabGreatQ
open Go.RowKit
/-- xs is xs0 with what block h has brought so far -/
def Over (h : Int) (xs0 xs : List Cel) : Prop := ∃ pre new, xs = pre ++ new ∧ (∀ x ∈ new, x.made = h ∧ (x.spent = -1 ∨ x.spent = h)) ∧ (∀ x ∈ pre, x.made ≠ h) ∧ pre.map (unsp h) = xs0
theorem leftI_eq (h : Int) (xs : List Cel) (p : Nat) (hp : p = 0 ∨ (xs.getD (p - 1) dC).made ≠ h) : ∀ k, p ≤ k → (∀ j, p ≤ j → j < k → (xs.getD j dC).made = h) → leftI h xs k = p := by
  intro k
  induction k with
  | zero => intro hk _; exact (Nat.le_zero.1 hk).symm
  | succ k ih =>
    intro hk hj
    rw [leftI_succ]
    by_cases e : p = k + 1
    · subst e
      rcases hp with hp | hp
      · omega
      · rw [if_neg (by simpa using hp)]
    · rw [if_pos (hj k (by omega) (by omega))]
      exact ih (by omega) (fun j h1 h2 => hj j h1 (by omega))
theorem getD_app_left {α : Type} (a b : List α) (d : α) (j : Nat) (h : j < a.length) : (a ++ b).getD j d = a.getD j d := by
  simp only [List.getD]; rw [List.getElem?_append_left h]
theorem getD_app_right {α : Type} (a b : List α) (d : α) (j : Nat) (h : a.length ≤ j) : (a ++ b).getD j d = b.getD (j - a.length) d := by
  simp only [List.getD]; rw [List.getElem?_append_right h]
theorem tb_over {h : Int} {xs0 xs : List Cel} (ho : Over h xs0 xs) : tbZ h xs = xs0 := by
  obtain ⟨pre, new, rfl, hn, hp, hu⟩ := ho
  have hl : leftI h (pre ++ new) (pre ++ new).length = pre.length := by
    refine leftI_eq h _ _ ?_ _ (by simp) ?_
    · by_cases e : pre.length = 0
      · exact Or.inl e
      · right
        rw [getD_app_left _ _ _ _ (by omega)]
        exact hp _ (getD_mem pre dC _ (by omega))
    · intro j h1 h2
      rw [getD_app_right _ _ _ _ h1]
      exact (hn _ (getD_mem new dC _ (by rw [List.length_append] at h2; omega))).1
  unfold tbZ
  rw [hl, List.take_left]
  exact hu
theorem over_refl {h : Int} {xs : List Cel} (hx : ∀ x ∈ xs, x.made ≠ h ∧ x.spent ≠ h) : Over h xs xs := by
  refine ⟨xs, [], by simp, by simp, fun x hx' => (hx x hx').1, ?_⟩
  have e : ∀ x ∈ xs, unsp h x = id x := fun x hx' => by unfold unsp; rw [if_neg (hx x hx').2]; rfl
  rw [List.map_congr_left e, List.map_id]
theorem set_map_same {α β : Type} (f : α → β) (l : List α) (q : Nat) (y : α) (d : α) (hq : q < l.length) (hy : f y = f (l.getD q d)) : (l.set q y).map f = l.map f := by
  rw [List.map_set, hy]
  simp only [List.getD, List.getElem?_eq_getElem hq, Option.getD_some]
  have : f l[q] = (l.map f)[q]'(by simpa using hq) := by simp
  rw [this]
  exact List.set_getElem_self (by simpa using hq)
/-- made and spent by blocks below h -/
def Und (h : Int) (xs : List Cel) : Prop := ∀ x ∈ xs, x.made < h ∧ x.spent < h
theorem Und.over {h : Int} {xs0 xs : List Cel} (hu : Und h xs0) (ho : Over h xs0 xs) (hh : 0 ≤ h) : Und (h + 1) xs := by
  obtain ⟨pre, new, rfl, hn, hp, hm⟩ := ho
  intro x hx
  rcases List.mem_append.1 hx with hx | hx
  · have h1 : unsp h x ∈ xs0 := by rw [← hm]; exact List.mem_map_of_mem hx
    have h2 := hu _ h1
    unfold unsp at h2
    split at h2
    · rename_i e
      have h3 : x.made < h := h2.1
      omega
    · omega
  · obtain ⟨h1, h2⟩ := hn x hx
    omega
theorem Und.ne {h : Int} {xs : List Cel} (hu : Und h xs) : ∀ x ∈ xs, x.made ≠ h ∧ x.spent ≠ h := fun x hx => by have := hu x hx; omega
theorem go_len (h : Int) : ∀ (bl : List TxD) (xs : List Cel) (i : Nat), Vals xs → (connGo h xs bl i).1 = 0 → Vals (connGo h xs bl i).2.2 ∧ (connGo h xs bl i).2.2.length ≤ xs.length + 8 * bl.length := by
  intro bl
  induction bl with
  | nil => intro xs i hv _; exact ⟨hv, by simp [connGo]⟩
  | cons t r ih =>
    intro xs i hv
    obtain ⟨a1, a2⟩ := addZ_good xs h t.t t.ins t.ys (i == 0) hv
    unfold connGo
    by_cases e : (addZ xs h t.t t.ins t.ys (i == 0)).1 ≠ 0
    · rw [if_pos e]
      intro h0
      exact absurd h0 e
    · rw [if_neg e]
      intro h0
      obtain ⟨b1, b2⟩ := ih _ _ a1 h0
      refine ⟨b1, ?_⟩
      simp only [List.length_cons]
      omega
theorem conn_len (h : Int) (xs : List Cel) (bl : List TxD) (hv : Vals xs) (h0 : (connZ h xs bl).1 = 0) : Vals (connZ h xs bl).2.2.2 ∧ (connZ h xs bl).2.2.2.length ≤ xs.length + 48 := by
  unfold connZ at h0 ⊢
  by_cases h40 : 40 ≤ h
  · rw [if_pos h40] at h0; simp at h0
  · rw [if_neg h40] at h0 ⊢
    by_cases h6 : 6 < bl.length
    · rw [if_pos h6] at h0; simp at h0
    · rw [if_neg h6] at h0 ⊢
      by_cases e : (connGo h xs bl 0).1 ≠ 0
      · rw [if_pos e] at h0; exact absurd h0 e
      · rw [if_neg e]
        have := go_len h bl xs 0 hv (by simpa using e)
        refine ⟨this.1, ?_⟩
        have := this.2
        simp only
        omega
end Go.Proofs.YtffgpepngcnjeabGreatQ
namespace Go.Proofs.YtffgpepngcnjeabGreatQ
open Go.RowKit
def InD.st (x : InD) : InD := ⟨x.id, x.pos, none, x.n, 0, x.l⟩
def SpD.st (x : SpD) : SpD := match x with
  | ⟨a, b, c, _, n, _, l⟩ => ⟨a, b, c, none, n, 0, l⟩
theorem rIns_st (xs : List InD) : rIns (xs.map InD.st) = rIns xs := by
  unfold rIns
  rw [List.length_map, List.all_map]
  rfl
theorem rTx_st (t : Int) (xs : List InD) (ys : List (Int × Int)) : rTx t (xs.map InD.st) ys = rTx t xs ys := by
  unfold rTx
  rw [rIns_st]
theorem inL_st (xs : List InD) : inL (xs.map InD.st) = inL xs := by
  unfold inL
  rw [List.flatMap_map]
  rfl
theorem idZ_st (t : Int) (xs : List InD) (ys : List (Int × Int)) : idZ t (xs.map InD.st) ys = idZ t xs ys := by
  unfold idZ idL
  rw [rTx_st, inL_st, List.length_map]
theorem isSp_st (acc : List SpD) (p : Int) : isSp (acc.map SpD.st) p = isSp acc p := by
  unfold isSp
  rw [List.any_map]
  rfl
theorem spZ_st (xs : List Cel) : ∀ (ins : List InD) (acc : List SpD), spZ xs (ins.map InD.st) (acc.map SpD.st) = (spZ xs ins acc).map (List.map SpD.st) := by
  intro ins
  induction ins with
  | nil => intro acc; rfl
  | cons i r ih =>
    intro acc
    rw [List.map_cons]
    unfold spZ
    rw [isSp_st]
    by_cases hc : findZ xs i.id i.pos < 0 ∨ isSp acc (findZ xs i.id i.pos) = true
    · have hc' : findZ xs i.st.id i.st.pos < 0 ∨ isSp acc (findZ xs i.st.id i.st.pos) = true := hc
      rw [if_pos hc', if_pos hc]
      rfl
    · have hc' : ¬(findZ xs i.st.id i.st.pos < 0 ∨ isSp acc (findZ xs i.st.id i.st.pos) = true) := hc
      rw [if_neg hc', if_neg hc, ← ih]
      rw [List.map_append]
      rfl
theorem all_st (id : Int) (ss : List SpD) : (ss.map SpD.st).all (opens id) = ss.all (opens id) := by
  rw [List.all_map]
  rfl
theorem sumSp_st (ss : List SpD) : sumSp (ss.map SpD.st) = sumSp ss := by
  unfold sumSp
  rw [List.map_map]
  rfl
theorem markZ_st (h : Int) (ss : List SpD) : ∀ xs, markZ h xs (ss.map SpD.st) = markZ h xs ss := by
  induction ss with
  | nil => intro xs; rfl
  | cons s r ih => intro xs; rw [List.map_cons, markZ, markZ, ih]; rfl
theorem addZ_st (xs : List Cel) (h t : Int) (ins : List InD) (ys : List (Int × Int)) (first : Bool) : addZ xs h t (ins.map InD.st) ys first = addZ xs h t ins ys first := by
  unfold addZ
  rw [rTx_st, idZ_st]
  have e0 : (ins.map InD.st = [] ∧ first = false) = (ins = [] ∧ first = false) := by rw [List.map_eq_nil_iff]
  simp only [e0]
  have e1 := spZ_st xs ins []
  rw [List.map_nil] at e1
  rw [e1]
  cases spZ xs ins [] with
  | none => rfl
  | some ss =>
    simp only [Option.map_some]
    rw [all_st, sumSp_st, markZ_st]
    have e2 : (ss.map SpD.st ≠ [] ∧ sumSp ss < sumOu ys) = (ss ≠ [] ∧ sumSp ss < sumOu ys) := by rw [ne_eq, List.map_eq_nil_iff]
    simp only [e2]
/-- the contents of a transaction -/
def TxD.k (x : TxD) : Int × List InD × List (Int × Int) := (x.t, x.ins.map InD.st, x.ys)
theorem connGo_k (h : Int) : ∀ (bl bl' : List TxD) (xs : List Cel) (i : Nat), bl.map TxD.k = bl'.map TxD.k → connGo h xs bl i = connGo h xs bl' i := by
  intro bl
  induction bl with
  | nil =>
    intro bl' xs i e
    cases bl' with
    | nil => rfl
    | cons t r => simp at e
  | cons t r ih =>
    intro bl' xs i e
    cases bl' with
    | nil => simp at e
    | cons t' r' =>
      rw [List.map_cons, List.map_cons] at e
      injection e with e1 e2
      simp only [TxD.k, Prod.mk.injEq] at e1
      obtain ⟨k1, k2, k3⟩ := e1
      have ea : addZ xs h t.t t.ins t.ys (i == 0) = addZ xs h t'.t t'.ins t'.ys (i == 0) := by
        rw [← addZ_st xs h t.t t.ins, ← addZ_st xs h t'.t t'.ins, k1, k2, k3]
      unfold connGo
      rw [ea, ih r' _ _ e2]
theorem connZ_k (h : Int) (xs : List Cel) (bl bl' : List TxD) (e : bl.map TxD.k = bl'.map TxD.k) : connZ h xs bl = connZ h xs bl' := by
  have el : bl.length = bl'.length := by have := congrArg List.length e; simpa using this
  unfold connZ
  rw [connGo_k h bl bl' xs 0 e, el]
theorem same_st {xs xs' : List InD} (hl : xs'.length = xs.length) (h : ∀ j, j < xs.length → Same (xs.getD j dIn) (xs'.getD j dIn)) : xs'.map InD.st = xs.map InD.st := by
  apply List.ext_getElem
  · rw [List.length_map, List.length_map, hl]
  · intro j h1 h2
    rw [List.length_map] at h1 h2
    have := h j h2
    simp only [List.getD, List.getElem?_eq_getElem h1, List.getElem?_eq_getElem h2, Option.getD_some] at this
    obtain ⟨e1, e2, e3, e4⟩ := this
    rw [List.getElem_map, List.getElem_map]
    unfold InD.st
    rw [e1, e2, e3, e4]
end Go.Proofs.YtffgpepngcnjeabGreatQ

namespace Go.Proofs.YtffgpepngcnjeabGreatQ
open Go.RowKit
def fitZ (s g : Int) : Bool := Mk.isM s && decide (1 ≤ g ∧ g ≤ 20)
set_option maxRecDepth 100000 in
set_option maxHeartbeats 400000 in
theorem new_yes (s g : Int) (w : World) (hs : Mk.isM s = true) (h1 : 1 ≤ g) (h2 : g ≤ 20) :
    Calls Tryz.prog 62 #[.int .i64 s, .int .i64 g] w fun e w' => e = .returned (.tuple #[.pointer (some ⟨w.heap.size, 0, none⟩), .int .i64 0]) ∧ w.alloc (.cells #[.int .i64 s, .int .i64 g, .slice none 0 0, .int .i64 0, .slice none 0 0, .slice none 0 0, .int .i64 0, .int .i64 0] 102) = w' := by
  go_enter Tryz.func62, Tryz.ntmps62
  go_wp2_with (go_at_call 104; refine (is_any _ _).mono ?_; rintro e w' ⟨rfl, rfl⟩; rw [hs])
  go_ret2
  exact ⟨rfl, rfl⟩
def adrs (s br : Int) (k : Nat) : List Int := (List.range k).map fun i : Nat => Mk.adr s br i
end Go.Proofs.YtffgpepngcnjeabGreatQ
namespace Go.Proofs.YtffgpepngcnjeabGreatQ
open Go.RowKit
/-- the document's purse, as it begins, in block D -/
structure Begun (w : World) (base D : Nat) (s g : Int) (vr vc : Value) : Prop where
  row : VRow w D 0 [.int .i64 s, .int .i64 g, vr, vc, .slice none 0 0, .slice none 0 0, .int .i64 (-1)]
  own0 : OwnInts w base vr (adrs s 0 100)
  own1 : OwnInts w base vc (adrs s 1 100)
theorem Begun.grown {w w' : World} {base D : Nat} {s g : Int} {vr vc : Value} (h : Begun w base D s g vr vc) (hb : Below w.heap.size w w') : Begun w' base D s g vr vc :=
  ⟨h.row.grown hb, h.own0.grown hb, h.own1.grown hb⟩
theorem OwnInts.lower {w : World} {base base' : Nat} {v : Value} {l : List Int} (h : OwnInts w base v l) (hb : base' ≤ base) : OwnInts w base' v l := by
  obtain ⟨h1, h | ⟨g, cap, cur, rfl, hbg, hg⟩⟩ := h
  · exact ⟨h1, Or.inl h⟩
  · exact ⟨h1, Or.inr ⟨g, cap, cur, rfl, Nat.le_trans hb hbg, hg⟩⟩
/-- a purse in block P -/
def PurseRow (w : World) (P : Nat) (s g : Int) (v : Value) (h : Int) : Prop := VRow w P 0 [.int .i64 s, .int .i64 g, v, .int .i64 h, .slice none 0 0, .slice none 0 0, .int .i64 0, .int .i64 0]
theorem PurseRow.c0 {w : World} {P : Nat} {s g : Int} {v : Value} {h : Int} (hr : PurseRow w P s g v h) : w.cell? ⟨P, 0, none⟩ = some (.int .i64 s) := hr 0 (by simp)
theorem PurseRow.c1 {w : World} {P : Nat} {s g : Int} {v : Value} {h : Int} (hr : PurseRow w P s g v h) : w.cell? ⟨P, 1, none⟩ = some (.int .i64 g) := hr 1 (by simp)
theorem PurseRow.c2 {w : World} {P : Nat} {s g : Int} {v : Value} {h : Int} (hr : PurseRow w P s g v h) : w.cell? ⟨P, 2, none⟩ = some v := hr 2 (by simp)
theorem PurseRow.c3 {w : World} {P : Nat} {s g : Int} {v : Value} {h : Int} (hr : PurseRow w P s g v h) : w.cell? ⟨P, 3, none⟩ = some (.int .i64 h) := hr 3 (by simp)
theorem PurseRow.c4 {w : World} {P : Nat} {s g : Int} {v : Value} {h : Int} (hr : PurseRow w P s g v h) : w.cell? ⟨P, 4, none⟩ = some (.slice none 0 0) := hr 4 (by simp)
theorem PurseRow.c5 {w : World} {P : Nat} {s g : Int} {v : Value} {h : Int} (hr : PurseRow w P s g v h) : w.cell? ⟨P, 5, none⟩ = some (.slice none 0 0) := hr 5 (by simp)
end Go.Proofs.YtffgpepngcnjeabGreatQ
namespace Go.Proofs.YtffgpepngcnjeabGreatQ
open Go.RowKit
theorem keepP {w w' w2 : World} {P : Nat} {a b : Value} (c0 : w.cell? ⟨P, 0, none⟩ = some a) (c1 : w.cell? ⟨P, 1, none⟩ = some b) (hw : w'.heap = w.heap) (hb : Below w'.heap.size w' w2) : w2.cell? ⟨P, 0, none⟩ = some a ∧ w2.cell? ⟨P, 1, none⟩ = some b := by
  have hl := cell_lt c0
  have e0 : w'.cell? ⟨P, 0, none⟩ = some a := by rw [← c0]; simp [World.cell?, hw]
  have e1 : w'.cell? ⟨P, 1, none⟩ = some b := by rw [← c1]; simp [World.cell?, hw]
  exact ⟨(hb.cell (p := ⟨P, 0, none⟩) (by rw [hw]; exact hl)).trans e0, (hb.cell (p := ⟨P, 1, none⟩) (by rw [hw]; exact hl)).trans e1⟩
theorem RecAt.heap {α : Type} {f : α → List Value} {w w' : World} {ao : Option Addr} {xs : List α} (h : RecAt f w ao xs) (hw : w'.heap = w.heap) : RecAt f w' ao xs := by
  rcases h with h | ⟨b, off, h, hr⟩
  · exact Or.inl h
  · exact Or.inr ⟨b, off, h, fun j hj => by rw [← hr j hj]; simp [World.cell?, hw]⟩
/-- a purse's memory: its seed, its gap, the chain's outputs, how many blocks -/
structure PurseAt (w : World) (P : Nat) (s : Int) (g : Nat) (xs : List Cel) (h : Int) (v : Value) : Prop where
  row : PurseRow w P s g v h
  own : ∃ ao c, v = .slice ao xs.length c ∧ CelsAt w ao xs
  len : xs.length ≤ 1000000
end Go.Proofs.YtffgpepngcnjeabGreatQ
namespace Go.Proofs.YtffgpepngcnjeabGreatQ
open Go.RowKit
set_option maxRecDepth 100000 in
set_option maxHeartbeats 400000 in
theorem sum_nil (w : World) : Calls Tryz.prog 99 #[.slice none 0 0] w fun e w' => e = .returned (.int .i64 0) ∧ w = w' := by
  go_enter Tryz.func99, Tryz.ntmps99
  go_wp2
  refine wp_loop_rounds 1 ?_
  rw [rounds_succ]
  go_wp2
  go_ret
  exact ⟨rfl, rfl⟩
end Go.Proofs.YtffgpepngcnjeabGreatQ
