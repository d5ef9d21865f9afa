/-
  A transaction that can be read, in blocks from some number on; one number of it turned.
  What a block brings and leaves; it hangs on its contents alone.
  The blocks that were taken, and the chains ahead of each.
  No two outputs of the chain have one name.
  A book of payments: what a payment is, of any purse.
  A book of payments: a payment more.
-/
import Derived.Test.YtffgpepngcnjeabMan
import Derived.Deep.RegionLaw
import Derived.Test.YtffgpepngcnjeabMaf
import Derived.Test.YtffgpepngcnjeabMah
namespace Go.Proofs.Ytffgpepngcnjeab
open Go.RowKit
theorem cells3_drew (w : World) (x y z : Value) (T : TypeId) : (w.alloc (.cells #[x, y, z] T)).drew.cell? ⟨w.heap.size, 0, none⟩ = some x ∧ (w.alloc (.cells #[x, y, z] T)).drew.cell? ⟨w.heap.size, 1, none⟩ = some y ∧ (w.alloc (.cells #[x, y, z] T)).drew.cell? ⟨w.heap.size, 2, none⟩ = some z := by
  refine ⟨?_, ?_, ?_⟩
  all_goals
    rw [World.cell?_drew, World.cell?_alloc_new]
    rfl
theorem own_slice' {w : World} {base g n : Nat} {l : List Int} (h : OwnInts w base (.slice (some ⟨g, 0, none⟩) n n) l) (hn : l.length = n) : IntsAt w (some ⟨g, 0, none⟩) l ∧ l.length = n := by
  obtain ⟨ao, c, e, hat, _⟩ := h.slice
  injection e with e1 e2 e3
  rw [e1]
  exact ⟨hat, hn⟩
theorem outs_oneT (ys : List (Int × Int)) : ∀ v ∈ outCs ys, v.oneCell' = true := by
  rw [outCs_map]
  exact ints_one _
theorem outCs_len (ys : List (Int × Int)) : (outCs ys).length = ys.length * 2 := by
  rw [outCs_map, List.length_map, outL_len]
  omega
theorem copy_outsTx {w wr : World} {XB : Nat} {T : Int} {vi V vo0 : Value} {ap : Option Addr} {m d : Nat} {ys : List (Int × Int)} (hww : Below w.heap.size w wr) (hX : w.heap.size ≤ XB) (hXB : XB < wr.heap.size) (hy : OutsAt w ap ys) (hm : ys.length = m) (m1 : m ≤ 8796093022208) (h0 : ap = none → d = 0)
    (htx : Tx3 wr XB (.int .i64 T) vi vo0) (hV : V = .slice (some ⟨wr.heap.size, 0, none⟩) m m) :
    ∃ w1, Sem.run Try.prog (Builtin.copy_ #[23, 23] 3 #[.slice (some ⟨wr.heap.size, 0, none⟩) m m, .slice ap m d]) ((wr.setCell ⟨XB, 2, none⟩ V).alloc (.cells (madeCells #[.int .i64 0, .int .i64 0] (m * 2)) 68)) = .ok (.int .i64 m) w1 ∧
      OInv wr XB (fun _ => True) T vi V ys w1 := by
  have hsz : (wr.setCell ⟨XB, 2, none⟩ V).heap.size = wr.heap.size := World.size_setCell _ _ _
  have hbW : Below w.heap.size w ((wr.setCell ⟨XB, 2, none⟩ V).alloc (.cells (madeCells #[.int .i64 0, .int .i64 0] (m * 2)) 68)) := (hww.setCell hX _).alloc (by rw [hsz]; exact hww.size) _
  have hnil : ap = none → m = 0 ∧ d = 0 := by
    intro e
    refine ⟨?_, h0 e⟩
    rcases hy with rfl | ⟨b, off, e', _⟩
    · rw [← hm]; rfl
    · rw [e] at e'; cases e'
  have hheap := heap_made (wr.setCell ⟨XB, 2, none⟩ V) (madeCells #[.int .i64 0, .int .i64 0] (m * 2)) 68
  rw [hsz] at hheap
  have hsrc := ints_src ((ints_of_outs hy).grown hbW)
  rw [← outCs_map] at hsrc
  obtain ⟨w1, h1, h2, h3⟩ := copy_gen Try.underlying23 sizeInfo56 ((wr.setCell ⟨XB, 2, none⟩ V).alloc (.cells (madeCells #[.int .i64 0, .int .i64 0] (m * 2)) 68)) wr.heap.size m ap d (madeCells #[.int .i64 0, .int .i64 0] (m * 2)) (outCs ys) (by simpa using hheap) (by rw [size_madeCells]) (by rw [outCs_len, hm]) hsrc (outs_oneT ys) hnil
  refine ⟨w1, h1, ?_, fun _ _ => trivial, ?_, ?_, hXB⟩
  · subst hV
    have := owns_whole (base := wr.heap.size) (size := 2) (n := m) h2 (by rw [outCs_len, hm]) (Nat.le_refl _) (by unfold maxLen; omega)
    unfold OwnOuts
    rw [hm]
    exact this
  · exact ((htx.set2 V).gb (gb_alloc _ _ Option.none) (by simp)).gb h3 (fun e => by injection e with e; omega)
  · refine ⟨h3.os, h3.tape, h3.output, ?_, fun k hk hne => ?_⟩
    · have := h3.size; rw [World.size_alloc, hsz] at this; omega
    · refine (h3.block k (by rw [World.size_alloc, hsz]; omega) (fun e => by injection e with e; omega)).trans ?_
      rw [Below.heap_alloc _ _ _ (by rw [hsz]; exact hk)]
      exact Below.heap_setCell wr ⟨XB, 2, none⟩ V k (fun e => hne (by rw [e]))
set_option maxRecDepth 100000 in
set_option maxHeartbeats 4000000 in
theorem copyTx_any (t : Int) (ai : Option Addr) (n c : Nat) (ap : Option Addr) (m d : Nat) (xs : List InD) (ys : List (Int × Int)) (w : World) (hx : InsAt w ai xs) (hn : xs.length = n) (hy : OutsAt w ap ys) (hm : ys.length = m)
    (n1 : n ≤ 3518437208883) (m1 : m ≤ 8796093022208) (h0 : ap = none → d = 0) :
    Calls Try.prog 60 #[.agg #[.int .i64 t, .slice ai n c, .slice ap m d]] w fun e w' => ∃ vi vo xs', e = .returned (.agg #[.int .i64 t, vi, vo]) ∧ Fresh w' w.heap.size vi vo (fun j x => Same (xs.getD j dIn) x) xs' ys ∧ xs'.length = n ∧ Below w.heap.size w w' := by
  have HN : Hid (xs.length = n) := hn
  have HM : Hid (ys.length = m) := hm
  have HX : Hid (InsAt w ai xs) := hx
  have HY : Hid (OutsAt w ap ys) := hy
  have H0 : Hid _ := h0
  clear hn hm hx hy h0
  go_enter Try.func60, Try.ntmps60
  go_wp2
  obtain ⟨W2, HW2, hsz2, hbel2, bx, rs⟩ := htx_start w t ai ap n c m d
  rw [← HW2.out]
  have HBL2 : Hid _ := hbel2
  have HBX : Hid _ := bx
  have HRS : Hid _ := rs
  clear hbel2 bx rs
  generalize hX : w.heap.size = X at *
  have HXX : Hid _ := hX
  clear hX
  have HSZ2 : Hid (W2.heap.size = X + 1 + 1) := hsz2
  clear hsz2
  go_loopw [4] (fun i wr => ∃ (k : Nat) (vi : Value) (zs : List InD), k ≤ n ∧ i = .int .i64 k ∧ Hid (zs.length = k) ∧ SInv W2 (X + 1 + 1) (fun j x => Same (xs.getD j dIn) x) t vi (.slice none 0 0) zs wr) (fun i _ => n - (intOf i).toNat)
  case atStart =>
    refine ⟨0, _, [], Nat.zero_le _, rfl, rfl, OwnIns.nil _ _, fun j hj => by simp at hj, ?_, ?_, ?_⟩
    · rw [← HSZ2.out]; exact Tx3.new W2 _ _ _ _
    · exact (Below.refl _ _).alloc (by rw [HSZ2.out]; exact Nat.le_refl _) _
    · rw [World.size_alloc, HSZ2.out]; omega
  case round =>
    obtain ⟨k, vi, zs, hk, rfl, hzl, hinv⟩ := hrel
    have hbl := hinv.bel
    have hlt0 := hinv.lt
    obtain ⟨x0, x1, x2⟩ := HBX.out wr hbl
    have hw : Below X w wr := HBL2.out.trans (hbl.mono (by omega))
    have hww : Below w.heap.size w wr := by rw [HXX.out]; exact hw
    have HINV : Hid (SInv W2 (X + 1 + 1) (fun j x => Same (xs.getD j dIn) x) t vi (.slice none 0 0) zs wr) := hinv
    clear hinv
    by_cases hlt : k < n
    · rcases HX.out with hnil | ⟨b, off, rfl, hrow⟩
      · have := HN.out; rw [hnil] at this; simp at this; omega
      obtain ⟨⟨c0, c1, c2⟩, hok⟩ := (hrow.grown hww) k (by rw [HN.out]; exact hlt)
      clear hrow
      generalize hyy : xs.getD k dIn = y at c0 c1 c2 hok
      have HYY : Hid (xs.getD k dIn = y) := hyy
      clear hyy
      obtain ⟨yid, ypos, yao, yn, yc, yl⟩ := y
      obtain ⟨k1, k2, k3, k4⟩ := hok
      simp only at c0 c1 c2 k1 k2 k3 k4
      have hmk := make_intsN yn k3
      obtain ⟨w1, hrun, hos, hb1, hlt1⟩ := copy_seal yao yn yc yl wr k1 k2 k3 k4
      have hs := HINV.out.grown hb1
      have d1 := cell_move hb1 x1 (cell_lt x1)
      have d2 := cell_move hb1 c0 (cell_lt c0)
      have d3 := cell_move hb1 c1 (cell_lt c1)
      have t1 := hs.tx.c1
      have tf1 := hs.tx.f1
      have hszr := hs.lt
      have hvX : some (X + 1 + 1) ≠ vi.ownBlock := fun e => by have := (owns_blk hs.own _ e.symm).1; omega
      have hzl10 : zs.length < 3518437208883 := by rw [hzl.out]; omega
      have hXr : X < wr.heap.size := by omega
      have hbr : b < wr.heap.size := cell_lt c0
      have HS : Hid (SInv W2 (X + 1 + 1) (fun j x => Same (xs.getD j dIn) x) t vi (.slice none 0 0) zs w1) := hs
      have HB1 : Hid (Below wr.heap.size wr w1) := hb1
      have HVX : Hid _ := hvX
      have HOS : Hid (OwnInts w1 wr.heap.size (.slice (some ⟨wr.heap.size, 0, none⟩) yn yn) yl) := hos
      have K2 : Hid (yl.length = yn) := k2
      have e1 : (k : Int) < (n : Int) := by omega
      have e2 : (0 : Int) ≤ (k : Int) := by omega
      clear hs hb1 hvX hos k1 k2 k4
      go_wp2
      clear hmk hrun
      go_region_law (refine step_appIn _ ?_ (.tmp 33) (.tmp 48) ?_ (X + 1 + 1 + 1) w1.heap.size vi zs ⟨yid, ypos, some ⟨wr.heap.size, 0, none⟩, yn, yn, yl⟩ ?_ ?_ ?_ ?_ ?_ hzl10 ?_; rfl; rfl; rfl; rfl; exact (World.ownsRow.alloc HS.out.own _); exact cells3_drew _ _ _ _ _; exact Nat.le_trans hszr (le_oned _ _); intro g cap w2 hown2 hg hlies hglt; have hg2 := gb_trans (gb_trans (gb_alloc _ _ _) (gb_drew _ _)) hg; have q1 := gb_cell hg2 t1 HVX.out; have qf := (gb_frozen hg2 (b := X + 1 + 1) (o := 1) hszr HVX.out).trans tf1)
      all_goals
        go_wp2
        go_roundw
        case rel => exact ⟨k + 1, _, zs ++ [⟨yid, ypos, some ⟨wr.heap.size, 0, none⟩, yn, yn, yl⟩], by omega, by go_num, by show List.length _ = _; rw [List.length_append, hzl.out]; rfl, HINV.out.push HB1.out ⟨(own_slice' HOS.out K2.out).1, K2.out, k3, fun h => (by cases h)⟩ (by rw [hzl.out, HYY.out]; exact ⟨rfl, rfl, rfl, rfl⟩) (fun a ha => by injection ha with ha; subst ha; exact ⟨Nat.le_refl _, hlt1⟩) hown2 hg2 (hlies.imp id (fun h => Nat.le_of_succ_le (by simpa using h)))⟩
        case measure => simp [intOf]; omega
    · have hkn : k = n := by omega
      subst hkn
      obtain ⟨aio, ci, hvi⟩ : ∃ aio ci, vi = .slice aio zs.length ci := by
        rcases HINV.out.own.cells with ⟨h1, h2⟩ | ⟨g, cc, h1, _⟩
        · subst h2; exact ⟨_, _, h1⟩
        · exact ⟨_, _, h1⟩
      subst hvi
      have hmk := make_outsT m m1
      have t2 := HINV.out.tx.c2
      have tf := HINV.out.tx.f2
      have hXr : X < wr.heap.size := by omega
      obtain ⟨w1, hrun, ho⟩ := copy_outsTx (V := .slice (some ⟨wr.heap.size, 0, none⟩) m m) (T := t) (vi := .slice aio zs.length ci) (XB := X + 1 + 1) hww (by rw [HXX.out]; omega) hlt0 HY.out HM.out m1 H0.out HINV.out.tx rfl
      have hbx : Below (X + 1 + 1) W2 w1 := hbl.trans (gb_to_below ho.gb (by omega) (fun q hq => by injection hq with hq; omega))
      obtain ⟨⟨r0, r1, r2⟩, s0, s1, s2⟩ := HRS.out w1 hbx
      have q0 := ho.tx.c0
      have q1 := ho.tx.c1
      have q2 := ho.tx.c2
      have hfr := Fresh.of HINV.out ho
      have HFR : Hid (Fresh w1 (X + 1 + 1 + 1) (.slice aio zs.length ci) (.slice (some ⟨wr.heap.size, 0, none⟩) m m) (fun j x => Same (xs.getD j dIn) x) zs ys) := hfr
      clear hfr ho
      go_wp2
      refine bodyPost_ret (v := .agg #[.int .i64 t, .slice aio zs.length ci, .slice (some ⟨wr.heap.size, 0, none⟩) m m]) ?_ rfl ⟨_, _, zs, rfl, ?_, hzl.out, ?_⟩
      · simp [results, Try.results60, go_sem, r0, r1, r2]
      · rw [HXX.out]
        exact (HFR.out.gb (gb_put3 _ (X + 1) 0 _ _ _) (fun q hq => by injection hq with hq; omega)).lower (by omega)
      · rw [HXX.out]
        exact put3_below (HBL2.out.trans (hbx.mono (by omega))) (Nat.le_succ X)
end Go.Proofs.Ytffgpepngcnjeab

namespace Go.Proofs.Ytffgpepngcnjeab
open Go.RowKit
structure Reads (w : World) (base : Nat) (ai : Option Addr) (xs : List InD) (ap : Option Addr) (ys : List (Int × Int)) : Prop where
  ins : xs = [] ∨ ∃ b, ai = some ⟨b, 0, none⟩ ∧ base ≤ b ∧ ∀ j, j < xs.length → InCells w b (j * 3) (xs.getD j dIn)
  seals : ∀ j, j < xs.length → InOk w (xs.getD j dIn) ∧ ∀ a, (xs.getD j dIn).ao = some a → base ≤ a.block
  outs : ys = [] ∨ ∃ b, ap = some ⟨b, 0, none⟩ ∧ base ≤ b ∧ OutsRow w b 0 ys
theorem Reads.gb {w w' : World} {row : Option Nat} (h : w.grownBy w' row) {base : Nat} {ai ap : Option Addr} {xs : List InD} {ys : List (Int × Int)} (hr : Reads w base ai xs ap ys) (hk : ∀ k, row = some k → k < base) : Reads w' base ai xs ap ys := by
  have off : ∀ b, base ≤ b → some b ≠ row := fun b hb e => by have := hk b e.symm; omega
  refine ⟨?_, fun j hj => ⟨gb_ok h (hr.seals j hj).1 (fun a ha => off _ ((hr.seals j hj).2 a ha)), (hr.seals j hj).2⟩, ?_⟩
  · rcases hr.ins with e | ⟨b, e, hb, hc⟩
    · exact Or.inl e
    · exact Or.inr ⟨b, e, hb, fun j hj => ⟨gb_cell h (hc j hj).c0 (off b hb), gb_cell h (hc j hj).c1 (off b hb), gb_cell h (hc j hj).c2 (off b hb)⟩⟩
  · rcases hr.outs with e | ⟨b, e, hb, hc⟩
    · exact Or.inl e
    · exact Or.inr ⟨b, e, hb, gb_outs h hc (off b hb)⟩
theorem Reads.lower {w : World} {base B : Nat} {ai ap : Option Addr} {xs : List InD} {ys : List (Int × Int)} (hr : Reads w base ai xs ap ys) (hB : B ≤ base) : Reads w B ai xs ap ys := by
  refine ⟨?_, fun j hj => ⟨(hr.seals j hj).1, fun a ha => Nat.le_trans hB ((hr.seals j hj).2 a ha)⟩, ?_⟩
  · rcases hr.ins with e | ⟨b, e, hb, hc⟩
    · exact Or.inl e
    · exact Or.inr ⟨b, e, Nat.le_trans hB hb, hc⟩
  · rcases hr.outs with e | ⟨b, e, hb, hc⟩
    · exact Or.inl e
    · exact Or.inr ⟨b, e, Nat.le_trans hB hb, hc⟩
theorem Reads.insAt {w : World} {base : Nat} {ai ap : Option Addr} {xs : List InD} {ys : List (Int × Int)} (hr : Reads w base ai xs ap ys) : InsAt w ai xs := by
  rcases hr.ins with e | ⟨b, e, hb, hc⟩
  · exact Or.inl e
  · exact Or.inr ⟨b, 0, e, fun j hj => ⟨by rw [Nat.zero_add]; exact hc j hj, (hr.seals j hj).1⟩⟩
theorem Reads.outsAt {w : World} {base : Nat} {ai ap : Option Addr} {xs : List InD} {ys : List (Int × Int)} (hr : Reads w base ai xs ap ys) : OutsAt w ap ys := by
  rcases hr.outs with e | ⟨b, e, hb, hc⟩
  · exact Or.inl e
  · exact Or.inr ⟨b, 0, e, hc⟩
theorem Fresh.reads' {w : World} {base : Nat} {ai ap : Option Addr} {n c m d : Nat} {Q : Nat → InD → Prop} {xs : List InD} {ys : List (Int × Int)} (hf : Fresh w base (.slice ai n c) (.slice ap m d) Q xs ys) : Reads w base ai xs ap ys := by
  refine ⟨?_, fun j hj => ⟨(hf.ok j hj).1, fun a ha => ((hf.ok j hj).2.2 a ha).1⟩, ?_⟩
  · rcases hf.ins.cells with ⟨_, h2⟩ | ⟨g, c', h1, h2, h3, h4, h5⟩
    · exact Or.inl h2
    · injection h1 with e1 e2 e3
      exact Or.inr ⟨g, e1, h2, h4⟩
  · rcases hf.outs.cells with ⟨_, h2⟩ | ⟨g, c', h1, h2, h3, h4, h5⟩
    · exact Or.inl h2
    · injection h1 with e1 e2 e3
      exact Or.inr ⟨g, e1, h2, h4⟩
end Go.Proofs.Ytffgpepngcnjeab

namespace Go.Proofs.Ytffgpepngcnjeab
open Go.RowKit
/-- xs is xs0 with what block h has brought so far -/
def Over (h : Int) (xs0 xs : List Cel) : Prop := ∃ pre new, xs = pre ++ new ∧ (∀ x ∈ new, x.made = h ∧ (x.spent = -1 ∨ x.spent = h)) ∧ (∀ x ∈ pre, x.made ≠ h) ∧ pre.map (unsp h) = xs0
theorem leftI_eq (h : Int) (xs : List Cel) (p : Nat) (hp : p = 0 ∨ (xs.getD (p - 1) dC).made ≠ h) : ∀ k, p ≤ k → (∀ j, p ≤ j → j < k → (xs.getD j dC).made = h) → leftI h xs k = p := by
  intro k
  induction k with
  | zero => intro hk _; exact (Nat.le_zero.1 hk).symm
  | succ k ih =>
    intro hk hj
    rw [leftI_succ]
    by_cases e : p = k + 1
    · subst e
      rcases hp with hp | hp
      · omega
      · rw [if_neg (by simpa using hp)]
    · rw [if_pos (hj k (by omega) (by omega))]
      exact ih (by omega) (fun j h1 h2 => hj j h1 (by omega))
theorem getD_app_left {α : Type} (a b : List α) (d : α) (j : Nat) (h : j < a.length) : (a ++ b).getD j d = a.getD j d := by
  simp only [List.getD]; rw [List.getElem?_append_left h]
theorem getD_app_right {α : Type} (a b : List α) (d : α) (j : Nat) (h : a.length ≤ j) : (a ++ b).getD j d = b.getD (j - a.length) d := by
  simp only [List.getD]; rw [List.getElem?_append_right h]
theorem tb_over {h : Int} {xs0 xs : List Cel} (ho : Over h xs0 xs) : tbZ h xs = xs0 := by
  obtain ⟨pre, new, rfl, hn, hp, hu⟩ := ho
  have hl : leftI h (pre ++ new) (pre ++ new).length = pre.length := by
    refine leftI_eq h _ _ ?_ _ (by simp) ?_
    · by_cases e : pre.length = 0
      · exact Or.inl e
      · right
        rw [getD_app_left _ _ _ _ (by omega)]
        exact hp _ (getD_mem pre dC _ (by omega))
    · intro j h1 h2
      rw [getD_app_right _ _ _ _ h1]
      exact (hn _ (getD_mem new dC _ (by rw [List.length_append] at h2; omega))).1
  unfold tbZ
  rw [hl, List.take_left]
  exact hu
theorem over_refl {h : Int} {xs : List Cel} (hx : ∀ x ∈ xs, x.made ≠ h ∧ x.spent ≠ h) : Over h xs xs := by
  refine ⟨xs, [], by simp, by simp, fun x hx' => (hx x hx').1, ?_⟩
  have e : ∀ x ∈ xs, unsp h x = id x := fun x hx' => by unfold unsp; rw [if_neg (hx x hx').2]; rfl
  rw [List.map_congr_left e, List.map_id]
theorem set_map_same {α β : Type} (f : α → β) (l : List α) (q : Nat) (y : α) (d : α) (hq : q < l.length) (hy : f y = f (l.getD q d)) : (l.set q y).map f = l.map f := by
  rw [List.map_set, hy]
  simp only [List.getD, List.getElem?_eq_getElem hq, Option.getD_some]
  have : f l[q] = (l.map f)[q]'(by simpa using hq) := by simp
  rw [this]
  exact List.set_getElem_self (by simpa using hq)
theorem over_mark1 {h : Int} {xs0 xs : List Cel} (ho : Over h xs0 xs) (hh : h ≠ -1) (q : Nat) (hq : q < xs.length) (hs : (xs.getD q dC).spent = -1 ∨ (xs.getD q dC).spent = h) : Over h xs0 (xs.set q ((xs.getD q dC).sp h)) := by
  obtain ⟨pre, new, rfl, hn, hp, hu⟩ := ho
  by_cases hl : q < pre.length
  · rw [getD_app_left _ _ _ _ hl] at hs ⊢
    refine ⟨pre.set q ((pre.getD q dC).sp h), new, by rw [List.set_append_left _ _ hl], hn, fun x hx => ?_, ?_⟩
    · rcases List.mem_or_eq_of_mem_set hx with hx | hx
      · exact hp x hx
      · have h3 := hp _ (getD_mem pre dC q hl)
        rw [hx]
        exact h3
    · rw [set_map_same (unsp h) pre q _ dC hl ?_]
      · exact hu
      · have e1 : unsp h ((pre.getD q dC).sp h) = ((pre.getD q dC).sp h).sp (-1) := by unfold unsp; exact if_pos rfl
        rw [e1]
        rcases hs with hs | hs
        · unfold unsp
          rw [if_neg (by rw [hs]; exact fun e => hh e.symm)]
          generalize pre.getD q dC = z at hs
          obtain ⟨z0, z1, z2, z3, z4, z5⟩ := z
          simp only at hs
          subst hs
          rfl
        · unfold unsp
          rw [if_pos hs]
          rfl
  · rw [getD_app_right _ _ _ _ (by omega)] at hs ⊢
    have hq2 : q - pre.length < new.length := by rw [List.length_append] at hq; omega
    refine ⟨pre, new.set (q - pre.length) ((new.getD (q - pre.length) dC).sp h), by rw [List.set_append_right _ _ (by omega)], fun x hx => ?_, hp, hu⟩
    rcases List.mem_or_eq_of_mem_set hx with hx | hx
    · exact hn x hx
    · rw [hx]
      exact ⟨(hn _ (getD_mem new dC _ hq2)).1, Or.inr rfl⟩
theorem over_mark {h : Int} (hh : h ≠ -1) {xs0 : List Cel} : ∀ (ss : List SpD) (xs : List Cel), Over h xs0 xs → (∀ s ∈ ss, s.pl.toNat < xs.length ∧ ((xs.getD s.pl.toNat dC).spent = -1 ∨ (xs.getD s.pl.toNat dC).spent = h)) → Over h xs0 (markZ h xs ss) := by
  intro ss
  induction ss with
  | nil => intro xs ho _; exact ho
  | cons s r ih =>
    intro xs ho hs
    obtain ⟨h1, h2⟩ := hs s (by simp)
    rw [markZ]
    refine ih _ (over_mark1 ho hh _ h1 h2) (fun s' hs' => ?_)
    obtain ⟨g1, g2⟩ := hs s' (by simp [hs'])
    refine ⟨by rw [List.length_set]; exact g1, ?_⟩
    by_cases e : s'.pl.toNat = s.pl.toNat
    · right
      rw [e]
      simp only [List.getD]
      rw [List.getElem?_set_self h1]
      rfl
    · simp only [List.getD] at g2 ⊢
      rw [List.getElem?_set_ne (fun e' => e e'.symm)]
      exact g2
theorem over_add {h : Int} (hh : h ≠ -1) {xs0 xs : List Cel} (ho : Over h xs0 xs) (t : Int) (ins : List InD) (ys : List (Int × Int)) (first : Bool) : Over h xs0 (addZ xs h t ins ys first).2 := by
  rcases addZ_cases xs h t ins ys first with ⟨_, h2⟩ | ⟨_, _, _, ss, hss, _, _, he⟩
  · rw [h2]; exact ho
  · rw [he]
    have hq : ∀ s ∈ ss, s.pl.toNat < xs.length ∧ ((xs.getD s.pl.toNat dC).spent = -1 ∨ (xs.getD s.pl.toNat dC).spent = h) := spZ_good xs (fun s => s.pl.toNat < xs.length ∧ ((xs.getD s.pl.toNat dC).spent = -1 ∨ (xs.getD s.pl.toNat dC).spent = h)) ins [] ss (fun i _ q hq hc => by
      have e : ((q : Int)).toNat = q := Int.toNat_natCast q
      simp only [e]
      refine ⟨hq, Or.inl ?_⟩
      simp only [isCoin, Bool.and_eq_true, beq_iff_eq] at hc
      exact hc.2.2) hss (fun s hs => by simp at hs)
    obtain ⟨pre, new, e, hn, hp, hu⟩ := over_mark hh ss xs ho hq
    refine ⟨pre, new ++ newC (idZ t ins ys) h ys ys.length, ?_, fun x hx => ?_, hp, hu⟩
    · show markZ h xs ss ++ _ = _
      rw [e, List.append_assoc]
    · rcases List.mem_append.1 hx with hx | hx
      · exact hn x hx
      · simp only [newC, List.mem_map, List.mem_range] at hx
        obtain ⟨j, _, rfl⟩ := hx
        exact ⟨rfl, Or.inl rfl⟩
theorem over_go {h : Int} (hh : h ≠ -1) {xs0 : List Cel} : ∀ (bl : List TxD) (xs : List Cel) (i : Nat), Over h xs0 xs → ((connGo h xs bl i).1 ≠ 0 → (connGo h xs bl i).2.2 = xs0) ∧ ((connGo h xs bl i).1 = 0 → Over h xs0 (connGo h xs bl i).2.2) := by
  intro bl
  induction bl with
  | nil => intro xs i ho; exact ⟨fun h => absurd rfl h, fun _ => ho⟩
  | cons t r ih =>
    intro xs i ho
    have ha := over_add hh ho t.t t.ins t.ys (i == 0)
    unfold connGo
    by_cases e : (addZ xs h t.t t.ins t.ys (i == 0)).1 ≠ 0
    · rw [if_pos e]
      exact ⟨fun _ => tb_over ha, fun h0 => absurd h0 e⟩
    · rw [if_neg e]
      exact ih _ _ ha
/-- made and spent by blocks below h -/
def Und (h : Int) (xs : List Cel) : Prop := ∀ x ∈ xs, x.made < h ∧ x.spent < h
theorem Und.over {h : Int} {xs0 xs : List Cel} (hu : Und h xs0) (ho : Over h xs0 xs) (hh : 0 ≤ h) : Und (h + 1) xs := by
  obtain ⟨pre, new, rfl, hn, hp, hm⟩ := ho
  intro x hx
  rcases List.mem_append.1 hx with hx | hx
  · have h1 : unsp h x ∈ xs0 := by rw [← hm]; exact List.mem_map_of_mem hx
    have h2 := hu _ h1
    unfold unsp at h2
    split at h2
    · rename_i e
      have h3 : x.made < h := h2.1
      omega
    · omega
  · obtain ⟨h1, h2⟩ := hn x hx
    omega
theorem Und.ne {h : Int} {xs : List Cel} (hu : Und h xs) : ∀ x ∈ xs, x.made ≠ h ∧ x.spent ≠ h := fun x hx => by have := hu x hx; omega
/-- what Connect says of a chain whose outputs are all of blocks below its height -/
theorem conn_cases (h : Int) (xs : List Cel) (bl : List TxD) (hu : Und h xs) (hh : 0 ≤ h) :
    ((connZ h xs bl).1 ≠ 0 ∧ (connZ h xs bl).2.2 = (h, xs)) ∨ (h < 40 ∧ (connZ h xs bl).1 = 0 ∧ (connZ h xs bl).2.1 = 0 ∧ (connZ h xs bl).2.2.1 = h + 1 ∧ Over h xs (connZ h xs bl).2.2.2) := by
  unfold connZ
  by_cases h40 : 40 ≤ h
  · rw [if_pos h40]; left; simp
  · rw [if_neg h40]
    by_cases h6 : 6 < bl.length
    · rw [if_pos h6]; left; simp
    · rw [if_neg h6]
      obtain ⟨g1, g2⟩ := over_go (h := h) (by omega) bl xs 0 (over_refl hu.ne)
      by_cases e : (connGo h xs bl 0).1 ≠ 0
      · rw [if_pos e]
        left
        refine ⟨e, ?_⟩
        simp only
        rw [g1 e]
      · rw [if_neg e]
        right
        exact ⟨by omega, rfl, rfl, rfl, g2 (by simpa using e)⟩
theorem go_len (h : Int) : ∀ (bl : List TxD) (xs : List Cel) (i : Nat), Vals xs → (connGo h xs bl i).1 = 0 → Vals (connGo h xs bl i).2.2 ∧ (connGo h xs bl i).2.2.length ≤ xs.length + 8 * bl.length := by
  intro bl
  induction bl with
  | nil => intro xs i hv _; exact ⟨hv, by simp [connGo]⟩
  | cons t r ih =>
    intro xs i hv
    obtain ⟨a1, a2⟩ := addZ_good xs h t.t t.ins t.ys (i == 0) hv
    unfold connGo
    by_cases e : (addZ xs h t.t t.ins t.ys (i == 0)).1 ≠ 0
    · rw [if_pos e]
      intro h0
      exact absurd h0 e
    · rw [if_neg e]
      intro h0
      obtain ⟨b1, b2⟩ := ih _ _ a1 h0
      refine ⟨b1, ?_⟩
      simp only [List.length_cons]
      omega
theorem conn_len (h : Int) (xs : List Cel) (bl : List TxD) (hv : Vals xs) (h0 : (connZ h xs bl).1 = 0) : Vals (connZ h xs bl).2.2.2 ∧ (connZ h xs bl).2.2.2.length ≤ xs.length + 48 := by
  unfold connZ at h0 ⊢
  by_cases h40 : 40 ≤ h
  · rw [if_pos h40] at h0; simp at h0
  · rw [if_neg h40] at h0 ⊢
    by_cases h6 : 6 < bl.length
    · rw [if_pos h6] at h0; simp at h0
    · rw [if_neg h6] at h0 ⊢
      by_cases e : (connGo h xs bl 0).1 ≠ 0
      · rw [if_pos e] at h0; exact absurd h0 e
      · rw [if_neg e]
        have := go_len h bl xs 0 hv (by simpa using e)
        refine ⟨this.1, ?_⟩
        have := this.2
        simp only
        omega
end Go.Proofs.Ytffgpepngcnjeab
namespace Go.Proofs.Ytffgpepngcnjeab
open Go.RowKit
def InD.st (x : InD) : InD := ⟨x.id, x.pos, none, x.n, 0, x.l⟩
def SpD.st (x : SpD) : SpD := match x with
  | ⟨a, b, c, _, n, _, l⟩ => ⟨a, b, c, none, n, 0, l⟩
/-- the contents of a transaction -/
def TxD.k (x : TxD) : Int × List InD × List (Int × Int) := (x.t, x.ins.map InD.st, x.ys)
theorem same_st {xs xs' : List InD} (hl : xs'.length = xs.length) (h : ∀ j, j < xs.length → Same (xs.getD j dIn) (xs'.getD j dIn)) : xs'.map InD.st = xs.map InD.st := by
  apply List.ext_getElem
  · rw [List.length_map, List.length_map, hl]
  · intro j h1 h2
    rw [List.length_map] at h1 h2
    have := h j h2
    simp only [List.getD, List.getElem?_eq_getElem h1, List.getElem?_eq_getElem h2, Option.getD_some] at this
    obtain ⟨e1, e2, e3, e4⟩ := this
    rw [List.getElem_map, List.getElem_map]
    unfold InD.st
    rw [e1, e2, e3, e4]
end Go.Proofs.Ytffgpepngcnjeab

namespace Go.Proofs.Ytffgpepngcnjeab
open Go.RowKit
/-- the blocks that were taken, and the chains ahead of each -/
def Hst : Nat → List Cel → List (List TxD) → List (List Cel) → Prop
  | 0, xs, bls, ps => xs = [] ∧ bls = [] ∧ ps = []
  | h + 1, xs, bls, ps => ∃ p bls0 ps0 bl, bls = bls0 ++ [bl] ∧ ps = ps0 ++ [p] ∧ Hst h p bls0 ps0 ∧ connZ h p bl = (0, 0, (h : Int) + 1, xs)
theorem Hst.facts : ∀ (h : Nat) (xs : List Cel) (bls : List (List TxD)) (ps : List (List Cel)), Hst h xs bls ps → Und h xs ∧ Vals xs ∧ xs.length ≤ 48 * h ∧ h ≤ 40 ∧ bls.length = h ∧ ps.length = h := by
  intro h
  induction h with
  | zero =>
    intro xs bls ps hh
    obtain ⟨rfl, rfl, rfl⟩ := hh
    exact ⟨fun x hx => by simp at hx, fun x hx => by simp at hx, by simp, by omega, rfl, rfl⟩
  | succ h ih =>
    intro xs bls ps hh
    obtain ⟨p, bls0, ps0, bl, rfl, rfl, h0, hc⟩ := hh
    obtain ⟨a1, a2, a3, a4, a5, a6⟩ := ih p bls0 ps0 h0
    have e1 : (connZ h p bl).1 = 0 := by rw [hc]
    obtain ⟨b1, b2⟩ := conn_len h p bl a2 e1
    rcases conn_cases h p bl a1 (by omega) with ⟨c1, _⟩ | ⟨c1, _, _, _, c5⟩
    · exact absurd e1 c1
    · rw [hc] at b1 b2 c5
      simp only at b1 b2 c5
      refine ⟨by have := a1.over c5 (by omega); push_cast; exact this, b1, by omega, by omega, by simp [a5], by simp [a6]⟩
theorem hst_last {h : Nat} {xs : List Cel} {bls : List (List TxD)} {ps : List (List Cel)} (hh : Hst (h + 1) xs bls ps) : ∃ p bls0 ps0 bl, bls = bls0 ++ [bl] ∧ ps = ps0 ++ [p] ∧ Hst h p bls0 ps0 ∧ connZ h p bl = (0, 0, (h : Int) + 1, xs) ∧ tbZ h xs = p := by
  obtain ⟨p, bls0, ps0, bl, e1, e2, h0, hc⟩ := hh
  refine ⟨p, bls0, ps0, bl, e1, e2, h0, hc, ?_⟩
  obtain ⟨a1, _⟩ := Hst.facts h p bls0 ps0 h0
  rcases conn_cases h p bl a1 (by omega) with ⟨c1, _⟩ | ⟨_, _, _, _, c5⟩
  · rw [hc] at c1; simp at c1
  · rw [hc] at c5
    exact tb_over c5
end Go.Proofs.Ytffgpepngcnjeab

namespace Go.Proofs.Ytffgpepngcnjeab
open Go.RowKit
def Cel.nm (x : Cel) : Int × Int := (x.id, x.pos)
theorem markZ_nm (h : Int) : ∀ (ss : List SpD) (xs : List Cel), (markZ h xs ss).map Cel.nm = xs.map Cel.nm := by
  intro ss
  induction ss with
  | nil => intro xs; rfl
  | cons s r ih =>
    intro xs
    rw [markZ, ih]
    by_cases hq : s.pl.toNat < xs.length
    · exact set_map_same Cel.nm xs _ _ dC hq rfl
    · rw [List.set_eq_of_length_le (by omega)]
theorem addZ_nm (xs : List Cel) (h t : Int) (ins : List InD) (ys : List (Int × Int)) (first : Bool) (hn : (xs.map Cel.nm).Nodup) : ((addZ xs h t ins ys first).2.map Cel.nm).Nodup := by
  rcases addZ_cases xs h t ins ys first with ⟨_, h2⟩ | ⟨_, _, h3, ss, _, _, _, he⟩
  · rw [h2]; exact hn
  · rw [he]
    show ((markZ h xs ss ++ newC (idZ t ins ys) h ys ys.length).map Cel.nm).Nodup
    rw [List.map_append, markZ_nm, List.nodup_append]
    refine ⟨hn, ?_, fun a ha b hb e => ?_⟩
    · unfold newC
      rw [List.map_map]
      refine List.pairwise_map.2 (List.Pairwise.imp ?_ List.nodup_range)
      intro i j hij e
      have := congrArg Prod.snd e
      simp only [Function.comp, Cel.nm] at this
      omega
    · obtain ⟨x, hx, rfl⟩ := List.mem_map.1 ha
      obtain ⟨y, hy, rfl⟩ := List.mem_map.1 hb
      unfold newC at hy
      obtain ⟨j, _, rfl⟩ := List.mem_map.1 hy
      have e1 : x.id = idZ t ins ys := congrArg Prod.fst e
      unfold hasId at h3
      rw [List.any_eq_false] at h3
      exact h3 x hx (by rw [e1]; simp)
theorem go_nm (h : Int) : ∀ (bl : List TxD) (xs : List Cel) (i : Nat), (xs.map Cel.nm).Nodup → (connGo h xs bl i).1 = 0 → ((connGo h xs bl i).2.2.map Cel.nm).Nodup := by
  intro bl
  induction bl with
  | nil => intro xs i hv _; exact hv
  | cons t r ih =>
    intro xs i hv
    unfold connGo
    by_cases e : (addZ xs h t.t t.ins t.ys (i == 0)).1 ≠ 0
    · rw [if_pos e]
      intro h0
      exact absurd h0 e
    · rw [if_neg e]
      intro h0
      exact ih _ _ (addZ_nm xs h t.t t.ins t.ys (i == 0) hv) h0
theorem Hst.nm : ∀ (h : Nat) (xs : List Cel) (bls : List (List TxD)) (ps : List (List Cel)), Hst h xs bls ps → (xs.map Cel.nm).Nodup := by
  intro h
  induction h with
  | zero =>
    intro xs bls ps hh
    obtain ⟨rfl, rfl, rfl⟩ := hh
    exact List.nodup_nil
  | succ h ih =>
    intro xs bls ps hh
    obtain ⟨p, bls0, ps0, bl, rfl, rfl, h0, hc⟩ := hh
    have h1 := ih p bls0 ps0 h0
    unfold connZ at hc
    split at hc
    · injection hc with hc _; omega
    · split at hc
      · injection hc with hc _; omega
      · split at hc
        · rename_i e
          injection hc with hc _
          exact absurd hc e
        · rename_i e
          injection hc with _ hc
          injection hc with _ hc
          injection hc with _ hc
          rw [← hc]
          exact go_nm _ bl p 0 h1 (by simpa using e)
/-- a chain that came to be block by block -/
def Chn (h : Nat) (xs : List Cel) : Prop := ∃ bls ps, Hst h xs bls ps
theorem Chn.zero : Chn 0 [] := ⟨[], [], rfl, rfl, rfl⟩
theorem Chn.facts {h : Nat} {xs : List Cel} (u : Chn h xs) : Vals xs ∧ xs.length ≤ 1920 ∧ h ≤ 40 ∧ (xs.map Cel.nm).Nodup := by
  obtain ⟨bls, ps, hh⟩ := u
  obtain ⟨_, a2, a3, a4, _, _⟩ := Hst.facts h xs bls ps hh
  exact ⟨a2, by omega, a4, Hst.nm h xs bls ps hh⟩
theorem Chn.conn {h : Nat} {xs : List Cel} (u : Chn h xs) (bl : List TxD) : ∃ h' : Nat, (connZ h xs bl).2.2.1 = (h' : Int) ∧ Chn h' (connZ h xs bl).2.2.2 := by
  obtain ⟨bls, ps, hh⟩ := u
  obtain ⟨a1, _⟩ := Hst.facts h xs bls ps hh
  rcases conn_cases h xs bl a1 (by omega) with ⟨_, c2⟩ | ⟨c1, c2, c3, c4, _⟩
  · have e1 : (connZ h xs bl).2.2.1 = (h : Int) := by rw [c2]
    have e2 : (connZ h xs bl).2.2.2 = xs := by rw [c2]
    exact ⟨h, e1, by rw [e2]; exact ⟨bls, ps, hh⟩⟩
  · refine ⟨h + 1, by rw [c4]; push_cast; rfl, bls ++ [bl], ps ++ [xs], xs, bls, ps, bl, rfl, rfl, hh, ?_⟩
    have : connZ h xs bl = ((connZ h xs bl).1, (connZ h xs bl).2.1, (connZ h xs bl).2.2.1, (connZ h xs bl).2.2.2) := rfl
    rw [this, c2, c3, c4]
theorem Chn.dis {h : Nat} {xs : List Cel} (u : Chn (h + 1) xs) : Chn h (tbZ h xs) := by
  obtain ⟨bls, ps, hh⟩ := u
  obtain ⟨p, bls0, ps0, bl, _, _, h0, _, h2⟩ := hst_last hh
  exact ⟨bls0, ps0, by rw [h2]; exact h0⟩
end Go.Proofs.Ytffgpepngcnjeab

namespace Go.Proofs.Ytffgpepngcnjeab
open Go.RowKit
def CoinD.nm (x : CoinD) : Int × Int := (x.id, x.pos)
def CoinC.nm (x : CoinC) : Int × Int := (x.id, x.pos)
theorem ownFold_nm (ks : List KeyD) : ∀ (l : List CoinC) (acc : List CoinD), (l.map CoinC.nm ++ acc.map CoinD.nm).Nodup → ((l.foldl (ownStep ks) acc).map CoinD.nm).Nodup := by
  intro l
  induction l with
  | nil => intro acc h; simpa using h
  | cons x t ih =>
    intro acc h
    rw [List.foldl_cons]
    refine ih _ ?_
    unfold ownStep
    split
    · rw [List.map_cons, List.cons_append] at h
      exact (List.nodup_cons.1 h).2
    · have hp : ((insZ false acc (coinK x (ks.getD (firstZ ks x.ad).toNat dK))).map CoinD.nm).Perm (x.nm :: acc.map CoinD.nm) := (insZ_perm false acc _).map CoinD.nm
      refine ((List.Perm.append_left _ hp).nodup_iff).2 ?_
      rw [List.map_cons, List.cons_append] at h
      exact (List.perm_middle.nodup_iff).2 h
theorem own_nm (xs : List Cel) (s : Int) (g : Nat) (h : (xs.map Cel.nm).Nodup) : ((ownOf xs s g).map CoinD.nm).Nodup := by
  refine ownFold_nm _ _ _ ?_
  rw [List.map_nil, List.append_nil]
  unfold coinsC
  rw [List.map_map]
  exact List.Nodup.sublist (List.Sublist.map Cel.nm List.filter_sublist) h
theorem nm_uq {l : List CoinD} (h : (l.map CoinD.nm).Nodup) : ∀ x ∈ l, ∀ y ∈ l, x.id = y.id → x.pos = y.pos → x = y := by
  induction l with
  | nil => intro x hx; cases hx
  | cons z t ih =>
    rw [List.map_cons, List.nodup_cons] at h
    intro x hx y hy e1 e2
    have e : x.nm = y.nm := Prod.ext e1 e2
    rcases List.mem_cons.1 hx with k1 | k1
    · rcases List.mem_cons.1 hy with k2 | k2
      · rw [k1, k2]
      · exact absurd (by rw [← k1, e]; exact List.mem_map_of_mem k2) h.1
    · rcases List.mem_cons.1 hy with k2 | k2
      · exact absurd (by rw [← k2, ← e]; exact List.mem_map_of_mem k1) h.1
      · exact ih h.2 x k1 y k2 e1 e2
/-- what a payment has -/
structure PayF (xs : List Cel) (s : Int) (g : Nat) (ps : List PayD) (ks : List (Int × Int)) (ys : List (Int × Int)) (cs : List CoinD) (zs : List (Int × Int)) : Prop where
  own : ∀ y ∈ cs, y ∈ ownOf xs s g ∧ freeB ps ks y = true
  l0 : 0 < cs.length
  l10 : cs.length ≤ 10
  nd : cs.Pairwise fun a b => ¬ (a.id = b.id ∧ a.pos = b.pos)
  zt : zs.take ys.length = ys
  zl : ys.length ≤ zs.length
  z8 : zs.length ≤ 8
  y7 : ys.length ≤ 7
theorem pay_facts {xs : List Cel} {s : Int} {g : Nat} {ps : List PayD} {ks : List (Int × Int)} {nx : Int} {ys : List (Int × Int)} {r tag : Int} {cs : List CoinD} {zs : List (Int × Int)} {ch : Int} (h : payZ xs s g ps ks nx ys r tag = .inr (cs, zs, ch)) (hn : (xs.map Cel.nm).Nodup) : PayF xs s g ps ks ys cs zs := by
  unfold payZ at h
  split at h
  · cases h
  rename_i hr
  split at h
  · cases h
  rename_i hy
  have hro : rOuts ys = true := by
    cases e : rOuts ys
    · exact absurd (Or.inr e) hy
    · rfl
  have hy7 : ys.length ≤ 7 := by
    by_cases e : 7 < ys.length
    · exact absurd (Or.inl e) hy
    · omega
  have hro2 := hro
  unfold rOuts at hro2
  rw [Bool.and_eq_true, decide_eq_true_iff, List.all_eq_true] at hro2
  have hpos : 0 < targetZ ys r := target_pos ys r (by omega) (by omega) (fun y hy => (rOut_bd (hro2.2 y hy)).2.1)
  split at h
  · cases h
  rename_i L c hc
  obtain ⟨s1, s2, s3, s4, s5⟩ := choose_some r _ _ hpos L c hc
  have hown : ∀ x ∈ L, x ∈ ownOf xs s g ∧ freeB ps ks x = true := fun x hx => List.mem_filter.1 (order_mem (s1.subset hx)).1
  have hnd : (L.map CoinD.nm).Nodup := by
    refine List.Nodup.sublist (List.Sublist.map _ s1) ?_
    refine (((order_perm r _).map CoinD.nm).nodup_iff).2 ?_
    refine List.Nodup.sublist (List.Sublist.map _ (List.Sublist.trans List.filter_sublist List.filter_sublist)) (own_nm xs s g hn)
  have hpw : L.Pairwise fun a b => ¬ (a.id = b.id ∧ a.pos = b.pos) := List.Pairwise.imp (fun h e => h (Prod.ext e.1 e.2)) (List.pairwise_map.1 hnd)
  have hl0 : 0 < L.length := List.length_pos_iff.2 s3
  have key : ∀ (ex : List (Int × Int)) (c2 : Int), ex.length ≤ 1 → payFin xs tag L (ys ++ ex) c2 = .inr (cs, zs, ch) → PayF xs s g ps ks ys cs zs := fun ex c2 he h => by
    unfold payFin at h
    split at h
    · cases h
    · injection h with h
      injection h with h1 h
      injection h with h2 h
      subst h1
      subst h2
      exact ⟨hown, hl0, s2, hpw, List.take_left, by rw [List.length_append]; omega, by rw [List.length_append]; omega, hy7⟩
  split at h
  · split at h
    · cases h
    · exact key _ _ (by simp) h
  · exact key [] _ (by simp) (by rw [List.append_nil]; exact h)
end Go.Proofs.Ytffgpepngcnjeab

namespace Go.Proofs.Ytffgpepngcnjeab
open Go.RowKit
theorem copy_outsQ (ao : Option Addr) (n c : Nat) (ys : List (Int × Int)) (w : World) (hr : OutsAt w ao ys) (hn : ys.length = n) (hm : n ≤ 8796093022208) (h0 : ao = none → c = 0) :
    ∃ w1, Sem.run Try.prog (Builtin.copy_ #[23, 23] 3 #[.slice (some ⟨w.heap.size, 0, none⟩) n n, .slice ao n c]) (w.alloc (.cells (Go.madeCells #[.int .i64 0, .int .i64 0] (n * 2)) 68)) = .ok (.int .i64 n) w1 ∧
      OutsAt w1 (some ⟨w.heap.size, 0, none⟩) ys ∧ Below w.heap.size w w1 := by
  cases ao with
  | none =>
    have hy : ys = [] := by
      rcases hr with h | ⟨b, o, e, _⟩
      · exact h
      · cases e
    subst hy
    simp only [List.length_nil] at hn
    subst hn
    rw [h0 rfl]
    exact ⟨_, run_copy_nil Try.prog _ 23 23 3 68 _ _ _ Try.underlying23 (by rw [sizeInfo56]; rfl), Or.inl rfl, (Below.refl _ _).alloc (Nat.le_refl _) _⟩
  | some a =>
    have hheap := heap_made w (Go.madeCells #[Value.int .i64 0, .int .i64 0] (n * 2)) 68
    have hl : (outL ys).length = n * 2 := by rw [outL_len, hn]; omega
    have hcs := copy_src (W := w.alloc (.cells (Go.madeCells #[.int .i64 0, .int .i64 0] (n * 2)) 68)) (ints_of_outs hr) ((Below.refl _ _).alloc (Nat.le_refl _) _) w.heap.size
    have hsrc : ∀ (j : Nat) (v : Value), ((outL ys).map (Value.int .i64))[j]? = some v → (w.alloc (.cells (Go.madeCells #[.int .i64 0, .int .i64 0] (n * 2)) 68)).cell? (a.add j) = some v := by
      intro j v hj
      by_cases hp : 0 < ((outL ys).map (Value.int .i64)).length
      · obtain ⟨_, ad, e, h⟩ := hcs hp
        cases e
        exact h j v hj
      · have : (outL ys).map (Value.int .i64) = [] := List.length_eq_zero_iff.1 (by omega)
        rw [this] at hj
        simp at hj
    have hlm : ((outL ys).map (Value.int .i64)).length = n * 2 := by rw [List.length_map, hl]
    have hrun := run_copy_wide Try.prog (w.alloc (.cells (Go.madeCells #[.int .i64 0, .int .i64 0] (n * 2)) 68)) 23 23 3 68 w.heap.size 0 n n a n c (Go.madeCells #[Value.int .i64 0, .int .i64 0] (n * 2)) 68 ((outL ys).map (Value.int .i64)) 2 Try.underlying23 sizeInfo56 hheap (by rw [hlm, show n.min n = n from Nat.min_self n]) hsrc (by rw [hlm, size_madeCells]; omega) (ints_one _)
    have hh := setRow_heap (w.alloc (.cells (Go.madeCells #[.int .i64 0, .int .i64 0] (n * 2)) 68)) w.heap.size (Go.madeCells #[Value.int .i64 0, .int .i64 0] (n * 2)) (splice (Go.madeCells #[Value.int .i64 0, .int .i64 0] (n * 2)).toList 0 ((outL ys).map (Value.int .i64))).toArray 68 (0, 0) hheap
    refine ⟨(w.alloc (.cells (Go.madeCells #[.int .i64 0, .int .i64 0] (n * 2)) 68)).setRow w.heap.size (splice (Go.madeCells #[Value.int .i64 0, .int .i64 0] (n * 2)).toList 0 ((outL ys).map (Value.int .i64))).toArray, ?_, ?_, below_setRow ((Below.refl _ _).alloc (Nat.le_refl _) _) (Nat.le_refl _) _⟩
    · rw [hrun, show n.min n = n from Nat.min_self n]
      simp [splice, goInt]
    · have hsp : splice (Go.madeCells #[Value.int .i64 0, .int .i64 0] (n * 2)).toList 0 ((outL ys).map (Value.int .i64)) = ys.flatMap kV := by
        unfold splice
        rw [List.take_zero, List.nil_append, List.drop_of_length_le (by rw [Array.length_toList, size_madeCells, hlm]; omega), List.append_nil, kV_outL]
      rw [hsp] at hh
      have hfl : (ys.flatMap kV).length = n * 2 := by rw [← kV_outL, hlm]
      have hw : OwnRec kV 68 2 ((w.alloc (.cells (Go.madeCells #[.int .i64 0, .int .i64 0] (n * 2)) 68)).setRow w.heap.size (splice (Go.madeCells #[Value.int .i64 0, .int .i64 0] (n * 2)).toList 0 ((outL ys).map (Value.int .i64))).toArray) w.heap.size (.slice (some ⟨w.heap.size, 0, none⟩) n n) ys := by
        refine ⟨by rw [hfl, hn], Or.inr ⟨w.heap.size, n, (ys.flatMap kV).toArray, by rw [hn], Nat.le_refl _, ?_, by omega, by unfold maxLen; omega, by rw [List.size_toArray]; exact hfl, ?_⟩⟩
        · rw [hsp]; exact hh
        · rw [List.take_of_length_le (by simp [hfl, hn])]
      exact rec_outs (own_atS kv2 hw)
theorem payZ_err {xs : List Cel} {s : Int} {g : Nat} {ps : List PayD} {ks : List (Int × Int)} {nx : Int} {ys : List (Int × Int)} {r tag x : Int} (h : payZ xs s g ps ks nx ys r tag = .inl x) : x ≠ 0 := by
  have key : ∀ (L : List CoinD) (zs : List (Int × Int)) (c2 : Int), payFin xs tag L zs c2 = .inl x → x ≠ 0 := fun L zs c2 h => by
    unfold payFin at h
    split at h
    · injection h with h; omega
    · cases h
  unfold payZ at h
  split at h
  · injection h with h; omega
  split at h
  · injection h with h; omega
  split at h
  · injection h with h; omega
  split at h
  · split at h
    · injection h with h; omega
    · exact key _ _ _ h
  · exact key _ _ _ h
variable {NP ND : Nat → Prop} {w : World} {B P : Nat} {s : Int} {g : Nat} {v : Value} {h : Int} {xs : List Cel} {vl vs : Value} {md nx : Int} {ps : List PayD} {ks : List (Int × Int)} {vd : Value} {ds : List DeedD}
/-- what lies behind the call of Pay and the box of what it gave -/
structure PQ (NP : Nat → Prop) (P : Nat) (s : Int) (g : Nat) (v : Value) (h : Int) (xs : List Cel) (vl vs : Value) (md nx : Int) (ps : List PayD) (ks : List (Int × Int)) (ys : List (Int × Int)) (r tag : Int) (a0 a1 a2 a3 a4 a5 : Value) (er : Int) (K : Nat) (w w2 wx : World) : Prop where
  vb : VB wx K a0 a1 a2 a3 a4 a5
  pay : PayOkR NP P s g v h xs vl vs md nx ps ks ys r tag a0 a1 a2 a3 a4 a5 er w wx
  fr : Fr (fun k => k = P ∨ vl.ownBlock = some k) w2 wx
abbrev Z34 : Obj := .cells #[.int .i64 0, .int .i64 0, .slice none 0 0, .slice none 0 0, .slice none 0 0, .int .i64 0] 34
theorem PQ.one {ys : List (Int × Int)} {r tag : Int} {a0 a1 a2 a3 a4 a5 : Value} {er : Int} {w2 w3 : World} {X : Nat} (u : PP NP w P s g v h xs vl vs md nx ps ks) (hb : Below w.heap.size w w2) (hX : w.heap.size ≤ X) (hX2 : X < w2.heap.size) (hr : PayOkR NP P s g v h xs vl vs md nx ps ks ys r tag a0 a1 a2 a3 a4 a5 er w2.drew w3) :
    PQ NP P s g v h xs vl vs md nx ps ks ys r tag a0 a1 a2 a3 a4 a5 er w3.heap.size w w2 (w3.alloc (.cells #[a0, a1, a2, a3, a4, a5] 34)) :=
  ⟨VB.new w3 _ _ _ _ _ _ 34, hr.lift u hb.drew hX hX2 (Fr.of_below ((Below.refl _ _).alloc (Nat.le_refl _) _) _), ((Fr.of_below (Below.refl _ _).drew _).trans (payOkR_fr hr)).alloc _⟩
theorem PQ.two {ys : List (Int × Int)} {r tag : Int} {a0 a1 a2 a3 a4 a5 : Value} {er : Int} {w2 w3 : World} {K : Nat} (u : PP NP w P s g v h xs vl vs md nx ps ks) (hb : Below w.heap.size w w2) (hK : w2.heap.size = K) (hr : PayOkR NP P s g v h xs vl vs md nx ps ks ys r tag a0 a1 a2 a3 a4 a5 er ((w2.alloc Z34).drew) w3) :
    VB w3 K (.int .i64 0) (.int .i64 0) (.slice none 0 0) (.slice none 0 0) (.slice none 0 0) (.int .i64 0) ∧ PQ NP P s g v h xs vl vs md nx ps ks ys r tag a0 a1 a2 a3 a4 a5 er K w w2 ((((((w3.setCell ⟨K, 0, none⟩ a0).setCell ⟨K, 1, none⟩ a1).setCell ⟨K, 2, none⟩ a2).setCell ⟨K, 3, none⟩ a3).setCell ⟨K, 4, none⟩ a4).setCell ⟨K, 5, none⟩ a5) := by
  have hsz := hb.size
  have bB : Below w2.heap.size w2 ((w2.alloc Z34).drew) := ((Below.refl _ _).alloc (Nat.le_refl _) _).drew
  have hv0 : VB ((w2.alloc Z34).drew) K (.int .i64 0) (.int .i64 0) (.slice none 0 0) (.slice none 0 0) (.slice none 0 0) (.int .i64 0) := by rw [← hK]; exact (VB.new w2 _ _ _ _ _ _ 34).grown ((Below.refl _ _).drew)
  have hKP : ¬ (K = P ∨ vl.ownBlock = some K) := fun e => by
    rcases e with e | e
    · have : P < w.heap.size := cell_lt u.pu.c0
      omega
    · have := (u.ls.ol.blk K e).2
      omega
  have hv3 := hv0.fr (payOkR_fr hr) hKP
  refine ⟨hv3, ⟨(((((hv3.s0 a0).s1 a1).s2 a2).s3 a3).s4 a4).s5 a5, hr.lift u (below_blk hb bB) (by omega) (by rw [World.size_drew, World.size_alloc]; omega) (fr6K w3 K a0 a1 a2 a3 a4 a5), ?_⟩⟩
  exact Fr.trans_new2 ((Fr.of_below bB _).trans (payOkR_fr hr)) (fr6K w3 K a0 a1 a2 a3 a4 a5) (fun q hq => by omega)
theorem LkB.push (hl : LkB ps ks ds) {p : PayD} {d : DeedD} (h1 : p.b = d.b) (h2 : d.lv = true) (h3 : d.sg = false) (h4 : d.num = (ds.length : Nat)) : LkB (ps ++ [p]) ks (ds ++ [d]) := by
  refine ⟨?_, fun i hi => ?_, fun b i => ?_⟩
  · rw [List.map_append, List.filter_append, List.map_append, hl.live]
    simp [h2, h1]
  · rw [List.length_append, List.length_singleton] at hi
    by_cases e : i < ds.length
    · have := hl.num i e
      simp only [List.getD, List.getElem?_append_left e] at this ⊢
      exact this
    · have e2 : i = ds.length := by omega
      subst e2
      simp [List.getD, h4]
  · rw [hl.used]
    unfold sealD
    rw [List.any_append]
    simp [h3]
/-- the book, and all below base left alone -/
def BkQ (base : Nat) (w : World) (B P : Nat) (s : Int) (g : Nat) (h : Int) (xs : List Cel) (ks : List (Int × Int)) (ds : List DeedD) : Prop :=
  ∃ NP ND v vl vs nx ps vd, Bk NP ND w B P s g v h xs vl vs (ds.length : Nat) nx ps ks vd ds ∧ LkB ps ks ds ∧ ∀ k, (chE P v k ∨ lsE P vl vs k ∨ NP k ∨ k = B ∨ vd.ownBlock = some k ∨ ND k) → base ≤ k
theorem own_someQ {α : Type} {f : α → List Value} {e k : Nat} {w : World} {base n c : Nat} {ao : Option Addr} {l : List α} (h : OwnRec f e k w base (.slice ao n c) l) {x : Addr} (hx : ao = some x) : (Value.slice ao n c).ownBlock = some x.block := by
  subst hx; rfl
theorem Bk.push {base : Nat} (u : Bk NP ND w B P s g v h xs vl vs (ds.length : Nat) nx ps ks vd ds) (hlk : LkB ps ks ds) (hba : ∀ k, (chE P v k ∨ lsE P vl vs k ∨ NP k ∨ k = B ∨ vd.ownBlock = some k ∨ ND k) → base ≤ k) {tag ch : Int} {cs : List CoinD} {zs : List (Int × Int)} {ai : Option Addr} {ni ci : Nat} {vo : Value} {ak : Option Addr} {nk ck : Nat} {wx W w7 : World} (hpay : PayGo NP P s g v h xs vl vs (ds.length : Nat) nx ps ks tag cs zs ch (.slice ai ni ci) vo (.slice ak nk ck) w wx) (hb : Below wx.heap.size wx W) {gd cd : Nat} {d : DeedD} (hown : OwnRec DeedD.v 98 11 w7 (B + 1) (.slice (some ⟨gd, 0, none⟩) (ds.length + 1) cd) (ds ++ [d])) (hg : W.grownBy w7 vd.ownBlock) (hl : vd.ownBlock = some gd ∨ W.heap.size ≤ gd)
    (d1 : d.num = (ds.length : Nat)) (d2 : d.cs = cs) (d3 : d.lv = true) (d4 : d.sg = false) (d5 : d.ai = ai) (d6 : d.ak = ak) (d7 : d.n = ni) (d8 : d.q = nk) (h10 : cs.length ≤ 10) :
    BkQ base (w7.setCell ⟨B, 2, none⟩ (.slice (some ⟨gd, 0, none⟩) (ds.length + 1) cd)) B P s g h xs ks (ds ++ [d]) ∧ Fr (fun k => base ≤ k) w (w7.setCell ⟨B, 2, none⟩ (.slice (some ⟨gd, 0, none⟩) (ds.length + 1) cd)) := by
  obtain ⟨vl', gc, cc, go, co, hpp, hpd, hfr, hsep⟩ := hpay
  have hBl : B < w.heap.size := cell_lt u.b0
  have hwx := hfr.size
  have hWs := hb.size
  have hPB := u.dj P (Or.inl (Or.inl rfl))
  have hold : ∀ k, (chE P v k ∨ lsE P vl vs k ∨ NP k) → k < w.heap.size := fun k hk => by
    rcases hk with hk | hk | hk
    · exact (u.pp.pu.blk k hk).2
    · exact u.pp.ls.blk k hk
    · exact (u.pp.ls.nN k hk).1
  have hvd : ∀ k, vd.ownBlock = some k → B < k ∧ k < w.heap.size := fun k hk => by have := u.od.blk k hk; omega
  -- from w to W
  have hE0 : ∀ k, (k = P ∨ vl.ownBlock = some k) → (chE P v k ∨ lsE P vl vs k ∨ NP k) := fun k e => by
    rcases e with e | e
    · exact Or.inl (Or.inl e)
    · exact Or.inr (Or.inl (Or.inr (Or.inl e)))
  have hfW : Fr (fun k => k = P ∨ vl.ownBlock = some k) w W := hfr.trans (Fr.of_below hb _)
  -- from W to the end
  have hfE : Fr (fun k => k = B ∨ vd.ownBlock = some k) W (w7.setCell ⟨B, 2, none⟩ (.slice (some ⟨gd, 0, none⟩) (ds.length + 1) cd)) := (Fr.of_gb hg (fun k hk _ => Or.inr hk)).set B 2 _ (fun _ => Or.inl rfl)
  have hfA : Fr (fun k => base ≤ k) w (w7.setCell ⟨B, 2, none⟩ (.slice (some ⟨gd, 0, none⟩) (ds.length + 1) cd)) := by
    refine (hfW.weak (fun k _ e => ?_)).trans (hfE.weak (fun k _ e => ?_))
    · rcases hE0 k e with e | e | e
      · exact hba k (Or.inl e)
      · exact hba k (Or.inr (Or.inl e))
      · exact hba k (Or.inr (Or.inr (Or.inl e)))
    · rcases e with e | e
      · exact hba k (Or.inr (Or.inr (Or.inr (Or.inl e))))
      · exact hba k (Or.inr (Or.inr (Or.inr (Or.inr (Or.inl e)))))
  have hbw : base ≤ w.heap.size := by have := hba B (Or.inr (Or.inr (Or.inr (Or.inl rfl)))); omega
  -- the purse's blocks, behind the payment
  have hNew : ∀ k, (chE P v k ∨ lsE P vl' vs k ∨ (NP k ∨ k = gc ∨ k = go)) → (chE P v k ∨ lsE P vl vs k ∨ NP k) ∨ (w.heap.size ≤ k ∧ k < wx.heap.size ∧ (Value.slice ai ni ci).ownBlock ≠ some k ∧ (Value.slice ak nk ck).ownBlock ≠ some k) := fun k hk => by
    have new : (vl'.ownBlock = some k ∨ k = gc ∨ k = go) → (chE P v k ∨ lsE P vl vs k ∨ NP k) ∨ (w.heap.size ≤ k ∧ k < wx.heap.size ∧ (Value.slice ai ni ci).ownBlock ≠ some k ∧ (Value.slice ak nk ck).ownBlock ≠ some k) := fun e => by
      rcases hsep k e with e2 | ⟨e2, e3, e4, e5⟩
      · exact Or.inl (Or.inr (Or.inl (Or.inr (Or.inl e2))))
      · refine Or.inr ⟨e2, ?_, e3, e5⟩
        rcases e with e | e
        · exact (hpp.ls.ol.blk k e).2
        · exact (hpp.ls.nN k (Or.inr e)).1
    rcases hk with hk | hk | hk
    · exact Or.inl (Or.inl hk)
    · rcases hk with hk | hk | hk
      · exact Or.inl (Or.inl (Or.inl hk))
      · exact new (Or.inl hk)
      · exact Or.inl (Or.inr (Or.inl (Or.inr (Or.inr hk))))
    · rcases hk with hk | hk
      · exact Or.inl (Or.inr (Or.inr hk))
      · exact new (Or.inr hk)
  have hNB : ∀ k, (chE P v k ∨ lsE P vl' vs k ∨ (NP k ∨ k = gc ∨ k = go)) → ¬ (k = B ∨ vd.ownBlock = some k) := fun k hk e => by
    rcases hNew k hk with h1 | ⟨h1, _⟩
    · have := u.dj k h1
      exact e.elim this.1 this.2.1
    · rcases e with e | e
      · omega
      · have := hvd k e; omega
  have hppW := hpp.grown hb
  have hppE := hppW.fr hfE (fun k hk => hNB k (Or.inl hk)) (fun k hk => hNB k (Or.inr (Or.inl hk))) (fun k hk => hNB k (Or.inr (Or.inr hk)))
  have hBP : ¬ (B = P ∨ vl.ownBlock = some B) := fun e => (u.dj B (hE0 B e)).1 rfl
  have hBvd : some B ≠ vd.ownBlock := fun e => by have := hvd B e.symm; omega
  have hgdB : gd ≠ B := fun e => by
    rcases hl with h1 | h1
    · have := hvd gd h1; omega
    · omega
  have hndE : ∀ k, ND k → ¬ (k = P ∨ vl.ownBlock = some k) := fun k hk e => (u.dj k (hE0 k e)).2.2 hk
  have hndF : ∀ k, ND k → ¬ (k = B ∨ vd.ownBlock = some k) := fun k hk e => e.elim (u.nd k hk).2.1 (u.nd k hk).2.2
  have hiN : ∀ k, (Value.slice ai ni ci).ownBlock = some k → w.heap.size ≤ k ∧ k < wx.heap.size := hpd.oi.blk
  have hkN : ∀ k, (Value.slice ak nk ck).ownBlock = some k → w.heap.size ≤ k ∧ k < wx.heap.size := hpd.ok.blk
  have hnF : ∀ k, w.heap.size ≤ k → ¬ (k = B ∨ vd.ownBlock = some k) := fun k hk e => by
    rcases e with e | e
    · omega
    · have := hvd k e; omega
  have hlen : (ds ++ [d]).length = ds.length + 1 := by simp
  have hln : cs.length = ni := by
    obtain ⟨a', c', e', _⟩ := OwnRec.at inC3 hpd.oi
    injection e' with _ e' _; exact e'.symm
  have hlq : cs.length = nk := by
    obtain ⟨a', c', e', _⟩ := OwnRec.at kC2 hpd.ok
    injection e' with _ e' _; exact e'.symm
  have hdok : DeedOk (fun k => ND k ∨ (Value.slice ai ni ci).ownBlock = some k ∨ (Value.slice ak nk ck).ownBlock = some k) (w7.setCell ⟨B, 2, none⟩ (.slice (some ⟨gd, 0, none⟩) (ds.length + 1) cd)) d := by
    refine ⟨?_, ?_, by rw [d2, d7]; exact hln, by rw [d7, d8, ← hln, ← hlq], by rw [d7, ← hln]; exact h10, fun _ x hx => ?_, fun _ x hx => ?_⟩
    · rw [d5, d2]
      exact rec_fr hfE ((own_atS inC3 hpd.oi).grown hb) (fun _ x hx => hnF _ (hiN _ (own_someQ hpd.oi hx)).1)
    · rw [d6, d2]
      exact rec_fr hfE ((own_atS kC2 hpd.ok).grown hb) (fun _ x hx => hnF _ (hkN _ (own_someQ hpd.ok hx)).1)
    · rw [d5] at hx
      exact Or.inr (Or.inl (own_someQ hpd.oi hx))
    · rw [d6] at hx
      exact Or.inr (Or.inr (own_someQ hpd.ok hx))
  have hsz9 := hfE.size
  have hgd9 : gd < w7.heap.size := (hown.blk gd rfl).2
  have hnew9 : ∀ k, (chE P v k ∨ lsE P vl' vs k ∨ (NP k ∨ k = gc ∨ k = go)) → k < wx.heap.size := fun k hk => by
    rcases hNew k hk with h1 | h1
    · have := hold k h1; omega
    · exact h1.2.1
  have hlk2 : LkB (ps ++ [⟨((ds.length : Nat) : Int), some ⟨gc, 0, none⟩, cs.length, cc, some ⟨go, 0, none⟩, zs.length, co, tag, false, cs, zs⟩]) ks (ds ++ [d]) := hlk.push (by unfold PayD.b DeedD.b; rw [d1, d2, d4]) d3 d4 d1
  refine ⟨⟨fun k => NP k ∨ k = gc ∨ k = go, fun k => ND k ∨ (Value.slice ai ni ci).ownBlock = some k ∨ (Value.slice ak nk ck).ownBlock = some k, v, vl', vs, (if nx ≤ ch then ch + 1 else nx), _, .slice (some ⟨gd, 0, none⟩) (ds.length + 1) cd, ⟨?_, ?_, ?_, ?_, fun j => ?_, ?_, fun d' hd' => ?_, fun k hk => ⟨?_, ?_, ?_⟩, fun k hk => ?_⟩, hlk2, fun k hk => ?_⟩, hfA⟩
  · rw [hlen]; push_cast; exact hppE
  · exact so (gb_cell hg (hfW.cell u.b0 hBP) hBvd) (by omega)
  · exact so (gb_cell hg (hfW.cell u.b1 hBP) hBvd) (by omega)
  · exact World.cell?_setCell_same _ _ _ (gb_cell hg (hfW.cell u.b2 hBP) hBvd)
  · rw [World.frozen?_setCell]
    exact (gb_frozen hg (by omega) hBvd).trans ((hfW.frozen hBl hBP).trans (u.fb j))
  · exact hown.gb (gb_set w7 B 2 _) (fun k hk e => by simp [Value.ownBlock] at hk; injection e with e; omega)
  · rcases List.mem_append.1 hd' with hd' | hd'
    · exact (((u.ok d' hd').fr hfW hndE).fr hfE hndF).more (fun k hk => Or.inl hk)
    · rw [List.mem_singleton.1 hd']; exact hdok
  · exact fun e => hNB k hk (Or.inl e)
  · intro e
    simp [Value.ownBlock] at e
    subst e
    rcases hl with h1 | h1
    · exact hNB _ hk (Or.inr h1)
    · have := hnew9 _ hk; omega
  · intro e
    rcases hNew k hk with h1 | ⟨h1, h2, h3, h4⟩
    · rcases e with e | e | e
      · exact (u.dj k h1).2.2 e
      · have := (hiN k e).1; have := hold k h1; omega
      · have := (hkN k e).1; have := hold k h1; omega
    · rcases e with e | e | e
      · have := (u.nd k e).1; omega
      · exact h3 e
      · exact h4 e
  · have hk2 : k < wx.heap.size ∧ ¬ (k = B ∨ vd.ownBlock = some k) := by
      rcases hk with hk | hk | hk
      · exact ⟨by have := (u.nd k hk).1; omega, hndF k hk⟩
      · exact ⟨(hiN k hk).2, hnF k (hiN k hk).1⟩
      · exact ⟨(hkN k hk).2, hnF k (hkN k hk).1⟩
    refine ⟨by omega, fun e => hk2.2 (Or.inl e), fun e => ?_⟩
    simp [Value.ownBlock] at e
    subst e
    rcases hl with h1 | h1
    · exact hk2.2 (Or.inr h1)
    · omega
  · have pur : (chE P v k ∨ lsE P vl' vs k ∨ (NP k ∨ k = gc ∨ k = go)) → base ≤ k := fun e => by
      rcases hNew k e with h1 | h1
      · rcases h1 with h1 | h1 | h1
        · exact hba k (Or.inl h1)
        · exact hba k (Or.inr (Or.inl h1))
        · exact hba k (Or.inr (Or.inr (Or.inl h1)))
      · omega
    rcases hk with hk | hk | hk | hk | hk | hk
    · exact pur (Or.inl hk)
    · exact pur (Or.inr (Or.inl hk))
    · exact pur (Or.inr (Or.inr hk))
    · exact hba k (Or.inr (Or.inr (Or.inr (Or.inl hk))))
    · simp [Value.ownBlock] at hk
      subst hk
      rcases hl with h1 | h1
      · exact hba _ (Or.inr (Or.inr (Or.inr (Or.inr (Or.inl h1)))))
      · omega
    · rcases hk with hk | hk | hk
      · exact hba k (Or.inr (Or.inr (Or.inr (Or.inr (Or.inr hk)))))
      · have := (hiN k hk).1; omega
      · have := (hkN k hk).1; omega
end Go.Proofs.Ytffgpepngcnjeab
