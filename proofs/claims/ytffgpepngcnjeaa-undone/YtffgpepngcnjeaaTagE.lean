import Derived.Test.YtffgpepngcnjeaaTagD
import Derived.Deep.RegionLaw
namespace Go.Proofs.Ytffgpepngcnjeaa
open Go.RowKit

theorem cells3_drew (w : World) (x y z : Value) (T : TypeId) : (w.alloc (.cells #[x, y, z] T)).drew.cell? ⟨w.heap.size, 0, none⟩ = some x ∧ (w.alloc (.cells #[x, y, z] T)).drew.cell? ⟨w.heap.size, 1, none⟩ = some y ∧ (w.alloc (.cells #[x, y, z] T)).drew.cell? ⟨w.heap.size, 2, none⟩ = some z := by
  refine ⟨?_, ?_, ?_⟩
  all_goals
    rw [World.cell?_drew, World.cell?_alloc_new]
    rfl

theorem own_slice' {w : World} {base g n : Nat} {l : List Int} (h : OwnInts w base (.slice (some ⟨g, 0, none⟩) n n) l) (hn : l.length = n) : IntsAt w (some ⟨g, 0, none⟩) l ∧ l.length = n := by
  obtain ⟨ao, c, e, hat, _⟩ := h.slice
  injection e with e1 e2 e3
  rw [e1]
  exact ⟨hat, hn⟩

theorem outs_one (ys : List (Int × Int)) : ∀ v ∈ outCs ys, v.oneCell' = true := by
  rw [outCs_map]
  exact ints_one _
theorem outCs_len (ys : List (Int × Int)) : (outCs ys).length = ys.length * 2 := by
  rw [outCs_map, List.length_map, outL_len]
  omega

theorem copy_outsTx {w wr : World} {XB : Nat} {T : Int} {vi V vo0 : Value} {ap : Option Addr} {m d : Nat} {ys : List (Int × Int)} (hww : Below w.heap.size w wr) (hX : w.heap.size ≤ XB) (hXB : XB < wr.heap.size) (hy : OutsAt w ap ys) (hm : ys.length = m) (m1 : m ≤ 8796093022208) (h0 : ap = none → d = 0)
    (htx : Tx3 wr XB (.int .i64 T) vi vo0) (hV : V = .slice (some ⟨wr.heap.size, 0, none⟩) m m) :
    ∃ w1, Sem.run Try.prog (Builtin.copy_ #[23, 23] 3 #[.slice (some ⟨wr.heap.size, 0, none⟩) m m, .slice ap m d]) ((wr.setCell ⟨XB, 2, none⟩ V).alloc (.cells (madeCells #[.int .i64 0, .int .i64 0] (m * 2)) 111)) = .ok (.int .i64 m) w1 ∧
      OInv wr XB (fun _ => True) T vi V ys w1 := by
  have hsz : (wr.setCell ⟨XB, 2, none⟩ V).heap.size = wr.heap.size := World.size_setCell _ _ _
  have hbW : Below w.heap.size w ((wr.setCell ⟨XB, 2, none⟩ V).alloc (.cells (madeCells #[.int .i64 0, .int .i64 0] (m * 2)) 111)) := (hww.setCell hX _).alloc (by rw [hsz]; exact hww.size) _
  have hnil : ap = none → m = 0 ∧ d = 0 := by
    intro e
    refine ⟨?_, h0 e⟩
    rcases hy with rfl | ⟨b, off, e', _⟩
    · rw [← hm]; rfl
    · rw [e] at e'; cases e'
  have hheap := heap_made (wr.setCell ⟨XB, 2, none⟩ V) (madeCells #[.int .i64 0, .int .i64 0] (m * 2)) 111
  rw [hsz] at hheap
  have hsrc := ints_src ((ints_of_outs hy).grown hbW)
  rw [← outCs_map] at hsrc
  obtain ⟨w1, h1, h2, h3⟩ := copy_gen Try.underlying23 sizeInfo56 ((wr.setCell ⟨XB, 2, none⟩ V).alloc (.cells (madeCells #[.int .i64 0, .int .i64 0] (m * 2)) 111)) wr.heap.size m ap d (madeCells #[.int .i64 0, .int .i64 0] (m * 2)) (outCs ys) (by simpa using hheap) (by rw [size_madeCells]) (by rw [outCs_len, hm]) hsrc (outs_one ys) hnil
  refine ⟨w1, h1, ?_, fun _ _ => trivial, ?_, ?_, hXB⟩
  · subst hV
    have := owns_whole (base := wr.heap.size) (size := 2) (n := m) h2 (by rw [outCs_len, hm]) (Nat.le_refl _) (by unfold maxLen; omega)
    unfold OwnOuts
    rw [hm]
    exact this
  · exact ((htx.set2 V).gb (gb_alloc _ _ Option.none) (by simp)).gb h3 (fun e => by injection e with e; omega)
  · refine ⟨h3.os, h3.tape, h3.output, ?_, fun k hk hne => ?_⟩
    · have := h3.size; rw [World.size_alloc, hsz] at this; omega
    · refine (h3.block k (by rw [World.size_alloc, hsz]; omega) (fun e => by injection e with e; omega)).trans ?_
      rw [Below.heap_alloc _ _ _ (by rw [hsz]; exact hk)]
      exact Below.heap_setCell wr ⟨XB, 2, none⟩ V k (fun e => hne (by rw [e]))

set_option maxRecDepth 100000 in
set_option maxHeartbeats 4000000 in
theorem copyTx_any (t : Int) (ai : Option Addr) (n c : Nat) (ap : Option Addr) (m d : Nat) (xs : List InD) (ys : List (Int × Int)) (w : World) (hx : InsAt w ai xs) (hn : xs.length = n) (hy : OutsAt w ap ys) (hm : ys.length = m)
    (n1 : n ≤ 3518437208883) (m1 : m ≤ 8796093022208) (h0 : ap = none → d = 0) :
    Calls Try.prog 71 #[.agg #[.int .i64 t, .slice ai n c, .slice ap m d]] w fun e w' => ∃ vi vo xs', e = .returned (.agg #[.int .i64 t, vi, vo]) ∧ Fresh w' w.heap.size vi vo (fun j x => Same (xs.getD j dIn) x) xs' ys ∧ xs'.length = n ∧ Below w.heap.size w w' := by
  have HN : Hid (xs.length = n) := hn
  have HM : Hid (ys.length = m) := hm
  have HX : Hid (InsAt w ai xs) := hx
  have HY : Hid (OutsAt w ap ys) := hy
  have H0 : Hid _ := h0
  clear hn hm hx hy h0
  go_enter Try.func71, Try.ntmps71
  go_wp2
  obtain ⟨W2, HW2, hsz2, hbel2, bx, rs⟩ := htx_start w t ai ap n c m d
  rw [← HW2.out]
  have HBL2 : Hid _ := hbel2
  have HBX : Hid _ := bx
  have HRS : Hid _ := rs
  clear hbel2 bx rs
  generalize hX : w.heap.size = X at *
  have HXX : Hid _ := hX
  clear hX
  have HSZ2 : Hid (W2.heap.size = X + 1 + 1) := hsz2
  clear hsz2
  go_loopw [4] (fun i wr => ∃ (k : Nat) (vi : Value) (zs : List InD), k ≤ n ∧ i = .int .i64 k ∧ Hid (zs.length = k) ∧ SInv W2 (X + 1 + 1) (fun j x => Same (xs.getD j dIn) x) t vi (.slice none 0 0) zs wr) (fun i _ => n - (intOf i).toNat)
  case atStart =>
    refine ⟨0, _, [], Nat.zero_le _, rfl, rfl, OwnIns.nil _ _, fun j hj => by simp at hj, ?_, ?_, ?_⟩
    · rw [← HSZ2.out]; exact Tx3.new W2 _ _ _ _
    · exact (Below.refl _ _).alloc (by rw [HSZ2.out]; exact Nat.le_refl _) _
    · rw [World.size_alloc, HSZ2.out]; omega
  case round =>
    obtain ⟨k, vi, zs, hk, rfl, hzl, hinv⟩ := hrel
    have hbl := hinv.bel
    have hlt0 := hinv.lt
    obtain ⟨x0, x1, x2⟩ := HBX.out wr hbl
    have hw : Below X w wr := HBL2.out.trans (hbl.mono (by omega))
    have hww : Below w.heap.size w wr := by rw [HXX.out]; exact hw
    have HINV : Hid (SInv W2 (X + 1 + 1) (fun j x => Same (xs.getD j dIn) x) t vi (.slice none 0 0) zs wr) := hinv
    clear hinv
    by_cases hlt : k < n
    · rcases HX.out with hnil | ⟨b, off, rfl, hrow⟩
      · have := HN.out; rw [hnil] at this; simp at this; omega
      obtain ⟨⟨c0, c1, c2⟩, hok⟩ := (hrow.grown hww) k (by rw [HN.out]; exact hlt)
      clear hrow
      generalize hyy : xs.getD k dIn = y at c0 c1 c2 hok
      have HYY : Hid (xs.getD k dIn = y) := hyy
      clear hyy
      obtain ⟨yid, ypos, yao, yn, yc, yl⟩ := y
      obtain ⟨k1, k2, k3, k4⟩ := hok
      simp only at c0 c1 c2 k1 k2 k3 k4
      have hmk := make_intsN yn k3
      obtain ⟨w1, hrun, hos, hb1, hlt1⟩ := copy_seal yao yn yc yl wr k1 k2 k3 k4
      have hs := HINV.out.grown hb1
      have d1 := cell_move hb1 x1 (cell_lt x1)
      have d2 := cell_move hb1 c0 (cell_lt c0)
      have d3 := cell_move hb1 c1 (cell_lt c1)
      have t1 := hs.tx.c1
      have tf1 := hs.tx.f1
      have hszr := hs.lt
      have hvX : some (X + 1 + 1) ≠ vi.ownBlock := fun e => by have := (owns_blk hs.own _ e.symm).1; omega
      have hzl10 : zs.length < 3518437208883 := by rw [hzl.out]; omega
      have hXr : X < wr.heap.size := by omega
      have hbr : b < wr.heap.size := cell_lt c0
      have HS : Hid (SInv W2 (X + 1 + 1) (fun j x => Same (xs.getD j dIn) x) t vi (.slice none 0 0) zs w1) := hs
      have HB1 : Hid (Below wr.heap.size wr w1) := hb1
      have HVX : Hid _ := hvX
      have HOS : Hid (OwnInts w1 wr.heap.size (.slice (some ⟨wr.heap.size, 0, none⟩) yn yn) yl) := hos
      have K2 : Hid (yl.length = yn) := k2
      have e1 : (k : Int) < (n : Int) := by omega
      have e2 : (0 : Int) ≤ (k : Int) := by omega
      clear hs hb1 hvX hos k1 k2 k4
      go_wp2
      clear hmk hrun
      go_region_law (refine step_appIn _ ?_ (.tmp 33) (.tmp 48) ?_ (X + 1 + 1 + 1) w1.heap.size vi zs ⟨yid, ypos, some ⟨wr.heap.size, 0, none⟩, yn, yn, yl⟩ ?_ ?_ ?_ ?_ ?_ hzl10 ?_; rfl; rfl; rfl; rfl; exact (World.ownsRow.alloc HS.out.own _); exact cells3_drew _ _ _ _ _; exact Nat.le_trans hszr (le_oned _ _); intro g cap w2 hown2 hg hlies hglt; have hg2 := gb_trans (gb_trans (gb_alloc _ _ _) (gb_drew _ _)) hg; have q1 := gb_cell hg2 t1 HVX.out; have qf := (gb_frozen hg2 (b := X + 1 + 1) (o := 1) hszr HVX.out).trans tf1)
      all_goals
        go_wp2
        go_roundw
        case rel => exact ⟨k + 1, _, zs ++ [⟨yid, ypos, some ⟨wr.heap.size, 0, none⟩, yn, yn, yl⟩], by omega, by go_num, by show List.length _ = _; rw [List.length_append, hzl.out]; rfl, HINV.out.push HB1.out ⟨(own_slice' HOS.out K2.out).1, K2.out, k3, fun h => (by cases h)⟩ (by rw [hzl.out, HYY.out]; exact ⟨rfl, rfl, rfl, rfl⟩) (fun a ha => by injection ha with ha; subst ha; exact ⟨Nat.le_refl _, hlt1⟩) hown2 hg2 (hlies.imp id (fun h => Nat.le_of_succ_le (by simpa using h)))⟩
        case measure => simp [intOf]; omega
    · have hkn : k = n := by omega
      subst hkn
      obtain ⟨aio, ci, hvi⟩ : ∃ aio ci, vi = .slice aio zs.length ci := by
        rcases HINV.out.own.cells with ⟨h1, h2⟩ | ⟨g, cc, h1, _⟩
        · subst h2; exact ⟨_, _, h1⟩
        · exact ⟨_, _, h1⟩
      subst hvi
      have hmk := make_outsN m m1
      have t2 := HINV.out.tx.c2
      have tf := HINV.out.tx.f2
      have hXr : X < wr.heap.size := by omega
      obtain ⟨w1, hrun, ho⟩ := copy_outsTx (V := .slice (some ⟨wr.heap.size, 0, none⟩) m m) (T := t) (vi := .slice aio zs.length ci) (XB := X + 1 + 1) hww (by rw [HXX.out]; omega) hlt0 HY.out HM.out m1 H0.out HINV.out.tx rfl
      have hbx : Below (X + 1 + 1) W2 w1 := hbl.trans (gb_to_below ho.gb (by omega) (fun q hq => by injection hq with hq; omega))
      obtain ⟨⟨r0, r1, r2⟩, s0, s1, s2⟩ := HRS.out w1 hbx
      have q0 := ho.tx.c0
      have q1 := ho.tx.c1
      have q2 := ho.tx.c2
      have hfr := Fresh.of HINV.out ho
      have HFR : Hid (Fresh w1 (X + 1 + 1 + 1) (.slice aio zs.length ci) (.slice (some ⟨wr.heap.size, 0, none⟩) m m) (fun j x => Same (xs.getD j dIn) x) zs ys) := hfr
      clear hfr ho
      go_wp2
      refine bodyPost_ret (v := .agg #[.int .i64 t, .slice aio zs.length ci, .slice (some ⟨wr.heap.size, 0, none⟩) m m]) ?_ rfl ⟨_, _, zs, rfl, ?_, hzl.out, ?_⟩
      · simp [results, Try.results71, go_sem, r0, r1, r2]
      · rw [HXX.out]
        exact (HFR.out.gb (gb_put3 _ (X + 1) 0 _ _ _) (fun q hq => by injection hq with hq; omega)).lower (by omega)
      · rw [HXX.out]
        exact put3_below (HBL2.out.trans (hbx.mono (by omega))) (Nat.le_succ X)

end Go.Proofs.Ytffgpepngcnjeaa
