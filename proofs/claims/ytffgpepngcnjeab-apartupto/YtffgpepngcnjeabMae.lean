/-
  Package watch: put.
  Package watch: the own coins; what a purse shows of them.
  What a purse shows, and whether two show the same.
  Two lists of coins that are the same.
  Balance where there are no payments: all own coins are free.
  Which coins a payment takes, the plain part: the program's way and the document's.
  The order of the candidates: what is laid to its place, one after the other, is what is picked out, the greatest first.
-/
import Derived.Test.YtffgpepngcnjeabMad
import Derived.Deep.QuietTactic
import Derived.BigQuiet
namespace Go.Proofs.Ytffgpepngcnjeab
open Go.RowKit
/-- the list in the making: the block S with its slice, the coin in block X -/
structure PInv (gf : Bool) (v : Value) (w : World) (S X : Nat) (g n c : Nat) (L : List CoinD) (x : CoinD) (wr : World) : Prop where
  s0 : wr.cell? ⟨S, 1, none⟩ = some (.slice (some ⟨g, 0, none⟩) (n + 1) c)
  sf : wr.frozen? ⟨S, 1, none⟩ = false
  sg : wr.cell? ⟨S, 0, none⟩ = some (.bool gf)
  own : OwnRec CoinD.l 70 6 wr (S + 1) (.slice (some ⟨g, 0, none⟩) (n + 1) c) L
  len : L.length = n + 1
  row : VRow wr X 0 x.l
  fr : Fr (chE S v) w wr
  gl : v.ownBlock = some g ∨ w.heap.size ≤ g
  lt : S < g ∧ S < X ∧ g ≠ X
theorem fr_set6 {E : Nat → Prop} {w w' : World} (h : Fr E w w') (g p : Nat) (y : CoinD) (hE : g < w.heap.size → E g) : Fr E w (set6 w' g p y) :=
  (((((h.set g p _ hE).set g _ _ hE).set g _ _ hE).set g _ _ hE).set g _ _ hE).set g _ _ hE
theorem PInv.six {gf : Bool} {v : Value} {w : World} {S X g n c : Nat} {L : List CoinD} {x : CoinD} {wr : World} (h : PInv gf v w S X g n c L x wr) (q : Nat) (hq : q < n + 1) (y : CoinD) : PInv gf v w S X g n c (L.set q y) x (set6 wr g (q * 6) y) := by
  have hg := gb_set6 wr g (q * 6) y
  have hS : some S ≠ some g := fun e => by injection e with e; have := h.lt; omega
  have hX : some X ≠ some g := fun e => by injection e with e; have := h.lt; omega
  exact ⟨gb_cell hg h.s0 hS, (gb_frozen hg (cell_lt h.s0) hS).trans h.sf, gb_cell hg h.sg hS, own_set6 h.own h.len q hq y, by rw [List.length_set]; exact h.len, h.row.gb hg hX, fr_set6 h.fr g (q * 6) y (fun hl => Or.inr (h.gl.resolve_right (by omega))), h.gl, h.lt⟩
theorem PInv.drew {gf : Bool} {v : Value} {w : World} {S X g n c : Nat} {L : List CoinD} {x : CoinD} {wr : World} (h : PInv gf v w S X g n c L x wr) : PInv gf v w S X g n c L x wr.drew := ⟨h.s0, h.sf, h.sg, h.own, h.len, h.row, h.fr.drew, h.gl, h.lt⟩
theorem PInv.grown {gf : Bool} {v : Value} {w : World} {S X g n c : Nat} {L : List CoinD} {x : CoinD} {wr ws : World} (h : PInv gf v w S X g n c L x wr) (hb : Below wr.heap.size wr ws) : PInv gf v w S X g n c L x ws := by
  have hl : S < wr.heap.size := cell_lt h.s0
  exact ⟨(hb.cell (p := ⟨S, 1, none⟩) hl).trans h.s0, (hb.frozen (p := ⟨S, 1, none⟩) hl).trans h.sf, (hb.cell (p := ⟨S, 0, none⟩) hl).trans h.sg, h.own.grown hb, h.len, h.row.grown hb, h.fr.trans (Fr.of_below hb _), h.gl, h.lt⟩
theorem insI_succ (gf : Bool) (cs : List CoinD) (x : CoinD) (k : Nat) : insI gf cs x (k + 1) = if aheadG gf x (cs.getD k dN) = true then insI gf cs x k else k + 1 := rfl
theorem xrow {w : World} {X : Nat} {a0 a1 a2 a3 a4 a5 : Int} (h : VRow w X 0 (CoinD.l ⟨a0, a1, a2, a3, a4, a5⟩)) :
    w.cell? ⟨X, 0, none⟩ = some (.int .i64 a0) ∧ w.cell? ⟨X, 1, none⟩ = some (.int .i64 a1) ∧ w.cell? ⟨X, 2, none⟩ = some (.int .i64 a2) ∧ w.cell? ⟨X, 3, none⟩ = some (.int .i64 a3) ∧ w.cell? ⟨X, 4, none⟩ = some (.int .i64 a4) ∧ w.cell? ⟨X, 5, none⟩ = some (.int .i64 a5) :=
  ⟨h 0 (by simp [CoinD.l]), h 1 (by simp [CoinD.l]), h 2 (by simp [CoinD.l]), h 3 (by simp [CoinD.l]), h 4 (by simp [CoinD.l]), h 5 (by simp [CoinD.l])⟩
set_option maxRecDepth 100000 in
set_option maxHeartbeats 20000000 in
theorem put_any (gf : Bool) (S : Nat) (v : Value) (cs : List CoinD) (x : CoinD) (w : World) (h0 : w.cell? ⟨S, 1, none⟩ = some v) (hsg : w.cell? ⟨S, 0, none⟩ = some (.bool gf)) (hf : w.frozen? ⟨S, 1, none⟩ = false) (hown : OwnRec CoinD.l 70 6 w (S + 1) v cs) (hlen : cs.length ≤ 10000) :
    Calls Try.prog 83 #[.pointer (some ⟨S, 0, none⟩), coinV x] w fun e w' => e = .returned (.tuple #[]) ∧ ∃ v', w'.cell? ⟨S, 1, none⟩ = some v' ∧ w'.cell? ⟨S, 0, none⟩ = some (.bool gf) ∧ w'.frozen? ⟨S, 1, none⟩ = false ∧ OwnRec CoinD.l 70 6 w' (S + 1) v' (insZ gf cs x) ∧ ChStep S v v' w w' := by
  obtain ⟨a0, a1, a2, a3, a4, a5⟩ := x
  have HOWN : Hid (OwnRec CoinD.l 70 6 w (S + 1) v cs) := hown
  clear hown
  have hSl : S < w.heap.size := cell_lt h0
  generalize hn : cs.length = n at *
  have HN : Hid (cs.length = n) := hn
  clear hn
  go_enter Try.func83, Try.ntmps83
  go_upto_region 1 with fail
  have hX : VRow (w.alloc (.cells #[.int .i64 a0, .int .i64 a1, .int .i64 a2, .int .i64 a3, .int .i64 a4, .int .i64 a5] 70)) w.heap.size 0 (CoinD.l ⟨a0, a1, a2, a3, a4, a5⟩) := vrow_new _ _ _
  have hb0 : Below w.heap.size w (w.alloc (.cells #[.int .i64 a0, .int .i64 a1, .int .i64 a2, .int .i64 a3, .int .i64 a4, .int .i64 a5] 70)) := (Below.refl _ _).alloc (Nat.le_refl _) _
  have HOWN1 : Hid (OwnRec CoinD.l 70 6 (w.alloc (.cells #[.int .i64 a0, .int .i64 a1, .int .i64 a2, .int .i64 a3, .int .i64 a4, .int .i64 a5] 70)) (S + 1) v cs) := HOWN.out.alloc _
  generalize w.alloc (.cells #[.int .i64 a0, .int .i64 a1, .int .i64 a2, .int .i64 a3, .int .i64 a4, .int .i64 a5] 70) = wa at *
  obtain ⟨x0, x1, x2, x3, x4, x5⟩ := xrow hX
  have s0 : wa.cell? ⟨S, 1, none⟩ = some v := (hb0.cell (p := ⟨S, 1, none⟩) hSl).trans h0
  have sg : wa.cell? ⟨S, 0, none⟩ = some (.bool gf) := (hb0.cell (p := ⟨S, 0, none⟩) hSl).trans hsg
  have sf : wa.frozen? ⟨S, 1, none⟩ = false := (hb0.frozen (p := ⟨S, 1, none⟩) hSl).trans hf
  have hXl : w.heap.size < wa.heap.size := cell_lt x0
  have hbS : Fr (chE S v) w wa := Fr.of_below hb0 _
  have HXw : Hid (w.heap.size ≤ wa.heap.size) := hb0.size
  have hvX : some w.heap.size ≠ v.ownBlock := fun e => Nat.lt_irrefl _ (HOWN.out.blk _ e.symm).2
  have HX : Hid (VRow wa w.heap.size 0 (CoinD.l ⟨a0, a1, a2, a3, a4, a5⟩)) := hX
  generalize hXe : w.heap.size = X at *
  have HXe : Hid (w.heap.size = X) := hXe
  clear hXe
  have hSla : S < wa.heap.size := cell_lt s0
  clear h0 hsg hf hX hb0
  have hbv : some S ≠ v.ownBlock := fun e => Nat.not_succ_le_self _ (HOWN1.out.blk _ e.symm).1
  go_cut [] (fun wx => ∃ g c, PInv gf v w S X g n c (insAt cs ⟨a0, a1, a2, a3, a4, a5⟩ n) ⟨a0, a1, a2, a3, a4, a5⟩ wx)
  case first =>
    go_region_law (refine step_appR 40 48 _ Try.underlying40 info70 rfl (by decide) coin6 coin_one _ ?_ (.tmp 9) (.tmp 11) ?_ (S + 1) wa.heap.size 1 v cs ⟨a0, a1, a2, a3, a4, a5⟩ ?_ ?_ ?_ ?_ ?_ ?_ ?_ ?_; rfl; rfl; rfl; rfl; exact OwnRec.drew (HOWN1.out.alloc _); exact VRow.drew (vrow_new wa _ _); (rw [World.size_drew, World.size_alloc]; omega); (rw [HN.out]; unfold maxLen; omega); (rw [HN.out]; omega); rw [HN.out]; intro g cap w2 hown2 hg2 hl2 hlt2; have k0 := keepO hg2 s0 hbv; have k2 := keepO hg2 sg hbv; have k1 := keepF hg2 sf hSla hbv)
    all_goals
      go_wp2_with fail
      go_meet
      refine ⟨g, cap, ?_⟩
      have hgS : S + 1 ≤ g := (hown2.blk g rfl).1
      have hgX : g ≠ X := by
        intro e
        rcases hl2 with hl2 | hl2
        · exact hvX (by rw [← e, hl2])
        · rw [World.size_drew, World.size_alloc] at hl2; omega
      have hne : some S ≠ some g := fun e => by injection e with e; omega
      refine ⟨World.cell?_setCell_same _ _ _ k0, by rw [World.frozen?_setCell]; exact k1, (World.cell?_setCell_other _ _ _ _ (by simp)).trans k2, ?_, ?_, ?_, ?_, hl2.imp id (fun h => by rw [World.size_drew, World.size_alloc] at h; have := HXw.out; have := HXe.out; omega), by omega, by omega, hgX⟩
      · have := hown2.gb (gb_set w2 S 1 (.slice (some ⟨g, 0, none⟩) (n + 1) cap)) (fun k hk e => by simp [Value.ownBlock] at hk; injection e with e; omega)
        rw [← HN.out, insAt_end, HN.out]
        exact this
      · rw [insAt_len _ _ _ (by rw [HN.out]; omega), HN.out]
      · have hr : VRow ((wa.alloc (.cells #[.int .i64 a0, .int .i64 a1, .int .i64 a2, .int .i64 a3, .int .i64 a4, .int .i64 a5] 70)).drew) X 0 (CoinD.l ⟨a0, a1, a2, a3, a4, a5⟩) := HX.out.grown (((Below.refl wa.heap.size wa).alloc (Nat.le_refl _) _).drew)
        exact (hr.gb hg2 hvX).gb (gb_set w2 S 1 _) (fun e => by injection e with e; omega)
      · have f1 : Fr (chE S v) wa ((wa.alloc (.cells #[.int .i64 a0, .int .i64 a1, .int .i64 a2, .int .i64 a3, .int .i64 a4, .int .i64 a5] 70)).drew) := ((Fr.refl _ wa).alloc _).drew
        have f2 : Fr (chE S v) ((wa.alloc (.cells #[.int .i64 a0, .int .i64 a1, .int .i64 a2, .int .i64 a3, .int .i64 a4, .int .i64 a5] 70)).drew) w2 := Fr.of_gb hg2 (fun k hk _ => Or.inr hk)
        exact (hbS.trans (f1.trans f2)).set S 1 _ (fun _ => Or.inl rfl)
  case rest =>
    obtain ⟨g, c, hinv⟩ := hcut
    have s0' := hinv.s0
    have HI : Hid (PInv gf v w S X g n c (insAt cs ⟨a0, a1, a2, a3, a4, a5⟩ n) ⟨a0, a1, a2, a3, a4, a5⟩ wc) := hinv
    clear hinv x0 x1 x2 x3 x4 x5 s0 sf sg HX hXl hbS hvX hSla hbv HOWN1
    go_wp2
    go_loopw [4] (fun i wr => ∃ k : Nat, k ≤ n ∧ i = .int .i64 k ∧ Hid (insI gf cs ⟨a0, a1, a2, a3, a4, a5⟩ k = insI gf cs ⟨a0, a1, a2, a3, a4, a5⟩ n) ∧ PInv gf v w S X g n c (insAt cs ⟨a0, a1, a2, a3, a4, a5⟩ k) ⟨a0, a1, a2, a3, a4, a5⟩ wr) (fun i _ => (intOf i).toNat)
    case atStart => exact ⟨n, Nat.le_refl _, by go_num, rfl, HI.out⟩
    case round =>
      obtain ⟨k, hk, rfl, hz, hp⟩ := hrel
      cases k with
      | zero =>
        have HF : Hid _ := hp
        have HZ0 : Hid (insI gf cs ⟨a0, a1, a2, a3, a4, a5⟩ n = 0) := hz.out.symm
        clear hp
        go_wp2
        go_quiet (fail)
        go_wp2
        go_end0
        refine ⟨rfl, _, HF.out.s0, HF.out.sg, HF.out.sf, ?_, ⟨⟨HF.out.fr.os, HF.out.fr.tape, HF.out.fr.output, HF.out.fr.size, HF.out.fr.block⟩, fun k hk => by simp [Value.ownBlock] at hk; subst hk; exact HF.out.gl⟩⟩
        unfold insZ
        rw [HN.out, HZ0.out]
        exact HF.out.own
      | succ k =>
        have hkl : k < cs.length := by rw [HN.out]; omega
        have hll : (insAt cs ⟨a0, a1, a2, a3, a4, a5⟩ (k + 1)).length = n + 1 := hp.len
        obtain ⟨x0, x1, x2, x3, x4, x5⟩ := xrow hp.row
        have s0 := hp.s0
        have sg := hp.sg
        obtain ⟨g', hg', hg1, hg2, hrow, hfz⟩ := own_some coin6 hp.own hp.len (by omega)
        obtain ⟨r0, r1, r2, r3, r4, r5⟩ := coinCells hrow k (by omega)
        injection hg' with hg'
        injection hg' with hg'
        subst hg'
        rw [Nat.zero_add, insAt_ahead _ _ _ hkl] at r0 r1 r2 r3 r4 r5
        have HZ : Hid _ := hz.out
        rw [insI_succ gf] at HZ
        have HST : Hid _ := insAt_step cs ⟨a0, a1, a2, a3, a4, a5⟩ k hkl
        generalize hy : cs.getD k dN = y at r0 r1 r2 r3 r4 r5 HZ HST
        obtain ⟨y0, y1, y2, y3, y4, y5⟩ := y
        simp only at r0 r1 r2 r3 r4 r5
        have e1 : ((k : Int) + 1) - 1 = k := by omega
        have HP : Hid (PInv gf v w S X g n c (insAt cs ⟨a0, a1, a2, a3, a4, a5⟩ (k + 1)) ⟨a0, a1, a2, a3, a4, a5⟩ wr) := hp
        clear hp
        generalize hN1 : n + 1 = N at s0 hll
        generalize hki : k + 1 = K
        have HKI : Hid (k + 1 = K) := hki
        have HN1 : Hid (n + 1 = N) := hN1
        have e3 : (k : Int) < (N : Int) := by omega
        have e4 : (0 : Int) ≤ (k : Int) := by omega
        have hw1 : IntKind.i64.wrap ((K : Int) - 1) = k := by rw [show (K : Int) - 1 = k by omega]; exact IntWalk.i64_in _ ⟨by omega, by omega⟩
        have e6 : (0 : Int) < (K : Int) := by omega
        have hK0 : 0 < K := by omega
        have hd : decide ((0 : Int) < (K : Int)) = true := by rw [decide_eq_true_iff]; exact e6
        have e7 : (K : Int) < (N : Int) := by omega
        clear hN1 hki e1
        have hkb : ∀ w2, Below wr.drew.heap.size wr.drew w2 → w2.cell? ⟨S, 1, none⟩ = some (.slice (some ⟨g, 0, none⟩) N c) ∧ w2.cell? ⟨S, 0, none⟩ = some (.bool gf) ∧ w2.cell? ⟨X, 0, none⟩ = some (.int .i64 a0) ∧ w2.cell? ⟨X, 1, none⟩ = some (.int .i64 a1) ∧ w2.cell? ⟨X, 2, none⟩ = some (.int .i64 a2) ∧ w2.cell? ⟨X, 3, none⟩ = some (.int .i64 a3) ∧ w2.cell? ⟨X, 4, none⟩ = some (.int .i64 a4) ∧ w2.cell? ⟨X, 5, none⟩ = some (.int .i64 a5) ∧ w2.cell? ⟨g, k * 6, none⟩ = some (.int .i64 y0) ∧ w2.cell? ⟨g, k * 6 + 1, none⟩ = some (.int .i64 y1) ∧ w2.cell? ⟨g, k * 6 + 2, none⟩ = some (.int .i64 y2) ∧ w2.cell? ⟨g, k * 6 + 3, none⟩ = some (.int .i64 y3) ∧ w2.cell? ⟨g, k * 6 + 4, none⟩ = some (.int .i64 y4) ∧ w2.cell? ⟨g, k * 6 + 5, none⟩ = some (.int .i64 y5) := fun w2 hb =>
          ⟨(hb.cell (p := ⟨S, 1, none⟩) (cell_lt s0)).trans s0, (hb.cell (p := ⟨S, 0, none⟩) (cell_lt sg)).trans sg, (hb.cell (p := ⟨X, 0, none⟩) (cell_lt x0)).trans x0, (hb.cell (p := ⟨X, 1, none⟩) (cell_lt x1)).trans x1, (hb.cell (p := ⟨X, 2, none⟩) (cell_lt x2)).trans x2, (hb.cell (p := ⟨X, 3, none⟩) (cell_lt x3)).trans x3, (hb.cell (p := ⟨X, 4, none⟩) (cell_lt x4)).trans x4, (hb.cell (p := ⟨X, 5, none⟩) (cell_lt x5)).trans x5, (hb.cell (p := ⟨g, k * 6, none⟩) (cell_lt r0)).trans r0, (hb.cell (p := ⟨g, k * 6 + 1, none⟩) (cell_lt r1)).trans r1, (hb.cell (p := ⟨g, k * 6 + 2, none⟩) (cell_lt r2)).trans r2, (hb.cell (p := ⟨g, k * 6 + 3, none⟩) (cell_lt r3)).trans r3, (hb.cell (p := ⟨g, k * 6 + 4, none⟩) (cell_lt r4)).trans r4, (hb.cell (p := ⟨g, k * 6 + 5, none⟩) (cell_lt r5)).trans r5⟩
        have HKB : Hid _ := hkb
        clear hkb hrow hfz hz
        cases hah : aheadG gf ⟨a0, a1, a2, a3, a4, a5⟩ ⟨y0, y1, y2, y3, y4, y5⟩
        · go_wp2
          go_region_held3 (fun w' => w'.cell? ⟨S, 1, none⟩ = some (.slice (some ⟨g, 0, none⟩) N c) ∧ w'.cell? ⟨S, 0, none⟩ = some (.bool gf) ∧ w'.cell? ⟨X, 0, none⟩ = some (.int .i64 a0) ∧ w'.cell? ⟨X, 1, none⟩ = some (.int .i64 a1) ∧ w'.cell? ⟨X, 2, none⟩ = some (.int .i64 a2) ∧ w'.cell? ⟨X, 3, none⟩ = some (.int .i64 a3) ∧ w'.cell? ⟨X, 4, none⟩ = some (.int .i64 a4) ∧ w'.cell? ⟨X, 5, none⟩ = some (.int .i64 a5) ∧ w'.cell? ⟨g, k * 6, none⟩ = some (.int .i64 y0) ∧ w'.cell? ⟨g, k * 6 + 1, none⟩ = some (.int .i64 y1) ∧ w'.cell? ⟨g, k * 6 + 2, none⟩ = some (.int .i64 y2) ∧ w'.cell? ⟨g, k * 6 + 3, none⟩ = some (.int .i64 y3) ∧ w'.cell? ⟨g, k * 6 + 4, none⟩ = some (.int .i64 y4) ∧ w'.cell? ⟨g, k * 6 + 5, none⟩ = some (.int .i64 y5)) (first | go_keep | exact HKB.out _ (by assumption)) ((go_at_call 96; refine (isAhead_any S gf ⟨a0, a1, a2, a3, a4, a5⟩ ⟨y0, y1, y2, y3, y4, y5⟩ _ (by assumption)).mono ?_; rintro e w2 ⟨rfl, hb2⟩; rw [hah]))
          have hp2 := HP.out.drew.grown hb2
          have HZ' : Hid (insI gf cs ⟨a0, a1, a2, a3, a4, a5⟩ n = k + 1) := by
            show _ = _
            have := HZ.out
            rw [hah] at this
            simpa using this.symm
          go_wp2
          go_end0
          refine ⟨rfl, _, hp2.s0, hp2.sg, hp2.sf, ?_, ⟨hp2.fr, fun q hq => by simp [Value.ownBlock] at hq; subst hq; exact hp2.gl⟩⟩
          unfold insZ
          rw [HN.out, HZ'.out]
          exact hp2.own
        · go_wp2
          go_region_held3 (fun w' => w'.cell? ⟨S, 1, none⟩ = some (.slice (some ⟨g, 0, none⟩) N c) ∧ w'.cell? ⟨S, 0, none⟩ = some (.bool gf) ∧ w'.cell? ⟨X, 0, none⟩ = some (.int .i64 a0) ∧ w'.cell? ⟨X, 1, none⟩ = some (.int .i64 a1) ∧ w'.cell? ⟨X, 2, none⟩ = some (.int .i64 a2) ∧ w'.cell? ⟨X, 3, none⟩ = some (.int .i64 a3) ∧ w'.cell? ⟨X, 4, none⟩ = some (.int .i64 a4) ∧ w'.cell? ⟨X, 5, none⟩ = some (.int .i64 a5) ∧ w'.cell? ⟨g, k * 6, none⟩ = some (.int .i64 y0) ∧ w'.cell? ⟨g, k * 6 + 1, none⟩ = some (.int .i64 y1) ∧ w'.cell? ⟨g, k * 6 + 2, none⟩ = some (.int .i64 y2) ∧ w'.cell? ⟨g, k * 6 + 3, none⟩ = some (.int .i64 y3) ∧ w'.cell? ⟨g, k * 6 + 4, none⟩ = some (.int .i64 y4) ∧ w'.cell? ⟨g, k * 6 + 5, none⟩ = some (.int .i64 y5)) (first | go_keep | exact HKB.out _ (by assumption)) ((go_at_call 96; refine (isAhead_any S gf ⟨a0, a1, a2, a3, a4, a5⟩ ⟨y0, y1, y2, y3, y4, y5⟩ _ (by assumption)).mono ?_; rintro e w2 ⟨rfl, hb2⟩; rw [hah]))
          have HP2 : Hid (PInv gf v w S X g n c (insAt cs ⟨a0, a1, a2, a3, a4, a5⟩ (k + 1)) ⟨a0, a1, a2, a3, a4, a5⟩ w2) := HP.out.drew.grown hb2
          have HZ' : Hid (insI gf cs ⟨a0, a1, a2, a3, a4, a5⟩ k = insI gf cs ⟨a0, a1, a2, a3, a4, a5⟩ n) := by
            show _ = _
            have := HZ.out
            rw [hah] at this
            simpa using this
          clear HP HKB HZ x0 x1 x2 x3 x4 x5 r0 r1 r2 r3 r4 r5 s0 sg hb2
          rename_i hHd
          obtain ⟨s0, sg, x0, x1, x2, x3, x4, x5, r0, r1, r2, r3, r4, r5⟩ := hHd
          obtain ⟨g', hg', hg1', hg2', hrow, hfz⟩ := own_some coin6 HP2.out.own HP2.out.len (by omega)
          injection hg' with hg'
          injection hg' with hg'
          subst hg'
          obtain ⟨t0, t1, t2, t3, t4, t5⟩ := coinCells hrow (k + 1) (by have := HN1.out; omega)
          rw [Nat.zero_add] at t0 t1 t2 t3 t4 t5
          rw [HKI.out] at t0 t1 t2 t3 t4 t5
          have fz0 := hfz (K * 6)
          have fz1 := hfz (K * 6 + 1)
          have fz2 := hfz (K * 6 + 2)
          have fz3 := hfz (K * 6 + 3)
          have fz4 := hfz (K * 6 + 4)
          have fz5 := hfz (K * 6 + 5)
          have e8 : (0 : Int) ≤ (K : Int) := by omega
          clear hrow hfz
          go_wp2
          go_region
          have hset : ((((((w2.setCell ⟨g, K * 6, none⟩ (.int .i64 y0)).setCell ⟨g, K * 6 + 1, none⟩ (.int .i64 y1)).setCell ⟨g, K * 6 + 2, none⟩ (.int .i64 y2)).setCell ⟨g, K * 6 + 3, none⟩ (.int .i64 y3)).setCell ⟨g, K * 6 + 4, none⟩ (.int .i64 y4)).setCell ⟨g, K * 6 + 5, none⟩ (.int .i64 y5)).drew = (set6 w2 g (K * 6) ⟨y0, y1, y2, y3, y4, y5⟩).drew := rfl
          rw [hset]
          have HP3 : Hid (PInv gf v w S X g n c ((insAt cs ⟨a0, a1, a2, a3, a4, a5⟩ (k + 1)).set K ⟨y0, y1, y2, y3, y4, y5⟩) ⟨a0, a1, a2, a3, a4, a5⟩ (set6 w2 g (K * 6) ⟨y0, y1, y2, y3, y4, y5⟩).drew) := (HP2.out.six K (by have := HN1.out; omega) _).drew
          clear hset
          generalize (set6 w2 g (K * 6) ⟨y0, y1, y2, y3, y4, y5⟩).drew = w3 at *
          clear HP2 s0 x0 x1 x2 x3 x4 x5 r0 r1 r2 r3 r4 r5 t0 t1 t2 t3 t4 t5 fz0 fz1 fz2 fz3 fz4 fz5
          obtain ⟨x0, x1, x2, x3, x4, x5⟩ := xrow HP3.out.row
          have s0 := HP3.out.s0
          rw [HN1.out] at s0
          obtain ⟨g', hg', hg1', hg2', hrow, hfz⟩ := own_some coin6 HP3.out.own HP3.out.len (by omega)
          injection hg' with hg'
          injection hg' with hg'
          subst hg'
          obtain ⟨t0, t1, t2, t3, t4, t5⟩ := coinCells hrow k (by have := HN1.out; have := HP3.out.len; omega)
          rw [Nat.zero_add] at t0 t1 t2 t3 t4 t5
          generalize ((insAt cs ⟨a0, a1, a2, a3, a4, a5⟩ (k + 1)).set K ⟨y0, y1, y2, y3, y4, y5⟩).getD k dN = z at t0 t1 t2 t3 t4 t5
          have fz0 := hfz (k * 6)
          have fz1 := hfz (k * 6 + 1)
          have fz2 := hfz (k * 6 + 2)
          have fz3 := hfz (k * 6 + 3)
          have fz4 := hfz (k * 6 + 4)
          have fz5 := hfz (k * 6 + 5)
          clear hrow hfz
          go_wp2
          go_region
          have hset : ((((((w3.setCell ⟨g, k * 6, none⟩ (.int .i64 a0)).setCell ⟨g, k * 6 + 1, none⟩ (.int .i64 a1)).setCell ⟨g, k * 6 + 2, none⟩ (.int .i64 a2)).setCell ⟨g, k * 6 + 3, none⟩ (.int .i64 a3)).setCell ⟨g, k * 6 + 4, none⟩ (.int .i64 a4)).setCell ⟨g, k * 6 + 5, none⟩ (.int .i64 a5)).drew = (set6 w3 g (k * 6) ⟨a0, a1, a2, a3, a4, a5⟩).drew := rfl
          rw [hset]
          have HP4 : Hid (PInv gf v w S X g n c (insAt cs ⟨a0, a1, a2, a3, a4, a5⟩ k) ⟨a0, a1, a2, a3, a4, a5⟩ (set6 w3 g (k * 6) ⟨a0, a1, a2, a3, a4, a5⟩).drew) := by
            have h4 := (HP3.out.six k (by omega) ⟨a0, a1, a2, a3, a4, a5⟩).drew
            rw [← HKI.out, HST.out] at h4
            exact h4
          clear hset
          generalize (set6 w3 g (k * 6) ⟨a0, a1, a2, a3, a4, a5⟩).drew = w4 at *
          clear HP3 s0 x0 x1 x2 x3 x4 x5 t0 t1 t2 t3 t4 t5 fz0 fz1 fz2 fz3 fz4 fz5
          have hNe := HN1.out
          subst hNe
          have hKe := HKI.out
          subst hKe
          go_wp2
          go_roundw
          case rel => exact ⟨k, by omega, by go_num, HZ', HP4.out⟩
          case measure => simp [intOf]
end Go.Proofs.Ytffgpepngcnjeab
namespace Go.Proofs.Ytffgpepngcnjeab
open Go.RowKit
/-- the address of a coin of the chain -/
def CoinC.ad : CoinC → Int
  | ⟨_, _, a, _⟩ => a
def coinK (x : CoinC) (k : KeyD) : CoinD := match x with
  | ⟨i, p, a, v⟩ => ⟨i, p, a, v, k.br, k.ix⟩
def ownStep (ks : List KeyD) (acc : List CoinD) (x : CoinC) : List CoinD :=
  if firstZ ks x.ad < 0 then acc else insZ false acc (coinK x (ks.getD (firstZ ks x.ad).toNat dK))
def ownZ (ks : List KeyD) (l : List CoinC) : List CoinD := l.foldl (ownStep ks) []
theorem ownZ_snoc (ks : List KeyD) (l : List CoinC) (k : Nat) (h : k < l.length) : ownZ ks (l.take (k + 1)) = ownStep ks (ownZ ks (l.take k)) (l.getD k dCC) := by
  unfold ownZ
  rw [List.take_succ_eq_append_getElem h, List.foldl_append]
  simp only [List.getD, List.getElem?_eq_getElem h, Option.getD_some]
  rfl
theorem insI_le (cs : List CoinD) (x : CoinD) : ∀ n, insI false cs x n ≤ n := by
  intro n
  induction n with
  | zero => exact Nat.le_refl _
  | succ n ih => unfold insI; split <;> omega
theorem insZ_len (cs : List CoinD) (x : CoinD) : (insZ false cs x).length = cs.length + 1 := insAt_len cs x _ (insI_le cs x _)
theorem ownStep_no (ks : List KeyD) (acc : List CoinD) (x : CoinC) (h : firstZ ks x.ad = -1) : ownStep ks acc x = acc := by
  unfold ownStep
  exact if_pos (by rw [h]; omega)
theorem ownStep_yes (ks : List KeyD) (acc : List CoinD) (x : CoinC) (q : Nat) (h : firstZ ks x.ad = (q : Int)) : ownStep ks acc x = insZ false acc (coinK x (ks.getD q dK)) := by
  unfold ownStep
  rw [if_neg (by rw [h]; omega)]
  congr 3
  rw [h]
  exact Int.toNat_natCast q
theorem ownStep_len (ks : List KeyD) (acc : List CoinD) (x : CoinC) : (ownStep ks acc x).length ≤ acc.length + 1 := by
  unfold ownStep
  split
  · omega
  · rw [insZ_len]; omega
theorem ownZ_len (ks : List KeyD) (l : List CoinC) : (ownZ ks l).length ≤ l.length := by
  have h : ∀ (l : List CoinC) (acc : List CoinD), (l.foldl (ownStep ks) acc).length ≤ acc.length + l.length := by
    intro l
    induction l with
    | nil => intro acc; simp
    | cons x r ih =>
      intro acc
      have h1 := ih (ownStep ks acc x)
      have h2 := ownStep_len ks acc x
      simp only [List.foldl_cons, List.length_cons]
      omega
  have := h l []
  simpa [ownZ] using this
structure CCells (w : World) (b off : Nat) (x : CoinC) : Prop where
  c0 : w.cell? ⟨b, off, none⟩ = some (.int .i64 x.id)
  c1 : w.cell? ⟨b, off + 1, none⟩ = some (.int .i64 x.pos)
  c2 : w.cell? ⟨b, off + 2, none⟩ = some (.int .i64 x.ad)
  c3 : w.cell? ⟨b, off + 3, none⟩ = some (.int .i64 x.val)
theorem cCells {w : World} {b off : Nat} {xs : List CoinC} (h : VRow w b off (xs.flatMap CoinC.l)) (j : Nat) (hj : j < xs.length) : CCells w b (off + j * 4) (xs.getD j dCC) :=
  ⟨rcell coinC4 dCC h j hj 0 (by omega), rcell coinC4 dCC h j hj 1 (by omega), rcell coinC4 dCC h j hj 2 (by omega), rcell coinC4 dCC h j hj 3 (by omega)⟩
theorem firstZ_cases (ks : List KeyD) (a : Int) : firstZ ks a = -1 ∨ ∃ j, j < ks.length ∧ firstZ ks a = (j : Int) ∧ (ks.getD j dK).ad = a := by
  rcases idxOf_cases (fun x : KeyD => x.ad == a) dK ks 0 with h | ⟨j, h1, h2, h3⟩
  · exact Or.inl h
  · exact Or.inr ⟨j, h1, by rw [firstZ, h2]; simp, by simpa using h3⟩
theorem keysZ_len (xs : List Cel) (s : Int) (g : Nat) : (keysZ xs s g).length ≤ 200 := by
  have h0 := winZ_le xs s g 0
  have h1 := winZ_le xs s g 1
  rw [keysZ, List.length_append, keysB_len, keysB_len]
  omega
theorem owns_lower {w : World} {base base' e size : Nat} {v : Value} {n : Nat} {cs : List Value} (h : w.ownsRow base e size v n cs) (hb : base' ≤ base) : w.ownsRow base' e size v n cs := by
  obtain ⟨h1, h | ⟨g, cap, cur, rfl, hbg, hg⟩⟩ := h
  · exact ⟨h1, Or.inl h⟩
  · exact ⟨h1, Or.inr ⟨g, cap, cur, rfl, Nat.le_trans hb hbg, hg⟩⟩
/-- the sorted list in the making, in block S -/
structure WInv (w : World) (S : Nat) (v : Value) (cs : List CoinD) (wr : World) : Prop where
  s0 : wr.cell? ⟨S, 1, none⟩ = some v
  sg : wr.cell? ⟨S, 0, none⟩ = some (.bool false)
  sf : wr.frozen? ⟨S, 1, none⟩ = false
  own : OwnRec CoinD.l 70 6 wr (S + 1) v cs
  st : ChStep S (.slice none 0 0) v w wr
theorem WInv.grown {w : World} {S : Nat} {v : Value} {cs : List CoinD} {wr ws : World} (h : WInv w S v cs wr) (hb : Below wr.heap.size wr ws) : WInv w S v cs ws :=
  ⟨(hb.cell (p := ⟨S, 1, none⟩) (cell_lt h.s0)).trans h.s0, (hb.cell (p := ⟨S, 0, none⟩) (cell_lt h.sg)).trans h.sg, (hb.frozen (p := ⟨S, 1, none⟩) (cell_lt h.s0)).trans h.sf, h.own.grown hb, h.st.trans (ChStep.of_below hb _ _)⟩
theorem WInv.put {w : World} {S : Nat} {v v' : Value} {cs cs' : List CoinD} {wr ws : World} (h : WInv w S v cs wr) (h0 : ws.cell? ⟨S, 1, none⟩ = some v') (hsg : ws.cell? ⟨S, 0, none⟩ = some (.bool false)) (hf : ws.frozen? ⟨S, 1, none⟩ = false) (ho : OwnRec CoinD.l 70 6 ws (S + 1) v' cs') (hst : ChStep S v v' wr ws) : WInv w S v' cs' ws := ⟨h0, hsg, hf, ho, h.st.trans hst⟩
set_option maxRecDepth 100000 in
set_option maxHeartbeats 4000000 in
theorem wCoins_any (b o : Nat) (ao : Option Addr) (n c : Nat) (xs : List Cel) (s : Int) (g : Nat) (w : World) (hs : Mk.isM s = true) (hg : 1 ≤ g) (hg2 : g ≤ 20)
    (hp : w.cell? ⟨b, o, none⟩ = some (.slice ao n c)) (hx : CelsAt w ao xs) (hn : xs.length = n) (hm : n ≤ 10000) :
    Calls Try.prog 55 #[.pointer (some ⟨b, o, none⟩), .int .i64 s, .int .i64 g] w fun e w' => ∃ v, e = .returned v ∧ OwnRec CoinD.l 70 6 w' w.heap.size v (ownZ (keysZ xs s g) (coinsC xs)) ∧ Below w.heap.size w w' := by
  have HN : Hid (xs.length = n) := hn
  have HX : Hid (CelsAt w ao xs) := hx
  have HP : Hid (w.cell? ⟨b, o, none⟩ = some (.slice ao n c)) := hp
  clear hn hx hp
  go_enter Try.func55, Try.ntmps55
  go_wp2_with fail
  refine (keys_any b o ao n c xs s g _ hs hg hg2 HP.out HX.out HN.out (by omega)).mono ?_
  rintro e w1 ⟨vk, rfl, hk1, hb1⟩
  have HKL : Hid ((keysZ xs s g).length ≤ 200) := keysZ_len xs s g
  generalize hks : keysZ xs s g = ks at *
  have HKS : Hid (keysZ xs s g = ks) := hks
  clear hks
  obtain ⟨ak, ck, rfl, hkat⟩ := OwnRec.at key3 hk1
  generalize hkl : ks.length = kl at *
  have HKN : Hid (ks.length = kl) := hkl
  clear hkl hk1
  have hz1 := hb1.size
  have hb2 := hb1.alloc hz1 (.cells #[.bool false, .slice none 0 0] 144)
  have HP2 : Hid ((w1.alloc (.cells #[.bool false, .slice none 0 0] 144)).cell? ⟨b, o, none⟩ = some (.slice ao n c)) := (hb2.cell (p := ⟨b, o, none⟩) (cell_lt HP.out)).trans HP.out
  have HX2 : Hid (CelsAt (w1.alloc (.cells #[.bool false, .slice none 0 0] 144)) ao xs) := HX.out.grown hb2
  have HKA : Hid (RecAt KeyD.l (w1.alloc (.cells #[.bool false, .slice none 0 0] 144)) ak ks) := hkat.grown ((Below.refl _ _).alloc (Nat.le_refl _) _)
  have HS0 : Hid ((w1.alloc (.cells #[.bool false, .slice none 0 0] 144)).cell? ⟨w1.heap.size, 1, none⟩ = some (.slice none 0 0) ∧ (w1.alloc (.cells #[.bool false, .slice none 0 0] 144)).cell? ⟨w1.heap.size, 0, none⟩ = some (.bool false)) := by
    constructor
    · rw [World.cell?_alloc_new]; rfl
    · rw [World.cell?_alloc_new]; rfl
  have HSF : Hid ((w1.alloc (.cells #[.bool false, .slice none 0 0] 144)).frozen? ⟨w1.heap.size, 1, none⟩ = false) := World.frozen?_alloc_at _ _ _ _ rfl
  have hzS : w1.heap.size < (w1.alloc (.cells #[.bool false, .slice none 0 0] 144)).heap.size := by simp
  go_wp2_with fail
  generalize w1.alloc (.cells #[.bool false, .slice none 0 0] 144) = w2 at *
  have HKB : Hid (ks = [] ∨ ∃ bb off, ak = some ⟨bb, off, none⟩ ∧ bb ≠ w1.heap.size) := by
    rcases hkat with hnil | ⟨bb, off, e, hr⟩
    · exact Or.inl hnil
    · by_cases hnil : ks = []
      · exact Or.inl hnil
      · refine Or.inr ⟨bb, off, e, Nat.ne_of_lt (hr.lt ?_)⟩
        intro e2
        have h3 := rec_len KeyD.l 3 key3 ks
        rw [e2] at h3
        exact hnil (List.length_eq_zero_iff.1 (by simp at h3; omega))
  generalize hSe : w1.heap.size = S at *
  clear hkat hb1
  refine (chCoins_any b o ao n c xs _ HP2.out HX2.out HN.out (by omega)).mono ?_
  rintro e w3 ⟨vc, rfl, hc3, hb3⟩
  have HCL : Hid ((coinsC xs).length ≤ 10000) := by show _ ≤ _; have := coinsC_len xs; have := HN.out; omega
  generalize hcs : coinsC xs = cl at *
  have HCS : Hid (coinsC xs = cl) := hcs
  clear hcs
  have HKF : Hid (∀ w', Fr (chE S (.slice none 0 0)) w3 w' → RecAt KeyD.l w' ak ks) := by
    intro w' hf
    rcases HKA.out.grown hb3 with hnil | ⟨bb, off, e, hr⟩
    · exact Or.inl hnil
    · rcases HKB.out with hnil | ⟨b2, o2, e2, hne⟩
      · exact Or.inl hnil
      · rw [e] at e2
        injection e2 with e2
        injection e2 with e2 e3
        subst e2
        exact Or.inr ⟨bb, off, e, hf.vrow hr (fun h => h.elim hne (fun h => by simp [Value.ownBlock] at h))⟩
  obtain ⟨ac, cc, rfl, hcat⟩ := OwnRec.at coinC4 hc3
  generalize hcl : cl.length = m at *
  have HCN : Hid (cl.length = m) := hcl
  clear hcl
  have HCF : Hid (∀ w', Fr (chE S (.slice none 0 0)) w3 w' → RecAt CoinC.l w' ac cl) := by
    intro w' hf
    rcases OwnRec.slice coinC4 hc3 with ⟨_, hnil⟩ | ⟨gc, c', e, h1, h2, h3, _⟩
    · exact Or.inl hnil
    · injection e with e _ _
      refine Or.inr ⟨gc, 0, e, hf.vrow h3 (fun h => h.elim (fun h => ?_) (fun h => by simp [Value.ownBlock] at h))⟩
      omega
  have hI0 : WInv w3 S (.slice none 0 0) [] w3 := ⟨(hb3.cell (p := ⟨S, 1, none⟩) hzS).trans HS0.out.1, (hb3.cell (p := ⟨S, 0, none⟩) hzS).trans HS0.out.2, (hb3.frozen (p := ⟨S, 1, none⟩) hzS).trans HSF.out, OwnRec.nil _ _ _ _ _, ChStep.refl _ _ _⟩
  have HI0 : Hid (WInv w3 S (.slice none 0 0) [] w3) := hI0
  have HBW : Hid (Below w.heap.size w w3) := below_blk hb2 hb3
  have hSw : w.heap.size ≤ S := hz1
  have hML : m ≤ 10000 := HCL.out
  have hKL : kl ≤ 200 := HKL.out
  clear hI0 hc3 hcat hb2 hb3 HS0 HSF HP2 HX2 HKA hz1 HCL HKL hzS
  go_wp2
  go_loopw [20] (fun i wr => ∃ (k : Nat) (v : Value), k ≤ m ∧ i = .int .i64 k ∧ WInv w3 S v (ownZ ks (cl.take k)) wr) (fun i _ => m - (intOf i).toNat)
  case atStart => exact ⟨0, _, Nat.zero_le _, rfl, HI0.out⟩
  case round =>
    obtain ⟨k, v, hk, rfl, hinv⟩ := hrel
    by_cases hlt : k < m
    · rcases HCF.out wr hinv.st.fr with hnil | ⟨gc, oc, rfl, hcrow⟩
      · have := HCN.out; rw [hnil] at this; simp at this; omega
      obtain ⟨c0, c1, c2, c3⟩ := cCells hcrow k (by rw [HCN.out]; exact hlt)
      have HSN : Hid _ := ownZ_snoc ks cl k (by rw [HCN.out]; exact hlt)
      have HLL : Hid ((ownZ ks (cl.take k)).length ≤ 10000) := by show _ ≤ _; have := ownZ_len ks (cl.take k); rw [List.length_take] at this; omega
      generalize cl.getD k dCC = y at c0 c1 c2 c3 HSN
      generalize ownZ ks (cl.take k) = acc at *
      obtain ⟨yid, ypos, yad, yval⟩ := y
      simp only [CoinC.ad] at c0 c1 c2 c3
      have hb4 : Below wr.heap.size wr (wr.alloc (.cells #[.int .i64 yid, .int .i64 ypos, .int .i64 yad, .int .i64 yval] 148)) := (Below.refl _ _).alloc (Nat.le_refl _) _
      have hi4 := hinv.grown hb4
      have hv4 : VRow (wr.alloc (.cells #[.int .i64 yid, .int .i64 ypos, .int .i64 yad, .int .i64 yval] 148)) wr.heap.size 0 [.int .i64 yid, .int .i64 ypos, .int .i64 yad, .int .i64 yval] := vrow_new _ _ _
      go_wp2_with fail
      generalize wr.alloc (.cells #[.int .i64 yid, .int .i64 ypos, .int .i64 yad, .int .i64 yval] 148) = w4 at *
      generalize hIe : wr.heap.size = I at *
      clear hcrow c0 c1 c2 c3 hb4 hinv hIe
      refine (first_any ak kl ck ks yad _ (HKF.out w4 hi4.st.fr) HKN.out (by omega)).mono ?_
      rintro e w5 ⟨rfl, hb5⟩
      have hi5 := hi4.grown hb5
      have hv5 := hv4.grown hb5
      clear hi4 hv4 hb5
      rcases firstZ_cases ks yad with hf | ⟨q, hq, hf, _⟩
      · rw [hf]
        have HST : Hid (ownZ ks (cl.take (k + 1)) = acc) := by
          show _ = _
          rw [HSN.out]
          exact ownStep_no ks acc _ hf
        have HI5 : Hid (WInv w3 S v acc w5) := hi5
        clear hi5 hv5
        go_wp2
        go_roundw
        case rel => exact ⟨k + 1, v, by omega, by go_num, by rw [HST.out]; exact HI5.out⟩
        case measure => simp [intOf]; omega
      · rw [hf]
        have hq2 : q < kl := by rw [← HKN.out]; exact hq
        rcases HKF.out w5 hi5.st.fr with hnil | ⟨gk, ok, rfl, hkrow⟩
        · rw [hnil] at hq; simp at hq
        obtain ⟨k0, k1, k2⟩ := keyCells hkrow q hq
        have HST : Hid (ownZ ks (cl.take (k + 1)) = insZ false acc ⟨yid, ypos, yad, yval, (ks.getD q dK).br, (ks.getD q dK).ix⟩) := by
          show _ = _
          rw [HSN.out]
          exact ownStep_yes ks acc _ q hf
        generalize ks.getD q dK = z at k0 k1 k2 HST
        obtain ⟨zbr, zix, zad⟩ := z
        simp only at k0 k1 k2 HST
        have i0 := hv5 0 (by simp)
        have i1 := hv5 1 (by simp)
        have i2 := hv5 2 (by simp)
        have i3 := hv5 3 (by simp)
        simp only [Nat.zero_add, List.getD, List.getElem?_cons_zero, List.getElem?_cons_succ, Option.getD_some] at i0 i1 i2 i3
        have hi6 := hi5.grown ((Below.refl w5.heap.size w5).alloc (Nat.le_refl _) (.cells #[.int .i64 zbr, .int .i64 zix, .int .i64 zad] 112))
        have HI6 : Hid _ := hi6
        clear hi6 hi5 hv5 hkrow HSN
        have hS := cell_lt HI6.out.s0
        have hIl : I < w5.heap.size := cell_lt i0
        go_wp2_with fail
        refine (put_any false S v acc ⟨yid, ypos, yad, yval, zbr, zix⟩ _ HI6.out.s0 HI6.out.sg HI6.out.sf HI6.out.own HLL.out).mono ?_
        rintro e w7 ⟨rfl, v', p1, pg, p2, p3, p4⟩
        have HI7 : Hid (WInv w3 S v' (ownZ ks (cl.take (k + 1))) w7) := by rw [HST.out]; exact HI6.out.put p1 pg p2 p3 p4
        clear p1 pg p2 p3 p4 HI6 k0 k1 k2 i0 i1 i2 i3
        go_wp2
        go_roundw
        case rel => exact ⟨k + 1, v', by omega, by go_num, HI7.out⟩
        case measure => simp [intOf]; omega
    · have hkm : k = m := by omega
      subst hkm
      rw [List.take_of_length_le (by rw [HCN.out]; omega)] at hinv
      have s0 := hinv.s0
      have HI : Hid (WInv w3 S v (ownZ ks cl) wr) := hinv
      clear hinv
      go_wp2
      go_ret
      rw [HKS.out, HCS.out]
      refine ⟨v, rfl, ?_, ?_⟩
      · exact owns_lower HI.out.own (by omega)
      · have hf := HI.out.st.fr
        have hz3 := HBW.out.size
        exact HBW.out.trans (hf.toBelow w.heap.size hz3 (fun q hq => hq.elim (fun e => by omega) (fun e => by simp [Value.ownBlock] at e)))
def sumC (cs : List CoinD) : Int := (cs.map CoinD.val).sum
end Go.Proofs.Ytffgpepngcnjeab
namespace Go.Proofs.Ytffgpepngcnjeab
open Go.RowKit
/-- six cells in block L, which may be written -/
structure VB (w : World) (L : Nat) (a0 a1 a2 a3 a4 a5 : Value) : Prop where
  c0 : w.cell? ⟨L, 0, none⟩ = some a0
  c1 : w.cell? ⟨L, 1, none⟩ = some a1
  c2 : w.cell? ⟨L, 2, none⟩ = some a2
  c3 : w.cell? ⟨L, 3, none⟩ = some a3
  c4 : w.cell? ⟨L, 4, none⟩ = some a4
  c5 : w.cell? ⟨L, 5, none⟩ = some a5
  fz : ∀ j, w.frozen? ⟨L, j, none⟩ = false
theorem VB.fr {E : Nat → Prop} {w w' : World} (hf : Fr E w w') {L : Nat} {a0 a1 a2 a3 a4 a5 : Value} (h : VB w L a0 a1 a2 a3 a4 a5) (he : ¬ E L) : VB w' L a0 a1 a2 a3 a4 a5 :=
  ⟨hf.cell h.c0 he, hf.cell h.c1 he, hf.cell h.c2 he, hf.cell h.c3 he, hf.cell h.c4 he, hf.cell h.c5 he, fun j => (hf.frozen (cell_lt h.c0) he).trans (h.fz j)⟩
theorem VB.grown {w w' : World} (hb : Below w.heap.size w w') {L : Nat} {a0 a1 a2 a3 a4 a5 : Value} (h : VB w L a0 a1 a2 a3 a4 a5) : VB w' L a0 a1 a2 a3 a4 a5 :=
  h.fr (Fr.of_below hb (fun _ => False)) (fun h => h)
theorem VB.new (w : World) (a0 a1 a2 a3 a4 a5 : Value) (t : TypeId) : VB (w.alloc (.cells #[a0, a1, a2, a3, a4, a5] t)) w.heap.size a0 a1 a2 a3 a4 a5 := by
  refine ⟨?_, ?_, ?_, ?_, ?_, ?_, fun j => World.frozen?_alloc_at _ _ _ _ rfl⟩
  all_goals
    rw [World.cell?_alloc_new]
    rfl
theorem so {w : World} {L i j : Nat} {u v : Value} (h : w.cell? ⟨L, j, none⟩ = some v) (hne : i ≠ j) : (w.setCell ⟨L, i, none⟩ u).cell? ⟨L, j, none⟩ = some v := by
  rw [World.cell?_setCell_other _ _ _ _ (fun e => hne (congrArg Addr.off e))]; exact h
theorem ss {w : World} {L i : Nat} {u v : Value} (h : w.cell? ⟨L, i, none⟩ = some v) : (w.setCell ⟨L, i, none⟩ u).cell? ⟨L, i, none⟩ = some u := World.cell?_setCell_same _ _ _ h
theorem VB.s0 {w : World} {L : Nat} {a0 a1 a2 a3 a4 a5 : Value} (h : VB w L a0 a1 a2 a3 a4 a5) (u : Value) : VB (w.setCell ⟨L, 0, none⟩ u) L u a1 a2 a3 a4 a5 :=
  ⟨ss h.c0, so h.c1 (by decide), so h.c2 (by decide), so h.c3 (by decide), so h.c4 (by decide), so h.c5 (by decide), fun j => by rw [World.frozen?_setCell]; exact h.fz j⟩
theorem VB.s1 {w : World} {L : Nat} {a0 a1 a2 a3 a4 a5 : Value} (h : VB w L a0 a1 a2 a3 a4 a5) (u : Value) : VB (w.setCell ⟨L, 1, none⟩ u) L a0 u a2 a3 a4 a5 :=
  ⟨so h.c0 (by decide), ss h.c1, so h.c2 (by decide), so h.c3 (by decide), so h.c4 (by decide), so h.c5 (by decide), fun j => by rw [World.frozen?_setCell]; exact h.fz j⟩
theorem VB.s2 {w : World} {L : Nat} {a0 a1 a2 a3 a4 a5 : Value} (h : VB w L a0 a1 a2 a3 a4 a5) (u : Value) : VB (w.setCell ⟨L, 2, none⟩ u) L a0 a1 u a3 a4 a5 :=
  ⟨so h.c0 (by decide), so h.c1 (by decide), ss h.c2, so h.c3 (by decide), so h.c4 (by decide), so h.c5 (by decide), fun j => by rw [World.frozen?_setCell]; exact h.fz j⟩
theorem VB.s3 {w : World} {L : Nat} {a0 a1 a2 a3 a4 a5 : Value} (h : VB w L a0 a1 a2 a3 a4 a5) (u : Value) : VB (w.setCell ⟨L, 3, none⟩ u) L a0 a1 a2 u a4 a5 :=
  ⟨so h.c0 (by decide), so h.c1 (by decide), so h.c2 (by decide), ss h.c3, so h.c4 (by decide), so h.c5 (by decide), fun j => by rw [World.frozen?_setCell]; exact h.fz j⟩
theorem VB.s4 {w : World} {L : Nat} {a0 a1 a2 a3 a4 a5 : Value} (h : VB w L a0 a1 a2 a3 a4 a5) (u : Value) : VB (w.setCell ⟨L, 4, none⟩ u) L a0 a1 a2 a3 u a5 :=
  ⟨so h.c0 (by decide), so h.c1 (by decide), so h.c2 (by decide), so h.c3 (by decide), ss h.c4, so h.c5 (by decide), fun j => by rw [World.frozen?_setCell]; exact h.fz j⟩
theorem VB.s5 {w : World} {L : Nat} {a0 a1 a2 a3 a4 a5 : Value} (h : VB w L a0 a1 a2 a3 a4 a5) (u : Value) : VB (w.setCell ⟨L, 5, none⟩ u) L a0 a1 a2 a3 a4 u :=
  ⟨so h.c0 (by decide), so h.c1 (by decide), so h.c2 (by decide), so h.c3 (by decide), so h.c4 (by decide), ss h.c5, fun j => by rw [World.frozen?_setCell]; exact h.fz j⟩
theorem VB.oth {w : World} {L K i : Nat} {a0 a1 a2 a3 a4 a5 : Value} (h : VB w L a0 a1 a2 a3 a4 a5) (u : Value) (hne : L ≠ K) : VB (w.setCell ⟨K, i, none⟩ u) L a0 a1 a2 a3 a4 a5 :=
  h.fr ((Fr.refl (fun k => k = K) w).set K i u (fun _ => rfl)) hne
theorem insZ_mem {cs : List CoinD} {x y : CoinD} (h : y ∈ insZ false cs x) : y = x ∨ y ∈ cs := by
  simp only [insZ, insAt, List.mem_append, List.mem_cons] at h
  rcases h with h | h | h
  · exact Or.inr (List.mem_of_mem_take h)
  · exact Or.inl h
  · exact Or.inr (List.mem_of_mem_drop h)
theorem ownZ_val (ks : List KeyD) (Q : Int → Prop) (l : List CoinC) (hl : ∀ x ∈ l, Q x.val) : ∀ y ∈ ownZ ks l, Q y.val := by
  have h : ∀ (l : List CoinC) (acc : List CoinD), (∀ x ∈ l, Q x.val) → (∀ y ∈ acc, Q y.val) → ∀ y ∈ l.foldl (ownStep ks) acc, Q y.val := by
    intro l
    induction l with
    | nil => intro acc _ ha; exact ha
    | cons x r ih =>
      intro acc hx ha
      refine ih _ (fun z hz => hx z (by simp [hz])) (fun y hy => ?_)
      unfold ownStep at hy
      split at hy
      · exact ha y hy
      · rcases insZ_mem hy with e | e
        · rw [e]
          obtain ⟨x0, x1, x2, x3⟩ := x
          exact hx ⟨x0, x1, x2, x3⟩ (by simp)
        · exact ha y e
  exact h l [] hl (fun y hy => by simp at hy)
theorem coinsC_val (Q : Int → Prop) (xs : List Cel) (hx : ∀ x ∈ xs, Q x.val) : ∀ y ∈ coinsC xs, Q y.val := by
  intro y hy
  simp only [coinsC, List.mem_map, List.mem_filter] at hy
  obtain ⟨x, ⟨h1, _⟩, rfl⟩ := hy
  exact hx x h1
/-- the own coins -/
def ownOf (xs : List Cel) (s : Int) (g : Nat) : List CoinD := ownZ (keysZ xs s g) (coinsC xs)
end Go.Proofs.Ytffgpepngcnjeab
namespace Go.Proofs.Ytffgpepngcnjeab
open Go.RowKit
end Go.Proofs.Ytffgpepngcnjeab
namespace Go.Proofs.Ytffgpepngcnjeab
open Go.RowKit
set_option maxRecDepth 100000 in
set_option maxHeartbeats 1000000 in
theorem sum_any (ao : Option Addr) (n c : Nat) (cs : List CoinD) (w : World) (hx : RecAt CoinD.l w ao cs) (hn : cs.length = n) (hm : n ≤ 100000) (hv : ∀ x ∈ cs, 0 ≤ x.val ∧ x.val ≤ 1099511627776) :
    Calls Try.prog 28 #[.slice ao n c] w fun e w' => e = .returned (.int .i64 (sumC cs)) ∧ Below w.heap.size w w' := by
  have HV : Hid (∀ x ∈ cs, 0 ≤ x.val ∧ x.val ≤ 1099511627776) := hv
  have HA : Hid (RecAt CoinD.l w ao cs) := hx
  have HM : Hid (cs.length = n) := hn
  clear hv hx hn
  go_enter Try.func28, Try.ntmps28
  go_wp2
  go_loopw [3, 8] (fun v i wr => ∃ (k : Nat) (S : Int), k ≤ n ∧ i = .int .i64 k ∧ v = .int .i64 S ∧ Hid (((cs.take k).map CoinD.val).sum = S) ∧ Below w.heap.size w wr) (fun _ i _ => n - (intOf i).toNat)
  case atStart => exact ⟨0, 0, Nat.zero_le _, rfl, rfl, rfl, Below.refl _ _⟩
  case round =>
    obtain ⟨k, S, hk, rfl, rfl, hS, hbl⟩ := hrel
    have hsz := hbl.size
    by_cases hlt : k < n
    · rcases HA.out with hnil | ⟨gg, off, rfl, hrow⟩
      · have := HM.out; rw [hnil] at this; simp at this; omega
      obtain ⟨c0, c1, c2, c3, c4, c5⟩ := coinCells (hrow.grown hbl) k (by rw [HM.out]; exact hlt)
      have HS : Hid _ := sum_snoc CoinD.val cs dN k (by rw [HM.out]; exact hlt)
      have hSb := sum_bd CoinD.val 1099511627776 (cs.take k) (fun x hx => HV.out x (List.mem_of_mem_take hx))
      have hyb := HV.out (cs.getD k dN) (getD_mem cs dN k (by rw [HM.out]; exact hlt))
      rw [hS.out] at hSb
      have hl2 : (cs.take k).length ≤ 100000 := by rw [List.length_take]; omega
      have hS2 : 0 ≤ S ∧ S ≤ 110000000000000000 := ⟨hSb.1, by omega⟩
      clear hrow hSb hl2
      generalize cs.getD k dN = y at c0 c1 c2 c3 c4 c5 HS hyb
      obtain ⟨y0, y1, y2, yval, y4, y5⟩ := y
      simp only at c0 c1 c2 c3 c4 c5 hyb
      go_wp2
      go_roundw
      case rel => exact ⟨k + 1, S + yval, by omega, by go_num, rfl, by show _ = _; rw [HS.out, hS.out], hbl.alloc hsz _⟩
      case measure => simp [intOf]; omega
    · have HSe : Hid (sumC cs = S) := by show _ = _; rw [← hS.out, List.take_of_length_le (by rw [HM.out]; omega)]; rfl
      go_wp2
      go_ret
      exact ⟨ret_int HSe.out.symm, hbl⟩
end Go.Proofs.Ytffgpepngcnjeab

namespace Go.Proofs.Ytffgpepngcnjeab
open Go.RowKit
def worthZ (r : Int) (c : CoinD) : Int := c.val - 7 * r
/-- the worthy ones, each laid to its place -/
def ordStep (r : Int) (acc : List CoinD) (c : CoinD) : List CoinD := if 1 ≤ worthZ r c then insZ true acc c else acc
def orderZ (r : Int) (l : List CoinD) : List CoinD := l.foldl (ordStep r) []
def bitN (m n i : Nat) : Bool := m / 2 ^ (n - 1 - i) % 2 == 1
/-- the program's: eight bits, those behind the list's end tell nothing -/
def sumP (r : Int) (cs : List CoinD) (m : Nat) : Int := ((List.range 8).map fun i => if decide (i < cs.length) && bitN m 8 i then worthZ r (cs.getD i dN) else 0).sum
def memP (cs : List CoinD) (m : Nat) : List CoinD := ((List.range 8).filter fun i => decide (i < cs.length) && bitN m 8 i).map fun i => cs.getD i dN
/-- the document's: as many bits as candidates -/
def sumD (r : Int) (cs : List CoinD) (n m : Nat) : Int := ((List.range n).map fun i => if bitN m n i then worthZ r (cs.getD i dN) else 0).sum
def memD (cs : List CoinD) (n m : Nat) : List CoinD := ((List.range n).filter fun i => bitN m n i).map fun i => cs.getD i dN
def nearZ (f : Nat → Int) (lo : Int) : Nat → Nat × Int → Nat × Int
  | 0, s => s
  | m + 1, s => nearZ f lo m (if lo ≤ f (m + 1) ∧ f (m + 1) < s.2 then (m + 1, f (m + 1)) else s)
def fitZD (f : Nat → Int) (lo hi : Int) : Nat → Nat × Int → Nat × Int
  | 0, s => s
  | m + 1, s => fitZD f lo hi m (if lo ≤ f (m + 1) ∧ f (m + 1) ≤ hi ∧ (s.1 = 0 ∨ f (m + 1) < s.2) then (m + 1, f (m + 1)) else s)
/-- b: the greatest of the sets from 1 to M that have the least sum from lo to hi; 0: there is none -/
structure Best (f : Nat → Int) (lo hi : Int) (M b : Nat) : Prop where
  no : b = 0 → ∀ m, 1 ≤ m → m ≤ M → ¬(lo ≤ f m ∧ f m ≤ hi)
  yes : b ≠ 0 → b ≤ M ∧ lo ≤ f b ∧ f b ≤ hi ∧ ∀ m, 1 ≤ m → m ≤ M → lo ≤ f m → f b ≤ f m ∧ (f m = f b → m ≤ b)
theorem near_best (f : Nat → Int) (lo hi : Int) (M : Nat) : ∀ (k : Nat) (s : Nat × Int), k ≤ M → (s.1 = 0 → s.2 = hi + 1 ∧ ∀ m, k < m → m ≤ M → ¬(lo ≤ f m ∧ f m ≤ hi)) →
    (s.1 ≠ 0 → s.2 = f s.1 ∧ k < s.1 ∧ s.1 ≤ M ∧ lo ≤ f s.1 ∧ f s.1 ≤ hi ∧ ∀ m, k < m → m ≤ M → lo ≤ f m → f s.1 ≤ f m ∧ (f m = f s.1 → m ≤ s.1)) → Best f lo hi M (nearZ f lo k s).1 := by
  intro k
  induction k with
  | zero =>
    intro s _ h1 h2
    rw [nearZ]
    exact ⟨fun e m hm hM => (h1 e).2 m (by omega) hM, fun e => by
      obtain ⟨a, b, c, d, e1, e2⟩ := h2 e
      exact ⟨c, d, e1, fun m hm hM hl => e2 m (by omega) hM hl⟩⟩
  | succ k ih =>
    intro s hk h1 h2
    rw [nearZ]
    by_cases hc : lo ≤ f (k + 1) ∧ f (k + 1) < s.2
    · rw [if_pos hc]
      refine ih _ (by omega) (fun e => by simp at e) (fun _ => ?_)
      simp only
      by_cases e0 : s.1 = 0
      · obtain ⟨a, b⟩ := h1 e0
        refine ⟨trivial, by omega, hk, hc.1, by omega, fun m hm hM hl => ?_⟩
        by_cases em : m = k + 1
        · subst em; omega
        · have hb := b m (by omega) hM
          have : hi < f m := by
            by_cases hq : f m ≤ hi
            · exact absurd ⟨hl, hq⟩ hb
            · omega
          omega
      · obtain ⟨a, b, c, d, e1, e2⟩ := h2 e0
        refine ⟨trivial, by omega, hk, hc.1, by omega, fun m hm hM hl => ?_⟩
        by_cases em : m = k + 1
        · subst em; omega
        · have := e2 m (by omega) hM hl
          omega
    · rw [if_neg hc]
      refine ih _ (by omega) (fun e => ⟨(h1 e).1, fun m hm hM hf => ?_⟩) (fun e => ?_)
      · by_cases em : m = k + 1
        · subst em; have := (h1 e).1; exact hc ⟨hf.1, by omega⟩
        · exact (h1 e).2 m (by omega) hM hf
      · obtain ⟨a, b, c, d, e1, e2⟩ := h2 e
        refine ⟨a, by omega, c, d, e1, fun m hm hM hl => ?_⟩
        by_cases em : m = k + 1
        · subst em
          have : ¬ f (k + 1) < s.2 := fun h => hc ⟨hl, h⟩
          omega
        · exact e2 m (by omega) hM hl
theorem fit_best (f : Nat → Int) (lo hi : Int) (M : Nat) : ∀ (k : Nat) (s : Nat × Int), k ≤ M → (s.1 = 0 → ∀ m, k < m → m ≤ M → ¬(lo ≤ f m ∧ f m ≤ hi)) →
    (s.1 ≠ 0 → s.2 = f s.1 ∧ k < s.1 ∧ s.1 ≤ M ∧ lo ≤ f s.1 ∧ f s.1 ≤ hi ∧ ∀ m, k < m → m ≤ M → lo ≤ f m → f s.1 ≤ f m ∧ (f m = f s.1 → m ≤ s.1)) → Best f lo hi M (fitZD f lo hi k s).1 := by
  intro k
  induction k with
  | zero =>
    intro s _ h1 h2
    rw [fitZD]
    exact ⟨fun e m hm hM => h1 e m (by omega) hM, fun e => by
      obtain ⟨a, b, c, d, e1, e2⟩ := h2 e
      exact ⟨c, d, e1, fun m hm hM hl => e2 m (by omega) hM hl⟩⟩
  | succ k ih =>
    intro s hk h1 h2
    rw [fitZD]
    by_cases hc : lo ≤ f (k + 1) ∧ f (k + 1) ≤ hi ∧ (s.1 = 0 ∨ f (k + 1) < s.2)
    · rw [if_pos hc]
      refine ih _ (by omega) (fun e => by simp at e) (fun _ => ?_)
      simp only
      obtain ⟨c1, c2, c3⟩ := hc
      by_cases e0 : s.1 = 0
      · refine ⟨trivial, by omega, hk, c1, c2, fun m hm hM hl => ?_⟩
        by_cases em : m = k + 1
        · subst em; omega
        · have hb := h1 e0 m (by omega) hM
          have : hi < f m := by
            by_cases hq : f m ≤ hi
            · exact absurd ⟨hl, hq⟩ hb
            · omega
          omega
      · obtain ⟨a, b, c, d, e1, e2⟩ := h2 e0
        have c4 : f (k + 1) < s.2 := c3.resolve_left e0
        refine ⟨trivial, by omega, hk, c1, c2, fun m hm hM hl => ?_⟩
        by_cases em : m = k + 1
        · subst em; omega
        · have := e2 m (by omega) hM hl
          omega
    · rw [if_neg hc]
      refine ih _ (by omega) (fun e => fun m hm hM hf => ?_) (fun e => ?_)
      · by_cases em : m = k + 1
        · subst em; exact hc ⟨hf.1, hf.2, Or.inl e⟩
        · exact h1 e m (by omega) hM hf
      · obtain ⟨a, b, c, d, e1, e2⟩ := h2 e
        refine ⟨a, by omega, c, d, e1, fun m hm hM hl => ?_⟩
        by_cases em : m = k + 1
        · subst em
          by_cases hq : f (k + 1) ≤ hi
          · have : ¬ f (k + 1) < s.2 := fun h => hc ⟨hl, hq, Or.inr h⟩
            omega
          · omega
        · exact e2 m (by omega) hM hl
def bestP (r : Int) (cs : List CoinD) (lo hi : Int) : Nat := (nearZ (sumP r cs) lo 255 (0, hi + 1)).1
def bestD (r : Int) (cs : List CoinD) (n : Nat) (lo hi : Int) : Nat := (fitZD (sumD r cs n) lo hi (2 ^ n - 1) (0, 0)).1
theorem bit_shift (m j n i : Nat) (hn : n ≤ 8) (hi : i < n) (hj : j < 2 ^ (8 - n)) : bitN (m * 2 ^ (8 - n) + j) 8 i = bitN m n i := by
  unfold bitN
  have e : 8 - 1 - i = (8 - n) + (n - 1 - i) := by omega
  rw [e, Nat.pow_add, ← Nat.div_div_eq_div_mul]
  have e2 : (m * 2 ^ (8 - n) + j) / 2 ^ (8 - n) = m := by
    rw [Nat.mul_comm, Nat.mul_add_div (Nat.two_pow_pos _), Nat.div_eq_of_lt hj]
    omega
  rw [e2]
theorem range_split (a b : Nat) : List.range (a + b) = List.range a ++ (List.range b).map (a + ·) := List.range_add ..
theorem sum_zero {l : List Nat} {f : Nat → Int} (h : ∀ i ∈ l, f i = 0) : (l.map f).sum = 0 := by
  induction l with
  | nil => rfl
  | cons x r ih => rw [List.map_cons, List.sum_cons, h x List.mem_cons_self, ih (fun i hi => h i (List.mem_cons_of_mem _ hi))]; rfl
theorem sumP_D (r : Int) (cs : List CoinD) (n : Nat) (hn : n = min 8 cs.length) (S : Nat) : sumP r cs S = sumD r cs n (S / 2 ^ (8 - n)) := by
  unfold sumP sumD
  rw [show (8 : Nat) = n + (8 - n) by omega, range_split, List.map_append, List.sum_append]
  have e0 : (((List.range (8 - n)).map (n + ·)).map fun i => if decide (i < cs.length) && bitN S (n + (8 - n)) i then worthZ r (cs.getD i dN) else 0).sum = 0 := by
    refine sum_zero (fun i hi => ?_)
    obtain ⟨j, hj, rfl⟩ := List.mem_map.1 hi
    have hj := List.mem_range.1 hj
    rw [decide_eq_false (by omega), Bool.false_and, if_neg (by simp)]
  rw [e0, Int.add_zero]
  congr 1
  refine List.map_congr_left (fun i hi => ?_)
  have hi := List.mem_range.1 hi
  rw [decide_eq_true (by omega), Bool.true_and]
  have hb := bit_shift (S / 2 ^ (8 - n)) (S % 2 ^ (8 - n)) n i (by omega) hi (Nat.mod_lt _ (Nat.two_pow_pos _))
  rw [Nat.div_add_mod'] at hb
  rw [show n + (8 - n) = 8 by omega, hb]
theorem memP_D (cs : List CoinD) (n : Nat) (hn : n = min 8 cs.length) (S : Nat) : memP cs S = memD cs n (S / 2 ^ (8 - n)) := by
  unfold memP memD
  rw [show (8 : Nat) = n + (8 - n) by omega, range_split, List.filter_append]
  have e0 : ((List.range (8 - n)).map (n + ·)).filter (fun i => decide (i < cs.length) && bitN S (n + (8 - n)) i) = [] := by
    rw [List.filter_eq_nil_iff]
    intro i hi
    obtain ⟨j, hj, rfl⟩ := List.mem_map.1 hi
    have hj := List.mem_range.1 hj
    rw [decide_eq_false (by omega), Bool.false_and]
    simp
  rw [e0, List.append_nil]
  congr 1
  refine List.filter_congr (fun i hi => ?_)
  have hi := List.mem_range.1 hi
  rw [decide_eq_true (by omega), Bool.true_and]
  have hb := bit_shift (S / 2 ^ (8 - n)) (S % 2 ^ (8 - n)) n i (by omega) hi (Nat.mod_lt _ (Nat.two_pow_pos _))
  rw [Nat.div_add_mod'] at hb
  rw [show n + (8 - n) = 8 by omega, hb]
theorem best_same (r : Int) (cs : List CoinD) (n : Nat) (hn : n = min 8 cs.length) (lo hi : Int) (hlo : 0 < lo) : bestP r cs lo hi / 2 ^ (8 - n) = bestD r cs n lo hi ∧ (bestP r cs lo hi = 0 ↔ bestD r cs n lo hi = 0) := by
  have hP : Best (sumP r cs) lo hi 255 (bestP r cs lo hi) := near_best _ lo hi 255 255 (0, hi + 1) (Nat.le_refl _) (fun _ => ⟨rfl, fun m h1 h2 => by omega⟩) (fun h => absurd rfl h)
  have hD : Best (sumD r cs n) lo hi (2 ^ n - 1) (bestD r cs n lo hi) := fit_best _ lo hi (2 ^ n - 1) (2 ^ n - 1) (0, 0) (Nat.le_refl _) (fun _ => fun m h1 h2 => by omega) (fun h => absurd rfl h)
  generalize bestP r cs lo hi = bp at *
  generalize bestD r cs n lo hi = bd at *
  have hq : 2 ^ n * 2 ^ (8 - n) = 256 := by rw [← Nat.pow_add, show n + (8 - n) = 8 by omega]
  have hq0 : 0 < 2 ^ (8 - n) := Nat.two_pow_pos _
  have hn0 : 0 < 2 ^ n := Nat.two_pow_pos _
  have hz : sumD r cs n 0 = 0 := by
    unfold sumD
    refine sum_zero (fun i _ => ?_)
    unfold bitN
    rw [Nat.zero_div]
    rfl
  have up : ∀ S, S ≤ 255 → S / 2 ^ (8 - n) ≤ 2 ^ n - 1 := by
    intro S hS
    have : S / 2 ^ (8 - n) < 2 ^ n := by
      rw [Nat.div_lt_iff_lt_mul hq0, hq]
      exact Nat.lt_succ_of_le hS
    exact Nat.le_sub_one_of_lt this
  have pos : ∀ S, lo ≤ sumP r cs S → 1 ≤ S / 2 ^ (8 - n) := by
    intro S hS
    rw [sumP_D r cs n hn S] at hS
    by_cases e : S / 2 ^ (8 - n) = 0
    · rw [e, hz] at hS; omega
    · exact Nat.pos_of_ne_zero e
  have back : ∀ m, 1 ≤ m → m ≤ 2 ^ n - 1 → 1 ≤ m * 2 ^ (8 - n) + (2 ^ (8 - n) - 1) ∧ m * 2 ^ (8 - n) + (2 ^ (8 - n) - 1) ≤ 255 ∧ (m * 2 ^ (8 - n) + (2 ^ (8 - n) - 1)) / 2 ^ (8 - n) = m := by
    intro m h1 h2
    have h3 : (m + 1) * 2 ^ (8 - n) ≤ 2 ^ n * 2 ^ (8 - n) := Nat.mul_le_mul_right _ (by omega)
    rw [Nat.add_mul] at h3
    have h4 : 1 * 2 ^ (8 - n) ≤ m * 2 ^ (8 - n) := Nat.mul_le_mul_right _ h1
    refine ⟨by omega, by omega, ?_⟩
    rw [Nat.mul_comm, Nat.mul_add_div hq0, Nat.div_eq_of_lt (by omega)]
    omega
  by_cases ed : bd = 0
  · have ep : bp = 0 := by
      by_cases ep : bp = 0
      · exact ep
      · obtain ⟨a, b, c, _⟩ := hP.yes ep
        have h1 := pos bp b
        rw [sumP_D r cs n hn bp] at b c
        exact absurd ⟨b, c⟩ (hD.no ed _ h1 (up bp a))
    rw [ed, ep, Nat.zero_div]
    exact ⟨rfl, Iff.rfl⟩
  · obtain ⟨a, b, c, d⟩ := hD.yes ed
    obtain ⟨s1, s2, s3⟩ := back bd (by omega) a
    have hs : sumP r cs (bd * 2 ^ (8 - n) + (2 ^ (8 - n) - 1)) = sumD r cs n bd := by rw [sumP_D r cs n hn, s3]
    have ep : bp ≠ 0 := fun ep => hP.no ep _ s1 s2 (by rw [hs]; exact ⟨b, c⟩)
    obtain ⟨a', b', c', d'⟩ := hP.yes ep
    have h1 := pos bp b'
    have h2 := d' _ s1 s2 (by rw [hs]; exact b)
    rw [hs] at h2
    rw [sumP_D r cs n hn bp] at b' h2
    have h3 := d _ h1 (up bp a') b'
    have e : sumD r cs n bd = sumD r cs n (bp / 2 ^ (8 - n)) := by omega
    have h4 := h2.2 e
    have h5 := h3.2 e.symm
    have h6 : bd ≤ bp / 2 ^ (8 - n) := by
      have := Nat.div_le_div_right (c := 2 ^ (8 - n)) h4
      rw [s3] at this
      exact this
    exact ⟨by omega, ⟨fun h => absurd h ep, fun h => absurd h ed⟩⟩
end Go.Proofs.Ytffgpepngcnjeab

namespace Go.Proofs.Ytffgpepngcnjeab
open Go.RowKit
theorem insG_mem {cs : List CoinD} {x y : CoinD} (h : y ∈ insZ true cs x) : y = x ∨ y ∈ cs := by
  unfold insZ insAt at h
  simp only [List.mem_append, List.mem_cons] at h
  rcases h with h | h | h
  · exact Or.inr (List.mem_of_mem_take h)
  · exact Or.inl h
  · exact Or.inr (List.mem_of_mem_drop h)
theorem insF_mem : ∀ (l acc : List CoinD) {y : CoinD}, y ∈ l.foldl (insZ true) acc → y ∈ l ∨ y ∈ acc := by
  intro l
  induction l with
  | nil => intro acc y h; exact Or.inr h
  | cons x r ih =>
    intro acc y h
    rw [List.foldl_cons] at h
    rcases ih _ h with h | h
    · exact Or.inl (List.mem_cons_of_mem _ h)
    · rcases insG_mem h with h | h
      · exact Or.inl (h ▸ List.mem_cons_self)
      · exact Or.inr h
theorem orderZ_filter (r : Int) (l : List CoinD) : orderZ r l = (l.filter fun c => decide (1 ≤ worthZ r c)).foldl (insZ true) [] := by
  unfold orderZ
  have : ∀ (l acc : List CoinD), l.foldl (ordStep r) acc = (l.filter fun c => decide (1 ≤ worthZ r c)).foldl (insZ true) acc := by
    intro l
    induction l with
    | nil => intro acc; rfl
    | cons x t ih =>
      intro acc
      rw [List.foldl_cons, ih]
      unfold ordStep
      by_cases h : 1 ≤ worthZ r x
      · rw [if_pos h, List.filter_cons_of_pos (by simp [h]), List.foldl_cons]
      · rw [if_neg h, List.filter_cons_of_neg (by simp [h])]
  exact this l []
end Go.Proofs.Ytffgpepngcnjeab
