/-
  Package watch: put.
-/
import Derived.Test.YtdafkhdgobdhaaaPutB
import Derived.Deep.QuietTactic
import Derived.BigQuiet
namespace Go.Proofs.Ytdafkhdgobdhaaa
open Go.RowKit

/-- the list in the making: the block S with its slice, the coin in block X -/
structure PInv (v : Value) (w : World) (S X : Nat) (g n c : Nat) (L : List CoinD) (x : CoinD) (wr : World) : Prop where
  s0 : wr.cell? ⟨S, 0, none⟩ = some (.slice (some ⟨g, 0, none⟩) (n + 1) c)
  sf : wr.frozen? ⟨S, 0, none⟩ = false
  own : OwnRec CoinD.l 125 6 wr (S + 1) (.slice (some ⟨g, 0, none⟩) (n + 1) c) L
  len : L.length = n + 1
  row : VRow wr X 0 x.l
  fr : Fr (chE S v) w wr
  gl : v.ownBlock = some g ∨ w.heap.size ≤ g
  lt : S < g ∧ S < X ∧ g ≠ X

theorem fr_set6 {E : Nat → Prop} {w w' : World} (h : Fr E w w') (g p : Nat) (y : CoinD) (hE : g < w.heap.size → E g) : Fr E w (set6 w' g p y) :=
  (((((h.set g p _ hE).set g _ _ hE).set g _ _ hE).set g _ _ hE).set g _ _ hE).set g _ _ hE

theorem PInv.six {v : Value} {w : World} {S X g n c : Nat} {L : List CoinD} {x : CoinD} {wr : World} (h : PInv v w S X g n c L x wr) (q : Nat) (hq : q < n + 1) (y : CoinD) : PInv v w S X g n c (L.set q y) x (set6 wr g (q * 6) y) := by
  have hg := gb_set6 wr g (q * 6) y
  have hS : some S ≠ some g := fun e => by injection e with e; have := h.lt; omega
  have hX : some X ≠ some g := fun e => by injection e with e; have := h.lt; omega
  exact ⟨gb_cell hg h.s0 hS, (gb_frozen hg (cell_lt h.s0) hS).trans h.sf, own_set6 h.own h.len q hq y, by rw [List.length_set]; exact h.len, h.row.gb hg hX, fr_set6 h.fr g (q * 6) y (fun hl => Or.inr (h.gl.resolve_right (by omega))), h.gl, h.lt⟩
theorem PInv.drew {v : Value} {w : World} {S X g n c : Nat} {L : List CoinD} {x : CoinD} {wr : World} (h : PInv v w S X g n c L x wr) : PInv v w S X g n c L x wr.drew := ⟨h.s0, h.sf, h.own, h.len, h.row, h.fr.drew, h.gl, h.lt⟩
theorem PInv.grown {v : Value} {w : World} {S X g n c : Nat} {L : List CoinD} {x : CoinD} {wr ws : World} (h : PInv v w S X g n c L x wr) (hb : Below wr.heap.size wr ws) : PInv v w S X g n c L x ws := by
  have hl : S < wr.heap.size := cell_lt h.s0
  exact ⟨(hb.cell (p := ⟨S, 0, none⟩) hl).trans h.s0, (hb.frozen (p := ⟨S, 0, none⟩) hl).trans h.sf, h.own.grown hb, h.len, h.row.grown hb, h.fr.trans (Fr.of_below hb _), h.gl, h.lt⟩

theorem insI_succ (cs : List CoinD) (x : CoinD) (k : Nat) : insI cs x (k + 1) = if aheadZ x (cs.getD k dN) = true then insI cs x k else k + 1 := rfl

theorem xrow {w : World} {X : Nat} {a0 a1 a2 a3 a4 a5 : Int} (h : VRow w X 0 (CoinD.l ⟨a0, a1, a2, a3, a4, a5⟩)) :
    w.cell? ⟨X, 0, none⟩ = some (.int .i64 a0) ∧ w.cell? ⟨X, 1, none⟩ = some (.int .i64 a1) ∧ w.cell? ⟨X, 2, none⟩ = some (.int .i64 a2) ∧ w.cell? ⟨X, 3, none⟩ = some (.int .i64 a3) ∧ w.cell? ⟨X, 4, none⟩ = some (.int .i64 a4) ∧ w.cell? ⟨X, 5, none⟩ = some (.int .i64 a5) :=
  ⟨h 0 (by simp [CoinD.l]), h 1 (by simp [CoinD.l]), h 2 (by simp [CoinD.l]), h 3 (by simp [CoinD.l]), h 4 (by simp [CoinD.l]), h 5 (by simp [CoinD.l])⟩

set_option maxRecDepth 100000 in
set_option maxHeartbeats 20000000 in
theorem put_any (S : Nat) (v : Value) (cs : List CoinD) (x : CoinD) (w : World) (h0 : w.cell? ⟨S, 0, none⟩ = some v) (hf : w.frozen? ⟨S, 0, none⟩ = false) (hown : OwnRec CoinD.l 125 6 w (S + 1) v cs) (hlen : cs.length ≤ 10000) :
    Calls Try.prog 97 #[.pointer (some ⟨S, 0, none⟩), coinV x] w fun e w' => e = .returned (.tuple #[]) ∧ ∃ v', w'.cell? ⟨S, 0, none⟩ = some v' ∧ w'.frozen? ⟨S, 0, none⟩ = false ∧ OwnRec CoinD.l 125 6 w' (S + 1) v' (insZ cs x) ∧ ChStep S v v' w w' := by
  obtain ⟨a0, a1, a2, a3, a4, a5⟩ := x
  have HOWN : Hid (OwnRec CoinD.l 125 6 w (S + 1) v cs) := hown
  clear hown
  have hSl : S < w.heap.size := cell_lt h0
  generalize hn : cs.length = n at *
  have HN : Hid (cs.length = n) := hn
  clear hn
  go_enter Try.func97, Try.ntmps97
  go_upto_region 1 with fail
  have hX : VRow (w.alloc (.cells #[.int .i64 a0, .int .i64 a1, .int .i64 a2, .int .i64 a3, .int .i64 a4, .int .i64 a5] 125)) w.heap.size 0 (CoinD.l ⟨a0, a1, a2, a3, a4, a5⟩) := vrow_new _ _ _
  have hb0 : Below w.heap.size w (w.alloc (.cells #[.int .i64 a0, .int .i64 a1, .int .i64 a2, .int .i64 a3, .int .i64 a4, .int .i64 a5] 125)) := (Below.refl _ _).alloc (Nat.le_refl _) _
  have HOWN1 : Hid (OwnRec CoinD.l 125 6 (w.alloc (.cells #[.int .i64 a0, .int .i64 a1, .int .i64 a2, .int .i64 a3, .int .i64 a4, .int .i64 a5] 125)) (S + 1) v cs) := HOWN.out.alloc _
  generalize w.alloc (.cells #[.int .i64 a0, .int .i64 a1, .int .i64 a2, .int .i64 a3, .int .i64 a4, .int .i64 a5] 125) = wa at *
  obtain ⟨x0, x1, x2, x3, x4, x5⟩ := xrow hX
  have s0 : wa.cell? ⟨S, 0, none⟩ = some v := (hb0.cell (p := ⟨S, 0, none⟩) hSl).trans h0
  have sf : wa.frozen? ⟨S, 0, none⟩ = false := (hb0.frozen (p := ⟨S, 0, none⟩) hSl).trans hf
  have hXl : w.heap.size < wa.heap.size := cell_lt x0
  have hbS : Fr (chE S v) w wa := Fr.of_below hb0 _
  have HXw : Hid (w.heap.size ≤ wa.heap.size) := hb0.size
  have hvX : some w.heap.size ≠ v.ownBlock := fun e => Nat.lt_irrefl _ (HOWN.out.blk _ e.symm).2
  have HX : Hid (VRow wa w.heap.size 0 (CoinD.l ⟨a0, a1, a2, a3, a4, a5⟩)) := hX
  generalize hXe : w.heap.size = X at *
  have HXe : Hid (w.heap.size = X) := hXe
  clear hXe
  have hSla : S < wa.heap.size := cell_lt s0
  clear h0 hf hX hb0
  have hbv : some S ≠ v.ownBlock := fun e => Nat.not_succ_le_self _ (HOWN1.out.blk _ e.symm).1
  go_cut [] (fun wx => ∃ g c, PInv v w S X g n c (insAt cs ⟨a0, a1, a2, a3, a4, a5⟩ n) ⟨a0, a1, a2, a3, a4, a5⟩ wx)
  case first =>
    go_region_law (refine step_appR 63 48 _ Try.underlying63 info125 rfl (by decide) coin6 coin_one _ ?_ (.tmp 9) (.tmp 11) ?_ (S + 1) wa.heap.size 1 v cs ⟨a0, a1, a2, a3, a4, a5⟩ ?_ ?_ ?_ ?_ ?_ ?_ ?_ ?_; rfl; rfl; rfl; rfl; exact OwnRec.drew (HOWN1.out.alloc _); exact VRow.drew (vrow_new wa _ _); (rw [World.size_drew, World.size_alloc]; omega); (rw [HN.out]; unfold maxLen; omega); (rw [HN.out]; omega); rw [HN.out]; intro g cap w2 hown2 hg2 hl2 hlt2; have k0 := keepO hg2 s0 hbv; have k1 := keepF hg2 sf hSla hbv)
    all_goals
      go_wp2_with fail
      go_meet
      refine ⟨g, cap, ?_⟩
      have hgS : S + 1 ≤ g := (hown2.blk g rfl).1
      have hgX : g ≠ X := by
        intro e
        rcases hl2 with hl2 | hl2
        · exact hvX (by rw [← e, hl2])
        · rw [World.size_drew, World.size_alloc] at hl2; omega
      have hne : some S ≠ some g := fun e => by injection e with e; omega
      refine ⟨World.cell?_setCell_same _ _ _ k0, by rw [World.frozen?_setCell]; exact k1, ?_, ?_, ?_, ?_, hl2.imp id (fun h => by rw [World.size_drew, World.size_alloc] at h; have := HXw.out; have := HXe.out; omega), by omega, by omega, hgX⟩
      · have := hown2.gb (gb_set w2 S 0 (.slice (some ⟨g, 0, none⟩) (n + 1) cap)) (fun k hk e => by simp [Value.ownBlock] at hk; injection e with e; omega)
        rw [← HN.out, insAt_end, HN.out]
        exact this
      · rw [insAt_len _ _ _ (by rw [HN.out]; omega), HN.out]
      · have hr : VRow ((wa.alloc (.cells #[.int .i64 a0, .int .i64 a1, .int .i64 a2, .int .i64 a3, .int .i64 a4, .int .i64 a5] 125)).drew) X 0 (CoinD.l ⟨a0, a1, a2, a3, a4, a5⟩) := HX.out.grown (((Below.refl wa.heap.size wa).alloc (Nat.le_refl _) _).drew)
        exact (hr.gb hg2 hvX).gb (gb_set w2 S 0 _) (fun e => by injection e with e; omega)
      · have f1 : Fr (chE S v) wa ((wa.alloc (.cells #[.int .i64 a0, .int .i64 a1, .int .i64 a2, .int .i64 a3, .int .i64 a4, .int .i64 a5] 125)).drew) := ((Fr.refl _ wa).alloc _).drew
        have f2 : Fr (chE S v) ((wa.alloc (.cells #[.int .i64 a0, .int .i64 a1, .int .i64 a2, .int .i64 a3, .int .i64 a4, .int .i64 a5] 125)).drew) w2 := Fr.of_gb hg2 (fun k hk _ => Or.inr hk)
        exact (hbS.trans (f1.trans f2)).set S 0 _ (fun _ => Or.inl rfl)
  case rest =>
    obtain ⟨g, c, hinv⟩ := hcut
    have s0' := hinv.s0
    have HI : Hid (PInv v w S X g n c (insAt cs ⟨a0, a1, a2, a3, a4, a5⟩ n) ⟨a0, a1, a2, a3, a4, a5⟩ wc) := hinv
    clear hinv x0 x1 x2 x3 x4 x5 s0 sf HX hXl hbS hvX hSla hbv HOWN1
    go_wp2
    go_loopw [4] (fun i wr => ∃ k : Nat, k ≤ n ∧ i = .int .i64 k ∧ Hid (insI cs ⟨a0, a1, a2, a3, a4, a5⟩ k = insI cs ⟨a0, a1, a2, a3, a4, a5⟩ n) ∧ PInv v w S X g n c (insAt cs ⟨a0, a1, a2, a3, a4, a5⟩ k) ⟨a0, a1, a2, a3, a4, a5⟩ wr) (fun i _ => (intOf i).toNat)
    case atStart => exact ⟨n, Nat.le_refl _, by go_num, rfl, HI.out⟩
    case round =>
      obtain ⟨k, hk, rfl, hz, hp⟩ := hrel
      cases k with
      | zero =>
        have HF : Hid _ := hp
        have HZ0 : Hid (insI cs ⟨a0, a1, a2, a3, a4, a5⟩ n = 0) := hz.out.symm
        clear hp
        go_wp2
        go_quiet (fail)
        go_wp2
        go_end0
        refine ⟨rfl, _, HF.out.s0, HF.out.sf, ?_, ⟨⟨HF.out.fr.os, HF.out.fr.tape, HF.out.fr.output, HF.out.fr.size, HF.out.fr.block⟩, fun k hk => by simp [Value.ownBlock] at hk; subst hk; exact HF.out.gl⟩⟩
        unfold insZ
        rw [HN.out, HZ0.out]
        exact HF.out.own
      | succ k =>
        have hkl : k < cs.length := by rw [HN.out]; omega
        have hll : (insAt cs ⟨a0, a1, a2, a3, a4, a5⟩ (k + 1)).length = n + 1 := hp.len
        obtain ⟨x0, x1, x2, x3, x4, x5⟩ := xrow hp.row
        have s0 := hp.s0
        obtain ⟨g', hg', hg1, hg2, hrow, hfz⟩ := own_some coin6 hp.own hp.len (by omega)
        obtain ⟨r0, r1, r2, r3, r4, r5⟩ := coinCells hrow k (by omega)
        injection hg' with hg'
        injection hg' with hg'
        subst hg'
        rw [Nat.zero_add, insAt_ahead _ _ _ hkl] at r0 r1 r2 r3 r4 r5
        have HZ : Hid _ := hz.out
        rw [insI_succ] at HZ
        have HST : Hid _ := insAt_step cs ⟨a0, a1, a2, a3, a4, a5⟩ k hkl
        generalize hy : cs.getD k dN = y at r0 r1 r2 r3 r4 r5 HZ HST
        obtain ⟨y0, y1, y2, y3, y4, y5⟩ := y
        simp only at r0 r1 r2 r3 r4 r5
        have e1 : ((k : Int) + 1) - 1 = k := by omega
        have HP : Hid (PInv v w S X g n c (insAt cs ⟨a0, a1, a2, a3, a4, a5⟩ (k + 1)) ⟨a0, a1, a2, a3, a4, a5⟩ wr) := hp
        clear hp
        generalize hN1 : n + 1 = N at s0 hll
        generalize hki : k + 1 = K
        have HKI : Hid (k + 1 = K) := hki
        have HN1 : Hid (n + 1 = N) := hN1
        have e3 : (k : Int) < (N : Int) := by omega
        have e4 : (0 : Int) ≤ (k : Int) := by omega
        have hw1 : IntKind.i64.wrap ((K : Int) - 1) = k := by rw [show (K : Int) - 1 = k by omega]; exact IntWalk.i64_in _ ⟨by omega, by omega⟩
        have e6 : (0 : Int) < (K : Int) := by omega
        have hK0 : 0 < K := by omega
        have hd : decide ((0 : Int) < (K : Int)) = true := by rw [decide_eq_true_iff]; exact e6
        have e7 : (K : Int) < (N : Int) := by omega
        clear hN1 hki e1
        have hkb : ∀ w2, Below wr.drew.heap.size wr.drew w2 → w2.cell? ⟨S, 0, none⟩ = some (.slice (some ⟨g, 0, none⟩) N c) ∧ w2.cell? ⟨X, 0, none⟩ = some (.int .i64 a0) ∧ w2.cell? ⟨X, 1, none⟩ = some (.int .i64 a1) ∧ w2.cell? ⟨X, 2, none⟩ = some (.int .i64 a2) ∧ w2.cell? ⟨X, 3, none⟩ = some (.int .i64 a3) ∧ w2.cell? ⟨X, 4, none⟩ = some (.int .i64 a4) ∧ w2.cell? ⟨X, 5, none⟩ = some (.int .i64 a5) ∧ w2.cell? ⟨g, k * 6, none⟩ = some (.int .i64 y0) ∧ w2.cell? ⟨g, k * 6 + 1, none⟩ = some (.int .i64 y1) ∧ w2.cell? ⟨g, k * 6 + 2, none⟩ = some (.int .i64 y2) ∧ w2.cell? ⟨g, k * 6 + 3, none⟩ = some (.int .i64 y3) ∧ w2.cell? ⟨g, k * 6 + 4, none⟩ = some (.int .i64 y4) ∧ w2.cell? ⟨g, k * 6 + 5, none⟩ = some (.int .i64 y5) := fun w2 hb =>
          ⟨(hb.cell (p := ⟨S, 0, none⟩) (cell_lt s0)).trans s0, (hb.cell (p := ⟨X, 0, none⟩) (cell_lt x0)).trans x0, (hb.cell (p := ⟨X, 1, none⟩) (cell_lt x1)).trans x1, (hb.cell (p := ⟨X, 2, none⟩) (cell_lt x2)).trans x2, (hb.cell (p := ⟨X, 3, none⟩) (cell_lt x3)).trans x3, (hb.cell (p := ⟨X, 4, none⟩) (cell_lt x4)).trans x4, (hb.cell (p := ⟨X, 5, none⟩) (cell_lt x5)).trans x5, (hb.cell (p := ⟨g, k * 6, none⟩) (cell_lt r0)).trans r0, (hb.cell (p := ⟨g, k * 6 + 1, none⟩) (cell_lt r1)).trans r1, (hb.cell (p := ⟨g, k * 6 + 2, none⟩) (cell_lt r2)).trans r2, (hb.cell (p := ⟨g, k * 6 + 3, none⟩) (cell_lt r3)).trans r3, (hb.cell (p := ⟨g, k * 6 + 4, none⟩) (cell_lt r4)).trans r4, (hb.cell (p := ⟨g, k * 6 + 5, none⟩) (cell_lt r5)).trans r5⟩
        have HKB : Hid _ := hkb
        clear hkb hrow hfz hz
        cases hah : aheadZ ⟨a0, a1, a2, a3, a4, a5⟩ ⟨y0, y1, y2, y3, y4, y5⟩
        · go_wp2
          go_region_held3 (fun w' => w'.cell? ⟨S, 0, none⟩ = some (.slice (some ⟨g, 0, none⟩) N c) ∧ w'.cell? ⟨X, 0, none⟩ = some (.int .i64 a0) ∧ w'.cell? ⟨X, 1, none⟩ = some (.int .i64 a1) ∧ w'.cell? ⟨X, 2, none⟩ = some (.int .i64 a2) ∧ w'.cell? ⟨X, 3, none⟩ = some (.int .i64 a3) ∧ w'.cell? ⟨X, 4, none⟩ = some (.int .i64 a4) ∧ w'.cell? ⟨X, 5, none⟩ = some (.int .i64 a5) ∧ w'.cell? ⟨g, k * 6, none⟩ = some (.int .i64 y0) ∧ w'.cell? ⟨g, k * 6 + 1, none⟩ = some (.int .i64 y1) ∧ w'.cell? ⟨g, k * 6 + 2, none⟩ = some (.int .i64 y2) ∧ w'.cell? ⟨g, k * 6 + 3, none⟩ = some (.int .i64 y3) ∧ w'.cell? ⟨g, k * 6 + 4, none⟩ = some (.int .i64 y4) ∧ w'.cell? ⟨g, k * 6 + 5, none⟩ = some (.int .i64 y5)) (first | go_keep | exact HKB.out _ (by assumption)) ((go_at_call 104; refine (isAhead_any ⟨a0, a1, a2, a3, a4, a5⟩ ⟨y0, y1, y2, y3, y4, y5⟩ _).mono ?_; rintro e w2 ⟨rfl, hb2⟩; rw [hah]))
          have hp2 := HP.out.drew.grown hb2
          have HZ' : Hid (insI cs ⟨a0, a1, a2, a3, a4, a5⟩ n = k + 1) := by
            show _ = _
            have := HZ.out
            rw [hah] at this
            simpa using this.symm
          go_wp2
          go_end0
          refine ⟨rfl, _, hp2.s0, hp2.sf, ?_, ⟨hp2.fr, fun q hq => by simp [Value.ownBlock] at hq; subst hq; exact hp2.gl⟩⟩
          unfold insZ
          rw [HN.out, HZ'.out]
          exact hp2.own
        · go_wp2
          go_region_held3 (fun w' => w'.cell? ⟨S, 0, none⟩ = some (.slice (some ⟨g, 0, none⟩) N c) ∧ w'.cell? ⟨X, 0, none⟩ = some (.int .i64 a0) ∧ w'.cell? ⟨X, 1, none⟩ = some (.int .i64 a1) ∧ w'.cell? ⟨X, 2, none⟩ = some (.int .i64 a2) ∧ w'.cell? ⟨X, 3, none⟩ = some (.int .i64 a3) ∧ w'.cell? ⟨X, 4, none⟩ = some (.int .i64 a4) ∧ w'.cell? ⟨X, 5, none⟩ = some (.int .i64 a5) ∧ w'.cell? ⟨g, k * 6, none⟩ = some (.int .i64 y0) ∧ w'.cell? ⟨g, k * 6 + 1, none⟩ = some (.int .i64 y1) ∧ w'.cell? ⟨g, k * 6 + 2, none⟩ = some (.int .i64 y2) ∧ w'.cell? ⟨g, k * 6 + 3, none⟩ = some (.int .i64 y3) ∧ w'.cell? ⟨g, k * 6 + 4, none⟩ = some (.int .i64 y4) ∧ w'.cell? ⟨g, k * 6 + 5, none⟩ = some (.int .i64 y5)) (first | go_keep | exact HKB.out _ (by assumption)) ((go_at_call 104; refine (isAhead_any ⟨a0, a1, a2, a3, a4, a5⟩ ⟨y0, y1, y2, y3, y4, y5⟩ _).mono ?_; rintro e w2 ⟨rfl, hb2⟩; rw [hah]))
          have HP2 : Hid (PInv v w S X g n c (insAt cs ⟨a0, a1, a2, a3, a4, a5⟩ (k + 1)) ⟨a0, a1, a2, a3, a4, a5⟩ w2) := HP.out.drew.grown hb2
          have HZ' : Hid (insI cs ⟨a0, a1, a2, a3, a4, a5⟩ k = insI cs ⟨a0, a1, a2, a3, a4, a5⟩ n) := by
            show _ = _
            have := HZ.out
            rw [hah] at this
            simpa using this
          clear HP HKB HZ x0 x1 x2 x3 x4 x5 r0 r1 r2 r3 r4 r5 s0 hb2
          rename_i hHd
          obtain ⟨s0, x0, x1, x2, x3, x4, x5, r0, r1, r2, r3, r4, r5⟩ := hHd
          obtain ⟨g', hg', hg1', hg2', hrow, hfz⟩ := own_some coin6 HP2.out.own HP2.out.len (by omega)
          injection hg' with hg'
          injection hg' with hg'
          subst hg'
          obtain ⟨t0, t1, t2, t3, t4, t5⟩ := coinCells hrow (k + 1) (by have := HN1.out; omega)
          rw [Nat.zero_add] at t0 t1 t2 t3 t4 t5
          rw [HKI.out] at t0 t1 t2 t3 t4 t5
          have fz0 := hfz (K * 6)
          have fz1 := hfz (K * 6 + 1)
          have fz2 := hfz (K * 6 + 2)
          have fz3 := hfz (K * 6 + 3)
          have fz4 := hfz (K * 6 + 4)
          have fz5 := hfz (K * 6 + 5)
          have e8 : (0 : Int) ≤ (K : Int) := by omega
          clear hrow hfz
          go_wp2
          go_region
          have hset : ((((((w2.setCell ⟨g, K * 6, none⟩ (.int .i64 y0)).setCell ⟨g, K * 6 + 1, none⟩ (.int .i64 y1)).setCell ⟨g, K * 6 + 2, none⟩ (.int .i64 y2)).setCell ⟨g, K * 6 + 3, none⟩ (.int .i64 y3)).setCell ⟨g, K * 6 + 4, none⟩ (.int .i64 y4)).setCell ⟨g, K * 6 + 5, none⟩ (.int .i64 y5)).drew = (set6 w2 g (K * 6) ⟨y0, y1, y2, y3, y4, y5⟩).drew := rfl
          rw [hset]
          have HP3 : Hid (PInv v w S X g n c ((insAt cs ⟨a0, a1, a2, a3, a4, a5⟩ (k + 1)).set K ⟨y0, y1, y2, y3, y4, y5⟩) ⟨a0, a1, a2, a3, a4, a5⟩ (set6 w2 g (K * 6) ⟨y0, y1, y2, y3, y4, y5⟩).drew) := (HP2.out.six K (by have := HN1.out; omega) _).drew
          clear hset
          generalize (set6 w2 g (K * 6) ⟨y0, y1, y2, y3, y4, y5⟩).drew = w3 at *
          clear HP2 s0 x0 x1 x2 x3 x4 x5 r0 r1 r2 r3 r4 r5 t0 t1 t2 t3 t4 t5 fz0 fz1 fz2 fz3 fz4 fz5
          obtain ⟨x0, x1, x2, x3, x4, x5⟩ := xrow HP3.out.row
          have s0 := HP3.out.s0
          rw [HN1.out] at s0
          obtain ⟨g', hg', hg1', hg2', hrow, hfz⟩ := own_some coin6 HP3.out.own HP3.out.len (by omega)
          injection hg' with hg'
          injection hg' with hg'
          subst hg'
          obtain ⟨t0, t1, t2, t3, t4, t5⟩ := coinCells hrow k (by have := HN1.out; have := HP3.out.len; omega)
          rw [Nat.zero_add] at t0 t1 t2 t3 t4 t5
          generalize ((insAt cs ⟨a0, a1, a2, a3, a4, a5⟩ (k + 1)).set K ⟨y0, y1, y2, y3, y4, y5⟩).getD k dN = z at t0 t1 t2 t3 t4 t5
          have fz0 := hfz (k * 6)
          have fz1 := hfz (k * 6 + 1)
          have fz2 := hfz (k * 6 + 2)
          have fz3 := hfz (k * 6 + 3)
          have fz4 := hfz (k * 6 + 4)
          have fz5 := hfz (k * 6 + 5)
          clear hrow hfz
          go_wp2
          go_region
          have hset : ((((((w3.setCell ⟨g, k * 6, none⟩ (.int .i64 a0)).setCell ⟨g, k * 6 + 1, none⟩ (.int .i64 a1)).setCell ⟨g, k * 6 + 2, none⟩ (.int .i64 a2)).setCell ⟨g, k * 6 + 3, none⟩ (.int .i64 a3)).setCell ⟨g, k * 6 + 4, none⟩ (.int .i64 a4)).setCell ⟨g, k * 6 + 5, none⟩ (.int .i64 a5)).drew = (set6 w3 g (k * 6) ⟨a0, a1, a2, a3, a4, a5⟩).drew := rfl
          rw [hset]
          have HP4 : Hid (PInv v w S X g n c (insAt cs ⟨a0, a1, a2, a3, a4, a5⟩ k) ⟨a0, a1, a2, a3, a4, a5⟩ (set6 w3 g (k * 6) ⟨a0, a1, a2, a3, a4, a5⟩).drew) := by
            have h4 := (HP3.out.six k (by omega) ⟨a0, a1, a2, a3, a4, a5⟩).drew
            rw [← HKI.out, HST.out] at h4
            exact h4
          clear hset
          generalize (set6 w3 g (k * 6) ⟨a0, a1, a2, a3, a4, a5⟩).drew = w4 at *
          clear HP3 s0 x0 x1 x2 x3 x4 x5 t0 t1 t2 t3 t4 t5 fz0 fz1 fz2 fz3 fz4 fz5
          have hNe := HN1.out
          subst hNe
          have hKe := HKI.out
          subst hKe
          go_wp2
          go_roundw
          case rel => exact ⟨k, by omega, by go_num, HZ', HP4.out⟩
          case measure => simp [intOf]

end Go.Proofs.Ytdafkhdgobdhaaa
