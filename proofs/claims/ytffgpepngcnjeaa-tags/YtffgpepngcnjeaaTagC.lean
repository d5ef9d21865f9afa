/-
  shaped: a transaction of the right shape, out of a raw one.
-/
import Derived.Test.YtffgpepngcnjeaaTagB
import Derived.Test.YtffgpepngcnjeaaTxOpen
import Derived.Deep.DeepCutAuto
namespace Go.Proofs.Ytffgpepngcnjeaa
open Go.RowKit

theorem pick_same (c n : Int) (w : World) (h1 : 1 ≤ n) (h2 : n ≤ 9223372036854775807) (c1 : -9223372036854775808 ≤ c) (c2 : c ≤ 9223372036854775807) :
    Calls Try.prog 27 #[.int .i64 c, .int .i64 n] w fun e w' => e = .returned (.int .i64 (Mk.pk c n)) ∧ w' = w :=
  (pick_any c n w h1 h2 c1 c2).mono fun _ _ h => ⟨h.1, h.2.symm⟩

theorem own_drewN {w : World} {base : Nat} {v : Value} {l : List Int} (h : OwnInts w base v l) (n : Nat) : OwnInts (w.drewN n) base v l := h
theorem cell_onedN (w : World) (v : Value) (n : Nat) : ((w.drewN n).alloc (.cells #[v] 3)).cell? ⟨w.heap.size, 0, none⟩ = some v := by
  show (w.alloc (.cells #[v] 3)).cell? ⟨w.heap.size, 0, none⟩ = some v
  rw [World.cell?_alloc_new]
  rfl
theorem le_onedN {w : World} {B : Nat} (h : B < w.heap.size) (o : Obj) (n : Nat) : B + 1 ≤ ((w.drewN n).alloc o).heap.size := by
  show B + 1 ≤ (w.alloc o).heap.size
  rw [World.size_alloc]
  omega
theorem app_below {w w2 : World} {B n : Nat} {o : Obj} (h : Below (B + 1) ((w.drewN n).alloc o) w2) (hB : B < w.heap.size) : Below (B + 1) w w2 :=
  ((below_drewN (Below.refl _ _) n).alloc hB _).trans h

theorem own_slice {w : World} {base : Nat} {v : Value} {l : List Int} (h : OwnInts w base v l) : ∃ ao c, v = .slice ao l.length c ∧ IntsAt w ao l ∧ (ao = none → c = 0) ∧ ∀ a, ao = some a → base ≤ a.block ∧ a.block < w.heap.size := by
  obtain ⟨ao, c, rfl, hat, _⟩ := h.slice
  refine ⟨ao, c, rfl, hat, fun e => ?_, fun a e => h.blk a.block (by subst e; rfl)⟩
  subst e
  obtain ⟨_, ⟨h1, _⟩ | ⟨g, cap, cur, h1, _⟩⟩ := h
  · injection h1
  · injection h1 with h1 _ _
    cases h1
theorem rIn_of {id pos : Int} {ao : Option Addr} {c : Nat} {l : List Int} (h1 : 0 ≤ id ∧ id < 99991) (h2 : 0 ≤ pos ∧ pos < 8) (h3 : l.length = 0 ∨ l.length = 5) (h4 : ∀ z ∈ l, 0 ≤ z ∧ z < 99991) : rIn ⟨id, pos, ao, l.length, c, l⟩ = true := by
  simp only [rIn, (Mk.isM_iff id).2 h1, Bool.true_and, Bool.and_eq_true, decide_eq_true_iff]
  refine ⟨h2, ?_⟩
  rcases h3 with h3 | h3
  · simp [h3]
  · have ha : allM l = true := by
      unfold allM
      rw [List.all_eq_true]
      intro z hz
      exact (Mk.isM_iff z).2 (h4 z hz)
    simp [isS, h3, ha]

theorem rOut_of {a v : Int} (h1 : 0 ≤ a ∧ a < 99991) (h2 : 10 ≤ v ∧ v ≤ 1099511627776) : rOut (a, v) = true := by
  simp only [rOut, (Mk.isM_iff a).2 h1, Bool.true_and, decide_eq_true_iff]
  exact h2

theorem all_of {α : Type} (p : α → Bool) (l : List α) (d : α) (h : ∀ j, j < l.length → p (l.getD j d) = true) : l.all p = true := by
  rw [List.all_eq_true]
  intro x hx
  obtain ⟨j, hj, rfl⟩ := List.mem_iff_getElem.1 hx
  have := h j hj
  simpa [List.getD, hj] using this
theorem rTx_of {w : World} {base : Nat} {row : Option Nat} {t : Int} {xs : List InD} {ys : List (Int × Int)} (ht : 0 ≤ t ∧ t ≤ 1099511627776) (hx : xs.length ≤ 10) (hs : Seals w base row (fun _ x => rIn x = true) xs) (hy : 1 ≤ ys.length ∧ ys.length ≤ 8) (ho : ∀ j, j < ys.length → rOut (ys.getD j (0, 0)) = true) : rTx t xs ys = true :=
  rTx_yes ht hx hy (all_of rIn xs dIn fun j hj => (hs j hj).2.1) (all_of rOut ys (0, 0) ho)

/-- the seal in the making: the block IB holds an input's three cells -/
structure NInv (wr : World) (IB : Nat) (id pos : Int) (vs : Value) (l : List Int) (ws : World) : Prop where
  own : OwnInts ws (IB + 1) vs l
  ok : ∀ z ∈ l, 0 ≤ z ∧ z < 99991
  tx : Tx3 ws IB (.int .i64 id) (.int .i64 pos) vs
  bel : Below IB wr ws
  lt : IB < ws.heap.size

theorem NInv.push {wr : World} {IB : Nat} {id pos : Int} {vs : Value} {l : List Int} {ws : World} {y : Int} {v' : Value} {w2 : World} (h : NInv wr IB id pos vs l ws) (hy : 0 ≤ y ∧ y < 99991)
    (hown : OwnInts w2 (IB + 1) v' (l ++ [y])) (hb : Below (IB + 1) ws w2) : NInv wr IB id pos v' (l ++ [y]) (w2.setCell ⟨IB, 2, none⟩ v') := by
  have hset := gb_set w2 IB 2 v'
  have hblk := hown.blk
  have htx : Tx3 w2 IB (.int .i64 id) (.int .i64 pos) vs := by
    have hx := h.tx
    exact ⟨cell_move hb hx.c0 (by omega), cell_move hb hx.c1 (by omega), cell_move hb hx.c2 (by omega), (hb.frozen (p := ⟨IB, 0, none⟩) (by simp only; omega)).trans hx.f0, (hb.frozen (p := ⟨IB, 1, none⟩) (by simp only; omega)).trans hx.f1, (hb.frozen (p := ⟨IB, 2, none⟩) (by simp only; omega)).trans hx.f2⟩
  refine ⟨owns_gb hset hown (fun k hk e => ?_), fun z hz => ?_, htx.set2 _, (h.bel.trans (hb.mono (by omega))).setCell (Nat.le_refl _) _, ?_⟩
  · injection e with e
    have := (hblk k hk).1
    omega
  · rcases List.mem_append.1 hz with hz | hz
    · exact h.ok z hz
    · simp at hz; subst hz; exact hy
  · rw [World.size_setCell]; exact Nat.lt_of_lt_of_le h.lt hb.size

set_option maxRecDepth 100000 in
set_option maxHeartbeats 4000000 in
theorem shaped_any (t : Int) (ai : Option Addr) (n c : Nat) (ap : Option Addr) (m d : Nat) (xs : List InD) (ys : List (Int × Int)) (w : World) (bt : I64 t) (hx : InsAt w ai xs) (hn : xs.length = n) (hy : OutsAt w ap ys) (hm : ys.length = m)
    (_n1 : n ≤ 3518437208883) (_m1 : m ≤ 8796093022208) (hx64 : ∀ j, j < n → In64 (xs.getD j dIn)) (hy64 : ∀ j, j < m → I64 (ys.getD j (0, 0)).1 ∧ I64 (ys.getD j (0, 0)).2) :
    Calls Try.prog 25 #[.agg #[.int .i64 t, .slice ai n c, .slice ap m d]] w fun e w' => ∃ t' vi vo xs' ys', e = .returned (.agg #[.int .i64 t', vi, vo]) ∧ Fresh w' w.heap.size vi vo (fun _ x => rIn x = true) xs' ys' ∧ rTx t' xs' ys' = true ∧ Below w.heap.size w w' := by
  have HN : Hid (xs.length = n) := hn
  have HM : Hid (ys.length = m) := hm
  have HX : Hid (InsAt w ai xs) := hx
  have HY : Hid (OutsAt w ap ys) := hy
  have HX64 : Hid _ := hx64
  have HY64 : Hid _ := hy64
  obtain ⟨bt1, bt2⟩ := bt
  clear hn hm hx hy hx64 hy64
  have hp := Mk.pk_bd t 1099511627777 (by decide)
  go_enter Try.func25, Try.ntmps25
  go_wp2_with (go_at_call 27; refine (pick_any _ _ _ (by omega) (by omega) bt1 bt2).mono ?_; rintro e w' ⟨rfl, rfl⟩)
  generalize Mk.pk t 1099511627777 = T at *
  obtain ⟨W2, HW2, hsz2, hbel2, bx, rs⟩ := htx_start w t ai ap n c m d
  rw [← HW2.out]
  have HBL2 : Hid _ := hbel2
  have HBX : Hid _ := bx
  have HRS : Hid _ := rs
  clear hbel2 bx rs
  generalize hX : w.heap.size = X at *
  have HXX : Hid _ := hX
  clear hX
  have HSZ2 : Hid (W2.heap.size = X + 1 + 1) := hsz2
  clear hsz2
  go_loopw [4] (fun i wr => ∃ (k : Nat) (vi : Value) (zs : List InD), k ≤ n ∧ k ≤ 10 ∧ i = .int .i64 k ∧ Hid (zs.length = k) ∧ SInv W2 (X + 1 + 1) (fun _ x => rIn x = true) T vi (.slice none 0 0) zs wr) (fun i _ => 10 - (intOf i).toNat)
  case atStart =>
    refine ⟨0, _, [], Nat.zero_le _, Nat.zero_le _, rfl, rfl, OwnIns.nil _ _, fun j hj => by simp at hj, ?_, ?_, ?_⟩
    · rw [← HSZ2.out]; exact Tx3.new W2 _ _ _ _
    · exact (Below.refl _ _).alloc (by rw [HSZ2.out]; exact Nat.le_refl _) _
    · rw [World.size_alloc, HSZ2.out]; omega
  case round =>
    obtain ⟨k, vi, zs, hk, hk10, rfl, hzl, hinv⟩ := hrel
    obtain ⟨wo, rfl⟩ : ∃ wo, wo = wr := ⟨_, rfl⟩
    have hbl := hinv.bel
    have hlt0 := hinv.lt
    obtain ⟨x0, x1, x2⟩ := HBX.out wo hbl
    have hw : Below X w wo := HBL2.out.trans (hbl.mono (by omega))
    have hww : Below w.heap.size w wo := by rw [HXX.out]; exact hw
    have HINV : Hid (SInv W2 (X + 1 + 1) (fun _ x => rIn x = true) T vi (.slice none 0 0) zs wo) := hinv
    clear hinv
    by_cases hlt : k < n ∧ k < 10
    · obtain ⟨hlt, hl10⟩ := hlt
      rcases HX.out with hnil | ⟨b, off, rfl, hrow⟩
      · have := HN.out; rw [hnil] at this; simp at this; omega
      obtain ⟨⟨c0, c1, c2⟩, hok⟩ := (hrow.grown hww) k (by rw [HN.out]; exact hlt)
      have h64 := HX64.out k hlt
      have hbX : b < X := by have := cell_lt ((hrow k (by rw [HN.out]; exact hlt)).1.c0); rw [HXX.out] at this; exact this
      clear hrow
      generalize xs.getD k dIn = y at c0 c1 c2 hok h64
      obtain ⟨yid, ypos, yao, yn, yc, yl⟩ := y
      obtain ⟨k1, k2, k3, k4⟩ := hok
      obtain ⟨⟨g1, g2⟩, ⟨g3, g4⟩, g5⟩ := h64
      simp only at c0 c1 c2 k1 k2 k3 k4 g1 g2 g3 g4 g5
      have K1 : Hid (IntsAt wo yao yl) := k1
      have K2 : Hid (yl.length = yn) := k2
      have G5 : Hid _ := g5
      clear k1 k2 k4 g5
      have e1 : (k : Int) < (n : Int) := by omega
      have e2 : (0 : Int) ≤ (k : Int) := by omega
      have e3 : (k : Int) < 10 := by omega
      have ne1 := World.new_ne wo ⟨X, 1, none⟩ x1
      have ne2 := World.new_ne wo ⟨b, off + k * 3, none⟩ c0
      have ne3 := World.new_ne wo ⟨b, off + k * 3 + 1, none⟩ c1
      go_wp2
      go_cut [5] (fun v wx => v = .pointer (some ⟨wo.heap.size, 0, none⟩) ∧ wx = (wo.alloc (.cells #[.int .i64 (Mk.pk yid 99991), .int .i64 (Mk.pk ypos 8), .slice none 0 0] 48)).drew)
      case first =>
        go_region_held3 (fun w' => w'.cell? ⟨X, 1, none⟩ = some (.slice (some ⟨b, off, none⟩) n c) ∧ w'.cell? ⟨b, off + k * 3, none⟩ = some (.int .i64 yid) ∧ w'.cell? ⟨b, off + k * 3 + 1, none⟩ = some (.int .i64 ypos)) (go_keep) ((go_at_call 27; refine (pick_any _ _ _ (by omega) (by omega) (by omega) (by omega)).mono ?_; rintro e w' ⟨rfl, rfl⟩))
        all_goals (go_wp2_with fail; go_meet; exact ⟨rfl, rfl⟩)
      case rest =>
        obtain ⟨rfl, rfl⟩ := hcut
        go_wp2
        have p1 := Mk.pk_bd yid 99991 (by decide)
        have p2 := Mk.pk_bd ypos 8 (by decide)
        generalize Mk.pk yid 99991 = zid at *
        generalize Mk.pk ypos 8 = zpos at *
        go_loopw [6] (fun i ws => ∃ (j : Nat) (vs : Value) (l : List Int), j ≤ 5 ∧ (0 < j → 0 < yn) ∧ i = .int .i64 j ∧ Hid (l.length = j) ∧ NInv wo wo.heap.size zid zpos vs l ws) (fun i _ => 5 - (intOf i).toNat)
        case atStart => exact ⟨0, _, [], Nat.zero_le _, fun h => absurd h (by omega), rfl, rfl, OwnInts.nil _ _, fun z hz => (by cases hz), ⟨(Tx3.new wo _ _ _ 48).c0, (Tx3.new wo _ _ _ 48).c1, (Tx3.new wo _ _ _ 48).c2, (Tx3.new wo _ _ _ 48).f0, (Tx3.new wo _ _ _ 48).f1, (Tx3.new wo _ _ _ 48).f2⟩, ((Below.refl _ _).alloc (Nat.le_refl _) _).drew, by simp⟩
        case round =>
          obtain ⟨j, vs, l, hj, hjn, rfl, hll, hn⟩ := hrel
          have d1 := cell_move hn.bel x1 (cell_lt x1)
          have d2 := cell_move hn.bel c2 (cell_lt c2)
          by_cases hc : j < 5 ∧ 0 < yn
          · obtain ⟨hj5, hyn⟩ := hc
            rcases K1.out with hnil | ⟨sb, so, rfl, srow⟩
            · have := K2.out; rw [hnil] at this; simp at this; omega
            have hmod : j % yn < yn := Nat.mod_lt _ hyn
            have scell := cell_move hn.bel (srow (j % yn) (by rw [K2.out]; exact hmod)) (srow.lt (by intro e; have := K2.out; rw [e] at this; simp at this; omega))
            have s64 : I64 (yl.getD (j % yn) 0) := by
              have hm' : j % yn < yl.length := by rw [K2.out]; exact hmod
              have := G5.out _ (List.getElem_mem hm')
              simpa [List.getD, hm'] using this
            obtain ⟨s1, s2⟩ := s64
            have p3 := Mk.pk_bd (yl.getD (j % yn) 0) 99991 (by decide)
            clear srow
            generalize yl.getD (j % yn) 0 = sx at scell s1 s2 p3
            have y0 : ((yn : Int) == 0) = false := by rw [beq_eq_false_iff_ne]; omega
            have j0 : (0 : Int) ≤ (j : Int) := by omega
            go_wp2
            go_quiet ((go_at_call 27; exact Calls.quiet_of_same (pick_same _ _ _ (by omega) (by omega) (by omega) (by omega))))
            have t2 := hn.tx.c2
            have tf := hn.tx.f2
            have hlt5 := hn.lt
            have hll5 : l.length ≤ 1000000 := by rw [hll.out]; omega
            have HN2 : Hid (NInv wo wo.heap.size zid zpos vs l wr) := hn
            clear hn
            go_wp2_with (at_builtin; refine wpList_app1g _ rfl (.tmp 73) (.tmp 75) rfl (wo.heap.size + 1) wr.heap.size 1 vs l (Mk.pk sx 99991) ?_ ?_ ?_ ?_ ?_ hll5 ?_; rfl; rfl; exact (own_drewN HN2.out.own _).alloc _; exact cell_onedN _ _ _; exact le_onedN hlt5 _ _; intro v' w2 hown2 hb2; obtain ⟨ao2, c2', rfl, _, _⟩ := hown2.slice; have hb3 := app_below hb2 hlt5; have q2 := cell_move hb3 t2 (Nat.lt_succ_self _); have qf := (hb3.frozen (p := ⟨wo.heap.size, 2, none⟩) (Nat.lt_succ_self _)).trans tf)
            go_roundw
            case rel => exact ⟨j + 1, _, l ++ [Mk.pk sx 99991], by omega, fun _ => hyn, by go_num, by show List.length _ = _; rw [List.length_append, hll.out]; rfl, HN2.out.push p3 (by have h := hown2; rw [List.length_append] at h; exact h) hb3⟩
            case measure => simp [intOf]; omega
          · have hs := HINV.out.grown hn.bel
            have t1 := hs.tx.c1
            have tf1 := hs.tx.f1
            have i0 := hn.tx.c0
            have i1 := hn.tx.c1
            have i2 := hn.tx.c2
            obtain ⟨sao, sc, rfl, sat, snil, sblk⟩ := own_slice hn.own
            have hyr : rIn ⟨zid, zpos, sao, l.length, sc, l⟩ = true := rIn_of p1 p2 (by rw [hll.out]; omega) hn.ok
            have hyok : InOk wr ⟨zid, zpos, sao, l.length, sc, l⟩ := ⟨sat, rfl, by simp only; rw [hll.out]; omega, snil⟩
            have hzl10 : zs.length ≤ 3518437208780 := by rw [hzl.out]; omega
            have hvX : some (X + 1 + 1) ≠ vi.ownBlock := fun e => by have := (owns_blk hs.own _ e.symm).1; omega
            have hszr := hs.lt
            have HS : Hid (SInv W2 (X + 1 + 1) (fun _ x => rIn x = true) T vi (.slice none 0 0) zs wr) := hs
            have HBEL : Hid (Below wo.heap.size wo wr) := hn.bel
            have HVX : Hid _ := hvX
            have HYR : Hid _ := hyr
            have HYOK : Hid (InOk wr ⟨zid, zpos, sao, l.length, sc, l⟩) := hyok
            have SBLK : Hid _ := sblk
            clear hs hn hvX hyr hyok sblk sat snil
            by_cases hj5 : j < 5
            · have hyn0 : yn = 0 := by omega
              subst hyn0
              go_wp2_with (at_builtin; refine wpList_appIn wr rfl (.tmp 79) (.tmp 81) rfl (X + 1 + 1 + 1) vi zs ⟨zid, zpos, sao, l.length, sc, l⟩ ?_ ?_ HS.out.own hszr hzl10 ?_; rfl; rfl; intro g cap w2 hown2 hg hlies hglt; have q1 := gb_cell hg t1 HVX.out; have qf := (gb_frozen hg (b := X + 1 + 1) (o := 1) hszr HVX.out).trans tf1)
              go_roundw
              case rel => exact ⟨k + 1, _, zs ++ [⟨zid, zpos, sao, l.length, sc, l⟩], by omega, by omega, by go_num, by show List.length _ = _; rw [List.length_append, hzl.out]; rfl, HINV.out.push HBEL.out HYOK.out HYR.out (fun a ha => ⟨Nat.le_of_succ_le (SBLK.out a ha).1, (SBLK.out a ha).2⟩) hown2 hg hlies⟩
              case measure => simp [intOf]; omega
            · go_wp2_with (at_builtin; refine wpList_appIn wr rfl (.tmp 79) (.tmp 81) rfl (X + 1 + 1 + 1) vi zs ⟨zid, zpos, sao, l.length, sc, l⟩ ?_ ?_ HS.out.own hszr hzl10 ?_; rfl; rfl; intro g cap w2 hown2 hg hlies hglt; have q1 := gb_cell hg t1 HVX.out; have qf := (gb_frozen hg (b := X + 1 + 1) (o := 1) hszr HVX.out).trans tf1)
              go_roundw
              case rel => exact ⟨k + 1, _, zs ++ [⟨zid, zpos, sao, l.length, sc, l⟩], by omega, by omega, by go_num, by show List.length _ = _; rw [List.length_append, hzl.out]; rfl, HINV.out.push HBEL.out HYOK.out HYR.out (fun a ha => ⟨Nat.le_of_succ_le (SBLK.out a ha).1, (SBLK.out a ha).2⟩) hown2 hg hlies⟩
              case measure => simp [intOf]; omega
    · obtain ⟨aio, ci, hvi⟩ : ∃ aio ci, vi = .slice aio zs.length ci := by
        rcases HINV.out.own.cells with ⟨h1, h2⟩ | ⟨g, cc, h1, _⟩
        · subst h2; exact ⟨_, _, h1⟩
        · exact ⟨_, _, h1⟩
      subst hvi
      have hszo : X + 1 + 1 < wo.heap.size := hlt0
      have HOI : Hid (OInv wo (X + 1 + 1) (fun y => rOut y = true) T (.slice aio zs.length ci) (.slice none 0 0) [] wo) := ⟨OwnOuts.nil _ _, fun j hj => by simp at hj, HINV.out.tx, gb_refl _ _, hszo⟩
      have hkk : ¬ k < n ∨ (k < n ∧ ¬ k < 10) := by omega
      have hz10 : zs.length ≤ 10 := by rw [hzl.out]; exact hk10
      have HZ10 : Hid _ := hz10
      clear hlt hz10 x0
      rcases hkk with hkk | ⟨hkk, hk11⟩
      all_goals
        go_wp2
        go_loopw [8] (fun i ws => ∃ (j : Nat) (vo : Value) (us : List (Int × Int)), j ≤ m ∧ j ≤ 8 ∧ i = .int .i64 j ∧ Hid (us.length = j) ∧ OInv wo (X + 1 + 1) (fun y => rOut y = true) T (.slice aio zs.length ci) vo us ws) (fun i _ => 8 - (intOf i).toNat)
        case atStart => exact ⟨0, _, [], Nat.zero_le _, Nat.zero_le _, rfl, rfl, HOI.out⟩
        case round =>
          obtain ⟨j, vo, us, hj, hj8, rfl, hul, ho⟩ := hrel
          have hbx : Below (X + 1 + 1) W2 wr := hbl.trans (gb_to_below ho.gb (by omega) (fun q hq => by injection hq with hq; omega))
          obtain ⟨z0, z1, z2⟩ := HBX.out wr hbx
          have hwr : Below w.heap.size w wr := by rw [HXX.out]; exact HBL2.out.trans (hbx.mono (by omega))
          have t2 := ho.tx.c2
          have tf2 := ho.tx.f2
          have hszr : X + 1 + 1 < wr.heap.size := Nat.lt_of_lt_of_le hszo ho.gb.size
          have hvX : some (X + 1 + 1) ≠ vo.ownBlock := fun e => by have := (owns_blk ho.own _ e.symm).1; omega
          have HVX : Hid _ := hvX
          have HOO : Hid (OInv wo (X + 1 + 1) (fun y => rOut y = true) T (.slice aio zs.length ci) vo us wr) := ho
          clear hvX ho
          by_cases hc : j < m ∧ j < 8
          · obtain ⟨hjm, hjl8⟩ := hc
            rcases HY.out with hnil | ⟨b, off, rfl, hrow⟩
            · have := HM.out; rw [hnil] at this; simp at this; omega
            obtain ⟨c0, c1⟩ := (hrow.grown hwr) j (by rw [HM.out]; exact hjm)
            have hbr : b < wr.heap.size := cell_lt c0
            have hXr : X < wr.heap.size := by omega
            have h64 := HY64.out j hjm
            clear hrow
            generalize ys.getD j (0, 0) = y at c0 c1 h64
            obtain ⟨ya, yv⟩ := y
            obtain ⟨⟨g1, g2⟩, ⟨g3, g4⟩⟩ := h64
            simp only at c0 c1 g1 g2 g3 g4
            have p1 := Mk.pk_bd ya 99991 (by decide)
            have p2 := Mk.pk_bd yv 1099511627767 (by decide)
            have hul8 : us.length ≤ 1000000 := by rw [hul.out]; omega
            have hwo := HOO.out.gb.size
            have hro : rOut (Mk.pk ya 99991, 10 + Mk.pk yv 1099511627767) = true := rOut_of p1 (by omega)
            have HRO : Hid _ := hro
            clear hro
            go_wp2_with (first | (go_at_call 27; refine (pick_any _ _ _ (by omega) (by omega) (by omega) (by omega)).mono ?_; rintro e w' ⟨rfl, rfl⟩) | (go_at_call 70; refine (valued_any _ _ (by omega) (by omega)).mono ?_; rintro e w' ⟨rfl, rfl⟩) | (at_builtin; refine wpList_appOutG _ rfl (.tmp 112) (.tmp 114) rfl wo.heap.size vo us (Mk.pk ya 99991) (10 + Mk.pk yv 1099511627767) (wr.heap.size + 1) (World.size_alloc _ _) ?_ ?_ (HOO.out.grown ((Below.refl _ _).alloc (Nat.le_refl _) _)).own (Nat.le_trans hwo (le_one _ _)) hul8 ?_; rfl; rfl; intro g cap w2 hown2 hg hlies hglt; have q2 := gb_cell (gb_trans (gb_alloc _ _ _) hg) t2 HVX.out; have qf := (gb_frozen (gb_trans (gb_alloc _ _ _) hg) (b := X + 1 + 1) (o := 2) hszr HVX.out).trans tf2))
            go_roundw
            case rel => exact ⟨j + 1, _, us ++ [(Mk.pk ya 99991, 10 + Mk.pk yv 1099511627767)], by omega, by omega, by go_num, by show List.length _ = _; rw [List.length_append, hul.out]; rfl, (HOO.out.grown ((Below.refl _ _).alloc (Nat.le_refl _) _)).push HRO.out hown2 hg⟩
            case measure => simp [intOf]; omega
          · have hjj : ¬ j < m ∨ (j < m ∧ ¬ j < 8) := by omega
            clear hc
            rcases hjj with hjj | ⟨hjj, hj9⟩
            all_goals
              obtain ⟨apo, cc, hvo⟩ : ∃ apo cc, vo = .slice apo us.length cc := by
                rcases HOO.out.own.cells with ⟨h1, h2⟩ | ⟨g, cc, h1, _⟩
                · subst h2; exact ⟨_, _, h1⟩
                · exact ⟨_, _, h1⟩
              subst hvo
              obtain ⟨⟨r0, r1, r2⟩, s0, s1, s2⟩ := HRS.out wr hbx
              have t0 := HOO.out.tx.c0
              have t1 := HOO.out.tx.c1
              have hwo := HOO.out.gb.size
              by_cases hu0 : us.length = 0
              · obtain rfl : us = [] := List.length_eq_zero_iff.1 hu0
                clear hu0
                rw [List.length_nil] at t2
                have hg2 : ∀ (w2 : World), wr.grownBy w2 (Value.slice apo 0 cc).ownBlock → Below (X + 1 + 1) W2 w2 := fun w2 hg => hbx.trans (gb_to_below hg (by omega) (fun q hq => by have := (owns_blk HOO.out.own q hq).1; omega))
                have HG2 : Hid _ := hg2
                clear hg2 r0 r1 r2 s0 s1 s2
                go_wp2_with (at_builtin; refine wpList_appOut wr rfl (.tmp 122) (.tmp 124) rfl wo.heap.size (.slice apo 0 cc) [] 0 10 ?_ ?_ HOO.out.own hwo (Nat.zero_le _) ?_; rfl; rfl; intro g cap w2 hown2 hg hlies hglt; have q0 := gb_cell hg t0 HVX.out; have q1 := gb_cell hg t1 HVX.out; have q2 := gb_cell hg t2 HVX.out; have qf := (gb_frozen hg (b := X + 1 + 1) (o := 2) hszr HVX.out).trans tf2; obtain ⟨⟨r0, r1, r2⟩, s0, s1, s2⟩ := HRS.out w2 (HG2.out w2 hg))
                have hpush := HOO.out.push (y := (0, 10)) (by decide) hown2 hg
                have hfr := Fresh.of HINV.out hpush
                refine bodyPost_ret (v := .agg #[.int .i64 T, .slice aio zs.length ci, .slice (some ⟨g, 0, none⟩) 1 cap]) ?_ rfl ⟨T, _, _, zs, [] ++ [(0, 10)], rfl, ?_, ?_, ?_⟩
                · simp [results, Try.results25, go_sem, r0, r1, r2]
                · rw [HXX.out]
                  exact (hfr.gb (gb_put3 _ (X + 1) 0 _ _ _) (fun q hq => by injection hq with hq; omega)).lower (by omega)
                · exact rTx_of ⟨hp.1, by omega⟩ HZ10.out hfr.ok (by decide) hpush.ok
                · rw [HXX.out]
                  exact put3_below ((HBL2.out.trans ((HG2.out w2 hg).mono (by omega))).setCell (by show X ≤ X + 1 + 1; omega) _) (Nat.le_succ X)
              · have hu0' : ((us.length : Int) == 0) = false := by rw [beq_eq_false_iff_ne]; omega
                go_wp2
                have hfr := Fresh.of HINV.out HOO.out
                refine bodyPost_ret (v := .agg #[.int .i64 T, .slice aio zs.length ci, .slice apo us.length cc]) ?_ rfl ⟨T, _, _, zs, us, rfl, ?_, ?_, ?_⟩
                · simp [results, Try.results25, go_sem, r0, r1, r2]
                · rw [HXX.out]
                  exact (hfr.gb (gb_put3 _ (X + 1) 0 _ _ _) (fun q hq => by injection hq with hq; omega)).lower (by omega)
                · exact rTx_of ⟨hp.1, by omega⟩ HZ10.out hfr.ok (by rw [hul.out] at hu0 ⊢; omega) HOO.out.ok
                · rw [HXX.out]
                  exact put3_below (HBL2.out.trans (hbx.mono (by omega))) (Nat.le_succ X)

end Go.Proofs.Ytffgpepngcnjeaa
