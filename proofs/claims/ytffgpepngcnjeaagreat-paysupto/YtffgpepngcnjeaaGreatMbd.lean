/-
  The game of Pays: its steps, its beginning, the law.
-/
import Derived.Test.YtffgpepngcnjeaaGreatMbb
import Derived.Test.YtffgpepngcnjeaaGreatMbc
namespace Go.Proofs.YtffgpepngcnjeaaGreat
open Go.RowKit
theorem AbOk.fr {N : Nat → Prop} {b o base : Nat} {vs : Value} {md nx : Int} {ps : List PayD} {ks : List (Int × Int)} {k er : Int} {w w' : World} (h : AbOk N b o base vs md nx ps ks k er w w') : Fr (fun q => q = b) w w' := by
  rcases h with ⟨_, _, hb⟩ | ⟨_, _, _, _, hf, _⟩
  · exact Fr.of_below hb _
  · exact hf
set_option maxRecDepth 100000 in
set_option maxHeartbeats 4000000 in
theorem stepP_any (z : Nat) (s : Int) (g : Nat) (N : Nat → Prop) (q : Nat) (col : Nat → Nat) (G P D Dr : Nat) (a : PgP) (b : DgP) (nx : Nat) (o : OpD) (w : World) (hk : o.kd = 3) (h : AG z s g N q col G P D Dr a b nx w) (ho : OpOk N w o) (hfit : fitZ s (g : Int) = true) (hq : q ≤ 1048576) :
    Calls Tryz.prog 9 #[.pointer (some ⟨G, 0, none⟩), o.val] w fun e w' => e = .returned (.bool true) ∧ SOk z s g N q col G P D Dr w w' := by
  obtain ⟨kd, on, oa1, ob1, ab, m, d, bl, oa, om, od, ys⟩ := o
  simp only at hk
  subst hk
  have hb1 : Below w.heap.size w (w.alloc (.cells #[.int .i64 3, .int .i64 on, .int .i64 oa1, .int .i64 ob1, .slice ab m d, .slice oa om od] 33)) := (Below.refl _ _).alloc (Nat.le_refl _) _
  have HG : Hid (AG z s g N q col G P D Dr a b nx (w.alloc (.cells #[.int .i64 3, .int .i64 on, .int .i64 oa1, .int .i64 ob1, .slice ab m d, .slice oa om od] 33))) := h.grown hb1
  have HO : Hid (OpOk N (w.alloc (.cells #[.int .i64 3, .int .i64 on, .int .i64 oa1, .int .i64 ob1, .slice ab m d, .slice oa om od] 33)) ⟨3, on, oa1, ob1, ab, m, d, bl, oa, om, od, ys⟩) := ho.fr (Fr.of_below hb1 (fun _ => False)) (fun _ _ h => h)
  clear h ho
  go_enter Tryz.func9, Tryz.ntmps9
  go_wp2_with fail
  refine (pays_any z s g N q col G P D Dr a b nx ⟨3, on, oa1, ob1, ab, m, d, bl, oa, om, od, ys⟩ _ HG.out HO.out hfit hq).mono ?_
  rintro e w2 ⟨rfl, hst⟩
  have HST : Hid (SOk z s g N q col G P D Dr w w2) := hst.pre hb1
  clear hst
  go_wp2
  go_ret
  exact ⟨rfl, HST.out⟩
set_option maxRecDepth 100000 in
set_option maxHeartbeats 4000000 in
theorem stepB9_any (z : Nat) (s : Int) (g : Nat) (N : Nat → Prop) (q : Nat) (col : Nat → Nat) (G P D Dr : Nat) (a : PgP) (b : DgP) (nx : Nat) (o : OpD) (w : World) (hk : o.kd = 9) (h : AG z s g N q col G P D Dr a b nx w) (hfit : fitZ s (g : Int) = true) (hq : q ≤ 1048576) :
    Calls Tryz.prog 9 #[.pointer (some ⟨G, 0, none⟩), o.val] w fun e w' => e = .returned (.bool true) ∧ SOk z s g N q col G P D Dr w w' := by
  obtain ⟨kd, on, oa1, ob1, ab, m, d, bl, oa, om, od, ys⟩ := o
  simp only at hk
  subst hk
  have hb1 : Below w.heap.size w (w.alloc (.cells #[.int .i64 9, .int .i64 on, .int .i64 oa1, .int .i64 ob1, .slice ab m d, .slice oa om od] 33)) := (Below.refl _ _).alloc (Nat.le_refl _) _
  have HG : Hid (AG z s g N q col G P D Dr a b nx (w.alloc (.cells #[.int .i64 9, .int .i64 on, .int .i64 oa1, .int .i64 ob1, .slice ab m d, .slice oa om od] 33))) := h.grown hb1
  have H0 : Hid (AG z s g N q col G P D Dr a b nx w) := h
  clear h
  go_enter Tryz.func9, Tryz.ntmps9
  go_wp2_with fail
  refine (balanceA_any _ HG.out hfit hq).mono ?_
  rintro e w2 ⟨rfl, hb2⟩
  have HST : Hid (SOk z s g N q col G P D Dr w w2) := H0.out.stay (below_blk hb1 hb2)
  clear hb2
  go_wp2
  go_ret
  exact ⟨rfl, HST.out⟩
set_option maxRecDepth 100000 in
set_option maxHeartbeats 4000000 in
theorem stepAb_any (z : Nat) (s : Int) (g : Nat) (N : Nat → Prop) (q : Nat) (col : Nat → Nat) (G P D Dr : Nat) (a : PgP) (b : DgP) (nx : Nat) (o : OpD) (w : World) (hk : o.kd = 4) (h : AG z s g N q col G P D Dr a b nx w) (hq : q ≤ 1048576) :
    Calls Tryz.prog 9 #[.pointer (some ⟨G, 0, none⟩), o.val] w fun e w' => e = .returned (.bool true) ∧ SOk z s g N q col G P D Dr w w' := by
  obtain ⟨kd, on, oa1, ob1, ab, m, d, bl, oa, om, od, ys⟩ := o
  simp only at hk
  subst hk
  have hb1 : Below w.heap.size w (w.alloc (.cells #[.int .i64 4, .int .i64 on, .int .i64 oa1, .int .i64 ob1, .slice ab m d, .slice oa om od] 33)) := (Below.refl _ _).alloc (Nat.le_refl _) _
  obtain ⟨x0, x1, x2, x3, x4, x5⟩ := six_at (vrow_new w [.int .i64 4, .int .i64 on, .int .i64 oa1, .int .i64 ob1, .slice ab m d, .slice oa om od] 33)
  have HG1 : Hid (AG z s g N q col G P D Dr a b nx (w.alloc (.cells #[.int .i64 4, .int .i64 on, .int .i64 oa1, .int .i64 ob1, .slice ab m d, .slice oa om od] 33))) := h.grown hb1
  have HB1 : Hid (Below w.heap.size w (w.alloc (.cells #[.int .i64 4, .int .i64 on, .int .i64 oa1, .int .i64 ob1, .slice ab m d, .slice oa om od] 33))) := hb1
  have hXz : col w.heap.size = 0 := h.nz _ (Nat.le_refl _)
  have hpl : a.ps.length ≤ 1000000000000 := by have := h.lp.len; have := h.ml; omega
  have hml : b.ms.length ≤ 100000000 := by have := h.ml; omega
  clear h hb1
  go_enter Tryz.func9, Tryz.ntmps9
  go_upto_region 11 with fail
  generalize w.alloc (.cells #[.int .i64 4, .int .i64 on, .int .i64 oa1, .int .i64 ob1, .slice ab m d, .slice oa om od] 33) = w1 at *
  generalize hX : w.heap.size = X at *
  have HXe : Hid (w.heap.size = X) := hX
  clear hX
  have g0 : w1.cell? ⟨G, 0, none⟩ = some (.pointer (some ⟨P, 0, none⟩)) := HG1.out.gm 0 (by simp)
  have g1 : w1.cell? ⟨G, 1, none⟩ = some (.pointer (some ⟨D, 0, none⟩)) := HG1.out.gm 1 (by simp)
  have b1 : Below w1.heap.size w1 w1.drew := (Below.refl _ _).drew
  have HG2 : Hid (AG z s g N q col G P D Dr a b nx w1.drew) := HG1.out.grown b1
  have hGP : ¬ G = P := fun e => by have h1 := HG1.out.kg; rw [e, HG1.out.pg.k1] at h1; omega
  have hXP : ¬ X = P := fun e => by rw [e, HG1.out.pg.k1] at hXz; omega
  have HKA : Hid (∀ (w3 : World) er, AbOk a.NP P 4 (P + 1) a.vs (b.ms.length : Nat) (nx : Int) a.ps a.ks oa1 er w1.drew w3 → w3.cell? ⟨G, 0, none⟩ = some (.pointer (some ⟨P, 0, none⟩)) ∧ w3.cell? ⟨G, 1, none⟩ = some (.pointer (some ⟨D, 0, none⟩)) ∧ w3.cell? ⟨X, 2, none⟩ = some (.int .i64 oa1)) := fun w3 er hr => ⟨hr.fr.cell (w := w1.drew) g0 hGP, hr.fr.cell (w := w1.drew) g1 hGP, hr.fr.cell (w := w1.drew) x2 hXP⟩
  go_region_held3 (fun w' => w'.cell? ⟨G, 0, none⟩ = some (.pointer (some ⟨P, 0, none⟩)) ∧ w'.cell? ⟨X, 2, none⟩ = some (.int .i64 oa1)) (go_keep) ((go_at_call 19; (with_reducible refine (pAbandon_any a.NP P s g a.v (b.bls.length : Nat) a.xs a.vl a.vs (b.ms.length : Nat) (nx : Int) a.ps a.ks oa1 w1.drew HG2.out.pg.pp hpl).mono ?_); rintro e w3 ⟨er, rfl, hr⟩; have hS9 := HKA.out _ _ hr; obtain ⟨s0, s1, s2⟩ := hS9; have HR : Hid (AbOk a.NP P 4 (P + 1) a.vs (b.ms.length : Nat) (nx : Int) a.ps a.ks oa1 er w1.drew w3) := hr; clear hr))
  have b3 : Below w3.heap.size w3 w3.drew := (Below.refl _ _).drew
  obtain ⟨col1, vl', h1, hj1, hj2, hold, hj3⟩ := HG2.out.abA HR.out
  clear hj1 hj2 hj3
  have h1' := h1.grown b3
  have hcX : col1 X = 0 := hold X (cell_lt (w := w1.drew) x2) hXz
  have HD : Hid (DPy b.ND w3.drew D (D + 1) b.vm (nx : Int) b.ms) := h1'.dg.dp
  have HKB : Hid (∀ (w4 : World) er2, DAbOk b.ND D (D + 1) b.vm (nx : Int) b.ms oa1 er2 w3.drew w4 → w4.cell? ⟨G, 1, none⟩ = some (.pointer (some ⟨D, 0, none⟩)) ∧ w4.cell? ⟨X, 2, none⟩ = some (.int .i64 oa1)) := fun w4 er2 hr2 => ⟨(h1'.abB hr2).1.cell (w := w3.drew) s1 (by rw [h1'.kg]; omega), (h1'.abB hr2).1.cell (w := w3.drew) s2 (by rw [hcX]; omega)⟩
  have HFI : Hid (∀ (w4 : World) er2, DAbOk b.ND D (D + 1) b.vm (nx : Int) b.ms oa1 er2 w3.drew w4 → er = er2 ∧ SOk z s g N q col G P D Dr w w4) := fun w4 er2 hr2 => by
    obtain ⟨e1, e2⟩ := HG2.out.abAB HR.out b3 hr2
    exact ⟨e1, (e2.pre b1).pre (by rw [HXe.out]; exact HB1.out)⟩
  clear h1 h1' hold hcX s0 g0 g1 HKA HG2 HR b1 b3 hXz hGP hXP HG1
  go_upto_region 12 with fail
  go_cut [8] (fun u wx => u = .int .i64 er ∧ Hid (SOk z s g N q col G P D Dr w wx))
  case first =>
    go_region_held3 (fun w' => w'.cell? ⟨G, 1, none⟩ = some (.pointer (some ⟨D, 0, none⟩)) ∧ w'.cell? ⟨X, 2, none⟩ = some (.int .i64 oa1)) (go_keep) ((go_at_call 20; (with_reducible refine (dAbandon_any b.ND D (D + 1) b.vm (nx : Int) b.ms oa1 w3.drew HD.out hml).mono ?_); rintro e w4 ⟨er2, rfl, hr2⟩; have hS9 := HKB.out _ _ hr2; obtain ⟨r1, r2⟩ := hS9; have HR2 : Hid (DAbOk b.ND D (D + 1) b.vm (nx : Int) b.ms oa1 er2 w3.drew w4) := hr2; clear hr2))
    obtain ⟨ee, hso⟩ := HFI.out _ _ HR2.out
    subst ee
    have HSO : Hid (SOk z s g N q col G P D Dr w w4) := hso
    clear hso HFI HR2 HKB
    go_wp2_with fail
    go_meet
    exact ⟨rfl, HSO.out⟩
  case rest =>
    obtain ⟨rfl, HSO⟩ := hcut
    go_wp2_with (go_at_call 13; refine (num_any _ _).mono ?_; rintro e w' ⟨rfl, rfl⟩)
    go_ret
    exact ⟨ret_bool (by simp), HSO.out⟩
def col0 (B D Dr G : Nat) (vr vc : Value) (k : Nat) : Nat := if k = B then 1 else if k = G then 6 else if k = D then 7 else if k = Dr then 13 else if vr.ownBlock = some k ∨ vc.ownBlock = some k then 9 else 0
theorem Game0.ag {w0 w : World} {s : Int} {g G D Dr : Nat} {vr vc : Value} (h : Game0 w0 w s g G D Dr vr vc) : ∃ col a b, AG 0 s g (fun k => k < w0.heap.size) 0 col G w0.heap.size D Dr a b 0 w := by
  obtain ⟨ar, cr, rfl, i0, _⟩ := h.own0.slice
  obtain ⟨ac, cc, rfl, i1, _⟩ := h.own1.slice
  have hgi := h.gi
  have hlt0 := fun k hk => (h.own0.blk k hk)
  have hlt1 := fun k hk => (h.own1.blk k hk)
  have hb0 := h.ob.1
  have hb1 := h.ob.2
  rw [adrs_len] at hgi hlt0 hb0
  rw [adrs_len] at hgi hlt1 hb1
  obtain ⟨o1, o2, o3, o4⟩ := h.od
  generalize hB : w0.heap.size = B at *
  have hp := hgi.pu
  have hc9 : ∀ k, ((Value.slice ar 100 cr).ownBlock = some k ∨ (Value.slice ac 100 cc).ownBlock = some k) → B < k ∧ k < D := fun k hk => by
    rcases hk with e | e
    · have := hlt0 k e; have := hb0 k e; omega
    · have := hlt1 k e; have := hb1 k e; omega
  refine ⟨col0 B D Dr G (.slice ar 100 cr) (.slice ac 100 cc), ⟨.slice none 0 0, .slice none 0 0, .slice none 0 0, fun _ => False, [], [], []⟩, ⟨none, 0, [], ar, cr, ac, cc, .slice none 0 0, [], fun _ => False⟩, ⟨⟨⟨⟨hp.c0, hp.c1, hp.f0, hp.f1, hp.own, fun q hq => hp.ext q ?_⟩, ⟨(hp.ext (4, .slice none 0 0) (by simp [exE])).2.2, (hp.ext (5, .slice none 0 0) (by simp [exE])).2.2, (hp.ext (6, .int .i64 0) (by simp [exE])).2.2, (hp.ext (7, .int .i64 0) (by simp [exE])).2.2, hp.f1, OwnRec.nil _ _ _ _ _, OwnRec.nil _ _ _ _ _, fun _ h => (by cases h), Nat.lt_succ_self _, fun _ h => (by cases h), fun _ h => h.elim⟩, fun _ h => (by cases h)⟩, ?_, fun _ h => (by cases h), fun _ h => (by cases h), fun _ h => (by cases h), fun _ h => h.elim⟩, ⟨hgi.dc, hgi.dad i0 i1, (hgi.de (0, .int .i64 s) (by simp [deE])).2, ⟨(hgi.de (5, .slice none 0 0) (by simp [deE])).2, (by have := (hgi.de (6, .int .i64 (-1)) (by simp [deE])).2; simpa using this), hgi.dc.f4 5, hgi.dc.f4 6, OwnRec.nil _ _ _ _ _, fun _ h => (by cases h), Nat.lt_succ_self _, fun _ h => h.elim⟩, ?_, fun _ h => (by cases h), fun x hx => ?_, fun x hx => ?_, fun _ h => (by cases h), fun _ h => h.elim⟩, ⟨⟨0, h.dr 0 (by simp)⟩, h.df, ?_, fun j j1 j5 => ?_⟩, hgi.gm, ?_, hgi.lk, LkP.nil, fun _ h => (by cases h), fun k hk => ?_, fun k hk => ⟨?_, by omega⟩, Nat.le_refl _, Nat.le_refl _, by omega⟩⟩
  · simp only [List.mem_cons, List.not_mem_nil, or_false] at hq
    rcases hq with rfl | rfl <;> simp
  · unfold col0; rw [if_pos rfl]
  · unfold col0; rw [if_neg (by omega), if_neg (by omega), if_pos rfl]
  · have hx' : ar = some x := hx
    subst hx'
    have h9 := hc9 x.block (Or.inl rfl)
    unfold col0
    rw [if_neg (by omega), if_neg (by omega), if_neg (by omega), if_neg (by omega), if_pos (show (Value.slice (some x) 100 cr).ownBlock = some x.block ∨ _ from Or.inl rfl)]
  · have hx' : ac = some x := hx
    subst hx'
    have h9 := hc9 x.block (Or.inr rfl)
    unfold col0
    rw [if_neg (by omega), if_neg (by omega), if_neg (by omega), if_neg (by omega), if_pos (show _ ∨ (Value.slice (some x) 100 cc).ownBlock = some x.block from Or.inr rfl)]
  · unfold col0; rw [if_neg (by omega), if_neg (by omega), if_neg (by omega), if_pos rfl]
  · have hj : j = 1 ∨ j = 2 ∨ j = 3 ∨ j = 4 ∨ j = 5 := by omega
    refine ⟨.slice none 0 0, .slice none 0 0, [], [], ⟨?_, ?_, OwnRec.nil _ _ _ _ _, OwnRec.nil _ _ _ _ _, rfl, Nat.le_refl _, fun i hi => absurd hi (Nat.not_lt_zero _), fun _ h => (by cases h), fun _ h => (by cases h), fun i hi => absurd hi (Nat.not_lt_zero _)⟩⟩
    · rcases hj with rfl | rfl | rfl | rfl | rfl
      · exact h.dr 1 (by simp)
      · exact h.dr 2 (by simp)
      · exact h.dr 3 (by simp)
      · exact h.dr 4 (by simp)
      · exact h.dr 5 (by simp)
    · rcases hj with rfl | rfl | rfl | rfl | rfl
      · exact h.dr 6 (by simp)
      · exact h.dr 7 (by simp)
      · exact h.dr 8 (by simp)
      · exact h.dr 9 (by simp)
      · exact h.dr 10 (by simp)
  · unfold col0; rw [if_neg (by omega), if_pos rfl]
  · unfold col0
    rw [if_neg (by omega), if_neg (by omega), if_neg (by omega), if_neg (by omega), if_neg (fun e => by have := hc9 k e; omega)]
  · unfold col0
    rw [if_neg (by omega), if_neg (by omega), if_neg (by omega), if_neg (by omega), if_neg (fun e => by have := hc9 k e; omega)]
def PyInv (s : Int) (g : Nat) (k G B : Nat) (w : World) : Prop := ∃ col D Dr a b nx, AG 0 s g (fun k => k < B) k col G B D Dr a b nx w
theorem pays_play (s : Int) (g : Nat) (hf : fitZ s (g : Int) = true) : PlayOk 4 9 9 (PyInv s g) 1048576 := by
  refine ⟨?_, ?_, ?_, ?_⟩
  · rintro k G B w w' ⟨col, D, Dr, a, b, nx, h⟩ hb
    exact ⟨col, D, Dr, a, b, nx, h.grown hb⟩
  · rintro k G B w ⟨col, D, Dr, a, b, nx, h⟩
    exact ⟨col, D, Dr, a, b, nx, h.more⟩
  · rintro k G B w ⟨col, D, Dr, a, b, nx, h⟩
    exact Nat.le_of_lt (h.lt (by rw [h.pg.k1]; omega))
  · rintro k G B w o hk9 ⟨col, D, Dr, a, b, nx, h⟩ ho hk
    have fin : ∀ (e : Ending) (w' : World), e = .returned (.bool true) ∧ SOk 0 s g (fun k => k < B) k col G B D Dr w w' → e = .returned (.bool true) ∧ PyInv s g (k + 1) G B w' ∧ Fr (fun k => B ≤ k) w w' := by
      rintro e w' ⟨rfl, col', a', b', nx', _, h2, h3⟩
      refine ⟨rfl, ⟨col', D, Dr, a', b', nx', h2⟩, h3.weak (fun j _ e => ?_)⟩
      exact Classical.byContradiction fun hn => by have := (h.nn j (by omega)).1; omega
    have fin2 : ∀ (e : Ending) (w' : World), e = .returned (.bool true) ∧ GStep (fun k => k < B) (AX col B a.v w) (exA a (b.ms.length : Nat) (nx : Int)) (deA s g b nx) G B D (.pointer (some ⟨Dr, 0, none⟩)) s g a.v b.ao w w' → e = .returned (.bool true) ∧ PyInv s g (k + 1) G B w' ∧ Fr (fun k => B ≤ k) w w' := fun e w' he => fin e w' ⟨he.1, h.chain he.2⟩
    by_cases h1 : o.kd < 1
    · exact (stepN_any o w h1 h.gi).mono fin2
    · by_cases h2 : o.kd = 1
      · exact (stepC_any o w h2 h.gi ho).mono fin2
      · by_cases h3 : o.kd = 2
        · exact (stepD_any o w h3 h.gi).mono fin2
        · by_cases h4 : o.kd = 3
          · exact (stepP_any 0 s g _ k col G B D Dr a b nx o w h4 h ho hf hk9).mono fin
          · by_cases h5 : o.kd = 4
            · exact (stepAb_any 0 s g _ k col G B D Dr a b nx o w h5 h hk9).mono fin
            · exact (stepB9_any 0 s g _ k col G B D Dr a b nx o w (by omega) h hf hk9).mono fin
theorem pays_begin (s : Int) (g : Nat) (hf : fitZ s (g : Int) = true) (w : World) : Calls Tryz.prog 8 #[.int .i64 s, .int .i64 (g : Int)] w fun e w' => ∃ G, e = .returned (.tuple #[.pointer (some ⟨G, 0, none⟩), .bool true]) ∧ PyInv s g 0 G w.heap.size w' ∧ Below w.heap.size w w' := by
  refine (begin_yes s g w hf).mono ?_
  rintro e w' ⟨G, D, Dr, vr, vc, rfl, h, hb⟩
  obtain ⟨col, a, b, h2⟩ := h.ag
  exact ⟨G, rfl, ⟨col, D, Dr, a, b, 0, h2⟩, hb⟩
set_option maxRecDepth 100000 in
set_option maxHeartbeats 1000000 in
theorem pays_law (s g : Int) (so : Option Addr) (n c : Nat) (ops : List OpD) (w : World) (hs : Scr w.heap.size w so ops) (hn : ops.length = n) (hm : n ≤ 1048576) :
    Calls Tryz.prog 6 #[.int .i64 s, .int .i64 g, .slice so n c] w fun e w' => e = .returned (.bool true) ∧ Below w.heap.size w w' := by
  cases hf : fitZ s g
  · go_enter Tryz.func6, Tryz.ntmps6
    go_wp2_with fail
    refine (plays_no s g 4 3 4 9 9 hf (.slice so n c) _).mono ?_
    rintro e w1 ⟨rfl, hb⟩
    go_wp2
    go_ret
    exact ⟨rfl, hb⟩
  · obtain ⟨h1, h2, h3⟩ := fitZ_yes hf
    obtain ⟨k, rfl⟩ : ∃ k : Nat, g = (k : Int) := ⟨g.toNat, by omega⟩
    have HS : Hid (Scr w.heap.size w so ops) := hs
    have HN : Hid (ops.length = n) := hn
    clear hs hn
    go_enter Tryz.func6, Tryz.ntmps6
    go_wp2_with fail
    refine (plays_yes s (k : Int) 4 3 4 9 9 (PyInv s k) (pays_play s k hf) (pays_begin s k hf) so n c ops _ HS.out HN.out (by omega)).mono ?_
    rintro e w1 ⟨rfl, hb⟩
    go_wp2
    go_ret
    exact ⟨rfl, hb⟩
end Go.Proofs.YtffgpepngcnjeaaGreat
