/-
  Funds: a payment of a scene: the first tag at which the id is new.
  Funds: the walk.
  Package payments: Abandon.
  Back: sameNames; a payment given up; what a payment is, whatever was paid ahead of it.
  Accepted: what is paid, and what the chain says to it.
  A purse with its further cells: Connect, Disconnect; a purse behind a signature.
  Package pursekeep: sameInts.
-/
import Derived.Test.YtffgpepngcnjeabGreatQMaq
import Derived.Test.YtffgpepngcnjeabGreatQMao
import Derived.Laws.MakeOwn
import Derived.Test.YtffgpepngcnjeabGreatQMap
import Derived.Test.YtffgpepngcnjeabGreatQMal
import Derived.Test.YtffgpepngcnjeabGreatQMaf
import Derived.BigQuiet
namespace Go.Proofs.YtffgpepngcnjeabGreatQ
open Go.RowKit
theorem kV_outL (ys : List (Int × Int)) : (outL ys).map (Value.int .i64) = ys.flatMap kV := by
  induction ys with
  | nil => rfl
  | cons y t ih => rw [List.flatMap_cons, ← ih]; rfl
theorem copy_outsN (a : Addr) (n c : Nat) (ys : List (Int × Int)) (w : World) (hr : OutsAt w (some a) ys) (hn : ys.length = n) (hm : n ≤ 1000) :
    ∃ w1, Sem.run Tryz.prog (Builtin.copy_ #[28, 28] 3 #[.slice (some ⟨w.heap.size, 0, none⟩) n n, .slice (some a) n c]) (w.alloc (.cells (Go.madeCells #[.int .i64 0, .int .i64 0] (n * 2)) 93)) = .ok (.int .i64 n) w1 ∧
      OwnRec kV 93 2 w1 w.heap.size (.slice (some ⟨w.heap.size, 0, none⟩) n n) ys ∧ Below w.heap.size w w1 := by
  have hheap := heap_made w (Go.madeCells #[Value.int .i64 0, .int .i64 0] (n * 2)) 93
  have hl : (outL ys).length = n * 2 := by rw [outL_len, hn]; omega
  have hcs := copy_src (W := w.alloc (.cells (Go.madeCells #[.int .i64 0, .int .i64 0] (n * 2)) 93)) (ints_of_outs hr) ((Below.refl _ _).alloc (Nat.le_refl _) _) w.heap.size
  have hsrc : ∀ (j : Nat) (v : Value), ((outL ys).map (Value.int .i64))[j]? = some v → (w.alloc (.cells (Go.madeCells #[.int .i64 0, .int .i64 0] (n * 2)) 93)).cell? (a.add j) = some v := by
    intro j v hj
    by_cases hp : 0 < ((outL ys).map (Value.int .i64)).length
    · obtain ⟨_, ad, e, h⟩ := hcs hp
      cases e
      exact h j v hj
    · have : (outL ys).map (Value.int .i64) = [] := List.length_eq_zero_iff.1 (by omega)
      rw [this] at hj
      simp at hj
  have hlm : ((outL ys).map (Value.int .i64)).length = n * 2 := by rw [List.length_map, hl]
  have hrun := run_copy_wide Tryz.prog (w.alloc (.cells (Go.madeCells #[.int .i64 0, .int .i64 0] (n * 2)) 93)) 28 28 3 93 w.heap.size 0 n n a n c (Go.madeCells #[Value.int .i64 0, .int .i64 0] (n * 2)) 93 ((outL ys).map (Value.int .i64)) 2 Tryz.underlying28 sizeInfo56 hheap (by rw [hlm, show n.min n = n from Nat.min_self n]) hsrc (by rw [hlm, size_madeCells]; omega) (ints_one _)
  have hh := setRow_heap (w.alloc (.cells (Go.madeCells #[.int .i64 0, .int .i64 0] (n * 2)) 93)) w.heap.size (Go.madeCells #[Value.int .i64 0, .int .i64 0] (n * 2)) (splice (Go.madeCells #[Value.int .i64 0, .int .i64 0] (n * 2)).toList 0 ((outL ys).map (Value.int .i64))).toArray 93 (0, 0) hheap
  refine ⟨(w.alloc (.cells (Go.madeCells #[.int .i64 0, .int .i64 0] (n * 2)) 93)).setRow w.heap.size (splice (Go.madeCells #[Value.int .i64 0, .int .i64 0] (n * 2)).toList 0 ((outL ys).map (Value.int .i64))).toArray, ?_, ?_, below_setRow ((Below.refl _ _).alloc (Nat.le_refl _) _) (Nat.le_refl _) _⟩
  · rw [hrun, show n.min n = n from Nat.min_self n]
    simp [splice, goInt]
  · have hsp : splice (Go.madeCells #[Value.int .i64 0, .int .i64 0] (n * 2)).toList 0 ((outL ys).map (Value.int .i64)) = ys.flatMap kV := by
      unfold splice
      rw [List.take_zero, List.nil_append, List.drop_of_length_le (by rw [Array.length_toList, size_madeCells, hlm]; omega), List.append_nil, kV_outL]
    rw [hsp] at hh
    have hfl : (ys.flatMap kV).length = n * 2 := by rw [← kV_outL, hlm]
    refine ⟨by rw [hfl, hn], Or.inr ⟨w.heap.size, n, (ys.flatMap kV).toArray, by rw [hn], Nat.le_refl _, ?_, by omega, by unfold maxLen; omega, by rw [List.size_toArray]; exact hfl, ?_⟩⟩
    · rw [hsp]; exact hh
    · rw [List.take_of_length_le (by simp [hfl, hn])]
theorem make_outsN (n : Nat) (hn : n ≤ 8796093022208) : ∀ u : World, (Instr.makeSlice 28 (.int .i64 (n : Int)) (.int .i64 (n : Int))).run Tryz.prog u =
    .ok (.slice (some ⟨u.heap.size, 0, none⟩) n n) (u.alloc (.cells (Go.madeCells #[.int .i64 0, .int .i64 0] (n * 2)) 93)) := fun u => by
  obtain ⟨i0, hi, hz0, hz1, hz2⟩ := info_parts info93
  have h := run_make (P := Tryz.prog) u 28 93 i0 (.agg #[.int .i64 0, .int .i64 0]) Tryz.underlying28 hi hz0 .i64 .i64 (n : Int) (n : Int) (by omega) (Int.le_refl _) (by rw [hz2]; omega) (by omega)
  have e : (n : Int).toNat = n := by omega
  rw [e] at h
  simpa [hz1, Value.cells] using h
theorem fr6K (w : World) (B : Nat) (b0 b1 b2 b3 b4 b5 : Value) : Fr (fun k => k = B) w ((((((w.setCell ⟨B, 0, none⟩ b0).setCell ⟨B, 1, none⟩ b1).setCell ⟨B, 2, none⟩ b2).setCell ⟨B, 3, none⟩ b3).setCell ⟨B, 4, none⟩ b4).setCell ⟨B, 5, none⟩ b5) :=
  ((((((Fr.refl (fun k => k = B) w).set B 0 _ (fun _ => rfl)).set B 1 _ (fun _ => rfl)).set B 2 _ (fun _ => rfl)).set B 3 _ (fun _ => rfl)).set B 4 _ (fun _ => rfl)).set B 5 _ (fun _ => rfl)
theorem keepS6 {w : World} {S R : Nat} {x y : Value} (v0 v1 v2 v3 v4 v5 : Value) (h1 : S ≠ R) (h : w.cell? ⟨S, 0, none⟩ = some x ∧ w.cell? ⟨S, 3, none⟩ = some y) : ((((((w.setCell ⟨R, 0, none⟩ v0).setCell ⟨R, 1, none⟩ v1).setCell ⟨R, 2, none⟩ v2).setCell ⟨R, 3, none⟩ v3).setCell ⟨R, 4, none⟩ v4).setCell ⟨R, 5, none⟩ v5).cell? ⟨S, 0, none⟩ = some x ∧ ((((((w.setCell ⟨R, 0, none⟩ v0).setCell ⟨R, 1, none⟩ v1).setCell ⟨R, 2, none⟩ v2).setCell ⟨R, 3, none⟩ v3).setCell ⟨R, 4, none⟩ v4).setCell ⟨R, 5, none⟩ v5).cell? ⟨S, 3, none⟩ = some y :=
  ⟨(fr6K w R v0 v1 v2 v3 v4 v5).cell h.1 h1, (fr6K w R v0 v1 v2 v3 v4 v5).cell h.2 h1⟩
/-- what Pay has left, seen from an elder world; a block of the caller's is written -/
theorem PayOkR.lift {N : Nat → Prop} {P : Nat} {s : Int} {g : Nat} {v : Value} {h : Int} {xs : List Cel} {vl vs : Value} {md nx : Int} {ps : List PayD} {ks : List (Int × Int)} {ys : List (Int × Int)} {r tag : Int} {a0 a1 a2 a3 a4 a5 : Value} {er : Int} {w w0 w1 w2 : World} {R : Nat} (hr : PayOkR N P s g v h xs vl vs md nx ps ks ys r tag a0 a1 a2 a3 a4 a5 er w0 w1) (u : PP N w P s g v h xs vl vs md nx ps ks) (hb : Below w.heap.size w w0) (hR : w.heap.size ≤ R) (hR2 : R < w0.heap.size) (hf : Fr (fun k => k = R) w1 w2) :
    PayOkR N P s g v h xs vl vs md nx ps ks ys r tag a0 a1 a2 a3 a4 a5 er w w2 := by
  have hsz := hb.size
  rcases hr with ⟨x, h1, h2, h3, h4, h5, h6, h7, h8, h9⟩ | ⟨cs, zs, ch, h1, h2, h3, h4, h5, h6⟩
  · refine Or.inl ⟨x, h1, h2, h3, h4, h5, h6, h7, h8, ?_⟩
    have h10 : Below w.heap.size w w1 := hb.trans (h9.mono hsz)
    exact h10.trans (hf.toBelow _ h10.size (fun q hq => by rw [hq]; exact hR))
  · refine Or.inr ⟨cs, zs, ch, h1, h2, h3, h4, h5, ?_⟩
    obtain ⟨vl', gc, cc, go, co, hpp, hpd, hfr, hsep⟩ := h6
    have hold : ∀ k, (chE P v k ∨ lsE P vl vs k ∨ N k) → k < w.heap.size := fun k hk => by
      rcases hk with hk | hk | hk
      · exact (u.pu.blk k hk).2
      · exact u.ls.blk k hk
      · exact (u.ls.nN k hk).1
    have hnew : ∀ k, (vl'.ownBlock = some k ∨ k = gc ∨ k = go) → k ≠ R := fun k hk e => by
      rcases hsep k hk with h | h
      · have := hold k (Or.inr (Or.inl (Or.inr (Or.inl h)))); omega
      · omega
    refine ⟨vl', gc, cc, go, co, hpp.fr hf (fun k hk e => ?_) (fun k hk e => ?_) (fun k hk e => ?_), PdOk.lower ⟨hf.own hpd.oi (fun k hk e => ?_), hf.own hpd.oo (fun k hk e => ?_), hf.own hpd.ok (fun k hk e => ?_), hpd.n1, hpd.n2⟩ hsz, ?_, fun k hk => ?_⟩
    · have := hold k (Or.inl hk); omega
    · rcases hk with hk | hk | hk
      · have := hold k (Or.inr (Or.inl (Or.inl hk))); omega
      · exact hnew k (Or.inl hk) e
      · have := hold k (Or.inr (Or.inl (Or.inr (Or.inr hk)))); omega
    · rcases hk with hk | hk
      · have := hold k (Or.inr (Or.inr hk)); omega
      · exact hnew k (Or.inr hk) e
    · have := (hpd.oi.blk k hk).1; omega
    · have := (hpd.oo.blk k hk).1; omega
    · have := (hpd.ok.blk k hk).1; omega
    · exact Fr.trans_new2 ((Fr.of_below hb _).trans hfr) hf (fun q hq => by rw [hq]; exact hR)
    · rcases hsep k hk with h | h
      · exact Or.inl h
      · exact Or.inr ⟨by omega, h.2⟩
theorem payOkR_vals {N : Nat → Prop} {P : Nat} {s : Int} {g : Nat} {v : Value} {h : Int} {xs : List Cel} {vl vs : Value} {md nx : Int} {ps : List PayD} {ks : List (Int × Int)} {ys : List (Int × Int)} {r tag : Int} {a0 a1 a2 a3 a4 a5 : Value} {er : Int} {w w' : World} (hr : PayOkR N P s g v h xs vl vs md nx ps ks ys r tag a0 a1 a2 a3 a4 a5 er w w') :
    ∃ n0 t ai ni ci ap np cp ak nk ck ch, a0 = .int .i64 n0 ∧ a1 = .int .i64 t ∧ a2 = .slice ai ni ci ∧ a3 = .slice ap np cp ∧ a4 = .slice ak nk ck ∧ a5 = .int .i64 ch := by
  rcases hr with ⟨x, h1, h2, rfl, rfl, rfl, rfl, rfl, rfl, h9⟩ | ⟨cs, zs, ch, h1, h2, rfl, rfl, rfl, h6⟩
  · exact ⟨_, _, _, _, _, _, _, _, _, _, _, _, rfl, rfl, rfl, rfl, rfl, rfl⟩
  · obtain ⟨vl', gc, cc, go, co, hpp, hpd, hfr, hsep⟩ := h6
    obtain ⟨ai, ci, e1, _⟩ := OwnRec.at inC3 hpd.oi
    obtain ⟨ap, cp, e2, _⟩ := OwnRec.at kv2 hpd.oo
    obtain ⟨ak, ck, e3, _⟩ := OwnRec.at kC2 hpd.ok
    exact ⟨_, _, _, _, _, _, _, _, _, _, _, _, rfl, rfl, e1, e2, e3, rfl⟩
theorem payOkR_fr {N : Nat → Prop} {P : Nat} {s : Int} {g : Nat} {v : Value} {h : Int} {xs : List Cel} {vl vs : Value} {md nx : Int} {ps : List PayD} {ks : List (Int × Int)} {ys : List (Int × Int)} {r tag : Int} {a0 a1 a2 a3 a4 a5 : Value} {er : Int} {w w' : World} (hr : PayOkR N P s g v h xs vl vs md nx ps ks ys r tag a0 a1 a2 a3 a4 a5 er w w') : Fr (fun q => q = P ∨ vl.ownBlock = some q) w w' := by
  rcases hr with ⟨x, _, _, _, _, _, _, _, _, h9⟩ | ⟨cs, zs, ch, _, _, _, _, _, h6⟩
  · exact Fr.of_below h9 _
  · obtain ⟨_, _, _, _, _, _, _, hfr, _⟩ := h6
    exact hfr
set_option maxRecDepth 100000 in
set_option maxHeartbeats 4000000 in
theorem scPay_any (N : Nat → Prop) (S P : Nat) (s : Int) (g : Nat) (v : Value) (h : Int) (xs : List Cel) (vl vs : Value) (md nx : Int) (ps : List PayD) (ks : List (Int × Int)) (ao : Option Addr) (ni cio : Nat) (a : Addr) (m d : Nat) (ys : List (Int × Int)) (r : Int) (w : World) (hs : Mk.isM s = true) (hg : 1 ≤ g) (hg2 : g ≤ 20)
    (u : PP N w P s g v h xs vl vs md nx ps ks) (hxl : xs.length ≤ 5000) (hV : Vals xs) (hy : OutsAt w (some a) ys) (hyn : ys.length = m) (hym : m ≤ 100) (hmd : 0 ≤ md ∧ md ≤ 4611686018427387904) (hpl : ps.length ≤ 1000000000000) (hkl : ks.length ≤ 1000000000000) (hni : ni ≤ 1000) (s0 : w.cell? ⟨S, 0, none⟩ = some (.pointer (some ⟨P, 0, none⟩))) (s3 : w.cell? ⟨S, 3, none⟩ = some (.slice ao ni cio)) (hSP : ¬ (S = P ∨ vl.ownBlock = some S)) :
    Calls Tryz.prog 12 #[.pointer (some ⟨S, 0, none⟩), .slice (some a) m d, .int .i64 r] w fun e w' => ∃ tag : Nat, tag ≤ ni ∧ (∀ j : Nat, j < tag → payZ xs s g ps ks nx ys r (j : Int) = .inl 4) ∧ ∃ a0 a1 a2 a3 a4 a5 er, e = .returned (.tuple #[.agg #[a0, a1, a2, a3, a4, a5], .int .i64 er]) ∧ PayOkR N P s g v h xs vl vs md nx ps ks ys r (tag : Int) a0 a1 a2 a3 a4 a5 er w w' ∧ (tag < ni → payZ xs s g ps ks nx ys r (tag : Int) ≠ .inl 4) := by
  have HU : Hid (PP N w P s g v h xs vl vs md nx ps ks) := u
  have HV : Hid (Vals xs) := hV
  have HY : Hid (OutsAt w (some a) ys) := hy
  have HYN : Hid (ys.length = m) := hyn
  have hbA : Below w.heap.size w (w.alloc (.cells #[.int .i64 0, .int .i64 0, .slice none 0 0, .slice none 0 0, .slice none 0 0, .int .i64 0] 38)) := (Below.refl _ _).alloc (Nat.le_refl _) _
  have HR0 : Hid (VB (w.alloc (.cells #[.int .i64 0, .int .i64 0, .slice none 0 0, .slice none 0 0, .slice none 0 0, .int .i64 0] 38)) w.heap.size (.int .i64 0) (.int .i64 0) (.slice none 0 0) (.slice none 0 0) (.slice none 0 0) (.int .i64 0)) := VB.new w _ _ _ _ _ _ 38
  have HSc : Hid (w.cell? ⟨S, 0, none⟩ = some (.pointer (some ⟨P, 0, none⟩)) ∧ w.cell? ⟨S, 3, none⟩ = some (.slice ao ni cio)) := ⟨s0, s3⟩
  clear u hV hy hyn s0 s3
  go_enter Tryz.func12, Tryz.ntmps12
  go_upto_region 1 with fail
  generalize w.alloc (.cells #[.int .i64 0, .int .i64 0, .slice none 0 0, .slice none 0 0, .slice none 0 0, .int .i64 0] 38) = w0 at *
  have HB0 : Hid (Below w.heap.size w w0) := hbA
  have HS0 : Hid (w0.cell? ⟨S, 0, none⟩ = some (.pointer (some ⟨P, 0, none⟩)) ∧ w0.cell? ⟨S, 3, none⟩ = some (.slice ao ni cio)) := ⟨(hbA.cell (p := ⟨S, 0, none⟩) (cell_lt HSc.out.1)).trans HSc.out.1, (hbA.cell (p := ⟨S, 3, none⟩) (cell_lt HSc.out.2)).trans HSc.out.2⟩
  have hRl : w.heap.size < w0.heap.size := cell_lt HR0.out.c0
  have HSL : Hid (S < w.heap.size) := cell_lt HSc.out.1
  clear hbA HSc
  generalize hR : w.heap.size = R at *
  have HRe : Hid (w.heap.size = R) := hR
  clear hR
  go_wp2
  go_loopw [8] (fun i wr => ∃ k : Nat, k ≤ ni ∧ i = .int .i64 k ∧ Hid (∀ j : Nat, j < k → payZ xs s g ps ks nx ys r (j : Int) = .inl 4) ∧ Below w0.heap.size w0 wr) (fun i _ => ni - (intOf i).toNat)
  case atStart => exact ⟨0, Nat.zero_le _, rfl, fun j hj => by omega, Below.refl _ _⟩
  case round =>
    obtain ⟨k, hk, rfl, hold, hbl⟩ := hrel
    have hsz := hbl.size
    have s0 := (hbl.cell (p := ⟨S, 0, none⟩) (cell_lt HS0.out.1)).trans HS0.out.1
    have s3 := (hbl.cell (p := ⟨S, 3, none⟩) (cell_lt HS0.out.2)).trans HS0.out.2
    have HBr : Hid (Below w.heap.size w wr) := by rw [HRe.out]; exact HB0.out.trans (hbl.mono (by omega))
    have HRr : Hid (VB wr R (.int .i64 0) (.int .i64 0) (.slice none 0 0) (.slice none 0 0) (.slice none 0 0) (.int .i64 0)) := HR0.out.fr (Fr.of_below hbl (fun _ => False)) (fun h => h)
    by_cases hlt : k < ni
    · have hkI : (k : Int) < (ni : Int) := by omega
      have hmk := make_outsN m (by omega)
      obtain ⟨w1, hrun, hown, hb1⟩ := copy_outsN a m d ys wr (HY.out.grown HBr.out) HYN.out (by omega)
      have HO : Hid (OwnRec kV 93 2 w1 wr.heap.size (.slice (some ⟨wr.heap.size, 0, none⟩) m m) ys) := hown
      clear hown
      go_upto_region 6 with fail
      clear hrun hmk
      have hb01 := below_blk hbl hb1
      have HB1 : Hid (Below w.heap.size w w1) := below_blk HBr.out hb1
      have t0 := (hb1.cell (p := ⟨S, 0, none⟩) (cell_lt s0)).trans s0
      have HR1 : Hid (VB w1 R (.int .i64 0) (.int .i64 0) (.slice none 0 0) (.slice none 0 0) (.slice none 0 0) (.int .i64 0)) := HRr.out.fr (Fr.of_below hb1 (fun _ => False)) (fun h => h)
      have HU1 : Hid (PP N w1 P s g v h xs vl vs md nx ps ks) := HU.out.grown HB1.out
      have HY1 : Hid (OutsAt w1 (some ⟨wr.heap.size, 0, none⟩) ys) := rec_outs (own_atS kv2 HO.out)
      have hR1 : R < w1.heap.size := cell_lt HR1.out.c0
      clear s0 s3 hb1 HO HBr HRr
      generalize wr.heap.size = X at *
      go_wp2_with fail
      refine (pay_any N P s g v h xs vl vs md nx ps ks (some ⟨X, 0, none⟩) m m ys r (k : Int) _ hs hg hg2 HU1.out hxl HV.out HY1.out HYN.out hmd hpl hkl).mono ?_
      rintro e w2 ⟨a0, a1, a2, a3, a4, a5, er, rfl, hpay⟩
      obtain ⟨n0, t, ai, n2, ci, ap, n3, cp, ak, n4, ck, ch, rfl, rfl, rfl, rfl, rfl, rfl⟩ := payOkR_vals hpay
      have HPAY : Hid (PayOkR N P s g v h xs vl vs md nx ps ks ys r (k : Int) (.int .i64 n0) (.int .i64 t) (.slice ai n2 ci) (.slice ap n3 cp) (.slice ak n4 ck) (.int .i64 ch) er w1 w2) := hpay
      have HZ4 : Hid ((payZ xs s g ps ks nx ys r (k : Int) = .inl 4 ∧ er = 4 ∧ Below w1.heap.size w1 w2) ∨ (payZ xs s g ps ks nx ys r (k : Int) ≠ .inl 4 ∧ er ≠ 4)) := by
        show _ ∨ _
        rcases hpay with ⟨x, h1, h2, _, _, _, _, _, _, h9⟩ | ⟨cs, zs, ch, h1, h2, _⟩
        · by_cases e4 : x = 4
          · exact Or.inl ⟨by rw [h1, e4], by rw [h2, e4], h9⟩
          · exact Or.inr ⟨fun e => by rw [h1] at e; injection e with e; exact e4 e, by rw [h2]; exact e4⟩
        · exact Or.inr ⟨fun e => (by rw [h1] at e; cases e), by rw [h2]; decide⟩
      have HRF : Hid (Fr (fun q => q = P ∨ vl.ownBlock = some q) w1 w2) := by
        show Fr _ _ _
        rcases hpay with ⟨x, _, _, _, _, _, _, _, _, h9⟩ | ⟨cs, zs, ch, _, _, _, _, _, h6⟩
        · exact Fr.of_below h9 _
        · obtain ⟨_, _, _, _, _, _, _, hfr, _⟩ := h6
          exact hfr
      have hRP : ¬ (R = P ∨ vl.ownBlock = some R) := fun e => by
        rcases e with e | e
        · have : P < w.heap.size := cell_lt HU.out.pu.c0
          have := HRe.out; omega
        · have := (HU.out.ls.ol.blk R e).2
          have := HRe.out; omega
      have HR2 : Hid (VB w2 R (.int .i64 0) (.int .i64 0) (.slice none 0 0) (.slice none 0 0) (.slice none 0 0) (.int .i64 0)) := HR1.out.fr HRF.out hRP
      clear hpay t0 HY1
      have HLI : Hid (∀ w3, Fr (fun q => q = R) w2 w3 → PayOkR N P s g v h xs vl vs md nx ps ks ys r (k : Int) (.int .i64 n0) (.int .i64 t) (.slice ai n2 ci) (.slice ap n3 cp) (.slice ak n4 ck) (.int .i64 ch) er w w3) := fun w3 hf => HPAY.out.lift HU.out HB1.out (by rw [HRe.out]; exact Nat.le_refl _) hR1 hf
      by_cases h4 : er = 4
      · have HZ : Hid (payZ xs s g ps ks nx ys r (k : Int) = .inl 4 ∧ Below w1.heap.size w1 w2) := by
          rcases HZ4.out with ⟨e1, _, e3⟩ | ⟨_, e2⟩
          · exact ⟨e1, e3⟩
          · exact absurd h4 e2
        subst h4
        have hb02 : Below w0.heap.size w0 (w2.alloc (.cells #[.int .i64 n0, .int .i64 t, .slice ai n2 ci, .slice ap n3 cp, .slice ak n4 ck, .int .i64 ch] 38)) := (below_blk hb01 HZ.out.2).alloc (by have := (below_blk hb01 HZ.out.2).size; exact this) _
        go_wp2
        go_roundw
        case rel => exact ⟨k + 1, by omega, by go_num, fun j hj => by
          by_cases e : j = k
          · rw [e]; exact HZ.out.1
          · exact hold.out j (by omega), hb02⟩
        case measure => simp [intOf]; omega
      · have HZ : Hid (payZ xs s g ps ks nx ys r (k : Int) ≠ .inl 4) := by
          rcases HZ4.out with ⟨_, e2, _⟩ | ⟨e1, _⟩
          · exact absurd e2 h4
          · exact e1
        have hd4 : (er == 4) = false := by simpa using h4
        have bA : Below w2.heap.size w2 (w2.alloc (.cells #[.int .i64 n0, .int .i64 t, .slice ai n2 ci, .slice ap n3 cp, .slice ak n4 ck, .int .i64 ch] 38)) := (Below.refl _ _).alloc (Nat.le_refl _) _
        have HX3 : Hid (VB (w2.alloc (.cells #[.int .i64 n0, .int .i64 t, .slice ai n2 ci, .slice ap n3 cp, .slice ak n4 ck, .int .i64 ch] 38)) w2.heap.size (.int .i64 n0) (.int .i64 t) (.slice ai n2 ci) (.slice ap n3 cp) (.slice ak n4 ck) (.int .i64 ch)) := VB.new w2 _ _ _ _ _ _ 38
        have HR3 : Hid (VB (w2.alloc (.cells #[.int .i64 n0, .int .i64 t, .slice ai n2 ci, .slice ap n3 cp, .slice ak n4 ck, .int .i64 ch] 38)) R (.int .i64 0) (.int .i64 0) (.slice none 0 0) (.slice none 0 0) (.slice none 0 0) (.int .i64 0)) := HR2.out.fr (Fr.of_below bA (fun _ => False)) (fun h => h)
        have HF3 : Hid (Fr (fun q => q = R) w2 (w2.alloc (.cells #[.int .i64 n0, .int .i64 t, .slice ai n2 ci, .slice ap n3 cp, .slice ak n4 ck, .int .i64 ch] 38))) := Fr.of_below bA _
        go_upto_region 7 with fail
        generalize (w2.alloc (.cells #[.int .i64 n0, .int .i64 t, .slice ai n2 ci, .slice ap n3 cp, .slice ak n4 ck, .int .i64 ch] 38)) = w3 at *
        obtain ⟨x0, x1, x2, x3, x4, x5, _⟩ := HX3.out
        obtain ⟨q0, q1, q2, q3, q4, q5, qz⟩ := HR3.out
        have f0 := qz 0
        have f1 := qz 1
        have f2 := qz 2
        have f3 := qz 3
        have f4 := qz 4
        have f5 := qz 5
        have HVF : Hid _ := (((((HR3.out.s0 (.int .i64 n0)).s1 (.int .i64 t)).s2 (.slice ai n2 ci)).s3 (.slice ap n3 cp)).s4 (.slice ak n4 ck)).s5 (.int .i64 ch)
        have HLF : Hid _ := HLI.out _ (HF3.out.trans (fr6K w3 R (.int .i64 n0) (.int .i64 t) (.slice ai n2 ci) (.slice ap n3 cp) (.slice ak n4 ck) (.int .i64 ch)))
        clear qz bA
        repeat (first | go_values | go_skip | go_guarded | go_step | go_upon)
        obtain ⟨z0, z1, z2, z3, z4, z5, _⟩ := HVF.out
        refine bodyPost_ret (v := .tuple #[.agg #[.int .i64 n0, .int .i64 t, .slice ai n2 ci, .slice ap n3 cp, .slice ak n4 ck, .int .i64 ch], .int .i64 er]) ?_ rfl ⟨k, hk, hold.out, _, _, _, _, _, _, _, rfl, HLF.out, fun _ => HZ.out⟩
        simp [results, Tryz.results12, go_sem, z0, z1, z2, z3, z4, z5]
    · have hkn : k = ni := by omega
      subst hkn
      have hkI : ¬ (k : Int) < (k : Int) := by omega
      have hSR : S ≠ R := by have := HSL.out; omega
      have bD : Below wr.heap.size wr wr.drew := (Below.refl _ _).drew
      have HUd : Hid (PP N wr.drew P s g v h xs vl vs md nx ps ks) := HU.out.grown (below_blk HBr.out bD)
      have HYd : Hid (OutsAt wr.drew (some a) ys) := HY.out.grown (below_blk HBr.out bD)
      have HRd : Hid (VB wr.drew R (.int .i64 0) (.int .i64 0) (.slice none 0 0) (.slice none 0 0) (.slice none 0 0) (.int .i64 0)) := HRr.out.fr (Fr.of_below bD (fun _ => False)) (fun h => h)
      have HBd : Hid (Below w.heap.size w wr.drew) := below_blk HBr.out bD
      have hRd : R < wr.drew.heap.size := cell_lt HRd.out.c0
      have hRP : ¬ (R = P ∨ vl.ownBlock = some R) := fun e => by
        rcases e with e | e
        · have : P < w.heap.size := cell_lt HU.out.pu.c0
          have := HRe.out; omega
        · have := (HU.out.ls.ol.blk R e).2
          have := HRe.out; omega
      have HSd : Hid (wr.drew.cell? ⟨S, 0, none⟩ = some (.pointer (some ⟨P, 0, none⟩)) ∧ wr.drew.cell? ⟨S, 3, none⟩ = some (.slice ao k cio)) := ⟨s0, s3⟩
      clear bD
      go_upto_region 9 with fail
      go_region_held3 (fun w' => w'.cell? ⟨S, 0, none⟩ = some (.pointer (some ⟨P, 0, none⟩)) ∧ w'.cell? ⟨S, 3, none⟩ = some (.slice ao k cio)) (first | go_keep | with_reducible exact HSd.out | with_reducible exact hS2w | with_reducible exact keepS6 _ _ _ _ _ _ hSR hS2w) ((go_at_call 34; (with_reducible refine (pay_any N P s g v h xs vl vs md nx ps ks (some a) m d ys r (k : Int) wr.drew hs hg hg2 HUd.out hxl HV.out HYd.out HYN.out hmd hpl hkl).mono ?_); rintro e w2 ⟨a0, a1, a2, a3, a4, a5, er, rfl, hpay⟩; obtain ⟨n0, t, ai, n2, ci, ap, n3, cp, ak, n4, ck, ch, rfl, rfl, rfl, rfl, rfl, rfl⟩ := payOkR_vals hpay; have HPAY : Hid (PayOkR N P s g v h xs vl vs md nx ps ks ys r (k : Int) (.int .i64 n0) (.int .i64 t) (.slice ai n2 ci) (.slice ap n3 cp) (.slice ak n4 ck) (.int .i64 ch) er wr.drew w2) := hpay; have HRF : Hid (Fr (fun q => q = P ∨ vl.ownBlock = some q) wr.drew w2) := payOkR_fr hpay; clear hpay; have hS2w : w2.cell? ⟨S, 0, none⟩ = some (.pointer (some ⟨P, 0, none⟩)) ∧ w2.cell? ⟨S, 3, none⟩ = some (.slice ao k cio) := ⟨HRF.out.cell HSd.out.1 hSP, HRF.out.cell HSd.out.2 hSP⟩; obtain ⟨q0, q1, q2, q3, q4, q5, qz⟩ := HRd.out.fr HRF.out hRP; have f0 := qz 0; have f1 := qz 1; have f2 := qz 2; have f3 := qz 3; have f4 := qz 4; have f5 := qz 5; clear qz))
      have HR3 : Hid (VB w2 R (.int .i64 0) (.int .i64 0) (.slice none 0 0) (.slice none 0 0) (.slice none 0 0) (.int .i64 0)) := HRd.out.fr HRF.out hRP
      have HVF : Hid _ := (((((HR3.out.s0 (.int .i64 n0)).s1 (.int .i64 t)).s2 (.slice ai n2 ci)).s3 (.slice ap n3 cp)).s4 (.slice ak n4 ck)).s5 (.int .i64 ch)
      have HLF : Hid _ := HPAY.out.lift HU.out HBd.out (by rw [HRe.out]; exact Nat.le_refl _) hRd (fr6K w2 R (.int .i64 n0) (.int .i64 t) (.slice ai n2 ci) (.slice ap n3 cp) (.slice ak n4 ck) (.int .i64 ch))
      repeat (first | go_values | go_skip | go_guarded | go_step | go_upon)
      obtain ⟨z0, z1, z2, z3, z4, z5, _⟩ := HVF.out
      refine bodyPost_ret (v := .tuple #[.agg #[.int .i64 n0, .int .i64 t, .slice ai n2 ci, .slice ap n3 cp, .slice ak n4 ck, .int .i64 ch], .int .i64 er]) ?_ rfl ⟨k, Nat.le_refl _, hold.out, _, _, _, _, _, _, _, rfl, HLF.out, fun h => by omega⟩
      simp [results, Tryz.results12, go_sem, z0, z1, z2, z3, z4, z5]
end Go.Proofs.YtffgpepngcnjeabGreatQ

namespace Go.Proofs.YtffgpepngcnjeabGreatQ
open Go.RowKit
theorem own_cap {α : Type} {f : α → List Value} {e k : Nat} {w : World} {base n c : Nat} {ao : Option Addr} {xs : List α} (h : OwnRec f e k w base (.slice ao n c) xs) : xs.length = n ∧ n ≤ c := by
  rcases h.2 with ⟨e, h0⟩ | ⟨g, cap, cur, e, _, _, hc, _⟩
  · injection e with _ e2 e3
    omega
  · injection e with _ e2 e3
    omega
/-- a purse without payments -/
theorem pp_none {w : World} {P : Nat} {s : Int} {g : Nat} {v : Value} {h : Int} {xs : List Cel} (hp : PAt w P s g v h xs) : PP (fun _ => False) w P s g v h xs (.slice none 0 0) (.slice none 0 0) 0 0 [] [] := by
  refine ⟨⟨hp.c0, hp.c1, hp.f0, hp.f1, hp.own, fun q hq => hp.ext q ?_⟩, ⟨(hp.ext (4, .slice none 0 0) (by simp)).2.2, (hp.ext (5, .slice none 0 0) (by simp)).2.2, (hp.ext (6, .int .i64 0) (by simp)).2.2, (hp.ext (7, .int .i64 0) (by simp)).2.2, hp.f1, OwnRec.nil _ _ _ _ _, OwnRec.nil _ _ _ _ _, fun p hp => (by cases hp), by omega, fun k hk => (by cases hk), fun k hk => hk.elim⟩, fun k hk => ⟨fun e => (by cases e), fun e => (by cases e), fun e => e⟩⟩
  simp only [List.mem_cons, List.not_mem_nil, or_false] at hq ⊢
  rcases hq with rfl | rfl <;> simp
theorem Sn.fr {S P : Nat} {s : Int} {g : Nat} {vi : Value} {ac : Option Addr} {cc : Nat} {cs : List CoinD} {w w' : World} {E : Nat → Prop} (h : Sn S P s g vi ac cc cs w) (hf : Fr E w w') (h1 : ¬ E S) (h2 : ∀ a, ac = some a → ¬ E a.block) : Sn S P s g vi ac cc cs w' :=
  ⟨hf.cell h.c0 h1, hf.cell h.c1 h1, hf.cell h.c2 h1, hf.cell h.c3 h1, hf.cell h.c4 h1, rec_fr hf h.at_ (fun _ a ha => h2 a ha)⟩
/-- what a payment of a scene is, seen from behind -/
def ScPaid (S P : Nat) (s : Int) (g : Nat) (v vi : Value) (ac : Option Addr) (cc : Nat) (h : Int) (xs : List Cel) (ys : List (Int × Int)) (r : Int) (can : Bool) (n0 t : Int) (ai : Option Addr) (n2 ci : Nat) (ap : Option Addr) (n3 cp : Nat) (ak : Option Addr) (n4 ck : Nat) (ch er : Int) (w : World) : Prop :=
  Sn S P s g vi ac cc (xs.map Cel.kept) w ∧
  ((can = false ∧ er = 9 ∧ n0 = 0 ∧ t = 0 ∧ ai = none ∧ n2 = 0 ∧ ci = 0 ∧ ap = none ∧ n3 = 0 ∧ cp = 0 ∧ ak = none ∧ n4 = 0 ∧ ck = 0 ∧ ch = 0 ∧ PAt w P s g v h xs) ∨
   (can = true ∧ er = 10 ∧ unpZ xs s g 0 = none ∧ n0 = 0 ∧ t = 0 ∧ ai = none ∧ n2 = 0 ∧ ci = 0 ∧ ap = none ∧ n3 = 0 ∧ cp = 0 ∧ ak = none ∧ n4 = 0 ∧ ck = 0 ∧ ch = 0 ∧ PAt w P s g v h xs) ∨
   (can = true ∧ er = 0 ∧ n0 = 0 ∧ ∃ L ex NN vl' vs' md nx p, Paid1 s g xs 0 ys r L ex ch ∧ PP NN w P s g v h xs vl' vs' md nx [p] [] ∧ p.cs = L ∧ L.length = n2 ∧ n2 = n4 ∧ (ys ++ ex).length = n3 ∧ n3 ≤ cp ∧ RecAt inC w ai L ∧ RecAt kC w ak L ∧ OutsAt w ap (ys ++ ex)))
theorem ScPaid.grown {S P : Nat} {s : Int} {g : Nat} {v vi : Value} {ac : Option Addr} {cc : Nat} {h : Int} {xs : List Cel} {ys : List (Int × Int)} {r : Int} {can : Bool} {n0 t : Int} {ai : Option Addr} {n2 ci : Nat} {ap : Option Addr} {n3 cp : Nat} {ak : Option Addr} {n4 ck : Nat} {ch er : Int} {w w' : World} (u : ScPaid S P s g v vi ac cc h xs ys r can n0 t ai n2 ci ap n3 cp ak n4 ck ch er w) (hb : Below w.heap.size w w') : ScPaid S P s g v vi ac cc h xs ys r can n0 t ai n2 ci ap n3 cp ak n4 ck ch er w' := by
  refine ⟨u.1.grown hb, ?_⟩
  rcases u.2 with ⟨h1, h2, h3, h4, h5, h6, h7, h8, h9, h10, h11, h12, h13, h14, h15⟩ | ⟨h1, h2, h3, h4, h5, h6, h7, h8, h9, h10, h11, h12, h13, h14, h15, h16⟩ | ⟨h1, h2, h3, L, ex, NN, vl', vs', md, nx, p, g1, g2, g3, g4, g5, g6, g7, g8, g9, g10⟩
  · exact Or.inl ⟨h1, h2, h3, h4, h5, h6, h7, h8, h9, h10, h11, h12, h13, h14, h15.grown hb⟩
  · exact Or.inr (Or.inl ⟨h1, h2, h3, h4, h5, h6, h7, h8, h9, h10, h11, h12, h13, h14, h15, h16.grown hb⟩)
  · exact Or.inr (Or.inr ⟨h1, h2, h3, L, ex, NN, vl', vs', md, nx, p, g1, g2.grown hb, g3, g4, g5, g6, g7, g8.grown hb, g9.grown hb, g10.grown hb⟩)
/-- the sums behind a payment -/
def balF (tot : Int) (can : Bool) (er : Int) (L : List CoinD) : Int := if can = true ∧ er = 0 then tot - sumC L else tot
end Go.Proofs.YtffgpepngcnjeabGreatQ

namespace Go.Proofs.YtffgpepngcnjeabGreatQ
open Go.RowKit
/-- those that are left when the payment of a number is given up -/
def leftZ (ps : List PayD) (k : Int) : List PayD := ps.filter fun p => p.num != k
/-- what Abandon leaves: the error, the list -/
def AbOk (N : Nat → Prop) (b o base : Nat) (vs : Value) (md nx : Int) (ps : List PayD) (ks : List (Int × Int)) (k : Int) (er : Int) (w w' : World) : Prop :=
  ((leftZ ps k).length = ps.length ∧ er = 11 ∧ Below w.heap.size w w') ∨ ((leftZ ps k).length ≠ ps.length ∧ er = 0 ∧ ∃ vl', LsAt N w' b o base vl' vs md nx (leftZ ps k) ks ∧ Fr (fun q => q = b) w w' ∧ (∀ q, vl'.ownBlock = some q → w.heap.size ≤ q) ∧ (∀ j, j ≠ o → w'.cell? ⟨b, j, none⟩ = w.cell? ⟨b, j, none⟩))
theorem LsAt.swap {N : Nat → Prop} {w : World} {b o base : Nat} {vl vs : Value} {md nx : Int} {ps : List PayD} {ks : List (Int × Int)} (h : LsAt N w b o base vl vs md nx ps ks) {w1 : World} {v : Value} {qs : List PayD} (hb : Below w.heap.size w w1) (hbs : base ≤ w.heap.size) (hown : OwnRec PayD.v 159 5 w1 w.heap.size v qs) (hq : ∀ p ∈ qs, p ∈ ps) : LsAt N (w1.setCell ⟨b, o, none⟩ v) b o base v vs md nx qs ks := by
  have h1 := h.grown hb
  have hnb := h.nb
  have hbl : b < w.heap.size := cell_lt h.c0
  have hf : Fr (fun k => k = b) w1 (w1.setCell ⟨b, o, none⟩ v) := (Fr.refl _ w1).set b o _ (fun _ => rfl)
  have hvb : ∀ q, v.ownBlock = some q → w.heap.size ≤ q := fun q hq => (hown.blk q hq).1
  refine ⟨ss h1.c0, so h1.c1 (by omega), so h1.c2 (by omega), so h1.c3 (by omega), fun j => by rw [World.frozen?_setCell]; exact h1.fz j, owns_lower (own_set hown _ _ _ (fun e => by have := hvb _ e; omega)) hbs, own_set h1.os _ _ _ (fun e => by have := (h1.os.blk _ e).1; omega), fun p hp => (h1.ok p (hq p hp)).fr hf (fun k hk => (h1.nN k hk).2.1), h1.nb, fun k hk e => ?_, fun k hk => ⟨by simpa using (h1.nN k hk).1, (h1.nN k hk).2.1, fun e => ?_, (h1.nN k hk).2.2.2⟩⟩
  · have := hvb k hk
    have := (h.os.blk k e).2
    omega
  · have := hvb k e
    have := (h.nN k hk).1
    omega
set_option maxRecDepth 100000 in
set_option maxHeartbeats 2000000 in
theorem lAbandon_any (N : Nat → Prop) (b o base : Nat) (vl vs : Value) (md nx : Int) (ps : List PayD) (ks : List (Int × Int)) (k : Int) (w : World) (hL : LsAt N w b o base vl vs md nx ps ks) (hbs : base ≤ w.heap.size) (hpl : ps.length ≤ 1000000000000) :
    Calls Tryz.prog 48 #[.pointer (some ⟨b, o, none⟩), .int .i64 k] w fun e w' => ∃ er, e = .returned (.int .i64 er) ∧ AbOk N b o base vs md nx ps ks k er w w' := by
  obtain ⟨ao, c, ev, hat⟩ := OwnRec.at pay5 hL.ol
  subst ev
  have HL : Hid (LsAt N w b o base (.slice ao ps.length c) vs md nx ps ks) := hL
  have HA : Hid (RecAt PayD.v w ao ps) := hat
  have c0 := hL.c0
  have cf := hL.fz o
  have hbl : b < w.heap.size := cell_lt c0
  clear hL hat
  generalize hn : ps.length = n at *
  have HN : Hid (ps.length = n) := hn
  clear hn
  generalize hB : w.heap.size = B at *
  have HB : Hid (w.heap.size = B) := hB
  clear hB
  go_enter Tryz.func48, Tryz.ntmps48
  go_wp2
  go_loopw [5, 13] (fun v i wr => ∃ j : Nat, j ≤ n ∧ i = .int .i64 j ∧ OwnRec PayD.v 159 5 wr B v (leftZ (ps.take j) k) ∧ Below B w wr) (fun _ i _ => n - (intOf i).toNat)
  case atStart => exact ⟨0, Nat.zero_le _, rfl, OwnRec.nil _ _ _ _ _, Below.refl _ _⟩
  case round =>
    obtain ⟨j, hj, rfl, hown, hbl2⟩ := hrel
    have hsz := hbl2.size
    rw [HB.out] at hsz
    have d0 := (hbl2.cell (p := ⟨b, o, none⟩) hbl).trans c0
    have df := (hbl2.frozen (p := ⟨b, o, none⟩) hbl).trans cf
    by_cases hlt : j < n
    · rcases HA.out with hnil | ⟨gg, off, rfl, hrow⟩
      · have := HN.out; rw [hnil] at this; simp at this; omega
      obtain ⟨e0, e1, e2, e3, e4⟩ := payCells (hrow.grown (by rw [HB.out]; exact hbl2)) j (by rw [HN.out]; exact hlt)
      have HS : Hid _ := filter_snoc (fun p : PayD => p.num != k) ps dP j (by rw [HN.out]; exact hlt)
      have HLN : Hid ((leftZ (ps.take j) k).length ≤ 1000000000000) := by show _ ≤ _; have := List.length_filter_le (fun p : PayD => p.num != k) (ps.take j); rw [List.length_take] at this; unfold leftZ; omega
      have HLE : Hid (leftZ (ps.take j) k = (ps.take j).filter fun p => p.num != k) := rfl
      have HO : Hid (OwnRec PayD.v 159 5 wr B u5 (leftZ (ps.take j) k)) := hown
      have HLS : Hid (leftZ (ps.take (j + 1)) k = (ps.take (j + 1)).filter fun p => p.num != k) := rfl
      clear hrow hown
      rw [← HLE.out] at HS
      generalize ps.getD j dP = y at *
      generalize leftZ (ps.take j) k = acc at *
      obtain ⟨y0, y1, y2, y3, y4, y5, y6, y7, y8, y9, y10⟩ := y
      simp only at e0 e1 e2 e3 e4
      cases hk : (y0 != k)
      · have HR : Hid (leftZ (ps.take (j + 1)) k = acc) := by show _ = _; rw [HLS.out, HS.out, hk, if_neg (by simp), List.append_nil]
        go_wp2
        go_roundw
        case rel => exact ⟨j + 1, by omega, by go_num, by rw [HR.out]; exact HO.out.alloc _, hbl2.alloc (by omega) _⟩
        case measure => simp [intOf]; omega
      · have HR : Hid (leftZ (ps.take (j + 1)) k = acc ++ [⟨y0, y1, y2, y3, y4, y5, y6, y7, y8, y9, y10⟩]) := by show _ = _; rw [HLS.out, HS.out, hk, if_pos rfl]
        have hO1 := HO.out.alloc (.cells #[.int .i64 y0, .slice y1 y2 y3, .slice y4 y5 y6, .int .i64 y7, .bool y8] 159)
        have HO1 : Hid (OwnRec PayD.v 159 5 (wr.alloc (.cells #[.int .i64 y0, .slice y1 y2 y3, .slice y4 y5 y6, .int .i64 y7, .bool y8] 159)) B u5 acc) := hO1
        have hb1 := hbl2.alloc (show B ≤ wr.heap.size by omega) (.cells #[.int .i64 y0, .slice y1 y2 y3, .slice y4 y5 y6, .int .i64 y7, .bool y8] 159)
        have h5 := P5.new wr (.int .i64 y0) (.slice y1 y2 y3) (.slice y4 y5 y6) (.int .i64 y7) (.bool y8) 159
        obtain ⟨z0, z1, z2, z3, z4, _⟩ := h5
        clear hO1
        go_upto_region 5 with fail
        have hz1 : (wr.alloc (.cells #[.int .i64 y0, .slice y1 y2 y3, .slice y4 y5 y6, .int .i64 y7, .bool y8] 159)).heap.size = wr.heap.size + 1 := by simp
        have hBz : B ≤ (wr.alloc (.cells #[.int .i64 y0, .slice y1 y2 y3, .slice y4 y5 y6, .int .i64 y7, .bool y8] 159)).heap.size := by omega
        clear hz1 e0 e1 e2 e3 e4
        generalize wr.alloc (.cells #[.int .i64 y0, .slice y1 y2 y3, .slice y4 y5 y6, .int .i64 y7, .bool y8] 159) = w1 at *
        generalize wr.heap.size = X at *
        go_wp2_with (at_builtin; refine wpList_appR 98 72 _ Tryz.underlying98 info159 rfl (by decide) pay5 pay_one (w1.alloc (.cells #[.int .i64 y0, .slice y1 y2 y3, .slice y4 y5 y6, .int .i64 y7, .bool y8] 159)) rfl _ _ rfl B w1.heap.size 1 u5 acc ⟨y0, y1, y2, y3, y4, y5, y6, y7, y8, y9, y10⟩ (by rfl) (by rfl) (HO1.out.alloc _) (vrow_new _ _ _) (by simp; omega) (by have := HLN.out; unfold maxLen; omega) (by have := HLN.out; omega) ?_; intro g' cap w5 hown5 hg5 _ _)
        go_roundw
        case rel => exact ⟨j + 1, by omega, by go_num, by rw [HR.out]; exact hown5, hb1.trans (gb_to_below (gb_trans (gb_alloc _ _ _) hg5) (by omega) (fun r hr => (HO1.out.blk r hr).1))⟩
        case measure => simp [intOf]; omega
    · have HE : Hid (ps.take j = ps) := by show _ = _; rw [List.take_of_length_le (by rw [HN.out]; omega)]
      rw [HE.out] at hown
      obtain ⟨a2, c2, e2, _⟩ := OwnRec.at pay5 hown
      subst e2
      have HO : Hid (OwnRec PayD.v 159 5 wr B (.slice a2 (leftZ ps k).length c2) (leftZ ps k)) := hown
      have HBW : Hid (Below B w wr) := hbl2
      have HQ : Hid (∀ p ∈ leftZ ps k, p ∈ ps) := fun p hp => (List.mem_filter.1 hp).1
      have HAB : Hid (∀ er w', AbOk N b o base vs md nx ps ks k er w w' ↔ (((leftZ ps k).length = n ∧ er = 11 ∧ Below B w w') ∨ ((leftZ ps k).length ≠ n ∧ er = 0 ∧ ∃ vl', LsAt N w' b o base vl' vs md nx (leftZ ps k) ks ∧ Fr (fun q => q = b) w w' ∧ (∀ q, vl'.ownBlock = some q → B ≤ q) ∧ (∀ j, j ≠ o → w'.cell? ⟨b, j, none⟩ = w.cell? ⟨b, j, none⟩)))) := fun er w' => by unfold AbOk; rw [HN.out, HB.out]
      clear hown
      generalize leftZ ps k = qs at *
      generalize hql : qs.length = ql at *
      by_cases hq : ql = n
      · subst hq
        go_wp2
        go_ret
        exact ⟨11, rfl, (HAB.out _ _).2 (Or.inl ⟨by first | rfl | trivial, rfl, HBW.out⟩)⟩
      · have hqI : ((ql : Int) == (n : Int)) = false := by rw [beq_eq_false_iff_ne]; omega
        have HF : Hid (LsAt N (wr.setCell ⟨b, o, none⟩ (.slice a2 ql c2)) b o base (.slice a2 ql c2) vs md nx qs ks) := HL.out.swap (by rw [HB.out]; exact HBW.out) (by rw [HB.out]; exact hbs) (by rw [HB.out]; exact HO.out) HQ.out
        have HFr : Hid (Fr (fun q => q = b) w (wr.setCell ⟨b, o, none⟩ (.slice a2 ql c2))) := (Fr.of_below (by rw [HB.out]; exact HBW.out) _).set b o _ (fun _ => rfl)
        have HCJ : Hid (∀ j, j ≠ o → (wr.setCell ⟨b, o, none⟩ (.slice a2 ql c2)).cell? ⟨b, j, none⟩ = w.cell? ⟨b, j, none⟩) := fun j hj => by
          rw [cell_oth _ _ _ _ _ (fun e => hj e.symm)]
          exact HBW.out.cell (p := ⟨b, j, none⟩) hbl
        go_wp2
        go_ret
        exact ⟨0, rfl, (HAB.out _ _).2 (Or.inr ⟨hq, rfl, _, HF.out, HFr.out, fun q hq2 => (HO.out.blk q hq2).1, HCJ.out⟩)⟩
set_option maxRecDepth 100000 in
set_option maxHeartbeats 1000000 in
theorem pAbandon_any (N : Nat → Prop) (P : Nat) (s : Int) (g : Nat) (v : Value) (h : Int) (xs : List Cel) (vl vs : Value) (md nx : Int) (ps : List PayD) (ks : List (Int × Int)) (k : Int) (w : World) (u : PP N w P s g v h xs vl vs md nx ps ks) (hpl : ps.length ≤ 1000000000000) :
    Calls Tryz.prog 20 #[.pointer (some ⟨P, 0, none⟩), .int .i64 k] w fun e w' => ∃ er, e = .returned (.int .i64 er) ∧ AbOk N P 4 (P + 1) vs md nx ps ks k er w w' := by
  have HL : Hid (LsAt N w P 4 (P + 1) vl vs md nx ps ks) := u.ls
  have hb : P + 1 ≤ w.heap.size := cell_lt u.ls.c0
  clear u
  go_enter Tryz.func20, Tryz.ntmps20
  go_wp2_with fail
  refine (lAbandon_any N P 4 (P + 1) vl vs md nx ps ks k _ HL.out hb hpl).mono ?_
  rintro e w1 ⟨er, rfl, hr⟩
  have HR : Hid (AbOk N P 4 (P + 1) vs md nx ps ks k er w w1) := hr
  clear hr
  go_wp2
  go_ret
  exact ⟨er, rfl, HR.out⟩
end Go.Proofs.YtffgpepngcnjeabGreatQ

namespace Go.Proofs.YtffgpepngcnjeabGreatQ
open Go.RowKit
/-- the purse behind Abandon -/
theorem PP.given {N : Nat → Prop} {w w' : World} {P : Nat} {s : Int} {g : Nat} {v : Value} {h : Int} {xs : List Cel} {vl vs vl' : Value} {md nx : Int} {ps qs : List PayD} {ks : List (Int × Int)} (u : PP N w P s g v h xs vl vs md nx ps ks) (hl : LsAt N w' P 4 (P + 1) vl' vs md nx qs ks) (hf : Fr (fun q => q = P) w w') (hnew : ∀ q, vl'.ownBlock = some q → w.heap.size ≤ q) (hc : ∀ j, j ≠ 4 → w'.cell? ⟨P, j, none⟩ = w.cell? ⟨P, j, none⟩) : PP N w' P s g v h xs vl' vs md nx qs ks := by
  refine ⟨⟨(hc 2 (by omega)).trans u.pu.c0, (hc 3 (by omega)).trans u.pu.c1, hl.fz 2, hl.fz, hf.own u.pu.own (fun k hk e => ?_), fun q hq => ⟨(u.pu.ext q hq).1, (u.pu.ext q hq).2.1, ?_⟩⟩, hl, fun k hk => ⟨fun e => ?_, (u.dj k hk).2⟩⟩
  · have := (u.pu.own.blk k hk).1; omega
  · have hq2 : q.1 ≠ 4 := by
      simp only [List.mem_cons, List.not_mem_nil, or_false] at hq
      rcases hq with rfl | rfl
      · show (0 : Nat) ≠ 4; omega
      · show (1 : Nat) ≠ 4; omega
    exact (hc q.1 hq2).trans (u.pu.ext q hq).2.2
  · have h1 := hnew k e
    have h2 := (u.pu.own.blk k hk).2
    omega
/-- what pay answers, whatever was paid and given up ahead of it -/
def PGen (N : Nat → Prop) (P : Nat) (s : Int) (g : Nat) (v : Value) (h : Int) (xs : List Cel) (vl vs : Value) (md nx : Int) (ys : List (Int × Int)) (r : Int) (can : Bool) (n0 : Int) (v2 v3 v4 : Value) (ch er : Int) (w w' : World) : Prop :=
  (can = false ∧ er = 9 ∧ Below w.heap.size w w') ∨
  (can = true ∧ er = 10 ∧ unpZ xs s g nx = none ∧ (∃ L c, chooseZ r (orderZ r (ownOf xs s g)) (targetZ ys r) = some (L, c) ∧ 0 < c) ∧ Below w.heap.size w w') ∨
  (can = true ∧ er = 0 ∧ n0 = md ∧ ∃ L ex tag, Paid1 s g xs nx ys r L ex ch ∧ PayGo N P s g v h xs vl vs md nx [] [] tag L (ys ++ ex) ch v2 v3 v4 w w')
end Go.Proofs.YtffgpepngcnjeabGreatQ

namespace Go.Proofs.YtffgpepngcnjeabGreatQ
open Go.RowKit
/-- an own coin stands in the chain -/
theorem own_stand {xs : List Cel} {s : Int} {g : Nat} (hq : Uq xs) {x : CoinD} (hx : x ∈ ownOf xs s g) : hasCoinZ xs x = true := by
  rcases own_src (keysZ xs s g) (coinsC xs) [] x hx with e | ⟨c, hc, k, hk, _, rfl⟩
  · cases e
  · obtain ⟨y, hy, rfl⟩ := List.mem_map.1 hc
    have hsp := (List.mem_filter.1 hy).2
    obtain ⟨j, hj, rfl⟩ := mem_getD dC (List.mem_filter.1 hy).1
    rw [beq_iff_eq] at hsp
    have hco : isCoin (xs.getD j dC).id (xs.getD j dC).pos (xs.getD j dC) = true := by
      unfold isCoin
      rw [hsp]
      simp
    show hasCoinZ xs (coinK (xs.getD j dC).c k) = true
    unfold hasCoinZ
    show (if findZ xs (xs.getD j dC).id (xs.getD j dC).pos < 0 then false else _) = true
    rcases findZ_cases xs (xs.getD j dC).id (xs.getD j dC).pos with f | ⟨i, hi, f1, f2⟩
    · exfalso
      have : ∀ (l : List Cel) (n : Nat), (∃ y ∈ l, isCoin (xs.getD j dC).id (xs.getD j dC).pos y = true) → idxOf (isCoin (xs.getD j dC).id (xs.getD j dC).pos) l n ≠ -1 := by
        intro l
        induction l with
        | nil => rintro n ⟨y, hy, _⟩; cases hy
        | cons z r ih =>
          rintro n ⟨y, hy, e⟩
          rw [idxOf]
          by_cases ez : isCoin (xs.getD j dC).id (xs.getD j dC).pos z = true
          · rw [if_pos ez]; omega
          · rw [if_neg ez]
            refine ih (n + 1) ⟨y, ?_, e⟩
            rcases List.mem_cons.1 hy with rfl | hy
            · exact absurd e ez
            · exact hy
      exact this xs 0 ⟨_, getD_mem xs dC j hj, hco⟩ f
    · have e := hq _ _ j i hj hi hco f2
      subst e
      have ht : (findZ xs (xs.getD j dC).id (xs.getD j dC).pos).toNat = j := by omega
      rw [if_neg (by omega)]
      show ((xs.getD (findZ xs (xs.getD j dC).id (xs.getD j dC).pos).toNat dC).to == (xs.getD j dC).to && (xs.getD (findZ xs (xs.getD j dC).id (xs.getD j dC).pos).toNat dC).val == (xs.getD j dC).val) = true
      rw [ht]
      simp
theorem own_allZ {xs : List Cel} {s : Int} {g : Nat} (hq : Uq xs) {L : List CoinD} (hL : ∀ x ∈ L, x ∈ ownOf xs s g) : hasAllZ xs L = true := by
  unfold hasAllZ
  rw [Bool.not_eq_true', List.any_eq_false]
  intro x hx
  rw [own_stand hq (hL x hx)]
  simp
theorem own_key {xs : List Cel} {s : Int} {g : Nat} (hs : Mk.isM s = true) {x : CoinD} (hx : x ∈ ownOf xs s g) : Mk.isK s x.br x.ix = true ∧ x.tt = Mk.adr s x.br x.ix := by
  rcases own_src (keysZ xs s g) (coinsC xs) [] x hx with e | ⟨c, hc, k, hk, e, rfl⟩
  · cases e
  · obtain ⟨h1, h2⟩ := keysZ_key hs hk
    exact ⟨h1, by show c.ad = Mk.adr s k.br k.ix; rw [h2, e]⟩
theorem Dp.uq {s : Int} {g : Nat} {xs : List Cel} (h : Dp s g xs) : Uq xs := by
  apply cel_uq
  have h1 := h.nd
  unfold List.Nodup at h1 ⊢
  rw [List.pairwise_map] at h1 ⊢
  refine h1.imp (fun hne e => hne ?_)
  injection e
theorem Dp.und {s : Int} {g : Nat} {xs : List Cel} (h : Dp s g xs) : Und (xs.length : Int) xs := fun x hx => ⟨h.ma x hx, by rw [h.sp x hx]; omega⟩
/-- what pay answers -/
theorem paid_acc {N : Nat → Prop} {P : Nat} {s : Int} {g : Nat} {v : Value} {h : Int} {xs : List Cel} {vl vs : Value} {md nx : Int} {ys : List (Int × Int)} {r : Int} {tag : Nat} {n0 t : Int} {v2 v3 v4 : Value} {ch er : Int} {w w' : World} (hd : Dp s g xs) (hs : Mk.isM s = true) (hg2 : g ≤ 20) (hl : xs.length ≤ 24) (hy1 : 1 ≤ ys.length) (hy7 : ys.length ≤ 7) (hyr : ∀ y ∈ ys, rOut y = true) (hr : 0 ≤ r ∧ r ≤ 1000)
    (ht : tag ≤ xs.length) (hold : ∀ j : Nat, j < tag → payZ xs s g [] [] nx ys r (j : Int) = .inl 4) (hnew : tag < xs.length → payZ xs s g [] [] nx ys r (tag : Int) ≠ .inl 4)
    (hp : PayOkR N P s g v h xs vl vs md nx [] [] ys r (tag : Int) (.int .i64 n0) (.int .i64 t) v2 v3 v4 (.int .i64 ch) er w w') :
    (decide (targetZ ys r ≤ wsum r ((orderZ r (xs.map Cel.kept)).take 10)) = false ∧ er = 9 ∧ Below w.heap.size w w') ∨
    (decide (targetZ ys r ≤ wsum r ((orderZ r (xs.map Cel.kept)).take 10)) = true ∧ er = 10 ∧ unpZ xs s g nx = none ∧ Below w.heap.size w w') ∨
    (decide (targetZ ys r ≤ wsum r ((orderZ r (xs.map Cel.kept)).take 10)) = true ∧ er = 0 ∧ n0 = md ∧ t = (tag : Int) ∧ ∃ L ex, Paid1 s g xs nx ys r L ex ch ∧ hasId xs (idZ (tag : Int) (L.map CoinD.inD) (ys ++ ex)) = false ∧ PayGo N P s g v h xs vl vs md nx [] [] (tag : Int) L (ys ++ ex) ch v2 v3 v4 w w') := by
  have herr : ∀ x, payZ xs s g [] [] nx ys r (tag : Int) = .inl x → er = x ∧ Below w.heap.size w w' := fun x hx => by
    rcases hp with ⟨y, h1, h2, _, _, _, _, _, _, h9⟩ | ⟨cs, zs, c, h1, _⟩
    · rw [hx] at h1
      injection h1 with h1
      exact ⟨by rw [h2, h1], h9⟩
    · rw [hx] at h1; cases h1
  rcases pay_kinds hd hs hg2 hy1 hy7 hyr hr nx with ⟨k1, k2⟩ | ⟨k1, k2, k4, k3⟩ | ⟨k1, L, ex, c, k2⟩
  · exact Or.inl ⟨decide_eq_false k1, herr 9 (k2 _ (by omega) (by omega))⟩
  · obtain ⟨e1, e2⟩ := herr 10 (k3 _ (by omega) (by omega))
    exact Or.inr (Or.inl ⟨decide_eq_true k1, e1, k2, e2⟩)
  · refine Or.inr (Or.inr ⟨decide_eq_true k1, ?_⟩)
    have hne : payZ xs s g [] [] nx ys r (tag : Int) ≠ .inl 4 := fun e => by
      by_cases hlt : tag < xs.length
      · exact hnew hlt e
      · refine k2.tag hd hs hg2 hy1 hy7 hyr hl (fun j hj => ?_)
        by_cases ej : j = tag
        · rw [ej]; exact e
        · exact hold j (by omega)
    have hpf := k2.pay (tag : Int) (by omega) (by omega)
    have hinr : payZ xs s g [] [] nx ys r (tag : Int) = .inr (L, ys ++ ex, c) ∧ hasId xs (idZ (tag : Int) (L.map CoinD.inD) (ys ++ ex)) = false := by
      rw [hpf] at hne ⊢
      unfold payFin at hne ⊢
      split
      · rename_i h4; rw [if_pos h4] at hne; exact absurd rfl hne
      · rename_i h4
        exact ⟨rfl, by simpa using h4⟩
    rcases hp with ⟨y, h1, _⟩ | ⟨cs, zs, c2, h1, h2, h3, h4, h5, h6⟩
    · rw [hinr.1] at h1; cases h1
    · rw [hinr.1] at h1
      injection h1 with h1
      injection h1 with h1 h1'
      injection h1' with h7 h8
      injection h3 with _ h3
      injection h4 with _ h4
      injection h5 with _ h5
      subst h1
      subst h7
      subst h8
      subst h5
      exact ⟨h2, h3, h4, L, ex, k2, hinr.2, h6⟩
/-- what the chain says to a payment of a scene -/
structure AccSay (s : Int) (g : Nat) (xs xs2 : List Cel) (p : PayD) (ch : Int) : Prop where
  say : ChSay (xs.length : Int) xs s g p
  x2 : xs2 = takenC (xs.length : Int) p.id xs (p.cs.map (sgI0 s p.id)) p.ys
  tw : ∀ x : TxD, x.t = p.tag → x.ins.map InD.st = p.cs.map (sgI0 s p.id) → x.ys = p.ys → connZ ((xs.length : Int) + 1) xs2 [x] = (4, 0, (xs.length : Int) + 1, xs2)
  bk : 0 ≤ ch → ∃ k : Nat, p.ys.length = k + 1 ∧ hasZ (ownOf xs2 s g) ⟨p.id, (k : Int), (p.ys.getD k (0, 0)).1, (p.ys.getD k (0, 0)).2, 0, 0⟩ = true
  vl : Vals xs2
  ln : xs2.length ≤ 40
  id : ∀ (t : Int) (js : List InD), t = p.tag → js.map InD.st = p.cs.map (sgI0 s p.id) → idZ t js p.ys = p.id
  ky : ∀ x ∈ p.cs, Mk.isK s x.br x.ix = true
  sg : signZ xs [p] [] 0 = .inr 0
theorem acc_say {s : Int} {g : Nat} {xs : List Cel} {nx : Int} {ys : List (Int × Int)} {r : Int} {L : List CoinD} {ex : List (Int × Int)} {ch : Int} {tag : Nat} {p : PayD} (hd : Dp s g xs) (hs : Mk.isM s = true) (hg2 : g ≤ 20) (hl : xs.length ≤ 24) (hy1 : 1 ≤ ys.length) (hy7 : ys.length ≤ 7) (hyr : ∀ y ∈ ys, rOut y = true) (hr : 0 ≤ r ∧ r ≤ 1000) (ht : tag ≤ xs.length) (hp : Paid1 s g xs nx ys r L ex ch) (hi : hasId xs (idZ (tag : Int) (L.map CoinD.inD) (ys ++ ex)) = false) (e1 : p.num = 0) (e2 : p.cs = L) (e3 : p.ys = ys ++ ex) (e4 : p.tag = (tag : Int)) : ∃ xs2, AccSay s g xs xs2 p ch := by
  have hrt : rTx p.tag (p.cs.map fun x => (⟨x.id, x.pos, none, 0, 0, []⟩ : InD)) p.ys = true := by
    rw [e2, e3, e4]
    exact hp.right hd hs hg2 hy1 hy7 hyr (tag : Int) (by omega) (by omega)
  have hid : hasId xs p.id = false := by
    unfold PayD.id
    rw [e2, e3, e4]
    exact hi
  have hcs : p.cs ≠ [] := by
    rw [e2]
    exact List.length_pos_iff.1 hp.l0
  have hall : hasAllZ xs p.cs = true := by rw [e2]; exact own_allZ hd.uq hp.own
  have hnd : (p.cs.map fun x => (x.id, x.pos)).Nodup := by
    have h1 := hp.nd
    rw [e2]
    unfold List.Nodup at h1 ⊢
    rw [List.pairwise_map] at h1 ⊢
    exact h1.imp (fun hne e => hne (by injection e))
  have hys : p.ys ≠ [] := by
    rw [e3]
    intro e
    have := congrArg List.length e
    rw [List.length_append, List.length_nil] at this
    omega
  have hsum : sumOu p.ys ≤ sumC p.cs := by
    rw [e2, e3]
    have h0 : 0 ≤ r * (3 + 7 * (L.length : Int) + 2 * ((ys ++ ex).length : Int)) := Int.mul_nonneg hr.1 (by omega)
    rcases hp.fair with ⟨_, _, h1, _⟩ | ⟨_, _, _, _, _, _, _, _, h1⟩
    · omega
    · omega
  have hsay : ChSay (xs.length : Int) xs s g p := ch_say ⟨by omega, by omega⟩ hd.und hd.uq hcs hrt hid hall hnd (fun x hx => (own_key hs (hp.own x (by rw [← e2]; exact hx))).2) hsum
  have hyl : p.ys.length ≤ 8 := by
    rw [e3, List.length_append]
    have := hp.e1
    omega
  refine ⟨takenC (xs.length : Int) p.id xs (p.cs.map (sgI0 s p.id)) p.ys, hsay, rfl, fun x h1 h2 h3 => ?_, fun hc => ?_, ?_, ?_, fun t js h1 h2 => ?_, fun x hx => (own_key hs (hp.own x (by rw [← e2]; exact hx))).1, ?_⟩
  · exact ch_twice (s := s) (by omega) (taken_und (by omega) hd.und) hrt (taken_has hys) h1 h2 h3
  · rcases hp.fair with ⟨_, h1, _⟩ | ⟨i, v, h1, h2, h3, h4, h5, _, _⟩
    · omega
    · have hg : p.ys.getD ys.length (0, 0) = (Mk.adr s 1 (i : Int), v) := by
        rw [e3, h1]
        simp [List.getD]
      refine ⟨ys.length, by rw [e3, h1]; simp, taken_back hg2 (Or.inr rfl) h4 (by rw [e3, h1]; simp) ?_⟩
      rw [hg]
  · have hc := hsay.tk ⟨p.tag, none, 0, 0, none, 0, 0, p.cs.map (sgI0 s p.id), p.ys⟩ rfl (by rw [List.map_map]; rfl) rfl
    have := conn_len (xs.length : Int) xs _ hd.vals (by rw [hc])
    rw [hc] at this
    exact this.1
  · unfold takenC newC
    rw [List.length_append, markZ_len, List.length_map, List.length_range]
    omega
  · subst h1
    have := idZ_st p.tag js p.ys
    rw [← this, h2, id_seal hrt]
    rfl
  · have hf : pfindZ [p] 0 = 0 := by
      unfold pfindZ
      rw [idxOf, if_pos (by rw [e1]; rfl)]
      rfl
    unfold signZ
    rw [hf]
    have hg : ([p].getD (0 : Int).toNat dP) = p := rfl
    rw [hg, if_neg (by omega), if_neg (by rw [hid, hall]; simp), if_neg (by
      rintro ⟨_, e⟩
      unfold anySealZ usedB at e
      simp at e)]
    rfl
end Go.Proofs.YtffgpepngcnjeabGreatQ

namespace Go.Proofs.YtffgpepngcnjeabGreatQ
open Go.RowKit
/-- a purse with its further cells -/
abbrev PAe (w : World) (P : Nat) (s : Int) (g : Nat) (v : Value) (h : Int) (xs : List Cel) (vl vs : Value) (md nx : Int) : Prop := ChOwn [(0, .int .i64 s), (1, .int .i64 (g : Int)), (4, vl), (5, vs), (6, .int .i64 md), (7, .int .i64 nx)] w P 2 v h xs
theorem PP.toE {N : Nat → Prop} {w : World} {P : Nat} {s : Int} {g : Nat} {v : Value} {h : Int} {xs : List Cel} {vl vs : Value} {md nx : Int} {ps : List PayD} {ks : List (Int × Int)} (u : PP N w P s g v h xs vl vs md nx ps ks) : PAe w P s g v h xs vl vs md nx := by
  refine ⟨u.pu.c0, u.pu.c1, u.pu.f0, u.pu.f1, u.pu.own, fun q hq => ?_⟩
  simp only [List.mem_cons, List.not_mem_nil, or_false] at hq
  rcases hq with rfl | rfl | rfl | rfl | rfl | rfl
  · exact u.pu.ext _ (by simp)
  · exact u.pu.ext _ (by simp)
  · exact ⟨by simp, by simp, u.ls.c0⟩
  · exact ⟨by simp, by simp, u.ls.c1⟩
  · exact ⟨by simp, by simp, u.ls.c2⟩
  · exact ⟨by simp, by simp, u.ls.c3⟩
theorem PP.ofE {F N : Nat → Prop} {w w' : World} {P : Nat} {s : Int} {g : Nat} {v v' : Value} {h h' : Int} {xs xs' : List Cel} {vl vs : Value} {md nx : Int} {ps : List PayD} {ks : List (Int × Int)} (u : PP N w P s g v h xs vl vs md nx ps ks) (hp : PAe w' P s g v' h' xs' vl vs md nx) (hf : Fr F w w') (h1 : ∀ k, vl.ownBlock = some k → ¬ F k) (h2 : ∀ k, vs.ownBlock = some k → ¬ F k) (h3 : ∀ k, N k → ¬ F k) (hd : ∀ k, v'.ownBlock = some k → vl.ownBlock ≠ some k ∧ vs.ownBlock ≠ some k ∧ ¬ N k) : PP N w' P s g v' h' xs' vl vs md nx ps ks := by
  refine ⟨⟨hp.c0, hp.c1, hp.f0, hp.f1, hp.own, fun q hq => hp.ext q ?_⟩, ⟨(hp.ext (4, vl) (by simp)).2.2, (hp.ext (5, vs) (by simp)).2.2, (hp.ext (6, .int .i64 md) (by simp)).2.2, (hp.ext (7, .int .i64 nx) (by simp)).2.2, hp.f1, hf.own u.ls.ol h1, hf.own u.ls.os h2, fun p hp => (u.ls.ok p hp).fr hf h3, u.ls.nb, u.ls.nl, fun k hk => ⟨Nat.lt_of_lt_of_le (u.ls.nN k hk).1 hf.size, (u.ls.nN k hk).2⟩⟩, hd⟩
  simp only [List.mem_cons, List.not_mem_nil, or_false] at hq ⊢
  rcases hq with rfl | rfl <;> simp
set_option maxRecDepth 100000 in
set_option maxHeartbeats 400000 in
theorem pConnectE (P : Nat) (s : Int) (g : Nat) (v : Value) (h : Int) (xs : List Cel) (vl vs : Value) (md nx : Int) (N : Nat → Prop) (ao : Option Addr) (n c : Nat) (bl : List TxD) (w : World)
    (hp : PAe w P s g v h xs vl vs md nx) (hl : xs.length ≤ 5000) (hv : Vals xs) (hh : 0 ≤ h ∧ h ≤ 100) (hb : BlkAt N w ao bl) (hn : bl.length = n) (hN : ∀ k, N k → k < w.heap.size ∧ ¬ chE P v k) (hn2 : n ≤ 9223372036854775807) :
    Calls Tryz.prog 43 #[.pointer (some ⟨P, 0, none⟩), .slice ao n c] w fun e w' => e = .returned (.tuple #[.int .i64 (connZ h xs bl).1, .int .i64 (connZ h xs bl).2.1]) ∧ ∃ v', PAe w' P s g v' (connZ h xs bl).2.2.1 (connZ h xs bl).2.2.2 vl vs md nx ∧ ChStep P v v' w w' := by
  go_enter Tryz.func43, Tryz.ntmps43
  go_wp2_with fail
  refine (connect_any P 2 v h xs N ao n c bl _ hp hl hv hh hb hn hN hn2).mono ?_
  rintro e w1 ⟨rfl, v', h1, h2⟩
  go_wp2
  go_ret2
  exact ⟨rfl, v', h1, h2⟩
/-- the purse behind a signature -/
theorem PP.signed {N New : Nat → Prop} {w w' : World} {P : Nat} {s : Int} {g : Nat} {v : Value} {h : Int} {xs : List Cel} {vl vs vs' : Value} {md nx : Int} {ps ps' : List PayD} {ks ks' : List (Int × Int)} (u : PP N w P s g v h xs vl vs md nx ps ks) (hg : SgL N P 4 (P + 1) vl vs vs' md nx ps ps' ks ks' w w' New) : PP N w' P s g v h xs vl vs' md nx ps' ks' := by
  refine ⟨⟨hg.cl 2 _ (by omega) u.pu.c0, hg.cl 3 _ (by omega) u.pu.c1, hg.ls.fz 2, hg.ls.fz, hg.fr.own u.pu.own (fun k hk e => ?_), fun q hq => ⟨(u.pu.ext q hq).1, (u.pu.ext q hq).2.1, hg.cl q.1 _ ?_ (u.pu.ext q hq).2.2⟩⟩, hg.ls, fun k hk => ⟨(u.dj k hk).1, fun e => ?_, (u.dj k hk).2.2⟩⟩
  · rcases e with e | e | e
    · have := (u.pu.own.blk k hk).1; omega
    · exact (u.dj k hk).1 e
    · exact (u.dj k hk).2.1 e
  · simp only [List.mem_cons, List.not_mem_nil, or_false] at hq
    rcases hq with rfl | rfl
    · show (0 : Nat) ≠ 5; omega
    · show (1 : Nat) ≠ 5; omega
  · rcases hg.nw k e with e | e
    · exact (u.dj k hk).2.1 e
    · have := (u.pu.own.blk k hk).2; omega
/-- the purse behind a step of the chain -/
theorem PP.chain {N : Nat → Prop} {w w' : World} {P : Nat} {s : Int} {g : Nat} {v v' : Value} {h h' : Int} {xs xs' : List Cel} {vl vs : Value} {md nx : Int} {ps : List PayD} {ks : List (Int × Int)} (u : PP N w P s g v h xs vl vs md nx ps ks) (hp : PAe w' P s g v' h' xs' vl vs md nx) (hst : ChStep P v v' w w') : PP N w' P s g v' h' xs' vl vs md nx ps ks := by
  have hnb := u.ls.nb
  refine u.ofE hp hst.fr (fun k hk e => ?_) (fun k hk e => ?_) (fun k hk e => ?_) (fun k hk => ?_)
  · rcases e with e | e
    · have := (u.ls.ol.blk k hk).1; omega
    · exact (u.dj k e).1 hk
  · rcases e with e | e
    · have := (u.ls.os.blk k hk).1; omega
    · exact (u.dj k e).2.1 hk
  · rcases e with e | e
    · exact (u.ls.nN k hk).2.1 e
    · exact (u.dj k e).2.2 hk
  · rcases hst.own k hk with e | e
    · exact u.dj k e
    · refine ⟨fun e2 => ?_, fun e2 => ?_, fun e2 => ?_⟩
      · have := (u.ls.ol.blk k e2).2; omega
      · have := (u.ls.os.blk k e2).2; omega
      · have := (u.ls.nN k e2).1; omega
end Go.Proofs.YtffgpepngcnjeabGreatQ

namespace Go.Proofs.YtffgpepngcnjeabGreatQ
open Go.RowKit
set_option maxRecDepth 100000 in
set_option maxHeartbeats 1000000 in
theorem kInts_same (a1 o1 a2 o2 : Nat) (n c d : Nat) (l : List Int) (w : World) (h1 : Row w a1 o1 l) (h2 : Row w a2 o2 l) (hn : l.length = n) (hm : n ≤ 1000000) :
    Calls Tryz.prog 47 #[.slice (some ⟨a1, o1, none⟩) n c, .slice (some ⟨a2, o2, none⟩) n d] w fun e w' => e = .returned (.bool true) ∧ Below w.heap.size w w' := by
  have HN : Hid (l.length = n) := hn
  have H1 : Hid (Row w a1 o1 l) := h1
  have H2 : Hid (Row w a2 o2 l) := h2
  clear hn h1 h2
  go_enter Tryz.func47, Tryz.ntmps47
  go_wp2
  go_loopw [5] (fun i wr => ∃ k : Nat, k ≤ n ∧ i = .int .i64 k ∧ Below w.heap.size w wr) (fun i _ => n - (intOf i).toNat)
  case atStart => exact ⟨0, Nat.zero_le _, rfl, Below.refl _ _⟩
  case round =>
    obtain ⟨k, hk, rfl, hbl⟩ := hrel
    by_cases hlt : k < n
    · have hkl : k < l.length := by rw [HN.out]; exact hlt
      have c1 := H1.out.grown hbl k hkl
      have c2 := H2.out.grown hbl k hkl
      generalize l.getD k 0 = y at *
      have hkI : (k : Int) < (n : Int) := by omega
      have hk0 : (0 : Int) ≤ (k : Int) := by omega
      have hyy : (y == y) = true := by simp
      go_wp2
      go_quiet (fail)
      go_wp2
      go_roundw
      case rel => exact ⟨k + 1, by omega, by go_num, below_drewN hbl _⟩
      case measure => simp [intOf]; omega
    · have hkI : ¬ (k : Int) < (n : Int) := by omega
      go_wp2
      go_ret
      exact ⟨rfl, hbl⟩
end Go.Proofs.YtffgpepngcnjeabGreatQ
