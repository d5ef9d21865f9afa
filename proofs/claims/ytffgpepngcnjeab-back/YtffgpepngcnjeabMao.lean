/-
  Funds: a payment of a scene: the first tag at which the id is new.
  Funds: what is chosen of a scene's deposits, and that it is fair.
  Funds: what a payment of a scene is.
-/
import Derived.Test.YtffgpepngcnjeabMan
import Derived.Test.YtffgpepngcnjeabMam
import Derived.Laws.MakeOwn
import Derived.Test.YtffgpepngcnjeabMaf
import Derived.Test.YtffgpepngcnjeabMaj
namespace Go.Proofs.Ytffgpepngcnjeab
open Go.RowKit
theorem kV_outL (ys : List (Int × Int)) : (outL ys).map (Value.int .i64) = ys.flatMap kV := by
  induction ys with
  | nil => rfl
  | cons y t ih => rw [List.flatMap_cons, ← ih]; rfl
theorem copy_outsN (a : Addr) (n c : Nat) (ys : List (Int × Int)) (w : World) (hr : OutsAt w (some a) ys) (hn : ys.length = n) (hm : n ≤ 1000) :
    ∃ w1, Sem.run Try.prog (Builtin.copy_ #[23, 23] 3 #[.slice (some ⟨w.heap.size, 0, none⟩) n n, .slice (some a) n c]) (w.alloc (.cells (Go.madeCells #[.int .i64 0, .int .i64 0] (n * 2)) 68)) = .ok (.int .i64 n) w1 ∧
      OwnRec kV 68 2 w1 w.heap.size (.slice (some ⟨w.heap.size, 0, none⟩) n n) ys ∧ Below w.heap.size w w1 := by
  have hheap := heap_made w (Go.madeCells #[Value.int .i64 0, .int .i64 0] (n * 2)) 68
  have hl : (outL ys).length = n * 2 := by rw [outL_len, hn]; omega
  have hcs := copy_src (W := w.alloc (.cells (Go.madeCells #[.int .i64 0, .int .i64 0] (n * 2)) 68)) (ints_of_outs hr) ((Below.refl _ _).alloc (Nat.le_refl _) _) w.heap.size
  have hsrc : ∀ (j : Nat) (v : Value), ((outL ys).map (Value.int .i64))[j]? = some v → (w.alloc (.cells (Go.madeCells #[.int .i64 0, .int .i64 0] (n * 2)) 68)).cell? (a.add j) = some v := by
    intro j v hj
    by_cases hp : 0 < ((outL ys).map (Value.int .i64)).length
    · obtain ⟨_, ad, e, h⟩ := hcs hp
      cases e
      exact h j v hj
    · have : (outL ys).map (Value.int .i64) = [] := List.length_eq_zero_iff.1 (by omega)
      rw [this] at hj
      simp at hj
  have hlm : ((outL ys).map (Value.int .i64)).length = n * 2 := by rw [List.length_map, hl]
  have hrun := run_copy_wide Try.prog (w.alloc (.cells (Go.madeCells #[.int .i64 0, .int .i64 0] (n * 2)) 68)) 23 23 3 68 w.heap.size 0 n n a n c (Go.madeCells #[Value.int .i64 0, .int .i64 0] (n * 2)) 68 ((outL ys).map (Value.int .i64)) 2 Try.underlying23 sizeInfo56 hheap (by rw [hlm, show n.min n = n from Nat.min_self n]) hsrc (by rw [hlm, size_madeCells]; omega) (ints_one _)
  have hh := setRow_heap (w.alloc (.cells (Go.madeCells #[.int .i64 0, .int .i64 0] (n * 2)) 68)) w.heap.size (Go.madeCells #[Value.int .i64 0, .int .i64 0] (n * 2)) (splice (Go.madeCells #[Value.int .i64 0, .int .i64 0] (n * 2)).toList 0 ((outL ys).map (Value.int .i64))).toArray 68 (0, 0) hheap
  refine ⟨(w.alloc (.cells (Go.madeCells #[.int .i64 0, .int .i64 0] (n * 2)) 68)).setRow w.heap.size (splice (Go.madeCells #[Value.int .i64 0, .int .i64 0] (n * 2)).toList 0 ((outL ys).map (Value.int .i64))).toArray, ?_, ?_, below_setRow ((Below.refl _ _).alloc (Nat.le_refl _) _) (Nat.le_refl _) _⟩
  · rw [hrun, show n.min n = n from Nat.min_self n]
    simp [splice, goInt]
  · have hsp : splice (Go.madeCells #[Value.int .i64 0, .int .i64 0] (n * 2)).toList 0 ((outL ys).map (Value.int .i64)) = ys.flatMap kV := by
      unfold splice
      rw [List.take_zero, List.nil_append, List.drop_of_length_le (by rw [Array.length_toList, size_madeCells, hlm]; omega), List.append_nil, kV_outL]
    rw [hsp] at hh
    have hfl : (ys.flatMap kV).length = n * 2 := by rw [← kV_outL, hlm]
    refine ⟨by rw [hfl, hn], Or.inr ⟨w.heap.size, n, (ys.flatMap kV).toArray, by rw [hn], Nat.le_refl _, ?_, by omega, by unfold maxLen; omega, by rw [List.size_toArray]; exact hfl, ?_⟩⟩
    · rw [hsp]; exact hh
    · rw [List.take_of_length_le (by simp [hfl, hn])]
theorem make_outsN (n : Nat) (hn : n ≤ 8796093022208) : ∀ u : World, (Instr.makeSlice 23 (.int .i64 (n : Int)) (.int .i64 (n : Int))).run Try.prog u =
    .ok (.slice (some ⟨u.heap.size, 0, none⟩) n n) (u.alloc (.cells (Go.madeCells #[.int .i64 0, .int .i64 0] (n * 2)) 68)) := fun u => by
  obtain ⟨i0, hi, hz0, hz1, hz2⟩ := info_parts info68
  have h := run_make (P := Try.prog) u 23 68 i0 (.agg #[.int .i64 0, .int .i64 0]) Try.underlying23 hi hz0 .i64 .i64 (n : Int) (n : Int) (by omega) (Int.le_refl _) (by rw [hz2]; omega) (by omega)
  have e : (n : Int).toNat = n := by omega
  rw [e] at h
  simpa [hz1, Value.cells] using h
theorem fr6K (w : World) (B : Nat) (b0 b1 b2 b3 b4 b5 : Value) : Fr (fun k => k = B) w ((((((w.setCell ⟨B, 0, none⟩ b0).setCell ⟨B, 1, none⟩ b1).setCell ⟨B, 2, none⟩ b2).setCell ⟨B, 3, none⟩ b3).setCell ⟨B, 4, none⟩ b4).setCell ⟨B, 5, none⟩ b5) :=
  ((((((Fr.refl (fun k => k = B) w).set B 0 _ (fun _ => rfl)).set B 1 _ (fun _ => rfl)).set B 2 _ (fun _ => rfl)).set B 3 _ (fun _ => rfl)).set B 4 _ (fun _ => rfl)).set B 5 _ (fun _ => rfl)
theorem keepS6 {w : World} {S R : Nat} {x y : Value} (v0 v1 v2 v3 v4 v5 : Value) (h1 : S ≠ R) (h : w.cell? ⟨S, 0, none⟩ = some x ∧ w.cell? ⟨S, 3, none⟩ = some y) : ((((((w.setCell ⟨R, 0, none⟩ v0).setCell ⟨R, 1, none⟩ v1).setCell ⟨R, 2, none⟩ v2).setCell ⟨R, 3, none⟩ v3).setCell ⟨R, 4, none⟩ v4).setCell ⟨R, 5, none⟩ v5).cell? ⟨S, 0, none⟩ = some x ∧ ((((((w.setCell ⟨R, 0, none⟩ v0).setCell ⟨R, 1, none⟩ v1).setCell ⟨R, 2, none⟩ v2).setCell ⟨R, 3, none⟩ v3).setCell ⟨R, 4, none⟩ v4).setCell ⟨R, 5, none⟩ v5).cell? ⟨S, 3, none⟩ = some y :=
  ⟨(fr6K w R v0 v1 v2 v3 v4 v5).cell h.1 h1, (fr6K w R v0 v1 v2 v3 v4 v5).cell h.2 h1⟩
/-- what Pay has left, seen from an elder world; a block of the caller's is written -/
theorem PayOkR.lift {N : Nat → Prop} {P : Nat} {s : Int} {g : Nat} {v : Value} {h : Int} {xs : List Cel} {vl vs : Value} {md nx : Int} {ps : List PayD} {ks : List (Int × Int)} {ys : List (Int × Int)} {r tag : Int} {a0 a1 a2 a3 a4 a5 : Value} {er : Int} {w w0 w1 w2 : World} {R : Nat} (hr : PayOkR N P s g v h xs vl vs md nx ps ks ys r tag a0 a1 a2 a3 a4 a5 er w0 w1) (u : PP N w P s g v h xs vl vs md nx ps ks) (hb : Below w.heap.size w w0) (hR : w.heap.size ≤ R) (hR2 : R < w0.heap.size) (hf : Fr (fun k => k = R) w1 w2) :
    PayOkR N P s g v h xs vl vs md nx ps ks ys r tag a0 a1 a2 a3 a4 a5 er w w2 := by
  have hsz := hb.size
  rcases hr with ⟨x, h1, h2, h3, h4, h5, h6, h7, h8, h9⟩ | ⟨cs, zs, ch, h1, h2, h3, h4, h5, h6⟩
  · refine Or.inl ⟨x, h1, h2, h3, h4, h5, h6, h7, h8, ?_⟩
    have h10 : Below w.heap.size w w1 := hb.trans (h9.mono hsz)
    exact h10.trans (hf.toBelow _ h10.size (fun q hq => by rw [hq]; exact hR))
  · refine Or.inr ⟨cs, zs, ch, h1, h2, h3, h4, h5, ?_⟩
    obtain ⟨vl', gc, cc, go, co, hpp, hpd, hfr, hsep⟩ := h6
    have hold : ∀ k, (chE P v k ∨ lsE P vl vs k ∨ N k) → k < w.heap.size := fun k hk => by
      rcases hk with hk | hk | hk
      · exact (u.pu.blk k hk).2
      · exact u.ls.blk k hk
      · exact (u.ls.nN k hk).1
    have hnew : ∀ k, (vl'.ownBlock = some k ∨ k = gc ∨ k = go) → k ≠ R := fun k hk e => by
      rcases hsep k hk with h | h
      · have := hold k (Or.inr (Or.inl (Or.inr (Or.inl h)))); omega
      · omega
    refine ⟨vl', gc, cc, go, co, hpp.fr hf (fun k hk e => ?_) (fun k hk e => ?_) (fun k hk e => ?_), PdOk.lower ⟨hf.own hpd.oi (fun k hk e => ?_), hf.own hpd.oo (fun k hk e => ?_), hf.own hpd.ok (fun k hk e => ?_), hpd.n1, hpd.n2⟩ hsz, ?_, fun k hk => ?_⟩
    · have := hold k (Or.inl hk); omega
    · rcases hk with hk | hk | hk
      · have := hold k (Or.inr (Or.inl (Or.inl hk))); omega
      · exact hnew k (Or.inl hk) e
      · have := hold k (Or.inr (Or.inl (Or.inr (Or.inr hk)))); omega
    · rcases hk with hk | hk
      · have := hold k (Or.inr (Or.inr hk)); omega
      · exact hnew k (Or.inr hk) e
    · have := (hpd.oi.blk k hk).1; omega
    · have := (hpd.oo.blk k hk).1; omega
    · have := (hpd.ok.blk k hk).1; omega
    · exact Fr.trans_new2 ((Fr.of_below hb _).trans hfr) hf (fun q hq => by rw [hq]; exact hR)
    · rcases hsep k hk with h | h
      · exact Or.inl h
      · exact Or.inr ⟨by omega, h.2⟩
theorem payOkR_vals {N : Nat → Prop} {P : Nat} {s : Int} {g : Nat} {v : Value} {h : Int} {xs : List Cel} {vl vs : Value} {md nx : Int} {ps : List PayD} {ks : List (Int × Int)} {ys : List (Int × Int)} {r tag : Int} {a0 a1 a2 a3 a4 a5 : Value} {er : Int} {w w' : World} (hr : PayOkR N P s g v h xs vl vs md nx ps ks ys r tag a0 a1 a2 a3 a4 a5 er w w') :
    ∃ n0 t ai ni ci ap np cp ak nk ck ch, a0 = .int .i64 n0 ∧ a1 = .int .i64 t ∧ a2 = .slice ai ni ci ∧ a3 = .slice ap np cp ∧ a4 = .slice ak nk ck ∧ a5 = .int .i64 ch := by
  rcases hr with ⟨x, h1, h2, rfl, rfl, rfl, rfl, rfl, rfl, h9⟩ | ⟨cs, zs, ch, h1, h2, rfl, rfl, rfl, h6⟩
  · exact ⟨_, _, _, _, _, _, _, _, _, _, _, _, rfl, rfl, rfl, rfl, rfl, rfl⟩
  · obtain ⟨vl', gc, cc, go, co, hpp, hpd, hfr, hsep⟩ := h6
    obtain ⟨ai, ci, e1, _⟩ := OwnRec.at inC3 hpd.oi
    obtain ⟨ap, cp, e2, _⟩ := OwnRec.at kv2 hpd.oo
    obtain ⟨ak, ck, e3, _⟩ := OwnRec.at kC2 hpd.ok
    exact ⟨_, _, _, _, _, _, _, _, _, _, _, _, rfl, rfl, e1, e2, e3, rfl⟩
theorem payOkR_fr {N : Nat → Prop} {P : Nat} {s : Int} {g : Nat} {v : Value} {h : Int} {xs : List Cel} {vl vs : Value} {md nx : Int} {ps : List PayD} {ks : List (Int × Int)} {ys : List (Int × Int)} {r tag : Int} {a0 a1 a2 a3 a4 a5 : Value} {er : Int} {w w' : World} (hr : PayOkR N P s g v h xs vl vs md nx ps ks ys r tag a0 a1 a2 a3 a4 a5 er w w') : Fr (fun q => q = P ∨ vl.ownBlock = some q) w w' := by
  rcases hr with ⟨x, _, _, _, _, _, _, _, _, h9⟩ | ⟨cs, zs, ch, _, _, _, _, _, h6⟩
  · exact Fr.of_below h9 _
  · obtain ⟨_, _, _, _, _, _, _, hfr, _⟩ := h6
    exact hfr
set_option maxRecDepth 100000 in
set_option maxHeartbeats 4000000 in
theorem scPay_any (N : Nat → Prop) (S P : Nat) (s : Int) (g : Nat) (v : Value) (h : Int) (xs : List Cel) (vl vs : Value) (md nx : Int) (ps : List PayD) (ks : List (Int × Int)) (ao : Option Addr) (ni cio : Nat) (a : Addr) (m d : Nat) (ys : List (Int × Int)) (r : Int) (w : World) (hs : Mk.isM s = true) (hg : 1 ≤ g) (hg2 : g ≤ 20)
    (u : PP N w P s g v h xs vl vs md nx ps ks) (hxl : xs.length ≤ 5000) (hV : Vals xs) (hy : OutsAt w (some a) ys) (hyn : ys.length = m) (hym : m ≤ 100) (hmd : 0 ≤ md ∧ md ≤ 4611686018427387904) (hpl : ps.length ≤ 1000000000000) (hkl : ks.length ≤ 1000000000000) (hni : ni ≤ 1000) (s0 : w.cell? ⟨S, 0, none⟩ = some (.pointer (some ⟨P, 0, none⟩))) (s3 : w.cell? ⟨S, 3, none⟩ = some (.slice ao ni cio)) (hSP : ¬ (S = P ∨ vl.ownBlock = some S)) :
    Calls Try.prog 9 #[.pointer (some ⟨S, 0, none⟩), .slice (some a) m d, .int .i64 r] w fun e w' => ∃ tag : Nat, tag ≤ ni ∧ (∀ j : Nat, j < tag → payZ xs s g ps ks nx ys r (j : Int) = .inl 4) ∧ ∃ a0 a1 a2 a3 a4 a5 er, e = .returned (.tuple #[.agg #[a0, a1, a2, a3, a4, a5], .int .i64 er]) ∧ PayOkR N P s g v h xs vl vs md nx ps ks ys r (tag : Int) a0 a1 a2 a3 a4 a5 er w w' ∧ (tag < ni → payZ xs s g ps ks nx ys r (tag : Int) ≠ .inl 4) := by
  have HU : Hid (PP N w P s g v h xs vl vs md nx ps ks) := u
  have HV : Hid (Vals xs) := hV
  have HY : Hid (OutsAt w (some a) ys) := hy
  have HYN : Hid (ys.length = m) := hyn
  have hbA : Below w.heap.size w (w.alloc (.cells #[.int .i64 0, .int .i64 0, .slice none 0 0, .slice none 0 0, .slice none 0 0, .int .i64 0] 34)) := (Below.refl _ _).alloc (Nat.le_refl _) _
  have HR0 : Hid (VB (w.alloc (.cells #[.int .i64 0, .int .i64 0, .slice none 0 0, .slice none 0 0, .slice none 0 0, .int .i64 0] 34)) w.heap.size (.int .i64 0) (.int .i64 0) (.slice none 0 0) (.slice none 0 0) (.slice none 0 0) (.int .i64 0)) := VB.new w _ _ _ _ _ _ 34
  have HSc : Hid (w.cell? ⟨S, 0, none⟩ = some (.pointer (some ⟨P, 0, none⟩)) ∧ w.cell? ⟨S, 3, none⟩ = some (.slice ao ni cio)) := ⟨s0, s3⟩
  clear u hV hy hyn s0 s3
  go_enter Try.func9, Try.ntmps9
  go_upto_region 1 with fail
  generalize w.alloc (.cells #[.int .i64 0, .int .i64 0, .slice none 0 0, .slice none 0 0, .slice none 0 0, .int .i64 0] 34) = w0 at *
  have HB0 : Hid (Below w.heap.size w w0) := hbA
  have HS0 : Hid (w0.cell? ⟨S, 0, none⟩ = some (.pointer (some ⟨P, 0, none⟩)) ∧ w0.cell? ⟨S, 3, none⟩ = some (.slice ao ni cio)) := ⟨(hbA.cell (p := ⟨S, 0, none⟩) (cell_lt HSc.out.1)).trans HSc.out.1, (hbA.cell (p := ⟨S, 3, none⟩) (cell_lt HSc.out.2)).trans HSc.out.2⟩
  have hRl : w.heap.size < w0.heap.size := cell_lt HR0.out.c0
  have HSL : Hid (S < w.heap.size) := cell_lt HSc.out.1
  clear hbA HSc
  generalize hR : w.heap.size = R at *
  have HRe : Hid (w.heap.size = R) := hR
  clear hR
  go_wp2
  go_loopw [8] (fun i wr => ∃ k : Nat, k ≤ ni ∧ i = .int .i64 k ∧ Hid (∀ j : Nat, j < k → payZ xs s g ps ks nx ys r (j : Int) = .inl 4) ∧ Below w0.heap.size w0 wr) (fun i _ => ni - (intOf i).toNat)
  case atStart => exact ⟨0, Nat.zero_le _, rfl, fun j hj => by omega, Below.refl _ _⟩
  case round =>
    obtain ⟨k, hk, rfl, hold, hbl⟩ := hrel
    have hsz := hbl.size
    have s0 := (hbl.cell (p := ⟨S, 0, none⟩) (cell_lt HS0.out.1)).trans HS0.out.1
    have s3 := (hbl.cell (p := ⟨S, 3, none⟩) (cell_lt HS0.out.2)).trans HS0.out.2
    have HBr : Hid (Below w.heap.size w wr) := by rw [HRe.out]; exact HB0.out.trans (hbl.mono (by omega))
    have HRr : Hid (VB wr R (.int .i64 0) (.int .i64 0) (.slice none 0 0) (.slice none 0 0) (.slice none 0 0) (.int .i64 0)) := HR0.out.fr (Fr.of_below hbl (fun _ => False)) (fun h => h)
    by_cases hlt : k < ni
    · have hkI : (k : Int) < (ni : Int) := by omega
      have hmk := make_outsN m (by omega)
      obtain ⟨w1, hrun, hown, hb1⟩ := copy_outsN a m d ys wr (HY.out.grown HBr.out) HYN.out (by omega)
      have HO : Hid (OwnRec kV 68 2 w1 wr.heap.size (.slice (some ⟨wr.heap.size, 0, none⟩) m m) ys) := hown
      clear hown
      go_upto_region 6 with fail
      clear hrun hmk
      have hb01 := below_blk hbl hb1
      have HB1 : Hid (Below w.heap.size w w1) := below_blk HBr.out hb1
      have t0 := (hb1.cell (p := ⟨S, 0, none⟩) (cell_lt s0)).trans s0
      have HR1 : Hid (VB w1 R (.int .i64 0) (.int .i64 0) (.slice none 0 0) (.slice none 0 0) (.slice none 0 0) (.int .i64 0)) := HRr.out.fr (Fr.of_below hb1 (fun _ => False)) (fun h => h)
      have HU1 : Hid (PP N w1 P s g v h xs vl vs md nx ps ks) := HU.out.grown HB1.out
      have HY1 : Hid (OutsAt w1 (some ⟨wr.heap.size, 0, none⟩) ys) := rec_outs (own_atS kv2 HO.out)
      have hR1 : R < w1.heap.size := cell_lt HR1.out.c0
      clear s0 s3 hb1 HO HBr HRr
      generalize wr.heap.size = X at *
      go_wp2_with fail
      refine (pay_any N P s g v h xs vl vs md nx ps ks (some ⟨X, 0, none⟩) m m ys r (k : Int) _ hs hg hg2 HU1.out hxl HV.out HY1.out HYN.out hmd hpl hkl).mono ?_
      rintro e w2 ⟨a0, a1, a2, a3, a4, a5, er, rfl, hpay⟩
      obtain ⟨n0, t, ai, n2, ci, ap, n3, cp, ak, n4, ck, ch, rfl, rfl, rfl, rfl, rfl, rfl⟩ := payOkR_vals hpay
      have HPAY : Hid (PayOkR N P s g v h xs vl vs md nx ps ks ys r (k : Int) (.int .i64 n0) (.int .i64 t) (.slice ai n2 ci) (.slice ap n3 cp) (.slice ak n4 ck) (.int .i64 ch) er w1 w2) := hpay
      have HZ4 : Hid ((payZ xs s g ps ks nx ys r (k : Int) = .inl 4 ∧ er = 4 ∧ Below w1.heap.size w1 w2) ∨ (payZ xs s g ps ks nx ys r (k : Int) ≠ .inl 4 ∧ er ≠ 4)) := by
        show _ ∨ _
        rcases hpay with ⟨x, h1, h2, _, _, _, _, _, _, h9⟩ | ⟨cs, zs, ch, h1, h2, _⟩
        · by_cases e4 : x = 4
          · exact Or.inl ⟨by rw [h1, e4], by rw [h2, e4], h9⟩
          · exact Or.inr ⟨fun e => by rw [h1] at e; injection e with e; exact e4 e, by rw [h2]; exact e4⟩
        · exact Or.inr ⟨fun e => (by rw [h1] at e; cases e), by rw [h2]; decide⟩
      have HRF : Hid (Fr (fun q => q = P ∨ vl.ownBlock = some q) w1 w2) := by
        show Fr _ _ _
        rcases hpay with ⟨x, _, _, _, _, _, _, _, _, h9⟩ | ⟨cs, zs, ch, _, _, _, _, _, h6⟩
        · exact Fr.of_below h9 _
        · obtain ⟨_, _, _, _, _, _, _, hfr, _⟩ := h6
          exact hfr
      have hRP : ¬ (R = P ∨ vl.ownBlock = some R) := fun e => by
        rcases e with e | e
        · have : P < w.heap.size := cell_lt HU.out.pu.c0
          have := HRe.out; omega
        · have := (HU.out.ls.ol.blk R e).2
          have := HRe.out; omega
      have HR2 : Hid (VB w2 R (.int .i64 0) (.int .i64 0) (.slice none 0 0) (.slice none 0 0) (.slice none 0 0) (.int .i64 0)) := HR1.out.fr HRF.out hRP
      clear hpay t0 HY1
      have HLI : Hid (∀ w3, Fr (fun q => q = R) w2 w3 → PayOkR N P s g v h xs vl vs md nx ps ks ys r (k : Int) (.int .i64 n0) (.int .i64 t) (.slice ai n2 ci) (.slice ap n3 cp) (.slice ak n4 ck) (.int .i64 ch) er w w3) := fun w3 hf => HPAY.out.lift HU.out HB1.out (by rw [HRe.out]; exact Nat.le_refl _) hR1 hf
      by_cases h4 : er = 4
      · have HZ : Hid (payZ xs s g ps ks nx ys r (k : Int) = .inl 4 ∧ Below w1.heap.size w1 w2) := by
          rcases HZ4.out with ⟨e1, _, e3⟩ | ⟨_, e2⟩
          · exact ⟨e1, e3⟩
          · exact absurd h4 e2
        subst h4
        have hb02 : Below w0.heap.size w0 (w2.alloc (.cells #[.int .i64 n0, .int .i64 t, .slice ai n2 ci, .slice ap n3 cp, .slice ak n4 ck, .int .i64 ch] 34)) := (below_blk hb01 HZ.out.2).alloc (by have := (below_blk hb01 HZ.out.2).size; exact this) _
        go_wp2
        go_roundw
        case rel => exact ⟨k + 1, by omega, by go_num, fun j hj => by
          by_cases e : j = k
          · rw [e]; exact HZ.out.1
          · exact hold.out j (by omega), hb02⟩
        case measure => simp [intOf]; omega
      · have HZ : Hid (payZ xs s g ps ks nx ys r (k : Int) ≠ .inl 4) := by
          rcases HZ4.out with ⟨_, e2, _⟩ | ⟨e1, _⟩
          · exact absurd e2 h4
          · exact e1
        have hd4 : (er == 4) = false := by simpa using h4
        have bA : Below w2.heap.size w2 (w2.alloc (.cells #[.int .i64 n0, .int .i64 t, .slice ai n2 ci, .slice ap n3 cp, .slice ak n4 ck, .int .i64 ch] 34)) := (Below.refl _ _).alloc (Nat.le_refl _) _
        have HX3 : Hid (VB (w2.alloc (.cells #[.int .i64 n0, .int .i64 t, .slice ai n2 ci, .slice ap n3 cp, .slice ak n4 ck, .int .i64 ch] 34)) w2.heap.size (.int .i64 n0) (.int .i64 t) (.slice ai n2 ci) (.slice ap n3 cp) (.slice ak n4 ck) (.int .i64 ch)) := VB.new w2 _ _ _ _ _ _ 34
        have HR3 : Hid (VB (w2.alloc (.cells #[.int .i64 n0, .int .i64 t, .slice ai n2 ci, .slice ap n3 cp, .slice ak n4 ck, .int .i64 ch] 34)) R (.int .i64 0) (.int .i64 0) (.slice none 0 0) (.slice none 0 0) (.slice none 0 0) (.int .i64 0)) := HR2.out.fr (Fr.of_below bA (fun _ => False)) (fun h => h)
        have HF3 : Hid (Fr (fun q => q = R) w2 (w2.alloc (.cells #[.int .i64 n0, .int .i64 t, .slice ai n2 ci, .slice ap n3 cp, .slice ak n4 ck, .int .i64 ch] 34))) := Fr.of_below bA _
        go_upto_region 7 with fail
        generalize (w2.alloc (.cells #[.int .i64 n0, .int .i64 t, .slice ai n2 ci, .slice ap n3 cp, .slice ak n4 ck, .int .i64 ch] 34)) = w3 at *
        obtain ⟨x0, x1, x2, x3, x4, x5, _⟩ := HX3.out
        obtain ⟨q0, q1, q2, q3, q4, q5, qz⟩ := HR3.out
        have f0 := qz 0
        have f1 := qz 1
        have f2 := qz 2
        have f3 := qz 3
        have f4 := qz 4
        have f5 := qz 5
        have HVF : Hid _ := (((((HR3.out.s0 (.int .i64 n0)).s1 (.int .i64 t)).s2 (.slice ai n2 ci)).s3 (.slice ap n3 cp)).s4 (.slice ak n4 ck)).s5 (.int .i64 ch)
        have HLF : Hid _ := HLI.out _ (HF3.out.trans (fr6K w3 R (.int .i64 n0) (.int .i64 t) (.slice ai n2 ci) (.slice ap n3 cp) (.slice ak n4 ck) (.int .i64 ch)))
        clear qz bA
        repeat (first | go_values | go_skip | go_guarded | go_step | go_upon)
        obtain ⟨z0, z1, z2, z3, z4, z5, _⟩ := HVF.out
        refine bodyPost_ret (v := .tuple #[.agg #[.int .i64 n0, .int .i64 t, .slice ai n2 ci, .slice ap n3 cp, .slice ak n4 ck, .int .i64 ch], .int .i64 er]) ?_ rfl ⟨k, hk, hold.out, _, _, _, _, _, _, _, rfl, HLF.out, fun _ => HZ.out⟩
        simp [results, Try.results9, go_sem, z0, z1, z2, z3, z4, z5]
    · have hkn : k = ni := by omega
      subst hkn
      have hkI : ¬ (k : Int) < (k : Int) := by omega
      have hSR : S ≠ R := by have := HSL.out; omega
      have bD : Below wr.heap.size wr wr.drew := (Below.refl _ _).drew
      have HUd : Hid (PP N wr.drew P s g v h xs vl vs md nx ps ks) := HU.out.grown (below_blk HBr.out bD)
      have HYd : Hid (OutsAt wr.drew (some a) ys) := HY.out.grown (below_blk HBr.out bD)
      have HRd : Hid (VB wr.drew R (.int .i64 0) (.int .i64 0) (.slice none 0 0) (.slice none 0 0) (.slice none 0 0) (.int .i64 0)) := HRr.out.fr (Fr.of_below bD (fun _ => False)) (fun h => h)
      have HBd : Hid (Below w.heap.size w wr.drew) := below_blk HBr.out bD
      have hRd : R < wr.drew.heap.size := cell_lt HRd.out.c0
      have hRP : ¬ (R = P ∨ vl.ownBlock = some R) := fun e => by
        rcases e with e | e
        · have : P < w.heap.size := cell_lt HU.out.pu.c0
          have := HRe.out; omega
        · have := (HU.out.ls.ol.blk R e).2
          have := HRe.out; omega
      have HSd : Hid (wr.drew.cell? ⟨S, 0, none⟩ = some (.pointer (some ⟨P, 0, none⟩)) ∧ wr.drew.cell? ⟨S, 3, none⟩ = some (.slice ao k cio)) := ⟨s0, s3⟩
      clear bD
      go_upto_region 9 with fail
      go_region_held3 (fun w' => w'.cell? ⟨S, 0, none⟩ = some (.pointer (some ⟨P, 0, none⟩)) ∧ w'.cell? ⟨S, 3, none⟩ = some (.slice ao k cio)) (first | go_keep | with_reducible exact HSd.out | with_reducible exact hS2w | with_reducible exact keepS6 _ _ _ _ _ _ hSR hS2w) ((go_at_call 24; (with_reducible refine (pay_any N P s g v h xs vl vs md nx ps ks (some a) m d ys r (k : Int) wr.drew hs hg hg2 HUd.out hxl HV.out HYd.out HYN.out hmd hpl hkl).mono ?_); rintro e w2 ⟨a0, a1, a2, a3, a4, a5, er, rfl, hpay⟩; obtain ⟨n0, t, ai, n2, ci, ap, n3, cp, ak, n4, ck, ch, rfl, rfl, rfl, rfl, rfl, rfl⟩ := payOkR_vals hpay; have HPAY : Hid (PayOkR N P s g v h xs vl vs md nx ps ks ys r (k : Int) (.int .i64 n0) (.int .i64 t) (.slice ai n2 ci) (.slice ap n3 cp) (.slice ak n4 ck) (.int .i64 ch) er wr.drew w2) := hpay; have HRF : Hid (Fr (fun q => q = P ∨ vl.ownBlock = some q) wr.drew w2) := payOkR_fr hpay; clear hpay; have hS2w : w2.cell? ⟨S, 0, none⟩ = some (.pointer (some ⟨P, 0, none⟩)) ∧ w2.cell? ⟨S, 3, none⟩ = some (.slice ao k cio) := ⟨HRF.out.cell HSd.out.1 hSP, HRF.out.cell HSd.out.2 hSP⟩; obtain ⟨q0, q1, q2, q3, q4, q5, qz⟩ := HRd.out.fr HRF.out hRP; have f0 := qz 0; have f1 := qz 1; have f2 := qz 2; have f3 := qz 3; have f4 := qz 4; have f5 := qz 5; clear qz))
      have HR3 : Hid (VB w2 R (.int .i64 0) (.int .i64 0) (.slice none 0 0) (.slice none 0 0) (.slice none 0 0) (.int .i64 0)) := HRd.out.fr HRF.out hRP
      have HVF : Hid _ := (((((HR3.out.s0 (.int .i64 n0)).s1 (.int .i64 t)).s2 (.slice ai n2 ci)).s3 (.slice ap n3 cp)).s4 (.slice ak n4 ck)).s5 (.int .i64 ch)
      have HLF : Hid _ := HPAY.out.lift HU.out HBd.out (by rw [HRe.out]; exact Nat.le_refl _) hRd (fr6K w2 R (.int .i64 n0) (.int .i64 t) (.slice ai n2 ci) (.slice ap n3 cp) (.slice ak n4 ck) (.int .i64 ch))
      repeat (first | go_values | go_skip | go_guarded | go_step | go_upon)
      obtain ⟨z0, z1, z2, z3, z4, z5, _⟩ := HVF.out
      refine bodyPost_ret (v := .tuple #[.agg #[.int .i64 n0, .int .i64 t, .slice ai n2 ci, .slice ap n3 cp, .slice ak n4 ck, .int .i64 ch], .int .i64 er]) ?_ rfl ⟨k, Nat.le_refl _, hold.out, _, _, _, _, _, _, _, rfl, HLF.out, fun h => by omega⟩
      simp [results, Try.results9, go_sem, z0, z1, z2, z3, z4, z5]
end Go.Proofs.Ytffgpepngcnjeab

namespace Go.Proofs.Ytffgpepngcnjeab
open Go.RowKit
theorem max_ex : ∀ (l : List Int), l ≠ [] → ∃ m ∈ l, ∀ x ∈ l, x ≤ m := by
  intro l
  induction l with
  | nil => intro h; exact absurd rfl h
  | cons a t ih =>
    intro _
    by_cases e : t = []
    · subst e
      exact ⟨a, by simp, fun x hx => by simp at hx; omega⟩
    · obtain ⟨m, h1, h2⟩ := ih e
      by_cases h : m ≤ a
      · refine ⟨a, List.mem_cons_self, fun x hx => ?_⟩
        rcases List.mem_cons.1 hx with e | e
        · omega
        · have := h2 x e; omega
      · refine ⟨m, List.mem_cons_of_mem _ h1, fun x hx => ?_⟩
        rcases List.mem_cons.1 hx with e | e
        · omega
        · exact h2 x e
theorem gr_ex : ∀ (n : Nat) (l : List Int), ∃ s, Gr n l s := by
  intro n
  induction n with
  | zero => intro l; exact ⟨0, Gr.zero l⟩
  | succ n ih =>
    intro l
    by_cases e : l = []
    · subst e; exact ⟨0, Gr.nil _⟩
    · obtain ⟨m, h1, h2⟩ := max_ex l e
      obtain ⟨s, hs⟩ := ih (l.erase m)
      exact ⟨mx0 m + s, Gr.step n l m s h1 h2 hs⟩
/-- the greatest ten are the same of the deposits and of the own coins -/
theorem wsum_perm (r : Int) {l l' : List CoinD} (h : (l.map (worthZ r)).Perm (l'.map (worthZ r))) : wsum r ((orderZ r l).take 10) = wsum r ((orderZ r l').take 10) := by
  obtain ⟨s, hs⟩ := gr_ex 10 (l.map (worthZ r))
  have h1 := gr_order r 10 l s hs
  have h2 := gr_order r 10 l' s (gr_perm _ _ _ _ hs h)
  unfold wsum
  rw [← h1, ← h2]
theorem Dp.watched {s : Int} {g : Nat} {xs : List Cel} (h : Dp s g xs) (hg2 : g ≤ 20) : ∀ x ∈ xs, ∃ k ∈ keysZ xs s g, k.ad = x.to := fun x hx => by
  obtain ⟨br, i, hb, hi, e⟩ := h.tw x hx
  have hw := (win_spec xs s g br hg2).1
  obtain ⟨k, hk, ha⟩ := key_mem (xs := xs) (s := s) (g := g) hb (i := i) (by omega)
  exact ⟨k, hk, by rw [ha, e]⟩
theorem Dp.perm {s : Int} {g : Nat} {xs : List Cel} (h : Dp s g xs) (hg2 : g ≤ 20) : ((ownOf xs s g).map CoinD.k0).Perm (xs.map Cel.kept) := own_perm (keysZ xs s g) h.sp (h.watched hg2)
theorem Dp.worths {s : Int} {g : Nat} {xs : List Cel} (h : Dp s g xs) (hg2 : g ≤ 20) (r : Int) : ((ownOf xs s g).map (worthZ r)).Perm ((xs.map Cel.kept).map (worthZ r)) := by
  have := (h.perm hg2).map (worthZ r)
  rwa [k0_worth] at this
theorem Dp.sum {s : Int} {g : Nat} {xs : List Cel} (h : Dp s g xs) (hg2 : g ≤ 20) : sumC (ownOf xs s g) = sumC (xs.map Cel.kept) := (own_all h.sp (h.watched hg2)).2
theorem own_src (ks : List KeyD) : ∀ (l : List CoinC) (acc : List CoinD) (y : CoinD), y ∈ l.foldl (ownStep ks) acc → y ∈ acc ∨ ∃ x ∈ l, ∃ k ∈ ks, k.ad = x.ad ∧ y = coinK x k := by
  intro l
  induction l with
  | nil => intro acc y h; exact Or.inl h
  | cons x r ih =>
    intro acc y h
    rw [List.foldl_cons] at h
    rcases ih _ y h with h1 | ⟨z, hz, k, hk, e1, e2⟩
    · unfold ownStep at h1
      rcases idxOf_cases (fun k : KeyD => k.ad == x.ad) dK ks 0 with e | ⟨j, hj, e, hk⟩
      · rw [if_pos (by show idxOf _ ks 0 < 0; rw [e]; omega)] at h1
        exact Or.inl h1
      · have e3 : firstZ ks x.ad = (j : Int) := by show idxOf _ ks 0 = _; rw [e]; simp
        rw [e3, if_neg (by omega), Int.toNat_natCast] at h1
        rcases insZ_mem h1 with e4 | e4
        · exact Or.inr ⟨x, List.mem_cons_self, ks.getD j dK, getD_mem ks dK j hj, by simpa using hk, e4⟩
        · exact Or.inl e4
    · exact Or.inr ⟨z, List.mem_cons_of_mem _ hz, k, hk, e1, e2⟩
theorem keysZ_key {xs : List Cel} {s : Int} {g : Nat} (hs : Mk.isM s = true) {k : KeyD} (hk : k ∈ keysZ xs s g) : Mk.isK s k.br k.ix = true ∧ Mk.adr s k.br k.ix = k.ad := by
  unfold keysZ keysB at hk
  have h0 := winZ_le xs s g 0
  have h1 := winZ_le xs s g 1
  rcases List.mem_append.1 hk with e | e
  · obtain ⟨i, hi, rfl⟩ := List.mem_map.1 e
    have := List.mem_range.1 hi
    exact ⟨key_ok hs (Or.inl rfl) (by simp only; omega) (by simp only; omega), rfl⟩
  · obtain ⟨i, hi, rfl⟩ := List.mem_map.1 e
    have := List.mem_range.1 hi
    exact ⟨key_ok hs (Or.inr rfl) (by simp only; omega) (by simp only; omega), rfl⟩
theorem valZ_mem : ∀ (l : List CoinD) (c : CoinD), (l.map CoinD.id).Nodup → c ∈ l → valZ l c.id 0 = c.val := by
  intro l
  induction l with
  | nil => intro c _ h; cases h
  | cons x t ih =>
    intro c hn hc
    rw [List.map_cons, List.nodup_cons] at hn
    rw [valZ]
    rcases List.mem_cons.1 hc with e | e
    · subst e; rw [if_pos (by simp)]
    · have hne : x.id ≠ c.id := fun h => hn.1 (by rw [h]; exact List.mem_map_of_mem e)
      rw [if_neg (by simp [hne])]
      exact ih c hn.2 e
/-- an own coin of a scene -/
theorem Dp.own {s : Int} {g : Nat} {xs : List Cel} (h : Dp s g xs) (hs : Mk.isM s = true) (hg2 : g ≤ 20) {y : CoinD} (hy : y ∈ ownOf xs s g) : DpsOk s (xs.map Cel.kept) y ∧ Mk.isM y.id = true ∧ y.pos = 0 := by
  have hm : y.k0 ∈ xs.map Cel.kept := (h.perm hg2).mem_iff.1 (List.mem_map_of_mem hy)
  obtain ⟨x, hx, e⟩ := List.mem_map.1 hm
  have e1 : x.id = y.id := congrArg CoinD.id e
  have e2 : x.pos = y.pos := congrArg CoinD.pos e
  have e4 : x.val = y.val := congrArg CoinD.val e
  have hpos : y.pos = 0 := by rw [← e2]; exact h.po x hx
  rcases own_src (keysZ xs s g) (coinsC xs) [] y hy with e0 | ⟨c, _, k, hk, h1, h2⟩
  · cases e0
  · have hkk := keysZ_key hs hk
    have b1 : y.br = k.br := by rw [h2]; rfl
    have b2 : y.ix = k.ix := by rw [h2]; rfl
    have b3 : y.tt = c.ad := by rw [h2]; rfl
    refine ⟨⟨by rw [b1, b2]; exact hkk.1, by rw [b1, b2, hkk.2, h1, b3], ?_, ?_, ?_⟩, by rw [← e1]; exact h.im x hx, hpos⟩
    · unfold hasZ
      rw [List.any_eq_true]
      exact ⟨y.k0, hm, by simp [CoinD.k0]⟩
    · have := valZ_mem (xs.map Cel.kept) y.k0 (by rw [List.map_map]; exact h.nd) hm
      rw [hpos]
      exact this
    · rw [← e4]; have := h.va x hx; omega
theorem Dp.ownNd {s : Int} {g : Nat} {xs : List Cel} (h : Dp s g xs) (hg2 : g ≤ 20) : ((ownOf xs s g).map CoinD.id).Nodup := by
  have h1 := (h.perm hg2).map CoinD.id
  rw [List.map_map, List.map_map] at h1
  exact h1.nodup_iff.2 h.nd
theorem Dp.ordNd {s : Int} {g : Nat} {xs : List Cel} (h : Dp s g xs) (hg2 : g ≤ 20) (r : Int) : ((orderZ r (ownOf xs s g)).map CoinD.id).Nodup := by
  have h1 := (order_perm r (ownOf xs s g)).map CoinD.id
  refine h1.nodup_iff.2 ?_
  exact List.Nodup.sublist (List.Sublist.map _ List.filter_sublist) (h.ownNd hg2)
theorem order_mem {r : Int} {l : List CoinD} {x : CoinD} (h : x ∈ orderZ r l) : x ∈ l ∧ 1 ≤ worthZ r x := by
  have := List.mem_filter.1 ((order_perm r l).mem_iff.1 h)
  exact ⟨this.1, of_decide_eq_true this.2⟩
end Go.Proofs.Ytffgpepngcnjeab

namespace Go.Proofs.Ytffgpepngcnjeab
open Go.RowKit
theorem wsum_snoc (r : Int) (cs : List CoinD) (k : Nat) (h : k < cs.length) : wsum r (cs.take (k + 1)) = wsum r (cs.take k) + worthZ r cs[k] := by
  unfold wsum
  rw [List.take_succ_eq_append_getElem h, List.map_append, List.sum_append]
  simp
theorem choose_change (r : Int) (cs : List CoinD) (want : Int) (hw : 0 < want) (l : List CoinD) (ch : Int) (h : chooseZ r cs want = some (l, ch)) (hc : 0 < ch) : ∃ x ∈ l, wsum r l - want < worthZ r x := by
  unfold chooseZ at h
  by_cases e : bestP r cs want (want + slackZ r) = 0
  · rw [e, if_neg (fun h => h rfl)] at h
    rcases en_spec r want cs 0 0 with ⟨e1, e2⟩ | ⟨k, e1, e2, e3, e4, e5, e6⟩
    · rw [if_pos (Or.inl e1)] at h; cases h
    · rw [Nat.zero_add] at e3
      by_cases hk : 10 < k
      · rw [if_pos (Or.inr (by omega))] at h; cases h
      · rw [if_neg (by omega), e3] at h
        injection h with h
        injection h with h1 h2
        obtain ⟨j, rfl⟩ : ∃ j, k = j + 1 := ⟨k - 1, by omega⟩
        have hj : j < cs.length := by omega
        have hs := wsum_snoc r cs j hj
        rw [← h1]
        refine ⟨cs[j], ?_, ?_⟩
        · rw [List.take_succ_eq_append_getElem hj]
          exact List.mem_append.2 (Or.inr (List.mem_singleton.2 rfl))
        · by_cases hj0 : j = 0
          · subst hj0
            rw [List.take_zero, wsum_nil] at hs
            omega
          · have := e6 j (by omega) (by omega)
            omega
  · rw [if_pos e] at h
    injection h with h
    injection h with h1 h2
    omega
theorem wsum_sum (r : Int) (l : List CoinD) : wsum r l = sumC l - 7 * (r * (l.length : Int)) := by
  induction l with
  | nil => simp [wsum, sumC]
  | cons x t ih =>
    rw [wsum_cons, ih]
    unfold worthZ sumC
    rw [List.map_cons, List.sum_cons, List.length_cons]
    push_cast
    rw [Int.mul_add]
    omega
theorem sumOu_snoc (ys : List (Int × Int)) (a v : Int) : sumOu (ys ++ [(a, v)]) = sumOu ys + v := by
  unfold sumOu
  rw [List.map_append, List.sum_append]
  simp
/-- what is paid, whatever the tag -/
structure Paid1 (s : Int) (g : Nat) (xs : List Cel) (nx : Int) (ys : List (Int × Int)) (r : Int) (L : List CoinD) (ex : List (Int × Int)) (ch : Int) : Prop where
  own : ∀ x ∈ L, x ∈ ownOf xs s g
  nd : (L.map CoinD.id).Nodup
  l0 : 0 < L.length
  l10 : L.length ≤ 10
  e1 : ex.length ≤ 1
  ev : ∀ y ∈ ex, rOut y = true
  fair : FairC s g xs (xs.map Cel.kept) r ex ch (sumC L - sumOu (ys ++ ex) - r * (3 + 7 * (L.length : Int) + 2 * ((ys ++ ex).length : Int)))
  pay : ∀ t : Int, 0 ≤ t → t ≤ 1099511627776 → payZ xs s g [] [] nx ys r t = payFin xs t L (ys ++ ex) ch
  nx : ex = [] ∨ nx ≤ ch
  ck : ∃ c, chooseZ r (orderZ r (ownOf xs s g)) (targetZ ys r) = some (L, c) ∧ (ex = [] ↔ ¬ 0 < c)
theorem pay_kinds {s : Int} {g : Nat} {xs : List Cel} (hd : Dp s g xs) (hs : Mk.isM s = true) (hg2 : g ≤ 20) {ys : List (Int × Int)} {r : Int} (hy1 : 1 ≤ ys.length) (hy7 : ys.length ≤ 7) (hyr : ∀ y ∈ ys, rOut y = true) (hr : 0 ≤ r ∧ r ≤ 1000) (nx : Int) :
    (¬ targetZ ys r ≤ wsum r ((orderZ r (xs.map Cel.kept)).take 10) ∧ ∀ t : Int, 0 ≤ t → t ≤ 1099511627776 → payZ xs s g [] [] nx ys r t = .inl 9) ∨
    (targetZ ys r ≤ wsum r ((orderZ r (xs.map Cel.kept)).take 10) ∧ unpZ xs s g nx = none ∧ (∃ L c, chooseZ r (orderZ r (ownOf xs s g)) (targetZ ys r) = some (L, c) ∧ 0 < c) ∧ ∀ t : Int, 0 ≤ t → t ≤ 1099511627776 → payZ xs s g [] [] nx ys r t = .inl 10) ∨
    (targetZ ys r ≤ wsum r ((orderZ r (xs.map Cel.kept)).take 10) ∧ ∃ L ex ch, Paid1 s g xs nx ys r L ex ch) := by
  have hro : rOuts ys = true := by
    unfold rOuts
    rw [Bool.and_eq_true, decide_eq_true_iff, List.all_eq_true]
    exact ⟨⟨hy1, by omega⟩, hyr⟩
  have hpay : ∀ t : Int, 0 ≤ t → t ≤ 1099511627776 → payZ xs s g [] [] nx ys r t = match chooseZ r (orderZ r (ownOf xs s g)) (targetZ ys r) with
    | none => .inl 9
    | some (cs, ch) => if 0 < ch then (match unpZ xs s g nx with
        | none => .inl 10
        | some k => payFin xs t cs (ys ++ [(k.ad, ch)]) k.ix) else payFin xs t cs ys (-1) := fun t h1 h2 => by
    unfold payZ
    rw [if_neg (by omega), if_neg (by rw [hro]; simp; omega), free_nil_all]
    rfl
  have hpos : 0 < targetZ ys r := by
    have h4 : 0 < sumOu ys := by
      cases ys with
      | nil => simp at hy1
      | cons y t =>
        have h5 := (rOut_bd (hyr y List.mem_cons_self)).2.1
        have h6 := sum_bd Prod.snd 1099511627776 t (fun z hz => by have := (rOut_bd (hyr z (List.mem_cons_of_mem _ hz))).2; omega)
        unfold sumOu
        rw [List.map_cons, List.sum_cons]
        omega
    have : 0 ≤ r * (3 + 2 * (ys.length : Int)) := Int.mul_nonneg hr.1 (by omega)
    unfold targetZ
    omega
  have hall : ∀ x ∈ orderZ r (ownOf xs s g), 1 ≤ worthZ r x := fun x hx => (order_mem hx).2
  have hcn := choose_none r (orderZ r (ownOf xs s g)) (targetZ ys r) hpos hall
  rw [wsum_perm r (hd.worths hg2 r)] at hcn
  cases hc : chooseZ r (orderZ r (ownOf xs s g)) (targetZ ys r) with
  | none =>
    refine Or.inl ⟨by have := hcn.1 hc; omega, fun t h1 h2 => ?_⟩
    rw [hpay t h1 h2, hc]
  | some q =>
    obtain ⟨L, c⟩ := q
    have hcan : targetZ ys r ≤ wsum r ((orderZ r (xs.map Cel.kept)).take 10) := by
      by_cases h : wsum r ((orderZ r (xs.map Cel.kept)).take 10) < targetZ ys r
      · have := hcn.2 h; rw [hc] at this; cases this
      · omega
    obtain ⟨s1, s2, s3, s4, s5⟩ := choose_some r _ _ hpos L c hc
    have hown : ∀ x ∈ L, x ∈ ownOf xs s g := fun x hx => (order_mem (s1.subset hx)).1
    have hnd : (L.map CoinD.id).Nodup := List.Nodup.sublist (List.Sublist.map _ s1) (hd.ordNd hg2 r)
    have hl0 : 0 < L.length := List.length_pos_iff.2 s3
    have hwL := wsum_sum r L
    have hexp : ∀ m : Int, r * (3 + 7 * (L.length : Int) + 2 * m) = r * 3 + 7 * (r * (L.length : Int)) + 2 * (r * m) := fun m => by
      rw [Int.mul_add, Int.mul_add, Int.mul_left_comm r 7, Int.mul_left_comm r 2]
    have htg : targetZ ys r = r * 3 + 2 * (r * (ys.length : Int)) + sumOu ys := by
      unfold targetZ
      rw [Int.mul_add, Int.mul_left_comm r 2]
    by_cases h0 : 0 < c
    · have s6 : c = wsum r L - targetZ ys r - 2 * r ∧ 10 ≤ c := by
        rcases s5 with h | h
        · omega
        · exact h
      obtain ⟨xm, hxm, hlt⟩ := choose_change r _ _ hpos L c hc h0
      have hxb := ((hd.own hs hg2 (hown xm hxm)).1).b
      have hcb : c ≤ 1099511627776 := by unfold worthZ at hlt; omega
      cases hu : unpZ xs s g nx with
      | none =>
        refine Or.inr (Or.inl ⟨hcan, rfl, ⟨L, c, rfl, h0⟩, fun t h1 h2 => ?_⟩)
        rw [hpay t h1 h2, hc]
        simp only [if_pos h0, hu]
      | some k =>
        have hk1 := List.mem_of_find?_eq_some hu
        have hk2 := List.find?_some hu
        unfold unpB at hk2
        rw [Bool.and_eq_true, Bool.and_eq_true, beq_iff_eq, decide_eq_true_iff] at hk2
        obtain ⟨k3, k4, k5⟩ := hk2
        obtain ⟨i, hi, rfl⟩ : ∃ i : Nat, i < winZ xs s g 1 ∧ k = ⟨1, (i : Int), Mk.adr s 1 (i : Int)⟩ := by
          unfold keysZ keysB at hk1
          rcases List.mem_append.1 hk1 with e | e
          · obtain ⟨i, _, rfl⟩ := List.mem_map.1 e
            simp at k3
          · obtain ⟨i, hi, rfl⟩ := List.mem_map.1 e
            exact ⟨i, List.mem_range.1 hi, rfl⟩
        have hw100 := winZ_le xs s g 1
        refine Or.inr (Or.inr ⟨hcan, L, [(Mk.adr s 1 (i : Int), c)], (i : Int), hown, hnd, hl0, s2, by simp, fun y hy => ?_, ?_, fun t h1 h2 => ?_, Or.inr k4, ⟨c, hc, ⟨fun e => (by cases e), fun e => absurd h0 e⟩⟩⟩)
        · rw [List.mem_singleton.1 hy]
          unfold rOut
          rw [(Mk.isM_iff _).2 (Mk.adr_bd s 1 (i : Int)), Bool.true_and, decide_eq_true_iff]
          exact ⟨s6.2, hcb⟩
        · refine Or.inr ⟨i, c, rfl, rfl, key_ok hs (Or.inr rfl) (by omega) (by omega), hi, s6.2, fun q hq e => ?_, ?_⟩
          · obtain ⟨x, hx, rfl⟩ := List.mem_map.1 hq
            have : paidTo xs (Mk.adr s 1 (i : Int)) = true := by
              unfold paidTo
              rw [List.any_eq_true]
              exact ⟨x, hx, beq_iff_eq.2 e⟩
            simp only at k5
            rw [this] at k5
            cases k5
          · rw [sumOu_snoc, hexp, List.length_append, List.length_singleton]
            push_cast
            rw [Int.mul_add]
            omega
        · rw [hpay t h1 h2, hc]
          simp only [if_pos h0, hu]
    · have s6 : c = 0 ∧ wsum r L - targetZ ys r ≤ slackZ r := by
        rcases s5 with h | h
        · exact h
        · omega
      refine Or.inr (Or.inr ⟨hcan, L, [], -1, hown, hnd, hl0, s2, by simp, fun y hy => (by cases hy), ?_, fun t h1 h2 => ?_, Or.inl rfl, ⟨c, hc, ⟨fun _ => h0, fun _ => rfl⟩⟩⟩)
      · refine Or.inl ⟨rfl, rfl, ?_, ?_⟩
        · rw [List.append_nil, hexp]
          omega
        · rw [List.append_nil, hexp]
          have := s6.2
          unfold slackZ at this
          omega
      · rw [hpay t h1 h2, hc]
        simp only [if_neg h0, List.append_nil]
theorem Paid1.right {s : Int} {g : Nat} {xs : List Cel} {nx : Int} {ys : List (Int × Int)} {r : Int} {L : List CoinD} {ex : List (Int × Int)} {ch : Int} (h : Paid1 s g xs nx ys r L ex ch) (hd : Dp s g xs) (hs : Mk.isM s = true) (hg2 : g ≤ 20) (hy1 : 1 ≤ ys.length) (hy7 : ys.length ≤ 7) (hyr : ∀ y ∈ ys, rOut y = true) (t : Int) (h1 : 0 ≤ t) (h2 : t ≤ 1099511627776) : rTx t (L.map CoinD.inD) (ys ++ ex) = true := by
  have he := h.e1
  have hl := h.l10
  unfold rTx rIns rOuts
  simp only [Bool.and_eq_true, decide_eq_true_iff, List.all_eq_true, List.length_map, List.length_append]
  refine ⟨⟨h1, h2⟩, ⟨hl, fun x hx => ?_⟩, ⟨by omega, by omega⟩, fun y hy => ?_⟩
  · obtain ⟨c, hc, rfl⟩ := List.mem_map.1 hx
    have hh := hd.own hs hg2 (h.own c hc)
    unfold rIn CoinD.inD
    simp only [hh.2.1, hh.2.2]
    decide
  · rcases List.mem_append.1 hy with e | e
    · exact hyr y e
    · exact h.ev y e
/-- one of so many tags is new -/
theorem Paid1.tag {s : Int} {g : Nat} {xs : List Cel} {nx : Int} {ys : List (Int × Int)} {r : Int} {L : List CoinD} {ex : List (Int × Int)} {ch : Int} (h : Paid1 s g xs nx ys r L ex ch) (hd : Dp s g xs) (hs : Mk.isM s = true) (hg2 : g ≤ 20) (hy1 : 1 ≤ ys.length) (hy7 : ys.length ≤ 7) (hyr : ∀ y ∈ ys, rOut y = true) (hl : xs.length ≤ 24) (hall : ∀ j : Nat, j ≤ xs.length → payZ xs s g [] [] nx ys r (j : Int) = .inl 4) : False := by
  have hin : ∀ j, j < xs.length + 1 → idZ (j : Int) (L.map CoinD.inD) (ys ++ ex) ∈ xs.map Cel.id := fun j hj => by
    have h3 := hall j (by omega)
    rw [h.pay (j : Int) (by omega) (by omega)] at h3
    unfold payFin at h3
    split at h3
    · rename_i h4
      unfold hasId at h4
      rw [List.any_eq_true] at h4
      obtain ⟨x, hx, e⟩ := h4
      rw [beq_iff_eq] at e
      rw [← e]
      exact List.mem_map_of_mem hx
    · cases h3
  have := pigeon (xs.length + 1) (xs.map Cel.id) (fun j => idZ (j : Int) (L.map CoinD.inD) (ys ++ ex)) hin (fun i j hij hj => by
    have r1 := h.right hd hs hg2 hy1 hy7 hyr (i : Int) (by omega) (by omega)
    have r2 := h.right hd hs hg2 hy1 hy7 hyr (j : Int) (by omega) (by omega)
    show idZ _ _ _ ≠ idZ _ _ _
    unfold idZ
    rw [if_pos r1, if_pos r2]
    exact fun e => id_tag (i : Int) (j : Int) (L.map CoinD.inD) (ys ++ ex) (by omega) (by omega) (by omega) e.symm)
  rw [List.length_map] at this
  omega
theorem unp_full {xs : List Cel} {s : Int} {g : Nat} (h : unpZ xs s g 0 = none) {i : Nat} (hi : i < winZ xs s g 1) : ((xs.map Cel.kept).any fun c => c.tt == Mk.adr s 1 (i : Int)) = true := by
  unfold unpZ at h
  rw [List.find?_eq_none] at h
  have hm : (⟨1, (i : Int), Mk.adr s 1 (i : Int)⟩ : KeyD) ∈ keysZ xs s g := by
    unfold keysZ keysB
    rw [List.mem_append]
    exact Or.inr (List.mem_map.2 ⟨i, List.mem_range.2 hi, rfl⟩)
  have h1 := h _ hm
  unfold unpB at h1
  simp only [beq_self_eq_true, Bool.true_and, Bool.and_eq_true, decide_eq_true_iff, not_and] at h1
  have h2 := h1 (by omega)
  have h3 : paidTo xs (Mk.adr s 1 (i : Int)) = true := by simpa using h2
  unfold paidTo at h3
  rw [List.any_map]
  exact h3
end Go.Proofs.Ytffgpepngcnjeab
