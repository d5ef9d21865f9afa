import Derived.Test.YtffgpepngcnjeabGreatSaq
namespace Go.Proofs.YtffgpepngcnjeabGreat
set_option maxRecDepth 100000
set_option maxHeartbeats 4000000
section
open Go.RowKit
variable {e k base L K i j base' g n c : Nat} {w w' w1 : World} {v u vi vo vk a0 a1 a2 a3 a4 a5 : Value} {E : NPr} {cs ks : List CoinD} {ys : LII} {x : CoinD} {row : Option Nat}
structure UnOk (base : Nat) (vi vo : Value) (cs : List CoinD) (ys : LII) (w : World) : Prop where
 oi : ORC inC 115 3 w base vi cs
 oo : ORC kV 93 2 w base vo ys
 ne : ∀ k, vi.ownBlock = some k → vo.ownBlock ≠ some k
theorem osT {α : Type} {f : α → List Value} {xs : List α} (h : ORC f e k w base v xs) (b o : Nat) (u : Value) (hne : v.ownBlock ≠ some b) : ORC f e k (w.setCell ⟨b, o, none⟩ u) base v xs :=
 h.gb (gb_set w b o u) (fun q hq e => hne (by rw [hq, e]))
theorem sob (h : w.cell? ⟨L, j, none⟩ = some v) (hne : L ≠ K) : (w.setCell ⟨K, i, none⟩ u).cell? ⟨L, j, none⟩ = some v := by
 rw [World.cell?_setCell_other _ _ _ _ (by intro e; have := congrArg Addr.block e; simp only at this; exact hne this.symm)]
 exact h
theorem unsealed_any (ac : OAd) (n c : Nat) (cs : List CoinD) (ap : OAd) (m d : Nat) (ys : LII) (tag : Int) (w : World) (hx : RcT CoinD.l w ac cs) (hn : cs.length = n) (hnm : n ≤ 1000) (hy : OsT w ap ys) (hyn : ys.length = m) (hy0 : 0 < m) (hym : m ≤ 1000) :
 Calls Tryz.prog 89 #[.slice ac n c, .slice ap m d, .int .i64 tag] w fun e w' => ∃ vi vo, e = .returned (.agg #[.int .i64 tag, vi, vo]) ∧ UnOk w.heap.size vi vo cs ys w' ∧ Below w.heap.size w w' := by
 have HN := hiD hn
 have HX := hiD hx
 have HY := hiD hy
 have HYN := hiD hyn
 clear hn hx hy hyn
 have hbA : Below w.heap.size w ((w.alloc (.cells #[.int .i64 0, .slice none 0 0, .slice none 0 0] 35)).alloc (.cells #[.int .i64 tag, .slice none 0 0, .slice none 0 0] 35)) := (bAl _ _).alloc (by simp) _
 have r0 : ((w.alloc (.cells #[.int .i64 0, .slice none 0 0, .slice none 0 0] 35)).alloc (.cells #[.int .i64 tag, .slice none 0 0, .slice none 0 0] 35)).cell? ⟨w.heap.size, 0, none⟩ = some (.int .i64 0) := by go_simp
 have r1 : ((w.alloc (.cells #[.int .i64 0, .slice none 0 0, .slice none 0 0] 35)).alloc (.cells #[.int .i64 tag, .slice none 0 0, .slice none 0 0] 35)).cell? ⟨w.heap.size, 1, none⟩ = some (.slice none 0 0) := by go_simp
 have r2 : ((w.alloc (.cells #[.int .i64 0, .slice none 0 0, .slice none 0 0] 35)).alloc (.cells #[.int .i64 tag, .slice none 0 0, .slice none 0 0] 35)).cell? ⟨w.heap.size, 2, none⟩ = some (.slice none 0 0) := by go_simp
 have HF : Hid (∀ j, ((w.alloc (.cells #[.int .i64 0, .slice none 0 0, .slice none 0 0] 35)).alloc (.cells #[.int .i64 tag, .slice none 0 0, .slice none 0 0] 35)).frozen? ⟨w.heap.size, j, none⟩ = false) := fun j => by
  have h1 : (w.alloc (.cells #[.int .i64 0, .slice none 0 0, .slice none 0 0] 35)).frozen? ⟨w.heap.size, j, none⟩ = false := World.frozen?_alloc_at _ _ _ _ rfl
  exact (((Below.refl (w.alloc (.cells #[.int .i64 0, .slice none 0 0, .slice none 0 0] 35)).heap.size (w.alloc (.cells #[.int .i64 0, .slice none 0 0, .slice none 0 0] 35))).alloc leR _).frozen (p := ⟨w.heap.size, j, none⟩) (by simp)).trans h1
 have HI0 : Hid (UIv ((w.alloc (.cells #[.int .i64 0, .slice none 0 0, .slice none 0 0] 35)).alloc (.cells #[.int .i64 tag, .slice none 0 0, .slice none 0 0] 35)) (w.heap.size + 1) tag (.slice none 0 0) [] ((w.alloc (.cells #[.int .i64 0, .slice none 0 0, .slice none 0 0] 35)).alloc (.cells #[.int .i64 tag, .slice none 0 0, .slice none 0 0] 35))) := by
  have hz : (w.alloc (.cells #[.int .i64 0, .slice none 0 0, .slice none 0 0] 35)).heap.size = w.heap.size + 1 := by simp
  refine ⟨by go_simp, by go_simp, by go_simp, fun j => ?_, ORC.nil _ _ _ _ _, ChStep.refl _ _ _⟩
  rw [← hz]
  exact World.frozen?_alloc_at _ _ _ _ rfl
 have hzS : w.heap.size + 1 < ((w.alloc (.cells #[.int .i64 0, .slice none 0 0, .slice none 0 0] 35)).alloc (.cells #[.int .i64 tag, .slice none 0 0, .slice none 0 0] 35)).heap.size := by simp
 go_enter Tryz.func89, Tryz.ntmps89
 go_upto_region 2 with fail
 generalize ((w.alloc (.cells #[.int .i64 0, .slice none 0 0, .slice none 0 0] 35)).alloc (.cells #[.int .i64 tag, .slice none 0 0, .slice none 0 0] 35)) = w0 at *
 have hold : ∀ k, k < w.heap.size → ¬ chE (w.heap.size + 1) (.slice none 0 0) k := fun k hk e => by
  rcases e with e | e
  ·omega
  ·simp [Value.ownBlock] at e
 have hlift : ∀ {α : Type} {f : α → List Value} {ao : OAd} {l : List α} {q : Nat} (hq : ∀ x, (f x).length = q) (hq0 : 0 < q), RcT f w ao l → ∀ w', Fr (chE (w.heap.size + 1) (.slice none 0 0)) w0 w' → RcT f w' ao l := by
  intro α f ao l q hq hq0 hr w' hf
  refine rec_fr hf (hr.grown hbA) (fun hne a ha => hold _ ?_)
  rcases hr with hnil | ⟨bb, off, e2, hrr⟩
  ·exact absurd hnil hne
  ·rw [ha] at e2
   injection e2 with e2
   rw [e2]
   refine hrr.lt (fun e3 => ?_)
   have h3 := rlN f q hq l
   rw [e3] at h3
   simp only [List.length_nil] at h3
   rcases Nat.mul_eq_zero.1 h3.symm with h4 | h4
   ·exact hne (List.length_eq_zero_iff.1 h4)
   ·omega
 have HLF : Hid (∀ w', Fr (chE (w.heap.size + 1) (.slice none 0 0)) w0 w' → RcT CoinD.l w' ac cs) := hlift ci6 (by omega) HX.out
 have HLY : Hid (∀ w', Fr (chE (w.heap.size + 1) (.slice none 0 0)) w0 w' → RcT kV w' ap ys) := hlift kv2 (by omega) (outs_rec HY.out)
 clear hlift hold
 generalize hB : w.heap.size = B at *
 have HBe := hiD hB
 clear hB HX HY
 go_wp2
 go_loopw [14] (fun i wr => ∃ (k : Nat) (vi : Value), k ≤ n ∧ i = .int .i64 k ∧ UIv w0 (B + 1) tag vi (cs.take k) wr) (fun i _ => n - (intOf i).toNat)
 case atStart => exact ⟨0, _, Nat.zero_le _, rfl, HI0⟩
 case round =>
  obtain ⟨k, vi, hk, rfl, hinv⟩ := hrel
  by_cases hlt : k < n
  ·rcases HLF.out wr hinv.st.fr with hnil | ⟨gc, oc, rfl, hrow⟩
   ·have := HN.out; rw [hnil] at this; simp at this; omega
   obtain ⟨e0, e1, e2, e3, e4, e5⟩ := cCS hrow k (by rw [HN.out]; exact hlt)
   have HS : Hid (cs.take (k + 1) = cs.take k ++ [cs.getD k dN]) := by
    show _ = _
    rw [List.take_succ_eq_append_getElem (by rw [HN.out]; exact hlt)]
    simp [List.getD, HN.out, hlt]
   have HLL : Hid ((cs.take k).length ≤ 1000) := by show _ ≤ _; rw [List.length_take]; omega
   clear hrow
   generalize cs.getD k dN = y at *
   generalize cs.take k = acc at *
   obtain ⟨y0, y1, y2, y3, y4, y5⟩ := y
   simp only at e0 e1 e2 e3 e4 e5
   have hb4 : Below wr.heap.size wr (wr.alloc (.cells #[.int .i64 y0, .int .i64 y1, .int .i64 y2, .int .i64 y3, .int .i64 y4, .int .i64 y5] 107)) := (Below.refl _ _).alloc leR _
   have HI4 := hiD (hinv.grown hb4)
   obtain ⟨x0, x1, x2, x3, x4, x5⟩ := xrow (vwW wr [.int .i64 y0, .int .i64 y1, .int .i64 y2, .int .i64 y3, .int .i64 y4, .int .i64 y5] 107)
   go_upto_region 5 with fail
   generalize wr.alloc (.cells #[.int .i64 y0, .int .i64 y1, .int .i64 y2, .int .i64 y3, .int .i64 y4, .int .i64 y5] 107) = w4 at *
   generalize wr.heap.size = X at *
   clear e0 e1 e2 e3 e4 e5 hb4 hinv
   have t1 := HI4.out.t1
   have tf1 := HI4.out.tf 1
   have hTl : B + 1 < w4.heap.size := clT t1
   have hviT : some (B + 1) ≠ vi.ownBlock := fun e => by have := (HI4.out.own.blk _ e.symm).1; omega
   have bC : Below w4.heap.size w4 (w4.alloc (.cells #[.int .i64 y0, .int .i64 y1, .slice none 0 0] 115)) := (Below.refl _ _).alloc leR _
   have HI5 := hiD (HI4.out.grown bC)
   go_upto_region 6 with (at_builtin; refine wtR 33 40 _ Tryz.underlying33 info115 rfl (by decide) inC3 inC_one (w4.alloc (.cells #[.int .i64 y0, .int .i64 y1, .slice none 0 0] 115)) rfl _ _ rfl (B + 1 + 1) w4.heap.size 1 vi acc ⟨y0, y1, y2, y3, y4, y5⟩ (by rfl) (by rfl) HI5.out.own (vwW _ _ _) (by simp; omega) (by have := HLL.out; unfold maxLen; omega) (by have := HLL.out; omega) ?_; intro gb capb w8 hown8 hg8 hl8 hlt8; have k0 := geL hg8 HI5.out.t1 hviT; have k1 := (goN hg8 (clT HI5.out.t1) hviT).trans (HI5.out.tf 1))
   have HI9 : Hid _ := HI5.out.push hown8 hg8 hl8
   clear hown8 hg8 hl8 hlt8 k0 k1 HI5 HI4 bC t1 tf1 x0 x1 x2 x3 x4 x5
   go_wp2
   go_roundw
   case rel => exact ⟨k + 1, _, by omega, by go_num, by rw [HS.out]; exact HI9⟩
   case measure => simp [intOf]; omega
  ·have HE : Hid (cs.take k = cs) := by show _ = _; rw [List.take_of_length_le (by rw [HN.out]; omega)]
   rw [HE.out] at hinv
   obtain ⟨ai, ci, ei, _⟩ := ORC.at inC3 hinv.own
   rw [HN.out] at ei
   subst ei
   have HI := hiD hinv
   have hnR : ¬ chE (B + 1) (.slice none 0 0) B := fun e => by
    rcases e with e | e
    ·omega
    ·simp [Value.ownBlock] at e
   have q0 := hinv.st.fr.cell r0 hnR
   have q1 := hinv.st.fr.cell r1 hnR
   have q2 := hinv.st.fr.cell r2 hnR
   have hBl : B < w0.heap.size := by omega
   have HG : Hid (∀ j, wr.frozen? ⟨B, j, none⟩ = false) := fun j => (hinv.st.fr.frozen (o := j) hBl hnR).trans (HF.out j)
   have HBW : Hid (Below B w wr) := hbA.trans (hinv.st.fr.toBelow B (by omega) (fun q hq => by
    rcases hq with e | e
    ·omega
    ·simp [Value.ownBlock] at e))
   have t0 := hinv.t0
   have t1 := hinv.t1
   have t2 := hinv.t2
   have tf2 := hinv.tf 2
   rcases HLY.out wr hinv.st.fr with hnil | ⟨gy, oy, rfl, hyrow⟩
   ·have := HYN.out; rw [hnil] at this; simp at this; omega
   have HYR := hiD hyrow
   have hTl : B + 1 < wr.heap.size := clT t0
   clear hinv r0 r1 r2 hyrow
   go_upto_region 8 with (at_builtin; refine wpList_appN 28 16 _ Tryz.underlying28 info93 rfl (by decide) kv2 kv_one wr rfl _ _ rfl (B + 1 + 1) gy oy m d (.slice none 0 0) [] ys (by rfl) (by rfl) HYN hy0 (ORC.nil _ _ _ _ _) HYR (by omega) (by unfold maxLen; simp; omega) (by simp; omega) ?_; intro gb capb w8 hown8 hg8 hl8 hlt8; simp only [List.length_nil, Nat.zero_add, List.nil_append] at hown8 ⊢; have k2 := geL hg8 t2 (by simp [Value.ownBlock]); have kf := (goN hg8 hTl (by simp [Value.ownBlock])).trans tf2)
   have b8 : Below wr.heap.size wr w8 := gbW hg8 leR (fun r hr => by simp [Value.ownBlock] at hr)
   have hgb : wr.heap.size ≤ gb := hl8.resolve_left (by simp [Value.ownBlock])
   have HOI := hiD (HI.out.own.grown b8)
   have HIB := hiD HI.out.own.blk
   have HOO := hiD hown8
   have x0 := sob (K := B + 1) (i := 2) (u := .slice (some ⟨gb, 0, none⟩) m capb) ((b8.cell (p := ⟨B, 0, none⟩) (clT q0)).trans q0) (by omega)
   have x1 := sob (K := B + 1) (i := 2) (u := .slice (some ⟨gb, 0, none⟩) m capb) ((b8.cell (p := ⟨B, 1, none⟩) (clT q1)).trans q1) (by omega)
   have x2 := sob (K := B + 1) (i := 2) (u := .slice (some ⟨gb, 0, none⟩) m capb) ((b8.cell (p := ⟨B, 2, none⟩) (clT q2)).trans q2) (by omega)
   have y0 := so (i := 2) (u := .slice (some ⟨gb, 0, none⟩) m capb) ((b8.cell (p := ⟨B + 1, 0, none⟩) hTl).trans t0) (by decide)
   have y1 := so (i := 2) (u := .slice (some ⟨gb, 0, none⟩) m capb) ((b8.cell (p := ⟨B + 1, 1, none⟩) hTl).trans t1) (by decide)
   have y2 := ss (u := .slice (some ⟨gb, 0, none⟩) m capb) k2
   have HG9 : Hid (∀ j, (w8.setCell ⟨B + 1, 2, none⟩ (.slice (some ⟨gb, 0, none⟩) m capb)).frozen? ⟨B, j, none⟩ = false) := fun j => by
    rw [World.frozen?_setCell]
    exact (b8.frozen (p := ⟨B, j, none⟩) (show B < wr.heap.size by omega)).trans (HG j)
   have HB9 : Hid (Below B w (w8.setCell ⟨B + 1, 2, none⟩ (.slice (some ⟨gb, 0, none⟩) m capb))) := (HBW.out.trans (b8.mono (by omega))).setCell (p := ⟨B + 1, 2, none⟩) (by show B ≤ B + 1; omega) _
   have HOI9 : Hid (ORC inC 115 3 (w8.setCell ⟨B + 1, 2, none⟩ (.slice (some ⟨gb, 0, none⟩) m capb)) (B + 1 + 1) (.slice ai n ci) cs) := osT HOI.out _ _ _ (fun e => by have := (HIB.out _ e).1; omega)
   have HOO9 : Hid (ORC kV 93 2 (w8.setCell ⟨B + 1, 2, none⟩ (.slice (some ⟨gb, 0, none⟩) m capb)) (B + 1 + 1) (.slice (some ⟨gb, 0, none⟩) m capb) ys) := osT HOO.out _ _ _ (fun e => by simp [Value.ownBlock] at e; omega)
   have HNE : Hid (∀ k, (Value.slice ai n ci).ownBlock = some k → (Value.slice (some ⟨gb, 0, none⟩) m capb).ownBlock ≠ some k) := fun k hk e => by
    have := (HIB.out k hk).2
    simp [Value.ownBlock] at e
    omega
   clear hown8 hg8 hl8 hlt8 k2 kf b8 HOI HOO HIB t0 t1 t2 tf2 q0 q1 q2 HYR HG HBW HI
   generalize w8.setCell ⟨B + 1, 2, none⟩ (.slice (some ⟨gb, 0, none⟩) m capb) = w9 at *
   have f0 := HG9.out 0
   have f1 := HG9.out 1
   have f2 := HG9.out 2
   go_wp2
   have z0 : (((w9.setCell ⟨B, 0, none⟩ (.int .i64 tag)).setCell ⟨B, 1, none⟩ (.slice ai n ci)).setCell ⟨B, 2, none⟩ (.slice (some ⟨gb, 0, none⟩) m capb)).cell? ⟨B, 0, none⟩ = some (.int .i64 tag) := so (so (ss x0) (by decide)) (by decide)
   have z1 : (((w9.setCell ⟨B, 0, none⟩ (.int .i64 tag)).setCell ⟨B, 1, none⟩ (.slice ai n ci)).setCell ⟨B, 2, none⟩ (.slice (some ⟨gb, 0, none⟩) m capb)).cell? ⟨B, 1, none⟩ = some (.slice ai n ci) := so (ss (so x1 (by decide))) (by decide)
   have z2 : (((w9.setCell ⟨B, 0, none⟩ (.int .i64 tag)).setCell ⟨B, 1, none⟩ (.slice ai n ci)).setCell ⟨B, 2, none⟩ (.slice (some ⟨gb, 0, none⟩) m capb)).cell? ⟨B, 2, none⟩ = some (.slice (some ⟨gb, 0, none⟩) m capb) := ss (so (so x2 (by decide)) (by decide))
   refine bodyPost_ret (v := .agg #[.int .i64 tag, .slice ai n ci, .slice (some ⟨gb, 0, none⟩) m capb]) ?_ rfl ⟨_, _, rfl, ?_, ?_⟩
   ·simp [results, Tryz.results89, go_sem, z0, z1, z2]
   ·rw [HBe.out]
    exact ⟨olR (ownsRow_setCell_below (ownsRow_setCell_below (ownsRow_setCell_below HOI9 (a := ⟨B, 0, none⟩) (by show B < B + 1 + 1; omega) _) (a := ⟨B, 1, none⟩) (by show B < B + 1 + 1; omega) _) (a := ⟨B, 2, none⟩) (by show B < B + 1 + 1; omega) _) (by omega), olR (ownsRow_setCell_below (ownsRow_setCell_below (ownsRow_setCell_below HOO9 (a := ⟨B, 0, none⟩) (by show B < B + 1 + 1; omega) _) (a := ⟨B, 1, none⟩) (by show B < B + 1 + 1; omega) _) (a := ⟨B, 2, none⟩) (by show B < B + 1 + 1; omega) _) (by omega), HNE⟩
   ·rw [HBe.out]
    exact ((HB9.out.setCell (p := ⟨B, 0, none⟩) leR _).setCell (p := ⟨B, 1, none⟩) leR _).setCell (p := ⟨B, 2, none⟩) leR _
theorem info117 : (Tryz.prog.info? 117).map (fun i => (i.zero, i.size, i.bytes)) = some (some (.agg #[.int .i64 0, .int .i64 0]), 2, 16) := by kernel_rfl
structure PdOk (base : Nat) (vi vo vk : Value) (cs : List CoinD) (ys : LII) (ks : List CoinD) (w : World) : Prop where
 oi : ORC inC 115 3 w base vi cs
 oo : ORC kV 93 2 w base vo ys
 ok : ORC kC 117 2 w base vk ks
 n1 : ∀ k, vi.ownBlock = some k → vo.ownBlock ≠ some k ∧ vk.ownBlock ≠ some k
 n2 : ∀ k, vo.ownBlock = some k → vk.ownBlock ≠ some k
theorem PdOk.fr (h : PdOk base vi vo vk cs ys ks w) (hf : Fr E w w') (he : ∀ k, base ≤ k → ¬ E k) : PdOk base vi vo vk cs ys ks w' :=
 ⟨hf.own h.oi (fun k hk => he k (h.oi.blk k hk).1), hf.own h.oo (fun k hk => he k (h.oo.blk k hk).1), hf.own h.ok (fun k hk => he k (h.ok.blk k hk).1), h.n1, h.n2⟩
theorem PdOk.grown (h : PdOk base vi vo vk cs ys ks w) (hb : Below w.heap.size w w') : PdOk base vi vo vk cs ys ks w' :=
 ⟨h.oi.grown hb, h.oo.grown hb, h.ok.grown hb, h.n1, h.n2⟩
theorem PdOk.set (h : PdOk base vi vo vk cs ys ks w) (b o : Nat) (u : Value) (hb : b < base) : PdOk base vi vo vk cs ys ks (w.setCell ⟨b, o, none⟩ u) :=
 ⟨osT h.oi b o u (fun e => by have := (h.oi.blk _ e).1; omega), osT h.oo b o u (fun e => by have := (h.oo.blk _ e).1; omega), osT h.ok b o u (fun e => by have := (h.ok.blk _ e).1; omega), h.n1, h.n2⟩
theorem PdOk.lower (h : PdOk base vi vo vk cs ys ks w) (hb : base' ≤ base) : PdOk base' vi vo vk cs ys ks w :=
 ⟨olR h.oi hb, olR h.oo hb, olR h.ok hb, h.n1, h.n2⟩
theorem PdOk.pushK (h : PdOk base vi vo vk cs ys ks w) (hown : ORC kC 117 2 w1 base (.slice (some ⟨g, 0, none⟩) n c) (ks ++ [x])) (hg : w.grownBy w1 vk.ownBlock) (hl : vk.ownBlock = some g ∨ w.heap.size ≤ g) : PdOk base vi vo (.slice (some ⟨g, 0, none⟩) n c) cs ys (ks ++ [x]) w1 := by
 refine ⟨h.oi.gb hg (fun k hk e => (h.n1 k hk).2 e.symm), h.oo.gb hg (fun k hk e => h.n2 k hk e.symm), hown, fun k hk => ⟨(h.n1 k hk).1, fun e => ?_⟩, fun k hk e => ?_⟩
 ·simp [Value.ownBlock] at e
  subst e
  rcases hl with h1 | h1
  ·exact (h.n1 _ hk).2 h1
  ·have := (h.oi.blk _ hk).2; omega
 ·simp [Value.ownBlock] at e
  subst e
  rcases hl with h1 | h1
  ·exact h.n2 _ hk h1
  ·have := (h.oo.blk _ hk).2; omega
theorem PdOk.pushO {x : Int × Int} (h : PdOk base vi vo vk cs ys ks w) (hown : ORC kV 93 2 w1 base (.slice (some ⟨g, 0, none⟩) n c) (ys ++ [x])) (hg : w.grownBy w1 vo.ownBlock) (hl : vo.ownBlock = some g ∨ w.heap.size ≤ g) : PdOk base vi (.slice (some ⟨g, 0, none⟩) n c) vk cs (ys ++ [x]) ks w1 := by
 refine ⟨h.oi.gb hg (fun k hk e => (h.n1 k hk).1 e.symm), hown, h.ok.gb hg (fun k hk e => h.n2 k e.symm hk), fun k hk => ⟨fun e => ?_, (h.n1 k hk).2⟩, fun k hk e => ?_⟩
 ·simp [Value.ownBlock] at e
  subst e
  rcases hl with h1 | h1
  ·exact (h.n1 _ hk).1 h1
  ·have := (h.oi.blk _ hk).2; omega
 ·simp [Value.ownBlock] at hk
  subst hk
  rcases hl with h1 | h1
  ·exact h.n2 _ h1 e
  ·have := (h.ok.blk _ e).2; omega
theorem VB.gb (hg : w.grownBy w' row) (h : VB w L a0 a1 a2 a3 a4 a5) (hne : some L ≠ row) : VB w' L a0 a1 a2 a3 a4 a5 :=
 h.fr (Fr.of_gb hg (E := fun k => row = some k) (fun _ hk _ => hk)) (fun e => hne e.symm)
theorem withoutChange_any (ac : OAd) (n c : Nat) (cs : List CoinD) (ap : OAd) (m d : Nat) (ys : LII) (tag : Int) (w : World) (hx : RcT CoinD.l w ac cs) (hn : cs.length = n) (hnm : n ≤ 1000) (hy : OsT w ap ys) (hyn : ys.length = m) (hy0 : 0 < m) (hym : m ≤ 1000) :
 Calls Tryz.prog 82 #[.slice ac n c, .slice ap m d, .int .i64 tag] w fun e w' => ∃ vi vo vk, e = .returned (.agg #[.int .i64 0, .int .i64 tag, vi, vo, vk, .int .i64 (-1)]) ∧ PdOk w.heap.size vi vo vk cs ys cs w' ∧ Below w.heap.size w w' := by
 have HN := hiD hn
 have HX := hiD hx
 have HY := hiD hy
 have HYN := hiD hyn
 clear hn hx hy hyn
 have hbA : Below w.heap.size w ((w.alloc (.cells #[.int .i64 0, .int .i64 0, .slice none 0 0, .slice none 0 0, .slice none 0 0, .int .i64 0] 38)).alloc (.cells #[.int .i64 0, .int .i64 0, .slice none 0 0, .slice none 0 0, .slice none 0 0, .int .i64 (-1)] 38)) := (bAl _ _).alloc (by simp) _
 have hR : VB ((w.alloc (.cells #[.int .i64 0, .int .i64 0, .slice none 0 0, .slice none 0 0, .slice none 0 0, .int .i64 0] 38)).alloc (.cells #[.int .i64 0, .int .i64 0, .slice none 0 0, .slice none 0 0, .slice none 0 0, .int .i64 (-1)] 38)) w.heap.size (.int .i64 0) (.int .i64 0) (.slice none 0 0) (.slice none 0 0) (.slice none 0 0) (.int .i64 0) := (VB.new w _ _ _ _ _ _ 38).grown (bAl _ _)
 have hT : VB ((w.alloc (.cells #[.int .i64 0, .int .i64 0, .slice none 0 0, .slice none 0 0, .slice none 0 0, .int .i64 0] 38)).alloc (.cells #[.int .i64 0, .int .i64 0, .slice none 0 0, .slice none 0 0, .slice none 0 0, .int .i64 (-1)] 38)) (w.heap.size + 1) (.int .i64 0) (.int .i64 0) (.slice none 0 0) (.slice none 0 0) (.slice none 0 0) (.int .i64 (-1)) := by
  have := VB.new (w.alloc (.cells #[.int .i64 0, .int .i64 0, .slice none 0 0, .slice none 0 0, .slice none 0 0, .int .i64 0] 38)) (.int .i64 0) (.int .i64 0) (.slice none 0 0) (.slice none 0 0) (.slice none 0 0) (.int .i64 (-1)) 38
  rw [World.size_alloc] at this
  exact this
 go_enter Tryz.func82, Tryz.ntmps82
 go_upto_region 2 with fail
 generalize ((w.alloc (.cells #[.int .i64 0, .int .i64 0, .slice none 0 0, .slice none 0 0, .slice none 0 0, .int .i64 0] 38)).alloc (.cells #[.int .i64 0, .int .i64 0, .slice none 0 0, .slice none 0 0, .slice none 0 0, .int .i64 (-1)] 38)) = w0 at *
 have HX0 := hiD (HX.out.grown hbA)
 have HY0 := hiD (HY.out.grown hbA)
 have HR := hiD hR
 have HT := hiD hT
 have hz0 : w.heap.size + 1 < w0.heap.size := clT hT.c0
 clear hR hT
 go_wp2_with fail
 refine (unsealed_any ac n c cs ap m d ys tag _ HX0 HN hnm HY0 HYN hy0 hym).mono ?_
 rintro e w1 ⟨vi, vo, rfl, hun, hb1⟩
 obtain ⟨ai, ci, ei, _⟩ := ORC.at inC3 hun.oi
 obtain ⟨aq, cq, eo, _⟩ := ORC.at kv2 hun.oo
 rw [HN.out] at ei
 rw [HYN.out] at eo
 subst ei
 subst eo
 have HT1 := hiD (HT.out.grown hb1)
 have HR1 := hiD (HR.out.grown hb1)
 have HPD : Hid (PdOk w0.heap.size (.slice ai n ci) (.slice aq m cq) (.slice none 0 0) cs ys [] w1) := ⟨hun.oi, hun.oo, ORC.nil _ _ _ _ _, fun k hk => ⟨hun.ne k hk, fun e => by simp [Value.ownBlock] at e⟩, fun k _ e => by simp [Value.ownBlock] at e⟩
 have HBW : Hid (Below w.heap.size w w1) := hbA.trans (hb1.mono (by omega))
 clear hun HT HR HX0 HY0 hb1 hbA
 obtain ⟨t0, t1, t2, t3, t4, t5, tz⟩ := HT1.out
 have f1 := tz 1
 have f2 := tz 2
 have f3 := tz 3
 clear tz
 go_upto_region 3 with fail
 have HT2 : Hid (VB (((w1.setCell ⟨w.heap.size + 1, 1, none⟩ (.int .i64 tag)).setCell ⟨w.heap.size + 1, 2, none⟩ (.slice ai n ci)).setCell ⟨w.heap.size + 1, 3, none⟩ (.slice aq m cq)) (w.heap.size + 1) (.int .i64 0) (.int .i64 tag) (.slice ai n ci) (.slice aq m cq) (.slice none 0 0) (.int .i64 (-1))) := ((HT1.out.s1 _).s2 _).s3 _
 have HR2 : Hid (VB (((w1.setCell ⟨w.heap.size + 1, 1, none⟩ (.int .i64 tag)).setCell ⟨w.heap.size + 1, 2, none⟩ (.slice ai n ci)).setCell ⟨w.heap.size + 1, 3, none⟩ (.slice aq m cq)) w.heap.size (.int .i64 0) (.int .i64 0) (.slice none 0 0) (.slice none 0 0) (.slice none 0 0) (.int .i64 0)) := ((HR1.out.oth _ (by omega)).oth _ (by omega)).oth _ (by omega)
 have HPD2 : Hid (PdOk w0.heap.size (.slice ai n ci) (.slice aq m cq) (.slice none 0 0) cs ys [] (((w1.setCell ⟨w.heap.size + 1, 1, none⟩ (.int .i64 tag)).setCell ⟨w.heap.size + 1, 2, none⟩ (.slice ai n ci)).setCell ⟨w.heap.size + 1, 3, none⟩ (.slice aq m cq))) := ((HPD.out.set _ _ _ hz0).set _ _ _ hz0).set _ _ _ hz0
 have HB2 : Hid (Below w.heap.size w (((w1.setCell ⟨w.heap.size + 1, 1, none⟩ (.int .i64 tag)).setCell ⟨w.heap.size + 1, 2, none⟩ (.slice ai n ci)).setCell ⟨w.heap.size + 1, 3, none⟩ (.slice aq m cq))) := ((HBW.out.setCell (p := ⟨w.heap.size + 1, 1, none⟩) (Nat.le_succ _) _).setCell (p := ⟨w.heap.size + 1, 2, none⟩) (Nat.le_succ _) _).setCell (p := ⟨w.heap.size + 1, 3, none⟩) (Nat.le_succ _) _
 clear t0 t1 t2 t3 t4 t5 f1 f2 f3 HT1 HR1 HPD HBW
 generalize (((w1.setCell ⟨w.heap.size + 1, 1, none⟩ (.int .i64 tag)).setCell ⟨w.heap.size + 1, 2, none⟩ (.slice ai n ci)).setCell ⟨w.heap.size + 1, 3, none⟩ (.slice aq m cq)) = w2 at *
 generalize w0.heap.size = B0 at *
 generalize hB : w.heap.size = B at *
 have HBe := hiD hB
 clear hB
 go_wp2
 go_loopw [18] (fun i wr => ∃ (k : Nat) (vk : Value), k ≤ n ∧ i = .int .i64 k ∧ Hid (VB wr (B + 1) (.int .i64 0) (.int .i64 tag) (.slice ai n ci) (.slice aq m cq) vk (.int .i64 (-1))) ∧ Hid (VB wr B (.int .i64 0) (.int .i64 0) (.slice none 0 0) (.slice none 0 0) (.slice none 0 0) (.int .i64 0)) ∧ Hid (PdOk B0 (.slice ai n ci) (.slice aq m cq) vk cs ys (cs.take k) wr) ∧ Hid (Below B w wr)) (fun i _ => n - (intOf i).toNat)
 case atStart => exact ⟨0, _, Nat.zero_le _, rfl, HT2, HR2, HPD2, HB2⟩
 case round =>
  clear HT2 HR2 HPD2 HB2
  obtain ⟨k, vk, hk, rfl, hT, hR, hP, hbl⟩ := hrel
  by_cases hlt : k < n
  ·rcases HX.out.grown (by rw [HBe.out]; exact hbl.out) with hnil | ⟨gc, oc, rfl, hrow⟩
   ·have := HN.out; rw [hnil] at this; simp at this; omega
   obtain ⟨e0, e1, e2, e3, e4, e5⟩ := cCS hrow k (by rw [HN.out]; exact hlt)
   have HS : Hid (cs.take (k + 1) = cs.take k ++ [cs.getD k dN]) := by
    show _ = _
    rw [List.take_succ_eq_append_getElem (by rw [HN.out]; exact hlt)]
    simp [List.getD, HN.out, hlt]
   have HLL : Hid ((cs.take k).length ≤ 1000) := by show _ ≤ _; rw [List.length_take]; omega
   clear hrow
   generalize cs.getD k dN = y at *
   generalize cs.take k = acc at *
   obtain ⟨y0, y1, y2, y3, y4, y5⟩ := y
   simp only at e0 e1 e2 e3 e4 e5
   have hb4 : Below wr.heap.size wr (wr.alloc (.cells #[.int .i64 y0, .int .i64 y1, .int .i64 y2, .int .i64 y3, .int .i64 y4, .int .i64 y5] 107)) := (Below.refl _ _).alloc leR _
   have hBr : B + 1 < wr.heap.size := clT hT.out.c0
   have HT4 : Hid _ := hT.out.grown hb4
   have HR4 : Hid _ := hR.out.grown hb4
   have HP4 : Hid _ := hP.out.grown hb4
   have HB4 : Hid (Below B w (wr.alloc (.cells #[.int .i64 y0, .int .i64 y1, .int .i64 y2, .int .i64 y3, .int .i64 y4, .int .i64 y5] 107))) := hbl.out.alloc (by omega) _
   obtain ⟨x0, x1, x2, x3, x4, x5⟩ := xrow (vwW wr [.int .i64 y0, .int .i64 y1, .int .i64 y2, .int .i64 y3, .int .i64 y4, .int .i64 y5] 107)
   go_upto_region 6 with fail
   generalize wr.alloc (.cells #[.int .i64 y0, .int .i64 y1, .int .i64 y2, .int .i64 y3, .int .i64 y4, .int .i64 y5] 107) = w4 at *
   generalize wr.heap.size = X at *
   clear e0 e1 e2 e3 e4 e5 hb4 hT hR hP hbl
   have bC : Below w4.heap.size w4 (w4.alloc (.cells #[.int .i64 y4, .int .i64 y5] 117)) := (Below.refl _ _).alloc leR _
   have HT5 := hiD (HT4.out.grown bC)
   have HR5 := hiD (HR4.out.grown bC)
   have HP5 := hiD (HP4.out.grown bC)
   have t4 := HT4.out.c4
   have f4 := HT4.out.fz 4
   have hTl : B + 1 < w4.heap.size := clT t4
   have HB5 : Hid (Below B w (w4.alloc (.cells #[.int .i64 y4, .int .i64 y5] 117))) := HB4.out.alloc (by omega) _
   have hvk : ∀ q, vk.ownBlock = some q → B0 ≤ q := fun q hq => (HP4.out.ok.blk q hq).1
   have hvkT : some (B + 1) ≠ vk.ownBlock := fun e => by have := hvk _ e.symm; omega
   have hvkR : some B ≠ vk.ownBlock := fun e => by have := hvk _ e.symm; omega
   have HVK := hiD hvk
   have hB0l : B0 ≤ (w4.alloc (.cells #[.int .i64 y4, .int .i64 y5] 117)).heap.size := by
    obtain ⟨go2, _, g1, g2, _, _⟩ := osE kv2 HP4.out.oo HYN.out hy0
    rw [World.size_alloc]
    omega
   go_upto_region 7 with (at_builtin; refine wtR 36 16 _ Tryz.underlying36 info117 rfl (by decide) kC2 kC_one (w4.alloc (.cells #[.int .i64 y4, .int .i64 y5] 117)) rfl _ _ rfl B0 w4.heap.size 1 vk acc ⟨y0, y1, y2, y3, y4, y5⟩ (by rfl) (by rfl) HP5.out.ok (vwW _ _ _) hB0l (by have := HLL.out; unfold maxLen; omega) (by have := HLL.out; omega) ?_; intro gb capb w8 hown8 hg8 hl8 hlt8; have k0 := geL hg8 HT5.out.c4 hvkT; have k1 := (goN hg8 (clT HT5.out.c4) hvkT).trans (HT5.out.fz 4))
   have HT9 : Hid (VB (w8.setCell ⟨B + 1, 4, none⟩ (.slice (some ⟨gb, 0, none⟩) (acc.length + 1) capb)) (B + 1) (.int .i64 0) (.int .i64 tag) (.slice ai n ci) (.slice aq m cq) (.slice (some ⟨gb, 0, none⟩) (acc.length + 1) capb) (.int .i64 (-1))) := (HT5.out.gb hg8 hvkT).s4 _
   have HR9 : Hid (VB (w8.setCell ⟨B + 1, 4, none⟩ (.slice (some ⟨gb, 0, none⟩) (acc.length + 1) capb)) B (.int .i64 0) (.int .i64 0) (.slice none 0 0) (.slice none 0 0) (.slice none 0 0) (.int .i64 0)) := (HR5.out.gb hg8 hvkR).oth _ (by omega)
   have HP9 : Hid (PdOk B0 (.slice ai n ci) (.slice aq m cq) (.slice (some ⟨gb, 0, none⟩) (acc.length + 1) capb) cs ys (acc ++ [⟨y0, y1, y2, y3, y4, y5⟩]) (w8.setCell ⟨B + 1, 4, none⟩ (.slice (some ⟨gb, 0, none⟩) (acc.length + 1) capb))) := (HP5.out.pushK hown8 hg8 hl8).set _ _ _ hz0
   have HB9 : Hid (Below B w (w8.setCell ⟨B + 1, 4, none⟩ (.slice (some ⟨gb, 0, none⟩) (acc.length + 1) capb))) := (HB5.out.trans (gbW hg8 (by omega) (fun r hr => by have := HVK.out r hr; omega))).setCell (p := ⟨B + 1, 4, none⟩) (Nat.le_succ _) _
   clear hown8 hg8 hl8 hlt8 k0 k1 HT5 HR5 HP5 HB5 HT4 HR4 HP4 HB4 bC t4 f4 x0 x1 x2 x3 x4 x5 hvk
   go_wp2
   go_roundw
   case rel => exact ⟨k + 1, _, by omega, by go_num, HT9, HR9, by rw [HS.out]; exact HP9, HB9⟩
   case measure => simp [intOf]; omega
  ·have HE : Hid (cs.take k = cs) := by show _ = _; rw [List.take_of_length_le (by rw [HN.out]; omega)]
   have HP : Hid (PdOk B0 (.slice ai n ci) (.slice aq m cq) vk cs ys cs wr) := by have := hP.out; rw [HE.out] at this; exact this
   obtain ⟨ak, ck, ek, _⟩ := ORC.at kC2 HP.out.ok
   rw [HN.out] at ek
   subst ek
   obtain ⟨t0, t1, t2, t3, t4, t5, _⟩ := hT.out
   obtain ⟨q0, q1, q2, q3, q4, q5, qz⟩ := hR.out
   have f0 := qz 0
   have f1 := qz 1
   have f2 := qz 2
   have f3 := qz 3
   have f4 := qz 4
   have f5 := qz 5
   have HV : Hid _ := (((((hR.out.s0 (.int .i64 0)).s1 (.int .i64 tag)).s2 (.slice ai n ci)).s3 (.slice aq m cq)).s4 (.slice ak n ck)).s5 (.int .i64 (-1))
   have HPF : Hid _ := (((((HP.out.set B 0 (.int .i64 0) (by omega)).set B 1 (.int .i64 tag) (by omega)).set B 2 (.slice ai n ci) (by omega)).set B 3 (.slice aq m cq) (by omega)).set B 4 (.slice ak n ck) (by omega)).set B 5 (.int .i64 (-1)) (by omega)
   have HBF : Hid _ := (((((hbl.out.setCell (p := ⟨B, 0, none⟩) leR (.int .i64 0)).setCell (p := ⟨B, 1, none⟩) leR (.int .i64 tag)).setCell (p := ⟨B, 2, none⟩) leR (.slice ai n ci)).setCell (p := ⟨B, 3, none⟩) leR (.slice aq m cq)).setCell (p := ⟨B, 4, none⟩) leR (.slice ak n ck)).setCell (p := ⟨B, 5, none⟩) leR (.int .i64 (-1))
   clear qz hT hR hP hbl
   go_wp2
   obtain ⟨z0, z1, z2, z3, z4, z5, _⟩ := HV.out
   refine bodyPost_ret (v := .agg #[.int .i64 0, .int .i64 tag, .slice ai n ci, .slice aq m cq, .slice ak n ck, .int .i64 (-1)]) ?_ rfl ⟨_, _, _, rfl, ?_, ?_⟩
   ·simp [results, Tryz.results82, go_sem, z0, z1, z2, z3, z4, z5]
   ·rw [HBe.out]
    exact HPF.out.lower (by omega)
   ·rw [HBe.out]
    exact HBF
theorem nextChange_any (b o : Nat) (x : Int) (w : World) (h : w.cell? ⟨b, o + 3, none⟩ = some (.int .i64 x)) : Calls Tryz.prog 83 #[.pointer (some ⟨b, o, none⟩)] w fun e w' => e = .returned (.int .i64 x) ∧ w = w' := by
 go_enter Tryz.func83, Tryz.ntmps83
 go_wp2
 go_ret
 exact ⟨rfl, rfl⟩
def unpB (xs : List Cel) (fr : Int) (k : KeyD) : Bool := k.br == 1 && (decide (fr ≤ k.ix) && !paidTo xs k.ad)
def unpZ (xs : List Cel) (s : Int) (g : Nat) (fr : Int) : Option KeyD := (kyZ xs s g).find? (unpB xs fr)
theorem unpaid_any (b o : Nat) (ao : OAd) (n c : Nat) (xs : List Cel) (s : Int) (g : Nat) (fr : Int) (w : World) (hs : Mk.isM s = true) (hg : 1 ≤ g) (hg2 : g ≤ 20) (hp : w.cell? ⟨b, o, none⟩ = some (.slice ao n c)) (hx : CsT w ao xs) (hn : xs.length = n) (hm : n ≤ 1000000) :
 Calls Tryz.prog 84 #[.pointer (some ⟨b, o, none⟩), .int .i64 s, .int .i64 (g : Int), .int .i64 fr] w fun e w' => (∃ x f, e = .returned (.tuple #[.agg #[.int .i64 x.br, .int .i64 x.ix, .int .i64 x.ad], .bool f]) ∧ ((f = false ∧ unpZ xs s g fr = none) ∨ (f = true ∧ unpZ xs s g fr = some x))) ∧ Below w.heap.size w w' := by
 have HN := hiD hn
 have HX := hiD hx
 have HP := hiD hp
 clear hn hx hp
 have hbA : Below w.heap.size w (w.alloc (.cells #[.int .i64 0, .int .i64 0, .int .i64 0] 153)) := (Below.refl _ _).alloc leR _
 have r0 : (w.alloc (.cells #[.int .i64 0, .int .i64 0, .int .i64 0] 153)).cell? ⟨w.heap.size, 0, none⟩ = some (.int .i64 0) := by go_simp
 have r1 : (w.alloc (.cells #[.int .i64 0, .int .i64 0, .int .i64 0] 153)).cell? ⟨w.heap.size, 1, none⟩ = some (.int .i64 0) := by go_simp
 have r2 : (w.alloc (.cells #[.int .i64 0, .int .i64 0, .int .i64 0] 153)).cell? ⟨w.heap.size, 2, none⟩ = some (.int .i64 0) := by go_simp
 have HF : Hid (∀ j, (w.alloc (.cells #[.int .i64 0, .int .i64 0, .int .i64 0] 153)).frozen? ⟨w.heap.size, j, none⟩ = false) := fun j => World.frozen?_alloc_at _ _ _ _ rfl
 go_enter Tryz.func84, Tryz.ntmps84
 go_upto_region 1 with fail
 generalize w.alloc (.cells #[.int .i64 0, .int .i64 0, .int .i64 0] 153) = w0 at *
 have hz0 : w.heap.size < w0.heap.size := clT r0
 have HP0 : Hid (w0.cell? ⟨b, o, none⟩ = some (.slice ao n c)) := (hbA.cell (p := ⟨b, o, none⟩) (clT HP.out)).trans HP.out
 have HX0 := hiD (HX.out.grown hbA)
 clear HP HX
 generalize hB : w.heap.size = B at *
 have HBe := hiD hB
 clear hB
 go_wp2_with fail
 refine (keys_any b o ao n c xs s g _ hs hg hg2 HP0 HX0 HN (by omega)).mono ?_
 rintro e w1 ⟨vk, rfl, hk1, hb1⟩
 have HKL : Hid ((kyZ xs s g).length ≤ 200) := keysZ_len xs s g
 have HUN : Hid (unpZ xs s g fr = (kyZ xs s g).find? (unpB xs fr)) := rfl
 generalize kyZ xs s g = ks at *
 obtain ⟨ak, ck, rfl, hkat⟩ := ORC.at key3 hk1
 generalize hkl : ks.length = kl at *
 have HKN := hiD hkl
 have hkl2 : kl ≤ 200 := HKL.out
 have HKA := hiD hkat
 have HP1 : Hid (w1.cell? ⟨b, o, none⟩ = some (.slice ao n c)) := (hb1.cell (p := ⟨b, o, none⟩) (clT HP0.out)).trans HP0.out
 have HX1 := hiD (HX0.out.grown hb1)
 have HB1 : Hid (Below B w w1) := hbA.trans (hb1.mono (by omega))
 have q0 := (hb1.cell (p := ⟨B, 0, none⟩) hz0).trans r0
 have q1 := (hb1.cell (p := ⟨B, 1, none⟩) hz0).trans r1
 have q2 := (hb1.cell (p := ⟨B, 2, none⟩) hz0).trans r2
 have HF1 : Hid (∀ j, w1.frozen? ⟨B, j, none⟩ = false) := fun j => (hb1.frozen (p := ⟨B, j, none⟩) hz0).trans (HF.out j)
 have hz1 : B < w1.heap.size := clT q0
 clear hkl hk1 hkat hb1 hbA r0 r1 r2 HP0 HX0 HF HKL
 go_wp2
 go_loopw [17] (fun i wr => ∃ k : Nat, k ≤ kl ∧ i = .int .i64 k ∧ Hid (unpZ xs s g fr = (ks.drop k).find? (unpB xs fr)) ∧ Below w1.heap.size w1 wr) (fun i _ => kl - (intOf i).toNat)
 case atStart => exact ⟨0, Nat.zero_le _, rfl, HUN, Below.refl _ _⟩
 case round =>
  obtain ⟨k, hk, rfl, hz, hbl⟩ := hrel
  have hsz := hbl.size
  by_cases hlt : k < kl
  ·rcases HKA.out with hnil | ⟨gk, ok, rfl, hrow⟩
   ·have := HKN.out; rw [hnil] at this; simp at this; omega
   obtain ⟨k0, k1, k2⟩ := keyCells (hrow.grown hbl) k (by rw [HKN.out]; exact hlt)
   have hz' := hz.out
   rw [show ks.drop k = ks.getD k dK :: ks.drop (k + 1) by
    rw [List.drop_eq_getElem_cons (by rw [HKN.out]; exact hlt)]
    simp [List.getD, HKN.out, hlt], List.find?_cons] at hz'
   have HZ : Hid _ := hz'
   clear hz' hz hrow
   generalize ks.getD k dK = y at *
   obtain ⟨y0, y1, y2⟩ := y
   simp only at k0 k1 k2
   have hb4 : Below wr.heap.size wr (wr.alloc (.cells #[.int .i64 y0, .int .i64 y1, .int .i64 y2] 153)) := (Below.refl _ _).alloc leR _
   have hbw4 : Below w1.heap.size w1 (wr.alloc (.cells #[.int .i64 y0, .int .i64 y1, .int .i64 y2] 153)) := hbl.alloc hsz _
   have HP4 : Hid ((wr.alloc (.cells #[.int .i64 y0, .int .i64 y1, .int .i64 y2] 153)).cell? ⟨b, o, none⟩ = some (.slice ao n c)) := (hbw4.cell (p := ⟨b, o, none⟩) (clT HP1.out)).trans HP1.out
   have HX4 := hiD (HX1.out.grown hbw4)
   have x0 : (wr.alloc (.cells #[.int .i64 y0, .int .i64 y1, .int .i64 y2] 153)).cell? ⟨wr.heap.size, 0, none⟩ = some (.int .i64 y0) := by go_simp
   have x1 : (wr.alloc (.cells #[.int .i64 y0, .int .i64 y1, .int .i64 y2] 153)).cell? ⟨wr.heap.size, 1, none⟩ = some (.int .i64 y1) := by go_simp
   have x2 : (wr.alloc (.cells #[.int .i64 y0, .int .i64 y1, .int .i64 y2] 153)).cell? ⟨wr.heap.size, 2, none⟩ = some (.int .i64 y2) := by go_simp
   go_upto_region 4 with fail
   generalize wr.alloc (.cells #[.int .i64 y0, .int .i64 y1, .int .i64 y2] 153) = w4 at *
   generalize wr.heap.size = X at *
   clear k0 k1 k2 hb4
   have hXl : X < w4.heap.size := clT x0
   cases h1 : (y0 == 1)
   ·have HZ2 : Hid (unpZ xs s g fr = (ks.drop (k + 1)).find? (unpB xs fr)) := by have := HZ.out; simp only [unpB, h1, Bool.false_and] at this; exact this
    go_wp2
    go_roundw
    case rel => exact ⟨k + 1, by omega, by go_num, HZ2, hbw4⟩
    case measure => simp [intOf]; omega
   ·by_cases h2 : fr ≤ y1
    ·have hd2 : decide (fr ≤ y1) = true := decide_eq_true h2
     go_wp2_with fail
     refine (isPaid_any b o ao n c xs y2 _ HP4 HX4 HN hm).mono ?_
     rintro e w5 ⟨rfl, hb5⟩
     have hbw5 : Below w1.heap.size w1 w5 := hbw4.trans (hb5.mono (by have := hbw4.size; omega))
     have p0 := (hb5.cell (p := ⟨X, 0, none⟩) hXl).trans x0
     have p1 := (hb5.cell (p := ⟨X, 1, none⟩) hXl).trans x1
     have p2 := (hb5.cell (p := ⟨X, 2, none⟩) hXl).trans x2
     clear x0 x1 x2 hb5
     cases h3 : paidTo xs y2
     ·have HZ2 : Hid (unpZ xs s g fr = some ⟨y0, y1, y2⟩) := by have := HZ.out; simp only [unpB, h1, hd2, h3] at this; exact this
      have s0 := (hbw5.cell (p := ⟨B, 0, none⟩) hz1).trans q0
      have s1 := (hbw5.cell (p := ⟨B, 1, none⟩) hz1).trans q1
      have s2 := (hbw5.cell (p := ⟨B, 2, none⟩) hz1).trans q2
      have f0 := (hbw5.frozen (p := ⟨B, 0, none⟩) hz1).trans (HF1.out 0)
      have f1 := (hbw5.frozen (p := ⟨B, 1, none⟩) hz1).trans (HF1.out 1)
      have f2 := (hbw5.frozen (p := ⟨B, 2, none⟩) hz1).trans (HF1.out 2)
      have HBF : Hid _ := ((((HB1.out.trans (hbw5.mono (by omega))).setCell (p := ⟨B, 0, none⟩) leR (.int .i64 y0)).setCell (p := ⟨B, 1, none⟩) leR (.int .i64 y1)).setCell (p := ⟨B, 2, none⟩) leR (.int .i64 y2))
      go_wp2
      have z0 : (((w5.setCell ⟨B, 0, none⟩ (.int .i64 y0)).setCell ⟨B, 1, none⟩ (.int .i64 y1)).setCell ⟨B, 2, none⟩ (.int .i64 y2)).cell? ⟨B, 0, none⟩ = some (.int .i64 y0) := so (so (ss s0) (by decide)) (by decide)
      have z1 : (((w5.setCell ⟨B, 0, none⟩ (.int .i64 y0)).setCell ⟨B, 1, none⟩ (.int .i64 y1)).setCell ⟨B, 2, none⟩ (.int .i64 y2)).cell? ⟨B, 1, none⟩ = some (.int .i64 y1) := so (ss (so s1 (by decide))) (by decide)
      have z2 : (((w5.setCell ⟨B, 0, none⟩ (.int .i64 y0)).setCell ⟨B, 1, none⟩ (.int .i64 y1)).setCell ⟨B, 2, none⟩ (.int .i64 y2)).cell? ⟨B, 2, none⟩ = some (.int .i64 y2) := ss (so (so s2 (by decide)) (by decide))
      refine bodyPost_ret (v := .tuple #[.agg #[.int .i64 y0, .int .i64 y1, .int .i64 y2], .bool true]) ?_ rfl ⟨⟨⟨y0, y1, y2⟩, true, rfl, Or.inr ⟨rfl, HZ2⟩⟩, ?_⟩
      ·simp [results, Tryz.results84, go_sem, z0, z1, z2]
      ·rw [HBe.out]; exact HBF
     ·have HZ2 : Hid (unpZ xs s g fr = (ks.drop (k + 1)).find? (unpB xs fr)) := by have := HZ.out; simp only [unpB, h1, hd2, h3] at this; exact this
      go_wp2
      go_roundw
      case rel => exact ⟨k + 1, by omega, by go_num, HZ2, hbw5⟩
      case measure => simp [intOf]; omega
    ·have hd2 : decide (fr ≤ y1) = false := decide_eq_false h2
     have HZ2 : Hid (unpZ xs s g fr = (ks.drop (k + 1)).find? (unpB xs fr)) := by have := HZ.out; simp only [unpB, h1, hd2, Bool.false_and] at this; exact this
     go_wp2
     go_roundw
     case rel => exact ⟨k + 1, by omega, by go_num, HZ2, hbw4⟩
     case measure => simp [intOf]; omega
  ·have HZ2 : Hid (unpZ xs s g fr = none) := by have := hz.out; rw [List.drop_of_length_le (by rw [HKN.out]; omega)] at this; exact this
   have s0 := (hbl.cell (p := ⟨B, 0, none⟩) hz1).trans q0
   have s1 := (hbl.cell (p := ⟨B, 1, none⟩) hz1).trans q1
   have s2 := (hbl.cell (p := ⟨B, 2, none⟩) hz1).trans q2
   have f0 := (hbl.frozen (p := ⟨B, 0, none⟩) hz1).trans (HF1.out 0)
   have f1 := (hbl.frozen (p := ⟨B, 1, none⟩) hz1).trans (HF1.out 1)
   have f2 := (hbl.frozen (p := ⟨B, 2, none⟩) hz1).trans (HF1.out 2)
   have HBF : Hid _ := ((((HB1.out.trans (hbl.mono (by omega))).setCell (p := ⟨B, 0, none⟩) leR (.int .i64 0)).setCell (p := ⟨B, 1, none⟩) leR (.int .i64 0)).setCell (p := ⟨B, 2, none⟩) leR (.int .i64 0))
   go_wp2
   have z0 : (((wr.setCell ⟨B, 0, none⟩ (.int .i64 0)).setCell ⟨B, 1, none⟩ (.int .i64 0)).setCell ⟨B, 2, none⟩ (.int .i64 0)).cell? ⟨B, 0, none⟩ = some (.int .i64 0) := so (so (ss s0) (by decide)) (by decide)
   have z1 : (((wr.setCell ⟨B, 0, none⟩ (.int .i64 0)).setCell ⟨B, 1, none⟩ (.int .i64 0)).setCell ⟨B, 2, none⟩ (.int .i64 0)).cell? ⟨B, 1, none⟩ = some (.int .i64 0) := so (ss (so s1 (by decide))) (by decide)
   have z2 : (((wr.setCell ⟨B, 0, none⟩ (.int .i64 0)).setCell ⟨B, 1, none⟩ (.int .i64 0)).setCell ⟨B, 2, none⟩ (.int .i64 0)).cell? ⟨B, 2, none⟩ = some (.int .i64 0) := ss (so (so s2 (by decide)) (by decide))
   refine bodyPost_ret (v := .tuple #[.agg #[.int .i64 0, .int .i64 0, .int .i64 0], .bool false]) ?_ rfl ⟨⟨⟨0, 0, 0⟩, false, rfl, Or.inl ⟨rfl, HZ2⟩⟩, ?_⟩
   ·simp [results, Tryz.results84, go_sem, z0, z1, z2]
   ·rw [HBe.out]; exact HBF
end
section
open Go.RowKit

theorem info159 : (Tryz.prog.info? 159).map (fun i => (i.zero, i.size, i.bytes)) = some (some (.agg #[.int .i64 0, .slice none 0 0, .slice none 0 0, .int .i64 0, .bool false]), 5, 72) := by kernel_rfl
structure LsAt (N : NPr) (w : World) (b o base : Nat) (vl vs : Value) (md nx : Int) (ps : List PayD) (ks : LII) : Prop where
 c0 : w.cell? ⟨b, o, none⟩ = some vl
 c1 : w.cell? ⟨b, o + 1, none⟩ = some vs
 c2 : w.cell? ⟨b, o + 2, none⟩ = some (.int .i64 md)
 c3 : w.cell? ⟨b, o + 3, none⟩ = some (.int .i64 nx)
 fz : ∀ j, w.frozen? ⟨b, j, none⟩ = false
 ol : ORC PayD.v 159 5 w base vl ps
 os : ORC kV 117 2 w base vs ks
 ok : ∀ p ∈ ps, PayOk N w p
 nb : b < base
 nl : ∀ k, vl.ownBlock = some k → vs.ownBlock ≠ some k
 nN : ∀ k, N k → k < w.heap.size ∧ k ≠ b ∧ vl.ownBlock ≠ some k ∧ vs.ownBlock ≠ some k
def lsE (b : Nat) (vl vs : Value) (k : Nat) : Prop := k = b ∨ vl.ownBlock = some k ∨ vs.ownBlock = some k
variable {N : NPr} {w : World} {b o base : Nat} {vl vs : Value} {md nx : Int} {ps : List PayD} {ks : LII}
theorem LsAt.blk (h : LsAt N w b o base vl vs md nx ps ks) : ∀ k, lsE b vl vs k → k < w.heap.size := by
 intro k hk
 rcases hk with e | e | e
 ·rw [e]; exact clT h.c0
 ·exact (h.ol.blk k e).2
 ·exact (h.os.blk k e).2
theorem LsAt.fr {E : NPr} {w' : World} (h : LsAt N w b o base vl vs md nx ps ks) (hf : Fr E w w') (he : ∀ k, lsE b vl vs k → ¬ E k) (hn : ∀ k, N k → ¬ E k) : LsAt N w' b o base vl vs md nx ps ks := by
 have hb : ¬ E b := he b (Or.inl rfl)
 have hl := clT h.c0
 exact ⟨hf.cell h.c0 hb, hf.cell h.c1 hb, hf.cell h.c2 hb, hf.cell h.c3 hb, fun j => (hf.frozen hl hb).trans (h.fz j), hf.own h.ol (fun k hk => he k (Or.inr (Or.inl hk))), hf.own h.os (fun k hk => he k (Or.inr (Or.inr hk))), fun p hp => (h.ok p hp).fr hf hn, h.nb, h.nl, fun k hk => ⟨ltL (h.nN k hk).1 hf.size, (h.nN k hk).2⟩⟩
theorem LsAt.grown {w' : World} (h : LsAt N w b o base vl vs md nx ps ks) (hb : Below w.heap.size w w') : LsAt N w' b o base vl vs md nx ps ks := h.fr (Fr.of_below hb (fun _ => False)) (fun _ _ h => h) (fun _ _ h => h)
theorem LsAt.more {M : NPr} (h : LsAt N w b o base vl vs md nx ps ks) (h1 : ∀ k, N k → M k) (h2 : ∀ k, M k → k < w.heap.size ∧ k ≠ b ∧ vl.ownBlock ≠ some k ∧ vs.ownBlock ≠ some k) : LsAt M w b o base vl vs md nx ps ks :=
 ⟨h.c0, h.c1, h.c2, h.c3, h.fz, h.ol, h.os, fun p hp => by
  have := h.ok p hp
  exact ⟨this.co, this.cl, this.ou, this.ol, fun e a ha => h1 _ (this.nc e a ha), fun e a ha => h1 _ (this.np e a ha), this.b1, this.b2⟩, h.nb, h.nl, h2⟩
theorem LsAt.payM (h : LsAt N w b o base vl vs md nx ps ks) (h1 : ps.length ≤ 9007199254740992) (h2 : ks.length ≤ 9007199254740992) : PayM N w b o ps ks := by
 obtain ⟨a1, c1, e1, r1⟩ := ORC.at pay5 h.ol
 obtain ⟨a2, c2, e2, r2⟩ := ORC.at kv2 h.os
 exact ⟨⟨a1, c1, by rw [h.c0, e1], r1⟩, ⟨a2, c2, by rw [h.c1, e2], r2⟩, h.ok, h1, h2⟩
theorem LsAt.push (h : LsAt N w b o base vl vs md nx ps ks) {w1 : World} {g n c : Nat} {x : PayD} (hown : ORC PayD.v 159 5 w1 base (.slice (some ⟨g, 0, none⟩) n c) (ps ++ [x])) (hg : w.grownBy w1 vl.ownBlock) (hl : vl.ownBlock = some g ∨ w.heap.size ≤ g) (hx : PayOk N w x) :
 LsAt N (w1.setCell ⟨b, o, none⟩ (.slice (some ⟨g, 0, none⟩) n c)) b o base (.slice (some ⟨g, 0, none⟩) n c) vs md nx (ps ++ [x]) ks ∧ Fr (fun k => k = b ∨ vl.ownBlock = some k) w (w1.setCell ⟨b, o, none⟩ (.slice (some ⟨g, 0, none⟩) n c)) := by
 have hbl := clT h.c0
 have hvb : some b ≠ vl.ownBlock := fun e => by have := (h.ol.blk b e.symm).1; have := h.nb; omega
 have hgb := (hown.blk g rfl).1
 have hnb := h.nb
 have hf : Fr (fun k => k = b ∨ vl.ownBlock = some k) w (w1.setCell ⟨b, o, none⟩ (.slice (some ⟨g, 0, none⟩) n c)) := (Fr.of_gb hg (fun k hk _ => Or.inr hk)).set b o _ (fun _ => Or.inl rfl)
 have hnE : ∀ k, N k → ¬ (k = b ∨ vl.ownBlock = some k) := fun k hk e => e.elim (h.nN k hk).2.1 (h.nN k hk).2.2.1
 refine ⟨⟨World.cell?_setCell_same _ _ _ (geL hg h.c0 hvb), so (geL hg h.c1 hvb) (by omega), so (geL hg h.c2 hvb) (by omega), so (geL hg h.c3 hvb) (by omega), fun j => by rw [World.frozen?_setCell]; exact (goN hg hbl hvb).trans (h.fz j), hown.gb (gb_set w1 b o _) (fun k hk e => by simp [Value.ownBlock] at hk; injection e with e; omega), hf.own h.os (fun k hk e => ?_), fun p hp => ?_, h.nb, fun k hk e => ?_, fun k hk => ⟨ltL (h.nN k hk).1 hf.size, (h.nN k hk).2.1, fun e => ?_, (h.nN k hk).2.2.2⟩⟩, hf⟩
 ·rcases e with e | e
  ·have := (h.os.blk k hk).1; omega
  ·exact h.nl k e hk
 ·rcases List.mem_append.1 hp with hp | hp
  ·exact (h.ok p hp).fr hf hnE
  ·rw [List.mem_singleton.1 hp]; exact hx.fr hf hnE
 ·simp [Value.ownBlock] at hk
  subst hk
  rcases hl with h1 | h1
  ·exact h.nl _ h1 e
  ·have := (h.os.blk _ e).2; omega
 ·simp [Value.ownBlock] at e
  subst e
  rcases hl with h1 | h1
  ·exact (h.nN _ hk).2.2.1 h1
  ·have := (h.nN _ hk).1; omega
theorem LsAt.set2 (h : LsAt N w b o base vl vs md nx ps ks) (x : Int) : LsAt N (w.setCell ⟨b, o + 2, none⟩ (.int .i64 x)) b o base vl vs x nx ps ks := by
 have hnb := h.nb
 have hf : Fr (fun k => k = b) w (w.setCell ⟨b, o + 2, none⟩ (.int .i64 x)) := (Fr.refl _ w).set b (o + 2) _ (fun _ => rfl)
 exact ⟨so h.c0 (by omega), so h.c1 (by omega), ss h.c2, so h.c3 (by omega), fun j => by rw [World.frozen?_setCell]; exact h.fz j, hf.own h.ol (fun k hk e => by have := (h.ol.blk k hk).1; omega), hf.own h.os (fun k hk e => by have := (h.os.blk k hk).1; omega), fun p hp => (h.ok p hp).fr hf (fun k hk => (h.nN k hk).2.1), h.nb, h.nl, fun k hk => ⟨by simpa using (h.nN k hk).1, (h.nN k hk).2⟩⟩
theorem LsAt.set3 (h : LsAt N w b o base vl vs md nx ps ks) (x : Int) : LsAt N (w.setCell ⟨b, o + 3, none⟩ (.int .i64 x)) b o base vl vs md x ps ks := by
 have hnb := h.nb
 have hf : Fr (fun k => k = b) w (w.setCell ⟨b, o + 3, none⟩ (.int .i64 x)) := (Fr.refl _ w).set b (o + 3) _ (fun _ => rfl)
 exact ⟨so h.c0 (by omega), so h.c1 (by omega), so h.c2 (by omega), ss h.c3, fun j => by rw [World.frozen?_setCell]; exact h.fz j, hf.own h.ol (fun k hk e => by have := (h.ol.blk k hk).1; omega), hf.own h.os (fun k hk e => by have := (h.os.blk k hk).1; omega), fun p hp => (h.ok p hp).fr hf (fun k hk => (h.nN k hk).2.1), h.nb, h.nl, fun k hk => ⟨by simpa using (h.nN k hk).1, (h.nN k hk).2⟩⟩
end
end Go.Proofs.YtffgpepngcnjeabGreat
