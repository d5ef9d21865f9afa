import Derived.Test.YtffgpepngcnjeabGreatSar
namespace Go.Proofs.YtffgpepngcnjeabGreat
set_option maxRecDepth 100000
set_option maxHeartbeats 4000000
section
open Go.RowKit
variable {E N : NPr} {w w' : World} {T q e k base n c P g b off : Nat} {a0 a1 a2 a3 a4 vl vs : Value} {ao : OAd} {s h md nx r want ch : Int} {xs : List Cel} {ps : List PayD} {ks : LII}
structure P5 (w : World) (T : Nat) (a0 a1 a2 a3 a4 : Value) : Prop where
 c0 : w.cell? ⟨T, 0, none⟩ = some a0
 c1 : w.cell? ⟨T, 1, none⟩ = some a1
 c2 : w.cell? ⟨T, 2, none⟩ = some a2
 c3 : w.cell? ⟨T, 3, none⟩ = some a3
 c4 : w.cell? ⟨T, 4, none⟩ = some a4
 fz : ∀ j, w.frozen? ⟨T, j, none⟩ = false
theorem P5.fr (hf : Fr E w w') (h : P5 w T a0 a1 a2 a3 a4) (he : ¬ E T) : P5 w' T a0 a1 a2 a3 a4 :=
 ⟨hf.cell h.c0 he, hf.cell h.c1 he, hf.cell h.c2 he, hf.cell h.c3 he, hf.cell h.c4 he, fun j => (hf.frozen (clT h.c0) he).trans (h.fz j)⟩
theorem P5.grown (hb : Below w.heap.size w w') (h : P5 w T a0 a1 a2 a3 a4) : P5 w' T a0 a1 a2 a3 a4 := h.fr (Fr.of_below hb (fun _ => False)) (fun h => h)
theorem P5.new (w : World) (a0 a1 a2 a3 a4 : Value) (t : TypeId) : P5 (w.alloc (.cells #[a0, a1, a2, a3, a4] t)) w.heap.size a0 a1 a2 a3 a4 := by
 have hv := vwW w [a0, a1, a2, a3, a4] t
 exact ⟨hv 0 (by simp), hv 1 (by simp), hv 2 (by simp), hv 3 (by simp), hv 4 (by simp), fun j => World.frozen?_alloc_at _ _ _ _ rfl⟩
theorem P5.s1 (h : P5 w T a0 a1 a2 a3 a4) (u : Value) : P5 (w.setCell ⟨T, 1, none⟩ u) T a0 u a2 a3 a4 :=
 ⟨so h.c0 (by decide), ss h.c1, so h.c2 (by decide), so h.c3 (by decide), so h.c4 (by decide), fun j => by rw [World.frozen?_setCell]; exact h.fz j⟩
theorem P5.s2 (h : P5 w T a0 a1 a2 a3 a4) (u : Value) : P5 (w.setCell ⟨T, 2, none⟩ u) T a0 a1 u a3 a4 :=
 ⟨so h.c0 (by decide), so h.c1 (by decide), ss h.c2, so h.c3 (by decide), so h.c4 (by decide), fun j => by rw [World.frozen?_setCell]; exact h.fz j⟩
theorem rec_lt' {α : Type} {f : α → List Value} (hq : ∀ x, (f x).length = q) (hq0 : 0 < q) {l : List α} (h : RcT f w ao l) (hl : 0 < l.length) : ∃ g off, ao = some ⟨g, off, none⟩ ∧ VRow w g off (l.flatMap f) ∧ g < w.heap.size := by
 rcases h with h | ⟨g, off, e, hr⟩
 ·rw [h] at hl; simp at hl
 ·refine ⟨g, off, e, hr, hr.lt (fun e3 => ?_)⟩
  have h3 := rlN f q hq l
  rw [e3] at h3
  simp only [List.length_nil] at h3
  rcases Nat.mul_eq_zero.1 h3.symm with h4 | h4 <;> omega
theorem oaS {α : Type} {f : α → List Value} (hf : ∀ x, (f x).length = k) {xs : List α} (h : ORC f e k w base (.slice ao n c) xs) : RcT f w ao xs := by
 obtain ⟨a2, c2, e2, hat⟩ := ORC.at hf h
 injection e2 with e2 _ _
 subst e2
 exact hat
theorem cell_oth (w : World) (L i j : Nat) (u : Value) (hne : i ≠ j) : (w.setCell ⟨L, i, none⟩ u).cell? ⟨L, j, none⟩ = w.cell? ⟨L, j, none⟩ :=
 World.cell?_setCell_other _ _ _ _ (by intro e; have := congrArg Addr.off e; simp only at this; exact hne this)
def AddOk (N : NPr) (b o base : Nat) (vl vs : Value) (md nx : Int) (ps : List PayD) (ks : LII) (n : Nat) (cs : List CoinD) (m : Nat) (ys : LII) (tag ch : Int) (w w' : World) : Prop :=
 ∃ vl' gc cc go co, LsAt (fun k => N k ∨ k = gc ∨ k = go) w' b o base vl' vs (md + 1) (if nx ≤ ch then ch + 1 else nx) (ps ++ [⟨md, some ⟨gc, 0, none⟩, n, cc, some ⟨go, 0, none⟩, m, co, tag, false, cs, ys⟩]) ks ∧ Fr (fun k => k = b ∨ vl.ownBlock = some k) w w' ∧ w.heap.size ≤ gc ∧ w.heap.size ≤ go ∧ (∀ k, vl'.ownBlock = some k → vl.ownBlock = some k ∨ w.heap.size ≤ k) ∧ (∀ j, j < o → w'.cell? ⟨b, j, none⟩ = w.cell? ⟨b, j, none⟩)
theorem payAdd_any (N : NPr) (b o base : Nat) (vl vs : Value) (md nx : Int) (ps : List PayD) (ks : LII) (ac : OAd) (n c : Nat) (cs : List CoinD) (ap : OAd) (m d : Nat) (ys : LII) (tag ch : Int) (w : World) (hL : LsAt N w b o base vl vs md nx ps ks) (hbs : base ≤ w.heap.size)
 (hx : RcT CoinD.l w ac cs) (hn : cs.length = n) (h0n : 0 < n) (hn10 : n ≤ 10) (hy : OsT w ap ys) (hyn : ys.length = m) (hy0 : 0 < m) (hy8 : m ≤ 8) (hmd : 0 ≤ md ∧ md ≤ 4611686018427387904) (hpl : ps.length ≤ 1000000000000) (hch : -1 ≤ ch ∧ ch ≤ 100) :
 Calls Tryz.prog 87 #[.pointer (some ⟨b, o, none⟩), .slice ac n c, .slice ap m d, .int .i64 tag, .int .i64 ch] w fun e w' => e = .returned (.int .i64 md) ∧ AddOk N b o base vl vs md nx ps ks n cs m ys tag ch w w' := by
 obtain ⟨gx, ox, eac, hxr, hxl⟩ := rec_lt' ci6 (by omega) hx (by omega)
 obtain ⟨gy, oy, eap, hyr, hyl⟩ := rec_lt' kv2 (by omega) (outs_rec hy) (by omega)
 subst eac
 subst eap
 have HN := hiD hn
 have HYN := hiD hyn
 have HL := hiD hL
 have l2 := hL.c2
 have hbl : b < w.heap.size := clT l2
 have HBK := hiD hL.blk
 have HNB : Hid (∀ k, N k → k < w.heap.size) := fun k hk => (hL.nN k hk).1
 have HXR := hiD hxr
 have HYR := hiD hyr
 clear hx hn hy hyn hxr hyr hL
 have hbA : Below w.heap.size w (w.alloc (.cells #[.int .i64 md, .slice none 0 0, .slice none 0 0, .int .i64 tag, .bool false] 159)) := (Below.refl _ _).alloc leR _
 have HT1 : Hid (P5 (w.alloc (.cells #[.int .i64 md, .slice none 0 0, .slice none 0 0, .int .i64 tag, .bool false] 159)) w.heap.size (.int .i64 md) (.slice none 0 0) (.slice none 0 0) (.int .i64 tag) (.bool false)) := P5.new w _ _ _ _ _ 159
 go_enter Tryz.func87, Tryz.ntmps87
 go_upto_region 2 with fail
 have HL1 := hiD (HL.out.grown hbA)
 have HXR1 := hiD (HXR.out.grown hbA)
 have HYR1 := hiD (HYR.out.grown hbA)
 have hz1 : w.heap.size < (w.alloc (.cells #[.int .i64 md, .slice none 0 0, .slice none 0 0, .int .i64 tag, .bool false] 159)).heap.size := by simp
 have HFA : Hid (Fr (fun _ => False) w (w.alloc (.cells #[.int .i64 md, .slice none 0 0, .slice none 0 0, .int .i64 tag, .bool false] 159))) := Fr.of_below hbA _
 generalize w.alloc (.cells #[.int .i64 md, .slice none 0 0, .slice none 0 0, .int .i64 tag, .bool false] 159) = w1 at *
 generalize hT : w.heap.size = T at *
 have HTe := hiD hT
 clear hT hbA HXR HYR l2
 have t1 := HT1.out.c1
 have tf1 := HT1.out.fz 1
 go_upto_region 3 with (at_builtin; refine wpList_appN 45 48 _ Tryz.underlying45 info107 rfl (by decide) ci6 cnE w1 rfl _ _ rfl (T + 1) gx ox n c (.slice none 0 0) [] cs (by rfl) (by rfl) HN h0n (ORC.nil _ _ _ _ _) HXR1 (by omega) (by unfold maxLen; simp; omega) (by simp; omega) ?_; intro gc cc w3 hown3 hg3 hl3 hlt3; simp only [List.length_nil, Nat.zero_add, List.nil_append] at hown3 ⊢; have k2 := geL hg3 t1 (by simp [Value.ownBlock]); have kf := (goN hg3 (by exact hz1) (by simp [Value.ownBlock])).trans tf1)
 have b3 : Below w1.heap.size w1 w3 := gbW hg3 leR (fun r hr => by simp [Value.ownBlock] at hr)
 have hgc : w1.heap.size ≤ gc := hl3.resolve_left (by simp [Value.ownBlock])
 have hz3 := b3.size
 have HOC4 : Hid (ORC CoinD.l 107 6 (w3.setCell ⟨T, 1, none⟩ (.slice (some ⟨gc, 0, none⟩) n cc)) (T + 1) (.slice (some ⟨gc, 0, none⟩) n cc) cs) := osT hown3 _ _ _ (fun e => by simp [Value.ownBlock] at e; omega)
 have HT4 : Hid (P5 (w3.setCell ⟨T, 1, none⟩ (.slice (some ⟨gc, 0, none⟩) n cc)) T (.int .i64 md) (.slice (some ⟨gc, 0, none⟩) n cc) (.slice none 0 0) (.int .i64 tag) (.bool false)) := (HT1.out.grown b3).s1 _
 have hf34 : Fr (fun k => k = T) w1 (w3.setCell ⟨T, 1, none⟩ (.slice (some ⟨gc, 0, none⟩) n cc)) := (Fr.of_below b3 _).set T 1 _ (fun _ => rfl)
 have HL4 : Hid (LsAt N (w3.setCell ⟨T, 1, none⟩ (.slice (some ⟨gc, 0, none⟩) n cc)) b o base vl vs md nx ps ks) := HL1.out.fr hf34 (fun k hk e => by have := HBK.out k hk; omega) (fun k hk e => by have := HNB.out k hk; omega)
 have HYR4 : Hid (VRow (w3.setCell ⟨T, 1, none⟩ (.slice (some ⟨gc, 0, none⟩) n cc)) gy oy (ys.flatMap kV)) := hf34.vrow HYR1.out (by omega)
 have HF4 := hiD hf34
 have hz4 : w3.heap.size = (w3.setCell ⟨T, 1, none⟩ (.slice (some ⟨gc, 0, none⟩) n cc)).heap.size := by simp
 clear hown3 hg3 hl3 k2 kf b3 hf34 HL1 HYR1 HXR1 HT1 t1 tf1
 generalize w3.setCell ⟨T, 1, none⟩ (.slice (some ⟨gc, 0, none⟩) n cc) = w4 at *
 have t2 := HT4.out.c2
 have tf2 := HT4.out.fz 2
 have hTl4 : T < w4.heap.size := by omega
 go_upto_region 4 with (at_builtin; refine wpList_appN 28 16 _ Tryz.underlying28 info93 rfl (by decide) kv2 kv_one w4 rfl _ _ rfl (T + 1) gy oy m d (.slice none 0 0) [] ys (by rfl) (by rfl) HYN hy0 (ORC.nil _ _ _ _ _) HYR4 (by omega) (by unfold maxLen; simp; omega) (by simp; omega) ?_; intro go co w5 hown5 hg5 hl5 hlt5; simp only [List.length_nil, Nat.zero_add, List.nil_append] at hown5 ⊢; have k2 := geL hg5 t2 (by simp [Value.ownBlock]); have kf := (goN hg5 (by exact hTl4) (by simp [Value.ownBlock])).trans tf2)
 have b5 : Below w4.heap.size w4 w5 := gbW hg5 leR (fun r hr => by simp [Value.ownBlock] at hr)
 have hgo : w4.heap.size ≤ go := hl5.resolve_left (by simp [Value.ownBlock])
 have hz5 := b5.size
 have hf56 : Fr (fun k => k = T) w4 (w5.setCell ⟨T, 2, none⟩ (.slice (some ⟨go, 0, none⟩) m co)) := (Fr.of_below b5 _).set T 2 _ (fun _ => rfl)
 have HOO6 : Hid (ORC kV 93 2 (w5.setCell ⟨T, 2, none⟩ (.slice (some ⟨go, 0, none⟩) m co)) (T + 1) (.slice (some ⟨go, 0, none⟩) m co) ys) := osT hown5 _ _ _ (fun e => by simp [Value.ownBlock] at e; omega)
 have HOC6 : Hid (ORC CoinD.l 107 6 (w5.setCell ⟨T, 2, none⟩ (.slice (some ⟨go, 0, none⟩) m co)) (T + 1) (.slice (some ⟨gc, 0, none⟩) n cc) cs) := hf56.own HOC4.out (fun k hk e => by simp [Value.ownBlock] at hk; omega)
 have HT6 : Hid (P5 (w5.setCell ⟨T, 2, none⟩ (.slice (some ⟨go, 0, none⟩) m co)) T (.int .i64 md) (.slice (some ⟨gc, 0, none⟩) n cc) (.slice (some ⟨go, 0, none⟩) m co) (.int .i64 tag) (.bool false)) := (HT4.out.grown b5).s2 _
 have HL6 : Hid (LsAt N (w5.setCell ⟨T, 2, none⟩ (.slice (some ⟨go, 0, none⟩) m co)) b o base vl vs md nx ps ks) := HL4.out.fr hf56 (fun k hk e => by have := HBK.out k hk; omega) (fun k hk e => by have := HNB.out k hk; omega)
 have HF6 : Hid (Fr (fun _ => False) w (w5.setCell ⟨T, 2, none⟩ (.slice (some ⟨go, 0, none⟩) m co))) := by
  have h1 := HF4.out.trans hf56
  exact ⟨h1.os.trans HFA.out.os, h1.tape.trans HFA.out.tape, h1.output.trans HFA.out.output, leT HFA.out.size h1.size, fun k hk he => (h1.block k (ltL hk HFA.out.size) (fun e => by have := HTe.out; omega)).trans (HFA.out.block k hk he)⟩
 have hz6 : w5.heap.size = (w5.setCell ⟨T, 2, none⟩ (.slice (some ⟨go, 0, none⟩) m co)).heap.size := by simp
 clear hown5 hg5 hl5 k2 kf b5 hf56 HL4 HYR4 HT4 HOC4 HF4 HFA t2 tf2
 generalize w5.setCell ⟨T, 2, none⟩ (.slice (some ⟨go, 0, none⟩) m co) = w6 at *
 have l0 := HL6.out.c0
 have lf := HL6.out.fz o
 have hvlb : some b ≠ vl.ownBlock := fun e => by have := (HL6.out.ol.blk b e.symm).1; have := HL6.out.nb; omega
 have hb6 : b < w6.heap.size := by omega
 obtain ⟨t0, t1, t2, t3, t4, tz⟩ := HT6.out
 have hT6 : T < w6.heap.size := clT t0
 clear tz
 go_region_law (refine saR 98 72 _ Tryz.underlying98 info159 rfl (by decide) pay5 pay_one _ ?_ (.tmp 32) (.tmp 34) ?_ base w6.heap.size 1 vl ps ⟨md, some ⟨gc, 0, none⟩, n, cc, some ⟨go, 0, none⟩, m, co, tag, false, cs, ys⟩ ?_ ?_ ?_ ?_ ?_ ?_ ?_ ?_; rfl; rfl; rfl; rfl; exact ORC.drew (HL6.out.ol.alloc _); exact VRow.drew (vwW w6 _ _); (rw [World.size_drew, World.size_alloc]; omega); (unfold maxLen; omega); (omega); intro gl capl w10 hown10 hg10 hl10 hlt10; have k0 := keepO hg10 l0 hvlb; have k1 := keepF hg10 lf hb6 hvlb)
 all_goals
  have bW : Below w6.heap.size w6 ((w6.alloc (.cells #[.int .i64 md, .slice (some ⟨gc, 0, none⟩) n cc, .slice (some ⟨go, 0, none⟩) m co, .int .i64 tag, .bool false] 159)).drew) := (bAl _ _).drew
  have hzW : ((w6.alloc (.cells #[.int .i64 md, .slice (some ⟨gc, 0, none⟩) n cc, .slice (some ⟨go, 0, none⟩) m co, .int .i64 tag, .bool false] 159)).drew).heap.size = w6.heap.size + 1 := by rw [World.size_drew, World.size_alloc]
  have hLM : LsAt (fun k => N k ∨ k = gc ∨ k = go) ((w6.alloc (.cells #[.int .i64 md, .slice (some ⟨gc, 0, none⟩) n cc, .slice (some ⟨go, 0, none⟩) m co, .int .i64 tag, .bool false] 159)).drew) b o base vl vs md nx ps ks := (HL6.out.grown bW).more (fun k hk => Or.inl hk) (fun k hk => by
   rcases hk with hk | hk | hk
   ·exact (HL6.out.grown bW).nN k hk
   ·subst hk
    exact ⟨by omega, by omega, fun e => by have := HBK.out _ (Or.inr (Or.inl e)); omega, fun e => by have := HBK.out _ (Or.inr (Or.inr e)); omega⟩
   ·subst hk
    exact ⟨by omega, by omega, fun e => by have := HBK.out _ (Or.inr (Or.inl e)); omega, fun e => by have := HBK.out _ (Or.inr (Or.inr e)); omega⟩)
  have hPX : PayOk (fun k => N k ∨ k = gc ∨ k = go) ((w6.alloc (.cells #[.int .i64 md, .slice (some ⟨gc, 0, none⟩) n cc, .slice (some ⟨go, 0, none⟩) m co, .int .i64 tag, .bool false] 159)).drew) ⟨md, some ⟨gc, 0, none⟩, n, cc, some ⟨go, 0, none⟩, m, co, tag, false, cs, ys⟩ := ⟨oaS ci6 (HOC6.out.grown bW), HN.out, roS (oaS kv2 (HOO6.out.grown bW)), HYN.out, fun _ a ha => by injection ha with ha; subst ha; exact Or.inr (Or.inl rfl), fun _ a ha => by injection ha with ha; subst ha; exact Or.inr (Or.inr rfl), hn10, hy8⟩
  obtain ⟨hL11, hf11⟩ := hLM.push hown10 hg10 hl10 hPX
  have HL11 : Hid _ := hL11
  have HF11 : Hid (Fr (fun k => k = b ∨ vl.ownBlock = some k) w (w10.setCell ⟨b, o, none⟩ (.slice (some ⟨gl, 0, none⟩) (ps.length + 1) capl))) := (HF6.out.weak (fun _ _ e => e.elim)).trans ((Fr.of_below bW _).trans hf11)
  have hnT : ¬ (T = b ∨ vl.ownBlock = some T) := fun e => by
   rcases e with e | e
   ·omega
   ·have := HBK.out _ (Or.inr (Or.inl e)); omega
  have x0 := hf11.cell ((bW.cell (p := ⟨T, 0, none⟩) hT6).trans t0) hnT
  have HVL : Hid (∀ k, (Value.slice (some ⟨gl, 0, none⟩) (ps.length + 1) capl).ownBlock = some k → vl.ownBlock = some k ∨ T ≤ k) := fun k hk => by
   simp [Value.ownBlock] at hk
   subst hk
   exact hl10.imp id (fun h => by omega)
  have HCJ : Hid (∀ j, j < o → (w10.setCell ⟨b, o, none⟩ (.slice (some ⟨gl, 0, none⟩) (ps.length + 1) capl)).cell? ⟨b, j, none⟩ = w.cell? ⟨b, j, none⟩) := fun j hj => by
   rw [cell_oth _ _ _ _ _ (by omega), World.cell?_of_block (hg10.block b (by omega) hvlb), World.cell?_of_block (bW.block b hb6), World.cell?_of_block (HF6.out.block b (by rw [HTe.out]; exact hbl) (fun h => h))]
  clear hown10 hg10 hl10 hlt10 k0 k1 hL11 hf11 hLM hPX bW hzW t0 t1 t2 t3 t4 l0 lf
  generalize w10.setCell ⟨b, o, none⟩ (.slice (some ⟨gl, 0, none⟩) (ps.length + 1) capl) = w11 at *
  have y2 := HL11.out.c2
  have g2 := HL11.out.fz (o + 2)
  have y3 := HL11.out.c3
  have g3 := HL11.out.fz (o + 3)
  have hw1 : IntKind.i64.wrap (md + 1) = md + 1 := IntWalk.i64_in _ ⟨by omega, by omega⟩
  have hw2 : IntKind.i64.wrap (ch + 1) = ch + 1 := IntWalk.i64_in _ ⟨by omega, by omega⟩
  have HL12 : Hid _ := HL11.out.set2 (md + 1)
  have HF12 : Hid (Fr (fun k => k = b ∨ vl.ownBlock = some k) w (w11.setCell ⟨b, o + 2, none⟩ (.int .i64 (md + 1)))) := HF11.out.set b (o + 2) _ (fun _ => Or.inl rfl)
  have z0 := sob (K := b) (i := o + 2) (u := .int .i64 (md + 1)) x0 (by omega)
  have z3 := so (i := o + 2) (u := .int .i64 (md + 1)) y3 (by omega)
  have h3 := HL12.out.fz (o + 3)
  by_cases hnc : nx ≤ ch
  ·have HL13 : Hid _ := HL12.out.set3 (ch + 1)
   have HF13 : Hid (Fr (fun k => k = b ∨ vl.ownBlock = some k) w ((w11.setCell ⟨b, o + 2, none⟩ (.int .i64 (md + 1))).setCell ⟨b, o + 3, none⟩ (.int .i64 (ch + 1)))) := HF12.out.set b (o + 3) _ (fun _ => Or.inl rfl)
   have q0 := sob (K := b) (i := o + 3) (u := .int .i64 (ch + 1)) z0 (by omega)
   go_wp2
   go_ret
   refine ⟨rfl, ?_⟩
   unfold AddOk
   rw [HTe.out, if_pos (show nx ≤ ch by omega)]
   exact ⟨_, gc, cc, go, co, HL13, HF13, by omega, by omega, HVL, fun j hj => by rw [cell_oth _ _ _ _ _ (by omega), cell_oth _ _ _ _ _ (by omega)]; exact HCJ j hj⟩
  ·have hnd : decide (nx ≤ ch) = false := decide_eq_false hnc
   go_wp2
   go_ret
   refine ⟨rfl, ?_⟩
   unfold AddOk
   rw [HTe.out, if_neg (show ¬ nx ≤ ch by omega)]
   exact ⟨_, gc, cc, go, co, HL12, HF12, by omega, by omega, HVL, fun j hj => by rw [cell_oth _ _ _ _ _ (by omega)]; exact HCJ j hj⟩
def CoinD.inD (x : CoinD) : InD := ⟨x.id, x.pos, none, 0, 0, []⟩
def payFin (xs : List Cel) (tag : Int) (cs : List CoinD) (ys : LII) (ch : Int) : Sum Int (List CoinD × LII × Int) :=
 if hasId xs (idZ tag (cs.map CoinD.inD) ys) = true then .inl 4 else .inr (cs, ys, ch)
def payZ (xs : List Cel) (s : Int) (g : Nat) (ps : List PayD) (ks : LII) (nx : Int) (ys : LII) (r tag : Int) : Sum Int (List CoinD × LII × Int) :=
 if r < 0 ∨ 1000 < r ∨ ¬ (0 ≤ tag ∧ tag ≤ 1099511627776) then .inl 1
 else if 7 < ys.length ∨ rOuts ys = false then .inl 2
 else match coZ r (oeZ r ((onF xs s g).filter (freeB ps ks))) (tgZ ys r) with
  | none => .inl 9
  | some (cs, ch) => if 0 < ch then (match unpZ xs s g nx with
   | none => .inl 10
   | some k => payFin xs tag cs (ys ++ [(k.ad, ch)]) k.ix) else payFin xs tag cs ys (-1)
structure PP (N : NPr) (w : World) (P : Nat) (s : Int) (g : Nat) (v : Value) (h : Int) (xs : List Cel) (vl vs : Value) (md nx : Int) (ps : List PayD) (ks : LII) : Prop where
 pu : PAt [] w P s g v h xs
 ls : LsAt N w P 4 (P + 1) vl vs md nx ps ks
 dj : ∀ k, v.ownBlock = some k → vl.ownBlock ≠ some k ∧ vs.ownBlock ≠ some k ∧ ¬ N k
theorem PP.fr {v : Value} (u : PP N w P s g v h xs vl vs md nx ps ks) (hf : Fr E w w') (h1 : ∀ k, chE P v k → ¬ E k) (h2 : ∀ k, lsE P vl vs k → ¬ E k) (h3 : ∀ k, N k → ¬ E k) : PP N w' P s g v h xs vl vs md nx ps ks :=
 ⟨u.pu.fr hf h1, u.ls.fr hf h2 h3, u.dj⟩
theorem PP.grown {v : Value} (u : PP N w P s g v h xs vl vs md nx ps ks) (hb : Below w.heap.size w w') : PP N w' P s g v h xs vl vs md nx ps ks :=
 u.fr (Fr.of_below hb (fun _ => False)) (fun _ _ h => h) (fun _ _ h => h) (fun _ _ h => h)
def PayGo (N : NPr) (P : Nat) (s : Int) (g : Nat) (v : Value) (h : Int) (xs : List Cel) (vl vs : Value) (md nx : Int) (ps : List PayD) (ks : LII) (tag : Int) (cs : List CoinD) (ys : LII) (ch : Int) (vi vo vk : Value) (w w' : World) : Prop :=
 ∃ vl' gc cc go co, PP (fun k => N k ∨ k = gc ∨ k = go) w' P s g v h xs vl' vs (md + 1) (if nx ≤ ch then ch + 1 else nx) (ps ++ [⟨md, some ⟨gc, 0, none⟩, cs.length, cc, some ⟨go, 0, none⟩, ys.length, co, tag, false, cs, ys⟩]) ks ∧ PdOk w.heap.size vi vo vk cs ys cs w' ∧ Fr (fun k => k = P ∨ vl.ownBlock = some k) w w' ∧ (∀ k, (vl'.ownBlock = some k ∨ k = gc ∨ k = go) → vl.ownBlock = some k ∨ (w.heap.size ≤ k ∧ vi.ownBlock ≠ some k ∧ vo.ownBlock ≠ some k ∧ vk.ownBlock ≠ some k))
def PayOkR (N : NPr) (P : Nat) (s : Int) (g : Nat) (v : Value) (h : Int) (xs : List Cel) (vl vs : Value) (md nx : Int) (ps : List PayD) (ks : LII) (ys : LII) (r tag : Int) (a0 a1 a2 a3 a4 a5 : Value) (er : Int) (w w' : World) : Prop :=
 (∃ x, payZ xs s g ps ks nx ys r tag = .inl x ∧ er = x ∧ a0 = .int .i64 0 ∧ a1 = .int .i64 0 ∧ a2 = .slice none 0 0 ∧ a3 = .slice none 0 0 ∧ a4 = .slice none 0 0 ∧ a5 = .int .i64 0 ∧ Below w.heap.size w w') ∨
 (∃ cs zs ch, payZ xs s g ps ks nx ys r tag = .inr (cs, zs, ch) ∧ er = 0 ∧ a0 = .int .i64 md ∧ a1 = .int .i64 tag ∧ a5 = .int .i64 ch ∧ PayGo N P s g v h xs vl vs md nx ps ks tag cs zs ch a2 a3 a4 w w')
theorem mem_choose {l : List CoinD} {cs : List CoinD} (h : coZ r l want = some (cs, ch)) : (∀ x ∈ cs, x ∈ l) ∧ cs.length ≤ 10 := by
 unfold coZ at h
 split at h
 ·injection h with h
  injection h with h1 _
  subst h1
  unfold memP
  refine ⟨fun x hx => ?_, ?_⟩
  ·obtain ⟨i, hi, rfl⟩ := List.mem_map.1 hx
   have := (List.mem_filter.1 hi).2
   rw [Bool.and_eq_true, decide_eq_true_iff] at this
   exact gDM l dN i this.1
  ·have := rAa (fun i => decide (i < l.length) && bitN (bestP r l want (want + scZ r)) 8 i) (fun i => l.getD i dN) 8
   omega
 ·split at h
  ·cases h
  ·rename_i hn
   injection h with h
   injection h with h1 _
   subst h1
   exact ⟨fun x hx => List.mem_of_mem_take hx, by rw [List.length_take]; omega⟩
structure MadeD where
 num : Int
 tag : Int
 ai : OAd
 n : Nat
 c : Nat
 ap : OAd
 m : Nat
 d : Nat
 ak : OAd
 q : Nat
 e : Nat
 ch : Int
 ac : OAd
 x : Nat
 y : Nat
 lv : Bool
 sg : Bool
 cs : List CoinD
 zs : LII
def dM : MadeD := ⟨0, 0, none, 0, 0, none, 0, 0, none, 0, 0, 0, none, 0, 0, false, false, [], []⟩
def MadeD.v (a : MadeD) : List Value := [.int .i64 a.num, .int .i64 a.tag, .slice a.ai a.n a.c, .slice a.ap a.m a.d, .slice a.ak a.q a.e, .int .i64 a.ch, .slice a.ac a.x a.y, .bool a.lv, .bool a.sg]
theorem made9 (a : MadeD) : a.v.length = 9 := rfl
theorem made_one (a : MadeD) : ∀ u ∈ a.v, u.oneCell' = true := by
 intro u hu
 simp only [MadeD.v, List.mem_cons, List.not_mem_nil, or_false] at hu
 rcases hu with rfl | rfl | rfl | rfl | rfl | rfl | rfl | rfl | rfl <;> rfl
structure MadeCells (w : World) (b off : Nat) (a : MadeD) : Prop where
 c0 : w.cell? ⟨b, off, none⟩ = some (.int .i64 a.num)
 c1 : w.cell? ⟨b, off + 1, none⟩ = some (.int .i64 a.tag)
 c2 : w.cell? ⟨b, off + 2, none⟩ = some (.slice a.ai a.n a.c)
 c3 : w.cell? ⟨b, off + 3, none⟩ = some (.slice a.ap a.m a.d)
 c4 : w.cell? ⟨b, off + 4, none⟩ = some (.slice a.ak a.q a.e)
 c5 : w.cell? ⟨b, off + 5, none⟩ = some (.int .i64 a.ch)
 c6 : w.cell? ⟨b, off + 6, none⟩ = some (.slice a.ac a.x a.y)
 c7 : w.cell? ⟨b, off + 7, none⟩ = some (.bool a.lv)
 c8 : w.cell? ⟨b, off + 8, none⟩ = some (.bool a.sg)
theorem madeCells {xs : List MadeD} (h : VRow w b off (xs.flatMap MadeD.v)) (j : Nat) (hj : j < xs.length) : MadeCells w b (off + j * 9) (xs.getD j dM) :=
 ⟨reL made9 dM h j hj 0 (by omega), reL made9 dM h j hj 1 (by omega), reL made9 dM h j hj 2 (by omega), reL made9 dM h j hj 3 (by omega), reL made9 dM h j hj 4 (by omega), reL made9 dM h j hj 5 (by omega), reL made9 dM h j hj 6 (by omega), reL made9 dM h j hj 7 (by omega), reL made9 dM h j hj 8 (by omega)⟩
structure MadeOk (N : NPr) (w : World) (a : MadeD) : Prop where
 ins : RcT inC w a.ai a.cs
 outs : RcT kV w a.ap a.zs
 keys : RcT kC w a.ak a.cs
 coins : RcT CoinD.l w a.ac a.cs
 ln : a.cs.length = a.n
 lm : a.zs.length = a.m
 lq : a.cs.length = a.q
 lx : a.cs.length = a.x
 b1 : a.cs.length ≤ 10
 b2 : a.zs.length ≤ 8
 ni : a.cs ≠ [] → ∀ p, (a.ai = some p ∨ a.ak = some p ∨ a.ac = some p) → N p.block
 no : a.zs ≠ [] → ∀ p, a.ap = some p → N p.block
theorem MadeOk.grown {a : MadeD} (h : MadeOk N w a) (hb : Below w.heap.size w w') : MadeOk N w' a := ⟨h.ins.grown hb, h.outs.grown hb, h.keys.grown hb, h.coins.grown hb, h.ln, h.lm, h.lq, h.lx, h.b1, h.b2, h.ni, h.no⟩
def takenB (ms : List MadeD) (id pos : Int) : Bool := ms.any fun a => a.cs.any fun x => a.lv && (x.id == id && x.pos == pos)
def usedR (ms : List MadeD) (kb ki : Int) : Bool := ms.any fun a => a.cs.any fun x => a.sg && (x.br == kb && x.ix == ki)
theorem taken_any (N : NPr) (D : Nat) (ao : OAd) (n c : Nat) (ms : List MadeD) (x : CoinD) (w : World) (hp : w.cell? ⟨D, 5, none⟩ = some (.slice ao n c)) (hx : RcT MadeD.v w ao ms) (hn : ms.length = n) (hm : n ≤ 9007199254740992) (hok : ∀ a ∈ ms, MadeOk N w a) :
 Calls Tryz.prog 215 #[.pointer (some ⟨D, 0, none⟩), coinV x] w fun e w' => e = .returned (.bool (takenB ms x.id x.pos)) ∧ Below w.heap.size w w' := by
 obtain ⟨x0, x1, x2, x3, x4, x5⟩ := x
 simp only
 have HN := hiD hn
 have HX := hiD hx
 have HO := hiD hok
 have hDl : D < w.heap.size := clT hp
 clear hn hx hok
 go_enter Tryz.func215, Tryz.ntmps215
 go_wp2
 go_loopw [5] (fun i wr => ∃ k : Nat, k ≤ n ∧ i = .int .i64 k ∧ Hid ((ms.take k).any (fun a => a.cs.any fun x => a.lv && (x.id == x0 && x.pos == x1)) = false) ∧ wr.cell? ⟨w.heap.size, 0, none⟩ = some (.int .i64 x0) ∧ wr.cell? ⟨w.heap.size, 1, none⟩ = some (.int .i64 x1) ∧ Below w.heap.size w wr) (fun i _ => n - (intOf i).toNat)
 case atStart => exact ⟨0, Nat.zero_le _, rfl, by show List.any _ _ = false; simp, by go_simp, by go_simp, (Below.refl _ _).alloc leR _⟩
 case round =>
  obtain ⟨k, hk, rfl, hany, b0, b1, hbl⟩ := hrel
  have p0 := (hbl.cell (p := ⟨D, 5, none⟩) hDl).trans hp
  by_cases hlt : k < n
  ·rcases HX.out with hnil | ⟨g, off, rfl, hrow⟩
   ·have := HN.out; rw [hnil] at this; simp at this; omega
   have HM : Hid _ := madeCells hrow k (by rw [HN.out]; exact hlt)
   have HS : Hid _ := any_no (fun a : MadeD => a.cs.any fun x => a.lv && (x.id == x0 && x.pos == x1)) ms dM k (by rw [HN.out]; exact hlt) hany.out
   have HZ : Hid _ := ayS (fun a : MadeD => a.cs.any fun x => a.lv && (x.id == x0 && x.pos == x1)) ms dM k (by rw [HN.out]; exact hlt)
   have hk0 := HO.out (ms.getD k dM) (gDM ms dM k (by rw [HN.out]; exact hlt))
   have HCO := hiD hk0.coins
   have HCL := hiD hk0.lx
   have hb10 : (ms.getD k dM).x ≤ 10 := by rw [← hk0.lx]; exact hk0.b1
   clear hrow hk0
   generalize ms.getD k dM = y at *
   obtain ⟨ynum, ytag, yai, yn, yc, yap, ym, yd, yak, yq, ye, ych, yac, yx, yy, ylv, ysg, ycs, yzs⟩ := y
   simp only at HM HCO HCL hb10
   have hkI : (k : Int) < (n : Int) := by omega
   have hk0 : (0 : Int) ≤ (k : Int) := by omega
   have m6 := (hbl.cell (p := ⟨g, off + k * 9 + 6, none⟩) (clT HM.out.c6)).trans HM.out.c6
   have m7 := (hbl.cell (p := ⟨g, off + k * 9 + 7, none⟩) (clT HM.out.c7)).trans HM.out.c7
   obtain ⟨wo, rfl⟩ : ∃ wo : World, wo = wr := ⟨_, rfl⟩
   go_wp2
   go_loopw [6] (fun i wr => ∃ j : Nat, j ≤ yx ∧ i = .int .i64 j ∧ Hid ((ycs.take j).any (fun x => ylv && (x.id == x0 && x.pos == x1)) = false) ∧ Below wo.heap.size wo wr) (fun i _ => yx - (intOf i).toNat)
   case atStart => exact ⟨0, Nat.zero_le _, rfl, by show List.any _ _ = false; simp, Below.refl _ _⟩
   case round =>
    obtain ⟨j, hj, rfl, hany2, hbo⟩ := hrel
    have hszo := hbo.size
    have hbw : Below w.heap.size w wr := hbl.trans (hbo.mono hbl.size)
    have q0 := (hbo.cell (p := ⟨D, 5, none⟩) (clT p0)).trans p0
    have q6 := (hbo.cell (p := ⟨g, off + k * 9 + 6, none⟩) (clT m6)).trans m6
    have q7 := (hbo.cell (p := ⟨g, off + k * 9 + 7, none⟩) (clT m7)).trans m7
    have r0 := (hbo.cell (p := ⟨w.heap.size, 0, none⟩) (clT b0)).trans b0
    have r1 := (hbo.cell (p := ⟨w.heap.size, 1, none⟩) (clT b1)).trans b1
    by_cases hlt2 : j < yx
    ·rcases HCO.out with hnil | ⟨g2, off2, rfl, hrow⟩
     ·have := HCL.out; rw [hnil] at this; simp at this; omega
     obtain ⟨d0, d1, d2, d3, d4, d5⟩ := cCS (hrow.grown hbw) j (by rw [HCL.out]; exact hlt2)
     have HS2 : Hid _ := any_no (fun x : CoinD => ylv && (x.id == x0 && x.pos == x1)) ycs dN j (by rw [HCL.out]; exact hlt2) hany2.out
     have HZ2 : Hid _ := ayS (fun x : CoinD => ylv && (x.id == x0 && x.pos == x1)) ycs dN j (by rw [HCL.out]; exact hlt2)
     have hjI : (j : Int) < (yx : Int) := by omega
     have hj0 : (0 : Int) ≤ (j : Int) := by omega
     clear hrow
     generalize ycs.getD j dN = z at d0 d1 d2 d3 d4 d5 HS2 HZ2
     obtain ⟨z0, z1, z2, z3, z4, z5⟩ := z
     simp only at d0 d1 d2 d3 d4 d5
     have bX : Below wr.heap.size wr (wr.alloc (.cells #[.int .i64 z0, .int .i64 z1, .int .i64 z2, .int .i64 z3, .int .i64 z4, .int .i64 z5] 107)) := (Below.refl _ _).alloc leR _
     have s0 := (bX.cell (p := ⟨D, 5, none⟩) (clT q0)).trans q0
     have s7 := (bX.cell (p := ⟨g, off + k * 9 + 7, none⟩) (clT q7)).trans q7
     have t0 := (bX.cell (p := ⟨w.heap.size, 0, none⟩) (clT r0)).trans r0
     have t1 := (bX.cell (p := ⟨w.heap.size, 1, none⟩) (clT r1)).trans r1
     obtain ⟨v0, v1, _, _, _, _⟩ := xrow (vwW wr [.int .i64 z0, .int .i64 z1, .int .i64 z2, .int .i64 z3, .int .i64 z4, .int .i64 z5] 107)
     have hb9 : Below wo.heap.size wo (wr.alloc (.cells #[.int .i64 z0, .int .i64 z1, .int .i64 z2, .int .i64 z3, .int .i64 z4, .int .i64 z5] 107)) := hbo.alloc hszo _
     have HBF : Hid (Below w.heap.size w (wr.alloc (.cells #[.int .i64 z0, .int .i64 z1, .int .i64 z2, .int .i64 z3, .int .i64 z4, .int .i64 z5] 107))) := hbl.trans (hb9.mono hbl.size)
     go_upto_region 8 with fail
     clear d0 d1 d2 d3 d4 d5 q0 q6 q7 r0 r1 bX
     generalize wr.alloc (.cells #[.int .i64 z0, .int .i64 z1, .int .i64 z2, .int .i64 z3, .int .i64 z4, .int .i64 z5] 107) = w9 at *
     generalize wr.heap.size = X at *
     cases hlv : ylv
     ·go_wp2
      go_roundw
      case rel => exact ⟨j + 1, by omega, by go_num, HS2 (by rw [hlv]; rfl), hb9⟩
      case measure => simp [intOf]; omega
     ·cases h1 : (z0 == x0)
      ·go_wp2
       go_roundw
       case rel => exact ⟨j + 1, by omega, by go_num, HS2 (by simp [h1]), hb9⟩
       case measure => simp [intOf]; omega
      ·cases h2 : (z1 == x1)
       ·go_wp2
        go_roundw
        case rel => exact ⟨j + 1, by omega, by go_num, HS2 (by simp [h2]), hb9⟩
        case measure => simp [intOf]; omega
       ·go_wp2
        go_ret
        exact ⟨rbL (HZ (HZ2 (by show (ylv && (z0 == x0 && z1 == x1)) = true; rw [hlv, h1, h2]; rfl))).symm, HBF⟩
    ·have HE : Hid _ := adE (fun x : CoinD => ylv && (x.id == x0 && x.pos == x1)) ycs yx HCL.out j (by omega) hany2.out
     go_wp2
     go_roundw
     case rel => exact ⟨k + 1, by omega, by go_num, HS HE.out.symm, r0, r1, hbw⟩
     case measure => simp [intOf]; omega
  ·go_wp2
   go_ret
   exact ⟨rbL (adE _ ms n HN k (by omega) hany.out), hbl⟩
theorem kcCells {xs : List CoinD} (h : VRow w b off (xs.flatMap kC)) (j : Nat) (hj : j < xs.length) : w.cell? ⟨b, off + j * 2, none⟩ = some (.int .i64 (xs.getD j dN).br) ∧ w.cell? ⟨b, off + j * 2 + 1, none⟩ = some (.int .i64 (xs.getD j dN).ix) :=
 ⟨reL kC2 dN h j hj 0 (by omega), reL kC2 dN h j hj 1 (by omega)⟩
theorem used_any (N : NPr) (D : Nat) (ao : OAd) (n c : Nat) (ms : List MadeD) (kb ki : Int) (w : World) (hp : w.cell? ⟨D, 5, none⟩ = some (.slice ao n c)) (hx : RcT MadeD.v w ao ms) (hn : ms.length = n) (hm : n ≤ 9007199254740992) (hok : ∀ a ∈ ms, MadeOk N w a) :
 Calls Tryz.prog 175 #[.pointer (some ⟨D, 0, none⟩), .agg #[.int .i64 kb, .int .i64 ki]] w fun e w' => e = .returned (.bool (usedR ms kb ki)) ∧ Below w.heap.size w w' := by
 have HN := hiD hn
 have HX := hiD hx
 have HO := hiD hok
 have hDl : D < w.heap.size := clT hp
 clear hn hx hok
 go_enter Tryz.func175, Tryz.ntmps175
 go_wp2
 go_loopw [5] (fun i wr => ∃ k : Nat, k ≤ n ∧ i = .int .i64 k ∧ Hid ((ms.take k).any (fun a => a.cs.any fun x => a.sg && (x.br == kb && x.ix == ki)) = false) ∧ wr.cell? ⟨w.heap.size, 0, none⟩ = some (.int .i64 kb) ∧ wr.cell? ⟨w.heap.size, 1, none⟩ = some (.int .i64 ki) ∧ Below w.heap.size w wr) (fun i _ => n - (intOf i).toNat)
 case atStart => exact ⟨0, Nat.zero_le _, rfl, by show List.any _ _ = false; simp, by go_simp, by go_simp, (Below.refl _ _).alloc leR _⟩
 case round =>
  obtain ⟨k, hk, rfl, hany, b0, b1, hbl⟩ := hrel
  have p0 := (hbl.cell (p := ⟨D, 5, none⟩) hDl).trans hp
  by_cases hlt : k < n
  ·rcases HX.out with hnil | ⟨g, off, rfl, hrow⟩
   ·have := HN.out; rw [hnil] at this; simp at this; omega
   have HM : Hid _ := madeCells hrow k (by rw [HN.out]; exact hlt)
   have HS : Hid _ := any_no (fun a : MadeD => a.cs.any fun x => a.sg && (x.br == kb && x.ix == ki)) ms dM k (by rw [HN.out]; exact hlt) hany.out
   have HZ : Hid _ := ayS (fun a : MadeD => a.cs.any fun x => a.sg && (x.br == kb && x.ix == ki)) ms dM k (by rw [HN.out]; exact hlt)
   have hk0 := HO.out (ms.getD k dM) (gDM ms dM k (by rw [HN.out]; exact hlt))
   have HCO := hiD hk0.keys
   have HCL := hiD hk0.lq
   have hb10 : (ms.getD k dM).q ≤ 10 := by rw [← hk0.lq]; exact hk0.b1
   clear hrow hk0
   generalize ms.getD k dM = y at *
   obtain ⟨ynum, ytag, yai, yn, yc, yap, ym, yd, yak, yq, ye, ych, yac, yx, yy, ylv, ysg, ycs, yzs⟩ := y
   simp only at HM HCO HCL hb10
   have hkI : (k : Int) < (n : Int) := by omega
   have hk0 : (0 : Int) ≤ (k : Int) := by omega
   have m6 := (hbl.cell (p := ⟨g, off + k * 9 + 4, none⟩) (clT HM.out.c4)).trans HM.out.c4
   have m7 := (hbl.cell (p := ⟨g, off + k * 9 + 8, none⟩) (clT HM.out.c8)).trans HM.out.c8
   obtain ⟨wo, rfl⟩ : ∃ wo : World, wo = wr := ⟨_, rfl⟩
   go_wp2
   go_loopw [6] (fun i wr => ∃ j : Nat, j ≤ yq ∧ i = .int .i64 j ∧ Hid ((ycs.take j).any (fun x => ysg && (x.br == kb && x.ix == ki)) = false) ∧ Below wo.heap.size wo wr) (fun i _ => yq - (intOf i).toNat)
   case atStart => exact ⟨0, Nat.zero_le _, rfl, by show List.any _ _ = false; simp, Below.refl _ _⟩
   case round =>
    obtain ⟨j, hj, rfl, hany2, hbo⟩ := hrel
    have hszo := hbo.size
    have hbw : Below w.heap.size w wr := hbl.trans (hbo.mono hbl.size)
    have q0 := (hbo.cell (p := ⟨D, 5, none⟩) (clT p0)).trans p0
    have q6 := (hbo.cell (p := ⟨g, off + k * 9 + 4, none⟩) (clT m6)).trans m6
    have q7 := (hbo.cell (p := ⟨g, off + k * 9 + 8, none⟩) (clT m7)).trans m7
    have r0 := (hbo.cell (p := ⟨w.heap.size, 0, none⟩) (clT b0)).trans b0
    have r1 := (hbo.cell (p := ⟨w.heap.size, 1, none⟩) (clT b1)).trans b1
    by_cases hlt2 : j < yq
    ·rcases HCO.out with hnil | ⟨g2, off2, rfl, hrow⟩
     ·have := HCL.out; rw [hnil] at this; simp at this; omega
     obtain ⟨d0, d1⟩ := kcCells (hrow.grown hbw) j (by rw [HCL.out]; exact hlt2)
     have HS2 : Hid _ := any_no (fun x : CoinD => ysg && (x.br == kb && x.ix == ki)) ycs dN j (by rw [HCL.out]; exact hlt2) hany2.out
     have HZ2 : Hid _ := ayS (fun x : CoinD => ysg && (x.br == kb && x.ix == ki)) ycs dN j (by rw [HCL.out]; exact hlt2)
     have hjI : (j : Int) < (yq : Int) := by omega
     have hj0 : (0 : Int) ≤ (j : Int) := by omega
     clear hrow
     generalize ycs.getD j dN = z at d0 d1 HS2 HZ2
     obtain ⟨z0, z1, z2, z3, z4, z5⟩ := z
     simp only at d0 d1
     have bX : Below wr.heap.size wr (wr.alloc (.cells #[.int .i64 z4, .int .i64 z5] 117)) := (Below.refl _ _).alloc leR _
     have s0 := (bX.cell (p := ⟨D, 5, none⟩) (clT q0)).trans q0
     have s7 := (bX.cell (p := ⟨g, off + k * 9 + 8, none⟩) (clT q7)).trans q7
     have t0 := (bX.cell (p := ⟨w.heap.size, 0, none⟩) (clT r0)).trans r0
     have t1 := (bX.cell (p := ⟨w.heap.size, 1, none⟩) (clT r1)).trans r1
     have v0 : (wr.alloc (.cells #[.int .i64 z4, .int .i64 z5] 117)).cell? ⟨wr.heap.size, 0, none⟩ = some (.int .i64 z4) := by go_simp
     have v1 : (wr.alloc (.cells #[.int .i64 z4, .int .i64 z5] 117)).cell? ⟨wr.heap.size, 1, none⟩ = some (.int .i64 z5) := by go_simp
     have hb9 : Below wo.heap.size wo (wr.alloc (.cells #[.int .i64 z4, .int .i64 z5] 117)) := hbo.alloc hszo _
     have HBF : Hid (Below w.heap.size w (wr.alloc (.cells #[.int .i64 z4, .int .i64 z5] 117))) := hbl.trans (hb9.mono hbl.size)
     go_upto_region 8 with fail
     clear d0 d1 q0 q6 q7 r0 r1 bX
     generalize wr.alloc (.cells #[.int .i64 z4, .int .i64 z5] 117) = w9 at *
     generalize wr.heap.size = X at *
     cases hlv : ysg
     ·go_wp2
      go_roundw
      case rel => exact ⟨j + 1, by omega, by go_num, HS2 (by rw [hlv]; rfl), hb9⟩
      case measure => simp [intOf]; omega
     ·cases h1 : (z4 == kb)
      ·go_wp2
       go_roundw
       case rel => exact ⟨j + 1, by omega, by go_num, HS2 (by simp [h1]), hb9⟩
       case measure => simp [intOf]; omega
      ·cases h2 : (z5 == ki)
       ·go_wp2
        go_roundw
        case rel => exact ⟨j + 1, by omega, by go_num, HS2 (by simp [h2]), hb9⟩
        case measure => simp [intOf]; omega
       ·go_wp2
        go_ret
        exact ⟨rbL (HZ (HZ2 (by show (ysg && (z4 == kb && z5 == ki)) = true; rw [hlv, h1, h2]; rfl))).symm, HBF⟩
    ·have HE : Hid _ := adE (fun x : CoinD => ysg && (x.br == kb && x.ix == ki)) ycs yq HCL.out j (by omega) hany2.out
     go_wp2
     go_roundw
     case rel => exact ⟨k + 1, by omega, by go_num, HS HE.out.symm, r0, r1, hbw⟩
     case measure => simp [intOf]; omega
  ·go_wp2
   go_ret
   exact ⟨rbL (adE _ ms n HN k (by omega) hany.out), hbl⟩
theorem dFree_any (N : NPr) (D : Nat) (ao : OAd) (n c : Nat) (ms : List MadeD) (x : CoinD) (w : World) (hp : w.cell? ⟨D, 5, none⟩ = some (.slice ao n c)) (hx : RcT MadeD.v w ao ms) (hn : ms.length = n) (hm : n ≤ 9007199254740992) (hok : ∀ a ∈ ms, MadeOk N w a) :
 Calls Tryz.prog 183 #[.pointer (some ⟨D, 0, none⟩), coinV x] w fun e w' => e = .returned (.bool (!takenB ms x.id x.pos && !usedR ms x.br x.ix)) ∧ Below w.heap.size w w' := by
 obtain ⟨x0, x1, x2, x3, x4, x5⟩ := x
 simp only
 have HP := hiD hp
 have HN := hiD hn
 have HX := hiD hx
 have HO := hiD hok
 have hDl : D < w.heap.size := clT hp
 clear hn hx hok hp
 have bA : Below w.heap.size w (w.alloc (.cells #[.int .i64 x0, .int .i64 x1, .int .i64 x2, .int .i64 x3, .int .i64 x4, .int .i64 x5] 107)) := (Below.refl _ _).alloc leR _
 have HV : Hid (VRow (w.alloc (.cells #[.int .i64 x0, .int .i64 x1, .int .i64 x2, .int .i64 x3, .int .i64 x4, .int .i64 x5] 107)) w.heap.size 0 (CoinD.l ⟨x0, x1, x2, x3, x4, x5⟩)) := vwW w _ _
 go_enter Tryz.func183, Tryz.ntmps183
 go_upto_region 1 with fail
 generalize w.alloc (.cells #[.int .i64 x0, .int .i64 x1, .int .i64 x2, .int .i64 x3, .int .i64 x4, .int .i64 x5] 107) = w0 at *
 obtain ⟨v0, v1, v2, v3, v4, v5⟩ := xrow HV.out
 go_wp2_with fail
 refine (taken_any N D ao n c ms ⟨x0, x1, x2, x3, x4, x5⟩ _ ((bA.cell (p := ⟨D, 5, none⟩) hDl).trans HP) (HX.out.grown bA) HN hm (fun a ha => (HO a ha).grown bA)).mono ?_
 rintro e w1 ⟨rfl, hb1⟩
 simp only
 have b1 : Below w.heap.size w w1 := bwK bA hb1
 obtain ⟨u0, u1, u2, u3, u4, u5⟩ := xrow (VRow.grown HV.out hb1)
 have HP1 : Hid (w1.cell? ⟨D, 5, none⟩ = some (.slice ao n c)) := (b1.cell (p := ⟨D, 5, none⟩) hDl).trans HP.out
 clear v0 v1 v2 v3 v4 v5 HV hb1 bA
 go_wp2_with fail
 refine (used_any N D ao n c ms x4 x5 _ HP1 (HX.out.grown b1) HN hm (fun a ha => (HO a ha).grown b1)).mono ?_
 rintro e w2 ⟨rfl, hb2⟩
 have b2 : Below w.heap.size w w2 := bwK b1 hb2
 generalize htk : takenB ms x0 x1 = tk at *
 generalize hus : usedR ms x4 x5 = us at *
 have HTK := hiD htk
 have HUS := hiD hus
 clear htk hus
 cases tk
 ·cases us
  ·go_wp2
   go_ret
   exact ⟨rbL (by rw [HTK.out, HUS.out]; rfl), b2⟩
  ·go_wp2
   go_ret
   exact ⟨rbL (by rw [HTK.out, HUS.out]; rfl), b2⟩
 ·go_wp2
  go_ret
  exact ⟨rbL (by rw [HTK.out, HUS.out]; rfl), b2⟩
theorem dWorth_any (x : CoinD) (r : Int) (w : World) (hr : 0 ≤ r ∧ r ≤ 1000) (hx : 0 ≤ x.val ∧ x.val ≤ 1099511627776) :
 Calls Tryz.prog 205 #[coinV x, .int .i64 r] w fun e w' => e = .returned (.int .i64 (wtZ r x)) ∧ Below w.heap.size w w' := by
 obtain ⟨x0, x1, x2, x3, x4, x5⟩ := x
 simp only at hx
 have hw1 : IntKind.i64.wrap (7 * r) = 7 * r := IntWalk.i64_in _ ⟨by omega, by omega⟩
 have hw2 : IntKind.i64.wrap (x3 - 7 * r) = x3 - 7 * r := IntWalk.i64_in _ ⟨by omega, by omega⟩
 go_enter Tryz.func205, Tryz.ntmps205
 go_wp2
 go_ret
 exact ⟨rfl, (Below.refl _ _).alloc leR _⟩
theorem dHas_any (m n i : Nat) (w : World) (hn : n ≤ 8) (hi : i < n) :
 Calls Tryz.prog 207 #[.int .i64 (m : Int), .int .i64 (n : Int), .int .i64 (i : Int)] w fun e w' => e = .returned (.bool (bitN m n i)) ∧ w = w' := by
 obtain ⟨t, ht⟩ : ∃ t : Nat, t = n - 1 - i := ⟨_, rfl⟩
 have e1 : (n : Int) - 1 - (i : Int) = (t : Int) := by omega
 have hw1 : IntKind.i64.wrap ((n : Int) - 1) = (n : Int) - 1 := IntWalk.i64_in _ ⟨by omega, by omega⟩
 have hw2 : IntKind.i64.wrap ((n : Int) - 1 - (i : Int)) = (t : Int) := by rw [e1]; exact IntWalk.i64_in _ ⟨by omega, by omega⟩
 have HT := hiD ht
 have ht8 : t < 8 := by omega
 clear ht e1
 go_enter Tryz.func207, Tryz.ntmps207
 go_wp2
 go_ret
 refine ⟨rbL ?_, rfl⟩
 have e : (m : Int) / 2 ^ t % 2 = ((m / 2 ^ t % 2 : Nat) : Int) := by push_cast; rfl
 rw [i64_and1, e]
 unfold bitN
 rw [← HT.out]
 generalize m / 2 ^ t % 2 = z
 by_cases hz : z = 1
 ·subst hz; rfl
 ·have h1 : ((z : Int) == 1) = false := by rw [beq_eq_false_iff_ne]; omega
  have h2 : (z == 1) = false := by rw [beq_eq_false_iff_ne]; exact hz
  rw [h1, h2]
theorem sumOf_any (ao : OAd) (q c : Nat) (cs : List CoinD) (r : Int) (m n : Nat) (w : World) (hx : RcT CoinD.l w ao cs) (hq : cs.length = q) (hn : n ≤ 8) (hnq : n ≤ q) (hr : 0 ≤ r ∧ r ≤ 1000) (hv : CVals cs) :
 Calls Tryz.prog 219 #[.slice ao q c, .int .i64 r, .int .i64 (m : Int), .int .i64 (n : Int)] w fun e w' => (∃ T, e = .returned (.int .i64 T) ∧ T = sumD r cs n m ∧ -56000 ≤ T ∧ T ≤ 8796093022208) ∧ Below w.heap.size w w' := by
 have HX := hiD hx
 have HQ := hiD hq
 have HV := hiD hv
 clear hx hq hv
 go_enter Tryz.func219, Tryz.ntmps219
 go_wp2
 go_loopw [9, 10] (fun v i wr => ∃ (k : Nat) (T : Int), k ≤ n ∧ i = .int .i64 k ∧ v = .int .i64 T ∧ Hid (((List.range k).map fun i => if bitN m n i then wtZ r (cs.getD i dN) else 0).sum = T) ∧ -(7000 * (k : Int)) ≤ T ∧ T ≤ 1099511627776 * (k : Int) ∧ Below w.heap.size w wr) (fun _ i _ => n - (intOf i).toNat)
 case atStart => exact ⟨0, 0, Nat.zero_le _, rfl, rfl, rfl, by simp, by simp, Below.refl _ _⟩
 case round =>
  obtain ⟨k, T, hk, rfl, rfl, hT, hT1, hT2, hbl⟩ := hrel
  have hsz := hbl.size
  by_cases hlt : k < n
  ·have HS : Hid _ := rangeM_snoc (fun i => if bitN m n i then wtZ r (cs.getD i dN) else 0) k
   cases hb : bitN m n k
   ·go_wp2_with (go_at_call 207; refine (dHas_any m n k _ hn hlt).mono ?_; rintro e w' ⟨rfl, rfl⟩; rw [hb])
    go_roundw
    case rel => exact ⟨k + 1, T, by omega, by go_num, rfl, by show _ = _; rw [HS.out, List.sum_append, hT.out, hb]; simp, by push_cast; omega, by push_cast; omega, hbl⟩
    case measure => simp [intOf]; omega
   ·have hkl : k < cs.length := by rw [HQ.out]; omega
    have hvk := HV.out (cs.getD k dN) (gDM cs dN k hkl)
    rcases HX.out.grown hbl with hnil | ⟨gc, oc, rfl, hrow⟩
    ·rw [hnil] at hkl; simp at hkl
    obtain ⟨e0, e1, e2, e3, e4, e5⟩ := cCS hrow k hkl
    have hkI : (k : Int) < (q : Int) := by omega
    have hk0 : (0 : Int) ≤ (k : Int) := by omega
    clear hrow
    generalize cs.getD k dN = y at *
    obtain ⟨y0, y1, y2, y3, y4, y5⟩ := y
    simp only at e0 e1 e2 e3 e4 e5 hvk
    have HWD : Hid (wtZ r ⟨y0, y1, y2, y3, y4, y5⟩ = y3 - 7 * r) := rfl
    have hw : IntKind.i64.wrap (T + (y3 - 7 * r)) = T + (y3 - 7 * r) := IntWalk.i64_in _ ⟨by omega, by omega⟩
    go_wp2_with (first | (go_at_call 207; refine (dHas_any m n k _ hn hlt).mono ?_; rintro e w' ⟨rfl, rfl⟩; rw [hb]) | (go_at_call 205; refine (dWorth_any ⟨y0, y1, y2, y3, y4, y5⟩ r _ hr hvk).mono ?_; rintro e w7 ⟨rfl, hb7⟩; rw [HWD.out]))
    go_roundw
    case rel => exact ⟨k + 1, T + (y3 - 7 * r), by omega, by go_num, rfl, by show _ = _; rw [HS.out, List.sum_append, hT.out, if_pos hb, HWD.out]; simp, by push_cast; omega, by push_cast; omega, hbl.trans (hb7.mono hsz)⟩
    case measure => simp [intOf]; omega
  ·have hkn : k = n := by omega
   subst hkn
   go_wp2
   go_ret
   exact ⟨⟨T, rfl, hT.out.symm, by omega, by omega⟩, hbl⟩
theorem fitting_any (ao : OAd) (q c : Nat) (cs : List CoinD) (r : Int) (n : Nat) (lo hi : Int) (w : World) (hx : RcT CoinD.l w ao cs) (hq : cs.length = q) (hn : n ≤ 8) (hnq : n ≤ q) (hr : 0 ≤ r ∧ r ≤ 1000) (hv : CVals cs) :
 Calls Tryz.prog 206 #[.slice ao q c, .int .i64 r, .int .i64 (n : Int), .int .i64 lo, .int .i64 hi] w fun e w' => e = .returned (.int .i64 (bestD r cs n lo hi : Nat)) ∧ bestD r cs n lo hi ≤ 255 ∧ Below w.heap.size w w' := by
 have HX : Hid (RcT CoinD.l w ao cs) := hx
 have HQ : Hid (cs.length = q) := hq
 have HV : Hid (CVals cs) := hv
 clear hx hq hv
 obtain ⟨M, hM⟩ : ∃ M : Nat, M = 2 ^ n - 1 := ⟨_, rfl⟩
 have hp : 2 ^ n ≤ 256 := by have := Nat.pow_le_pow_right (n := 2) (by omega) hn; simpa using this
 have hp0 : 0 < 2 ^ n := Nat.two_pow_pos _
 have hM1 : ((2 : Int) ^ n) = (M : Int) + 1 := by
  have : ((2 ^ n : Nat) : Int) = (M : Int) + 1 := by omega
  rw [← this]; push_cast; rfl
 have hM255 : M ≤ 255 := by omega
 have HM : Hid (2 ^ n - 1 = M) := hM.symm
 have hw1 : IntKind.i64.wrap ((2 : Int) ^ n) = (M : Int) + 1 := by rw [hM1]; exact IntWalk.i64_in _ ⟨by omega, by omega⟩
 have hw2 : IntKind.i64.wrap ((M : Int) + 1 - 1) = (M : Int) := by rw [show (M : Int) + 1 - 1 = (M : Int) by omega]; exact IntWalk.i64_in _ ⟨by omega, by omega⟩
 clear hM hp hp0
 go_enter Tryz.func206, Tryz.ntmps206
 go_wp2
 have HB : Hid (bestD r cs n lo hi = (fitZD (sumD r cs n) lo hi M (0, 0)).1) := by show _ = _; unfold bestD; rw [HM.out]
 clear hM1 hw1 hw2
 go_loopw [11, 12, 13] (fun bv sv i wr => ∃ (k b : Nat) (t : Int), k ≤ M ∧ b ≤ M ∧ i = .int .i64 k ∧ bv = .int .i64 b ∧ sv = .int .i64 t ∧ Hid ((fitZD (sumD r cs n) lo hi k (b, t)).1 = bestD r cs n lo hi) ∧ Below w.heap.size w wr) (fun _ _ i _ => (intOf i).toNat)
 case atStart => exact ⟨M, 0, 0, leR, Nat.zero_le _, rfl, rfl, rfl, HB.out.symm, Below.refl _ _⟩
 case round =>
  obtain ⟨k, b, t, hk, hb, rfl, rfl, rfl, hz, hbl⟩ := hrel
  have hsz := hbl.size
  cases k with
  | zero =>
   have HZ : Hid (b = bestD r cs n lo hi) := hz.out
   go_wp2
   go_ret
   rw [← HZ.out]
   exact ⟨rfl, by omega, hbl⟩
  | succ k =>
   have hz' := hz.out
   rw [fitZD] at hz'
   have HZ : Hid ((fitZD (sumD r cs n) lo hi k (if lo ≤ sumD r cs n (k + 1) ∧ sumD r cs n (k + 1) ≤ hi ∧ (b = 0 ∨ sumD r cs n (k + 1) < t) then (k + 1, sumD r cs n (k + 1)) else (b, t))).1 = bestD r cs n lo hi) := hz'
   clear hz' hz
   generalize hK : k + 1 = K at *
   have hK0 : 0 < K := by omega
   have hkK : k < K := by omega
   have hkM : k ≤ M := by omega
   have hd0 : decide ((0 : Int) < (K : Int)) = true := by rw [decide_eq_true_iff]; omega
   have hKm : ((K : Int) - 1) = (k : Int) := by omega
   have hw1 : IntKind.i64.wrap ((K : Int) - 1) = (k : Int) := by rw [hKm]; exact IntWalk.i64_in _ ⟨by omega, by omega⟩
   clear hKm hK
   go_wp2_with fail
   refine (sumOf_any ao q c cs r K n _ (HX.out.grown hbl) HQ.out hn hnq hr HV.out).mono ?_
   rintro e w5 ⟨⟨T, rfl, hT, t1, t2⟩, hb5⟩
   rw [← hT] at HZ
   clear hT
   have hb05 : Below w.heap.size w w5 := hbl.trans (hb5.mono hsz)
   by_cases h1 : lo ≤ T
   ·by_cases h2 : T ≤ hi
    ·by_cases h3 : b = 0
     ·subst h3
      rw [if_pos ⟨h1, h2, Or.inl rfl⟩] at HZ
      go_wp2
      go_roundw
      case rel => exact ⟨k, K, T, by omega, hk, rfl, rfl, rfl, HZ.out, hb05⟩
      case measure => simp [intOf]; omega
     ·have hb0 : ((b : Int) == 0) = false := by rw [beq_eq_false_iff_ne]; omega
      by_cases h4 : T < t
      ·rw [if_pos ⟨h1, h2, Or.inr h4⟩] at HZ
       go_wp2
       go_roundw
       case rel => exact ⟨k, K, T, by omega, hk, rfl, rfl, rfl, HZ.out, hb05⟩
       case measure => simp [intOf]; omega
      ·rw [if_neg (fun h => h.2.2.elim h3 h4)] at HZ
       go_wp2
       go_roundw
       case rel => exact ⟨k, b, t, by omega, hb, rfl, rfl, rfl, HZ.out, hb05⟩
       case measure => simp [intOf]; omega
    ·rw [if_neg (fun h => h2 h.2.1)] at HZ
     go_wp2
     go_roundw
     case rel => exact ⟨k, b, t, by omega, hb, rfl, rfl, rfl, HZ.out, hb05⟩
     case measure => simp [intOf]; omega
   ·rw [if_neg (fun h => h1 h.1)] at HZ
    go_wp2
    go_roundw
    case rel => exact ⟨k, b, t, by omega, hb, rfl, rfl, rfl, HZ.out, hb05⟩
    case measure => simp [intOf]; omega
end
end Go.Proofs.YtffgpepngcnjeabGreat
