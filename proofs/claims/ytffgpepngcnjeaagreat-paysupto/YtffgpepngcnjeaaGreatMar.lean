/-
  Package payments: Add, walked.
  The drawer with all that lies in it: lists that came out, each written over with a number of its own.
  A purse with its payments; Pay: what it answers.
  The document's payments in memory; which coins they leave free.
-/
import Derived.Test.YtffgpepngcnjeaaGreatMaq
import Derived.Deep.RegionLaw
import Derived.Test.YtffgpepngcnjeaaGreatMan
import Derived.Test.YtffgpepngcnjeaaGreatMal
namespace Go.Proofs.YtffgpepngcnjeaaGreat
open Go.RowKit
/-- five cells -/
structure P5 (w : World) (T : Nat) (a0 a1 a2 a3 a4 : Value) : Prop where
  c0 : w.cell? ⟨T, 0, none⟩ = some a0
  c1 : w.cell? ⟨T, 1, none⟩ = some a1
  c2 : w.cell? ⟨T, 2, none⟩ = some a2
  c3 : w.cell? ⟨T, 3, none⟩ = some a3
  c4 : w.cell? ⟨T, 4, none⟩ = some a4
  fz : ∀ j, w.frozen? ⟨T, j, none⟩ = false
theorem P5.fr {E : Nat → Prop} {w w' : World} (hf : Fr E w w') {T : Nat} {a0 a1 a2 a3 a4 : Value} (h : P5 w T a0 a1 a2 a3 a4) (he : ¬ E T) : P5 w' T a0 a1 a2 a3 a4 :=
  ⟨hf.cell h.c0 he, hf.cell h.c1 he, hf.cell h.c2 he, hf.cell h.c3 he, hf.cell h.c4 he, fun j => (hf.frozen (cell_lt h.c0) he).trans (h.fz j)⟩
theorem P5.grown {w w' : World} (hb : Below w.heap.size w w') {T : Nat} {a0 a1 a2 a3 a4 : Value} (h : P5 w T a0 a1 a2 a3 a4) : P5 w' T a0 a1 a2 a3 a4 := h.fr (Fr.of_below hb (fun _ => False)) (fun h => h)
theorem P5.new (w : World) (a0 a1 a2 a3 a4 : Value) (t : TypeId) : P5 (w.alloc (.cells #[a0, a1, a2, a3, a4] t)) w.heap.size a0 a1 a2 a3 a4 := by
  have hv := vrow_new w [a0, a1, a2, a3, a4] t
  exact ⟨hv 0 (by simp), hv 1 (by simp), hv 2 (by simp), hv 3 (by simp), hv 4 (by simp), fun j => World.frozen?_alloc_at _ _ _ _ rfl⟩
theorem P5.s1 {w : World} {T : Nat} {a0 a1 a2 a3 a4 : Value} (h : P5 w T a0 a1 a2 a3 a4) (u : Value) : P5 (w.setCell ⟨T, 1, none⟩ u) T a0 u a2 a3 a4 :=
  ⟨so h.c0 (by decide), ss h.c1, so h.c2 (by decide), so h.c3 (by decide), so h.c4 (by decide), fun j => by rw [World.frozen?_setCell]; exact h.fz j⟩
theorem P5.s2 {w : World} {T : Nat} {a0 a1 a2 a3 a4 : Value} (h : P5 w T a0 a1 a2 a3 a4) (u : Value) : P5 (w.setCell ⟨T, 2, none⟩ u) T a0 a1 u a3 a4 :=
  ⟨so h.c0 (by decide), so h.c1 (by decide), ss h.c2, so h.c3 (by decide), so h.c4 (by decide), fun j => by rw [World.frozen?_setCell]; exact h.fz j⟩
theorem rec_lt' {α : Type} {f : α → List Value} {q : Nat} (hq : ∀ x, (f x).length = q) (hq0 : 0 < q) {w : World} {ao : Option Addr} {l : List α} (h : RecAt f w ao l) (hl : 0 < l.length) : ∃ g off, ao = some ⟨g, off, none⟩ ∧ VRow w g off (l.flatMap f) ∧ g < w.heap.size := by
  rcases h with h | ⟨g, off, e, hr⟩
  · rw [h] at hl; simp at hl
  · refine ⟨g, off, e, hr, hr.lt (fun e3 => ?_)⟩
    have h3 := rec_len f q hq l
    rw [e3] at h3
    simp only [List.length_nil] at h3
    rcases Nat.mul_eq_zero.1 h3.symm with h4 | h4 <;> omega
theorem own_atS {α : Type} {f : α → List Value} {e k : Nat} (hf : ∀ x, (f x).length = k) {w : World} {base n c : Nat} {ao : Option Addr} {xs : List α} (h : OwnRec f e k w base (.slice ao n c) xs) : RecAt f w ao xs := by
  obtain ⟨a2, c2, e2, hat⟩ := OwnRec.at hf h
  injection e2 with e2 _ _
  subst e2
  exact hat
theorem cell_oth (w : World) (L i j : Nat) (u : Value) (hne : i ≠ j) : (w.setCell ⟨L, i, none⟩ u).cell? ⟨L, j, none⟩ = w.cell? ⟨L, j, none⟩ :=
  World.cell?_setCell_other _ _ _ _ (by intro e; have := congrArg Addr.off e; simp only at this; exact hne this)
/-- what Add leaves -/
def AddOk (N : Nat → Prop) (b o base : Nat) (vl vs : Value) (md nx : Int) (ps : List PayD) (ks : List (Int × Int)) (n : Nat) (cs : List CoinD) (m : Nat) (ys : List (Int × Int)) (tag ch : Int) (w w' : World) : Prop :=
  ∃ vl' gc cc go co, LsAt (fun k => N k ∨ k = gc ∨ k = go) w' b o base vl' vs (md + 1) (if nx ≤ ch then ch + 1 else nx) (ps ++ [⟨md, some ⟨gc, 0, none⟩, n, cc, some ⟨go, 0, none⟩, m, co, tag, false, cs, ys⟩]) ks ∧ Fr (fun k => k = b ∨ vl.ownBlock = some k) w w' ∧ w.heap.size ≤ gc ∧ w.heap.size ≤ go ∧ (∀ k, vl'.ownBlock = some k → vl.ownBlock = some k ∨ w.heap.size ≤ k) ∧ (∀ j, j < o → w'.cell? ⟨b, j, none⟩ = w.cell? ⟨b, j, none⟩)
set_option maxRecDepth 100000 in
set_option maxHeartbeats 4000000 in
theorem payAdd_any (N : Nat → Prop) (b o base : Nat) (vl vs : Value) (md nx : Int) (ps : List PayD) (ks : List (Int × Int)) (ac : Option Addr) (n c : Nat) (cs : List CoinD) (ap : Option Addr) (m d : Nat) (ys : List (Int × Int)) (tag ch : Int) (w : World) (hL : LsAt N w b o base vl vs md nx ps ks) (hbs : base ≤ w.heap.size)
    (hx : RecAt CoinD.l w ac cs) (hn : cs.length = n) (h0n : 0 < n) (hn10 : n ≤ 10) (hy : OutsAt w ap ys) (hyn : ys.length = m) (hy0 : 0 < m) (hy8 : m ≤ 8) (hmd : 0 ≤ md ∧ md ≤ 4611686018427387904) (hpl : ps.length ≤ 1000000000000) (hch : -1 ≤ ch ∧ ch ≤ 100) :
    Calls Tryz.prog 75 #[.pointer (some ⟨b, o, none⟩), .slice ac n c, .slice ap m d, .int .i64 tag, .int .i64 ch] w fun e w' => e = .returned (.int .i64 md) ∧ AddOk N b o base vl vs md nx ps ks n cs m ys tag ch w w' := by
  obtain ⟨gx, ox, eac, hxr, hxl⟩ := rec_lt' coin6 (by omega) hx (by omega)
  obtain ⟨gy, oy, eap, hyr, hyl⟩ := rec_lt' kv2 (by omega) (outs_rec hy) (by omega)
  subst eac
  subst eap
  have HN : Hid (cs.length = n) := hn
  have HYN : Hid (ys.length = m) := hyn
  have HL : Hid (LsAt N w b o base vl vs md nx ps ks) := hL
  have l2 := hL.c2
  have hbl : b < w.heap.size := cell_lt l2
  have HBK : Hid (∀ k, lsE b vl vs k → k < w.heap.size) := hL.blk
  have HNB : Hid (∀ k, N k → k < w.heap.size) := fun k hk => (hL.nN k hk).1
  have HXR : Hid (VRow w gx ox (cs.flatMap CoinD.l)) := hxr
  have HYR : Hid (VRow w gy oy (ys.flatMap kV)) := hyr
  clear hx hn hy hyn hxr hyr hL
  have hbA : Below w.heap.size w (w.alloc (.cells #[.int .i64 md, .slice none 0 0, .slice none 0 0, .int .i64 tag, .bool false] 144)) := (Below.refl _ _).alloc (Nat.le_refl _) _
  have HT1 : Hid (P5 (w.alloc (.cells #[.int .i64 md, .slice none 0 0, .slice none 0 0, .int .i64 tag, .bool false] 144)) w.heap.size (.int .i64 md) (.slice none 0 0) (.slice none 0 0) (.int .i64 tag) (.bool false)) := P5.new w _ _ _ _ _ 144
  go_enter Tryz.func75, Tryz.ntmps75
  go_upto_region 2 with fail
  have HL1 : Hid (LsAt N (w.alloc (.cells #[.int .i64 md, .slice none 0 0, .slice none 0 0, .int .i64 tag, .bool false] 144)) b o base vl vs md nx ps ks) := HL.out.grown hbA
  have HXR1 : Hid (VRow (w.alloc (.cells #[.int .i64 md, .slice none 0 0, .slice none 0 0, .int .i64 tag, .bool false] 144)) gx ox (cs.flatMap CoinD.l)) := HXR.out.grown hbA
  have HYR1 : Hid (VRow (w.alloc (.cells #[.int .i64 md, .slice none 0 0, .slice none 0 0, .int .i64 tag, .bool false] 144)) gy oy (ys.flatMap kV)) := HYR.out.grown hbA
  have hz1 : w.heap.size < (w.alloc (.cells #[.int .i64 md, .slice none 0 0, .slice none 0 0, .int .i64 tag, .bool false] 144)).heap.size := by simp
  have HFA : Hid (Fr (fun _ => False) w (w.alloc (.cells #[.int .i64 md, .slice none 0 0, .slice none 0 0, .int .i64 tag, .bool false] 144))) := Fr.of_below hbA _
  generalize w.alloc (.cells #[.int .i64 md, .slice none 0 0, .slice none 0 0, .int .i64 tag, .bool false] 144) = w1 at *
  generalize hT : w.heap.size = T at *
  have HTe : Hid (w.heap.size = T) := hT
  clear hT hbA HXR HYR l2
  have t1 := HT1.out.c1
  have tf1 := HT1.out.fz 1
  go_upto_region 3 with (at_builtin; refine wpList_appN 62 48 _ Tryz.underlying62 info64 rfl (by decide) coin6 coin_one w1 rfl _ _ rfl (T + 1) gx ox n c (.slice none 0 0) [] cs (by rfl) (by rfl) HN.out h0n (OwnRec.nil _ _ _ _ _) HXR1.out (by omega) (by unfold maxLen; simp; omega) (by simp; omega) ?_; intro gc cc w3 hown3 hg3 hl3 hlt3; simp only [List.length_nil, Nat.zero_add, List.nil_append] at hown3 ⊢; have k2 := gb_cell hg3 t1 (by simp [Value.ownBlock]); have kf := (gb_frozen hg3 (by exact hz1) (by simp [Value.ownBlock])).trans tf1)
  have b3 : Below w1.heap.size w1 w3 := gb_to_below hg3 (Nat.le_refl _) (fun r hr => by simp [Value.ownBlock] at hr)
  have hgc : w1.heap.size ≤ gc := hl3.resolve_left (by simp [Value.ownBlock])
  have hz3 := b3.size
  have HOC4 : Hid (OwnRec CoinD.l 64 6 (w3.setCell ⟨T, 1, none⟩ (.slice (some ⟨gc, 0, none⟩) n cc)) (T + 1) (.slice (some ⟨gc, 0, none⟩) n cc) cs) := own_set hown3 _ _ _ (fun e => by simp [Value.ownBlock] at e; omega)
  have HT4 : Hid (P5 (w3.setCell ⟨T, 1, none⟩ (.slice (some ⟨gc, 0, none⟩) n cc)) T (.int .i64 md) (.slice (some ⟨gc, 0, none⟩) n cc) (.slice none 0 0) (.int .i64 tag) (.bool false)) := (HT1.out.grown b3).s1 _
  have hf34 : Fr (fun k => k = T) w1 (w3.setCell ⟨T, 1, none⟩ (.slice (some ⟨gc, 0, none⟩) n cc)) := (Fr.of_below b3 _).set T 1 _ (fun _ => rfl)
  have HL4 : Hid (LsAt N (w3.setCell ⟨T, 1, none⟩ (.slice (some ⟨gc, 0, none⟩) n cc)) b o base vl vs md nx ps ks) := HL1.out.fr hf34 (fun k hk e => by have := HBK.out k hk; omega) (fun k hk e => by have := HNB.out k hk; omega)
  have HYR4 : Hid (VRow (w3.setCell ⟨T, 1, none⟩ (.slice (some ⟨gc, 0, none⟩) n cc)) gy oy (ys.flatMap kV)) := hf34.vrow HYR1.out (by omega)
  have HF4 : Hid (Fr (fun k => k = T) w1 (w3.setCell ⟨T, 1, none⟩ (.slice (some ⟨gc, 0, none⟩) n cc))) := hf34
  have hz4 : w3.heap.size = (w3.setCell ⟨T, 1, none⟩ (.slice (some ⟨gc, 0, none⟩) n cc)).heap.size := by simp
  clear hown3 hg3 hl3 k2 kf b3 hf34 HL1 HYR1 HXR1 HT1 t1 tf1
  generalize w3.setCell ⟨T, 1, none⟩ (.slice (some ⟨gc, 0, none⟩) n cc) = w4 at *
  have t2 := HT4.out.c2
  have tf2 := HT4.out.fz 2
  have hTl4 : T < w4.heap.size := by omega
  go_upto_region 4 with (at_builtin; refine wpList_appN 31 16 _ Tryz.underlying31 info115 rfl (by decide) kv2 kv_one w4 rfl _ _ rfl (T + 1) gy oy m d (.slice none 0 0) [] ys (by rfl) (by rfl) HYN.out hy0 (OwnRec.nil _ _ _ _ _) HYR4.out (by omega) (by unfold maxLen; simp; omega) (by simp; omega) ?_; intro go co w5 hown5 hg5 hl5 hlt5; simp only [List.length_nil, Nat.zero_add, List.nil_append] at hown5 ⊢; have k2 := gb_cell hg5 t2 (by simp [Value.ownBlock]); have kf := (gb_frozen hg5 (by exact hTl4) (by simp [Value.ownBlock])).trans tf2)
  have b5 : Below w4.heap.size w4 w5 := gb_to_below hg5 (Nat.le_refl _) (fun r hr => by simp [Value.ownBlock] at hr)
  have hgo : w4.heap.size ≤ go := hl5.resolve_left (by simp [Value.ownBlock])
  have hz5 := b5.size
  have hf56 : Fr (fun k => k = T) w4 (w5.setCell ⟨T, 2, none⟩ (.slice (some ⟨go, 0, none⟩) m co)) := (Fr.of_below b5 _).set T 2 _ (fun _ => rfl)
  have HOO6 : Hid (OwnRec kV 115 2 (w5.setCell ⟨T, 2, none⟩ (.slice (some ⟨go, 0, none⟩) m co)) (T + 1) (.slice (some ⟨go, 0, none⟩) m co) ys) := own_set hown5 _ _ _ (fun e => by simp [Value.ownBlock] at e; omega)
  have HOC6 : Hid (OwnRec CoinD.l 64 6 (w5.setCell ⟨T, 2, none⟩ (.slice (some ⟨go, 0, none⟩) m co)) (T + 1) (.slice (some ⟨gc, 0, none⟩) n cc) cs) := hf56.own HOC4.out (fun k hk e => by simp [Value.ownBlock] at hk; omega)
  have HT6 : Hid (P5 (w5.setCell ⟨T, 2, none⟩ (.slice (some ⟨go, 0, none⟩) m co)) T (.int .i64 md) (.slice (some ⟨gc, 0, none⟩) n cc) (.slice (some ⟨go, 0, none⟩) m co) (.int .i64 tag) (.bool false)) := (HT4.out.grown b5).s2 _
  have HL6 : Hid (LsAt N (w5.setCell ⟨T, 2, none⟩ (.slice (some ⟨go, 0, none⟩) m co)) b o base vl vs md nx ps ks) := HL4.out.fr hf56 (fun k hk e => by have := HBK.out k hk; omega) (fun k hk e => by have := HNB.out k hk; omega)
  have HF6 : Hid (Fr (fun _ => False) w (w5.setCell ⟨T, 2, none⟩ (.slice (some ⟨go, 0, none⟩) m co))) := by
    have h1 := HF4.out.trans hf56
    exact ⟨h1.os.trans HFA.out.os, h1.tape.trans HFA.out.tape, h1.output.trans HFA.out.output, Nat.le_trans HFA.out.size h1.size, fun k hk he => (h1.block k (Nat.lt_of_lt_of_le hk HFA.out.size) (fun e => by have := HTe.out; omega)).trans (HFA.out.block k hk he)⟩
  have hz6 : w5.heap.size = (w5.setCell ⟨T, 2, none⟩ (.slice (some ⟨go, 0, none⟩) m co)).heap.size := by simp
  clear hown5 hg5 hl5 k2 kf b5 hf56 HL4 HYR4 HT4 HOC4 HF4 HFA t2 tf2
  generalize w5.setCell ⟨T, 2, none⟩ (.slice (some ⟨go, 0, none⟩) m co) = w6 at *
  have l0 := HL6.out.c0
  have lf := HL6.out.fz o
  have hvlb : some b ≠ vl.ownBlock := fun e => by have := (HL6.out.ol.blk b e.symm).1; have := HL6.out.nb; omega
  have hb6 : b < w6.heap.size := by omega
  obtain ⟨t0, t1, t2, t3, t4, tz⟩ := HT6.out
  have hT6 : T < w6.heap.size := cell_lt t0
  clear tz
  go_region_law (refine step_appR 69 72 _ Tryz.underlying69 info144 rfl (by decide) pay5 pay_one _ ?_ (.tmp 32) (.tmp 34) ?_ base w6.heap.size 1 vl ps ⟨md, some ⟨gc, 0, none⟩, n, cc, some ⟨go, 0, none⟩, m, co, tag, false, cs, ys⟩ ?_ ?_ ?_ ?_ ?_ ?_ ?_ ?_; rfl; rfl; rfl; rfl; exact OwnRec.drew (HL6.out.ol.alloc _); exact VRow.drew (vrow_new w6 _ _); (rw [World.size_drew, World.size_alloc]; omega); (unfold maxLen; omega); (omega); intro gl capl w10 hown10 hg10 hl10 hlt10; have k0 := keepO hg10 l0 hvlb; have k1 := keepF hg10 lf hb6 hvlb)
  all_goals
    have bW : Below w6.heap.size w6 ((w6.alloc (.cells #[.int .i64 md, .slice (some ⟨gc, 0, none⟩) n cc, .slice (some ⟨go, 0, none⟩) m co, .int .i64 tag, .bool false] 144)).drew) := ((Below.refl _ _).alloc (Nat.le_refl _) _).drew
    have hzW : ((w6.alloc (.cells #[.int .i64 md, .slice (some ⟨gc, 0, none⟩) n cc, .slice (some ⟨go, 0, none⟩) m co, .int .i64 tag, .bool false] 144)).drew).heap.size = w6.heap.size + 1 := by rw [World.size_drew, World.size_alloc]
    have hLM : LsAt (fun k => N k ∨ k = gc ∨ k = go) ((w6.alloc (.cells #[.int .i64 md, .slice (some ⟨gc, 0, none⟩) n cc, .slice (some ⟨go, 0, none⟩) m co, .int .i64 tag, .bool false] 144)).drew) b o base vl vs md nx ps ks := (HL6.out.grown bW).more (fun k hk => Or.inl hk) (fun k hk => by
      rcases hk with hk | hk | hk
      · exact (HL6.out.grown bW).nN k hk
      · subst hk
        exact ⟨by omega, by omega, fun e => by have := HBK.out _ (Or.inr (Or.inl e)); omega, fun e => by have := HBK.out _ (Or.inr (Or.inr e)); omega⟩
      · subst hk
        exact ⟨by omega, by omega, fun e => by have := HBK.out _ (Or.inr (Or.inl e)); omega, fun e => by have := HBK.out _ (Or.inr (Or.inr e)); omega⟩)
    have hPX : PayOk (fun k => N k ∨ k = gc ∨ k = go) ((w6.alloc (.cells #[.int .i64 md, .slice (some ⟨gc, 0, none⟩) n cc, .slice (some ⟨go, 0, none⟩) m co, .int .i64 tag, .bool false] 144)).drew) ⟨md, some ⟨gc, 0, none⟩, n, cc, some ⟨go, 0, none⟩, m, co, tag, false, cs, ys⟩ := ⟨own_atS coin6 (HOC6.out.grown bW), HN.out, rec_outs (own_atS kv2 (HOO6.out.grown bW)), HYN.out, fun _ a ha => by injection ha with ha; subst ha; exact Or.inr (Or.inl rfl), fun _ a ha => by injection ha with ha; subst ha; exact Or.inr (Or.inr rfl), hn10, hy8⟩
    obtain ⟨hL11, hf11⟩ := hLM.push hown10 hg10 hl10 hPX
    have HL11 : Hid _ := hL11
    have HF11 : Hid (Fr (fun k => k = b ∨ vl.ownBlock = some k) w (w10.setCell ⟨b, o, none⟩ (.slice (some ⟨gl, 0, none⟩) (ps.length + 1) capl))) := (HF6.out.weak (fun _ _ e => e.elim)).trans ((Fr.of_below bW _).trans hf11)
    have hnT : ¬ (T = b ∨ vl.ownBlock = some T) := fun e => by
      rcases e with e | e
      · omega
      · have := HBK.out _ (Or.inr (Or.inl e)); omega
    have x0 := hf11.cell ((bW.cell (p := ⟨T, 0, none⟩) hT6).trans t0) hnT
    have HVL : Hid (∀ k, (Value.slice (some ⟨gl, 0, none⟩) (ps.length + 1) capl).ownBlock = some k → vl.ownBlock = some k ∨ T ≤ k) := fun k hk => by
      simp [Value.ownBlock] at hk
      subst hk
      exact hl10.imp id (fun h => by omega)
    have HCJ : Hid (∀ j, j < o → (w10.setCell ⟨b, o, none⟩ (.slice (some ⟨gl, 0, none⟩) (ps.length + 1) capl)).cell? ⟨b, j, none⟩ = w.cell? ⟨b, j, none⟩) := fun j hj => by
      rw [cell_oth _ _ _ _ _ (by omega), World.cell?_of_block (hg10.block b (by omega) hvlb), World.cell?_of_block (bW.block b hb6), World.cell?_of_block (HF6.out.block b (by rw [HTe.out]; exact hbl) (fun h => h))]
    clear hown10 hg10 hl10 hlt10 k0 k1 hL11 hf11 hLM hPX bW hzW t0 t1 t2 t3 t4 l0 lf
    generalize w10.setCell ⟨b, o, none⟩ (.slice (some ⟨gl, 0, none⟩) (ps.length + 1) capl) = w11 at *
    have y2 := HL11.out.c2
    have g2 := HL11.out.fz (o + 2)
    have y3 := HL11.out.c3
    have g3 := HL11.out.fz (o + 3)
    have hw1 : IntKind.i64.wrap (md + 1) = md + 1 := IntWalk.i64_in _ ⟨by omega, by omega⟩
    have hw2 : IntKind.i64.wrap (ch + 1) = ch + 1 := IntWalk.i64_in _ ⟨by omega, by omega⟩
    have HL12 : Hid _ := HL11.out.set2 (md + 1)
    have HF12 : Hid (Fr (fun k => k = b ∨ vl.ownBlock = some k) w (w11.setCell ⟨b, o + 2, none⟩ (.int .i64 (md + 1)))) := HF11.out.set b (o + 2) _ (fun _ => Or.inl rfl)
    have z0 := sob (K := b) (i := o + 2) (u := .int .i64 (md + 1)) x0 (by omega)
    have z3 := so (i := o + 2) (u := .int .i64 (md + 1)) y3 (by omega)
    have h3 := HL12.out.fz (o + 3)
    by_cases hnc : nx ≤ ch
    · have HL13 : Hid _ := HL12.out.set3 (ch + 1)
      have HF13 : Hid (Fr (fun k => k = b ∨ vl.ownBlock = some k) w ((w11.setCell ⟨b, o + 2, none⟩ (.int .i64 (md + 1))).setCell ⟨b, o + 3, none⟩ (.int .i64 (ch + 1)))) := HF12.out.set b (o + 3) _ (fun _ => Or.inl rfl)
      have q0 := sob (K := b) (i := o + 3) (u := .int .i64 (ch + 1)) z0 (by omega)
      go_wp2
      go_ret
      refine ⟨rfl, ?_⟩
      unfold AddOk
      rw [HTe.out, if_pos (show nx ≤ ch by omega)]
      exact ⟨_, gc, cc, go, co, HL13.out, HF13.out, by omega, by omega, HVL.out, fun j hj => by rw [cell_oth _ _ _ _ _ (by omega), cell_oth _ _ _ _ _ (by omega)]; exact HCJ.out j hj⟩
    · have hnd : decide (nx ≤ ch) = false := decide_eq_false hnc
      go_wp2
      go_ret
      refine ⟨rfl, ?_⟩
      unfold AddOk
      rw [HTe.out, if_neg (show ¬ nx ≤ ch by omega)]
      exact ⟨_, gc, cc, go, co, HL12.out, HF12.out, by omega, by omega, HVL.out, fun j hj => by rw [cell_oth _ _ _ _ _ (by omega)]; exact HCJ.out j hj⟩
end Go.Proofs.YtffgpepngcnjeaaGreat

namespace Go.Proofs.YtffgpepngcnjeaaGreat
open Go.RowKit
/-- what a list of each kind is written over with -/
def patOf : Nat → Int → List Value
  | 1, z => [.int .i64 z]
  | 2, z => [.int .i64 z, .int .i64 z, .slice none 0 0]
  | 3, z => [.int .i64 z, .int .i64 z]
  | 4, z => [.int .i64 z, .int .i64 z]
  | _, z => [.int .i64 z, .int .i64 z, .int .i64 z, .int .i64 z, .int .i64 z, .int .i64 z]
/-- the type of such a list -/
def eOf : Nat → Nat
  | 1 => 52
  | 2 => 87
  | 3 => 31
  | 4 => 59
  | _ => 62
def KeptAt (pat : Int → List Value) (w : World) (x : CbD) (z : Int) : Prop := x.n = 0 ∨ ∃ b, x.ao = some ⟨b, 0, none⟩ ∧ VRow w b 0 ((List.replicate x.n z).flatMap pat)
/-- the block of a list that is not empty -/
def CbD.blk (x : CbD) : Option Nat := if x.n = 0 then none else x.ao.map Addr.block
theorem KeptAt.fr {E : Nat → Prop} {w w' : World} (hf : Fr E w w') {pat : Int → List Value} {x : CbD} {z : Int} (h : KeptAt pat w x z) (he : ∀ k, x.blk = some k → ¬ E k) : KeptAt pat w' x z := by
  by_cases h0 : x.n = 0
  · exact Or.inl h0
  · rcases h with h | ⟨b, e, hr⟩
    · exact Or.inl h
    · exact Or.inr ⟨b, e, hf.vrow hr (he b (by unfold CbD.blk; rw [if_neg h0, e]; rfl))⟩
/-- one kind of lists: those that lie there, their numbers. Colours: 13 the drawer, 13 + a the row of the lists, 18 + a that of the numbers, 24 the lists themselves -/
structure DrK (a : Nat) (col : Nat → Nat) (z : Nat) (w : World) (Dr : Nat) (V W : Value) (q : Nat) (cs : List CbD) (ns : List Int) : Prop where
  ca : w.cell? ⟨Dr, a, none⟩ = some V
  cb : w.cell? ⟨Dr, a + 5, none⟩ = some W
  oc : OwnRec CbD.v (eOf a) 1 w 0 V cs
  on : OwnRec iV 3 1 w 0 W ns
  ln : cs.length = ns.length
  lq : ns.length ≤ q
  kp : ∀ i, i < cs.length → KeptAt (patOf a) w (cs.getD i dCb) (ns.getD i 0)
  kv : ∀ k, V.ownBlock = some k → col k = z + 13 + a
  kw : ∀ k, W.ownBlock = some k → col k = z + 18 + a
  kl : ∀ i, i < cs.length → ∀ k, (cs.getD i dCb).blk = some k → col k = z + 24
structure DrA (col : Nat → Nat) (z : Nat) (w : World) (Dr : Nat) (q : Nat) : Prop where
  n0 : ∃ k, w.cell? ⟨Dr, 0, none⟩ = some (.int .i64 k)
  fz : ∀ j, w.frozen? ⟨Dr, j, none⟩ = false
  kd : col Dr = z + 13
  kn : ∀ a, 1 ≤ a → a ≤ 5 → ∃ V W cs ns, DrK a col z w Dr V W q cs ns
/-- new colours for what had none -/
def Ext (z lo hi : Nat) (col col' : Nat → Nat) (w' : World) : Prop := ∀ k, col' k = col k ∨ (col k = 0 ∧ z + lo ≤ col' k ∧ col' k ≤ z + hi ∧ k < w'.heap.size)
theorem Ext.refl (z lo hi : Nat) (col : Nat → Nat) (w : World) : Ext z lo hi col col w := fun _ => Or.inl rfl
theorem Ext.same {z lo hi : Nat} {col col' : Nat → Nat} {w : World} (h : Ext z lo hi col col' w) {k : Nat} (hk : col k ≠ 0) : col' k = col k := (h k).resolve_right (fun e => hk e.1)
theorem Ext.trans {z lo hi : Nat} {c0 c1 c2 : Nat → Nat} {w1 w2 : World} (h : Ext z lo hi c0 c1 w1) (k : Ext z lo hi c1 c2 w2) (hs : w1.heap.size ≤ w2.heap.size) : Ext z lo hi c0 c2 w2 := fun q => by
  rcases h q with e | e
  · rcases k q with f | f
    · exact Or.inl (f.trans e)
    · exact Or.inr ⟨by rw [← e]; exact f.1, f.2⟩
  · rcases k q with f | f
    · exact Or.inr ⟨e.1, by omega, by omega, by omega⟩
    · exact Or.inr ⟨e.1, f.2⟩
theorem Ext.weak {z lo hi lo' hi' : Nat} {col col' : Nat → Nat} {w w' : World} (h : Ext z lo hi col col' w) (h1 : lo' ≤ lo) (h2 : hi ≤ hi') (hs : w.heap.size ≤ w'.heap.size) : Ext z lo' hi' col col' w' := fun k => (h k).imp id (fun e => ⟨e.1, by omega, by omega, by omega⟩)
theorem Ext.zero {z lo hi : Nat} {col col' : Nat → Nat} {w w' : World} (h : Ext z lo hi col col' w') (hs : w.heap.size ≤ w'.heap.size) (hz : ∀ k, w.heap.size ≤ k → col k = 0) : ∀ k, w'.heap.size ≤ k → col' k = 0 := fun k hk => by
  rcases h k with e | e
  · rw [e]; exact hz k (by omega)
  · omega
theorem DrK.mv {a : Nat} {col col' : Nat → Nat} {z : Nat} {w w' : World} {Dr : Nat} {V W : Value} {q q' : Nat} {cs : List CbD} {ns : List Int} {E : Nat → Prop} (h : DrK a col z w Dr V W q cs ns) (hf : Fr E w w') (hE : ∀ k, (col k = z + 13 + a ∨ col k = z + 18 + a ∨ col k = z + 24) → ¬ E k) (hc : ∀ k, col k ≠ 0 → col' k = col k) (hq : q ≤ q')
    (h1 : w'.cell? ⟨Dr, a, none⟩ = some V) (h2 : w'.cell? ⟨Dr, a + 5, none⟩ = some W) : DrK a col' z w' Dr V W q' cs ns :=
  ⟨h1, h2, hf.own h.oc (fun k hk => hE k (Or.inl (h.kv k hk))), hf.own h.on (fun k hk => hE k (Or.inr (Or.inl (h.kw k hk)))), h.ln, Nat.le_trans h.lq hq, fun i hi => (h.kp i hi).fr hf (fun k hk => hE k (Or.inr (Or.inr (h.kl i hi k hk)))), fun k hk => by rw [hc k (by rw [h.kv k hk]; omega)]; exact h.kv k hk, fun k hk => by rw [hc k (by rw [h.kw k hk]; omega)]; exact h.kw k hk, fun i hi k hk => by rw [hc k (by rw [h.kl i hi k hk]; omega)]; exact h.kl i hi k hk⟩
theorem DrA.mv {col col' : Nat → Nat} {z : Nat} {w w' : World} {Dr q q' : Nat} {E : Nat → Prop} (h : DrA col z w Dr q) (hf : Fr E w w') (hE : ∀ k, E k → ¬ (z + 13 ≤ col k ∧ col k ≤ z + 24)) (hc : ∀ k, col k ≠ 0 → col' k = col k) (hq : q ≤ q') : DrA col' z w' Dr q' := by
  have hD : ¬ E Dr := fun e => hE Dr e (by rw [h.kd]; omega)
  obtain ⟨k, n0⟩ := h.n0
  have hl : Dr < w.heap.size := cell_lt n0
  refine ⟨⟨k, hf.cell n0 hD⟩, fun j => (hf.frozen hl hD).trans (h.fz j), by rw [hc Dr (by rw [h.kd]; omega)]; exact h.kd, fun a h1 h2 => ?_⟩
  obtain ⟨V, W, cs, ns, hk⟩ := h.kn a h1 h2
  exact ⟨V, W, cs, ns, hk.mv hf (fun k hk e => hE k e (by omega)) hc hq (hf.cell hk.ca hD) (hf.cell hk.cb hD)⟩
theorem DrA.grown {col : Nat → Nat} {z : Nat} {w w' : World} {Dr q : Nat} (h : DrA col z w Dr q) (hb : Below w.heap.size w w') : DrA col z w' Dr q :=
  h.mv (Fr.of_below hb (fun _ => False)) (fun _ h => h.elim) (fun _ _ => rfl) (Nat.le_refl _)
theorem DrA.lt {col : Nat → Nat} {z : Nat} {w : World} {Dr q : Nat} (h : DrA col z w Dr q) : Dr < w.heap.size := by
  obtain ⟨k, n0⟩ := h.n0
  exact cell_lt n0
/-- the number is raised -/
theorem DrA.tick {col : Nat → Nat} {z : Nat} {w : World} {Dr q : Nat} (h : DrA col z w Dr q) (x : Int) : DrA col z (w.setCell ⟨Dr, 0, none⟩ (.int .i64 x)) Dr q ∧ (w.setCell ⟨Dr, 0, none⟩ (.int .i64 x)).cell? ⟨Dr, 0, none⟩ = some (.int .i64 x) := by
  obtain ⟨k, n0⟩ := h.n0
  have hf : Fr (fun k => k = Dr) w (w.setCell ⟨Dr, 0, none⟩ (.int .i64 x)) := (Fr.refl _ w).set Dr 0 _ (fun _ => rfl)
  refine ⟨⟨⟨x, ss n0⟩, fun j => by rw [World.frozen?_setCell]; exact h.fz j, h.kd, fun a h1 h2 => ?_⟩, ss n0⟩
  obtain ⟨V, W, cs, ns, hk⟩ := h.kn a h1 h2
  exact ⟨V, W, cs, ns, hk.mv hf (fun k hk2 e => by subst e; rw [h.kd] at hk2; omega) (fun _ _ => rfl) (Nat.le_refl _) (so hk.ca (by omega)) (so hk.cb (by omega))⟩
/-- a list of kind a lies there, its number not yet -/
structure DrB (a : Nat) (col : Nat → Nat) (z : Nat) (w : World) (Dr q : Nat) (V W : Value) (cs : List CbD) (ns : List Int) (z1 : Int) : Prop where
  fz : ∀ j, w.frozen? ⟨Dr, j, none⟩ = false
  kd : col Dr = z + 13
  c0 : w.cell? ⟨Dr, 0, none⟩ = some (.int .i64 z1)
  ca : w.cell? ⟨Dr, a, none⟩ = some V
  cb : w.cell? ⟨Dr, a + 5, none⟩ = some W
  oc : OwnRec CbD.v (eOf a) 1 w 0 V cs
  on : OwnRec iV 3 1 w 0 W ns
  ln : cs.length = ns.length + 1
  lq : ns.length ≤ q
  kp : ∀ i, i < cs.length → KeptAt (patOf a) w (cs.getD i dCb) ((ns ++ [z1]).getD i 0)
  kv : ∀ k, V.ownBlock = some k → col k = z + 13 + a
  kw : ∀ k, W.ownBlock = some k → col k = z + 18 + a
  kl : ∀ i, i < cs.length → ∀ k, (cs.getD i dCb).blk = some k → col k = z + 24
  ot : ∀ b, 1 ≤ b → b ≤ 5 → b ≠ a → ∃ V W cs ns, DrK b col z w Dr V W q cs ns
def col1 (col : Nat → Nat) (z a g5 : Nat) (x : CbD) (k : Nat) : Nat := if k = g5 then z + 13 + a else if x.blk = some k then z + 24 else col k
def col2 (col : Nat → Nat) (z a g7 : Nat) (k : Nat) : Nat := if k = g7 then z + 18 + a else col k
theorem gsnL {α : Type} (l : List α) (x d : α) : (l ++ [x]).getD l.length d = x := by simp [List.getD]
theorem gsnA {α : Type} (l : List α) (x d : α) (i : Nat) (h : i < l.length) : (l ++ [x]).getD i d = l.getD i d := by simp [List.getD, List.getElem?_append_left h]
theorem dr_one {a q Dr z : Nat} {z1 : Int} {col : Nat → Nat} {wr w5 : World} {V W V5 : Value} {cs : List CbD} {ns : List Int} {x : CbD} {ob5 : Obj} {g5 n5 cap5 : Nat} (hA : DrA col z wr Dr q) (hk : DrK a col z wr Dr V W q cs ns) (ha : 1 ≤ a ∧ a ≤ 5) (hz : ∀ k, wr.heap.size ≤ k → col k = 0)
    (h0 : wr.cell? ⟨Dr, 0, none⟩ = some (.int .i64 z1)) (hx : KeptAt (patOf a) wr x z1) (hxc : ∀ k, x.blk = some k → col k = 0 ∧ k < wr.heap.size) (hV5 : V5 = .slice (some ⟨g5, 0, none⟩) n5 cap5) (h5 : OwnRec CbD.v (eOf a) 1 w5 0 V5 (cs ++ [x])) (hg5 : (wr.alloc ob5).grownBy w5 V.ownBlock) (hl5 : V.ownBlock = some g5 ∨ (wr.alloc ob5).heap.size ≤ g5) :
    w5.cell? ⟨Dr, a, none⟩ = some V ∧ w5.frozen? ⟨Dr, a, none⟩ = false ∧ DrB a (col1 col z a g5 x) z (w5.setCell ⟨Dr, a, none⟩ V5) Dr q V5 W (cs ++ [x]) ns z1 ∧ Fr (fun k => k = Dr ∨ V.ownBlock = some k) wr (w5.setCell ⟨Dr, a, none⟩ V5) ∧ Ext z 13 24 col (col1 col z a g5 x) w5 ∧ (∀ k, col k = 0 → k < wr.heap.size → x.blk ≠ some k → col1 col z a g5 x k = 0) := by
  subst hV5
  have hgr : wr.grownBy w5 V.ownBlock := gb_trans (gb_alloc _ _ _) hg5
  have hDl : Dr < wr.heap.size := hA.lt
  have hDV : some Dr ≠ V.ownBlock := fun e => by have := hk.kv Dr e.symm; rw [hA.kd] at this; omega
  have hg5l : g5 < w5.heap.size := (h5.blk g5 rfl).2
  have hf : Fr (fun k => k = Dr ∨ V.ownBlock = some k) wr (w5.setCell ⟨Dr, a, none⟩ (.slice (some ⟨g5, 0, none⟩) n5 cap5)) := (Fr.of_gb hgr (fun k hk _ => Or.inr hk)).set Dr a _ (fun _ => Or.inl rfl)
  have hg5c : col g5 = z + 13 + a ∨ col g5 = 0 := by
    rcases hl5 with e | e
    · exact Or.inl (hk.kv g5 e)
    · rw [World.size_alloc] at e; exact Or.inr (hz g5 (by omega))
  have hg5D : g5 ≠ Dr := fun e => by subst e; rw [hA.kd] at hg5c; omega
  have hkeep : ∀ k, col k ≠ 0 → col1 col z a g5 x k = col k := fun k hk0 => by
    unfold col1
    by_cases e : k = g5
    · subst e; rw [if_pos rfl]; omega
    · rw [if_neg e]
      split
      · rename_i e2; exact absurd (hxc k e2).1 hk0
      · rfl
  have hxg : ∀ k, x.blk = some k → k ≠ g5 := fun k hk2 e => by
    subst e
    have h1 := hxc k hk2
    rcases hl5 with e | e
    · have := hk.kv k e; omega
    · rw [World.size_alloc] at e; omega
  have hsz : wr.heap.size ≤ w5.heap.size := hgr.size
  refine ⟨gb_cell hgr hk.ca hDV, (gb_frozen hgr hDl hDV).trans (hA.fz a), ⟨fun j => by rw [World.frozen?_setCell]; exact (gb_frozen hgr hDl hDV).trans (hA.fz j), by rw [hkeep Dr (by rw [hA.kd]; omega)]; exact hA.kd, so (gb_cell hgr h0 hDV) (by omega), ss (gb_cell hgr hk.ca hDV), so (gb_cell hgr hk.cb hDV) (by omega), own_set h5 _ _ _ (fun e => by simp [Value.ownBlock] at e; exact hg5D e), ?_, by rw [List.length_append, hk.ln]; rfl, hk.lq, fun i hi => ?_, fun k e => ?_, fun k e => ?_, fun i hi k e => ?_, fun b h1 h2 hne => ?_⟩, hf, fun k => ?_, fun k hk1 hk2 hk3 => ?_⟩
  · exact hf.own hk.on (fun k hk2 e => by
      have h1 := hk.kw k hk2
      rcases e with e | e
      · subst e; rw [hA.kd] at h1; omega
      · have := hk.kv k e; omega)
  · have hnE : ∀ k, (col k = z + 24 ∨ col k = 0 ∧ k < wr.heap.size) → ¬ (k = Dr ∨ V.ownBlock = some k) := fun k h1 e => by
      rcases e with e | e
      · subst e; rw [hA.kd] at h1; omega
      · have := hk.kv k e; omega
    rw [List.length_append, List.length_singleton] at hi
    by_cases e : i < cs.length
    · rw [gsnA cs x dCb i e, gsnA ns z1 0 i (by rw [← hk.ln]; exact e)]
      exact (hk.kp i e).fr hf (fun k hk2 => hnE k (Or.inl (hk.kl i e k hk2)))
    · have e2 : i = cs.length := by omega
      subst e2
      rw [gsnL, hk.ln, gsnL]
      exact hx.fr hf (fun k hk2 => hnE k (Or.inr (hxc k hk2)))
  · simp [Value.ownBlock] at e
    subst e
    unfold col1
    rw [if_pos rfl]
  · rw [hkeep k (by rw [hk.kw k e]; omega)]; exact hk.kw k e
  · rw [List.length_append, List.length_singleton] at hi
    by_cases e2 : i < cs.length
    · rw [gsnA cs x dCb i e2] at e
      rw [hkeep k (by rw [hk.kl i e2 k e]; omega)]
      exact hk.kl i e2 k e
    · have e3 : i = cs.length := by omega
      subst e3
      rw [gsnL] at e
      unfold col1
      rw [if_neg (hxg k e), if_pos e]
  · obtain ⟨V', W', cs', ns', h'⟩ := hA.kn b h1 h2
    exact ⟨V', W', cs', ns', h'.mv hf (fun k hk2 e => by
      rcases e with e | e
      · subst e; rw [hA.kd] at hk2; omega
      · have := hk.kv k e; omega) hkeep (Nat.le_refl _) (so (gb_cell hgr h'.ca hDV) (by omega)) (so (gb_cell hgr h'.cb hDV) (by omega))⟩
  · unfold col1
    by_cases e : k = g5
    · subst e
      rw [if_pos rfl]
      rcases hg5c with e2 | e2
      · exact Or.inl e2.symm
      · exact Or.inr ⟨e2, by omega, by omega, hg5l⟩
    · rw [if_neg e]
      by_cases e2 : x.blk = some k
      · rw [if_pos e2]
        have := hxc k e2
        exact Or.inr ⟨this.1, by omega, by omega, by omega⟩
      · rw [if_neg e2]
        exact Or.inl rfl
  · unfold col1
    rw [if_neg (fun e => by
      subst e
      rcases hl5 with e2 | e2
      · have := hk.kv k e2; omega
      · rw [World.size_alloc] at e2; omega), if_neg hk3]
    exact hk1
theorem dr_two {a q Dr z : Nat} {z1 : Int} {col : Nat → Nat} {w6 w7 : World} {V W V7 : Value} {cs : List CbD} {ns : List Int} {ob7 : Obj} {g7 n7 cap7 : Nat} (h : DrB a col z w6 Dr q V W cs ns z1) (ha : 1 ≤ a ∧ a ≤ 5) (hz : ∀ k, w6.heap.size ≤ k → col k = 0)
    (hV7 : V7 = .slice (some ⟨g7, 0, none⟩) n7 cap7) (h7 : OwnRec iV 3 1 w7 0 V7 (ns ++ [z1])) (hg7 : ((w6.alloc ob7).drew).grownBy w7 W.ownBlock) (hl7 : W.ownBlock = some g7 ∨ ((w6.alloc ob7).drew).heap.size ≤ g7) :
    DrA (col2 col z a g7) z (w7.setCell ⟨Dr, a + 5, none⟩ V7) Dr (q + 1) ∧ Fr (fun k => k = Dr ∨ W.ownBlock = some k) w6 (w7.setCell ⟨Dr, a + 5, none⟩ V7) ∧ Ext z 13 24 col (col2 col z a g7) w7 ∧ (∀ k, col k = 0 → k < w6.heap.size → col2 col z a g7 k = 0) := by
  subst hV7
  have hgr : w6.grownBy w7 W.ownBlock := gb_trans (gb_trans (gb_alloc _ _ _) (gb_drew _ _)) hg7
  have hDl : Dr < w6.heap.size := cell_lt h.c0
  have hDW : some Dr ≠ W.ownBlock := fun e => by have := h.kw Dr e.symm; rw [h.kd] at this; omega
  have hg7l : g7 < w7.heap.size := (h7.blk g7 rfl).2
  have hf : Fr (fun k => k = Dr ∨ W.ownBlock = some k) w6 (w7.setCell ⟨Dr, a + 5, none⟩ (.slice (some ⟨g7, 0, none⟩) n7 cap7)) := (Fr.of_gb hgr (fun k hk _ => Or.inr hk)).set Dr (a + 5) _ (fun _ => Or.inl rfl)
  have hg7c : col g7 = z + 18 + a ∨ col g7 = 0 := by
    rcases hl7 with e | e
    · exact Or.inl (h.kw g7 e)
    · rw [World.size_drew, World.size_alloc] at e; exact Or.inr (hz g7 (by omega))
  have hg7D : g7 ≠ Dr := fun e => by subst e; rw [h.kd] at hg7c; omega
  have hkeep : ∀ k, col k ≠ 0 → col2 col z a g7 k = col k := fun k hk0 => by
    unfold col2
    by_cases e : k = g7
    · subst e; rw [if_pos rfl]; omega
    · rw [if_neg e]
  have hnE : ∀ k, (col k = z + 13 + a ∨ col k = z + 24) → ¬ (k = Dr ∨ W.ownBlock = some k) := fun k h1 e => by
    rcases e with e | e
    · subst e; rw [h.kd] at h1; omega
    · have := h.kw k e; omega
  refine ⟨⟨⟨z1, so (gb_cell hgr h.c0 hDW) (by omega)⟩, fun j => by rw [World.frozen?_setCell]; exact (gb_frozen hgr hDl hDW).trans (h.fz j), by rw [hkeep Dr (by rw [h.kd]; omega)]; exact h.kd, fun b h1 h2 => ?_⟩, hf, fun k => ?_, fun k hk1 hk2 => ?_⟩
  · by_cases e : b = a
    · subst e
      refine ⟨V, .slice (some ⟨g7, 0, none⟩) n7 cap7, cs, ns ++ [z1], ⟨so (gb_cell hgr h.ca hDW) (by omega), ss (gb_cell hgr h.cb hDW), hf.own h.oc (fun k hk => hnE k (Or.inl (h.kv k hk))), own_set h7 _ _ _ (fun e => by simp [Value.ownBlock] at e; exact hg7D e), by rw [h.ln, List.length_append]; rfl, by rw [List.length_append, List.length_singleton]; have := h.lq; omega, fun i hi => (h.kp i hi).fr hf (fun k hk => hnE k (Or.inr (h.kl i hi k hk))), fun k hk => by rw [hkeep k (by rw [h.kv k hk]; omega)]; exact h.kv k hk, fun k hk => ?_, fun i hi k hk => by rw [hkeep k (by rw [h.kl i hi k hk]; omega)]; exact h.kl i hi k hk⟩⟩
      simp [Value.ownBlock] at hk
      subst hk
      unfold col2
      rw [if_pos rfl]
    · obtain ⟨V', W', cs', ns', h'⟩ := h.ot b h1 h2 e
      exact ⟨V', W', cs', ns', h'.mv hf (fun k hk2 e => by
        rcases e with e | e
        · subst e; rw [h.kd] at hk2; omega
        · have := h.kw k e; omega) hkeep (by omega) (so (gb_cell hgr h'.ca hDW) (by omega)) (so (gb_cell hgr h'.cb hDW) (by omega))⟩
  · unfold col2
    by_cases e : k = g7
    · subst e
      rw [if_pos rfl]
      rcases hg7c with e2 | e2
      · exact Or.inl e2.symm
      · exact Or.inr ⟨e2, by omega, by omega, hg7l⟩
    · rw [if_neg e]
      exact Or.inl rfl
  · unfold col2
    rw [if_neg (fun e => by
      subst e
      rcases hl7 with e2 | e2
      · have := h.kw k e2; omega
      · rw [World.size_drew, World.size_alloc] at e2; omega)]
    exact hk1
/-- what keeping a list leaves: one more at most of each kind; g: the list's block -/
def KeptM (col : Nat → Nat) (z Dr q m : Nat) (L : Nat → Prop) (w w' : World) : Prop :=
  ∃ col', Ext z 13 24 col col' w' ∧ DrA col' z w' Dr (q + m) ∧ Fr (fun k => (z + 13 ≤ col k ∧ col k ≤ z + 23) ∨ L k) w w' ∧ (∀ k, col k = 0 → k < w.heap.size → ¬ L k → col' k = 0)
abbrev KeptR (col : Nat → Nat) (z Dr q : Nat) (L : Nat → Prop) (w w' : World) : Prop := KeptM col z Dr q 1 L w w'
theorem KeptM.weak {col : Nat → Nat} {z Dr q m : Nat} {L L' : Nat → Prop} {w w' : World} (h : KeptM col z Dr q m L w w') (hL : ∀ k, L k → L' k) : KeptM col z Dr q m L' w w' := by
  obtain ⟨col', h1, h2, h3, h4⟩ := h
  exact ⟨col', h1, h2, h3.weak (fun k _ e => e.imp id (hL k)), fun k e1 e2 e3 => h4 k e1 e2 (fun e => e3 (hL k e))⟩
theorem KeptM.trans {col : Nat → Nat} {z Dr q m n : Nat} {L : Nat → Prop} {w w1 w2 : World} (h : KeptM col z Dr q m L w w1) (hk : ∀ col1, Ext z 13 24 col col1 w1 → DrA col1 z w1 Dr (q + m) → (∀ k, col k = 0 → k < w.heap.size → ¬ L k → col1 k = 0) → KeptM col1 z Dr (q + m) n L w1 w2) : KeptM col z Dr q (m + n) L w w2 := by
  obtain ⟨c1, h1, h2, h3, h4⟩ := h
  obtain ⟨c2, k1, k2, k3, k4⟩ := hk c1 h1 h2 h4
  refine ⟨c2, h1.trans k1 k3.size, by rw [← Nat.add_assoc]; exact k2, ?_, fun k e1 e2 e3 => k4 k (h4 k e1 e2 e3) (Nat.lt_of_lt_of_le e2 h3.size) e3⟩
  refine ⟨k3.os.trans h3.os, k3.tape.trans h3.tape, k3.output.trans h3.output, Nat.le_trans h3.size k3.size, fun k hk he => ?_⟩
  refine (k3.block k (Nat.lt_of_lt_of_le hk h3.size) (fun e => he ?_)).trans (h3.block k hk he)
  rcases e with e | e
  · refine Or.inl ?_
    rcases h1 k with e2 | e2
    · omega
    · by_cases e3 : L k
      · exact absurd (Or.inr e3) he
      · have := h4 k e2.1 hk e3
        omega
  · exact Or.inr e
/-- the last step: all together -/
theorem dr_end {a q Dr z : Nat} {z1 : Int} {col : Nat → Nat} {w wr w5 w7 : World} {V W V5 V7 : Value} {cs : List CbD} {ns : List Int} {x : CbD} {ob7 : Obj} {g5 g7 n7 cap7 : Nat} {L : Nat → Prop} (hd : col Dr = z + 13) (hkv : ∀ k, V.ownBlock = some k → col k = z + 13 + a) (hkw : ∀ k, W.ownBlock = some k → col k = z + 18 + a) (ha : 1 ≤ a ∧ a ≤ 5) (hz : ∀ k, w.heap.size ≤ k → col k = 0)
    (hw : Fr (fun k => k = Dr ∨ L k) w wr) (hxL : ∀ k, x.blk = some k → L k) (h1 : DrB a (col1 col z a g5 x) z (w5.setCell ⟨Dr, a, none⟩ V5) Dr q V5 W (cs ++ [x]) ns z1) (h2 : Fr (fun k => k = Dr ∨ V.ownBlock = some k) wr (w5.setCell ⟨Dr, a, none⟩ V5)) (h3 : Ext z 13 24 col (col1 col z a g5 x) w5) (h3' : ∀ k, col k = 0 → k < wr.heap.size → x.blk ≠ some k → col1 col z a g5 x k = 0)
    (hV7 : V7 = .slice (some ⟨g7, 0, none⟩) n7 cap7) (h7 : OwnRec iV 3 1 w7 0 V7 (ns ++ [z1])) (hg7 : (((w5.setCell ⟨Dr, a, none⟩ V5).alloc ob7).drew).grownBy w7 W.ownBlock) (hl7 : W.ownBlock = some g7 ∨ (((w5.setCell ⟨Dr, a, none⟩ V5).alloc ob7).drew).heap.size ≤ g7) : KeptR col z Dr q L w (w7.setCell ⟨Dr, a + 5, none⟩ V7) := by
  have hs1 := hw.size
  have hs2 := h2.size
  have hz1 : ∀ k, (w5.setCell ⟨Dr, a, none⟩ V5).heap.size ≤ k → col1 col z a g5 x k = 0 := by
    have := Ext.zero (w := w) h3 (by rw [World.size_setCell] at hs2; omega) hz
    intro k hk
    rw [World.size_setCell] at hk
    exact this k hk
  obtain ⟨r1, r2, r3, r4⟩ := dr_two h1 ha hz1 hV7 h7 hg7 hl7
  have hs3 := r2.size
  refine ⟨_, ?_, r1, ?_, fun k e1 e2 e3 => r4 k (h3' k e1 (by omega) (fun e => e3 (hxL k e))) (by omega)⟩
  · refine Ext.trans (w1 := w5) (h3.weak (Nat.le_refl _) (Nat.le_refl _) (Nat.le_refl _)) (r3.weak (Nat.le_refl _) (Nat.le_refl _) (by simp)) ?_
    rw [World.size_setCell] at hs3
    exact hs3
  · refine (hw.weak (fun k _ e => e.elim (fun e => Or.inl (by subst e; rw [hd]; omega)) Or.inr)).trans ((h2.weak (fun k _ e => Or.inl ?_)).trans ?_)
    · rcases e with e | e
      · subst e; rw [hd]; omega
      · have := hkv k e; omega
    · refine ⟨r2.os, r2.tape, r2.output, r2.size, fun k hk hne => r2.block k hk (fun e => hne ?_)⟩
      rcases e with e | e
      · exact Or.inl (by subst e; rw [hd]; omega)
      · exact Or.inl (by rw [hkw k e]; omega)
/-- a row is written one further on -/
theorem VRow.put {w : World} {b n : Nat} {l : List Value} (h : VRow w b 0 l) (hn : l.length = n) (v : Value) (hc : ∃ u, w.cell? ⟨b, n, none⟩ = some u) : VRow (w.setCell ⟨b, n, none⟩ v) b 0 (l ++ [v]) := by
  obtain ⟨u, hc⟩ := hc
  intro j hj
  rw [List.length_append, List.length_singleton, hn] at hj
  rw [Nat.zero_add]
  by_cases e : j < n
  · rw [cell_oth _ _ _ _ _ (by omega)]
    have := h j (by omega)
    rw [Nat.zero_add] at this
    rw [this, gsnA l v dV j (by omega)]
  · have : j = n := by omega
    subst this
    rw [ss hc, ← hn, gsnL]
theorem rep_snoc (pat : Int → List Value) (j : Nat) (z : Int) : (List.replicate (j + 1) z).flatMap pat = (List.replicate j z).flatMap pat ++ pat z := by
  rw [List.replicate_succ', List.flatMap_append]
  simp
theorem rep_len (pat : Int → List Value) (k : Nat) (hp : ∀ z, (pat z).length = k) (j : Nat) (z : Int) : ((List.replicate j z).flatMap pat).length = j * k := by
  rw [rec_len pat k hp, List.length_replicate]
/-- a list that came out: nothing, or a block of its own that may be written -/
def Handed (k : Nat) (col : Nat → Nat) (w : World) (v : Value) : Prop := v = .slice none 0 0 ∨ ∃ g n cc, v = .slice (some ⟨g, 0, none⟩) n cc ∧ Room w g (cc * k) ∧ col g = 0 ∧ g < w.heap.size ∧ n ≤ cc ∧ cc ≤ 9223372036854775807
theorem Handed.of {α : Type} {f : α → List Value} {e k : Nat} (hf : ∀ x, (f x).length = k) {w : World} {base : Nat} {v : Value} {xs : List α} (h : OwnRec f e k w base v xs) {col : Nat → Nat} (hc : ∀ g, v.ownBlock = some g → col g = 0) : Handed k col w v := by
  rcases h.slice hf with ⟨rfl, _⟩ | ⟨g, c, rfl, _, _, _, _⟩
  · exact Or.inl rfl
  · exact Or.inr ⟨g, _, c, rfl, (own_room h).1, hc g rfl, (h.blk g rfl).2, (own_room h).2, own_cap h⟩
theorem Handed.mv {k : Nat} {col col' : Nat → Nat} {w w' : World} {v : Value} {E : Nat → Prop} (h : Handed k col w v) (hf : Fr E w w') (hE : ∀ g, v.ownBlock = some g → ¬ E g ∧ col' g = 0) : Handed k col' w' v := by
  rcases h with h | ⟨g, n, cc, rfl, h1, h2, h3, h4, h5⟩
  · exact Or.inl h
  · exact Or.inr ⟨g, n, cc, rfl, h1.fr hf (hE g rfl).1, (hE g rfl).2, Nat.lt_of_lt_of_le h3 hf.size, h4, h5⟩
end Go.Proofs.YtffgpepngcnjeaaGreat

namespace Go.Proofs.YtffgpepngcnjeaaGreat
open Go.RowKit
/-- an input without a seal -/
def CoinD.inD (x : CoinD) : InD := ⟨x.id, x.pos, none, 0, 0, []⟩
def payFin (xs : List Cel) (tag : Int) (cs : List CoinD) (ys : List (Int × Int)) (ch : Int) : Sum Int (List CoinD × List (Int × Int) × Int) :=
  if hasId xs (idZ tag (cs.map CoinD.inD) ys) = true then .inl 4 else .inr (cs, ys, ch)
/-- what Pay answers: the error, or the coins, the outputs and the change's index -/
def payZ (xs : List Cel) (s : Int) (g : Nat) (ps : List PayD) (ks : List (Int × Int)) (nx : Int) (ys : List (Int × Int)) (r tag : Int) : Sum Int (List CoinD × List (Int × Int) × Int) :=
  if r < 0 ∨ 1000 < r ∨ ¬ (0 ≤ tag ∧ tag ≤ 1099511627776) then .inl 1
  else if 7 < ys.length ∨ rOuts ys = false then .inl 2
  else match chooseZ r (orderZ r ((ownOf xs s g).filter (freeB ps ks))) (targetZ ys r) with
    | none => .inl 9
    | some (cs, ch) => if 0 < ch then (match unpZ xs s g nx with
        | none => .inl 10
        | some k => payFin xs tag cs (ys ++ [(k.ad, ch)]) k.ix) else payFin xs tag cs ys (-1)
/-- a purse in block P, with its payments -/
structure PP (N : Nat → Prop) (w : World) (P : Nat) (s : Int) (g : Nat) (v : Value) (h : Int) (xs : List Cel) (vl vs : Value) (md nx : Int) (ps : List PayD) (ks : List (Int × Int)) : Prop where
  pu : PAt [] w P s g v h xs
  ls : LsAt N w P 4 (P + 1) vl vs md nx ps ks
  dj : ∀ k, v.ownBlock = some k → vl.ownBlock ≠ some k ∧ vs.ownBlock ≠ some k ∧ ¬ N k
theorem PP.fr {E N : Nat → Prop} {w w' : World} {P : Nat} {s : Int} {g : Nat} {v : Value} {h : Int} {xs : List Cel} {vl vs : Value} {md nx : Int} {ps : List PayD} {ks : List (Int × Int)} (u : PP N w P s g v h xs vl vs md nx ps ks) (hf : Fr E w w') (h1 : ∀ k, chE P v k → ¬ E k) (h2 : ∀ k, lsE P vl vs k → ¬ E k) (h3 : ∀ k, N k → ¬ E k) : PP N w' P s g v h xs vl vs md nx ps ks :=
  ⟨u.pu.fr hf h1, u.ls.fr hf h2 h3, u.dj⟩
theorem PP.grown {N : Nat → Prop} {w w' : World} {P : Nat} {s : Int} {g : Nat} {v : Value} {h : Int} {xs : List Cel} {vl vs : Value} {md nx : Int} {ps : List PayD} {ks : List (Int × Int)} (u : PP N w P s g v h xs vl vs md nx ps ks) (hb : Below w.heap.size w w') : PP N w' P s g v h xs vl vs md nx ps ks :=
  u.fr (Fr.of_below hb (fun _ => False)) (fun _ _ h => h) (fun _ _ h => h) (fun _ _ h => h)
/-- the purse behind a payment: two blocks more in N, the list of the live ones longer -/
def PayGo (N : Nat → Prop) (P : Nat) (s : Int) (g : Nat) (v : Value) (h : Int) (xs : List Cel) (vl vs : Value) (md nx : Int) (ps : List PayD) (ks : List (Int × Int)) (tag : Int) (cs : List CoinD) (ys : List (Int × Int)) (ch : Int) (vi vo vk : Value) (w w' : World) : Prop :=
  ∃ vl' gc cc go co, PP (fun k => N k ∨ k = gc ∨ k = go) w' P s g v h xs vl' vs (md + 1) (if nx ≤ ch then ch + 1 else nx) (ps ++ [⟨md, some ⟨gc, 0, none⟩, cs.length, cc, some ⟨go, 0, none⟩, ys.length, co, tag, false, cs, ys⟩]) ks ∧ PdOk w.heap.size vi vo vk cs ys cs w' ∧ Fr (fun k => k = P ∨ vl.ownBlock = some k) w w' ∧ (∀ k, (vl'.ownBlock = some k ∨ k = gc ∨ k = go) → vl.ownBlock = some k ∨ (w.heap.size ≤ k ∧ vi.ownBlock ≠ some k ∧ vo.ownBlock ≠ some k ∧ vk.ownBlock ≠ some k))
/-- the answer of Pay: number, tag, inputs, outputs, keys, change, error -/
def PayOkR (N : Nat → Prop) (P : Nat) (s : Int) (g : Nat) (v : Value) (h : Int) (xs : List Cel) (vl vs : Value) (md nx : Int) (ps : List PayD) (ks : List (Int × Int)) (ys : List (Int × Int)) (r tag : Int) (a0 a1 a2 a3 a4 a5 : Value) (er : Int) (w w' : World) : Prop :=
  (∃ x, payZ xs s g ps ks nx ys r tag = .inl x ∧ er = x ∧ a0 = .int .i64 0 ∧ a1 = .int .i64 0 ∧ a2 = .slice none 0 0 ∧ a3 = .slice none 0 0 ∧ a4 = .slice none 0 0 ∧ a5 = .int .i64 0 ∧ Below w.heap.size w w') ∨
  (∃ cs zs ch, payZ xs s g ps ks nx ys r tag = .inr (cs, zs, ch) ∧ er = 0 ∧ a0 = .int .i64 md ∧ a1 = .int .i64 tag ∧ a5 = .int .i64 ch ∧ PayGo N P s g v h xs vl vs md nx ps ks tag cs zs ch a2 a3 a4 w w')
theorem mem_choose {r : Int} {l : List CoinD} {want : Int} {cs : List CoinD} {ch : Int} (h : chooseZ r l want = some (cs, ch)) : (∀ x ∈ cs, x ∈ l) ∧ cs.length ≤ 10 := by
  unfold chooseZ at h
  split at h
  · injection h with h
    injection h with h1 _
    subst h1
    unfold memP
    refine ⟨fun x hx => ?_, ?_⟩
    · obtain ⟨i, hi, rfl⟩ := List.mem_map.1 hx
      have := (List.mem_filter.1 hi).2
      rw [Bool.and_eq_true, decide_eq_true_iff] at this
      exact getD_mem l dN i this.1
    · have := range_filter_len (fun i => decide (i < l.length) && bitN (bestP r l want (want + slackZ r)) 8 i) (fun i => l.getD i dN) 8
      omega
  · split at h
    · cases h
    · rename_i hn
      injection h with h
      injection h with h1 _
      subst h1
      exact ⟨fun x hx => List.mem_of_mem_take hx, by rw [List.length_take]; omega⟩
end Go.Proofs.YtffgpepngcnjeaaGreat

namespace Go.Proofs.YtffgpepngcnjeaaGreat
open Go.RowKit
/-- a payment of the document -/
structure MadeD where
  num : Int
  tag : Int
  ai : Option Addr
  n : Nat
  c : Nat
  ap : Option Addr
  m : Nat
  d : Nat
  ak : Option Addr
  q : Nat
  e : Nat
  ch : Int
  ac : Option Addr
  x : Nat
  y : Nat
  lv : Bool
  sg : Bool
  cs : List CoinD
  zs : List (Int × Int)
def dM : MadeD := ⟨0, 0, none, 0, 0, none, 0, 0, none, 0, 0, 0, none, 0, 0, false, false, [], []⟩
def MadeD.v (a : MadeD) : List Value := [.int .i64 a.num, .int .i64 a.tag, .slice a.ai a.n a.c, .slice a.ap a.m a.d, .slice a.ak a.q a.e, .int .i64 a.ch, .slice a.ac a.x a.y, .bool a.lv, .bool a.sg]
theorem made9 (a : MadeD) : a.v.length = 9 := rfl
theorem made_one (a : MadeD) : ∀ u ∈ a.v, u.oneCell' = true := by
  intro u hu
  simp only [MadeD.v, List.mem_cons, List.not_mem_nil, or_false] at hu
  rcases hu with rfl | rfl | rfl | rfl | rfl | rfl | rfl | rfl | rfl <;> rfl
structure MadeCells (w : World) (b off : Nat) (a : MadeD) : Prop where
  c0 : w.cell? ⟨b, off, none⟩ = some (.int .i64 a.num)
  c1 : w.cell? ⟨b, off + 1, none⟩ = some (.int .i64 a.tag)
  c2 : w.cell? ⟨b, off + 2, none⟩ = some (.slice a.ai a.n a.c)
  c3 : w.cell? ⟨b, off + 3, none⟩ = some (.slice a.ap a.m a.d)
  c4 : w.cell? ⟨b, off + 4, none⟩ = some (.slice a.ak a.q a.e)
  c5 : w.cell? ⟨b, off + 5, none⟩ = some (.int .i64 a.ch)
  c6 : w.cell? ⟨b, off + 6, none⟩ = some (.slice a.ac a.x a.y)
  c7 : w.cell? ⟨b, off + 7, none⟩ = some (.bool a.lv)
  c8 : w.cell? ⟨b, off + 8, none⟩ = some (.bool a.sg)
theorem madeCells {w : World} {b off : Nat} {xs : List MadeD} (h : VRow w b off (xs.flatMap MadeD.v)) (j : Nat) (hj : j < xs.length) : MadeCells w b (off + j * 9) (xs.getD j dM) :=
  ⟨rcell made9 dM h j hj 0 (by omega), rcell made9 dM h j hj 1 (by omega), rcell made9 dM h j hj 2 (by omega), rcell made9 dM h j hj 3 (by omega), rcell made9 dM h j hj 4 (by omega), rcell made9 dM h j hj 5 (by omega), rcell made9 dM h j hj 6 (by omega), rcell made9 dM h j hj 7 (by omega), rcell made9 dM h j hj 8 (by omega)⟩
/-- its lists, in blocks of N -/
structure MadeOk (N : Nat → Prop) (w : World) (a : MadeD) : Prop where
  ins : RecAt inC w a.ai a.cs
  outs : RecAt kV w a.ap a.zs
  keys : RecAt kC w a.ak a.cs
  coins : RecAt CoinD.l w a.ac a.cs
  ln : a.cs.length = a.n
  lm : a.zs.length = a.m
  lq : a.cs.length = a.q
  lx : a.cs.length = a.x
  b1 : a.cs.length ≤ 10
  b2 : a.zs.length ≤ 8
  ni : a.cs ≠ [] → ∀ p, (a.ai = some p ∨ a.ak = some p ∨ a.ac = some p) → N p.block
  no : a.zs ≠ [] → ∀ p, a.ap = some p → N p.block
theorem MadeOk.grown {N : Nat → Prop} {w w' : World} {a : MadeD} (h : MadeOk N w a) (hb : Below w.heap.size w w') : MadeOk N w' a := ⟨h.ins.grown hb, h.outs.grown hb, h.keys.grown hb, h.coins.grown hb, h.ln, h.lm, h.lq, h.lx, h.b1, h.b2, h.ni, h.no⟩
def takenB (ms : List MadeD) (id pos : Int) : Bool := ms.any fun a => a.cs.any fun x => a.lv && (x.id == id && x.pos == pos)
def usedR (ms : List MadeD) (kb ki : Int) : Bool := ms.any fun a => a.cs.any fun x => a.sg && (x.br == kb && x.ix == ki)
set_option maxRecDepth 100000 in
set_option maxHeartbeats 4000000 in
theorem taken_any (N : Nat → Prop) (D : Nat) (ao : Option Addr) (n c : Nat) (ms : List MadeD) (x : CoinD) (w : World) (hp : w.cell? ⟨D, 5, none⟩ = some (.slice ao n c)) (hx : RecAt MadeD.v w ao ms) (hn : ms.length = n) (hm : n ≤ 9007199254740992) (hok : ∀ a ∈ ms, MadeOk N w a) :
    Calls Tryz.prog 147 #[.pointer (some ⟨D, 0, none⟩), coinV x] w fun e w' => e = .returned (.bool (takenB ms x.id x.pos)) ∧ Below w.heap.size w w' := by
  obtain ⟨x0, x1, x2, x3, x4, x5⟩ := x
  simp only
  have HN : Hid (ms.length = n) := hn
  have HX : Hid (RecAt MadeD.v w ao ms) := hx
  have HO : Hid (∀ a ∈ ms, MadeOk N w a) := hok
  have hDl : D < w.heap.size := cell_lt hp
  clear hn hx hok
  go_enter Tryz.func147, Tryz.ntmps147
  go_wp2
  go_loopw [5] (fun i wr => ∃ k : Nat, k ≤ n ∧ i = .int .i64 k ∧ Hid ((ms.take k).any (fun a => a.cs.any fun x => a.lv && (x.id == x0 && x.pos == x1)) = false) ∧ wr.cell? ⟨w.heap.size, 0, none⟩ = some (.int .i64 x0) ∧ wr.cell? ⟨w.heap.size, 1, none⟩ = some (.int .i64 x1) ∧ Below w.heap.size w wr) (fun i _ => n - (intOf i).toNat)
  case atStart => exact ⟨0, Nat.zero_le _, rfl, by show List.any _ _ = false; simp, by go_simp, by go_simp, (Below.refl _ _).alloc (Nat.le_refl _) _⟩
  case round =>
    obtain ⟨k, hk, rfl, hany, b0, b1, hbl⟩ := hrel
    have p0 := (hbl.cell (p := ⟨D, 5, none⟩) hDl).trans hp
    by_cases hlt : k < n
    · rcases HX.out with hnil | ⟨g, off, rfl, hrow⟩
      · have := HN.out; rw [hnil] at this; simp at this; omega
      have HM : Hid _ := madeCells hrow k (by rw [HN.out]; exact hlt)
      have HS : Hid _ := any_no (fun a : MadeD => a.cs.any fun x => a.lv && (x.id == x0 && x.pos == x1)) ms dM k (by rw [HN.out]; exact hlt) hany.out
      have HZ : Hid _ := any_yes (fun a : MadeD => a.cs.any fun x => a.lv && (x.id == x0 && x.pos == x1)) ms dM k (by rw [HN.out]; exact hlt)
      have hk0 := HO.out (ms.getD k dM) (getD_mem ms dM k (by rw [HN.out]; exact hlt))
      have HCO : Hid (RecAt CoinD.l w (ms.getD k dM).ac (ms.getD k dM).cs) := hk0.coins
      have HCL : Hid ((ms.getD k dM).cs.length = (ms.getD k dM).x) := hk0.lx
      have hb10 : (ms.getD k dM).x ≤ 10 := by rw [← hk0.lx]; exact hk0.b1
      clear hrow hk0
      generalize ms.getD k dM = y at *
      obtain ⟨ynum, ytag, yai, yn, yc, yap, ym, yd, yak, yq, ye, ych, yac, yx, yy, ylv, ysg, ycs, yzs⟩ := y
      simp only at HM HCO HCL hb10
      have hkI : (k : Int) < (n : Int) := by omega
      have hk0 : (0 : Int) ≤ (k : Int) := by omega
      have m6 := (hbl.cell (p := ⟨g, off + k * 9 + 6, none⟩) (cell_lt HM.out.c6)).trans HM.out.c6
      have m7 := (hbl.cell (p := ⟨g, off + k * 9 + 7, none⟩) (cell_lt HM.out.c7)).trans HM.out.c7
      obtain ⟨wo, rfl⟩ : ∃ wo : World, wo = wr := ⟨_, rfl⟩
      go_wp2
      go_loopw [6] (fun i wr => ∃ j : Nat, j ≤ yx ∧ i = .int .i64 j ∧ Hid ((ycs.take j).any (fun x => ylv && (x.id == x0 && x.pos == x1)) = false) ∧ Below wo.heap.size wo wr) (fun i _ => yx - (intOf i).toNat)
      case atStart => exact ⟨0, Nat.zero_le _, rfl, by show List.any _ _ = false; simp, Below.refl _ _⟩
      case round =>
        obtain ⟨j, hj, rfl, hany2, hbo⟩ := hrel
        have hszo := hbo.size
        have hbw : Below w.heap.size w wr := hbl.trans (hbo.mono hbl.size)
        have q0 := (hbo.cell (p := ⟨D, 5, none⟩) (cell_lt p0)).trans p0
        have q6 := (hbo.cell (p := ⟨g, off + k * 9 + 6, none⟩) (cell_lt m6)).trans m6
        have q7 := (hbo.cell (p := ⟨g, off + k * 9 + 7, none⟩) (cell_lt m7)).trans m7
        have r0 := (hbo.cell (p := ⟨w.heap.size, 0, none⟩) (cell_lt b0)).trans b0
        have r1 := (hbo.cell (p := ⟨w.heap.size, 1, none⟩) (cell_lt b1)).trans b1
        by_cases hlt2 : j < yx
        · rcases HCO.out with hnil | ⟨g2, off2, rfl, hrow⟩
          · have := HCL.out; rw [hnil] at this; simp at this; omega
          obtain ⟨d0, d1, d2, d3, d4, d5⟩ := coinCells (hrow.grown hbw) j (by rw [HCL.out]; exact hlt2)
          have HS2 : Hid _ := any_no (fun x : CoinD => ylv && (x.id == x0 && x.pos == x1)) ycs dN j (by rw [HCL.out]; exact hlt2) hany2.out
          have HZ2 : Hid _ := any_yes (fun x : CoinD => ylv && (x.id == x0 && x.pos == x1)) ycs dN j (by rw [HCL.out]; exact hlt2)
          have hjI : (j : Int) < (yx : Int) := by omega
          have hj0 : (0 : Int) ≤ (j : Int) := by omega
          clear hrow
          generalize ycs.getD j dN = z at d0 d1 d2 d3 d4 d5 HS2 HZ2
          obtain ⟨z0, z1, z2, z3, z4, z5⟩ := z
          simp only at d0 d1 d2 d3 d4 d5
          have bX : Below wr.heap.size wr (wr.alloc (.cells #[.int .i64 z0, .int .i64 z1, .int .i64 z2, .int .i64 z3, .int .i64 z4, .int .i64 z5] 64)) := (Below.refl _ _).alloc (Nat.le_refl _) _
          have s0 := (bX.cell (p := ⟨D, 5, none⟩) (cell_lt q0)).trans q0
          have s7 := (bX.cell (p := ⟨g, off + k * 9 + 7, none⟩) (cell_lt q7)).trans q7
          have t0 := (bX.cell (p := ⟨w.heap.size, 0, none⟩) (cell_lt r0)).trans r0
          have t1 := (bX.cell (p := ⟨w.heap.size, 1, none⟩) (cell_lt r1)).trans r1
          obtain ⟨v0, v1, _, _, _, _⟩ := xrow (vrow_new wr [.int .i64 z0, .int .i64 z1, .int .i64 z2, .int .i64 z3, .int .i64 z4, .int .i64 z5] 64)
          have hb9 : Below wo.heap.size wo (wr.alloc (.cells #[.int .i64 z0, .int .i64 z1, .int .i64 z2, .int .i64 z3, .int .i64 z4, .int .i64 z5] 64)) := hbo.alloc hszo _
          have HBF : Hid (Below w.heap.size w (wr.alloc (.cells #[.int .i64 z0, .int .i64 z1, .int .i64 z2, .int .i64 z3, .int .i64 z4, .int .i64 z5] 64))) := hbl.trans (hb9.mono hbl.size)
          go_upto_region 8 with fail
          clear d0 d1 d2 d3 d4 d5 q0 q6 q7 r0 r1 bX
          generalize wr.alloc (.cells #[.int .i64 z0, .int .i64 z1, .int .i64 z2, .int .i64 z3, .int .i64 z4, .int .i64 z5] 64) = w9 at *
          generalize wr.heap.size = X at *
          cases hlv : ylv
          · go_wp2
            go_roundw
            case rel => exact ⟨j + 1, by omega, by go_num, HS2.out (by rw [hlv]; rfl), hb9⟩
            case measure => simp [intOf]; omega
          · cases h1 : (z0 == x0)
            · go_wp2
              go_roundw
              case rel => exact ⟨j + 1, by omega, by go_num, HS2.out (by simp [h1]), hb9⟩
              case measure => simp [intOf]; omega
            · cases h2 : (z1 == x1)
              · go_wp2
                go_roundw
                case rel => exact ⟨j + 1, by omega, by go_num, HS2.out (by simp [h2]), hb9⟩
                case measure => simp [intOf]; omega
              · go_wp2
                go_ret
                exact ⟨ret_bool (HZ.out (HZ2.out (by show (ylv && (z0 == x0 && z1 == x1)) = true; rw [hlv, h1, h2]; rfl))).symm, HBF.out⟩
        · have HE : Hid _ := any_done (fun x : CoinD => ylv && (x.id == x0 && x.pos == x1)) ycs yx HCL.out j (by omega) hany2.out
          go_wp2
          go_roundw
          case rel => exact ⟨k + 1, by omega, by go_num, HS.out HE.out.symm, r0, r1, hbw⟩
          case measure => simp [intOf]; omega
    · go_wp2
      go_ret
      exact ⟨ret_bool (any_done _ ms n HN.out k (by omega) hany.out), hbl⟩
end Go.Proofs.YtffgpepngcnjeaaGreat
