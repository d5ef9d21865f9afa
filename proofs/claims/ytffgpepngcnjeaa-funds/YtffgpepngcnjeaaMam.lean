/-
  Package payments: Add, walked.
  Funds: its small functions: size, nothing, sameOuts, value, request.
  Funds: inputs.
  A purse with its payments; Pay: what it answers.
-/
import Derived.Test.YtffgpepngcnjeaaMal
import Derived.Deep.RegionLaw
import Derived.Test.YtffgpepngcnjeaaMai
import Derived.Test.YtffgpepngcnjeaaMab
import Derived.Deep.RegionHeld3
namespace Go.Proofs.Ytffgpepngcnjeaa
open Go.RowKit
/-- five cells -/
structure P5 (w : World) (T : Nat) (a0 a1 a2 a3 a4 : Value) : Prop where
  c0 : w.cell? ⟨T, 0, none⟩ = some a0
  c1 : w.cell? ⟨T, 1, none⟩ = some a1
  c2 : w.cell? ⟨T, 2, none⟩ = some a2
  c3 : w.cell? ⟨T, 3, none⟩ = some a3
  c4 : w.cell? ⟨T, 4, none⟩ = some a4
  fz : ∀ j, w.frozen? ⟨T, j, none⟩ = false
theorem P5.fr {E : Nat → Prop} {w w' : World} (hf : Fr E w w') {T : Nat} {a0 a1 a2 a3 a4 : Value} (h : P5 w T a0 a1 a2 a3 a4) (he : ¬ E T) : P5 w' T a0 a1 a2 a3 a4 :=
  ⟨hf.cell h.c0 he, hf.cell h.c1 he, hf.cell h.c2 he, hf.cell h.c3 he, hf.cell h.c4 he, fun j => (hf.frozen (cell_lt h.c0) he).trans (h.fz j)⟩
theorem P5.grown {w w' : World} (hb : Below w.heap.size w w') {T : Nat} {a0 a1 a2 a3 a4 : Value} (h : P5 w T a0 a1 a2 a3 a4) : P5 w' T a0 a1 a2 a3 a4 := h.fr (Fr.of_below hb (fun _ => False)) (fun h => h)
theorem P5.new (w : World) (a0 a1 a2 a3 a4 : Value) (t : TypeId) : P5 (w.alloc (.cells #[a0, a1, a2, a3, a4] t)) w.heap.size a0 a1 a2 a3 a4 := by
  have hv := vrow_new w [a0, a1, a2, a3, a4] t
  exact ⟨hv 0 (by simp), hv 1 (by simp), hv 2 (by simp), hv 3 (by simp), hv 4 (by simp), fun j => World.frozen?_alloc_at _ _ _ _ rfl⟩
theorem P5.s1 {w : World} {T : Nat} {a0 a1 a2 a3 a4 : Value} (h : P5 w T a0 a1 a2 a3 a4) (u : Value) : P5 (w.setCell ⟨T, 1, none⟩ u) T a0 u a2 a3 a4 :=
  ⟨so h.c0 (by decide), ss h.c1, so h.c2 (by decide), so h.c3 (by decide), so h.c4 (by decide), fun j => by rw [World.frozen?_setCell]; exact h.fz j⟩
theorem P5.s2 {w : World} {T : Nat} {a0 a1 a2 a3 a4 : Value} (h : P5 w T a0 a1 a2 a3 a4) (u : Value) : P5 (w.setCell ⟨T, 2, none⟩ u) T a0 a1 u a3 a4 :=
  ⟨so h.c0 (by decide), so h.c1 (by decide), ss h.c2, so h.c3 (by decide), so h.c4 (by decide), fun j => by rw [World.frozen?_setCell]; exact h.fz j⟩
theorem rec_lt' {α : Type} {f : α → List Value} {q : Nat} (hq : ∀ x, (f x).length = q) (hq0 : 0 < q) {w : World} {ao : Option Addr} {l : List α} (h : RecAt f w ao l) (hl : 0 < l.length) : ∃ g off, ao = some ⟨g, off, none⟩ ∧ VRow w g off (l.flatMap f) ∧ g < w.heap.size := by
  rcases h with h | ⟨g, off, e, hr⟩
  · rw [h] at hl; simp at hl
  · refine ⟨g, off, e, hr, hr.lt (fun e3 => ?_)⟩
    have h3 := rec_len f q hq l
    rw [e3] at h3
    simp only [List.length_nil] at h3
    rcases Nat.mul_eq_zero.1 h3.symm with h4 | h4 <;> omega
theorem own_atS {α : Type} {f : α → List Value} {e k : Nat} (hf : ∀ x, (f x).length = k) {w : World} {base n c : Nat} {ao : Option Addr} {xs : List α} (h : OwnRec f e k w base (.slice ao n c) xs) : RecAt f w ao xs := by
  obtain ⟨a2, c2, e2, hat⟩ := OwnRec.at hf h
  injection e2 with e2 _ _
  subst e2
  exact hat
theorem cell_oth (w : World) (L i j : Nat) (u : Value) (hne : i ≠ j) : (w.setCell ⟨L, i, none⟩ u).cell? ⟨L, j, none⟩ = w.cell? ⟨L, j, none⟩ :=
  World.cell?_setCell_other _ _ _ _ (by intro e; have := congrArg Addr.off e; simp only at this; exact hne this)
/-- what Add leaves -/
def AddOk (N : Nat → Prop) (b o base : Nat) (vl vs : Value) (md nx : Int) (ps : List PayD) (ks : List (Int × Int)) (n : Nat) (cs : List CoinD) (m : Nat) (ys : List (Int × Int)) (tag ch : Int) (w w' : World) : Prop :=
  ∃ vl' gc cc go co, LsAt (fun k => N k ∨ k = gc ∨ k = go) w' b o base vl' vs (md + 1) (if nx ≤ ch then ch + 1 else nx) (ps ++ [⟨md, some ⟨gc, 0, none⟩, n, cc, some ⟨go, 0, none⟩, m, co, tag, false, cs, ys⟩]) ks ∧ Fr (fun k => k = b ∨ vl.ownBlock = some k) w w' ∧ w.heap.size ≤ gc ∧ w.heap.size ≤ go ∧ (∀ k, vl'.ownBlock = some k → vl.ownBlock = some k ∨ w.heap.size ≤ k) ∧ (∀ j, j < o → w'.cell? ⟨b, j, none⟩ = w.cell? ⟨b, j, none⟩)
set_option maxRecDepth 100000 in
set_option maxHeartbeats 4000000 in
theorem payAdd_any (N : Nat → Prop) (b o base : Nat) (vl vs : Value) (md nx : Int) (ps : List PayD) (ks : List (Int × Int)) (ac : Option Addr) (n c : Nat) (cs : List CoinD) (ap : Option Addr) (m d : Nat) (ys : List (Int × Int)) (tag ch : Int) (w : World) (hL : LsAt N w b o base vl vs md nx ps ks) (hbs : base ≤ w.heap.size)
    (hx : RecAt CoinD.l w ac cs) (hn : cs.length = n) (h0n : 0 < n) (hn10 : n ≤ 10) (hy : OutsAt w ap ys) (hyn : ys.length = m) (hy0 : 0 < m) (hy8 : m ≤ 8) (hmd : 0 ≤ md ∧ md ≤ 4611686018427387904) (hpl : ps.length ≤ 1000000000000) (hch : -1 ≤ ch ∧ ch ≤ 100) :
    Calls Try.prog 124 #[.pointer (some ⟨b, o, none⟩), .slice ac n c, .slice ap m d, .int .i64 tag, .int .i64 ch] w fun e w' => e = .returned (.int .i64 md) ∧ AddOk N b o base vl vs md nx ps ks n cs m ys tag ch w w' := by
  obtain ⟨gx, ox, eac, hxr, hxl⟩ := rec_lt' coin6 (by omega) hx (by omega)
  obtain ⟨gy, oy, eap, hyr, hyl⟩ := rec_lt' kv2 (by omega) (outs_rec hy) (by omega)
  subst eac
  subst eap
  have HN : Hid (cs.length = n) := hn
  have HYN : Hid (ys.length = m) := hyn
  have HL : Hid (LsAt N w b o base vl vs md nx ps ks) := hL
  have l2 := hL.c2
  have hbl : b < w.heap.size := cell_lt l2
  have HBK : Hid (∀ k, lsE b vl vs k → k < w.heap.size) := hL.blk
  have HNB : Hid (∀ k, N k → k < w.heap.size) := fun k hk => (hL.nN k hk).1
  have HXR : Hid (VRow w gx ox (cs.flatMap CoinD.l)) := hxr
  have HYR : Hid (VRow w gy oy (ys.flatMap kV)) := hyr
  clear hx hn hy hyn hxr hyr hL
  have hbA : Below w.heap.size w (w.alloc (.cells #[.int .i64 md, .slice none 0 0, .slice none 0 0, .int .i64 tag, .bool false] 213)) := (Below.refl _ _).alloc (Nat.le_refl _) _
  have HT1 : Hid (P5 (w.alloc (.cells #[.int .i64 md, .slice none 0 0, .slice none 0 0, .int .i64 tag, .bool false] 213)) w.heap.size (.int .i64 md) (.slice none 0 0) (.slice none 0 0) (.int .i64 tag) (.bool false)) := P5.new w _ _ _ _ _ 213
  go_enter Try.func124, Try.ntmps124
  go_upto_region 2 with fail
  have HL1 : Hid (LsAt N (w.alloc (.cells #[.int .i64 md, .slice none 0 0, .slice none 0 0, .int .i64 tag, .bool false] 213)) b o base vl vs md nx ps ks) := HL.out.grown hbA
  have HXR1 : Hid (VRow (w.alloc (.cells #[.int .i64 md, .slice none 0 0, .slice none 0 0, .int .i64 tag, .bool false] 213)) gx ox (cs.flatMap CoinD.l)) := HXR.out.grown hbA
  have HYR1 : Hid (VRow (w.alloc (.cells #[.int .i64 md, .slice none 0 0, .slice none 0 0, .int .i64 tag, .bool false] 213)) gy oy (ys.flatMap kV)) := HYR.out.grown hbA
  have hz1 : w.heap.size < (w.alloc (.cells #[.int .i64 md, .slice none 0 0, .slice none 0 0, .int .i64 tag, .bool false] 213)).heap.size := by simp
  have HFA : Hid (Fr (fun _ => False) w (w.alloc (.cells #[.int .i64 md, .slice none 0 0, .slice none 0 0, .int .i64 tag, .bool false] 213))) := Fr.of_below hbA _
  generalize w.alloc (.cells #[.int .i64 md, .slice none 0 0, .slice none 0 0, .int .i64 tag, .bool false] 213) = w1 at *
  generalize hT : w.heap.size = T at *
  have HTe : Hid (w.heap.size = T) := hT
  clear hT hbA HXR HYR l2
  have t1 := HT1.out.c1
  have tf1 := HT1.out.fz 1
  go_upto_region 3 with (at_builtin; refine wpList_appN 63 48 _ Try.underlying63 info143 rfl (by decide) coin6 coin_one w1 rfl _ _ rfl (T + 1) gx ox n c (.slice none 0 0) [] cs (by rfl) (by rfl) HN.out h0n (OwnRec.nil _ _ _ _ _) HXR1.out (by omega) (by unfold maxLen; simp; omega) (by simp; omega) ?_; intro gc cc w3 hown3 hg3 hl3 hlt3; simp only [List.length_nil, Nat.zero_add, List.nil_append] at hown3 ⊢; have k2 := gb_cell hg3 t1 (by simp [Value.ownBlock]); have kf := (gb_frozen hg3 (by exact hz1) (by simp [Value.ownBlock])).trans tf1)
  have b3 : Below w1.heap.size w1 w3 := gb_to_below hg3 (Nat.le_refl _) (fun r hr => by simp [Value.ownBlock] at hr)
  have hgc : w1.heap.size ≤ gc := hl3.resolve_left (by simp [Value.ownBlock])
  have hz3 := b3.size
  have HOC4 : Hid (OwnRec CoinD.l 143 6 (w3.setCell ⟨T, 1, none⟩ (.slice (some ⟨gc, 0, none⟩) n cc)) (T + 1) (.slice (some ⟨gc, 0, none⟩) n cc) cs) := own_set hown3 _ _ _ (fun e => by simp [Value.ownBlock] at e; omega)
  have HT4 : Hid (P5 (w3.setCell ⟨T, 1, none⟩ (.slice (some ⟨gc, 0, none⟩) n cc)) T (.int .i64 md) (.slice (some ⟨gc, 0, none⟩) n cc) (.slice none 0 0) (.int .i64 tag) (.bool false)) := (HT1.out.grown b3).s1 _
  have hf34 : Fr (fun k => k = T) w1 (w3.setCell ⟨T, 1, none⟩ (.slice (some ⟨gc, 0, none⟩) n cc)) := (Fr.of_below b3 _).set T 1 _ (fun _ => rfl)
  have HL4 : Hid (LsAt N (w3.setCell ⟨T, 1, none⟩ (.slice (some ⟨gc, 0, none⟩) n cc)) b o base vl vs md nx ps ks) := HL1.out.fr hf34 (fun k hk e => by have := HBK.out k hk; omega) (fun k hk e => by have := HNB.out k hk; omega)
  have HYR4 : Hid (VRow (w3.setCell ⟨T, 1, none⟩ (.slice (some ⟨gc, 0, none⟩) n cc)) gy oy (ys.flatMap kV)) := hf34.vrow HYR1.out (by omega)
  have HF4 : Hid (Fr (fun k => k = T) w1 (w3.setCell ⟨T, 1, none⟩ (.slice (some ⟨gc, 0, none⟩) n cc))) := hf34
  have hz4 : w3.heap.size = (w3.setCell ⟨T, 1, none⟩ (.slice (some ⟨gc, 0, none⟩) n cc)).heap.size := by simp
  clear hown3 hg3 hl3 k2 kf b3 hf34 HL1 HYR1 HXR1 HT1 t1 tf1
  generalize w3.setCell ⟨T, 1, none⟩ (.slice (some ⟨gc, 0, none⟩) n cc) = w4 at *
  have t2 := HT4.out.c2
  have tf2 := HT4.out.fz 2
  have hTl4 : T < w4.heap.size := by omega
  go_upto_region 4 with (at_builtin; refine wpList_appN 23 16 _ Try.underlying23 info111 rfl (by decide) kv2 kv_one w4 rfl _ _ rfl (T + 1) gy oy m d (.slice none 0 0) [] ys (by rfl) (by rfl) HYN.out hy0 (OwnRec.nil _ _ _ _ _) HYR4.out (by omega) (by unfold maxLen; simp; omega) (by simp; omega) ?_; intro go co w5 hown5 hg5 hl5 hlt5; simp only [List.length_nil, Nat.zero_add, List.nil_append] at hown5 ⊢; have k2 := gb_cell hg5 t2 (by simp [Value.ownBlock]); have kf := (gb_frozen hg5 (by exact hTl4) (by simp [Value.ownBlock])).trans tf2)
  have b5 : Below w4.heap.size w4 w5 := gb_to_below hg5 (Nat.le_refl _) (fun r hr => by simp [Value.ownBlock] at hr)
  have hgo : w4.heap.size ≤ go := hl5.resolve_left (by simp [Value.ownBlock])
  have hz5 := b5.size
  have hf56 : Fr (fun k => k = T) w4 (w5.setCell ⟨T, 2, none⟩ (.slice (some ⟨go, 0, none⟩) m co)) := (Fr.of_below b5 _).set T 2 _ (fun _ => rfl)
  have HOO6 : Hid (OwnRec kV 111 2 (w5.setCell ⟨T, 2, none⟩ (.slice (some ⟨go, 0, none⟩) m co)) (T + 1) (.slice (some ⟨go, 0, none⟩) m co) ys) := own_set hown5 _ _ _ (fun e => by simp [Value.ownBlock] at e; omega)
  have HOC6 : Hid (OwnRec CoinD.l 143 6 (w5.setCell ⟨T, 2, none⟩ (.slice (some ⟨go, 0, none⟩) m co)) (T + 1) (.slice (some ⟨gc, 0, none⟩) n cc) cs) := hf56.own HOC4.out (fun k hk e => by simp [Value.ownBlock] at hk; omega)
  have HT6 : Hid (P5 (w5.setCell ⟨T, 2, none⟩ (.slice (some ⟨go, 0, none⟩) m co)) T (.int .i64 md) (.slice (some ⟨gc, 0, none⟩) n cc) (.slice (some ⟨go, 0, none⟩) m co) (.int .i64 tag) (.bool false)) := (HT4.out.grown b5).s2 _
  have HL6 : Hid (LsAt N (w5.setCell ⟨T, 2, none⟩ (.slice (some ⟨go, 0, none⟩) m co)) b o base vl vs md nx ps ks) := HL4.out.fr hf56 (fun k hk e => by have := HBK.out k hk; omega) (fun k hk e => by have := HNB.out k hk; omega)
  have HF6 : Hid (Fr (fun _ => False) w (w5.setCell ⟨T, 2, none⟩ (.slice (some ⟨go, 0, none⟩) m co))) := by
    have h1 := HF4.out.trans hf56
    exact ⟨h1.os.trans HFA.out.os, h1.tape.trans HFA.out.tape, h1.output.trans HFA.out.output, Nat.le_trans HFA.out.size h1.size, fun k hk he => (h1.block k (Nat.lt_of_lt_of_le hk HFA.out.size) (fun e => by have := HTe.out; omega)).trans (HFA.out.block k hk he)⟩
  have hz6 : w5.heap.size = (w5.setCell ⟨T, 2, none⟩ (.slice (some ⟨go, 0, none⟩) m co)).heap.size := by simp
  clear hown5 hg5 hl5 k2 kf b5 hf56 HL4 HYR4 HT4 HOC4 HF4 HFA t2 tf2
  generalize w5.setCell ⟨T, 2, none⟩ (.slice (some ⟨go, 0, none⟩) m co) = w6 at *
  have l0 := HL6.out.c0
  have lf := HL6.out.fz o
  have hvlb : some b ≠ vl.ownBlock := fun e => by have := (HL6.out.ol.blk b e.symm).1; have := HL6.out.nb; omega
  have hb6 : b < w6.heap.size := by omega
  obtain ⟨t0, t1, t2, t3, t4, tz⟩ := HT6.out
  have hT6 : T < w6.heap.size := cell_lt t0
  clear tz
  go_region_law (refine step_appR 132 72 _ Try.underlying132 info213 rfl (by decide) pay5 pay_one _ ?_ (.tmp 32) (.tmp 34) ?_ base w6.heap.size 1 vl ps ⟨md, some ⟨gc, 0, none⟩, n, cc, some ⟨go, 0, none⟩, m, co, tag, false, cs, ys⟩ ?_ ?_ ?_ ?_ ?_ ?_ ?_ ?_; rfl; rfl; rfl; rfl; exact OwnRec.drew (HL6.out.ol.alloc _); exact VRow.drew (vrow_new w6 _ _); (rw [World.size_drew, World.size_alloc]; omega); (unfold maxLen; omega); (omega); intro gl capl w10 hown10 hg10 hl10 hlt10; have k0 := keepO hg10 l0 hvlb; have k1 := keepF hg10 lf hb6 hvlb)
  all_goals
    have bW : Below w6.heap.size w6 ((w6.alloc (.cells #[.int .i64 md, .slice (some ⟨gc, 0, none⟩) n cc, .slice (some ⟨go, 0, none⟩) m co, .int .i64 tag, .bool false] 213)).drew) := ((Below.refl _ _).alloc (Nat.le_refl _) _).drew
    have hzW : ((w6.alloc (.cells #[.int .i64 md, .slice (some ⟨gc, 0, none⟩) n cc, .slice (some ⟨go, 0, none⟩) m co, .int .i64 tag, .bool false] 213)).drew).heap.size = w6.heap.size + 1 := by rw [World.size_drew, World.size_alloc]
    have hLM : LsAt (fun k => N k ∨ k = gc ∨ k = go) ((w6.alloc (.cells #[.int .i64 md, .slice (some ⟨gc, 0, none⟩) n cc, .slice (some ⟨go, 0, none⟩) m co, .int .i64 tag, .bool false] 213)).drew) b o base vl vs md nx ps ks := (HL6.out.grown bW).more (fun k hk => Or.inl hk) (fun k hk => by
      rcases hk with hk | hk | hk
      · exact (HL6.out.grown bW).nN k hk
      · subst hk
        exact ⟨by omega, by omega, fun e => by have := HBK.out _ (Or.inr (Or.inl e)); omega, fun e => by have := HBK.out _ (Or.inr (Or.inr e)); omega⟩
      · subst hk
        exact ⟨by omega, by omega, fun e => by have := HBK.out _ (Or.inr (Or.inl e)); omega, fun e => by have := HBK.out _ (Or.inr (Or.inr e)); omega⟩)
    have hPX : PayOk (fun k => N k ∨ k = gc ∨ k = go) ((w6.alloc (.cells #[.int .i64 md, .slice (some ⟨gc, 0, none⟩) n cc, .slice (some ⟨go, 0, none⟩) m co, .int .i64 tag, .bool false] 213)).drew) ⟨md, some ⟨gc, 0, none⟩, n, cc, some ⟨go, 0, none⟩, m, co, tag, false, cs, ys⟩ := ⟨own_atS coin6 (HOC6.out.grown bW), HN.out, rec_outs (own_atS kv2 (HOO6.out.grown bW)), HYN.out, fun _ a ha => by injection ha with ha; subst ha; exact Or.inr (Or.inl rfl), fun _ a ha => by injection ha with ha; subst ha; exact Or.inr (Or.inr rfl), hn10, hy8⟩
    obtain ⟨hL11, hf11⟩ := hLM.push hown10 hg10 hl10 hPX
    have HL11 : Hid _ := hL11
    have HF11 : Hid (Fr (fun k => k = b ∨ vl.ownBlock = some k) w (w10.setCell ⟨b, o, none⟩ (.slice (some ⟨gl, 0, none⟩) (ps.length + 1) capl))) := (HF6.out.weak (fun _ _ e => e.elim)).trans ((Fr.of_below bW _).trans hf11)
    have hnT : ¬ (T = b ∨ vl.ownBlock = some T) := fun e => by
      rcases e with e | e
      · omega
      · have := HBK.out _ (Or.inr (Or.inl e)); omega
    have x0 := hf11.cell ((bW.cell (p := ⟨T, 0, none⟩) hT6).trans t0) hnT
    have HVL : Hid (∀ k, (Value.slice (some ⟨gl, 0, none⟩) (ps.length + 1) capl).ownBlock = some k → vl.ownBlock = some k ∨ T ≤ k) := fun k hk => by
      simp [Value.ownBlock] at hk
      subst hk
      exact hl10.imp id (fun h => by omega)
    have HCJ : Hid (∀ j, j < o → (w10.setCell ⟨b, o, none⟩ (.slice (some ⟨gl, 0, none⟩) (ps.length + 1) capl)).cell? ⟨b, j, none⟩ = w.cell? ⟨b, j, none⟩) := fun j hj => by
      rw [cell_oth _ _ _ _ _ (by omega), World.cell?_of_block (hg10.block b (by omega) hvlb), World.cell?_of_block (bW.block b hb6), World.cell?_of_block (HF6.out.block b (by rw [HTe.out]; exact hbl) (fun h => h))]
    clear hown10 hg10 hl10 hlt10 k0 k1 hL11 hf11 hLM hPX bW hzW t0 t1 t2 t3 t4 l0 lf
    generalize w10.setCell ⟨b, o, none⟩ (.slice (some ⟨gl, 0, none⟩) (ps.length + 1) capl) = w11 at *
    have y2 := HL11.out.c2
    have g2 := HL11.out.fz (o + 2)
    have y3 := HL11.out.c3
    have g3 := HL11.out.fz (o + 3)
    have hw1 : IntKind.i64.wrap (md + 1) = md + 1 := IntWalk.i64_in _ ⟨by omega, by omega⟩
    have hw2 : IntKind.i64.wrap (ch + 1) = ch + 1 := IntWalk.i64_in _ ⟨by omega, by omega⟩
    have HL12 : Hid _ := HL11.out.set2 (md + 1)
    have HF12 : Hid (Fr (fun k => k = b ∨ vl.ownBlock = some k) w (w11.setCell ⟨b, o + 2, none⟩ (.int .i64 (md + 1)))) := HF11.out.set b (o + 2) _ (fun _ => Or.inl rfl)
    have z0 := sob (K := b) (i := o + 2) (u := .int .i64 (md + 1)) x0 (by omega)
    have z3 := so (i := o + 2) (u := .int .i64 (md + 1)) y3 (by omega)
    have h3 := HL12.out.fz (o + 3)
    by_cases hnc : nx ≤ ch
    · have HL13 : Hid _ := HL12.out.set3 (ch + 1)
      have HF13 : Hid (Fr (fun k => k = b ∨ vl.ownBlock = some k) w ((w11.setCell ⟨b, o + 2, none⟩ (.int .i64 (md + 1))).setCell ⟨b, o + 3, none⟩ (.int .i64 (ch + 1)))) := HF12.out.set b (o + 3) _ (fun _ => Or.inl rfl)
      have q0 := sob (K := b) (i := o + 3) (u := .int .i64 (ch + 1)) z0 (by omega)
      go_wp2
      go_ret
      refine ⟨rfl, ?_⟩
      unfold AddOk
      rw [HTe.out, if_pos (show nx ≤ ch by omega)]
      exact ⟨_, gc, cc, go, co, HL13.out, HF13.out, by omega, by omega, HVL.out, fun j hj => by rw [cell_oth _ _ _ _ _ (by omega), cell_oth _ _ _ _ _ (by omega)]; exact HCJ.out j hj⟩
    · have hnd : decide (nx ≤ ch) = false := decide_eq_false hnc
      go_wp2
      go_ret
      refine ⟨rfl, ?_⟩
      unfold AddOk
      rw [HTe.out, if_neg (show ¬ nx ≤ ch by omega)]
      exact ⟨_, gc, cc, go, co, HL12.out, HF12.out, by omega, by omega, HVL.out, fun j hj => by rw [cell_oth _ _ _ _ _ (by omega)]; exact HCJ.out j hj⟩
end Go.Proofs.Ytffgpepngcnjeaa

namespace Go.Proofs.Ytffgpepngcnjeaa
open Go.RowKit
set_option maxRecDepth 100000 in
set_option maxHeartbeats 400000 in
theorem fSize_any (a b : Nat) (w : World) (ha : a ≤ 1000) (hb : b ≤ 1000) :
    Calls Try.prog 86 #[.int .i64 (a : Int), .int .i64 (b : Int)] w fun e w' => e = .returned (.int .i64 (3 + 7 * (a : Int) + 2 * (b : Int))) ∧ w = w' := by
  have h1 : IntKind.i64.wrap (7 * (a : Int)) = 7 * (a : Int) := IntWalk.i64_in _ ⟨by omega, by omega⟩
  have h2 : IntKind.i64.wrap (3 + 7 * (a : Int)) = 3 + 7 * (a : Int) := IntWalk.i64_in _ ⟨by omega, by omega⟩
  have h3 : IntKind.i64.wrap (2 * (b : Int)) = 2 * (b : Int) := IntWalk.i64_in _ ⟨by omega, by omega⟩
  have h4 : IntKind.i64.wrap (3 + 7 * (a : Int) + 2 * (b : Int)) = 3 + 7 * (a : Int) + 2 * (b : Int) := IntWalk.i64_in _ ⟨by omega, by omega⟩
  go_enter Try.func86, Try.ntmps86
  go_wp2
  go_ret
  exact ⟨rfl, rfl⟩
set_option maxRecDepth 100000 in
set_option maxHeartbeats 400000 in
theorem bare_zero (w : World) : Calls Try.prog 88 #[.agg #[.int .i64 0, .slice none 0 0, .slice none 0 0]] w fun e w' => e = .returned (.bool true) ∧ Below w.heap.size w w' := by
  have hb : Below w.heap.size w (w.alloc (.cells #[.int .i64 0, .slice none 0 0, .slice none 0 0] 25)) := (Below.refl _ _).alloc (Nat.le_refl _) _
  go_enter Try.func88, Try.ntmps88
  go_wp2
  go_ret
  exact ⟨rfl, hb⟩
set_option maxRecDepth 100000 in
set_option maxHeartbeats 400000 in
theorem nothing_zero (w : World) : Calls Try.prog 53 #[.agg #[.int .i64 0, .int .i64 0, .slice none 0 0, .slice none 0 0, .slice none 0 0, .int .i64 0]] w fun e w' => e = .returned (.bool true) ∧ Below w.heap.size w w' := by
  have hb : Below w.heap.size w (w.alloc (.cells #[.int .i64 0, .int .i64 0, .slice none 0 0, .slice none 0 0, .slice none 0 0, .int .i64 0] 101)) := (Below.refl _ _).alloc (Nat.le_refl _) _
  have HV : Hid (VB (w.alloc (.cells #[.int .i64 0, .int .i64 0, .slice none 0 0, .slice none 0 0, .slice none 0 0, .int .i64 0] 101)) w.heap.size (.int .i64 0) (.int .i64 0) (.slice none 0 0) (.slice none 0 0) (.slice none 0 0) (.int .i64 0)) := VB.new w _ _ _ _ _ _ 101
  go_enter Try.func53, Try.ntmps53
  go_upto_region 1 with fail
  generalize w.alloc (.cells #[.int .i64 0, .int .i64 0, .slice none 0 0, .slice none 0 0, .slice none 0 0, .int .i64 0] 101) = w1 at *
  obtain ⟨q0, q1, q2, q3, q4, q5, _⟩ := HV.out
  go_wp2_with fail
  refine (bare_zero _).mono ?_
  rintro e w2 ⟨rfl, hb2⟩
  generalize hB : w.heap.size = B at *
  have r0 := (hb2.cell (p := ⟨B, 0, none⟩) (cell_lt q0)).trans q0
  have r4 := (hb2.cell (p := ⟨B, 4, none⟩) (cell_lt q4)).trans q4
  have r5 := (hb2.cell (p := ⟨B, 5, none⟩) (cell_lt q5)).trans q5
  have hb3 : Below B w w2 := hb.trans (hb2.mono (Nat.le_of_lt (cell_lt q0)))
  clear hb hb2 q0 q1 q2 q3 q4 q5
  go_wp2
  go_ret
  exact ⟨rfl, by rw [hB]; exact hb3⟩
set_option maxRecDepth 100000 in
set_option maxHeartbeats 400000 in
theorem kOuts_nil (ao bo : Option Addr) (c d : Nat) (w : World) :
    Calls Try.prog 90 #[.slice ao 0 c, .slice bo 0 d] w fun e w' => e = .returned (.bool true) ∧ w = w' := by
  go_enter Try.func90, Try.ntmps90
  go_wp2
  refine wp_loop_rounds 1 ?_
  rw [rounds_succ]
  go_wp2
  go_ret
  exact ⟨rfl, rfl⟩
set_option maxRecDepth 100000 in
set_option maxHeartbeats 400000 in
theorem kOuts_row (a1 o1 a2 o2 n c d : Nat) (ys : List (Int × Int)) (w : World) (h1 : OutsRow w a1 o1 ys) (h2 : OutsRow w a2 o2 ys) (hn : ys.length = n) (hm : n ≤ 9223372036854775807) :
    Calls Try.prog 90 #[.slice (some ⟨a1, o1, none⟩) n c, .slice (some ⟨a2, o2, none⟩) n d] w fun e w' => e = .returned (.bool true) ∧ Below w.heap.size w w' := by
  have H1 : Hid (OutsRow w a1 o1 ys) := h1
  have H2 : Hid (OutsRow w a2 o2 ys) := h2
  have HN : Hid (ys.length = n) := hn
  clear h1 h2 hn
  go_enter Try.func90, Try.ntmps90
  go_wp2
  go_loopw [5] (fun i wr => ∃ k : Nat, k ≤ n ∧ i = .int .i64 k ∧ Below w.heap.size w wr) (fun i _ => n - (intOf i).toNat)
  case atStart => exact ⟨0, Nat.zero_le _, rfl, Below.refl _ _⟩
  case round =>
    obtain ⟨k, hk, rfl, hbl⟩ := hrel
    by_cases hlt : k < n
    · obtain ⟨c1, c2⟩ := (H1.out.grown hbl) k (by rw [HN.out]; exact hlt)
      obtain ⟨c3, c4⟩ := (H2.out.grown hbl) k (by rw [HN.out]; exact hlt)
      generalize ys.getD k (0, 0) = y at c1 c2 c3 c4
      obtain ⟨ya, yv⟩ := y
      simp only at c1 c2 c3 c4
      have k1 : (k : Int) < (n : Int) := by omega
      have k0 : (0 : Int) ≤ (k : Int) := by omega
      have gd : (ya != ya) = false := by simp
      go_wp2
      go_quiet (fail)
      go_wp2
      go_roundw
      case rel => exact ⟨k + 1, by omega, by go_num, below_drewN hbl _⟩
      case measure => simp [intOf]; omega
    · go_wp2
      go_ret
      exact ⟨rfl, hbl⟩
theorem kOuts_any (ao bo : Option Addr) (n c d : Nat) (ys : List (Int × Int)) (w : World) (h1 : OutsAt w ao ys) (h2 : OutsAt w bo ys) (hn : ys.length = n) (hm : n ≤ 9223372036854775807) :
    Calls Try.prog 90 #[.slice ao n c, .slice bo n d] w fun e w' => e = .returned (.bool true) ∧ Below w.heap.size w w' := by
  rcases h1 with rfl | ⟨a1, o1, rfl, h1⟩
  · have h0 : n = 0 := by rw [← hn]; rfl
    subst h0
    refine (kOuts_nil ao bo c d w).mono ?_
    rintro e w' ⟨rfl, rfl⟩
    exact ⟨rfl, Below.refl _ _⟩
  · rcases h2 with rfl | ⟨a2, o2, rfl, h2⟩
    · have h0 : n = 0 := by rw [← hn]; rfl
      subst h0
      refine (kOuts_nil _ bo c d w).mono ?_
      rintro e w' ⟨rfl, rfl⟩
      exact ⟨rfl, Below.refl _ _⟩
    · exact kOuts_row a1 o1 a2 o2 n c d ys w h1 h2 hn hm
/-- the value of the deposit of this name -/
def valZ : List CoinD → Int → Int → Int
  | [], _, _ => -1
  | x :: r, id, pos => if (x.id == id && pos == 0) = true then x.val else valZ r id pos
theorem valZ_drop (l : List CoinD) (id pos : Int) (k : Nat) (h : k < l.length) : valZ (l.drop k) id pos = if ((l.getD k dN).id == id && pos == 0) = true then (l.getD k dN).val else valZ (l.drop (k + 1)) id pos := by
  rw [List.drop_eq_getElem_cons h]
  simp only [List.getD, List.getElem?_eq_getElem h, Option.getD_some]
  rfl
set_option maxRecDepth 100000 in
set_option maxHeartbeats 1000000 in
theorem value_any (S : Nat) (ao : Option Addr) (n c : Nat) (cs : List CoinD) (id pos : Int) (w : World) (hp : w.cell? ⟨S, 4, none⟩ = some (.slice ao n c)) (hx : RecAt CoinD.l w ao cs) (hn : cs.length = n) (hm : n ≤ 100000) :
    Calls Try.prog 125 #[.pointer (some ⟨S, 0, none⟩), .int .i64 id, .int .i64 pos] w fun e w' => e = .returned (.int .i64 (valZ cs id pos)) ∧ Below w.heap.size w w' := by
  have HA : Hid (RecAt CoinD.l w ao cs) := hx
  have HM : Hid (cs.length = n) := hn
  clear hx hn
  have hS := cell_lt hp
  simp only at hS
  go_enter Try.func125, Try.ntmps125
  go_wp2
  go_loopw [7] (fun i wr => ∃ (k : Nat), k ≤ n ∧ i = .int .i64 k ∧ Hid (valZ (cs.drop k) id pos = valZ cs id pos) ∧ Below w.heap.size w wr) (fun i _ => n - (intOf i).toNat)
  case atStart => exact ⟨0, Nat.zero_le _, rfl, rfl, Below.refl _ _⟩
  case round =>
    obtain ⟨k, hk, rfl, hT, hbl⟩ := hrel
    have p0 := (hbl.cell (p := ⟨S, 4, none⟩) hS).trans hp
    by_cases hlt : k < n
    · rcases HA.out with hnil | ⟨gg, off, rfl, hrow⟩
      · have := HM.out; rw [hnil] at this; simp at this; omega
      obtain ⟨c0, c1, c2, c3, c4, c5⟩ := coinCells (hrow.grown hbl) k (by rw [HM.out]; exact hlt)
      have HS : Hid _ := valZ_drop cs id pos k (by rw [HM.out]; exact hlt)
      clear hrow
      generalize cs.getD k dN = y at c0 c1 c2 c3 c4 c5 HS
      obtain ⟨y0, y1, y2, yval, y4, y5⟩ := y
      simp only at c0 c1 c2 c3 c4 c5 HS
      cases h0 : (y0 == id)
      · go_wp2
        go_roundw
        case rel => exact ⟨k + 1, by omega, by go_num, by show _ = _; rw [← hT.out, HS.out, h0]; rfl, hbl⟩
        case measure => simp [intOf]; omega
      · cases h1 : (pos == 0)
        · go_wp2
          go_roundw
          case rel => exact ⟨k + 1, by omega, by go_num, by show _ = _; rw [← hT.out, HS.out, h0, h1]; rfl, hbl⟩
          case measure => simp [intOf]; omega
        · go_wp2
          go_ret
          exact ⟨ret_int (by rw [← hT.out, HS.out, h0, h1]; rfl), hbl⟩
    · go_wp2
      go_ret
      exact ⟨ret_int (by rw [← hT.out, List.drop_of_length_le (by rw [HM.out]; omega)]; rfl), hbl⟩
/-- what is asked for -/
def rqZ (y : Int × Int) : Int × Int := (Mk.pk y.1 99991, 10 + Mk.pk y.2 1099511627767)
def reqZ (raw : List (Int × Int)) : List (Int × Int) := if raw.length = 0 then [(0, 10)] else (raw.take 7).map rqZ
theorem reqZ_right (raw : List (Int × Int)) : 1 ≤ (reqZ raw).length ∧ (reqZ raw).length ≤ 7 ∧ ∀ y ∈ reqZ raw, rOut y = true := by
  unfold reqZ
  split
  · refine ⟨by simp, by simp, fun y hy => ?_⟩
    rw [List.mem_singleton.1 hy]
    decide
  · rename_i h
    refine ⟨by rw [List.length_map, List.length_take]; omega, by rw [List.length_map, List.length_take]; omega, fun y hy => ?_⟩
    obtain ⟨x, _, rfl⟩ := List.mem_map.1 hy
    have h1 := Mk.pk_bd x.1 99991 (by decide)
    have h2 := Mk.pk_bd x.2 1099511627767 (by decide)
    unfold rOut rqZ
    simp only [(Mk.isM_iff _).2 h1, Bool.true_and, decide_eq_true_eq]
    omega
set_option maxRecDepth 100000 in
set_option maxHeartbeats 4000000 in
theorem request_any (ao : Option Addr) (n c : Nat) (raw : List (Int × Int)) (w : World) (hx : OutsAt w ao raw) (hn : raw.length = n) (hr : ∀ y ∈ raw, (-9223372036854775808 ≤ y.1 ∧ y.1 ≤ 9223372036854775807) ∧ (-9223372036854775808 ≤ y.2 ∧ y.2 ≤ 9223372036854775807)) :
    Calls Try.prog 50 #[.slice ao n c] w fun e w' => ∃ v, e = .returned v ∧ OwnRec kV 111 2 w' w.heap.size v (reqZ raw) ∧ Below w.heap.size w w' := by
  have HN : Hid (raw.length = n) := hn
  have HX : Hid (RecAt kV w ao raw) := outs_rec hx
  have HR : Hid (∀ y ∈ raw, (-9223372036854775808 ≤ y.1 ∧ y.1 ≤ 9223372036854775807) ∧ (-9223372036854775808 ≤ y.2 ∧ y.2 ≤ 9223372036854775807)) := hr
  have HQ : Hid (reqZ raw = if raw.length = 0 then [(0, 10)] else (raw.take 7).map rqZ) := rfl
  clear hn hx hr
  go_enter Try.func50, Try.ntmps50
  go_wp2
  go_loopw [3, 4] (fun v i wr => ∃ k : Nat, k ≤ n ∧ k ≤ 7 ∧ i = .int .i64 k ∧ Hid (OwnRec kV 111 2 wr w.heap.size v ((raw.take k).map rqZ)) ∧ Below w.heap.size w wr) (fun _ i _ => n - (intOf i).toNat)
  case atStart => exact ⟨0, Nat.zero_le _, by omega, rfl, OwnRec.nil _ _ _ _ _, Below.refl _ _⟩
  case round =>
    obtain ⟨k, hk, hk7, rfl, hown, hbl⟩ := hrel
    by_cases hlt : k < n
    · by_cases h7 : k < 7
      · rcases HX.out with hnil | ⟨g, off, rfl, hrow⟩
        · have := HN.out; rw [hnil] at this; simp at this; omega
        obtain ⟨c0, c1⟩ := kvCells (hrow.grown hbl) k (by rw [HN.out]; exact hlt)
        have hyr := HR.out (raw.getD k (0, 0)) (getD_mem raw (0, 0) k (by rw [HN.out]; exact hlt))
        have HS : Hid ((raw.take (k + 1)).map rqZ = (raw.take k).map rqZ ++ [rqZ (raw.getD k (0, 0))]) := by
          show _ = _
          have hkl : k < raw.length := by rw [HN.out]; exact hlt
          have e : raw.getD k (0, 0) = raw[k] := by simp [List.getD, hkl]
          rw [List.take_succ_eq_append_getElem hkl, List.map_append, e]
          rfl
        have HLL : Hid (((raw.take k).map rqZ).length ≤ 7) := by show _ ≤ _; rw [List.length_map, List.length_take]; omega
        clear hrow
        generalize raw.getD k (0, 0) = y at *
        generalize (raw.take k).map rqZ = acc at *
        obtain ⟨y0, y1⟩ := y
        have HRQ : Hid (rqZ (y0, y1) = (Mk.pk y0 99991, 10 + Mk.pk y1 1099511627767)) := rfl
        simp only at c0 c1 hyr
        obtain ⟨⟨r1, r2⟩, r3, r4⟩ := hyr
        have hsz := hbl.size
        have bA : Below wr.heap.size wr (wr.alloc (.cells #[.int .i64 (Mk.pk y0 99991), .int .i64 (10 + Mk.pk y1 1099511627767)] 111)) := (Below.refl _ _).alloc (Nat.le_refl _) _
        have x0 : (wr.alloc (.cells #[.int .i64 (Mk.pk y0 99991), .int .i64 (10 + Mk.pk y1 1099511627767)] 111)).cell? ⟨wr.heap.size, 0, none⟩ = some (.int .i64 (Mk.pk y0 99991)) := by go_simp
        have x1 : (wr.alloc (.cells #[.int .i64 (Mk.pk y0 99991), .int .i64 (10 + Mk.pk y1 1099511627767)] 111)).cell? ⟨wr.heap.size, 1, none⟩ = some (.int .i64 (10 + Mk.pk y1 1099511627767)) := by go_simp
        have hgw : g < wr.heap.size := cell_lt c0
        go_upto_region 7 with (first | (go_at_call 27; refine (pick_any y0 99991 _ (by omega) (by omega) r1 r2).mono ?_; rintro e w' ⟨rfl, rfl⟩) | (go_at_call 70; refine (valued_any y1 _ r3 r4).mono ?_; rintro e w' ⟨rfl, rfl⟩))
        generalize Mk.pk y0 99991 = q0 at *
        generalize 10 + Mk.pk y1 1099511627767 = q1 at *
        generalize (wr.alloc (.cells #[.int .i64 q0, .int .i64 q1] 111)) = w1 at *
        have HO1 : Hid (OwnRec kV 111 2 w1 w.heap.size u3 acc) := hown.out.grown bA
        have hb1 : Below w.heap.size w w1 := hbl.trans (bA.mono hsz)
        have hs1 := hb1.size
        clear bA hown hbl c0 c1
        generalize wr.heap.size = X at *
        have bC : Below w1.heap.size w1 (w1.alloc (.cells #[.int .i64 q0, .int .i64 q1] 111)) := (Below.refl _ _).alloc (Nat.le_refl _) _
        have HO2 : Hid (OwnRec kV 111 2 (w1.alloc (.cells #[.int .i64 q0, .int .i64 q1] 111)) w.heap.size u3 acc) := HO1.out.grown bC
        go_wp2_with (at_builtin; refine wpList_appR 23 16 _ Try.underlying23 info111 rfl (by decide) kv2 kv_one (w1.alloc (.cells #[.int .i64 q0, .int .i64 q1] 111)) rfl _ _ rfl w.heap.size w1.heap.size 1 u3 acc (q0, q1) (by rfl) (by rfl) HO2.out (vrow_new _ _ _) (by simp; omega) (by have := HLL.out; unfold maxLen; omega) (by have := HLL.out; omega) ?_; intro gb capb w8 hown8 hg8 hl8 hlt8)
        have HB8 : Hid (Below w.heap.size w w8) := (hb1.trans (bC.mono hs1)).trans (gb_to_below hg8 (by simp; omega) (fun q hq => (HO2.out.blk q hq).1))
        have HO8 : Hid _ := hown8
        clear hown8 hg8 hl8 hlt8 bC
        go_roundw
        case rel => exact ⟨k + 1, by omega, by omega, by go_num, by rw [HS.out, HRQ.out]; exact HO8.out, HB8.out⟩
        case measure => simp [intOf]; omega
      · have hk7' : k = 7 := by omega
        subst hk7'
        have HL0 : Hid (((raw.take 7).map rqZ).length = 7) := by show _ = _; rw [List.length_map, List.length_take, HN.out]; omega
        obtain ⟨av, cv, ev, _⟩ := OwnRec.at kv2 hown.out
        rw [HL0.out] at ev
        subst ev
        have HE : Hid (reqZ raw = (raw.take 7).map rqZ) := by show _ = _; rw [HQ.out, if_neg (by rw [HN.out]; omega)]
        go_wp2
        go_ret
        exact ⟨_, rfl, by rw [HE.out]; exact hown.out, hbl⟩
    · have hkn : k = n := by omega
      subst hkn
      obtain ⟨av, cv, ev, _⟩ := OwnRec.at kv2 hown.out
      rw [List.length_map, List.length_take, HN.out, Nat.min_self] at ev
      subst ev
      by_cases h0 : k = 0
      · subst h0
        have HE : Hid (reqZ raw = [(0, 10)]) := by show _ = _; rw [HQ.out, if_pos HN.out]
        have HO : Hid (OwnRec kV 111 2 wr w.heap.size (.slice av 0 cv) []) := by have := hown.out; rw [List.take_zero] at this; exact this
        have hs1 := hbl.size
        have bC : Below wr.heap.size wr (wr.alloc (.cells #[.int .i64 0, .int .i64 10] 111)) := (Below.refl _ _).alloc (Nat.le_refl _) _
        have HO2 : Hid (OwnRec kV 111 2 (wr.alloc (.cells #[.int .i64 0, .int .i64 10] 111)) w.heap.size (.slice av 0 cv) []) := HO.out.grown bC
        go_wp2_with (at_builtin; refine wpList_appR 23 16 _ Try.underlying23 info111 rfl (by decide) kv2 kv_one (wr.alloc (.cells #[.int .i64 0, .int .i64 10] 111)) rfl _ _ rfl w.heap.size wr.heap.size 1 (.slice av 0 cv) [] (0, 10) (by rfl) (by rfl) HO2.out (vrow_new _ _ _) (by simp; omega) (by unfold maxLen; simp) (by simp) ?_; intro gb capb w8 hown8 hg8 hl8 hlt8)
        have HB8 : Hid (Below w.heap.size w w8) := (hbl.trans (bC.mono hs1)).trans (gb_to_below hg8 (by simp; omega) (fun q hq => (HO2.out.blk q hq).1))
        have HO8 : Hid _ := hown8
        clear hown8 hg8 hl8 hlt8 bC
        go_ret
        exact ⟨_, rfl, by rw [HE.out]; exact HO8.out, HB8.out⟩
      · have HE : Hid (reqZ raw = (raw.take k).map rqZ) := by
          show _ = _
          rw [HQ.out, if_neg (by rw [HN.out]; exact h0), List.take_of_length_le (by rw [HN.out]; omega), List.take_of_length_le (by rw [HN.out]; omega)]
        have hki : ¬ ((k : Int) = 0) := by omega
        go_wp2
        go_ret
        exact ⟨_, rfl, by rw [HE.out]; exact hown.out, hbl⟩
end Go.Proofs.Ytffgpepngcnjeaa

namespace Go.Proofs.Ytffgpepngcnjeaa
open Go.RowKit
/-- what is read of a scene -/
structure Sn (S P : Nat) (s : Int) (g : Nat) (vi : Value) (ac : Option Addr) (cc : Nat) (cs : List CoinD) (w : World) : Prop where
  c0 : w.cell? ⟨S, 0, none⟩ = some (.pointer (some ⟨P, 0, none⟩))
  c1 : w.cell? ⟨S, 1, none⟩ = some (.int .i64 s)
  c2 : w.cell? ⟨S, 2, none⟩ = some (.int .i64 (g : Int))
  c3 : w.cell? ⟨S, 3, none⟩ = some vi
  c4 : w.cell? ⟨S, 4, none⟩ = some (.slice ac cs.length cc)
  at_ : RecAt CoinD.l w ac cs
theorem Sn.grown {S P : Nat} {s : Int} {g : Nat} {vi : Value} {ac : Option Addr} {cc : Nat} {cs : List CoinD} {w w' : World} (h : Sn S P s g vi ac cc cs w) (hb : Below w.heap.size w w') : Sn S P s g vi ac cc cs w' :=
  ⟨(hb.cell (p := ⟨S, 0, none⟩) (cell_lt h.c0)).trans h.c0, (hb.cell (p := ⟨S, 1, none⟩) (cell_lt h.c1)).trans h.c1, (hb.cell (p := ⟨S, 2, none⟩) (cell_lt h.c2)).trans h.c2, (hb.cell (p := ⟨S, 3, none⟩) (cell_lt h.c3)).trans h.c3, (hb.cell (p := ⟨S, 4, none⟩) (cell_lt h.c4)).trans h.c4, h.at_.grown hb⟩
/-- a coin of the scene that a payment may take -/
structure DpsOk (s : Int) (cs : List CoinD) (x : CoinD) : Prop where
  k : Mk.isK s x.br x.ix = true
  a : Mk.adr s x.br x.ix = x.tt
  h : hasZ cs ⟨x.id, x.pos, x.tt, x.val, 0, 0⟩ = true
  v : valZ cs x.id x.pos = x.val
  b : 0 ≤ x.val ∧ x.val ≤ 1099511627776
theorem keepB3 {w w' : World} {a b c p q r : Nat} {x y z : Value} (hb : Below w.heap.size w w') (h : w.cell? ⟨a, p, none⟩ = some x ∧ w.cell? ⟨b, q, none⟩ = some y ∧ w.cell? ⟨c, r, none⟩ = some z) : w'.cell? ⟨a, p, none⟩ = some x ∧ w'.cell? ⟨b, q, none⟩ = some y ∧ w'.cell? ⟨c, r, none⟩ = some z :=
  ⟨(hb.cell (p := ⟨a, p, none⟩) (cell_lt h.1)).trans h.1, (hb.cell (p := ⟨b, q, none⟩) (cell_lt h.2.1)).trans h.2.1, (hb.cell (p := ⟨c, r, none⟩) (cell_lt h.2.2)).trans h.2.2⟩
theorem keepB4 {w w' : World} {a b c d p q r t : Nat} {x y z u : Value} (hb : Below w.heap.size w w') (h : w.cell? ⟨a, p, none⟩ = some x ∧ w.cell? ⟨b, q, none⟩ = some y ∧ w.cell? ⟨c, r, none⟩ = some z ∧ w.cell? ⟨d, t, none⟩ = some u) : w'.cell? ⟨a, p, none⟩ = some x ∧ w'.cell? ⟨b, q, none⟩ = some y ∧ w'.cell? ⟨c, r, none⟩ = some z ∧ w'.cell? ⟨d, t, none⟩ = some u :=
  ⟨(hb.cell (p := ⟨a, p, none⟩) (cell_lt h.1)).trans h.1, (hb.cell (p := ⟨b, q, none⟩) (cell_lt h.2.1)).trans h.2.1, (hb.cell (p := ⟨c, r, none⟩) (cell_lt h.2.2.1)).trans h.2.2.1, (hb.cell (p := ⟨d, t, none⟩) (cell_lt h.2.2.2)).trans h.2.2.2⟩
set_option maxRecDepth 100000 in
set_option maxHeartbeats 4000000 in
theorem inputs_any (S P : Nat) (s : Int) (g : Nat) (vi : Value) (ac : Option Addr) (cc : Nat) (cs : List CoinD) (n0 t ch : Int) (ai : Option Addr) (n ci : Nat) (ap : Option Addr) (np cp : Nat) (ak : Option Addr) (ck : Nat) (L : List CoinD) (w : World) (hS : Sn S P s g vi ac cc cs w) (hcl : cs.length ≤ 1000) (hi : RecAt inC w ai L) (hk : RecAt kC w ak L) (hn : L.length = n) (h0 : 0 < n) (h10 : n ≤ 10) (hL : ∀ x ∈ L, DpsOk s cs x) (hd : L.Pairwise fun a b => ¬ (a.id = b.id ∧ a.pos = b.pos)) :
    Calls Try.prog 89 #[.pointer (some ⟨S, 0, none⟩), .agg #[.int .i64 n0, .int .i64 t, .slice ai n ci, .slice ap np cp, .slice ak n ck, .int .i64 ch]] w fun e w' => e = .returned (.tuple #[.int .i64 (sumC L), .bool true]) ∧ Below w.heap.size w w' := by
  have hbA : Below w.heap.size w (w.alloc (.cells #[.int .i64 n0, .int .i64 t, .slice ai n ci, .slice ap np cp, .slice ak n ck, .int .i64 ch] 101)) := (Below.refl _ _).alloc (Nat.le_refl _) _
  have HV : Hid (VB (w.alloc (.cells #[.int .i64 n0, .int .i64 t, .slice ai n ci, .slice ap np cp, .slice ak n ck, .int .i64 ch] 101)) w.heap.size (.int .i64 n0) (.int .i64 t) (.slice ai n ci) (.slice ap np cp) (.slice ak n ck) (.int .i64 ch)) := VB.new w _ _ _ _ _ _ 101
  have HS0 : Hid (Sn S P s g vi ac cc cs (w.alloc (.cells #[.int .i64 n0, .int .i64 t, .slice ai n ci, .slice ap np cp, .slice ak n ck, .int .i64 ch] 101))) := hS.grown hbA
  have HI0 : Hid (RecAt inC (w.alloc (.cells #[.int .i64 n0, .int .i64 t, .slice ai n ci, .slice ap np cp, .slice ak n ck, .int .i64 ch] 101)) ai L) := hi.grown hbA
  have HK0 : Hid (RecAt kC (w.alloc (.cells #[.int .i64 n0, .int .i64 t, .slice ai n ci, .slice ap np cp, .slice ak n ck, .int .i64 ch] 101)) ak L) := hk.grown hbA
  have HN : Hid (L.length = n) := hn
  have HL : Hid (∀ x ∈ L, DpsOk s cs x) := hL
  have HD : Hid (L.Pairwise fun a b => ¬ (a.id = b.id ∧ a.pos = b.pos)) := hd
  have HBA : Hid (Below w.heap.size w (w.alloc (.cells #[.int .i64 n0, .int .i64 t, .slice ai n ci, .slice ap np cp, .slice ak n ck, .int .i64 ch] 101))) := hbA
  clear hS hi hk hn hL hd hbA
  have hn1 : ¬ ((n : Int) = 0) := by omega
  have hn2 : ¬ ((10 : Int) < (n : Int)) := by omega
  go_enter Try.func89, Try.ntmps89
  go_upto_region 1 with fail
  generalize w.alloc (.cells #[.int .i64 n0, .int .i64 t, .slice ai n ci, .slice ap np cp, .slice ak n ck, .int .i64 ch] 101) = w0 at *
  generalize hB : w.heap.size = B at *
  have HBe : Hid (w.heap.size = B) := hB
  clear hB
  obtain ⟨b0, b1, b2, b3, b4, b5, _⟩ := HV.out
  have HVS : Hid (w0.cell? ⟨B, 2, none⟩ = some (.slice ai n ci) ∧ w0.cell? ⟨B, 4, none⟩ = some (.slice ak n ck)) := ⟨b2, b4⟩
  have hB0 : B < w0.heap.size := cell_lt b2
  go_wp2
  clear b0 b1 b2 b3 b4 b5 HV
  go_loopw [6, 7] (fun v i wr => ∃ (k : Nat) (T : Int), k ≤ n ∧ i = .int .i64 k ∧ v = .int .i64 T ∧ Hid (((L.take k).map CoinD.val).sum = T) ∧ Below w0.heap.size w0 wr) (fun _ i _ => n - (intOf i).toNat)
  case atStart => exact ⟨0, 0, Nat.zero_le _, rfl, rfl, rfl, Below.refl _ _⟩
  case round =>
    obtain ⟨k, T, hk, rfl, rfl, hT, hbl⟩ := hrel
    have hsz := hbl.size
    have b2 := (hbl.cell (p := ⟨B, 2, none⟩) hB0).trans HVS.out.1
    have b4 := (hbl.cell (p := ⟨B, 4, none⟩) hB0).trans HVS.out.2
    by_cases hlt : k < n
    · have hkl : k < L.length := by rw [HN.out]; exact hlt
      rcases HI0.out.grown hbl with hnil | ⟨gi, oi, rfl, hri⟩
      · rw [hnil] at hkl; simp at hkl
      rcases HK0.out.grown hbl with hnil | ⟨gk, ok, rfl, hrk⟩
      · rw [hnil] at hkl; simp at hkl
      have i0 : wr.cell? ⟨gi, oi + k * 3, none⟩ = some (.int .i64 (L.getD k dN).id) := rcell inC3 dN hri k hkl 0 (by omega)
      have i1 : wr.cell? ⟨gi, oi + k * 3 + 1, none⟩ = some (.int .i64 (L.getD k dN).pos) := rcell inC3 dN hri k hkl 1 (by omega)
      have i2 : wr.cell? ⟨gi, oi + k * 3 + 2, none⟩ = some (.slice none 0 0) := rcell inC3 dN hri k hkl 2 (by omega)
      have k0 : wr.cell? ⟨gk, ok + k * 2, none⟩ = some (.int .i64 (L.getD k dN).br) := rcell kC2 dN hrk k hkl 0 (by omega)
      have k1 : wr.cell? ⟨gk, ok + k * 2 + 1, none⟩ = some (.int .i64 (L.getD k dN).ix) := rcell kC2 dN hrk k hkl 1 (by omega)
      have HRI : Hid (VRow wr gi oi (L.flatMap inC)) := hri
      have HOK : Hid (DpsOk s cs (L.getD k dN)) := HL.out _ (getD_mem L dN k hkl)
      have HDJ : Hid (∀ j, j < k → ¬ ((L.getD j dN).id = (L.getD k dN).id ∧ (L.getD j dN).pos = (L.getD k dN).pos)) := fun j hj => by
        have := List.pairwise_iff_getElem.1 HD.out j k (by omega) hkl hj
        simpa [List.getD, hkl, show j < L.length by omega] using this
      have HSM : Hid _ := sum_snoc CoinD.val L dN k hkl
      have hSb := sum_bd CoinD.val 1099511627776 (L.take k) (fun x hx => (HL.out x (List.mem_of_mem_take hx)).b)
      have hl2 : (L.take k).length ≤ 10 := by rw [List.length_take]; omega
      have hT2 : 0 ≤ T ∧ T ≤ 10995116277760 := by have := hT.out; omega
      have HSr : Hid (Sn S P s g vi ac cc cs wr) := HS0.out.grown hbl
      clear hri hrk hSb hl2
      generalize L.getD k dN = y at *
      obtain ⟨y0, y1, y2, yv, y4, y5⟩ := y
      simp only at i0 i1 i2 k0 k1
      have hyb : 0 ≤ yv ∧ yv ≤ 1099511627776 := HOK.out.b
      have hkI : (k : Int) < (n : Int) := by omega
      have hk0 : (0 : Int) ≤ (k : Int) := by omega
      have bA : Below wr.heap.size wr (wr.alloc (.cells #[.int .i64 y0, .int .i64 y1, .slice none 0 0] 48)) := (Below.refl _ _).alloc (Nat.le_refl _) _
      have x0 : (wr.alloc (.cells #[.int .i64 y0, .int .i64 y1, .slice none 0 0] 48)).cell? ⟨wr.heap.size, 0, none⟩ = some (.int .i64 y0) := by go_simp
      have x1 : (wr.alloc (.cells #[.int .i64 y0, .int .i64 y1, .slice none 0 0] 48)).cell? ⟨wr.heap.size, 1, none⟩ = some (.int .i64 y1) := by go_simp
      have x2 : (wr.alloc (.cells #[.int .i64 y0, .int .i64 y1, .slice none 0 0] 48)).cell? ⟨wr.heap.size, 2, none⟩ = some (.slice none 0 0) := by go_simp
      have HS1 : Hid (Sn S P s g vi ac cc cs (wr.alloc (.cells #[.int .i64 y0, .int .i64 y1, .slice none 0 0] 48))) := HSr.out.grown bA
      have HRI1 : Hid (VRow (wr.alloc (.cells #[.int .i64 y0, .int .i64 y1, .slice none 0 0] 48)) gi oi (L.flatMap inC)) := HRI.out.grown bA
      have HKB : Hid (wr.cell? ⟨B, 2, none⟩ = some (.slice (some ⟨gi, oi, none⟩) n ci) ∧ wr.cell? ⟨B, 4, none⟩ = some (.slice (some ⟨gk, ok, none⟩) n ck) ∧ wr.cell? ⟨gk, ok + k * 2, none⟩ = some (.int .i64 y4) ∧ wr.cell? ⟨gk, ok + k * 2 + 1, none⟩ = some (.int .i64 y5)) := ⟨b2, b4, k0, k1⟩
      go_upto_region 8 with fail
      have HKB1 : Hid _ := keepB4 bA HKB.out
      have hb1 : Below w0.heap.size w0 (wr.alloc (.cells #[.int .i64 y0, .int .i64 y1, .slice none 0 0] 48)) := below_blk hbl bA
      clear bA HKB b2 b4 k0 k1 i0 i1 i2 hbl HSr HRI
      generalize wr.alloc (.cells #[.int .i64 y0, .int .i64 y1, .slice none 0 0] 48) = w1 at *
      generalize wr.heap.size = X at *
      go_wp2_with fail
      refine (value_any S ac cs.length cc cs y0 y1 _ HS1.out.c4 HS1.out.at_ rfl (by omega)).mono ?_
      rw [HOK.out.v]
      rintro e w2 ⟨rfl, hb2⟩
      have HKB2 : Hid _ := keepB4 hb2 HKB1.out
      have HX2 : Hid _ := keepB3 hb2 ⟨x0, x1, x2⟩
      have HS2 : Hid (Sn S P s g vi ac cc cs w2) := HS1.out.grown hb2
      have HRI2 : Hid (VRow w2 gi oi (L.flatMap inC)) := HRI1.out.grown hb2
      have hb02 := below_blk hb1 hb2
      clear hb1 hb2 HKB1 x0 x1 x2 HS1 HRI1
      have s1 := HS2.out.c1
      obtain ⟨q2, q4, j0, j1⟩ := HKB2.out
      have HKX : Hid (w2.cell? ⟨S, 1, none⟩ = some (.int .i64 s) ∧ w2.cell? ⟨B, 4, none⟩ = some (.slice (some ⟨gk, ok, none⟩) n ck) ∧ w2.cell? ⟨gk, ok + k * 2, none⟩ = some (.int .i64 y4) ∧ w2.cell? ⟨gk, ok + k * 2 + 1, none⟩ = some (.int .i64 y5)) := ⟨s1, q4, j0, j1⟩
      have HKY : Hid (Mk.isK s y4 y5 = true) := HOK.out.k
      have HAD : Hid (Mk.adr s y4 y5 = y2) := HOK.out.a
      go_upto_region 9 with fail
      go_region_held3 (fun w' => w'.cell? ⟨S, 1, none⟩ = some (.int .i64 s) ∧ w'.cell? ⟨B, 4, none⟩ = some (.slice (some ⟨gk, ok, none⟩) n ck) ∧ w'.cell? ⟨gk, ok + k * 2, none⟩ = some (.int .i64 y4) ∧ w'.cell? ⟨gk, ok + k * 2 + 1, none⟩ = some (.int .i64 y5)) (first | assumption | go_keep | exact keepB4 hb3 HKX.out) ((go_at_call 15; refine (pAddress_yes s y4 y5 _ HKY.out).mono ?_; rw [HAD.out]; rintro e w3 ⟨rfl, hb3⟩))
      have bW : Below w2.heap.size w2 w3 := ((Below.refl w2.heap.size w2).drew).trans hb3
      have HX3 : Hid _ := keepB3 bW HX2.out
      have HKB3 : Hid _ := keepB4 bW HKB2.out
      have HS3 : Hid (Sn S P s g vi ac cc cs w3) := HS2.out.grown bW
      have HRI3 : Hid (VRow w3 gi oi (L.flatMap inC)) := HRI2.out.grown bW
      have hb03 := below_blk hb02 bW
      clear bW hb3 HKX s1 q2 q4 j0 j1 HX2 HKB2 HS2 HRI2 hb02 HKY HAD
      have HHZ : Hid (hasZ cs ⟨y0, y1, y2, yv, 0, 0⟩ = true) := HOK.out.h
      have s4 := HS3.out.c4
      obtain ⟨x0, x1, x2⟩ := HX3.out
      have HKX : Hid (w3.cell? ⟨S, 4, none⟩ = some (.slice ac cs.length cc) ∧ w3.cell? ⟨X, 0, none⟩ = some (.int .i64 y0) ∧ w3.cell? ⟨X, 1, none⟩ = some (.int .i64 y1)) := ⟨s4, x0, x1⟩
      have HAT3 : Hid (RecAt CoinD.l w3.drew ac cs) := HS3.out.at_.grown ((Below.refl _ _).drew)
      go_upto_region 10 with fail
      go_region_held3 (fun w' => w'.cell? ⟨S, 4, none⟩ = some (.slice ac cs.length cc) ∧ w'.cell? ⟨X, 0, none⟩ = some (.int .i64 y0) ∧ w'.cell? ⟨X, 1, none⟩ = some (.int .i64 y1)) (first | assumption | go_keep | exact keepB3 hb4 HKX.out) ((go_at_call 85; refine (has_any ac cs.length cc cs ⟨y0, y1, y2, yv, 0, 0⟩ _ HAT3.out rfl (by omega)).mono ?_; rw [HHZ.out]; rintro e w4 ⟨rfl, hb4⟩))
      have bW : Below w3.heap.size w3 w4 := ((Below.refl w3.heap.size w3).drew).trans hb4
      obtain ⟨z0, z1, z2⟩ := keepB3 bW HX3.out
      obtain ⟨p2, _, _, _⟩ := keepB4 bW HKB3.out
      have HRI4 : Hid (VRow w4 gi oi (L.flatMap inC)) := HRI3.out.grown bW
      have hb04 := below_blk hb03 bW
      have HZS : Hid (w4.cell? ⟨X, 0, none⟩ = some (.int .i64 y0) ∧ w4.cell? ⟨X, 1, none⟩ = some (.int .i64 y1) ∧ w4.cell? ⟨B, 2, none⟩ = some (.slice (some ⟨gi, oi, none⟩) n ci)) := ⟨z0, z1, p2⟩
      clear bW hb4 HKX s4 x0 x1 x2 HX3 HKB3 HS3 HRI3 hb03 HHZ HAT3 HOK
      go_wp2
      clear z0 z1 z2 p2
      obtain ⟨wi, rfl⟩ : ∃ wi : World, wi = w4 := ⟨_, rfl⟩
      go_loopw [13] (fun i wr => ∃ (j : Nat), j ≤ k ∧ i = .int .i64 j ∧ Below wi.heap.size wi wr) (fun i _ => k - (intOf i).toNat)
      case atStart => exact ⟨0, Nat.zero_le _, rfl, Below.refl _ _⟩
      case round =>
        obtain ⟨j, hj, rfl, hbj⟩ := hrel
        by_cases hjk : j < k
        · have hjl : j < L.length := by omega
          have hri := HRI4.out.grown hbj
          have a0 : wr.cell? ⟨gi, oi + j * 3, none⟩ = some (.int .i64 (L.getD j dN).id) := rcell inC3 dN hri j hjl 0 (by omega)
          have a1 : wr.cell? ⟨gi, oi + j * 3 + 1, none⟩ = some (.int .i64 (L.getD j dN).pos) := rcell inC3 dN hri j hjl 1 (by omega)
          obtain ⟨z0, z1, p2⟩ := keepB3 hbj HZS.out
          have hne := HDJ.out j hjk
          clear hri
          generalize (L.getD j dN).id = u0 at *
          generalize (L.getD j dN).pos = u1 at *
          have hjI : (j : Int) < (n : Int) := by omega
          have hj0 : (0 : Int) ≤ (j : Int) := by omega
          have hjkI : (j : Int) < (k : Int) := by omega
          cases h0 : (u0 == y0)
          · go_wp2
            go_quiet (fail)
            go_wp2
            go_roundw
            case rel => exact ⟨j + 1, by omega, by go_num, below_drewN hbj _⟩
            case measure => simp [intOf]; omega
          · have h1 : (u1 == y1) = false := by
              cases h : (u1 == y1)
              · rfl
              · exact absurd ⟨by simpa using h0, by simpa using h⟩ hne
            go_wp2
            go_quiet (fail)
            go_wp2
            go_roundw
            case rel => exact ⟨j + 1, by omega, by go_num, below_drewN hbj _⟩
            case measure => simp [intOf]; omega
        · have hjkI : ¬ (j : Int) < (k : Int) := by omega
          have hw1 : IntKind.i64.wrap (T + yv) = T + yv := IntWalk.i64_in _ ⟨by omega, by omega⟩
          have hb05 := below_blk hb04 hbj
          go_wp2
          go_roundw
          case rel => exact ⟨k + 1, T + yv, by omega, by go_num, rfl, by show _ = _; rw [HSM.out, hT.out], hb05⟩
          case measure => simp [intOf]; omega
    · have HSe : Hid (sumC L = T) := by show _ = _; rw [← hT.out, List.take_of_length_le (by rw [HN.out]; omega)]; rfl
      have hb05 : Below B w wr := HBA.out.trans (hbl.mono (by omega))
      go_wp2
      go_ret2
      rw [HSe.out]
      exact ⟨rfl, by rw [HBe.out]; exact hb05⟩
end Go.Proofs.Ytffgpepngcnjeaa

namespace Go.Proofs.Ytffgpepngcnjeaa
open Go.RowKit
/-- a purse, whatever its payments are -/
abbrev PAq (w : World) (P : Nat) (s : Int) (g : Nat) (v : Value) (h : Int) (xs : List Cel) : Prop := ChOwn [(0, .int .i64 s), (1, .int .i64 (g : Int))] w P 2 v h xs
/-- an input without a seal -/
def CoinD.inD (x : CoinD) : InD := ⟨x.id, x.pos, none, 0, 0, []⟩
def payFin (xs : List Cel) (tag : Int) (cs : List CoinD) (ys : List (Int × Int)) (ch : Int) : Sum Int (List CoinD × List (Int × Int) × Int) :=
  if hasId xs (idZ tag (cs.map CoinD.inD) ys) = true then .inl 4 else .inr (cs, ys, ch)
/-- what Pay answers: the error, or the coins, the outputs and the change's index -/
def payZ (xs : List Cel) (s : Int) (g : Nat) (ps : List PayD) (ks : List (Int × Int)) (nx : Int) (ys : List (Int × Int)) (r tag : Int) : Sum Int (List CoinD × List (Int × Int) × Int) :=
  if r < 0 ∨ 1000 < r ∨ ¬ (0 ≤ tag ∧ tag ≤ 1099511627776) then .inl 1
  else if 7 < ys.length ∨ rOuts ys = false then .inl 2
  else match chooseZ r (orderZ r ((ownOf xs s g).filter (freeB ps ks))) (targetZ ys r) with
    | none => .inl 9
    | some (cs, ch) => if 0 < ch then (match unpZ xs s g nx with
        | none => .inl 10
        | some k => payFin xs tag cs (ys ++ [(k.ad, ch)]) k.ix) else payFin xs tag cs ys (-1)
/-- a purse in block P, with its payments -/
structure PP (N : Nat → Prop) (w : World) (P : Nat) (s : Int) (g : Nat) (v : Value) (h : Int) (xs : List Cel) (vl vs : Value) (md nx : Int) (ps : List PayD) (ks : List (Int × Int)) : Prop where
  pu : PAq w P s g v h xs
  ls : LsAt N w P 4 (P + 1) vl vs md nx ps ks
  dj : ∀ k, v.ownBlock = some k → vl.ownBlock ≠ some k ∧ vs.ownBlock ≠ some k ∧ ¬ N k
theorem PP.fr {E N : Nat → Prop} {w w' : World} {P : Nat} {s : Int} {g : Nat} {v : Value} {h : Int} {xs : List Cel} {vl vs : Value} {md nx : Int} {ps : List PayD} {ks : List (Int × Int)} (u : PP N w P s g v h xs vl vs md nx ps ks) (hf : Fr E w w') (h1 : ∀ k, chE P v k → ¬ E k) (h2 : ∀ k, lsE P vl vs k → ¬ E k) (h3 : ∀ k, N k → ¬ E k) : PP N w' P s g v h xs vl vs md nx ps ks :=
  ⟨u.pu.fr hf h1, u.ls.fr hf h2 h3, u.dj⟩
theorem PP.grown {N : Nat → Prop} {w w' : World} {P : Nat} {s : Int} {g : Nat} {v : Value} {h : Int} {xs : List Cel} {vl vs : Value} {md nx : Int} {ps : List PayD} {ks : List (Int × Int)} (u : PP N w P s g v h xs vl vs md nx ps ks) (hb : Below w.heap.size w w') : PP N w' P s g v h xs vl vs md nx ps ks :=
  u.fr (Fr.of_below hb (fun _ => False)) (fun _ _ h => h) (fun _ _ h => h) (fun _ _ h => h)
/-- the purse behind a payment: two blocks more in N, the list of the live ones longer -/
def PayGo (N : Nat → Prop) (P : Nat) (s : Int) (g : Nat) (v : Value) (h : Int) (xs : List Cel) (vl vs : Value) (md nx : Int) (ps : List PayD) (ks : List (Int × Int)) (tag : Int) (cs : List CoinD) (ys : List (Int × Int)) (ch : Int) (vi vo vk : Value) (w w' : World) : Prop :=
  ∃ vl' gc cc go co, PP (fun k => N k ∨ k = gc ∨ k = go) w' P s g v h xs vl' vs (md + 1) (if nx ≤ ch then ch + 1 else nx) (ps ++ [⟨md, some ⟨gc, 0, none⟩, cs.length, cc, some ⟨go, 0, none⟩, ys.length, co, tag, false, cs, ys⟩]) ks ∧ PdOk w.heap.size vi vo vk cs ys cs w' ∧ Fr (fun k => k = P ∨ vl.ownBlock = some k) w w' ∧ (∀ k, (vl'.ownBlock = some k ∨ k = gc ∨ k = go) → vl.ownBlock = some k ∨ (w.heap.size ≤ k ∧ vi.ownBlock ≠ some k ∧ vo.ownBlock ≠ some k ∧ vk.ownBlock ≠ some k))
/-- the answer of Pay: number, tag, inputs, outputs, keys, change, error -/
def PayOkR (N : Nat → Prop) (P : Nat) (s : Int) (g : Nat) (v : Value) (h : Int) (xs : List Cel) (vl vs : Value) (md nx : Int) (ps : List PayD) (ks : List (Int × Int)) (ys : List (Int × Int)) (r tag : Int) (a0 a1 a2 a3 a4 a5 : Value) (er : Int) (w w' : World) : Prop :=
  (∃ x, payZ xs s g ps ks nx ys r tag = .inl x ∧ er = x ∧ a0 = .int .i64 0 ∧ a1 = .int .i64 0 ∧ a2 = .slice none 0 0 ∧ a3 = .slice none 0 0 ∧ a4 = .slice none 0 0 ∧ a5 = .int .i64 0 ∧ Below w.heap.size w w') ∨
  (∃ cs zs ch, payZ xs s g ps ks nx ys r tag = .inr (cs, zs, ch) ∧ er = 0 ∧ a0 = .int .i64 md ∧ a1 = .int .i64 tag ∧ a5 = .int .i64 ch ∧ PayGo N P s g v h xs vl vs md nx ps ks tag cs zs ch a2 a3 a4 w w')
theorem mem_choose {r : Int} {l : List CoinD} {want : Int} {cs : List CoinD} {ch : Int} (h : chooseZ r l want = some (cs, ch)) : (∀ x ∈ cs, x ∈ l) ∧ cs.length ≤ 10 := by
  unfold chooseZ at h
  split at h
  · injection h with h
    injection h with h1 _
    subst h1
    unfold memP
    refine ⟨fun x hx => ?_, ?_⟩
    · obtain ⟨i, hi, rfl⟩ := List.mem_map.1 hx
      have := (List.mem_filter.1 hi).2
      rw [Bool.and_eq_true, decide_eq_true_iff] at this
      exact getD_mem l dN i this.1
    · have := range_filter_len (fun i => decide (i < l.length) && bitN (bestP r l want (want + slackZ r)) 8 i) (fun i => l.getD i dN) 8
      omega
  · split at h
    · cases h
    · rename_i hn
      injection h with h
      injection h with h1 _
      subst h1
      exact ⟨fun x hx => List.mem_of_mem_take hx, by rw [List.length_take]; omega⟩
end Go.Proofs.Ytffgpepngcnjeaa
