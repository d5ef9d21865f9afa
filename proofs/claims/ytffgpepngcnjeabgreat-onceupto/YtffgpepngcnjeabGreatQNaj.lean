/-
  Package choice: Choose.
  How a transaction is made of coins: Unsealed.
  How a transaction is made of coins: Unsealed, walked.
  How a payment is made of coins: withoutChange.
-/
import Derived.Test.YtffgpepngcnjeabGreatQNai
namespace Go.Proofs.YtffgpepngcnjeabGreatQ
open Go.RowKit
/-- what Choose answers: the coins, the change, the error -/
def ChoiceOk (r : Int) (l : List CoinD) (ys : List (Int × Int)) (base : Nat) (v : Value) (ch er : Int) (w : World) : Prop :=
  (chooseZ r (orderZ r l) (targetZ ys r) = none ∧ v = .slice none 0 0 ∧ ch = 0 ∧ er = 9) ∨ ∃ cs, chooseZ r (orderZ r l) (targetZ ys r) = some (cs, ch) ∧ er = 0 ∧ OwnRec CoinD.l 107 6 w base v cs
theorem target_bd (ys : List (Int × Int)) (r : Int) (hr : 0 ≤ r ∧ r ≤ 1000) (hl : ys.length ≤ 100) (hb : ∀ y ∈ ys, 0 ≤ y.2 ∧ y.2 ≤ 1099511627776) : 0 ≤ targetZ ys r ∧ targetZ ys r ≤ 200000000000000 := by
  unfold targetZ
  have h1 := sum_bd Prod.snd 1099511627776 ys hb
  have h2 : 0 ≤ r * (3 + 2 * (ys.length : Int)) := Int.mul_nonneg hr.1 (by omega)
  have h3 : r * (3 + 2 * (ys.length : Int)) ≤ 1000 * (3 + 2 * (ys.length : Int)) := Int.mul_le_mul_of_nonneg_right hr.2 (by omega)
  unfold sumOu
  omega
set_option maxRecDepth 100000 in
set_option maxHeartbeats 4000000 in
theorem choose_any (ao : Option Addr) (n c : Nat) (l : List CoinD) (ap : Option Addr) (m d : Nat) (ys : List (Int × Int)) (r : Int) (w : World) (hx : RecAt CoinD.l w ao l) (hn : l.length = n) (hm : n ≤ 10000) (hr : 0 ≤ r ∧ r ≤ 1000) (hv : CVals l) (hy : OutsAt w ap ys) (hyn : ys.length = m) (hym : m ≤ 100) (hyb : ∀ y ∈ ys, 0 ≤ y.2 ∧ y.2 ≤ 1099511627776) :
    Calls Tryz.prog 81 #[.slice ao n c, .slice ap m d, .int .i64 r] w fun e w' => ∃ v ch er, e = .returned (.tuple #[.agg #[v, .int .i64 ch], .int .i64 er]) ∧ ChoiceOk r l ys w.heap.size v ch er w' ∧ Below w.heap.size w w' := by
  have HN : Hid (l.length = n) := hn
  have HV : Hid (CVals l) := hv
  have HX : Hid (RecAt CoinD.l w ao l) := hx
  have HY : Hid (OutsAt w ap ys) := hy
  have HYN : Hid (ys.length = m) := hyn
  have HYB : Hid (∀ y ∈ ys, 0 ≤ y.2 ∧ y.2 ≤ 1099511627776) := hyb
  have hT := target_bd ys r hr (by omega) hyb
  clear hn hv hx hy hyn hyb
  have hbA : Below w.heap.size w (w.alloc (.cells #[.slice none 0 0, .int .i64 0] 148)) := (Below.refl _ _).alloc (Nat.le_refl _) _
  have r0 : (w.alloc (.cells #[.slice none 0 0, .int .i64 0] 148)).cell? ⟨w.heap.size, 0, none⟩ = some (.slice none 0 0) := by go_simp
  have r1 : (w.alloc (.cells #[.slice none 0 0, .int .i64 0] 148)).cell? ⟨w.heap.size, 1, none⟩ = some (.int .i64 0) := by go_simp
  have f0 : ∀ j, (w.alloc (.cells #[.slice none 0 0, .int .i64 0] 148)).frozen? ⟨w.heap.size, j, none⟩ = false := fun j => World.frozen?_alloc_at _ _ _ _ rfl
  have HF : Hid _ := f0
  clear f0
  go_enter Tryz.func81, Tryz.ntmps81
  go_upto_region 1 with fail
  generalize w.alloc (.cells #[.slice none 0 0, .int .i64 0] 148) = w0 at *
  have HX0 : Hid (RecAt CoinD.l w0 ao l) := HX.out.grown hbA
  have HY0 : Hid (OutsAt w0 ap ys) := HY.out.grown hbA
  have hB0 : w.heap.size < w0.heap.size := cell_lt r0
  generalize hB : w.heap.size = B at *
  have HBe : Hid (w.heap.size = B) := hB
  clear hB HX HY
  go_wp2_with fail
  refine (order_any ao n c l r _ HX0.out HN.out hm hr HV.out).mono ?_
  rintro e w1 ⟨v1, rfl, ho1, hb1⟩
  obtain ⟨a1, c1, ev1, hat1⟩ := OwnRec.at coin6 ho1
  subst ev1
  have HOL : Hid ((orderZ r l).length ≤ 10000) := by show _ ≤ _; have := orderZ_len r l; have := HN.out; omega
  have HOV : Hid (CVals (orderZ r l)) := fun x hx => HV.out x (orderZ_mem hx)
  have hbC : Below w1.heap.size w1 (w1.alloc (.cells #[.slice a1 (orderZ r l).length c1, .int .i64 r] 198)) := (Below.refl _ _).alloc (Nat.le_refl _) _
  have HCA : Hid (Cand (w1.alloc (.cells #[.slice a1 (orderZ r l).length c1, .int .i64 r] 198)) w1.heap.size a1 c1 (orderZ r l) r) := ⟨by rw [World.cell?_alloc_new]; rfl, by rw [World.cell?_alloc_new]; rfl, hat1.grown hbC⟩
  have hb02 : Below w0.heap.size w0 (w1.alloc (.cells #[.slice a1 (orderZ r l).length c1, .int .i64 r] 198)) := below_blk hb1 hbC
  clear ho1 hat1 hb1 hbC
  go_upto_region 2 with fail
  generalize w1.alloc (.cells #[.slice a1 (orderZ r l).length c1, .int .i64 r] 198) = w2 at *
  generalize w1.heap.size = C at *
  have hz2 := hb02.size
  have HY2 : Hid (OutsAt w2 ap ys) := HY0.out.grown hb02
  go_wp2_with fail
  refine (target_any ap m d ys r _ HY2.out HYN.out hym hr HYB.out).mono ?_
  rintro e w3 ⟨rfl, hb3⟩
  have HC3 : Hid (Cand w3 C a1 c1 (orderZ r l) r) := HCA.out.grown hb3
  have hb03 : Below w0.heap.size w0 w3 := below_blk hb02 hb3
  clear hb02 hb3 HCA HY2 HY0 HYB HYN HX0
  have hsl : 0 ≤ slackZ r ∧ slackZ r ≤ 3000 := by unfold slackZ; omega
  generalize hws : targetZ ys r + slackZ r = WS at *
  have hws2 : 0 ≤ WS ∧ WS ≤ 1000000000000000000 := by omega
  have hw1 : IntKind.i64.wrap (targetZ ys r + slackZ r) = WS := by rw [hws]; exact IntWalk.i64_in _ ⟨by omega, by omega⟩
  have HWS : Hid (targetZ ys r + slackZ r = WS) := hws
  clear hws
  go_wp2_with (go_at_call 134; refine (slack_any r _ hr).mono ?_; rintro e w' ⟨rfl, rfl⟩)
  refine (cNearest_any C a1 c1 (orderZ r l) r (targetZ ys r) WS _ HC3.out hr HOV.out hws2).mono ?_
  rintro e w4 ⟨rfl, hb255, hb4⟩
  have HC4 : Hid (Cand w4 C a1 c1 (orderZ r l) r) := HC3.out.grown hb4
  have hb04 : Below w0.heap.size w0 w4 := below_blk hb03 hb4
  clear hb03 hb4 HC3
  have q0 := (hb04.cell (p := ⟨B, 0, none⟩) hB0).trans r0
  have q1 := (hb04.cell (p := ⟨B, 1, none⟩) hB0).trans r1
  have hz4 := hb04.size
  have hbB4 : Below B w w4 := hbA.trans (hb04.mono (by omega))
  have HF4 : Hid (∀ j, w4.frozen? ⟨B, j, none⟩ = false) := fun j => (hb04.frozen (p := ⟨B, j, none⟩) hB0).trans (HF.out j)
  generalize hbe : bestP r (orderZ r l) (targetZ ys r) WS = bp at *
  have HCZ : Hid (chooseZ r (orderZ r l) (targetZ ys r) = if bp ≠ 0 then some (memP (orderZ r l) bp, 0) else if (enZ r (targetZ ys r) (orderZ r l) 0 0).1 = 0 ∨ 10 < (enZ r (targetZ ys r) (orderZ r l) 0 0).1 then none else some ((orderZ r l).take (enZ r (targetZ ys r) (orderZ r l) 0 0).1, if (enZ r (targetZ ys r) (orderZ r l) 0 0).2 - targetZ ys r ≤ slackZ r then 0 else (enZ r (targetZ ys r) (orderZ r l) 0 0).2 - targetZ ys r - 2 * r)) := by
    show _ = _
    unfold chooseZ
    rw [HWS.out, hbe]
  clear hbe HWS hw1 r0 r1 hb04 HF
  have HEG : Hid _ := enZ_ge r (targetZ ys r) (orderZ r l) 0 0
  have HEW : Hid _ := enZ_want r (targetZ ys r) (orderZ r l) 0 0
  have HCK : Hid (∀ v ch er w', ChoiceOk r l ys B v ch er w' ↔ ((chooseZ r (orderZ r l) (targetZ ys r) = none ∧ v = .slice none 0 0 ∧ ch = 0 ∧ er = 9) ∨ ∃ cs, chooseZ r (orderZ r l) (targetZ ys r) = some (cs, ch) ∧ er = 0 ∧ OwnRec CoinD.l 107 6 w' B v cs)) := fun _ _ _ _ => Iff.rfl
  generalize chooseZ r (orderZ r l) (targetZ ys r) = CZ at *
  generalize orderZ r l = cs at *
  generalize targetZ ys r = want at *
  by_cases hb0 : bp = 0
  · subst hb0
    rw [if_neg (fun h => h rfl)] at HCZ
    go_wp2_with fail
    refine (cEnough_any C a1 c1 cs r want _ HC4.out hr HOV.out (by have := HOL.out; omega)).mono ?_
    rintro e w5 ⟨⟨q, T, rfl, hqT, hT5⟩, hb5⟩
    rw [← hqT] at HCZ HEG HEW
    simp only at HCZ HEG HEW
    clear hqT
    have p0 := (hb5.cell (p := ⟨B, 0, none⟩) (cell_lt q0)).trans q0
    have p1 := (hb5.cell (p := ⟨B, 1, none⟩) (cell_lt q1)).trans q1
    have g0 := (hb5.frozen (p := ⟨B, 0, none⟩) (cell_lt q0)).trans (HF4.out 0)
    have g1 := (hb5.frozen (p := ⟨B, 1, none⟩) (cell_lt q1)).trans (HF4.out 1)
    have hbB5 : Below B w w5 := hbB4.trans (hb5.mono (by omega))
    have HC5 : Hid (Cand w5 C a1 c1 cs r) := HC4.out.grown hb5
    clear q0 q1 HF4 hb5 HC4
    by_cases hq : q = 0 ∨ 10 < q
    · rw [if_pos hq] at HCZ
      have k0 : ((w5.setCell ⟨B, 0, none⟩ (.slice none 0 0)).setCell ⟨B, 1, none⟩ (.int .i64 0)).cell? ⟨B, 0, none⟩ = some (.slice none 0 0) := so (ss p0) (by decide)
      have k1 : ((w5.setCell ⟨B, 0, none⟩ (.slice none 0 0)).setCell ⟨B, 1, none⟩ (.int .i64 0)).cell? ⟨B, 1, none⟩ = some (.int .i64 0) := ss (so p1 (by decide))
      have HFB : Hid (Below B w ((w5.setCell ⟨B, 0, none⟩ (.slice none 0 0)).setCell ⟨B, 1, none⟩ (.int .i64 0))) := (hbB5.setCell (p := ⟨B, 0, none⟩) (Nat.le_refl _) _).setCell (p := ⟨B, 1, none⟩) (Nat.le_refl _) _
      rcases hq with hq | hq
      · subst hq
        go_wp2
        refine bodyPost_ret (v := .tuple #[.agg #[.slice none 0 0, .int .i64 0], .int .i64 9]) ?_ rfl ⟨_, _, _, rfl, ?_, ?_⟩
        · simp [results, Tryz.results81, go_sem, k0, k1]
        · rw [HBe.out]; exact (HCK.out _ _ _ _).2 (Or.inl ⟨HCZ.out, rfl, rfl, rfl⟩)
        · rw [HBe.out]; exact HFB.out
      · have hq1 : ((q : Int) == 0) = false := by rw [beq_eq_false_iff_ne]; omega
        have hq2 : (10 : Int) < (q : Int) := by omega
        go_wp2
        refine bodyPost_ret (v := .tuple #[.agg #[.slice none 0 0, .int .i64 0], .int .i64 9]) ?_ rfl ⟨_, _, _, rfl, ?_, ?_⟩
        · simp [results, Tryz.results81, go_sem, k0, k1]
        · rw [HBe.out]; exact (HCK.out _ _ _ _).2 (Or.inl ⟨HCZ.out, rfl, rfl, rfl⟩)
        · rw [HBe.out]; exact HFB.out
    · rw [if_neg hq] at HCZ
      have hq1 : ((q : Int) == 0) = false := by rw [beq_eq_false_iff_ne]; omega
      have hq2 : ¬ (10 : Int) < (q : Int) := by omega
      have hd2 : decide ((10 : Int) < (q : Int)) = false := by rw [decide_eq_false_iff_not]; exact hq2
      have hwt : want ≤ T := HEW.out (by omega)
      have hql : q ≤ cs.length := by
        rcases HEG.out with h | h
        · omega
        · omega
      have hwT : IntKind.i64.wrap (T - want) = T - want := IntWalk.i64_in _ ⟨by omega, by omega⟩
      generalize hch : (if T - want ≤ slackZ r then 0 else T - want - 2 * r) = ch at *
      have HCH : Hid ((if T - want ≤ slackZ r then 0 else T - want - 2 * r) = ch) := hch
      clear hch
      go_wp2_with (go_at_call 138; refine (change_any (T - want) r _ hr ⟨by omega, by omega⟩).mono ?_; rintro e w' ⟨rfl, rfl⟩; rw [HCH.out])
      refine (cFirst_any C a1 c1 cs r q _ HC5.out (by omega) hql).mono ?_
      rintro e w6 ⟨v6, rfl, ho6, hb6⟩
      obtain ⟨a6, c6, e6, _⟩ := OwnRec.at coin6 ho6
      subst e6
      have HO6 : Hid (OwnRec CoinD.l 107 6 w6 w5.heap.size (.slice a6 (cs.take q).length c6) (cs.take q)) := ho6
      have x0 := (hb6.cell (p := ⟨B, 0, none⟩) (cell_lt p0)).trans p0
      have x1 := (hb6.cell (p := ⟨B, 1, none⟩) (cell_lt p1)).trans p1
      have y0 := (hb6.frozen (p := ⟨B, 0, none⟩) (cell_lt p0)).trans g0
      have y1 := (hb6.frozen (p := ⟨B, 1, none⟩) (cell_lt p1)).trans g1
      have hB5 : B < w5.heap.size := cell_lt p0
      have hbB6 : Below B w w6 := hbB5.trans (hb6.mono (by omega))
      clear ho6 p0 p1 g0 g1 hb6 hbB5
      generalize (cs.take q).length = tl at *
      have k0 : ((w6.setCell ⟨B, 0, none⟩ (.slice a6 tl c6)).setCell ⟨B, 1, none⟩ (.int .i64 ch)).cell? ⟨B, 0, none⟩ = some (.slice a6 tl c6) := so (ss x0) (by decide)
      have k1 : ((w6.setCell ⟨B, 0, none⟩ (.slice a6 tl c6)).setCell ⟨B, 1, none⟩ (.int .i64 ch)).cell? ⟨B, 1, none⟩ = some (.int .i64 ch) := ss (so x1 (by decide))
      have HFB : Hid (Below B w ((w6.setCell ⟨B, 0, none⟩ (.slice a6 tl c6)).setCell ⟨B, 1, none⟩ (.int .i64 ch))) := (hbB6.setCell (p := ⟨B, 0, none⟩) (Nat.le_refl _) _).setCell (p := ⟨B, 1, none⟩) (Nat.le_refl _) _
      have HFO : Hid (OwnRec CoinD.l 107 6 ((w6.setCell ⟨B, 0, none⟩ (.slice a6 tl c6)).setCell ⟨B, 1, none⟩ (.int .i64 ch)) B (.slice a6 tl c6) (cs.take q)) := owns_lower (ownsRow_setCell_below (ownsRow_setCell_below HO6.out (a := ⟨B, 0, none⟩) hB5 _) (a := ⟨B, 1, none⟩) hB5 _) (by omega)
      go_wp2
      refine bodyPost_ret (v := .tuple #[.agg #[.slice a6 tl c6, .int .i64 ch], .int .i64 0]) ?_ rfl ⟨_, _, _, rfl, ?_, ?_⟩
      · simp [results, Tryz.results81, go_sem, k0, k1]
      · rw [HBe.out]; exact (HCK.out _ _ _ _).2 (Or.inr ⟨_, HCZ.out, rfl, HFO.out⟩)
      · rw [HBe.out]; exact HFB.out
  · rw [if_pos hb0] at HCZ
    have hbp : (0 : Int) < (bp : Int) := by omega
    go_wp2_with fail
    refine (cMembers_any C a1 c1 cs r bp _ HC4.out).mono ?_
    rintro e w6 ⟨v6, rfl, ho6, hb6⟩
    obtain ⟨a6, c6, e6, _⟩ := OwnRec.at coin6 ho6
    subst e6
    have HO6 : Hid (OwnRec CoinD.l 107 6 w6 w4.heap.size (.slice a6 (memP cs bp).length c6) (memP cs bp)) := ho6
    have x0 := (hb6.cell (p := ⟨B, 0, none⟩) (cell_lt q0)).trans q0
    have x1 := (hb6.cell (p := ⟨B, 1, none⟩) (cell_lt q1)).trans q1
    have y0 := (hb6.frozen (p := ⟨B, 0, none⟩) (cell_lt q0)).trans (HF4.out 0)
    have y1 := (hb6.frozen (p := ⟨B, 1, none⟩) (cell_lt q1)).trans (HF4.out 1)
    have hB5 : B < w4.heap.size := cell_lt q0
    have hbB6 : Below B w w6 := hbB4.trans (hb6.mono (by omega))
    clear ho6 q0 q1 hb6 hbB4 HF4
    generalize (memP cs bp).length = tl at *
    have k0 : ((w6.setCell ⟨B, 0, none⟩ (.slice a6 tl c6)).setCell ⟨B, 1, none⟩ (.int .i64 0)).cell? ⟨B, 0, none⟩ = some (.slice a6 tl c6) := so (ss x0) (by decide)
    have k1 : ((w6.setCell ⟨B, 0, none⟩ (.slice a6 tl c6)).setCell ⟨B, 1, none⟩ (.int .i64 0)).cell? ⟨B, 1, none⟩ = some (.int .i64 0) := ss (so x1 (by decide))
    have HFB : Hid (Below B w ((w6.setCell ⟨B, 0, none⟩ (.slice a6 tl c6)).setCell ⟨B, 1, none⟩ (.int .i64 0))) := (hbB6.setCell (p := ⟨B, 0, none⟩) (Nat.le_refl _) _).setCell (p := ⟨B, 1, none⟩) (Nat.le_refl _) _
    have HFO : Hid (OwnRec CoinD.l 107 6 ((w6.setCell ⟨B, 0, none⟩ (.slice a6 tl c6)).setCell ⟨B, 1, none⟩ (.int .i64 0)) B (.slice a6 tl c6) (memP cs bp)) := owns_lower (ownsRow_setCell_below (ownsRow_setCell_below HO6.out (a := ⟨B, 0, none⟩) hB5 _) (a := ⟨B, 1, none⟩) hB5 _) (by omega)
    go_wp2
    refine bodyPost_ret (v := .tuple #[.agg #[.slice a6 tl c6, .int .i64 0], .int .i64 0]) ?_ rfl ⟨_, _, _, rfl, ?_, ?_⟩
    · simp [results, Tryz.results81, go_sem, k0, k1]
    · rw [HBe.out]; exact (HCK.out _ _ _ _).2 (Or.inr ⟨_, HCZ.out, rfl, HFO.out⟩)
    · rw [HBe.out]; exact HFB.out
end Go.Proofs.YtffgpepngcnjeabGreatQ

namespace Go.Proofs.YtffgpepngcnjeabGreatQ
open Go.RowKit
theorem vrow_srcN {W : World} {g off : Nat} {l : List Value} (h : VRow W g off l) : ∀ j u, l[j]? = some u → W.cell? ((⟨g, off, none⟩ : Addr).add j) = some u := by
  intro j u hj
  obtain ⟨hl, e⟩ := List.getElem?_eq_some_iff.1 hj
  have := h j hl
  simp only [List.getD, hj, Option.getD_some] at this
  rw [Go.WideShapes.add_plain]
  exact this
/-- append(xs, ys...), ys in a row -/
theorem wpList_appN {α : Type} {f : α → List Value} {e k : Nat} (sT bytes : Nat) (z : Value) (hu : Tryz.prog.underlying sT = some (.slice e)) (hinf : (Tryz.prog.info? e).map (fun i => (i.zero, i.size, i.bytes)) = some (some z, k, bytes)) (hzs : z.cells.size = k) (hk : 0 < k) (hf : ∀ x, (f x).length = k) (h1 : ∀ x, ∀ u ∈ f x, u.oneCell' = true)
    (W : World) {ops : Array Oper} {rest : List Oper} {o : Oper} {a : Act} {Q : Exit → Act → World → Prop} (hgd : o.guard = none) (s x : Operand)
    (ho : o.op = .call { callee := .builtin .append, args := #[s, x], argTypes := #[sT, sT] })
    (base g0 off m c : Nat) (v : Value) (xs ys : List α) (hs : a.eval s = v) (hx : a.eval x = .slice (some ⟨g0, off, none⟩) m c) (hm : ys.length = m) (hm0 : 0 < m) (hown : OwnRec f e k W base v xs) (hc : VRow W g0 off (ys.flatMap f)) (hbase : base ≤ W.heap.size) (hlen : xs.length + m ≤ maxLen) (hby : (xs.length + m) * bytes ≤ 140737488355328)
    (h : ∀ g cap w', OwnRec f e k w' base (.slice (some ⟨g, 0, none⟩) (xs.length + m) cap) (xs ++ ys) → W.grownBy w' v.ownBlock → (v.ownBlock = some g ∨ W.heap.size ≤ g) → g < w'.heap.size → wpList Tryz.prog ops Q rest (a.put o.dst (.slice (some ⟨g, 0, none⟩) (xs.length + m) cap)) w') :
    wpList Tryz.prog ops Q (o :: rest) a W := by
  obtain ⟨i0, hi, hz0, hz1, hz2⟩ := info_parts hinf
  refine wpList_append_lies _ hgd s x sT ho base e i0 z k bytes hu hi hz0 hz1 hz2 hzs hk v xs.length (xs.flatMap f) hs hown ⟨g0, off, none⟩ m c (ys.flatMap f) hx (by rw [rec_len f k hf, hm]) (vrow_srcN hc) (fun u hu2 => ?_) hm0 hlen hby hbase W.heap.size rfl ?_
  · obtain ⟨y, _, hy⟩ := List.mem_flatMap.1 hu2
    exact h1 y u hy
  · intro g cap w' hown' hg hlies hlt
    refine h g cap w' ?_ hg (hlies.imp id fun e => by omega) hlt
    unfold OwnRec
    rw [List.length_append, List.flatMap_append, hm]
    exact hown'
theorem outs_rec {w : World} {ao : Option Addr} {ys : List (Int × Int)} (h : OutsAt w ao ys) : RecAt kV w ao ys := by
  rcases h with h | ⟨b, off, e, hr⟩
  · exact Or.inl h
  · refine Or.inr ⟨b, off, e, fun j hj => ?_⟩
    rw [rec_len kV 2 kv2] at hj
    obtain ⟨q, t, ht, rfl⟩ : ∃ q t, t < 2 ∧ j = q * 2 + t := ⟨j / 2, j % 2, by omega, by omega⟩
    have hq : q < ys.length := by omega
    rw [rec_get kV 2 kv2 (0, 0) ys q t hq ht]
    obtain ⟨h0, h1⟩ := hr q hq
    match t, ht with
    | 0, _ => exact h0
    | 1, _ => exact h1
theorem rec_outs {w : World} {ao : Option Addr} {ys : List (Int × Int)} (h : RecAt kV w ao ys) : OutsAt w ao ys := by
  rcases h with h | ⟨b, off, e, hr⟩
  · exact Or.inl h
  · exact Or.inr ⟨b, off, e, fun j hj => kvCells hr j hj⟩
/-- an input without a seal, of a coin -/
def inC (x : CoinD) : List Value := [.int .i64 x.id, .int .i64 x.pos, .slice none 0 0]
theorem inC3 (x : CoinD) : (inC x).length = 3 := rfl
theorem inC_one (x : CoinD) : ∀ u ∈ inC x, u.oneCell' = true := by
  intro u hu
  simp only [inC, List.mem_cons, List.not_mem_nil, or_false] at hu
  rcases hu with rfl | rfl | rfl <;> rfl
/-- a key, of a coin -/
def kC (x : CoinD) : List Value := [.int .i64 x.br, .int .i64 x.ix]
theorem kC2 (x : CoinD) : (kC x).length = 2 := rfl
theorem kC_one (x : CoinD) : ∀ u ∈ kC x, u.oneCell' = true := by
  intro u hu
  simp only [kC, List.mem_cons, List.not_mem_nil, or_false] at hu
  rcases hu with rfl | rfl <;> rfl
/-- a list in a cell of block T grows -/
theorem cstep_push {W w1 : World} {T o g n c : Nat} {v u : Value} (hg : W.grownBy w1 v.ownBlock) (hl : v.ownBlock = some g ∨ W.heap.size ≤ g) : ChStep T v (.slice (some ⟨g, 0, none⟩) n c) W (w1.setCell ⟨T, o, none⟩ u) :=
  ⟨(Fr.of_gb hg (fun k hk _ => Or.inr hk)).set T o u (fun _ => Or.inl rfl), fun k hk => by
    simp [Value.ownBlock] at hk
    subst hk
    exact hl⟩
/-- the transaction in the making, in block T -/
structure UIv (w : World) (T : Nat) (tag : Int) (vi : Value) (cs : List CoinD) (wr : World) : Prop where
  t0 : wr.cell? ⟨T, 0, none⟩ = some (.int .i64 tag)
  t1 : wr.cell? ⟨T, 1, none⟩ = some vi
  t2 : wr.cell? ⟨T, 2, none⟩ = some (.slice none 0 0)
  tf : ∀ j, wr.frozen? ⟨T, j, none⟩ = false
  own : OwnRec inC 115 3 wr (T + 1) vi cs
  st : ChStep T (.slice none 0 0) vi w wr
theorem UIv.grown {w : World} {T : Nat} {tag : Int} {vi : Value} {cs : List CoinD} {wr ws : World} (h : UIv w T tag vi cs wr) (hb : Below wr.heap.size wr ws) : UIv w T tag vi cs ws :=
  ⟨(hb.cell (p := ⟨T, 0, none⟩) (cell_lt h.t0)).trans h.t0, (hb.cell (p := ⟨T, 1, none⟩) (cell_lt h.t1)).trans h.t1, (hb.cell (p := ⟨T, 2, none⟩) (cell_lt h.t2)).trans h.t2, fun j => (hb.frozen (p := ⟨T, j, none⟩) (show T < wr.heap.size from cell_lt h.t0)).trans (h.tf j), h.own.grown hb, h.st.trans (ChStep.of_below hb _ _)⟩
theorem UIv.push {w : World} {T : Nat} {tag : Int} {vi : Value} {cs : List CoinD} {x : CoinD} {wr w1 : World} {g n c : Nat} (h : UIv w T tag vi cs wr) (hown : OwnRec inC 115 3 w1 (T + 1) (.slice (some ⟨g, 0, none⟩) n c) (cs ++ [x])) (hg : wr.grownBy w1 vi.ownBlock) (hl : vi.ownBlock = some g ∨ wr.heap.size ≤ g) :
    UIv w T tag (.slice (some ⟨g, 0, none⟩) n c) (cs ++ [x]) (w1.setCell ⟨T, 1, none⟩ (.slice (some ⟨g, 0, none⟩) n c)) := by
  have hT := cell_lt h.t0
  simp only at hT
  have hvT : some T ≠ vi.ownBlock := fun e => by have := (h.own.blk T e.symm).1; omega
  have hgT := (hown.blk g rfl).1
  exact ⟨so (gb_cell hg h.t0 hvT) (by decide), ss (gb_cell hg h.t1 hvT), so (gb_cell hg h.t2 hvT) (by decide), fun j => by rw [World.frozen?_setCell]; exact (gb_frozen hg hT hvT).trans (h.tf j), hown.gb (gb_set w1 T 1 _) (fun k hk e => by simp [Value.ownBlock] at hk; injection e with e; omega), h.st.trans (cstep_push hg hl)⟩
end Go.Proofs.YtffgpepngcnjeabGreatQ

namespace Go.Proofs.YtffgpepngcnjeabGreatQ
open Go.RowKit
/-- what Unsealed gives: the inputs, the outputs, each in a list of its own -/
structure UnOk (base : Nat) (vi vo : Value) (cs : List CoinD) (ys : List (Int × Int)) (w : World) : Prop where
  oi : OwnRec inC 115 3 w base vi cs
  oo : OwnRec kV 93 2 w base vo ys
  ne : ∀ k, vi.ownBlock = some k → vo.ownBlock ≠ some k
theorem own_set {α : Type} {f : α → List Value} {e k : Nat} {w : World} {base : Nat} {v : Value} {xs : List α} (h : OwnRec f e k w base v xs) (b o : Nat) (u : Value) (hne : v.ownBlock ≠ some b) : OwnRec f e k (w.setCell ⟨b, o, none⟩ u) base v xs :=
  h.gb (gb_set w b o u) (fun q hq e => hne (by rw [hq, e]))
theorem sob {w : World} {L K i j : Nat} {u v : Value} (h : w.cell? ⟨L, j, none⟩ = some v) (hne : L ≠ K) : (w.setCell ⟨K, i, none⟩ u).cell? ⟨L, j, none⟩ = some v := by
  rw [World.cell?_setCell_other _ _ _ _ (by intro e; have := congrArg Addr.block e; simp only at this; exact hne this.symm)]
  exact h
set_option maxRecDepth 100000 in
set_option maxHeartbeats 4000000 in
theorem unsealed_any (ac : Option Addr) (n c : Nat) (cs : List CoinD) (ap : Option Addr) (m d : Nat) (ys : List (Int × Int)) (tag : Int) (w : World) (hx : RecAt CoinD.l w ac cs) (hn : cs.length = n) (hnm : n ≤ 1000) (hy : OutsAt w ap ys) (hyn : ys.length = m) (hy0 : 0 < m) (hym : m ≤ 1000) :
    Calls Tryz.prog 89 #[.slice ac n c, .slice ap m d, .int .i64 tag] w fun e w' => ∃ vi vo, e = .returned (.agg #[.int .i64 tag, vi, vo]) ∧ UnOk w.heap.size vi vo cs ys w' ∧ Below w.heap.size w w' := by
  have HN : Hid (cs.length = n) := hn
  have HX : Hid (RecAt CoinD.l w ac cs) := hx
  have HY : Hid (OutsAt w ap ys) := hy
  have HYN : Hid (ys.length = m) := hyn
  clear hn hx hy hyn
  have hbA : Below w.heap.size w ((w.alloc (.cells #[.int .i64 0, .slice none 0 0, .slice none 0 0] 35)).alloc (.cells #[.int .i64 tag, .slice none 0 0, .slice none 0 0] 35)) := ((Below.refl _ _).alloc (Nat.le_refl _) _).alloc (by simp) _
  have r0 : ((w.alloc (.cells #[.int .i64 0, .slice none 0 0, .slice none 0 0] 35)).alloc (.cells #[.int .i64 tag, .slice none 0 0, .slice none 0 0] 35)).cell? ⟨w.heap.size, 0, none⟩ = some (.int .i64 0) := by go_simp
  have r1 : ((w.alloc (.cells #[.int .i64 0, .slice none 0 0, .slice none 0 0] 35)).alloc (.cells #[.int .i64 tag, .slice none 0 0, .slice none 0 0] 35)).cell? ⟨w.heap.size, 1, none⟩ = some (.slice none 0 0) := by go_simp
  have r2 : ((w.alloc (.cells #[.int .i64 0, .slice none 0 0, .slice none 0 0] 35)).alloc (.cells #[.int .i64 tag, .slice none 0 0, .slice none 0 0] 35)).cell? ⟨w.heap.size, 2, none⟩ = some (.slice none 0 0) := by go_simp
  have HF : Hid (∀ j, ((w.alloc (.cells #[.int .i64 0, .slice none 0 0, .slice none 0 0] 35)).alloc (.cells #[.int .i64 tag, .slice none 0 0, .slice none 0 0] 35)).frozen? ⟨w.heap.size, j, none⟩ = false) := fun j => by
    have h1 : (w.alloc (.cells #[.int .i64 0, .slice none 0 0, .slice none 0 0] 35)).frozen? ⟨w.heap.size, j, none⟩ = false := World.frozen?_alloc_at _ _ _ _ rfl
    exact (((Below.refl (w.alloc (.cells #[.int .i64 0, .slice none 0 0, .slice none 0 0] 35)).heap.size (w.alloc (.cells #[.int .i64 0, .slice none 0 0, .slice none 0 0] 35))).alloc (Nat.le_refl _) _).frozen (p := ⟨w.heap.size, j, none⟩) (by simp)).trans h1
  have HI0 : Hid (UIv ((w.alloc (.cells #[.int .i64 0, .slice none 0 0, .slice none 0 0] 35)).alloc (.cells #[.int .i64 tag, .slice none 0 0, .slice none 0 0] 35)) (w.heap.size + 1) tag (.slice none 0 0) [] ((w.alloc (.cells #[.int .i64 0, .slice none 0 0, .slice none 0 0] 35)).alloc (.cells #[.int .i64 tag, .slice none 0 0, .slice none 0 0] 35))) := by
    have hz : (w.alloc (.cells #[.int .i64 0, .slice none 0 0, .slice none 0 0] 35)).heap.size = w.heap.size + 1 := by simp
    refine ⟨by go_simp, by go_simp, by go_simp, fun j => ?_, OwnRec.nil _ _ _ _ _, ChStep.refl _ _ _⟩
    rw [← hz]
    exact World.frozen?_alloc_at _ _ _ _ rfl
  have hzS : w.heap.size + 1 < ((w.alloc (.cells #[.int .i64 0, .slice none 0 0, .slice none 0 0] 35)).alloc (.cells #[.int .i64 tag, .slice none 0 0, .slice none 0 0] 35)).heap.size := by simp
  go_enter Tryz.func89, Tryz.ntmps89
  go_upto_region 2 with fail
  generalize ((w.alloc (.cells #[.int .i64 0, .slice none 0 0, .slice none 0 0] 35)).alloc (.cells #[.int .i64 tag, .slice none 0 0, .slice none 0 0] 35)) = w0 at *
  have hold : ∀ k, k < w.heap.size → ¬ chE (w.heap.size + 1) (.slice none 0 0) k := fun k hk e => by
    rcases e with e | e
    · omega
    · simp [Value.ownBlock] at e
  have hlift : ∀ {α : Type} {f : α → List Value} {ao : Option Addr} {l : List α} {q : Nat} (hq : ∀ x, (f x).length = q) (hq0 : 0 < q), RecAt f w ao l → ∀ w', Fr (chE (w.heap.size + 1) (.slice none 0 0)) w0 w' → RecAt f w' ao l := by
    intro α f ao l q hq hq0 hr w' hf
    refine rec_fr hf (hr.grown hbA) (fun hne a ha => hold _ ?_)
    rcases hr with hnil | ⟨bb, off, e2, hrr⟩
    · exact absurd hnil hne
    · rw [ha] at e2
      injection e2 with e2
      rw [e2]
      refine hrr.lt (fun e3 => ?_)
      have h3 := rec_len f q hq l
      rw [e3] at h3
      simp only [List.length_nil] at h3
      rcases Nat.mul_eq_zero.1 h3.symm with h4 | h4
      · exact hne (List.length_eq_zero_iff.1 h4)
      · omega
  have HLF : Hid (∀ w', Fr (chE (w.heap.size + 1) (.slice none 0 0)) w0 w' → RecAt CoinD.l w' ac cs) := hlift coin6 (by omega) HX.out
  have HLY : Hid (∀ w', Fr (chE (w.heap.size + 1) (.slice none 0 0)) w0 w' → RecAt kV w' ap ys) := hlift kv2 (by omega) (outs_rec HY.out)
  clear hlift hold
  generalize hB : w.heap.size = B at *
  have HBe : Hid (w.heap.size = B) := hB
  clear hB HX HY
  go_wp2
  go_loopw [14] (fun i wr => ∃ (k : Nat) (vi : Value), k ≤ n ∧ i = .int .i64 k ∧ UIv w0 (B + 1) tag vi (cs.take k) wr) (fun i _ => n - (intOf i).toNat)
  case atStart => exact ⟨0, _, Nat.zero_le _, rfl, HI0.out⟩
  case round =>
    obtain ⟨k, vi, hk, rfl, hinv⟩ := hrel
    by_cases hlt : k < n
    · rcases HLF.out wr hinv.st.fr with hnil | ⟨gc, oc, rfl, hrow⟩
      · have := HN.out; rw [hnil] at this; simp at this; omega
      obtain ⟨e0, e1, e2, e3, e4, e5⟩ := coinCells hrow k (by rw [HN.out]; exact hlt)
      have HS : Hid (cs.take (k + 1) = cs.take k ++ [cs.getD k dN]) := by
        show _ = _
        rw [List.take_succ_eq_append_getElem (by rw [HN.out]; exact hlt)]
        simp [List.getD, HN.out, hlt]
      have HLL : Hid ((cs.take k).length ≤ 1000) := by show _ ≤ _; rw [List.length_take]; omega
      clear hrow
      generalize cs.getD k dN = y at *
      generalize cs.take k = acc at *
      obtain ⟨y0, y1, y2, y3, y4, y5⟩ := y
      simp only at e0 e1 e2 e3 e4 e5
      have hb4 : Below wr.heap.size wr (wr.alloc (.cells #[.int .i64 y0, .int .i64 y1, .int .i64 y2, .int .i64 y3, .int .i64 y4, .int .i64 y5] 107)) := (Below.refl _ _).alloc (Nat.le_refl _) _
      have HI4 : Hid (UIv w0 (B + 1) tag vi acc (wr.alloc (.cells #[.int .i64 y0, .int .i64 y1, .int .i64 y2, .int .i64 y3, .int .i64 y4, .int .i64 y5] 107))) := hinv.grown hb4
      obtain ⟨x0, x1, x2, x3, x4, x5⟩ := xrow (vrow_new wr [.int .i64 y0, .int .i64 y1, .int .i64 y2, .int .i64 y3, .int .i64 y4, .int .i64 y5] 107)
      go_upto_region 5 with fail
      generalize wr.alloc (.cells #[.int .i64 y0, .int .i64 y1, .int .i64 y2, .int .i64 y3, .int .i64 y4, .int .i64 y5] 107) = w4 at *
      generalize wr.heap.size = X at *
      clear e0 e1 e2 e3 e4 e5 hb4 hinv
      have t1 := HI4.out.t1
      have tf1 := HI4.out.tf 1
      have hTl : B + 1 < w4.heap.size := cell_lt t1
      have hviT : some (B + 1) ≠ vi.ownBlock := fun e => by have := (HI4.out.own.blk _ e.symm).1; omega
      have bC : Below w4.heap.size w4 (w4.alloc (.cells #[.int .i64 y0, .int .i64 y1, .slice none 0 0] 115)) := (Below.refl _ _).alloc (Nat.le_refl _) _
      have HI5 : Hid (UIv w0 (B + 1) tag vi acc (w4.alloc (.cells #[.int .i64 y0, .int .i64 y1, .slice none 0 0] 115))) := HI4.out.grown bC
      go_upto_region 6 with (at_builtin; refine wpList_appR 33 40 _ Tryz.underlying33 info115 rfl (by decide) inC3 inC_one (w4.alloc (.cells #[.int .i64 y0, .int .i64 y1, .slice none 0 0] 115)) rfl _ _ rfl (B + 1 + 1) w4.heap.size 1 vi acc ⟨y0, y1, y2, y3, y4, y5⟩ (by rfl) (by rfl) HI5.out.own (vrow_new _ _ _) (by simp; omega) (by have := HLL.out; unfold maxLen; omega) (by have := HLL.out; omega) ?_; intro gb capb w8 hown8 hg8 hl8 hlt8; have k0 := gb_cell hg8 HI5.out.t1 hviT; have k1 := (gb_frozen hg8 (cell_lt HI5.out.t1) hviT).trans (HI5.out.tf 1))
      have HI9 : Hid _ := HI5.out.push hown8 hg8 hl8
      clear hown8 hg8 hl8 hlt8 k0 k1 HI5 HI4 bC t1 tf1 x0 x1 x2 x3 x4 x5
      go_wp2
      go_roundw
      case rel => exact ⟨k + 1, _, by omega, by go_num, by rw [HS.out]; exact HI9.out⟩
      case measure => simp [intOf]; omega
    · have HE : Hid (cs.take k = cs) := by show _ = _; rw [List.take_of_length_le (by rw [HN.out]; omega)]
      rw [HE.out] at hinv
      obtain ⟨ai, ci, ei, _⟩ := OwnRec.at inC3 hinv.own
      rw [HN.out] at ei
      subst ei
      have HI : Hid (UIv w0 (B + 1) tag (.slice ai n ci) cs wr) := hinv
      have hnR : ¬ chE (B + 1) (.slice none 0 0) B := fun e => by
        rcases e with e | e
        · omega
        · simp [Value.ownBlock] at e
      have q0 := hinv.st.fr.cell r0 hnR
      have q1 := hinv.st.fr.cell r1 hnR
      have q2 := hinv.st.fr.cell r2 hnR
      have hBl : B < w0.heap.size := by omega
      have HG : Hid (∀ j, wr.frozen? ⟨B, j, none⟩ = false) := fun j => (hinv.st.fr.frozen (o := j) hBl hnR).trans (HF.out j)
      have HBW : Hid (Below B w wr) := hbA.trans (hinv.st.fr.toBelow B (by omega) (fun q hq => by
        rcases hq with e | e
        · omega
        · simp [Value.ownBlock] at e))
      have t0 := hinv.t0
      have t1 := hinv.t1
      have t2 := hinv.t2
      have tf2 := hinv.tf 2
      rcases HLY.out wr hinv.st.fr with hnil | ⟨gy, oy, rfl, hyrow⟩
      · have := HYN.out; rw [hnil] at this; simp at this; omega
      have HYR : Hid (VRow wr gy oy (ys.flatMap kV)) := hyrow
      have hTl : B + 1 < wr.heap.size := cell_lt t0
      clear hinv r0 r1 r2 hyrow
      go_upto_region 8 with (at_builtin; refine wpList_appN 28 16 _ Tryz.underlying28 info93 rfl (by decide) kv2 kv_one wr rfl _ _ rfl (B + 1 + 1) gy oy m d (.slice none 0 0) [] ys (by rfl) (by rfl) HYN.out hy0 (OwnRec.nil _ _ _ _ _) HYR.out (by omega) (by unfold maxLen; simp; omega) (by simp; omega) ?_; intro gb capb w8 hown8 hg8 hl8 hlt8; simp only [List.length_nil, Nat.zero_add, List.nil_append] at hown8 ⊢; have k2 := gb_cell hg8 t2 (by simp [Value.ownBlock]); have kf := (gb_frozen hg8 hTl (by simp [Value.ownBlock])).trans tf2)
      have b8 : Below wr.heap.size wr w8 := gb_to_below hg8 (Nat.le_refl _) (fun r hr => by simp [Value.ownBlock] at hr)
      have hgb : wr.heap.size ≤ gb := hl8.resolve_left (by simp [Value.ownBlock])
      have HOI : Hid (OwnRec inC 115 3 w8 (B + 1 + 1) (.slice ai n ci) cs) := HI.out.own.grown b8
      have HIB : Hid (∀ k, (Value.slice ai n ci).ownBlock = some k → B + 1 + 1 ≤ k ∧ k < wr.heap.size) := HI.out.own.blk
      have HOO : Hid (OwnRec kV 93 2 w8 (B + 1 + 1) (.slice (some ⟨gb, 0, none⟩) m capb) ys) := hown8
      have x0 := sob (K := B + 1) (i := 2) (u := .slice (some ⟨gb, 0, none⟩) m capb) ((b8.cell (p := ⟨B, 0, none⟩) (cell_lt q0)).trans q0) (by omega)
      have x1 := sob (K := B + 1) (i := 2) (u := .slice (some ⟨gb, 0, none⟩) m capb) ((b8.cell (p := ⟨B, 1, none⟩) (cell_lt q1)).trans q1) (by omega)
      have x2 := sob (K := B + 1) (i := 2) (u := .slice (some ⟨gb, 0, none⟩) m capb) ((b8.cell (p := ⟨B, 2, none⟩) (cell_lt q2)).trans q2) (by omega)
      have y0 := so (i := 2) (u := .slice (some ⟨gb, 0, none⟩) m capb) ((b8.cell (p := ⟨B + 1, 0, none⟩) hTl).trans t0) (by decide)
      have y1 := so (i := 2) (u := .slice (some ⟨gb, 0, none⟩) m capb) ((b8.cell (p := ⟨B + 1, 1, none⟩) hTl).trans t1) (by decide)
      have y2 := ss (u := .slice (some ⟨gb, 0, none⟩) m capb) k2
      have HG9 : Hid (∀ j, (w8.setCell ⟨B + 1, 2, none⟩ (.slice (some ⟨gb, 0, none⟩) m capb)).frozen? ⟨B, j, none⟩ = false) := fun j => by
        rw [World.frozen?_setCell]
        exact (b8.frozen (p := ⟨B, j, none⟩) (show B < wr.heap.size by omega)).trans (HG.out j)
      have HB9 : Hid (Below B w (w8.setCell ⟨B + 1, 2, none⟩ (.slice (some ⟨gb, 0, none⟩) m capb))) := (HBW.out.trans (b8.mono (by omega))).setCell (p := ⟨B + 1, 2, none⟩) (by show B ≤ B + 1; omega) _
      have HOI9 : Hid (OwnRec inC 115 3 (w8.setCell ⟨B + 1, 2, none⟩ (.slice (some ⟨gb, 0, none⟩) m capb)) (B + 1 + 1) (.slice ai n ci) cs) := own_set HOI.out _ _ _ (fun e => by have := (HIB.out _ e).1; omega)
      have HOO9 : Hid (OwnRec kV 93 2 (w8.setCell ⟨B + 1, 2, none⟩ (.slice (some ⟨gb, 0, none⟩) m capb)) (B + 1 + 1) (.slice (some ⟨gb, 0, none⟩) m capb) ys) := own_set HOO.out _ _ _ (fun e => by simp [Value.ownBlock] at e; omega)
      have HNE : Hid (∀ k, (Value.slice ai n ci).ownBlock = some k → (Value.slice (some ⟨gb, 0, none⟩) m capb).ownBlock ≠ some k) := fun k hk e => by
        have := (HIB.out k hk).2
        simp [Value.ownBlock] at e
        omega
      clear hown8 hg8 hl8 hlt8 k2 kf b8 HOI HOO HIB t0 t1 t2 tf2 q0 q1 q2 HYR HG HBW HI
      generalize w8.setCell ⟨B + 1, 2, none⟩ (.slice (some ⟨gb, 0, none⟩) m capb) = w9 at *
      have f0 := HG9.out 0
      have f1 := HG9.out 1
      have f2 := HG9.out 2
      go_wp2
      have z0 : (((w9.setCell ⟨B, 0, none⟩ (.int .i64 tag)).setCell ⟨B, 1, none⟩ (.slice ai n ci)).setCell ⟨B, 2, none⟩ (.slice (some ⟨gb, 0, none⟩) m capb)).cell? ⟨B, 0, none⟩ = some (.int .i64 tag) := so (so (ss x0) (by decide)) (by decide)
      have z1 : (((w9.setCell ⟨B, 0, none⟩ (.int .i64 tag)).setCell ⟨B, 1, none⟩ (.slice ai n ci)).setCell ⟨B, 2, none⟩ (.slice (some ⟨gb, 0, none⟩) m capb)).cell? ⟨B, 1, none⟩ = some (.slice ai n ci) := so (ss (so x1 (by decide))) (by decide)
      have z2 : (((w9.setCell ⟨B, 0, none⟩ (.int .i64 tag)).setCell ⟨B, 1, none⟩ (.slice ai n ci)).setCell ⟨B, 2, none⟩ (.slice (some ⟨gb, 0, none⟩) m capb)).cell? ⟨B, 2, none⟩ = some (.slice (some ⟨gb, 0, none⟩) m capb) := ss (so (so x2 (by decide)) (by decide))
      refine bodyPost_ret (v := .agg #[.int .i64 tag, .slice ai n ci, .slice (some ⟨gb, 0, none⟩) m capb]) ?_ rfl ⟨_, _, rfl, ?_, ?_⟩
      · simp [results, Tryz.results89, go_sem, z0, z1, z2]
      · rw [HBe.out]
        exact ⟨owns_lower (ownsRow_setCell_below (ownsRow_setCell_below (ownsRow_setCell_below HOI9.out (a := ⟨B, 0, none⟩) (by show B < B + 1 + 1; omega) _) (a := ⟨B, 1, none⟩) (by show B < B + 1 + 1; omega) _) (a := ⟨B, 2, none⟩) (by show B < B + 1 + 1; omega) _) (by omega), owns_lower (ownsRow_setCell_below (ownsRow_setCell_below (ownsRow_setCell_below HOO9.out (a := ⟨B, 0, none⟩) (by show B < B + 1 + 1; omega) _) (a := ⟨B, 1, none⟩) (by show B < B + 1 + 1; omega) _) (a := ⟨B, 2, none⟩) (by show B < B + 1 + 1; omega) _) (by omega), HNE.out⟩
      · rw [HBe.out]
        exact ((HB9.out.setCell (p := ⟨B, 0, none⟩) (Nat.le_refl _) _).setCell (p := ⟨B, 1, none⟩) (Nat.le_refl _) _).setCell (p := ⟨B, 2, none⟩) (Nat.le_refl _) _
end Go.Proofs.YtffgpepngcnjeabGreatQ

namespace Go.Proofs.YtffgpepngcnjeabGreatQ
open Go.RowKit
theorem info117 : (Tryz.prog.info? 117).map (fun i => (i.zero, i.size, i.bytes)) = some (some (.agg #[.int .i64 0, .int .i64 0]), 2, 16) := by kernel_rfl
/-- a payment's lists: each in a block of its own -/
structure PdOk (base : Nat) (vi vo vk : Value) (cs : List CoinD) (ys : List (Int × Int)) (ks : List CoinD) (w : World) : Prop where
  oi : OwnRec inC 115 3 w base vi cs
  oo : OwnRec kV 93 2 w base vo ys
  ok : OwnRec kC 117 2 w base vk ks
  n1 : ∀ k, vi.ownBlock = some k → vo.ownBlock ≠ some k ∧ vk.ownBlock ≠ some k
  n2 : ∀ k, vo.ownBlock = some k → vk.ownBlock ≠ some k
theorem PdOk.fr {E : Nat → Prop} {base : Nat} {vi vo vk : Value} {cs : List CoinD} {ys : List (Int × Int)} {ks : List CoinD} {w w' : World} (h : PdOk base vi vo vk cs ys ks w) (hf : Fr E w w') (he : ∀ k, base ≤ k → ¬ E k) : PdOk base vi vo vk cs ys ks w' :=
  ⟨hf.own h.oi (fun k hk => he k (h.oi.blk k hk).1), hf.own h.oo (fun k hk => he k (h.oo.blk k hk).1), hf.own h.ok (fun k hk => he k (h.ok.blk k hk).1), h.n1, h.n2⟩
theorem PdOk.grown {base : Nat} {vi vo vk : Value} {cs : List CoinD} {ys : List (Int × Int)} {ks : List CoinD} {w w' : World} (h : PdOk base vi vo vk cs ys ks w) (hb : Below w.heap.size w w') : PdOk base vi vo vk cs ys ks w' :=
  ⟨h.oi.grown hb, h.oo.grown hb, h.ok.grown hb, h.n1, h.n2⟩
theorem PdOk.set {base : Nat} {vi vo vk : Value} {cs : List CoinD} {ys : List (Int × Int)} {ks : List CoinD} {w : World} (h : PdOk base vi vo vk cs ys ks w) (b o : Nat) (u : Value) (hb : b < base) : PdOk base vi vo vk cs ys ks (w.setCell ⟨b, o, none⟩ u) :=
  ⟨own_set h.oi b o u (fun e => by have := (h.oi.blk _ e).1; omega), own_set h.oo b o u (fun e => by have := (h.oo.blk _ e).1; omega), own_set h.ok b o u (fun e => by have := (h.ok.blk _ e).1; omega), h.n1, h.n2⟩
theorem PdOk.lower {base base' : Nat} {vi vo vk : Value} {cs : List CoinD} {ys : List (Int × Int)} {ks : List CoinD} {w : World} (h : PdOk base vi vo vk cs ys ks w) (hb : base' ≤ base) : PdOk base' vi vo vk cs ys ks w :=
  ⟨owns_lower h.oi hb, owns_lower h.oo hb, owns_lower h.ok hb, h.n1, h.n2⟩
/-- a key more -/
theorem PdOk.pushK {base : Nat} {vi vo vk : Value} {cs : List CoinD} {ys : List (Int × Int)} {ks : List CoinD} {x : CoinD} {w w1 : World} {g n c : Nat} (h : PdOk base vi vo vk cs ys ks w) (hown : OwnRec kC 117 2 w1 base (.slice (some ⟨g, 0, none⟩) n c) (ks ++ [x])) (hg : w.grownBy w1 vk.ownBlock) (hl : vk.ownBlock = some g ∨ w.heap.size ≤ g) : PdOk base vi vo (.slice (some ⟨g, 0, none⟩) n c) cs ys (ks ++ [x]) w1 := by
  refine ⟨h.oi.gb hg (fun k hk e => (h.n1 k hk).2 e.symm), h.oo.gb hg (fun k hk e => h.n2 k hk e.symm), hown, fun k hk => ⟨(h.n1 k hk).1, fun e => ?_⟩, fun k hk e => ?_⟩
  · simp [Value.ownBlock] at e
    subst e
    rcases hl with h1 | h1
    · exact (h.n1 _ hk).2 h1
    · have := (h.oi.blk _ hk).2; omega
  · simp [Value.ownBlock] at e
    subst e
    rcases hl with h1 | h1
    · exact h.n2 _ hk h1
    · have := (h.oo.blk _ hk).2; omega
/-- an output more -/
theorem PdOk.pushO {base : Nat} {vi vo vk : Value} {cs : List CoinD} {ys : List (Int × Int)} {ks : List CoinD} {x : Int × Int} {w w1 : World} {g n c : Nat} (h : PdOk base vi vo vk cs ys ks w) (hown : OwnRec kV 93 2 w1 base (.slice (some ⟨g, 0, none⟩) n c) (ys ++ [x])) (hg : w.grownBy w1 vo.ownBlock) (hl : vo.ownBlock = some g ∨ w.heap.size ≤ g) : PdOk base vi (.slice (some ⟨g, 0, none⟩) n c) vk cs (ys ++ [x]) ks w1 := by
  refine ⟨h.oi.gb hg (fun k hk e => (h.n1 k hk).1 e.symm), hown, h.ok.gb hg (fun k hk e => h.n2 k e.symm hk), fun k hk => ⟨fun e => ?_, (h.n1 k hk).2⟩, fun k hk e => ?_⟩
  · simp [Value.ownBlock] at e
    subst e
    rcases hl with h1 | h1
    · exact (h.n1 _ hk).1 h1
    · have := (h.oi.blk _ hk).2; omega
  · simp [Value.ownBlock] at hk
    subst hk
    rcases hl with h1 | h1
    · exact h.n2 _ h1 e
    · have := (h.ok.blk _ e).2; omega
theorem VB.gb {w w' : World} {row : Option Nat} (hg : w.grownBy w' row) {L : Nat} {a0 a1 a2 a3 a4 a5 : Value} (h : VB w L a0 a1 a2 a3 a4 a5) (hne : some L ≠ row) : VB w' L a0 a1 a2 a3 a4 a5 :=
  h.fr (Fr.of_gb hg (E := fun k => row = some k) (fun _ hk _ => hk)) (fun e => hne e.symm)
set_option maxRecDepth 100000 in
set_option maxHeartbeats 4000000 in
theorem withoutChange_any (ac : Option Addr) (n c : Nat) (cs : List CoinD) (ap : Option Addr) (m d : Nat) (ys : List (Int × Int)) (tag : Int) (w : World) (hx : RecAt CoinD.l w ac cs) (hn : cs.length = n) (hnm : n ≤ 1000) (hy : OutsAt w ap ys) (hyn : ys.length = m) (hy0 : 0 < m) (hym : m ≤ 1000) :
    Calls Tryz.prog 82 #[.slice ac n c, .slice ap m d, .int .i64 tag] w fun e w' => ∃ vi vo vk, e = .returned (.agg #[.int .i64 0, .int .i64 tag, vi, vo, vk, .int .i64 (-1)]) ∧ PdOk w.heap.size vi vo vk cs ys cs w' ∧ Below w.heap.size w w' := by
  have HN : Hid (cs.length = n) := hn
  have HX : Hid (RecAt CoinD.l w ac cs) := hx
  have HY : Hid (OutsAt w ap ys) := hy
  have HYN : Hid (ys.length = m) := hyn
  clear hn hx hy hyn
  have hbA : Below w.heap.size w ((w.alloc (.cells #[.int .i64 0, .int .i64 0, .slice none 0 0, .slice none 0 0, .slice none 0 0, .int .i64 0] 38)).alloc (.cells #[.int .i64 0, .int .i64 0, .slice none 0 0, .slice none 0 0, .slice none 0 0, .int .i64 (-1)] 38)) := ((Below.refl _ _).alloc (Nat.le_refl _) _).alloc (by simp) _
  have hR : VB ((w.alloc (.cells #[.int .i64 0, .int .i64 0, .slice none 0 0, .slice none 0 0, .slice none 0 0, .int .i64 0] 38)).alloc (.cells #[.int .i64 0, .int .i64 0, .slice none 0 0, .slice none 0 0, .slice none 0 0, .int .i64 (-1)] 38)) w.heap.size (.int .i64 0) (.int .i64 0) (.slice none 0 0) (.slice none 0 0) (.slice none 0 0) (.int .i64 0) := (VB.new w _ _ _ _ _ _ 38).grown ((Below.refl _ _).alloc (Nat.le_refl _) _)
  have hT : VB ((w.alloc (.cells #[.int .i64 0, .int .i64 0, .slice none 0 0, .slice none 0 0, .slice none 0 0, .int .i64 0] 38)).alloc (.cells #[.int .i64 0, .int .i64 0, .slice none 0 0, .slice none 0 0, .slice none 0 0, .int .i64 (-1)] 38)) (w.heap.size + 1) (.int .i64 0) (.int .i64 0) (.slice none 0 0) (.slice none 0 0) (.slice none 0 0) (.int .i64 (-1)) := by
    have := VB.new (w.alloc (.cells #[.int .i64 0, .int .i64 0, .slice none 0 0, .slice none 0 0, .slice none 0 0, .int .i64 0] 38)) (.int .i64 0) (.int .i64 0) (.slice none 0 0) (.slice none 0 0) (.slice none 0 0) (.int .i64 (-1)) 38
    rw [World.size_alloc] at this
    exact this
  go_enter Tryz.func82, Tryz.ntmps82
  go_upto_region 2 with fail
  generalize ((w.alloc (.cells #[.int .i64 0, .int .i64 0, .slice none 0 0, .slice none 0 0, .slice none 0 0, .int .i64 0] 38)).alloc (.cells #[.int .i64 0, .int .i64 0, .slice none 0 0, .slice none 0 0, .slice none 0 0, .int .i64 (-1)] 38)) = w0 at *
  have HX0 : Hid (RecAt CoinD.l w0 ac cs) := HX.out.grown hbA
  have HY0 : Hid (OutsAt w0 ap ys) := HY.out.grown hbA
  have HR : Hid (VB w0 w.heap.size (.int .i64 0) (.int .i64 0) (.slice none 0 0) (.slice none 0 0) (.slice none 0 0) (.int .i64 0)) := hR
  have HT : Hid (VB w0 (w.heap.size + 1) (.int .i64 0) (.int .i64 0) (.slice none 0 0) (.slice none 0 0) (.slice none 0 0) (.int .i64 (-1))) := hT
  have hz0 : w.heap.size + 1 < w0.heap.size := cell_lt hT.c0
  clear hR hT
  go_wp2_with fail
  refine (unsealed_any ac n c cs ap m d ys tag _ HX0.out HN.out hnm HY0.out HYN.out hy0 hym).mono ?_
  rintro e w1 ⟨vi, vo, rfl, hun, hb1⟩
  obtain ⟨ai, ci, ei, _⟩ := OwnRec.at inC3 hun.oi
  obtain ⟨aq, cq, eo, _⟩ := OwnRec.at kv2 hun.oo
  rw [HN.out] at ei
  rw [HYN.out] at eo
  subst ei
  subst eo
  have HT1 : Hid (VB w1 (w.heap.size + 1) (.int .i64 0) (.int .i64 0) (.slice none 0 0) (.slice none 0 0) (.slice none 0 0) (.int .i64 (-1))) := HT.out.grown hb1
  have HR1 : Hid (VB w1 w.heap.size (.int .i64 0) (.int .i64 0) (.slice none 0 0) (.slice none 0 0) (.slice none 0 0) (.int .i64 0)) := HR.out.grown hb1
  have HPD : Hid (PdOk w0.heap.size (.slice ai n ci) (.slice aq m cq) (.slice none 0 0) cs ys [] w1) := ⟨hun.oi, hun.oo, OwnRec.nil _ _ _ _ _, fun k hk => ⟨hun.ne k hk, fun e => by simp [Value.ownBlock] at e⟩, fun k _ e => by simp [Value.ownBlock] at e⟩
  have HBW : Hid (Below w.heap.size w w1) := hbA.trans (hb1.mono (by omega))
  clear hun HT HR HX0 HY0 hb1 hbA
  obtain ⟨t0, t1, t2, t3, t4, t5, tz⟩ := HT1.out
  have f1 := tz 1
  have f2 := tz 2
  have f3 := tz 3
  clear tz
  go_upto_region 3 with fail
  have HT2 : Hid (VB (((w1.setCell ⟨w.heap.size + 1, 1, none⟩ (.int .i64 tag)).setCell ⟨w.heap.size + 1, 2, none⟩ (.slice ai n ci)).setCell ⟨w.heap.size + 1, 3, none⟩ (.slice aq m cq)) (w.heap.size + 1) (.int .i64 0) (.int .i64 tag) (.slice ai n ci) (.slice aq m cq) (.slice none 0 0) (.int .i64 (-1))) := ((HT1.out.s1 _).s2 _).s3 _
  have HR2 : Hid (VB (((w1.setCell ⟨w.heap.size + 1, 1, none⟩ (.int .i64 tag)).setCell ⟨w.heap.size + 1, 2, none⟩ (.slice ai n ci)).setCell ⟨w.heap.size + 1, 3, none⟩ (.slice aq m cq)) w.heap.size (.int .i64 0) (.int .i64 0) (.slice none 0 0) (.slice none 0 0) (.slice none 0 0) (.int .i64 0)) := ((HR1.out.oth _ (by omega)).oth _ (by omega)).oth _ (by omega)
  have HPD2 : Hid (PdOk w0.heap.size (.slice ai n ci) (.slice aq m cq) (.slice none 0 0) cs ys [] (((w1.setCell ⟨w.heap.size + 1, 1, none⟩ (.int .i64 tag)).setCell ⟨w.heap.size + 1, 2, none⟩ (.slice ai n ci)).setCell ⟨w.heap.size + 1, 3, none⟩ (.slice aq m cq))) := ((HPD.out.set _ _ _ hz0).set _ _ _ hz0).set _ _ _ hz0
  have HB2 : Hid (Below w.heap.size w (((w1.setCell ⟨w.heap.size + 1, 1, none⟩ (.int .i64 tag)).setCell ⟨w.heap.size + 1, 2, none⟩ (.slice ai n ci)).setCell ⟨w.heap.size + 1, 3, none⟩ (.slice aq m cq))) := ((HBW.out.setCell (p := ⟨w.heap.size + 1, 1, none⟩) (Nat.le_succ _) _).setCell (p := ⟨w.heap.size + 1, 2, none⟩) (Nat.le_succ _) _).setCell (p := ⟨w.heap.size + 1, 3, none⟩) (Nat.le_succ _) _
  clear t0 t1 t2 t3 t4 t5 f1 f2 f3 HT1 HR1 HPD HBW
  generalize (((w1.setCell ⟨w.heap.size + 1, 1, none⟩ (.int .i64 tag)).setCell ⟨w.heap.size + 1, 2, none⟩ (.slice ai n ci)).setCell ⟨w.heap.size + 1, 3, none⟩ (.slice aq m cq)) = w2 at *
  generalize w0.heap.size = B0 at *
  generalize hB : w.heap.size = B at *
  have HBe : Hid (w.heap.size = B) := hB
  clear hB
  go_wp2
  go_loopw [18] (fun i wr => ∃ (k : Nat) (vk : Value), k ≤ n ∧ i = .int .i64 k ∧ Hid (VB wr (B + 1) (.int .i64 0) (.int .i64 tag) (.slice ai n ci) (.slice aq m cq) vk (.int .i64 (-1))) ∧ Hid (VB wr B (.int .i64 0) (.int .i64 0) (.slice none 0 0) (.slice none 0 0) (.slice none 0 0) (.int .i64 0)) ∧ Hid (PdOk B0 (.slice ai n ci) (.slice aq m cq) vk cs ys (cs.take k) wr) ∧ Hid (Below B w wr)) (fun i _ => n - (intOf i).toNat)
  case atStart => exact ⟨0, _, Nat.zero_le _, rfl, HT2.out, HR2.out, HPD2.out, HB2.out⟩
  case round =>
    clear HT2 HR2 HPD2 HB2
    obtain ⟨k, vk, hk, rfl, hT, hR, hP, hbl⟩ := hrel
    by_cases hlt : k < n
    · rcases HX.out.grown (by rw [HBe.out]; exact hbl.out) with hnil | ⟨gc, oc, rfl, hrow⟩
      · have := HN.out; rw [hnil] at this; simp at this; omega
      obtain ⟨e0, e1, e2, e3, e4, e5⟩ := coinCells hrow k (by rw [HN.out]; exact hlt)
      have HS : Hid (cs.take (k + 1) = cs.take k ++ [cs.getD k dN]) := by
        show _ = _
        rw [List.take_succ_eq_append_getElem (by rw [HN.out]; exact hlt)]
        simp [List.getD, HN.out, hlt]
      have HLL : Hid ((cs.take k).length ≤ 1000) := by show _ ≤ _; rw [List.length_take]; omega
      clear hrow
      generalize cs.getD k dN = y at *
      generalize cs.take k = acc at *
      obtain ⟨y0, y1, y2, y3, y4, y5⟩ := y
      simp only at e0 e1 e2 e3 e4 e5
      have hb4 : Below wr.heap.size wr (wr.alloc (.cells #[.int .i64 y0, .int .i64 y1, .int .i64 y2, .int .i64 y3, .int .i64 y4, .int .i64 y5] 107)) := (Below.refl _ _).alloc (Nat.le_refl _) _
      have hBr : B + 1 < wr.heap.size := cell_lt hT.out.c0
      have HT4 : Hid _ := hT.out.grown hb4
      have HR4 : Hid _ := hR.out.grown hb4
      have HP4 : Hid _ := hP.out.grown hb4
      have HB4 : Hid (Below B w (wr.alloc (.cells #[.int .i64 y0, .int .i64 y1, .int .i64 y2, .int .i64 y3, .int .i64 y4, .int .i64 y5] 107))) := hbl.out.alloc (by omega) _
      obtain ⟨x0, x1, x2, x3, x4, x5⟩ := xrow (vrow_new wr [.int .i64 y0, .int .i64 y1, .int .i64 y2, .int .i64 y3, .int .i64 y4, .int .i64 y5] 107)
      go_upto_region 6 with fail
      generalize wr.alloc (.cells #[.int .i64 y0, .int .i64 y1, .int .i64 y2, .int .i64 y3, .int .i64 y4, .int .i64 y5] 107) = w4 at *
      generalize wr.heap.size = X at *
      clear e0 e1 e2 e3 e4 e5 hb4 hT hR hP hbl
      have bC : Below w4.heap.size w4 (w4.alloc (.cells #[.int .i64 y4, .int .i64 y5] 117)) := (Below.refl _ _).alloc (Nat.le_refl _) _
      have HT5 : Hid (VB (w4.alloc (.cells #[.int .i64 y4, .int .i64 y5] 117)) (B + 1) (.int .i64 0) (.int .i64 tag) (.slice ai n ci) (.slice aq m cq) vk (.int .i64 (-1))) := HT4.out.grown bC
      have HR5 : Hid (VB (w4.alloc (.cells #[.int .i64 y4, .int .i64 y5] 117)) B (.int .i64 0) (.int .i64 0) (.slice none 0 0) (.slice none 0 0) (.slice none 0 0) (.int .i64 0)) := HR4.out.grown bC
      have HP5 : Hid (PdOk B0 (.slice ai n ci) (.slice aq m cq) vk cs ys acc (w4.alloc (.cells #[.int .i64 y4, .int .i64 y5] 117))) := HP4.out.grown bC
      have t4 := HT4.out.c4
      have f4 := HT4.out.fz 4
      have hTl : B + 1 < w4.heap.size := cell_lt t4
      have HB5 : Hid (Below B w (w4.alloc (.cells #[.int .i64 y4, .int .i64 y5] 117))) := HB4.out.alloc (by omega) _
      have hvk : ∀ q, vk.ownBlock = some q → B0 ≤ q := fun q hq => (HP4.out.ok.blk q hq).1
      have hvkT : some (B + 1) ≠ vk.ownBlock := fun e => by have := hvk _ e.symm; omega
      have hvkR : some B ≠ vk.ownBlock := fun e => by have := hvk _ e.symm; omega
      have HVK : Hid (∀ q, vk.ownBlock = some q → B0 ≤ q) := hvk
      have hB0l : B0 ≤ (w4.alloc (.cells #[.int .i64 y4, .int .i64 y5] 117)).heap.size := by
        obtain ⟨go2, _, g1, g2, _, _⟩ := own_some kv2 HP4.out.oo HYN.out hy0
        rw [World.size_alloc]
        omega
      go_upto_region 7 with (at_builtin; refine wpList_appR 36 16 _ Tryz.underlying36 info117 rfl (by decide) kC2 kC_one (w4.alloc (.cells #[.int .i64 y4, .int .i64 y5] 117)) rfl _ _ rfl B0 w4.heap.size 1 vk acc ⟨y0, y1, y2, y3, y4, y5⟩ (by rfl) (by rfl) HP5.out.ok (vrow_new _ _ _) hB0l (by have := HLL.out; unfold maxLen; omega) (by have := HLL.out; omega) ?_; intro gb capb w8 hown8 hg8 hl8 hlt8; have k0 := gb_cell hg8 HT5.out.c4 hvkT; have k1 := (gb_frozen hg8 (cell_lt HT5.out.c4) hvkT).trans (HT5.out.fz 4))
      have HT9 : Hid (VB (w8.setCell ⟨B + 1, 4, none⟩ (.slice (some ⟨gb, 0, none⟩) (acc.length + 1) capb)) (B + 1) (.int .i64 0) (.int .i64 tag) (.slice ai n ci) (.slice aq m cq) (.slice (some ⟨gb, 0, none⟩) (acc.length + 1) capb) (.int .i64 (-1))) := (HT5.out.gb hg8 hvkT).s4 _
      have HR9 : Hid (VB (w8.setCell ⟨B + 1, 4, none⟩ (.slice (some ⟨gb, 0, none⟩) (acc.length + 1) capb)) B (.int .i64 0) (.int .i64 0) (.slice none 0 0) (.slice none 0 0) (.slice none 0 0) (.int .i64 0)) := (HR5.out.gb hg8 hvkR).oth _ (by omega)
      have HP9 : Hid (PdOk B0 (.slice ai n ci) (.slice aq m cq) (.slice (some ⟨gb, 0, none⟩) (acc.length + 1) capb) cs ys (acc ++ [⟨y0, y1, y2, y3, y4, y5⟩]) (w8.setCell ⟨B + 1, 4, none⟩ (.slice (some ⟨gb, 0, none⟩) (acc.length + 1) capb))) := (HP5.out.pushK hown8 hg8 hl8).set _ _ _ hz0
      have HB9 : Hid (Below B w (w8.setCell ⟨B + 1, 4, none⟩ (.slice (some ⟨gb, 0, none⟩) (acc.length + 1) capb))) := (HB5.out.trans (gb_to_below hg8 (by omega) (fun r hr => by have := HVK.out r hr; omega))).setCell (p := ⟨B + 1, 4, none⟩) (Nat.le_succ _) _
      clear hown8 hg8 hl8 hlt8 k0 k1 HT5 HR5 HP5 HB5 HT4 HR4 HP4 HB4 bC t4 f4 x0 x1 x2 x3 x4 x5 hvk
      go_wp2
      go_roundw
      case rel => exact ⟨k + 1, _, by omega, by go_num, HT9.out, HR9.out, by rw [HS.out]; exact HP9.out, HB9.out⟩
      case measure => simp [intOf]; omega
    · have HE : Hid (cs.take k = cs) := by show _ = _; rw [List.take_of_length_le (by rw [HN.out]; omega)]
      have HP : Hid (PdOk B0 (.slice ai n ci) (.slice aq m cq) vk cs ys cs wr) := by have := hP.out; rw [HE.out] at this; exact this
      obtain ⟨ak, ck, ek, _⟩ := OwnRec.at kC2 HP.out.ok
      rw [HN.out] at ek
      subst ek
      obtain ⟨t0, t1, t2, t3, t4, t5, _⟩ := hT.out
      obtain ⟨q0, q1, q2, q3, q4, q5, qz⟩ := hR.out
      have f0 := qz 0
      have f1 := qz 1
      have f2 := qz 2
      have f3 := qz 3
      have f4 := qz 4
      have f5 := qz 5
      have HV : Hid _ := (((((hR.out.s0 (.int .i64 0)).s1 (.int .i64 tag)).s2 (.slice ai n ci)).s3 (.slice aq m cq)).s4 (.slice ak n ck)).s5 (.int .i64 (-1))
      have HPF : Hid _ := (((((HP.out.set B 0 (.int .i64 0) (by omega)).set B 1 (.int .i64 tag) (by omega)).set B 2 (.slice ai n ci) (by omega)).set B 3 (.slice aq m cq) (by omega)).set B 4 (.slice ak n ck) (by omega)).set B 5 (.int .i64 (-1)) (by omega)
      have HBF : Hid _ := (((((hbl.out.setCell (p := ⟨B, 0, none⟩) (Nat.le_refl _) (.int .i64 0)).setCell (p := ⟨B, 1, none⟩) (Nat.le_refl _) (.int .i64 tag)).setCell (p := ⟨B, 2, none⟩) (Nat.le_refl _) (.slice ai n ci)).setCell (p := ⟨B, 3, none⟩) (Nat.le_refl _) (.slice aq m cq)).setCell (p := ⟨B, 4, none⟩) (Nat.le_refl _) (.slice ak n ck)).setCell (p := ⟨B, 5, none⟩) (Nat.le_refl _) (.int .i64 (-1))
      clear qz hT hR hP hbl
      go_wp2
      obtain ⟨z0, z1, z2, z3, z4, z5, _⟩ := HV.out
      refine bodyPost_ret (v := .agg #[.int .i64 0, .int .i64 tag, .slice ai n ci, .slice aq m cq, .slice ak n ck, .int .i64 (-1)]) ?_ rfl ⟨_, _, _, rfl, ?_, ?_⟩
      · simp [results, Tryz.results82, go_sem, z0, z1, z2, z3, z4, z5]
      · rw [HBe.out]
        exact HPF.out.lower (by omega)
      · rw [HBe.out]
        exact HBF.out
end Go.Proofs.YtffgpepngcnjeabGreatQ
