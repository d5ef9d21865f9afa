/-
  A script that came in as data: what lies in memory.
-/
import Derived.Test.YtffgpepngcnjeaaUndE
import Derived.Test.YtffgpepngcnjeaaTxOpen
namespace Go.Proofs.Ytffgpepngcnjeaa
open Go.ChangeShapes Go.WideShapes Go.ChangeAt Go.RowKit

theorem tCells75 : Try.prog.cellsOf 75 = 1 := by kernel_rfl
theorem tCells77 : Try.prog.cellsOf 77 = 5 := by kernel_rfl
theorem tBytes25 : Try.prog.bytesOf 25 = 56 := by kernel_rfl
theorem tBytes77 : Try.prog.bytesOf 77 = 72 := by kernel_rfl

theorem len5 {cs : List Value} (h : cs.length = 5) : ∃ a b c d e, cs = [a, b, c, d, e] := by
  match cs, h with
  | [a, b, c, d, e], _ => exact ⟨a, b, c, d, e, rfl⟩

/-- what lies below a world's size, as an allowed place -/
abbrev inW (W : World) (q : Nat) : Prop := q < W.heap.size

section
variable {H : Type} {enc : TypeId × Value → H} {W : World} {fuel : Nat} {cs : List Value} {x : DataW H × List MemPlace}

theorem tx_places {t : Int} {ai : Option Addr} {n c : Nat} {ap : Option Addr} {m d : Nat} {xs : List InD} {ys : List (Int × Int)} (hx : InsAt W ai xs) (hxl : xs.length = n) (hy : OutsAt W ap ys) (hyl : ys.length = m) : TxOk (inW W) W ⟨t, ai, n, c, ap, m, d, xs, ys⟩ := by
  refine ⟨hx, hxl, hy, hyl, fun he a ha => ?_, fun he a ha => ?_, fun i hi he a ha => ?_⟩
  · rcases hx with h | ⟨b, off, e, hr⟩
    · exact absurd h he
    · simp only at ha
      rw [ha] at e
      cases e
      exact cell_lt (hr 0 (List.length_pos_iff.2 he)).1.c0
  · rcases hy with h | ⟨b, off, e, hr⟩
    · exact absurd h he
    · simp only at ha
      rw [ha] at e
      cases e
      exact cell_lt (hr 0 (List.length_pos_iff.2 he)).1
  · rcases hx with h | ⟨b, off, e, hr⟩
    · simp only at hi
      rw [h] at hi
      simp at hi
    · obtain ⟨j, hj, e2⟩ := mem_getD dIn hi
      have hok := (hr j hj).2
      rw [← e2] at hok
      rcases hok.lies with h | ⟨b2, off2, e3, hr2⟩
      · exact absurd h he
      · rw [ha] at e3
        cases e3
        exact hr2.lt he

theorem open_txc (h : DataW.trod enc Try.prog W 0 (fun _ => true) true fuel 25 cs = some x) (hw : ∀ k ∈ x.1.weights Try.prog 25, k ≤ reachBytes) :
    ∃ y : TxD, cs = y.v ∧ TxOk (inW W) W y ∧ TxSm y := by
  obtain ⟨y0, y1, y2, n, hx, hlen, h0, h1, h2⟩ := Go.Deep.trod_struct3 Try.underlying25 h
  rw [tCells25] at hlen
  obtain ⟨a, b, c, rfl⟩ := len3 hlen
  simp only [tCells3, tCells22, tCells23, List.drop, List.take] at h0 h1 h2
  obtain ⟨t, ht, _⟩ := open_num h0
  obtain ⟨ai, ni, ci, xs, hi, hxa, hxl, hxs, _, _⟩ := open_insL h1 (fun k hk => hw k (by
    rw [hx]
    simp only [DataW.weights, Try.underlying25, List.map, DataW.weightsEach, List.append_nil]
    exact List.mem_append_right _ (List.mem_append_left _ hk)))
  obtain ⟨ap, m, e, ys, ho, hya, hyl, hys, hnil, _⟩ := open_outsL h2 (fun k hk => hw k (by
    rw [hx]
    simp only [DataW.weights, Try.underlying25, List.map, DataW.weightsEach, List.append_nil]
    exact List.mem_append_right _ (List.mem_append_right _ hk)))
  cases ht
  cases hi
  cases ho
  exact ⟨⟨t, ai, ni, ci, ap, m, e, xs, ys⟩, rfl, tx_places hxa hxl hya hyl, ⟨hxs, hys, hnil⟩⟩

theorem open_blk (h : DataW.trod enc Try.prog W 0 (fun _ => true) true fuel 75 cs = some x) (hw : ∀ k ∈ x.1.weights Try.prog 75, k ≤ reachBytes) :
    ∃ (y : BkD) (bl : List TxD), cs = y.v ∧ BkOk W.heap.size W y bl := by
  rcases Go.Deep.open_slice Try.underlying75 h with ⟨hcs, _⟩ | ⟨a, len, cap, m, n, D, Pl, hcs, _, hl, hm, hmm, hx, hel⟩
  · exact ⟨⟨none, 0, 0⟩, [], hcs, ⟨Or.inl rfl, fun h => absurd rfl h, fun t ht => by simp at ht⟩, rfl, fun t ht => by simp at ht, by simp only; omega⟩
  · have hmm' : m = cap := by simpa using hmm
    have hr : len * 56 ≤ reachBytes := by
      have := hw ((((List.range len).map D).length + ((List.range (m - len)).map fun j => D (len + j)).length) * 56) (by
        rw [hx]
        simp only [DataW.weights, Try.underlying75, tBytes25]
        exact List.mem_cons_self)
      simp only [List.length_map, List.length_range] at this
      omega
    simp only [reachBytes] at hr
    rw [tCells25] at hel
    have each : ∀ i, i < len → ∃ y : TxD, (W.cells? 0 (a.add (i * 3)) 3 = some y.v) ∧ TxOk (inW W) W y ∧ TxSm y := by
      intro i hi
      obtain ⟨cs', hc, ht⟩ := hel i (by omega)
      obtain ⟨y, rfl, hok, hsm⟩ := open_txc ht (fun k hk => hw k (by
        rw [hx]
        simp only [DataW.weights, Try.underlying75]
        exact List.mem_cons_of_mem _ (List.mem_append_left _ (weights_in (List.mem_map.2 ⟨i, List.mem_range.2 hi, rfl⟩) k hk))))
      exact ⟨y, hc, hok, hsm⟩
    obtain ⟨xs, hxl, hxs⟩ := choose_upto dT each
    have hrow : RecAt TxD.v W (some a) xs := by
      by_cases h0 : len = 0
      · exact Or.inl (List.length_eq_zero_iff.1 (by omega))
      · have ha : a.spot = none := by
          have := (cells_at (hxs 0 (by omega)).1 (by omega)).1
          simpa [Addr.add] using this
        obtain ⟨b, off, spot⟩ := a
        simp only at ha
        subst ha
        refine Or.inr ⟨b, off, rfl, fun j hj => ?_⟩
        rw [rec_len TxD.v 3 tx3] at hj
        have hq : j / 3 < xs.length := by omega
        have hj3 : j = j / 3 * 3 + j % 3 := by omega
        obtain ⟨hc, _⟩ := hxs (j / 3) (by omega)
        obtain ⟨_, hcc⟩ := cells_at hc (by omega)
        rw [add_plain] at hcc
        simp only at hcc
        have h9 := hcc (j % 3) (by omega)
        have e9 := rec_get TxD.v 3 tx3 dT xs (j / 3) (j % 3) hq (by omega)
        rw [← hj3] at e9
        rw [e9, show off + j = off + j / 3 * 3 + j % 3 by omega, h9]
        have hl9 : j % 3 < (xs.getD (j / 3) dT).v.length := by rw [tx3]; omega
        simp only [List.getD]
        simp only [List.getD] at hl9
        rw [List.getElem?_eq_getElem hl9, Option.getD_some]
    refine ⟨⟨some a, len, cap⟩, xs, hcs, ⟨hrow, fun he a' ha' => ?_, fun t ht => ?_⟩, hxl, fun t ht => ?_, by simp only; omega⟩
    · rcases hrow with h0 | ⟨b, off, e, hr'⟩
      · exact absurd h0 he
      · simp only at ha'
        rw [ha'] at e
        cases e
        refine hr'.lt (fun e0 => he ?_)
        have := rec_len TxD.v 3 tx3 xs
        rw [e0] at this
        exact List.length_eq_zero_iff.1 (by simp at this; omega)
    · obtain ⟨j, hj, e⟩ := mem_getD dT ht
      rw [e]
      exact (hxs j (by omega)).2.1
    · obtain ⟨j, hj, e⟩ := mem_getD dT ht
      rw [e]
      exact (hxs j (by omega)).2.2

theorem struct5 {P : Program} {w : World} {base : Nat} {spare : Bool} {held : Nat → Bool} {t : TypeId} {f0 f1 f2 f3 f4 : Field} {cs : List Value} (ht : P.underlying t = some (.struct #[f0, f1, f2, f3, f4])) (h : DataW.trod enc P w base held spare fuel t cs = some x) :
    ∃ y0 y1 y2 y3 y4 n, x = (.agg [y0.1, y1.1, y2.1, y3.1, y4.1], y0.2 ++ (y1.2 ++ (y2.2 ++ (y3.2 ++ y4.2)))) ∧ cs.length = P.cellsOf t ∧ DataW.trod enc P w base held spare n f0.type ((cs.drop f0.offset).take (P.cellsOf f0.type)) = some y0 ∧
      DataW.trod enc P w base held spare n f1.type ((cs.drop f1.offset).take (P.cellsOf f1.type)) = some y1 ∧ DataW.trod enc P w base held spare n f2.type ((cs.drop f2.offset).take (P.cellsOf f2.type)) = some y2 ∧
      DataW.trod enc P w base held spare n f3.type ((cs.drop f3.offset).take (P.cellsOf f3.type)) = some y3 ∧ DataW.trod enc P w base held spare n f4.type ((cs.drop f4.offset).take (P.cellsOf f4.type)) = some y4 := by
  obtain ⟨xs, n, _, rfl, hl, hlen, hf⟩ := DataW.trod_struct ht h
  match xs, hlen with
  | [y0, y1, y2, y3, y4], _ => exact ⟨y0, y1, y2, y3, y4, n, by simp, hl, by simpa using hf 0 f0 rfl, by simpa using hf 1 f1 rfl, by simpa using hf 2 f2 rfl, by simpa using hf 3 f3 rfl, by simpa using hf 4 f4 rfl⟩

theorem open_step (h : DataW.trod enc Try.prog W 0 (fun _ => true) true fuel 77 cs = some x) (hw : ∀ k ∈ x.1.weights Try.prog 77, k ≤ reachBytes) :
    ∃ y : StD, cs = y.v ∧ BkOk W.heap.size W y.bk y.bl := by
  obtain ⟨y0, y1, y2, y3, y4, n, hx, hlen, h0, h1, h2, h3, h4⟩ := struct5 Try.underlying77 h
  rw [tCells77] at hlen
  obtain ⟨a, b, c, d, e, rfl⟩ := len5 hlen
  simp only [tCells3, tCells75, tCells23, List.drop, List.take] at h0 h1 h2 h3 h4
  obtain ⟨k0, e0, _⟩ := open_num h0
  obtain ⟨k1, e1, _⟩ := open_num h1
  obtain ⟨k2, e2, _⟩ := open_num h2
  obtain ⟨y, bl, e3, hok⟩ := open_blk h3 (fun k hk => hw k (by
    rw [hx]
    simp only [DataW.weights, Try.underlying77, List.map, DataW.weightsEach, List.append_nil]
    exact List.mem_append_right _ (List.mem_append_right _ (List.mem_append_right _ (List.mem_append_left _ hk)))))
  obtain ⟨ap, m, dd, ys, e4, _⟩ := open_outsL h4 (fun k hk => hw k (by
    rw [hx]
    simp only [DataW.weights, Try.underlying77, List.map, DataW.weightsEach, List.append_nil]
    exact List.mem_append_right _ (List.mem_append_right _ (List.mem_append_right _ (List.mem_append_right _ hk)))))
  cases e0
  cases e1
  cases e2
  cases e3
  cases e4
  exact ⟨⟨k0, k1, k2, y, ap, m, dd, bl⟩, rfl, hok⟩

theorem open_script (h : DataW.trod enc Try.prog W 0 (fun _ => true) true fuel 67 cs = some x) (hw : ∀ k ∈ x.1.weights Try.prog 67, k ≤ reachBytes) :
    ∃ ao n c sc, cs = [.slice ao n c] ∧ ScriptAt W.heap.size W ao sc ∧ sc.length = n ∧ n ≤ 9000000000000000000 := by
  rcases Go.Deep.open_slice Try.underlying67 h with ⟨hcs, _⟩ | ⟨a, len, cap, m, n, D, Pl, hcs, _, hl, hm, hmm, hx, hel⟩
  · exact ⟨none, 0, 0, [], hcs, ⟨Or.inl rfl, fun h => absurd rfl h, fun t ht => by simp at ht⟩, rfl, by omega⟩
  · have hmm' : m = cap := by simpa using hmm
    have hr : len * 72 ≤ reachBytes := by
      have := hw ((((List.range len).map D).length + ((List.range (m - len)).map fun j => D (len + j)).length) * 72) (by
        rw [hx]
        simp only [DataW.weights, Try.underlying67, tBytes77]
        exact List.mem_cons_self)
      simp only [List.length_map, List.length_range] at this
      omega
    simp only [reachBytes] at hr
    rw [tCells77] at hel
    have each : ∀ i, i < len → ∃ y : StD, (W.cells? 0 (a.add (i * 5)) 5 = some y.v) ∧ BkOk W.heap.size W y.bk y.bl := by
      intro i hi
      obtain ⟨cs', hc, ht⟩ := hel i (by omega)
      obtain ⟨y, rfl, hok⟩ := open_step ht (fun k hk => hw k (by
        rw [hx]
        simp only [DataW.weights, Try.underlying67]
        exact List.mem_cons_of_mem _ (List.mem_append_left _ (weights_in (List.mem_map.2 ⟨i, List.mem_range.2 hi, rfl⟩) k hk))))
      exact ⟨y, hc, hok⟩
    obtain ⟨xs, hxl, hxs⟩ := choose_upto dSt each
    have hrow : RecAt StD.v W (some a) xs := by
      by_cases h0 : len = 0
      · exact Or.inl (List.length_eq_zero_iff.1 (by omega))
      · have ha : a.spot = none := by
          have := (cells_at (hxs 0 (by omega)).1 (by omega)).1
          simpa [Addr.add] using this
        obtain ⟨b, off, spot⟩ := a
        simp only at ha
        subst ha
        refine Or.inr ⟨b, off, rfl, fun j hj => ?_⟩
        rw [rec_len StD.v 5 st5] at hj
        have hq : j / 5 < xs.length := by omega
        have hj3 : j = j / 5 * 5 + j % 5 := by omega
        obtain ⟨hc, _⟩ := hxs (j / 5) (by omega)
        obtain ⟨_, hcc⟩ := cells_at hc (by omega)
        rw [add_plain] at hcc
        simp only at hcc
        have h9 := hcc (j % 5) (by omega)
        have e9 := rec_get StD.v 5 st5 dSt xs (j / 5) (j % 5) hq (by omega)
        rw [← hj3] at e9
        rw [e9, show off + j = off + j / 5 * 5 + j % 5 by omega, h9]
        have hl9 : j % 5 < (xs.getD (j / 5) dSt).v.length := by rw [st5]; omega
        simp only [List.getD]
        simp only [List.getD] at hl9
        rw [List.getElem?_eq_getElem hl9, Option.getD_some]
    refine ⟨some a, len, cap, xs, hcs, ⟨hrow, fun he a' ha' => ?_, fun t ht => ?_⟩, hxl, by omega⟩
    · rcases hrow with h0 | ⟨b, off, e, hr'⟩
      · exact absurd h0 he
      · rw [ha'] at e
        cases e
        refine hr'.lt (fun e0 => he ?_)
        have := rec_len StD.v 5 st5 xs
        rw [e0] at this
        exact List.length_eq_zero_iff.1 (by simp at this; omega)
    · obtain ⟨j, hj, e⟩ := mem_getD dSt ht
      rw [e]
      exact (hxs j (by omega)).2

end

end Go.Proofs.Ytffgpepngcnjeaa
