/-
  A transaction that came in as data: what lies in memory.
-/
import Derived.Test.YtffgpepngcnjeaaSTx
import Derived.ProofKit
import Derived.OpenShut
import Derived.Deep.Slices
import Derived.Deep.Strs
import Derived.Lib.SmallJoins
import Derived.SizedLaws
namespace Go.Proofs.Ytffgpepngcnjeaa
open Go.ChangeShapes Go.WideShapes Go.ChangeAt Go.RowKit

def I64 (x : Int) : Prop := -9223372036854775808 ≤ x ∧ x ≤ 9223372036854775807

theorem tCells3 : Try.prog.cellsOf 3 = 1 := by kernel_rfl
theorem tCells30 : Try.prog.cellsOf 30 = 1 := by kernel_rfl
theorem tCells22 : Try.prog.cellsOf 22 = 1 := by kernel_rfl
theorem tCells23 : Try.prog.cellsOf 23 = 1 := by kernel_rfl
theorem tCells25 : Try.prog.cellsOf 25 = 3 := by kernel_rfl
theorem tCells48 : Try.prog.cellsOf 48 = 3 := by kernel_rfl
theorem tCells111 : Try.prog.cellsOf 111 = 2 := by kernel_rfl
theorem tBytes3 : Try.prog.bytesOf 3 = 8 := by kernel_rfl
theorem tBytes48 : Try.prog.bytesOf 48 = 40 := by kernel_rfl
theorem tBytes111 : Try.prog.bytesOf 111 = 16 := by kernel_rfl

theorem row_take {w : World} {b off : Nat} {l : List Int} (h : Row w b off l) (n : Nat) : Row w b off (l.take n) := by
  intro j hj
  rw [List.length_take] at hj
  rw [h j (by omega)]
  simp only [List.getD]
  rw [List.getElem?_take_of_lt (by omega)]

theorem len3 {cs : List Value} (h : cs.length = 3) : ∃ a b c, cs = [a, b, c] := by
  match cs, h with
  | [a, b, c], _ => exact ⟨a, b, c, rfl⟩
theorem len2c {cs : List Value} (h : cs.length = 2) : ∃ a b, cs = [a, b] := by
  match cs, h with
  | [a, b], _ => exact ⟨a, b, rfl⟩

section
variable {H : Type} {enc : TypeId × Value → H} {W : World} {fuel : Nat} {cs : List Value} {x : DataW H × List MemPlace}

theorem open_num (h : DataW.trod enc Try.prog W 0 (fun _ => true) true fuel 3 cs = some x) : ∃ n : Int, cs = [.int .i64 n] ∧ I64 n := by
  obtain ⟨n, hcs, _, hw⟩ := DataW.trod_int Try.underlying3 h
  exact ⟨n, hcs, bounds_i64 hw⟩

theorem open_seal (h : DataW.trod enc Try.prog W 0 (fun _ => true) true fuel 30 cs = some x) (hw : ∀ k ∈ x.1.weights Try.prog 30, k ≤ reachBytes) :
    ∃ ao n c l, cs = [.slice ao n c] ∧ IntsAt W ao l ∧ l.length = n ∧ n ≤ 17592186044416 ∧ (ao = none → c = 0) ∧ ∀ z ∈ l, I64 z := by
  rcases open_ints Try.underlying30 Try.underlying3 tCells3 h with ⟨hcs, _⟩ | ⟨a, len, cap, zs, hcs, _, hl, hm, hz, hx, hcell, hwz⟩
  · exact ⟨none, 0, 0, [], hcs, Or.inl rfl, rfl, by omega, fun _ => rfl, fun z hz => by cases hz⟩
  · have hz' : zs.length = cap := by simpa using hz
    have hr : (zs.take len).length * 8 + (zs.drop len).length * 8 ≤ reachBytes := by
      have := hw (((zs.take len).length + (zs.drop len).length) * 8) (by
        rw [hx]
        simp only [DataW.weights, Try.underlying30, tBytes3, lits, List.length_map]
        exact List.mem_cons_self)
      omega
    rw [List.length_take, List.length_drop] at hr
    simp only [reachBytes] at hr
    refine ⟨some a, len, cap, zs.take len, hcs, ?_, by rw [List.length_take]; omega, by omega, fun h => (by cases h), fun z hz => bounds_i64 (hwz z (List.mem_of_mem_take hz))⟩
    by_cases h0 : zs.length = 0
    · have : zs = [] := List.length_eq_zero_iff.1 h0
      subst this
      exact Or.inl (by simp)
    · obtain ⟨b, off, rfl, hc⟩ := ints_at hcell (by omega)
      exact Or.inr ⟨b, off, rfl, row_take hc _⟩

structure In64 (x : InD) : Prop where
  id : I64 x.id
  pos : I64 x.pos
  l : ∀ z ∈ x.l, I64 z

theorem open_in (h : DataW.trod enc Try.prog W 0 (fun _ => true) true fuel 48 cs = some x) (hw : ∀ k ∈ x.1.weights Try.prog 48, k ≤ reachBytes) :
    ∃ y : InD, cs = [.int .i64 y.id, .int .i64 y.pos, .slice y.ao y.n y.c] ∧ InOk W y ∧ In64 y := by
  obtain ⟨y0, y1, y2, n, hx, hlen, h0, h1, h2⟩ := Go.Deep.trod_struct3 Try.underlying48 h
  rw [tCells48] at hlen
  obtain ⟨a, b, c, rfl⟩ := len3 hlen
  simp only [tCells3, tCells30, List.drop, List.take] at h0 h1 h2
  obtain ⟨i, hi, bi⟩ := open_num h0
  obtain ⟨p, hp, bp⟩ := open_num h1
  obtain ⟨ao, m, cp, l, hs, hat, hl, hm, hnil, bl⟩ := open_seal h2 (fun k hk => hw k (by
    rw [hx]
    simp only [DataW.weights, Try.underlying48, List.map, DataW.weightsEach, List.append_nil]
    exact List.mem_append_right _ (List.mem_append_right _ hk)))
  cases hi
  cases hp
  cases hs
  exact ⟨⟨i, p, ao, m, cp, l⟩, rfl, ⟨hat, hl, hm, hnil⟩, ⟨bi, bp, bl⟩⟩

theorem open_out (h : DataW.trod enc Try.prog W 0 (fun _ => true) true fuel 111 cs = some x) : ∃ y : Int × Int, cs = [.int .i64 y.1, .int .i64 y.2] ∧ I64 y.1 ∧ I64 y.2 := by
  obtain ⟨y0, y1, n, _, hlen, h0, h1⟩ := trod_struct2 Try.underlying111 h
  rw [tCells111] at hlen
  obtain ⟨a, b, rfl⟩ := len2c hlen
  simp only [tCells3, List.drop, List.take] at h0 h1
  obtain ⟨i, hi, bi⟩ := open_num h0
  obtain ⟨p, hp, bp⟩ := open_num h1
  cases hi
  cases hp
  exact ⟨(i, p), rfl, bi, bp⟩
end

theorem choose_upto {α : Type} (d : α) {n : Nat} {p : Nat → α → Prop} (h : ∀ i, i < n → ∃ x, p i x) : ∃ l : List α, l.length = n ∧ ∀ i, i < n → p i (l.getD i d) := by
  refine ⟨(List.range n).map fun i => if hi : i < n then Classical.choose (h i hi) else d, by simp, fun i hi => ?_⟩
  have e : ((List.range n).map fun i => if hi : i < n then Classical.choose (h i hi) else d).getD i d = Classical.choose (h i hi) := by
    simp [List.getD, hi]
  rw [e]
  exact Classical.choose_spec (h i hi)

theorem weights_in {H : Type} {P : Program} {e : TypeId} {l : List (DataW H)} {d : DataW H} (h : d ∈ l) : ∀ k ∈ d.weights P e, k ∈ DataW.weightsAll P e l := by
  induction l with
  | nil => cases h
  | cons y r ih =>
    intro k hk
    simp only [DataW.weightsAll]
    rcases List.mem_cons.1 h with e' | e'
    · subst e'; exact List.mem_append_left _ hk
    · exact List.mem_append_right _ (ih e' k hk)

/-- cells of a plain address -/
theorem cells_at {W : World} {a : Addr} {n : Nat} {cs : List Value} (h : W.cells? 0 a n = some cs) (hn : 0 < n) : a.spot = none ∧ ∀ i, i < n → W.cell? ⟨a.block, a.off + i, none⟩ = cs[i]? := by
  obtain ⟨_, hl, hc⟩ := World.cells?_some h
  obtain ⟨b, off, spot⟩ := a
  have hs : spot = none := by
    have h0 := hc 0 hn
    have : (W.cell? ((⟨b, off, spot⟩ : Addr).add 0)) = some (cs[0]'(by omega)) := by rw [h0]; exact List.getElem?_eq_getElem _
    simpa [Addr.add] using World.cell?_spot this
  subst hs
  exact ⟨rfl, fun i hi => by have := hc i hi; rw [add_plain] at this; exact this⟩

section
variable {H : Type} {enc : TypeId × Value → H} {W : World} {fuel : Nat} {cs : List Value} {x : DataW H × List MemPlace}

theorem open_insL (h : DataW.trod enc Try.prog W 0 (fun _ => true) true fuel 22 cs = some x) (hw : ∀ k ∈ x.1.weights Try.prog 22, k ≤ reachBytes) :
    ∃ ao n c xs, cs = [.slice ao n c] ∧ InsAt W ao xs ∧ xs.length = n ∧ n ≤ 3518437208883 ∧ (ao = none → c = 0) ∧ ∀ j, j < n → In64 (xs.getD j dIn) := by
  rcases Go.Deep.open_slice Try.underlying22 h with ⟨hcs, _⟩ | ⟨a, len, cap, m, n, D, Pl, hcs, _, hl, hm, hmm, hx, hel⟩
  · exact ⟨none, 0, 0, [], hcs, Or.inl rfl, rfl, by omega, fun _ => rfl, fun j hj => by omega⟩
  · have hmm' : m = cap := by simpa using hmm
    have hr : len * 40 ≤ reachBytes := by
      have := hw ((((List.range len).map D).length + ((List.range (m - len)).map fun j => D (len + j)).length) * 40) (by
        rw [hx]
        simp only [DataW.weights, Try.underlying22, tBytes48]
        exact List.mem_cons_self)
      simp only [List.length_map, List.length_range] at this
      omega
    simp only [reachBytes] at hr
    rw [tCells48] at hel
    have each : ∀ i, i < len → ∃ y : InD, (W.cells? 0 (a.add (i * 3)) 3 = some [.int .i64 y.id, .int .i64 y.pos, .slice y.ao y.n y.c]) ∧ InOk W y ∧ In64 y := by
      intro i hi
      obtain ⟨cs', hc, ht⟩ := hel i (by omega)
      obtain ⟨y, rfl, hok, h64⟩ := open_in ht (fun k hk => hw k (by
        rw [hx]
        simp only [DataW.weights, Try.underlying22]
        exact List.mem_cons_of_mem _ (List.mem_append_left _ (weights_in (List.mem_map.2 ⟨i, List.mem_range.2 hi, rfl⟩) k hk))))
      exact ⟨y, hc, hok, h64⟩
    obtain ⟨xs, hxl, hxs⟩ := choose_upto dIn each
    refine ⟨some a, len, cap, xs, hcs, ?_, hxl, by omega, fun h => (by cases h), fun j hj => (hxs j hj).2.2⟩
    by_cases h0 : len = 0
    · exact Or.inl (List.length_eq_zero_iff.1 (by omega))
    · have ha : a.spot = none := by
        have := (cells_at (hxs 0 (by omega)).1 (by omega)).1
        simpa [Addr.add] using this
      obtain ⟨b, off, spot⟩ := a
      simp only at ha
      subst ha
      refine Or.inr ⟨b, off, rfl, fun j hj => ?_⟩
      obtain ⟨hc, hok, _⟩ := hxs j (by omega)
      obtain ⟨_, hcc⟩ := cells_at hc (by omega)
      rw [add_plain] at hcc
      simp only at hcc
      exact ⟨⟨by simpa using hcc 0 (by omega), by simpa using hcc 1 (by omega), by simpa using hcc 2 (by omega)⟩, hok⟩

theorem open_outsL (h : DataW.trod enc Try.prog W 0 (fun _ => true) true fuel 23 cs = some x) (hw : ∀ k ∈ x.1.weights Try.prog 23, k ≤ reachBytes) :
    ∃ ao n c ys, cs = [.slice ao n c] ∧ OutsAt W ao ys ∧ ys.length = n ∧ n ≤ 8796093022208 ∧ (ao = none → c = 0) ∧ ∀ j, j < n → I64 (ys.getD j (0, 0)).1 ∧ I64 (ys.getD j (0, 0)).2 := by
  rcases Go.Deep.open_slice Try.underlying23 h with ⟨hcs, _⟩ | ⟨a, len, cap, m, n, D, Pl, hcs, _, hl, hm, hmm, hx, hel⟩
  · exact ⟨none, 0, 0, [], hcs, Or.inl rfl, rfl, by omega, fun _ => rfl, fun j hj => by omega⟩
  · have hmm' : m = cap := by simpa using hmm
    have hr : len * 16 ≤ reachBytes := by
      have := hw ((((List.range len).map D).length + ((List.range (m - len)).map fun j => D (len + j)).length) * 16) (by
        rw [hx]
        simp only [DataW.weights, Try.underlying23, tBytes111]
        exact List.mem_cons_self)
      simp only [List.length_map, List.length_range] at this
      omega
    simp only [reachBytes] at hr
    rw [tCells111] at hel
    have each : ∀ i, i < len → ∃ y : Int × Int, (W.cells? 0 (a.add (i * 2)) 2 = some [.int .i64 y.1, .int .i64 y.2]) ∧ I64 y.1 ∧ I64 y.2 := by
      intro i hi
      obtain ⟨cs', hc, ht⟩ := hel i (by omega)
      obtain ⟨y, rfl, h64⟩ := open_out ht
      exact ⟨y, hc, h64⟩
    obtain ⟨ys, hyl, hys⟩ := choose_upto (0, 0) each
    refine ⟨some a, len, cap, ys, hcs, ?_, hyl, by omega, fun h => (by cases h), fun j hj => (hys j hj).2⟩
    by_cases h0 : len = 0
    · exact Or.inl (List.length_eq_zero_iff.1 (by omega))
    · have ha : a.spot = none := by
        have := (cells_at (hys 0 (by omega)).1 (by omega)).1
        simpa [Addr.add] using this
      obtain ⟨b, off, spot⟩ := a
      simp only at ha
      subst ha
      refine Or.inr ⟨b, off, rfl, fun j hj => ?_⟩
      obtain ⟨hc, _⟩ := hys j (by omega)
      obtain ⟨_, hcc⟩ := cells_at hc (by omega)
      rw [add_plain] at hcc
      simp only at hcc
      exact ⟨by simpa using hcc 0 (by omega), by simpa using hcc 1 (by omega)⟩
end

set_option maxRecDepth 100000 in
theorem open_tx {H : Type} {enc : TypeId × Value → H} {W : World} {r : Reach} {b0 : Nat} {v : Value} {d : DataW H} {p : List MemPlace} (hv : Value.okWide Try.prog W r b0 25 v) (h : DataW.Trod enc Try.prog W 0 (fun _ => true) true 25 v d p) (hw : ∀ k ∈ d.weights Try.prog 25, k ≤ reachBytes) :
    ∃ t ai n c ap m e xs ys, v = .agg #[.int .i64 t, .slice ai n c, .slice ap m e] ∧ I64 t ∧ InsAt W ai xs ∧ xs.length = n ∧ n ≤ 3518437208883 ∧ (∀ j, j < n → In64 (xs.getD j dIn)) ∧
      OutsAt W ap ys ∧ ys.length = m ∧ m ≤ 8796093022208 ∧ (ap = none → e = 0) ∧ ∀ j, j < m → I64 (ys.getD j (0, 0)).1 ∧ I64 (ys.getD j (0, 0)).2 := by
  obtain ⟨v0, v1, v2, y0, y1, y2, n, rfl, rfl, rfl, h0, h1, h2⟩ := Go.Joins.open_agg3 Try.underlying25 (by kernel_rfl) tCells25 hv h
  obtain ⟨t, ht, bt⟩ := open_num h0
  obtain ⟨ai, ni, ci, xs, hi, hx, hxl, hxs, _, hx64⟩ := open_insL h1 (fun k hk => hw k (by
    simp only [DataW.weights, Try.underlying25, List.map, DataW.weightsEach, List.append_nil]
    exact List.mem_append_right _ (List.mem_append_left _ hk)))
  obtain ⟨ap, m, e, ys, ho, hy, hyl, hys, hnil, hy64⟩ := open_outsL h2 (fun k hk => hw k (by
    simp only [DataW.weights, Try.underlying25, List.map, DataW.weightsEach, List.append_nil]
    exact List.mem_append_right _ (List.mem_append_right _ hk)))
  cases ht
  cases hi
  cases ho
  exact ⟨t, ai, ni, ci, ap, m, e, xs, ys, rfl, bt, hx, hxl, hxs, hx64, hy, hyl, hys, hnil, hy64⟩

end Go.Proofs.Ytffgpepngcnjeaa
