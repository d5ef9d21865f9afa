/-
  Tags: the transaction whose seals are turned, beside the other one.
-/
import Derived.Test.YtffgpepngcnjeaaTagG
namespace Go.Proofs.Ytffgpepngcnjeaa
open Go.RowKit

def Off3 (ao : Option Addr) (a b c : Nat) : Prop := Off ao (some a) ∧ Off ao (some b) ∧ Off ao (some c)
/-- the blocks from lo on, below hi, are as they were -/
def Mid (lo hi : Nat) (w w' : World) : Prop := ∀ k, lo ≤ k → k < hi → w'.heap[k]? = w.heap[k]?

theorem Mid.cell {lo hi : Nat} {w w' : World} (h : Mid lo hi w w') {b o : Nat} {v : Value} (hc : w.cell? ⟨b, o, none⟩ = some v) (h1 : lo ≤ b) (h2 : b < hi) : w'.cell? ⟨b, o, none⟩ = some v :=
  (World.cell?_of_block (a := ⟨b, o, none⟩) (h b h1 h2)).trans hc
/-- what could be read in w, in blocks from lo on, can be read where those are as they were -/
theorem Reads.mid {w w' : World} {lo : Nat} {ai ap : Option Addr} {xs : List InD} {ys : List (Int × Int)} (hr : Reads w lo ai xs ap ys) (hm : Mid lo w.heap.size w w') : InsAt w' ai xs ∧ OutsAt w' ap ys := by
  refine ⟨?_, ?_⟩
  · rcases hr.ins with e | ⟨b, e, hb, hc⟩
    · exact Or.inl e
    · refine Or.inr ⟨b, 0, e, fun j hj => ?_⟩
      rw [Nat.zero_add]
      have hcc := hc j hj
      obtain ⟨hok, hbs⟩ := hr.seals j hj
      refine ⟨⟨hm.cell hcc.c0 hb (cell_lt hcc.c0), hm.cell hcc.c1 hb (cell_lt hcc.c1), hm.cell hcc.c2 hb (cell_lt hcc.c2)⟩, ?_, hok.len, hok.sz, hok.nil⟩
      rcases hok.lies with el | ⟨sb, so, es, hrow⟩
      · exact Or.inl el
      · exact Or.inr ⟨sb, so, es, fun q hq => hm.cell (hrow q hq) (hbs _ es) (cell_lt (hrow q hq))⟩
  · rcases hr.outs with e | ⟨b, e, hb, hc⟩
    · exact Or.inl e
    · exact Or.inr ⟨b, 0, e, fun j hj => ⟨hm.cell (hc j hj).1 hb (cell_lt (hc j hj).1), hm.cell (hc j hj).2 hb (cell_lt (hc j hj).2)⟩⟩

structure XInv (w0 w3 : World) (B lo gi XB YB : Nat) (zs : List InD) (us : List (Int × Int)) (apo : Option Addr) (T : Int) (vi vo : Value) (t2 : Int) (vi2 vo2 : Value) (zs' : List InD) (wr : World) : Prop where
  len : zs'.length = zs.length
  num : ∀ j, j < zs.length → (zs'.getD j dIn).id = (zs.getD j dIn).id ∧ (zs'.getD j dIn).pos = (zs.getD j dIn).pos ∧ rIn (zs'.getD j dIn) = true
  cells : ∀ j, j < zs.length → InCells wr gi (j * 3) (zs'.getD j dIn) ∧ InOk wr (zs'.getD j dIn) ∧ Off3 (zs'.getD j dIn).ao gi XB YB
  fro : 0 < zs.length → ∀ j, wr.frozen? ⟨gi, j, none⟩ = false
  outs : OutsAt wr apo us ∧ Off3 apo gi XB YB
  tx : Tx3 wr XB (.int .i64 T) vi vo
  ty : Tx3 wr YB (.int .i64 t2) vi2 vo2
  mid : Mid lo YB w3 wr
  bel : Below B w0 wr
  lt : YB < wr.heap.size

section
variable {w0 w3 : World} {B lo gi XB YB : Nat} {zs : List InD} {us : List (Int × Int)} {apo : Option Addr} {T : Int} {vi vo : Value} {t2 : Int} {vi2 vo2 : Value} {zs' : List InD} {wr : World}

theorem XInv.grow (h : XInv w0 w3 B lo gi XB YB zs us apo T vi vo t2 vi2 vo2 zs' wr) {w' : World} (hb : Below wr.heap.size wr w') (hB : B ≤ wr.heap.size) : XInv w0 w3 B lo gi XB YB zs us apo T vi vo t2 vi2 vo2 zs' w' := by
  refine ⟨h.len, h.num, fun j hj => ?_, fun hp j => ?_, ⟨h.outs.1.grown hb, h.outs.2⟩, h.tx.grown hb, h.ty.grown hb, fun k h1 h2 => (hb.block k (by have := h.lt; omega)).trans (h.mid k h1 h2), h.bel.trans (hb.mono hB), Nat.lt_of_lt_of_le h.lt hb.size⟩
  · obtain ⟨a, b, c⟩ := h.cells j hj
    exact ⟨a.below hb (cell_lt a.c0), b.grown hb, c⟩
  · obtain ⟨a, _, _⟩ := h.cells 0 hp
    have hl : gi < wr.heap.size := cell_lt a.c0
    exact (hb.frozen (p := ⟨gi, j, none⟩) hl).trans (h.fro hp j)

/-- the seal of an input turned -/
theorem XInv.seal (h : XInv w0 w3 B lo gi XB YB zs us apo T vi vo t2 vi2 vo2 zs' wr) (i : Nat) (hi : i < zs.length) (y : InD) (hy1 : y.id = (zs'.getD i dIn).id) (hy2 : y.pos = (zs'.getD i dIn).pos) (hy3 : rIn y = true) (hy4 : InOk wr y) (hy5 : Off3 y.ao gi XB YB)
    (g1 : gi < XB) (g2 : XB < YB) (g3 : gi < lo) (g4 : B ≤ gi) :
    XInv w0 w3 B lo gi XB YB zs us apo T vi vo t2 vi2 vo2 (zs'.set i y) (wr.setCell ⟨gi, i * 3 + 2, none⟩ (.slice y.ao y.n y.c)) := by
  have hset := gb_set wr gi (i * 3 + 2) (.slice y.ao y.n y.c)
  have hl := h.len
  have hgd : ∀ j, (zs'.set i y).getD j dIn = if j = i then y else zs'.getD j dIn := fun j => getD_set zs' i j y dIn (by omega)
  refine ⟨by rw [List.length_set]; exact hl, fun j hj => ?_, fun j hj => ?_, fun hp j => ?_, ⟨?_, h.outs.2⟩, h.tx.gb hset (fun e => by injection e with e; omega), h.ty.gb hset (fun e => by injection e with e; omega), fun k h1 h2 => ?_, h.bel.setCell g4 _, by rw [World.size_setCell]; exact h.lt⟩
  · rw [hgd]
    by_cases e : j = i
    · subst e
      rw [if_pos rfl, hy1, hy2]
      exact ⟨(h.num j hj).1, (h.num j hj).2.1, hy3⟩
    · rw [if_neg e]
      exact h.num j hj
  · rw [hgd]
    obtain ⟨a, b, c⟩ := h.cells j hj
    have keep : ∀ q, j * 3 + q ≠ i * 3 + 2 → (wr.setCell ⟨gi, i * 3 + 2, none⟩ (.slice y.ao y.n y.c)).cell? ⟨gi, j * 3 + q, none⟩ = wr.cell? ⟨gi, j * 3 + q, none⟩ := fun q hne => World.cell?_setCell_other _ _ _ _ (ne_off (fun e => hne e.symm))
    have k0 := keep 0
    rw [Nat.add_zero] at k0
    by_cases e : j = i
    · subst e
      rw [if_pos rfl]
      refine ⟨⟨?_, ?_, World.cell?_setCell_same _ _ _ a.c2⟩, gb_ok hset hy4 hy5.1, hy5⟩
      · rw [k0 (by omega), hy1]; exact a.c0
      · rw [keep 1 (by omega), hy2]; exact a.c1
    · rw [if_neg e]
      exact ⟨⟨by rw [k0 (by omega)]; exact a.c0, by rw [keep 1 (by omega)]; exact a.c1, by rw [keep 2 (by omega)]; exact a.c2⟩, gb_ok hset b c.1, c⟩
  · rw [World.frozen?_setCell]; exact h.fro hp j
  · rcases h.outs.1 with e | ⟨b, off, e, hr⟩
    · exact Or.inl e
    · exact Or.inr ⟨b, off, e, gb_outs hset hr (h.outs.2.1 _ e)⟩
  · rw [Below.heap_setCell wr ⟨gi, i * 3 + 2, none⟩ _ k (by simp only; omega)]
    exact h.mid k h1 h2

theorem XInv.insAt (h : XInv w0 w3 B lo gi XB YB zs us apo T vi vo t2 vi2 vo2 zs' wr) {aio : Option Addr} (ha : 0 < zs.length → aio = some ⟨gi, 0, none⟩) : InsAt wr aio zs' := by
  by_cases e : zs' = []
  · exact Or.inl e
  · have hp : 0 < zs.length := by rw [← h.len]; exact List.length_pos_iff.2 e
    refine Or.inr ⟨gi, 0, ha hp, fun j hj => ?_⟩
    rw [h.len] at hj
    rw [Nat.zero_add]
    exact ⟨(h.cells j hj).1, (h.cells j hj).2.1⟩
/-- another number in the cell of the tag, or of the outputs: the lists stand as they did -/
theorem XInv.lists (h : XInv w0 w3 B lo gi XB YB zs us apo T vi vo t2 vi2 vo2 zs' wr) {aio : Option Addr} (ha : 0 < zs.length → aio = some ⟨gi, 0, none⟩) (q o : Nat) (hq : q = XB ∨ q = YB) (g1 : 0 < zs.length → gi < XB) (g2 : XB < YB) (v : Value) : InsAt (wr.setCell ⟨q, o, none⟩ v) aio zs' ∧ OutsAt (wr.setCell ⟨q, o, none⟩ v) apo us := by
  have hset := gb_set wr q o v
  have off : ∀ {ao : Option Addr}, Off3 ao gi XB YB → Off ao (some q) := by
    intro ao hx
    rcases hq with e | e
    · rw [e]; exact hx.2.1
    · rw [e]; exact hx.2.2
  refine ⟨?_, ?_⟩
  · by_cases e : zs' = []
    · exact Or.inl e
    · have hp : 0 < zs.length := by rw [← h.len]; exact List.length_pos_iff.2 e
      have hg := g1 hp
      have hne : some gi ≠ some q := fun e => by injection e with e; rcases hq with rfl | rfl <;> omega
      refine Or.inr ⟨gi, 0, ha hp, fun j hj => ?_⟩
      rw [h.len] at hj
      rw [Nat.zero_add]
      obtain ⟨a, b, c⟩ := h.cells j hj
      exact ⟨⟨gb_cell hset a.c0 hne, gb_cell hset a.c1 hne, gb_cell hset a.c2 hne⟩, gb_ok hset b (off c)⟩
  · rcases h.outs.1 with e | ⟨b, off', e, hr⟩
    · exact Or.inl e
    · exact Or.inr ⟨b, off', e, gb_outs hset hr (off h.outs.2 _ e)⟩
theorem XInv.id (h : XInv w0 w3 B lo gi XB YB zs us apo T vi vo t2 vi2 vo2 zs' wr) (hr : rTx T zs us = true) : idZ T zs' us = Mk.mixL 1 (idL T zs us) := by
  have hin : inL zs' = inL zs := by
    have e1 := by_idx zs dIn
    have e2 := by_idx zs' dIn
    rw [e1, e2]
    unfold inL
    rw [List.flatMap_map, List.flatMap_map, h.len]
    apply Go.Deep.flatMap_congr_range
    intro j hj
    obtain ⟨a, b, _⟩ := h.num j hj
    rw [a, b]
  have hall : zs'.all rIn = true := by
    rw [List.all_eq_true]
    intro x hx
    obtain ⟨j, hj, rfl⟩ := List.mem_iff_getElem.1 hx
    have := (h.num j (by rw [← h.len]; exact hj)).2.2
    simpa [List.getD, hj] using this
  have hr2 : rTx T zs' us = true := by
    simp only [rTx, rIns, rOuts, Bool.and_eq_true, decide_eq_true_iff] at hr ⊢
    exact ⟨hr.1, ⟨by rw [h.len]; exact hr.2.1.1, hall⟩, hr.2.2⟩
  unfold idZ
  rw [if_pos hr2]
  unfold idL
  rw [h.len, hin]
end

theorem id_true {t : Int} {xs : List InD} {ys : List (Int × Int)} (h : rTx t xs ys = true) : idZ t xs ys = Mk.mixL 1 (idL t xs ys) := by
  unfold idZ
  rw [if_pos h]
theorem id_tagless (xs : List InD) (ys : List (Int × Int)) : idZ (-1) xs ys = 0 := by
  unfold idZ
  rw [if_neg]
  simp [rTx]
theorem id_outless (t : Int) (xs : List InD) : idZ t xs [] = 0 := by
  unfold idZ
  rw [if_neg]
  simp [rTx, rOuts]

/-- at the start of the loops: both transactions stand in memory, each in its own lists -/
theorem XInv.start {w0 w1 w2 w3 w4 : World} {B : Nat} {zs : List InD} {us : List (Int × Int)} {aio apo : Option Addr} {n ci m dd : Nat} {T : Int} {t2 : Int} {vi2 vo2 : Value} {gi : Nat}
    (hf : Fresh w1 B (.slice aio n ci) (.slice apo m dd) (fun _ x => rIn x = true) zs us) (hm : 1 ≤ us.length) (hgi : 0 < zs.length → aio = some ⟨gi, 0, none⟩) (hg0 : zs.length = 0 → gi = w1.heap.size)
    (hb1 : Below B w0 w1) (hB1 : B ≤ w1.heap.size) (hb2 : Below (w1.alloc (.cells #[.int .i64 T, .slice aio n ci, .slice apo m dd] 25)).heap.size (w1.alloc (.cells #[.int .i64 T, .slice aio n ci, .slice apo m dd] 25)) w2)
    (hb3 : Below w2.heap.size w2 w3) (hb4 : Below (w3.alloc (.cells #[.int .i64 t2, vi2, vo2] 25)).heap.size (w3.alloc (.cells #[.int .i64 t2, vi2, vo2] 25)) w4) :
    XInv w0 w3 B w2.heap.size gi w1.heap.size w3.heap.size zs us apo T (.slice aio n ci) (.slice apo m dd) t2 vi2 vo2 zs w4 := by
  have s2 := hb2.size
  have s3 := hb3.size
  have s4 := hb4.size
  rw [World.size_alloc] at s2 s4
  have hA : Below w1.heap.size w1 (w1.alloc (.cells #[.int .i64 T, .slice aio n ci, .slice apo m dd] 25)) := (Below.refl _ _).alloc (Nat.le_refl _) _
  have hC : Below w3.heap.size w3 (w3.alloc (.cells #[.int .i64 t2, vi2, vo2] 25)) := (Below.refl _ _).alloc (Nat.le_refl _) _
  have h14 : Below w1.heap.size w1 w4 := (((hA.trans (hb2.mono (by rw [World.size_alloc]; omega))).trans (hb3.mono (by omega))).trans (hC.mono (by omega))).trans (hb4.mono (by rw [World.size_alloc]; omega))
  have h34 : Below w3.heap.size w3 w4 := hC.trans (hb4.mono (by rw [World.size_alloc]; omega))
  have hf4 := hf.grown h14
  have hout : ∃ go, apo = some ⟨go, 0, none⟩ ∧ go < w1.heap.size ∧ OutsRow w4 go 0 us := by
    rcases hf.outs.cells with ⟨_, h2⟩ | ⟨g, c', h1, h2, h3, h4, _⟩
    · rw [h2] at hm; simp at hm
    · injection h1 with e1 e2 e3
      exact ⟨g, e1, h3, h4.grown h14⟩
  obtain ⟨go, rfl, hgo, hor⟩ := hout
  have hblk : ∀ j, j < zs.length → ∀ a, (zs.getD j dIn).ao = some a → a.block < w1.heap.size := fun j hj a ha => ((hf.ok j hj).2.2 a ha).2.1
  have hig : 0 < zs.length → gi < w1.heap.size ∧ (∀ j, j < zs.length → InCells w4 gi (j * 3) (zs.getD j dIn)) ∧ (∀ j, w4.frozen? ⟨gi, j, none⟩ = false) := by
    intro hp
    rcases hf4.ins.cells with ⟨_, h2⟩ | ⟨g, c', h1, h2, h3, h4, h5⟩
    · rw [h2] at hp; simp at hp
    · injection h1 with e1 e2 e3
      rw [hgi hp] at e1
      injection e1 with e1
      injection e1 with e1
      subst e1
      refine ⟨?_, h4, h5⟩
      have := owns_blk hf.ins gi (by rw [hgi hp]; rfl)
      exact this.2
  refine ⟨rfl, fun j hj => ⟨rfl, rfl, (hf.ok j hj).2.1⟩, fun j hj => ?_, fun hp => (hig hp).2.2, ⟨Or.inr ⟨go, 0, rfl, hor⟩, ?_⟩, ?_, ?_, fun k _ h2 => h34.block k h2, hb1.trans (h14.mono hB1), by omega⟩
  · have hp : 0 < zs.length := by omega
    refine ⟨(hig hp).2.1 j hj, (hf4.ok j hj).1, fun a ha e => ?_, fun a ha e => ?_, fun a ha e => ?_⟩
    · have := ((hf.ok j hj).2.2 a ha).2.2
      rw [hgi hp] at this
      exact this e
    · injection e with e; have := hblk j hj a ha; omega
    · injection e with e; have := hblk j hj a ha; omega
  · refine ⟨fun a ha e => ?_, fun a ha e => ?_, fun a ha e => ?_⟩
    · injection ha with ha
      subst ha
      simp only at e
      injection e with e
      by_cases hp : 0 < zs.length
      · have := (hf.apart go rfl).1
        rw [hgi hp] at this
        exact this (by rw [e]; rfl)
      · have := hg0 (by omega)
        omega
    · injection ha with ha; subst ha; simp only at e; injection e with e; omega
    · injection ha with ha; subst ha; simp only at e; injection e with e; omega
  · have t1 := Tx3.new w1 (.int .i64 T) (.slice aio n ci) (.slice (some ⟨go, 0, none⟩) m dd) 25
    have t3 := (t1.grown hb2).grown hb3
    exact (t3.grown hC).grown hb4
  · exact (Tx3.new w3 (.int .i64 t2) vi2 vo2 25).grown hb4

end Go.Proofs.Ytffgpepngcnjeaa
