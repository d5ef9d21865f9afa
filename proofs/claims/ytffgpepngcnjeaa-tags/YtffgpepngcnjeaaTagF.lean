/-
  A transaction that can be read, in blocks from some number on; one number of it turned.
-/
import Derived.Test.YtffgpepngcnjeaaTagB
import Derived.Test.YtffgpepngcnjeaaMix
namespace Go.Proofs.Ytffgpepngcnjeaa
open Go.RowKit

structure Reads (w : World) (base : Nat) (ai : Option Addr) (xs : List InD) (ap : Option Addr) (ys : List (Int × Int)) : Prop where
  ins : xs = [] ∨ ∃ b, ai = some ⟨b, 0, none⟩ ∧ base ≤ b ∧ ∀ j, j < xs.length → InCells w b (j * 3) (xs.getD j dIn)
  seals : ∀ j, j < xs.length → InOk w (xs.getD j dIn) ∧ ∀ a, (xs.getD j dIn).ao = some a → base ≤ a.block
  outs : ys = [] ∨ ∃ b, ap = some ⟨b, 0, none⟩ ∧ base ≤ b ∧ OutsRow w b 0 ys

theorem Reads.gb {w w' : World} {row : Option Nat} (h : w.grownBy w' row) {base : Nat} {ai ap : Option Addr} {xs : List InD} {ys : List (Int × Int)} (hr : Reads w base ai xs ap ys) (hk : ∀ k, row = some k → k < base) : Reads w' base ai xs ap ys := by
  have off : ∀ b, base ≤ b → some b ≠ row := fun b hb e => by have := hk b e.symm; omega
  refine ⟨?_, fun j hj => ⟨gb_ok h (hr.seals j hj).1 (fun a ha => off _ ((hr.seals j hj).2 a ha)), (hr.seals j hj).2⟩, ?_⟩
  · rcases hr.ins with e | ⟨b, e, hb, hc⟩
    · exact Or.inl e
    · exact Or.inr ⟨b, e, hb, fun j hj => ⟨gb_cell h (hc j hj).c0 (off b hb), gb_cell h (hc j hj).c1 (off b hb), gb_cell h (hc j hj).c2 (off b hb)⟩⟩
  · rcases hr.outs with e | ⟨b, e, hb, hc⟩
    · exact Or.inl e
    · exact Or.inr ⟨b, e, hb, gb_outs h hc (off b hb)⟩
theorem Reads.lower {w : World} {base B : Nat} {ai ap : Option Addr} {xs : List InD} {ys : List (Int × Int)} (hr : Reads w base ai xs ap ys) (hB : B ≤ base) : Reads w B ai xs ap ys := by
  refine ⟨?_, fun j hj => ⟨(hr.seals j hj).1, fun a ha => Nat.le_trans hB ((hr.seals j hj).2 a ha)⟩, ?_⟩
  · rcases hr.ins with e | ⟨b, e, hb, hc⟩
    · exact Or.inl e
    · exact Or.inr ⟨b, e, Nat.le_trans hB hb, hc⟩
  · rcases hr.outs with e | ⟨b, e, hb, hc⟩
    · exact Or.inl e
    · exact Or.inr ⟨b, e, Nat.le_trans hB hb, hc⟩
theorem Reads.insAt {w : World} {base : Nat} {ai ap : Option Addr} {xs : List InD} {ys : List (Int × Int)} (hr : Reads w base ai xs ap ys) : InsAt w ai xs := by
  rcases hr.ins with e | ⟨b, e, hb, hc⟩
  · exact Or.inl e
  · exact Or.inr ⟨b, 0, e, fun j hj => ⟨by rw [Nat.zero_add]; exact hc j hj, (hr.seals j hj).1⟩⟩
theorem Reads.outsAt {w : World} {base : Nat} {ai ap : Option Addr} {xs : List InD} {ys : List (Int × Int)} (hr : Reads w base ai xs ap ys) : OutsAt w ap ys := by
  rcases hr.outs with e | ⟨b, e, hb, hc⟩
  · exact Or.inl e
  · exact Or.inr ⟨b, 0, e, hc⟩
theorem Fresh.reads' {w : World} {base : Nat} {ai ap : Option Addr} {n c m d : Nat} {Q : Nat → InD → Prop} {xs : List InD} {ys : List (Int × Int)} (hf : Fresh w base (.slice ai n c) (.slice ap m d) Q xs ys) : Reads w base ai xs ap ys := by
  refine ⟨?_, fun j hj => ⟨(hf.ok j hj).1, fun a ha => ((hf.ok j hj).2.2 a ha).1⟩, ?_⟩
  · rcases hf.ins.cells with ⟨_, h2⟩ | ⟨g, c', h1, h2, h3, h4, h5⟩
    · exact Or.inl h2
    · injection h1 with e1 e2 e3
      exact Or.inr ⟨g, e1, h2, h4⟩
  · rcases hf.outs.cells with ⟨_, h2⟩ | ⟨g, c', h1, h2, h3, h4, h5⟩
    · exact Or.inl h2
    · injection h1 with e1 e2 e3
      exact Or.inr ⟨g, e1, h2, h4⟩

theorem getD_set {α : Type} (l : List α) (i j : Nat) (x d : α) (hi : i < l.length) : (l.set i x).getD j d = if j = i then x else l.getD j d := by
  simp only [List.getD]
  by_cases e : j = i
  · subst e; simp [hi]
  · rw [if_neg e, List.getElem?_set_ne (by omega)]

/-- one cell of an input written: o is 0 (the id) or 1 (the number of the output) -/
theorem Fresh.setIn {w : World} {base g n c : Nat} {ap : Option Addr} {m d : Nat} {Q : Nat → InD → Prop} {xs : List InD} {ys : List (Int × Int)} (hf : Fresh w base (.slice (some ⟨g, 0, none⟩) n c) (.slice ap m d) Q xs ys) (i o : Nat) (hi : i < xs.length) (v : Int) (y : InD)
    (hy : (o = 0 ∧ y = { xs.getD i dIn with id := v }) ∨ (o = 1 ∧ y = { xs.getD i dIn with pos := v })) :
    Reads (w.setCell ⟨g, i * 3 + o, none⟩ (.int .i64 v)) base (some ⟨g, 0, none⟩) (xs.set i y) ap ys := by
  have hset := gb_set w g (i * 3 + o) (.int .i64 v)
  have hrow : (Value.slice (some ⟨g, 0, none⟩) n c).ownBlock = some g := rfl
  have hcells : ∀ j, j < xs.length → InCells w g (j * 3) (xs.getD j dIn) := by
    rcases hf.ins.cells with ⟨h1, _⟩ | ⟨g', c', h1, h2, h3, h4, h5⟩
    · injection h1 with e1; cases e1
    · injection h1 with e1 e2 e3
      injection e1 with e1
      injection e1 with e1
      subst e1
      exact h4
  have hb : base ≤ g := (owns_blk hf.ins g rfl).1
  have hyl : y.ao = (xs.getD i dIn).ao ∧ y.n = (xs.getD i dIn).n ∧ y.c = (xs.getD i dIn).c ∧ y.l = (xs.getD i dIn).l := by
    rcases hy with ⟨_, rfl⟩ | ⟨_, rfl⟩ <;> exact ⟨rfl, rfl, rfl, rfl⟩
  have hok : ∀ j, j < xs.length → InOk (w.setCell ⟨g, i * 3 + o, none⟩ (.int .i64 v)) (xs.getD j dIn) := fun j hj => gb_ok hset (hf.ok j hj).1 (fun a ha e => ((hf.ok j hj).2.2 a ha).2.2 (by rw [hrow]; exact e))
  refine ⟨Or.inr ⟨g, rfl, hb, fun j hj => ?_⟩, fun j hj => ?_, ?_⟩
  · rw [List.length_set] at hj
    rw [getD_set xs i j y dIn hi]
    have hc := hcells j hj
    have keep : ∀ q, q < 3 → j * 3 + q ≠ i * 3 + o → (w.setCell ⟨g, i * 3 + o, none⟩ (.int .i64 v)).cell? ⟨g, j * 3 + q, none⟩ = w.cell? ⟨g, j * 3 + q, none⟩ := fun q _ hne => World.cell?_setCell_other _ _ _ _ (ne_off (fun e => hne e.symm))
    have k0 := keep 0 (by decide)
    rw [Nat.add_zero] at k0
    by_cases e : j = i
    · subst e
      rw [if_pos rfl]
      rcases hy with ⟨rfl, rfl⟩ | ⟨rfl, rfl⟩
      · refine ⟨World.cell?_setCell_same _ _ _ hc.c0, ?_, ?_⟩
        · rw [keep 1 (by decide) (by omega)]; exact hc.c1
        · rw [keep 2 (by decide) (by omega)]; exact hc.c2
      · refine ⟨?_, World.cell?_setCell_same _ _ _ hc.c1, ?_⟩
        · rw [k0 (by omega)]; exact hc.c0
        · rw [keep 2 (by decide) (by omega)]; exact hc.c2
    · rw [if_neg e]
      have ho : o < 2 := by rcases hy with ⟨rfl, _⟩ | ⟨rfl, _⟩ <;> decide
      exact ⟨by rw [k0 (by omega)]; exact hc.c0, by rw [keep 1 (by decide) (by omega)]; exact hc.c1, by rw [keep 2 (by decide) (by omega)]; exact hc.c2⟩
  · rw [List.length_set] at hj
    rw [getD_set xs i j y dIn hi]
    by_cases e : j = i
    · subst e
      rw [if_pos rfl]
      obtain ⟨e1, e2, e3, e4⟩ := hyl
      have h := hok j hj
      refine ⟨⟨by rw [e1, e4]; exact h.lies, by rw [e2, e4]; exact h.len, by rw [e2]; exact h.sz, by rw [e1, e3]; exact h.nil⟩, fun a ha => ?_⟩
      rw [e1] at ha
      exact ((hf.ok j hj).2.2 a ha).1
    · rw [if_neg e]
      exact ⟨hok j hj, fun a ha => ((hf.ok j hj).2.2 a ha).1⟩
  · rcases hf.outs.cells with ⟨_, h2⟩ | ⟨g', c', h1, h2, h3, h4, h5⟩
    · exact Or.inl h2
    · injection h1 with e1 e2 e3
      subst e1
      exact Or.inr ⟨g', rfl, h2, gb_outs hset h4 (fun e => (hf.apart g' rfl).1 (by rw [hrow]; exact e))⟩

/-- one cell of an output written: o is 0 (the address) or 1 (the value) -/
theorem Fresh.setOut {w : World} {base g m d : Nat} {ai : Option Addr} {n c : Nat} {Q : Nat → InD → Prop} {xs : List InD} {ys : List (Int × Int)} (hf : Fresh w base (.slice ai n c) (.slice (some ⟨g, 0, none⟩) m d) Q xs ys) (i o : Nat) (hi : i < ys.length) (v : Int) (y : Int × Int)
    (hy : (o = 0 ∧ y = (v, (ys.getD i (0, 0)).2)) ∨ (o = 1 ∧ y = ((ys.getD i (0, 0)).1, v))) :
    Reads (w.setCell ⟨g, i * 2 + o, none⟩ (.int .i64 v)) base ai xs (some ⟨g, 0, none⟩) (ys.set i y) := by
  have hset := gb_set w g (i * 2 + o) (.int .i64 v)
  have hap := hf.apart g rfl
  have hcells : OutsRow w g 0 ys := by
    rcases hf.outs.cells with ⟨h1, _⟩ | ⟨g', c', h1, h2, h3, h4, h5⟩
    · injection h1 with e1; cases e1
    · injection h1 with e1 e2 e3
      injection e1 with e1
      injection e1 with e1
      subst e1
      exact h4
  have hb : base ≤ g := (owns_blk hf.outs g rfl).1
  refine ⟨?_, fun j hj => ⟨gb_ok hset (hf.ok j hj).1 (hap.2 j hj), fun a ha => ((hf.ok j hj).2.2 a ha).1⟩, Or.inr ⟨g, rfl, hb, fun j hj => ?_⟩⟩
  · rcases hf.ins.cells with ⟨_, h2⟩ | ⟨g', c', h1, h2, h3, h4, h5⟩
    · exact Or.inl h2
    · injection h1 with e1 e2 e3
      subst e1
      have hne : some g' ≠ some g := fun e => hap.1 (by rw [show (Value.slice (some (⟨g', 0, none⟩ : Addr)) n c).ownBlock = some g' from rfl]; exact e.symm)
      exact Or.inr ⟨g', rfl, h2, fun j hj => ⟨gb_cell hset (h4 j hj).c0 hne, gb_cell hset (h4 j hj).c1 hne, gb_cell hset (h4 j hj).c2 hne⟩⟩
  · rw [List.length_set] at hj
    rw [getD_set ys i j y (0, 0) hi, Nat.zero_add]
    have hc := hcells j hj
    rw [Nat.zero_add] at hc
    have keep : ∀ q, q < 2 → j * 2 + q ≠ i * 2 + o → (w.setCell ⟨g, i * 2 + o, none⟩ (.int .i64 v)).cell? ⟨g, j * 2 + q, none⟩ = w.cell? ⟨g, j * 2 + q, none⟩ := fun q _ hne => World.cell?_setCell_other _ _ _ _ (ne_off (fun e => hne e.symm))
    have k0 := keep 0 (by decide)
    rw [Nat.add_zero] at k0
    by_cases e : j = i
    · subst e
      rw [if_pos rfl]
      rcases hy with ⟨rfl, rfl⟩ | ⟨rfl, rfl⟩
      · exact ⟨World.cell?_setCell_same _ _ _ hc.1, by rw [keep 1 (by decide) (by omega)]; exact hc.2⟩
      · exact ⟨by rw [k0 (by omega)]; exact hc.1, World.cell?_setCell_same _ _ _ hc.2⟩
    · rw [if_neg e]
      have ho : o < 2 := by rcases hy with ⟨rfl, _⟩ | ⟨rfl, _⟩ <;> decide
      exact ⟨by rw [k0 (by omega)]; exact hc.1, by rw [keep 1 (by decide) (by omega)]; exact hc.2⟩

set_option maxRecDepth 100000 in
set_option maxHeartbeats 400000 in
theorem moved_any (v lo by' : Int) (w : World) (h0 : 0 ≤ lo) (h1 : lo ≤ 10) (v0 : lo ≤ v) (v1 : v ≤ 1099511627776) (b1 : -9223372036854775808 ≤ by') (b2 : by' ≤ 9223372036854775807) :
    Calls Try.prog 72 #[.int .i64 v, .int .i64 lo, .int .i64 1099511627776, .int .i64 by'] w fun e w' => ∃ r, e = .returned (.int .i64 r) ∧ lo ≤ r ∧ r ≤ 1099511627776 ∧ v ≠ r ∧ v - r < 99991 ∧ r - v < 99991 ∧ w = w' := by
  have hp := Mk.pk_bd by' 99990 (by decide)
  by_cases hc : v + (1 + Mk.pk by' 99990) ≤ 1099511627776
  · go_enter Try.func72, Try.ntmps72
    go_wp2_with (go_at_call 27; refine (pick_any _ _ _ (by omega) (by omega) b1 b2).mono ?_; rintro e w' ⟨rfl, rfl⟩)
    go_ret
    exact ⟨v + (1 + Mk.pk by' 99990), rfl, by omega, by omega, by omega, by omega, by omega, rfl⟩
  · have hc2 : lo ≤ v - (1 + Mk.pk by' 99990) := by omega
    go_enter Try.func72, Try.ntmps72
    go_wp2_with (go_at_call 27; refine (pick_any _ _ _ (by omega) (by omega) b1 b2).mono ?_; rintro e w' ⟨rfl, rfl⟩)
    go_ret
    exact ⟨v - (1 + Mk.pk by' 99990), rfl, by omega, by omega, by omega, by omega, by omega, rfl⟩

end Go.Proofs.Ytffgpepngcnjeaa
