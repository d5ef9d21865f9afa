/-
  A transaction in the making: a block with its three cells; its inputs and outputs in rows of the call's own.
-/
import Derived.Test.YtffgpepngcnjeaaTagA
namespace Go.Proofs.Ytffgpepngcnjeaa
open Go.RowKit

/-- the block XB holds a transaction's three cells and may be written -/
structure Tx3 (w : World) (XB : Nat) (a b c : Value) : Prop where
  c0 : w.cell? ⟨XB, 0, none⟩ = some a
  c1 : w.cell? ⟨XB, 1, none⟩ = some b
  c2 : w.cell? ⟨XB, 2, none⟩ = some c
  f0 : w.frozen? ⟨XB, 0, none⟩ = false
  f1 : w.frozen? ⟨XB, 1, none⟩ = false
  f2 : w.frozen? ⟨XB, 2, none⟩ = false

theorem Tx3.gb {w w' : World} {row : Option Nat} (h : w.grownBy w' row) {XB : Nat} {a b c : Value} (hx : Tx3 w XB a b c) (hne : some XB ≠ row) : Tx3 w' XB a b c := by
  have hlt := cell_lt hx.c0
  exact ⟨gb_cell h hx.c0 hne, gb_cell h hx.c1 hne, gb_cell h hx.c2 hne, (gb_frozen h hlt hne).trans hx.f0, (gb_frozen h hlt hne).trans hx.f1, (gb_frozen h hlt hne).trans hx.f2⟩
theorem Tx3.grown {w w' : World} (h : Below w.heap.size w w') {XB : Nat} {a b c : Value} (hx : Tx3 w XB a b c) : Tx3 w' XB a b c := hx.gb (gb_below h Option.none) (by simp)
theorem Tx3.new (w : World) (a b c : Value) (T : TypeId) : Tx3 (w.alloc (.cells #[a, b, c] T)) w.heap.size a b c := by
  refine ⟨?_, ?_, ?_, World.frozen?_alloc_at _ _ _ _ rfl, World.frozen?_alloc_at _ _ _ _ rfl, World.frozen?_alloc_at _ _ _ _ rfl⟩
  all_goals
    rw [World.cell?_alloc_new]
    rfl
theorem ne_off {b i j : Nat} (h : i ≠ j) : (⟨b, i, none⟩ : Addr) ≠ ⟨b, j, none⟩ := fun e => h (congrArg Addr.off e)
theorem Tx3.set1 {w : World} {XB : Nat} {a b c : Value} (h : Tx3 w XB a b c) (v : Value) : Tx3 (w.setCell ⟨XB, 1, none⟩ v) XB a v c :=
  ⟨by rw [World.cell?_setCell_other _ _ _ _ (ne_off (by decide))]; exact h.c0, World.cell?_setCell_same _ _ _ h.c1, by rw [World.cell?_setCell_other _ _ _ _ (ne_off (by decide))]; exact h.c2,
    by rw [World.frozen?_setCell]; exact h.f0, by rw [World.frozen?_setCell]; exact h.f1, by rw [World.frozen?_setCell]; exact h.f2⟩
theorem Tx3.set2 {w : World} {XB : Nat} {a b c : Value} (h : Tx3 w XB a b c) (v : Value) : Tx3 (w.setCell ⟨XB, 2, none⟩ v) XB a b v :=
  ⟨by rw [World.cell?_setCell_other _ _ _ _ (ne_off (by decide))]; exact h.c0, by rw [World.cell?_setCell_other _ _ _ _ (ne_off (by decide))]; exact h.c1, World.cell?_setCell_same _ _ _ h.c2,
    by rw [World.frozen?_setCell]; exact h.f0, by rw [World.frozen?_setCell]; exact h.f1, by rw [World.frozen?_setCell]; exact h.f2⟩
theorem Tx3.set0 {w : World} {XB : Nat} {a b c : Value} (h : Tx3 w XB a b c) (v : Value) : Tx3 (w.setCell ⟨XB, 0, none⟩ v) XB v b c :=
  ⟨World.cell?_setCell_same _ _ _ h.c0, by rw [World.cell?_setCell_other _ _ _ _ (ne_off (by decide))]; exact h.c1, by rw [World.cell?_setCell_other _ _ _ _ (ne_off (by decide))]; exact h.c2,
    by rw [World.frozen?_setCell]; exact h.f0, by rw [World.frozen?_setCell]; exact h.f1, by rw [World.frozen?_setCell]; exact h.f2⟩

/-- the seals of the inputs: readable, of the call's own, not in the row of the inputs -/
def Seals (w : World) (base : Nat) (row : Option Nat) (Q : Nat → InD → Prop) (xs : List InD) : Prop :=
  ∀ j, j < xs.length → InOk w (xs.getD j dIn) ∧ Q j (xs.getD j dIn) ∧ ∀ a, (xs.getD j dIn).ao = some a → base ≤ a.block ∧ a.block < w.heap.size ∧ some a.block ≠ row

theorem Seals.gb {w w' : World} {row' : Option Nat} (h : w.grownBy w' row') {base : Nat} {row : Option Nat} {Q : Nat → InD → Prop} {xs : List InD} (hs : Seals w base row Q xs) (hne : ∀ k, row' = some k → k < base ∨ row = some k) : Seals w' base row Q xs := by
  intro j hj
  obtain ⟨h1, h2, h3⟩ := hs j hj
  refine ⟨gb_ok h h1 (fun a ha e => ?_), h2, fun a ha => ⟨(h3 a ha).1, Nat.lt_of_lt_of_le (h3 a ha).2.1 h.size, (h3 a ha).2.2⟩⟩
  rcases hne a.block e.symm with hk | hk
  · have := (h3 a ha).1; omega
  · exact (h3 a ha).2.2 hk.symm

/-- the inputs so far -/
structure SInv (W : World) (XB : Nat) (Q : Nat → InD → Prop) (t : Int) (vi vo : Value) (xs : List InD) (wr : World) : Prop where
  own : OwnIns wr (XB + 1) vi xs
  ok : Seals wr (XB + 1) vi.ownBlock Q xs
  tx : Tx3 wr XB (.int .i64 t) vi vo
  bel : Below XB W wr
  lt : XB < wr.heap.size

theorem SInv.grown {W : World} {XB : Nat} {Q : Nat → InD → Prop} {t : Int} {vi vo : Value} {xs : List InD} {wr ws : World} (h : SInv W XB Q t vi vo xs wr) (hb : Below wr.heap.size wr ws) : SInv W XB Q t vi vo xs ws := by
  have hg := gb_below hb Option.none
  exact ⟨owns_gb hg h.own (fun k _ => by simp), h.ok.gb hg (fun k hk => by cases hk), h.tx.grown hb, h.bel.trans (hb.mono (by have := h.lt; omega)), Nat.lt_of_lt_of_le h.lt hb.size⟩

theorem SInv.push {W : World} {XB : Nat} {Q : Nat → InD → Prop} {t : Int} {vi vo : Value} {xs : List InD} {wr ws w2 : World} {y : InD} {g cap : Nat} (h : SInv W XB Q t vi vo xs wr) (hb : Below wr.heap.size wr ws)
    (hy : InOk ws y) (hq : Q xs.length y) (hyb : ∀ a, y.ao = some a → wr.heap.size ≤ a.block ∧ a.block < ws.heap.size)
    (hown : OwnIns w2 (XB + 1) (.slice (some ⟨g, 0, none⟩) (xs.length + 1) cap) (xs ++ [y])) (hg : ws.grownBy w2 vi.ownBlock) (hlies : vi.ownBlock = some g ∨ ws.heap.size ≤ g) :
    SInv W XB Q t (.slice (some ⟨g, 0, none⟩) (xs.length + 1) cap) vo (xs ++ [y]) (w2.setCell ⟨XB, 1, none⟩ (.slice (some ⟨g, 0, none⟩) (xs.length + 1) cap)) := by
  have hs := h.grown hb
  have hvi := owns_blk h.own
  have hvX : some XB ≠ vi.ownBlock := fun e => by have := (hvi XB e.symm).1; omega
  have hgX : XB + 1 ≤ g := (owns_blk hown g rfl).1
  have hset := gb_set w2 XB 1 (.slice (some ⟨g, 0, none⟩) (xs.length + 1) cap)
  have hvg : ∀ k, vi.ownBlock = some k → XB ≤ k := fun k hk => by have := (hvi k hk).1; omega
  refine ⟨owns_gb hset hown (fun k hk e => ?_), ?_, (hs.tx.gb hg hvX).set1 _, ((hs.bel.trans (gb_to_below hg (by have := hs.lt; omega) hvg)).setCell (Nat.le_refl _) _), ?_⟩
  · simp [Value.ownBlock] at hk
    subst hk
    injection e with e
    omega
  · intro j hj
    rw [List.length_append] at hj
    by_cases hjl : j < xs.length
    · have e : (xs ++ [y]).getD j dIn = xs.getD j dIn := by simp only [List.getD]; rw [List.getElem?_append_left hjl]
      rw [e]
      obtain ⟨h1, h2, h3⟩ := hs.ok j hjl
      have hoff : Off (xs.getD j dIn).ao vi.ownBlock := fun a ha => (h3 a ha).2.2
      have hoff2 : Off (xs.getD j dIn).ao (some XB) := fun a ha e => by injection e with e; have := (h3 a ha).1; omega
      refine ⟨gb_ok hset (gb_ok hg h1 hoff) hoff2, h2, fun a ha => ⟨(h3 a ha).1, ?_, fun e => ?_⟩⟩
      · rw [World.size_setCell]; exact Nat.lt_of_lt_of_le (h3 a ha).2.1 hg.size
      · simp [Value.ownBlock] at e
        rcases hlies with hl | hl
        · exact (h3 a ha).2.2 (by rw [e]; exact hl.symm)
        · have := (h3 a ha).2.1; omega
    · have e : j = xs.length := by simp at hj; omega
      subst e
      have e : (xs ++ [y]).getD xs.length dIn = y := by simp [List.getD]
      rw [e]
      have hoff : Off y.ao vi.ownBlock := fun a ha e => by have := (hvi _ e.symm).2; have := (hyb a ha).1; omega
      have hoff2 : Off y.ao (some XB) := fun a ha e => by injection e with e; have := (hyb a ha).1; have := h.lt; omega
      refine ⟨gb_ok hset (gb_ok hg hy hoff) hoff2, hq, fun a ha => ⟨?_, ?_, fun e => ?_⟩⟩
      · have := (hyb a ha).1; have := h.lt; omega
      · rw [World.size_setCell]; exact Nat.lt_of_lt_of_le (hyb a ha).2 hg.size
      · simp [Value.ownBlock] at e
        rcases hlies with hl | hl
        · have := (hvi g hl).2; have := (hyb a ha).1; omega
        · have := (hyb a ha).2; omega
  · rw [World.size_setCell]; exact Nat.lt_of_lt_of_le hs.lt hg.size

/-- the outputs so far -/
structure OInv (Wm : World) (XB : Nat) (Q : Int × Int → Prop) (t : Int) (vi vo : Value) (ys : List (Int × Int)) (wr : World) : Prop where
  own : OwnOuts wr Wm.heap.size vo ys
  ok : ∀ j, j < ys.length → Q (ys.getD j (0, 0))
  tx : Tx3 wr XB (.int .i64 t) vi vo
  gb : Wm.grownBy wr (some XB)
  lt : XB < Wm.heap.size

theorem OInv.grown {Wm : World} {XB : Nat} {Q : Int × Int → Prop} {t : Int} {vi vo : Value} {ys : List (Int × Int)} {wr ws : World} (h : OInv Wm XB Q t vi vo ys wr) (hb : Below wr.heap.size wr ws) : OInv Wm XB Q t vi vo ys ws :=
  ⟨owns_gb (gb_below hb Option.none) h.own (fun k _ => by simp), h.ok, h.tx.grown hb, gb_trans h.gb (gb_below hb _), h.lt⟩

theorem OInv.push {Wm : World} {XB : Nat} {Q : Int × Int → Prop} {t : Int} {vi vo : Value} {ys : List (Int × Int)} {ws w2 : World} {y : Int × Int} {g cap : Nat} (hs : OInv Wm XB Q t vi vo ys ws) (hq : Q y)
    (hown : OwnOuts w2 Wm.heap.size (.slice (some ⟨g, 0, none⟩) (ys.length + 1) cap) (ys ++ [y])) (hg : ws.grownBy w2 vo.ownBlock) :
    OInv Wm XB Q t vi (.slice (some ⟨g, 0, none⟩) (ys.length + 1) cap) (ys ++ [y]) (w2.setCell ⟨XB, 2, none⟩ (.slice (some ⟨g, 0, none⟩) (ys.length + 1) cap)) := by
  have hvo := owns_blk hs.own
  have hlt := hs.lt
  have hvX : some XB ≠ vo.ownBlock := fun e => by have := (hvo XB e.symm).1; omega
  have hgX : Wm.heap.size ≤ g := (owns_blk hown g rfl).1
  have hset := gb_set w2 XB 2 (.slice (some ⟨g, 0, none⟩) (ys.length + 1) cap)
  have hg2 : Wm.grownBy w2 (some XB) := by
    refine ⟨hg.os.trans hs.gb.os, hg.tape.trans hs.gb.tape, hg.output.trans hs.gb.output, Nat.le_trans hs.gb.size hg.size, fun k hk hne => ?_⟩
    refine (hg.block k (Nat.lt_of_lt_of_le hk hs.gb.size) (fun e => ?_)).trans (hs.gb.block k hk hne)
    have := (hvo k e.symm).1
    omega
  refine ⟨owns_gb hset hown (fun k hk e => ?_), fun j hj => ?_, (hs.tx.gb hg hvX).set2 _, gb_trans hg2 hset, hlt⟩
  · simp [Value.ownBlock] at hk
    subst hk
    injection e with e
    omega
  · rw [List.length_append] at hj
    by_cases hjl : j < ys.length
    · have e : (ys ++ [y]).getD j (0, 0) = ys.getD j (0, 0) := by simp only [List.getD]; rw [List.getElem?_append_left hjl]
      rw [e]
      exact hs.ok j hjl
    · have e : j = ys.length := by simp at hj; omega
      subst e
      have e : (ys ++ [y]).getD ys.length (0, 0) = y := by simp [List.getD]
      rw [e]
      exact hq

/-- a transaction in lists of the call's own -/
structure Fresh (w : World) (base : Nat) (vi vo : Value) (Q : Nat → InD → Prop) (xs : List InD) (ys : List (Int × Int)) : Prop where
  ins : OwnIns w base vi xs
  outs : OwnOuts w base vo ys
  ok : Seals w base vi.ownBlock Q xs
  apart : ∀ k, vo.ownBlock = some k → some k ≠ vi.ownBlock ∧ ∀ j, j < xs.length → Off (xs.getD j dIn).ao (some k)

theorem Fresh.of {W Wm wr : World} {XB : Nat} {Q : Nat → InD → Prop} {P : Int × Int → Prop} {t : Int} {vi vo vo0 : Value} {xs : List InD} {ys : List (Int × Int)} (hs : SInv W XB Q t vi vo0 xs Wm) (ho : OInv Wm XB P t vi vo ys wr) : Fresh wr (XB + 1) vi vo Q xs ys := by
  have hvi := owns_blk hs.own
  have hvo := owns_blk ho.own
  refine ⟨owns_gb ho.gb hs.own (fun k hk e => ?_), ?_, hs.ok.gb ho.gb (fun k hk => ?_), fun k hk => ⟨fun e => ?_, fun j hj a ha e => ?_⟩⟩
  · injection e with e
    have := (hvi k hk).1
    omega
  · obtain ⟨h1, h2 | ⟨g, cap, cur, e, hb, hr⟩⟩ := ho.own
    · exact ⟨h1, Or.inl h2⟩
    · exact ⟨h1, Or.inr ⟨g, cap, cur, e, by have := hs.lt; omega, hr⟩⟩
  · injection hk with hk
    exact Or.inl (by omega)
  · have := (hvo k hk).1
    have := (hvi k e.symm).2
    omega
  · injection e with e
    have := ((hs.ok j hj).2.2 a ha).2.1
    have := (hvo k hk).1
    omega
theorem Fresh.gb {w w' : World} {row : Option Nat} (h : w.grownBy w' row) {base : Nat} {vi vo : Value} {Q : Nat → InD → Prop} {xs : List InD} {ys : List (Int × Int)} (hf : Fresh w base vi vo Q xs ys) (hr : ∀ k, row = some k → k < base) : Fresh w' base vi vo Q xs ys := by
  have hvi := owns_blk hf.ins
  have hvo := owns_blk hf.outs
  exact ⟨owns_gb h hf.ins (fun k hk e => by have := hr k e.symm; have := (hvi k hk).1; omega), owns_gb h hf.outs (fun k hk e => by have := hr k e.symm; have := (hvo k hk).1; omega), hf.ok.gb h (fun k hk => Or.inl (hr k hk)), hf.apart⟩
theorem Fresh.grown {w w' : World} (h : Below w.heap.size w w') {base : Nat} {vi vo : Value} {Q : Nat → InD → Prop} {xs : List InD} {ys : List (Int × Int)} (hf : Fresh w base vi vo Q xs ys) : Fresh w' base vi vo Q xs ys :=
  hf.gb (gb_below h Option.none) (fun k hk => by cases hk)
theorem Fresh.reads {w : World} {base : Nat} {vi vo : Value} {Q : Nat → InD → Prop} {xs : List InD} {ys : List (Int × Int)} (hf : Fresh w base vi vo Q xs ys) :
    ∃ ai c ap d, vi = .slice ai xs.length c ∧ vo = .slice ap ys.length d ∧ InsAt w ai xs ∧ OutsAt w ap ys ∧ (ai = none → c = 0) ∧ (ap = none → d = 0) := by
  obtain ⟨ai, c, e1, h1, n1⟩ : ∃ ai c, vi = .slice ai xs.length c ∧ InsAt w ai xs ∧ (ai = none → c = 0) := by
    rcases hf.ins.cells with ⟨h1, h2⟩ | ⟨g, c, h1, _, _, h4, _⟩
    · subst h2; exact ⟨none, 0, h1, Or.inl rfl, fun _ => rfl⟩
    · exact ⟨_, c, h1, Or.inr ⟨g, 0, rfl, fun j hj => ⟨by rw [Nat.zero_add]; exact h4 j hj, (hf.ok j hj).1⟩⟩, fun h => by cases h⟩
  obtain ⟨ap, d, e2, h2, n2⟩ : ∃ ap d, vo = .slice ap ys.length d ∧ OutsAt w ap ys ∧ (ap = none → d = 0) := by
    rcases hf.outs.cells with ⟨h1, h2⟩ | ⟨g, c, h1, _, _, h4, _⟩
    · subst h2; exact ⟨none, 0, h1, Or.inl rfl, fun _ => rfl⟩
    · exact ⟨_, c, h1, Or.inr ⟨g, 0, rfl, h4⟩, fun h => by cases h⟩
  exact ⟨ai, c, ap, d, e1, e2, h1, h2, n1, n2⟩

theorem gb_put3 (w : World) (b o : Nat) (x y z : Value) : w.grownBy (put3 w b o x y z) (some b) := gb_trans (gb_trans (gb_set _ _ _ _) (gb_set _ _ _ _)) (gb_set _ _ _ _)
theorem owns_lower {w : World} {base B e size : Nat} {v : Value} {n : Nat} {cs : List Value} (h : w.ownsRow base e size v n cs) (hB : B ≤ base) : w.ownsRow B e size v n cs := by
  obtain ⟨h1, h | ⟨g, cap, cur, rfl, hbg, hg⟩⟩ := h
  · exact ⟨h1, Or.inl h⟩
  · exact ⟨h1, Or.inr ⟨g, cap, cur, rfl, Nat.le_trans hB hbg, hg⟩⟩
theorem Fresh.lower {w : World} {base B : Nat} {vi vo : Value} {Q : Nat → InD → Prop} {xs : List InD} {ys : List (Int × Int)} (h : Fresh w base vi vo Q xs ys) (hB : B ≤ base) : Fresh w B vi vo Q xs ys :=
  ⟨owns_lower h.ins hB, owns_lower h.outs hB, fun j hj => ⟨(h.ok j hj).1, (h.ok j hj).2.1, fun a ha => ⟨Nat.le_trans hB ((h.ok j hj).2.2 a ha).1, ((h.ok j hj).2.2 a ha).2⟩⟩, h.apart⟩

end Go.Proofs.Ytffgpepngcnjeaa
