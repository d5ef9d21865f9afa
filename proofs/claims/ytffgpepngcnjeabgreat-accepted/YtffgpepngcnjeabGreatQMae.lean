/-
  Package chain: taken back, connected.
  A transaction in the making: a block with its three cells; its inputs and outputs in rows of the call's own.
  copyTx: a transaction in lists of its own.
-/
import Derived.Test.YtffgpepngcnjeabGreatQMad
import Derived.Deep.QuietTactic
import Derived.Deep.CutBlock
import Derived.BigQuiet
import Derived.Test.YtffgpepngcnjeabGreatQMab
import Derived.Deep.DeepCutAuto
namespace Go.Proofs.YtffgpepngcnjeabGreatQ
open Go.RowKit
variable {Ex : List (Nat × Value)}
def leftI (h : Int) (xs : List Cel) : Nat → Nat
  | 0 => 0
  | k + 1 => if (xs.getD k dC).made = h then leftI h xs k else k + 1
theorem leftI_succ (h : Int) (xs : List Cel) (k : Nat) : leftI h xs (k + 1) = if (xs.getD k dC).made = h then leftI h xs k else k + 1 := rfl
theorem leftI_le (h : Int) (xs : List Cel) : ∀ k, leftI h xs k ≤ k := by
  intro k
  induction k with
  | zero => exact Nat.le_refl _
  | succ k ih => rw [leftI_succ]; split <;> omega
def unsp (h : Int) (x : Cel) : Cel := if x.spent = h then x.sp (-1) else x
def tbZ (h : Int) (xs : List Cel) : List Cel := (xs.take (leftI h xs xs.length)).map (unsp h)
/-- the first k are taken back -/
def partU (h : Int) (ys : List Cel) (k : Nat) : List Cel := (ys.take k).map (unsp h) ++ ys.drop k
theorem partU_len (h : Int) (ys : List Cel) (k : Nat) : (partU h ys k).length = ys.length := by
  simp only [partU, List.length_append, List.length_map, List.length_take, List.length_drop]
  omega
theorem partU_at (h : Int) (ys : List Cel) (k : Nat) (hk : k < ys.length) : (partU h ys k).getD k dC = ys.getD k dC := by
  simp only [partU, List.getD]
  rw [List.getElem?_append_right (by rw [List.length_map, List.length_take]; omega), List.length_map, List.length_take, List.getElem?_drop]
  congr 2
  omega
theorem partU_step (h : Int) (ys : List Cel) (k : Nat) (hk : k < ys.length) : partU h ys (k + 1) = (partU h ys k).set k (unsp h (ys.getD k dC)) := by
  simp only [partU]
  rw [List.take_succ_eq_append_getElem hk, List.map_append, List.drop_eq_getElem_cons hk]
  have hl : ((ys.take k).map (unsp h)).length = k := by rw [List.length_map, List.length_take]; omega
  rw [List.set_append_right _ _ (by omega), hl, Nat.sub_self, List.set_cons_zero, List.append_assoc]
  simp only [List.getD, List.getElem?_eq_getElem hk, Option.getD_some]
  rfl
theorem partU_same (h : Int) (ys : List Cel) (k : Nat) (hk : k < ys.length) (hs : (ys.getD k dC).spent ≠ h) : partU h ys (k + 1) = partU h ys k := by
  rw [partU_step h ys k hk]
  have e : unsp h (ys.getD k dC) = (partU h ys k).getD k dC := by
    rw [partU_at h ys k hk]
    unfold unsp
    rw [if_neg hs]
  rw [e]
  have hk' : k < (partU h ys k).length := by rw [partU_len]; exact hk
  simp only [List.getD, List.getElem?_eq_getElem hk', Option.getD_some]
  exact List.set_getElem_self hk'
theorem OwnRec.take {α : Type} {f : α → List Value} {e k : Nat} (hf : ∀ x, (f x).length = k) {w : World} {base n c : Nat} {ao : Option Addr} {xs : List α} (h : OwnRec f e k w base (.slice ao n c) xs) (hn : xs.length = n) (m : Nat) (hm : m ≤ n) : OwnRec f e k w base (.slice ao m c) (xs.take m) := by
  have hl : (xs.take m).length = m := by rw [List.length_take]; omega
  obtain ⟨h1, ⟨h2, h3⟩ | ⟨g, cap, cur, h2, hb, hg, hnc, hcm, hcs, ht⟩⟩ := h
  · injection h2 with e1 e2 e3
    subst e1 e3
    have hm0 : m = 0 := by omega
    subst hm0
    exact OwnRec.nil _ _ _ _ _
  · injection h2 with e1 e2 e3
    subst e1 e3
    unfold OwnRec
    rw [hl]
    refine ⟨by rw [rec_len f k hf, hl], Or.inr ⟨g, c, cur, rfl, hb, hg, by omega, hcm, hcs, ?_⟩⟩
    have e4 : (xs.take m).flatMap f = (xs.flatMap f).take (m * k) := by
      have e5 : xs.flatMap f = (xs.take m).flatMap f ++ (xs.drop m).flatMap f := by rw [← List.flatMap_append, List.take_append_drop]
      have e6 : ((xs.take m).flatMap f).length = m * k := by rw [rec_len f k hf, hl]
      rw [e5, List.take_append_of_le_length (Nat.le_of_eq e6.symm), List.take_of_length_le (Nat.le_of_eq e6)]
    rw [e4, ← ht, List.take_take, Nat.min_eq_left (Nat.mul_le_mul_right k (by omega))]
theorem OwnRec.cap {α : Type} {f : α → List Value} {e k : Nat} {w : World} {base n c : Nat} {ao : Option Addr} {xs : List α} (h : OwnRec f e k w base (.slice ao n c) xs) (hn : xs.length = n) : n ≤ c ∧ c ≤ maxLen := by
  obtain ⟨h1, ⟨h2, h3⟩ | ⟨g, cap, cur, h2, hb, hg, hnc, hcm, hcs, ht⟩⟩ := h
  · injection h2 with e1 e2 e3
    subst e2 e3
    exact ⟨Nat.le_refl _, Nat.zero_le _⟩
  · injection h2 with e1 e2 e3
    subst e3
    exact ⟨by omega, hcm⟩
theorem ChOwn.cut {w : World} {b o n c : Nat} {ao : Option Addr} {h : Int} {xs : List Cel} (hc : ChOwn Ex w b o (.slice ao n c) h xs) (hn : xs.length = n) (m : Nat) (hm : m ≤ n) : ChOwn Ex (w.setCell ⟨b, o, none⟩ (.slice ao m c)) b o (.slice ao m c) h (xs.take m) := by
  have hown := OwnRec.take cel6 hc.own hn m hm
  refine ⟨World.cell?_setCell_same _ _ _ hc.c0, ?_, by rw [World.frozen?_setCell]; exact hc.f0, fun j => by rw [World.frozen?_setCell]; exact hc.f1 j, ?_, fun q hq => ⟨(hc.ext q hq).1, (hc.ext q hq).2.1, ?_⟩⟩
  · rw [World.cell?_setCell_other _ _ _ _ (by intro e; have := congrArg Addr.off e; simp only at this; omega)]
    exact hc.c1
  · exact hown.gb (gb_set w b o _) (fun k hk e => by injection e with e; have := (hown.blk k hk).1; omega)
  · rw [World.cell?_setCell_other _ _ _ _ (by intro e; have := congrArg Addr.off e; simp only at this; exact (hc.ext q hq).1 this.symm)]
    exact (hc.ext q hq).2.2
set_option maxRecDepth 100000 in
set_option maxHeartbeats 8000000 in
theorem takeBack_any (b o : Nat) (v : Value) (h : Int) (xs : List Cel) (w : World) (hc : ChOwn Ex w b o v h xs) (hlen : xs.length ≤ 20000) :
    Calls Tryz.prog 152 #[.pointer (some ⟨b, o, none⟩)] w fun e w' => e = .returned (.tuple #[]) ∧ ∃ v', ChOwn Ex w' b o v' h (tbZ h xs) ∧ ChStep b v v' w w' := by
  obtain ⟨ao, c, hv, _⟩ := hc.at
  subst hv
  have HC : Hid (ChOwn Ex w b o (.slice ao xs.length c) h xs) := hc
  generalize hn : xs.length = n at *
  have HN : Hid (xs.length = n) := hn
  clear hn
  have hcap := OwnRec.cap hc.own HN.out
  have hcm : c ≤ 9223372036854775807 := by have := hcap.2; unfold maxLen at this; omega
  have c0 := hc.c0
  clear hc
  go_enter Tryz.func152, Tryz.ntmps152
  go_upto_block 0 with fail
  go_cut [2] (fun u wx => u = .int .i64 (leftI h xs n) ∧ ChOwn Ex wx b o (.slice ao n c) h xs ∧ Below w.heap.size w wx)
  case first =>
    go_wp2_with fail
    go_loopw [2] (fun i wr => ∃ k : Nat, k ≤ n ∧ i = .int .i64 k ∧ Hid (leftI h xs k = leftI h xs n) ∧ ChOwn Ex wr b o (.slice ao n c) h xs ∧ Below w.heap.size w wr) (fun i _ => (intOf i).toNat)
    case atStart => exact ⟨n, Nat.le_refl _, rfl, rfl, HC.out, Below.refl _ _⟩
    case round =>
      obtain ⟨k, hk, rfl, hz, hch, hbl⟩ := hrel
      have HCH : Hid (ChOwn Ex wr b o (.slice ao n c) h xs) := hch
      have d0 := hch.c0
      have d1 := hch.c1
      cases k with
      | zero =>
        clear hch
        go_wp2_with fail
        go_quiet (fail)
        have HCQ : Hid (ChOwn Ex (wr.drewN nq) b o (.slice ao n c) h xs) := ⟨HCH.out.c0, HCH.out.c1, HCH.out.f0, HCH.out.f1, HCH.out.own, HCH.out.ext⟩
        have HBQ : Hid (Below w.heap.size w (wr.drewN nq)) := ⟨hbl.os, hbl.tape, hbl.output, hbl.size, hbl.block⟩
        go_wp2_with fail
        go_meet
        exact ⟨by rw [← hz.out]; rfl, HCQ.out, HBQ.out⟩
      | succ k =>
        obtain ⟨g, hg, hg1, hg2, hrow, _⟩ := own_some cel6 hch.own HN.out (by omega)
        subst hg
        have r4 := (celCells hrow k (by rw [HN.out]; omega)).c4
        rw [Nat.zero_add] at r4
        have HZ : Hid _ := hz.out
        rw [leftI_succ] at HZ
        generalize xs.getD k dC = y at r4 HZ
        obtain ⟨y0, y1, y2, y3, ym, y5⟩ := y
        simp only at r4
        clear hrow hch hz
        generalize hki : k + 1 = K
        have HKI : Hid (k + 1 = K) := hki
        have e3 : (k : Int) < (n : Int) := by omega
        have e4 : (0 : Int) ≤ (k : Int) := by omega
        have hw1 : IntKind.i64.wrap ((K : Int) - 1) = k := by rw [show (K : Int) - 1 = k by omega]; exact IntWalk.i64_in _ ⟨by omega, by omega⟩
        have hK0 : 0 < K := by omega
        have hd : decide ((0 : Int) < (K : Int)) = true := by rw [decide_eq_true_iff]; omega
        clear hki
        cases hy : (ym == h)
        · go_wp2_with fail
          go_quiet (fail)
          have HCQ : Hid (ChOwn Ex (wr.drewN nq) b o (.slice (some ⟨g, 0, none⟩) n c) h xs) := ⟨HCH.out.c0, HCH.out.c1, HCH.out.f0, HCH.out.f1, HCH.out.own, HCH.out.ext⟩
          have HBQ : Hid (Below w.heap.size w (wr.drewN nq)) := ⟨hbl.os, hbl.tape, hbl.output, hbl.size, hbl.block⟩
          go_wp2_with fail
          go_meet
          refine ⟨?_, HCQ.out, HBQ.out⟩
          have := HZ.out
          rw [if_neg (by simpa using hy)] at this
          rw [← this, HKI.out]
        · go_wp2_with fail
          go_quiet (fail)
          have HCQ : Hid (ChOwn Ex (wr.drewN nq) b o (.slice (some ⟨g, 0, none⟩) n c) h xs) := ⟨HCH.out.c0, HCH.out.c1, HCH.out.f0, HCH.out.f1, HCH.out.own, HCH.out.ext⟩
          have HBQ : Hid (Below w.heap.size w (wr.drewN nq)) := ⟨hbl.os, hbl.tape, hbl.output, hbl.size, hbl.block⟩
          go_wp2_with fail
          go_roundw
          case rel => exact ⟨k, by omega, by go_num, by show _ = _; have := HZ.out; rw [if_pos (by simpa using hy)] at this; exact this, HCQ.out, HBQ.out⟩
          case measure => have hKe := HKI.out; simp [intOf]; omega
  case rest =>
    obtain ⟨rfl, hch, hbl⟩ := hcut
    have hle := leftI_le h xs n
    have HTB : Hid (tbZ h xs = (xs.take (leftI h xs n)).map (unsp h)) := by show _ = _; unfold tbZ; rw [HN.out]
    generalize leftI h xs n = m at *
    have d0 := hch.c0
    have f0 := hch.f0
    have hcc := hcap.1
    have i1 : (0 : Int) ≤ (m : Int) := by omega
    have i2 : (m : Int) ≤ (c : Int) := by omega
    have HCUT : Hid (ChOwn Ex (wc.setCell ⟨b, o, none⟩ (.slice ao m c)) b o (.slice ao m c) h (xs.take m)) := hch.cut HN.out m hle
    have HFR : Hid (Fr (chE b (.slice ao n c)) w (wc.setCell ⟨b, o, none⟩ (.slice ao m c))) := (Fr.of_below hbl _).set b o _ (fun _ => Or.inl rfl)
    go_wp2
    generalize hys : xs.take m = ys at *
    have HYL : Hid (ys.length = m) := by show _ = _; rw [← hys, List.length_take, HN.out]; omega
    generalize wc.setCell ⟨b, o, none⟩ (.slice ao m c) = wd at *
    clear d0 f0 hch hbl hys c0
    go_loopw [3] (fun i wr => ∃ k : Nat, k ≤ m ∧ i = .int .i64 k ∧ ChOwn Ex wr b o (.slice ao m c) h (partU h ys k) ∧ Fr (chE b (.slice ao n c)) w wr) (fun i _ => m - (intOf i).toNat)
    case atStart => exact ⟨0, Nat.zero_le _, rfl, by simpa [partU] using HCUT.out, HFR.out⟩
    case round =>
      obtain ⟨k, hk, rfl, hch, hfr⟩ := hrel
      by_cases hlt : k < m
      · have hkl : k < ys.length := by rw [HYL.out]; exact hlt
        have hpl : (partU h ys k).length = m := by rw [partU_len, HYL.out]
        obtain ⟨g, hg, hg1, hg2, hrow, hfz⟩ := own_some cel6 hch.own hpl (by omega)
        subst hg
        have r5 := (celCells hrow k (by rw [hpl]; exact hlt)).c5
        rw [Nat.zero_add, partU_at h ys k hkl] at r5
        have d0 := hch.c0
        have d1 := hch.c1
        have fz := hfz (k * 6 + 5)
        have HS : Hid _ := partU_step h ys k hkl
        have HSm : Hid _ := partU_same h ys k hkl
        have HAt : Hid _ := partU_at h ys k hkl
        have HCH : Hid (ChOwn Ex wr b o (.slice (some ⟨g, 0, none⟩) m c) h (partU h ys k)) := hch
        have HPL : Hid ((partU h ys k).length = m) := hpl
        have hnb : g ≠ b := by omega
        generalize hyy : ys.getD k dC = y at r5 HS HSm HAt
        obtain ⟨y0, y1, y2, y3, y4, ysp⟩ := y
        simp only at r5
        clear hrow hfz hch hyy hkl hpl
        have e1 : (k : Int) < (m : Int) := by omega
        have e2 : (0 : Int) ≤ (k : Int) := by omega
        cases hy : (ysp == h)
        · go_wp2_with fail
          go_quiet (fail)
          have HCQ : Hid (ChOwn Ex (wr.drewN nq) b o (.slice (some ⟨g, 0, none⟩) m c) h (partU h ys (k + 1))) := by rw [HSm.out (by simpa using hy)]; exact ⟨HCH.out.c0, HCH.out.c1, HCH.out.f0, HCH.out.f1, HCH.out.own, HCH.out.ext⟩
          have HFQ : Hid (Fr (chE b (.slice (some ⟨g, 0, none⟩) n c)) w (wr.drewN nq)) := ⟨hfr.os, hfr.tape, hfr.output, hfr.size, hfr.block⟩
          go_wp2
          go_roundw
          case rel => exact ⟨k + 1, by omega, by go_num, HCQ.out, HFQ.out⟩
          case measure => simp [intOf]; omega
        · go_wp2_with fail
          go_quiet (fail)
          have HCQ : Hid (ChOwn Ex ((wr.drewN nq).setCell ⟨g, k * 6 + 5, none⟩ (.int .i64 (-1))) b o (.slice (some ⟨g, 0, none⟩) m c) h (partU h ys (k + 1))) := by
            have h1 : ChOwn Ex (wr.drewN nq) b o (.slice (some ⟨g, 0, none⟩) (partU h ys k).length c) h (partU h ys k) := by rw [HPL.out]; exact ⟨HCH.out.c0, HCH.out.c1, HCH.out.f0, HCH.out.f1, HCH.out.own, HCH.out.ext⟩
            have h2 := h1.mark k (by rw [HPL.out]; exact hlt) (-1)
            rw [HPL.out, HAt.out] at h2
            rw [HS.out]
            unfold unsp
            rw [if_pos (by simpa using hy)]
            exact h2
          have HFQ : Hid (Fr (chE b (.slice (some ⟨g, 0, none⟩) n c)) w ((wr.drewN nq).setCell ⟨g, k * 6 + 5, none⟩ (.int .i64 (-1)))) := by
            have hq0 : Fr (chE b (.slice (some ⟨g, 0, none⟩) n c)) w (wr.drewN nq) := ⟨hfr.os, hfr.tape, hfr.output, hfr.size, hfr.block⟩
            exact hq0.set g (k * 6 + 5) _ (fun _ => Or.inr rfl)
          go_wp2
          go_roundw
          case rel => exact ⟨k + 1, by omega, by go_num, HCQ.out, HFQ.out⟩
          case measure => simp [intOf]; omega
      · have hkm : k = m := by omega
        subst hkm
        have HFIN : Hid (ChOwn Ex wr b o (.slice ao k c) h (tbZ h xs)) := by
          have e : partU h ys k = tbZ h xs := by
            rw [HTB.out]
            unfold partU
            rw [List.take_of_length_le (by rw [HYL.out]; omega), List.drop_of_length_le (by rw [HYL.out]; omega), List.append_nil]
          rw [← e]
          exact hch
        clear hch
        go_wp2
        go_end0
        exact ⟨rfl, _, HFIN.out, hfr, fun q hq => Or.inl (by cases ao with | none => cases hq | some a => exact hq)⟩
end Go.Proofs.YtffgpepngcnjeabGreatQ
namespace Go.Proofs.YtffgpepngcnjeabGreatQ
open Go.RowKit
variable {Ex : List (Nat × Value)}
/-- a transaction in memory -/
structure TxD where
  t : Int
  ai : Option Addr
  n : Nat
  c : Nat
  ap : Option Addr
  m : Nat
  d : Nat
  ins : List InD
  ys : List (Int × Int)
def dT : TxD := ⟨0, none, 0, 0, none, 0, 0, [], []⟩
def TxD.v (x : TxD) : List Value := [.int .i64 x.t, .slice x.ai x.n x.c, .slice x.ap x.m x.d]
theorem tx3 (x : TxD) : x.v.length = 3 := rfl
structure TxCells (w : World) (b off : Nat) (x : TxD) : Prop where
  c0 : w.cell? ⟨b, off, none⟩ = some (.int .i64 x.t)
  c1 : w.cell? ⟨b, off + 1, none⟩ = some (.slice x.ai x.n x.c)
  c2 : w.cell? ⟨b, off + 2, none⟩ = some (.slice x.ap x.m x.d)
theorem txCells {w : World} {b off : Nat} {xs : List TxD} (h : VRow w b off (xs.flatMap TxD.v)) (j : Nat) (hj : j < xs.length) : TxCells w b (off + j * 3) (xs.getD j dT) :=
  ⟨rcell tx3 dT h j hj 0 (by omega), rcell tx3 dT h j hj 1 (by omega), rcell tx3 dT h j hj 2 (by omega)⟩
/-- its inputs and outputs lie in blocks of N -/
structure TxOk (N : Nat → Prop) (w : World) (x : TxD) : Prop where
  ins : InsAt w x.ai x.ins
  il : x.ins.length = x.n
  outs : OutsAt w x.ap x.ys
  ol : x.ys.length = x.m
  na : x.ins ≠ [] → ∀ a, x.ai = some a → N a.block
  np : x.ys ≠ [] → ∀ a, x.ap = some a → N a.block
  ns : ∀ i ∈ x.ins, i.l ≠ [] → ∀ a, i.ao = some a → N a.block
theorem ints_fr {E : Nat → Prop} {w w' : World} (hf : Fr E w w') {ao : Option Addr} {l : List Int} (h : IntsAt w ao l) (hn : l ≠ [] → ∀ a, ao = some a → ¬ E a.block) : IntsAt w' ao l := by
  by_cases he : l = []
  · exact Or.inl he
  · rcases h with h | ⟨b, off, rfl, hr⟩
    · exact Or.inl h
    · exact Or.inr ⟨b, off, rfl, hf.row hr (hn he _ rfl)⟩
theorem ins_fr {E : Nat → Prop} {w w' : World} (hf : Fr E w w') {ao : Option Addr} {l : List InD} (h : InsAt w ao l) (hn : l ≠ [] → ∀ a, ao = some a → ¬ E a.block) (hs : ∀ i ∈ l, i.l ≠ [] → ∀ a, i.ao = some a → ¬ E a.block) : InsAt w' ao l := by
  by_cases he : l = []
  · exact Or.inl he
  · rcases h with h | ⟨b, off, rfl, hr⟩
    · exact Or.inl h
    · refine Or.inr ⟨b, off, rfl, fun j hj => ?_⟩
      obtain ⟨⟨h0, h1, h2⟩, h3⟩ := hr j hj
      have hb := hn he _ rfl
      exact ⟨⟨hf.cell h0 hb, hf.cell h1 hb, hf.cell h2 hb⟩, ⟨ints_fr hf h3.lies (hs _ (getD_mem l dIn j hj)), h3.len, h3.sz, h3.nil⟩⟩
theorem outs_fr {E : Nat → Prop} {w w' : World} (hf : Fr E w w') {ao : Option Addr} {l : List (Int × Int)} (h : OutsAt w ao l) (hn : l ≠ [] → ∀ a, ao = some a → ¬ E a.block) : OutsAt w' ao l := by
  by_cases he : l = []
  · exact Or.inl he
  · rcases h with h | ⟨b, off, rfl, hr⟩
    · exact Or.inl h
    · exact Or.inr ⟨b, off, rfl, fun j hj => ⟨hf.cell (hr j hj).1 (hn he _ rfl), hf.cell (hr j hj).2 (hn he _ rfl)⟩⟩
theorem TxOk.fr {E N : Nat → Prop} {w w' : World} (hf : Fr E w w') {x : TxD} (h : TxOk N w x) (hn : ∀ k, N k → ¬ E k) : TxOk N w' x :=
  ⟨ins_fr hf h.ins (fun e a ha => hn _ (h.na e a ha)) (fun i hi e a ha => hn _ (h.ns i hi e a ha)), h.il, outs_fr hf h.outs (fun e a ha => hn _ (h.np e a ha)), h.ol, h.na, h.np, h.ns⟩
/-- a block of transactions in memory -/
structure BlkAt (N : Nat → Prop) (w : World) (ao : Option Addr) (bl : List TxD) : Prop where
  row : RecAt TxD.v w ao bl
  na : bl ≠ [] → ∀ a, ao = some a → N a.block
  ok : ∀ x ∈ bl, TxOk N w x
theorem BlkAt.fr {E N : Nat → Prop} {w w' : World} (hf : Fr E w w') {ao : Option Addr} {bl : List TxD} (h : BlkAt N w ao bl) (hn : ∀ k, N k → ¬ E k) : BlkAt N w' ao bl := by
  refine ⟨?_, h.na, fun x hx => (h.ok x hx).fr hf hn⟩
  by_cases he : bl = []
  · exact Or.inl he
  · rcases h.row with h1 | ⟨b, off, rfl, hr⟩
    · exact Or.inl h1
    · exact Or.inr ⟨b, off, rfl, hf.vrow hr (hn _ (h.na he _ rfl))⟩
def Vals (xs : List Cel) : Prop := ∀ x ∈ xs, 0 ≤ x.val ∧ x.val ≤ 1099511627776
theorem markZ_val (h : Int) (ss : List SpD) : ∀ xs, Vals xs → (∀ s ∈ ss, s.pl.toNat < xs.length) → Vals (markZ h xs ss) := by
  induction ss with
  | nil => intro xs hx _; exact hx
  | cons s r ih =>
    intro xs hx hs
    rw [markZ]
    refine ih _ (fun y hy => ?_) (fun s' hs' => by rw [List.length_set]; exact hs s' (by simp [hs']))
    rcases List.mem_or_eq_of_mem_set hy with hy | hy
    · exact hx y hy
    · have hz := hx _ (getD_mem xs dC _ (hs s (by simp)))
      rw [hy]
      exact hz
theorem newC_val {id h : Int} {ys : List (Int × Int)} (hy : ∀ j, j < ys.length → rOut (ys.getD j (0, 0)) = true) : Vals (newC id h ys ys.length) := by
  intro x hx
  simp only [newC, List.mem_map, List.mem_range] at hx
  obtain ⟨j, hj, rfl⟩ := hx
  have := rOut_bd (hy j hj)
  simp only
  omega
theorem addZ_cases (xs : List Cel) (h t : Int) (ins : List InD) (ys : List (Int × Int)) (first : Bool) :
    ((addZ xs h t ins ys first).1 ≠ 0 ∧ (addZ xs h t ins ys first).2 = xs) ∨
    (rTx t ins ys = true ∧ ¬(ins = [] ∧ first = false) ∧ hasId xs (idZ t ins ys) = false ∧ ∃ ss, spZ xs ins [] = some ss ∧ ss.all (opens (idZ t ins ys)) = true ∧ ¬(ss ≠ [] ∧ sumSp ss < sumOu ys) ∧ addZ xs h t ins ys first = (0, markZ h xs ss ++ newC (idZ t ins ys) h ys ys.length)) := by
  by_cases h1 : rTx t ins ys = false ∨ (ins = [] ∧ first = false)
  · left; rw [addZ_shape h1]; simp
  · by_cases h2 : hasId xs (idZ t ins ys) = true
    · left; rw [addZ_twice h1 h2]; simp
    · rw [Bool.not_eq_true] at h2
      cases h3 : spZ xs ins [] with
      | none => left; rw [addZ_coin h1 h2 h3]; simp
      | some ss =>
        cases h4 : ss.all (opens (idZ t ins ys))
        · left; rw [addZ_seal h1 h2 h3 h4]; simp
        · by_cases h5 : ss ≠ [] ∧ sumSp ss < sumOu ys
          · left; rw [addZ_sum h1 h2 h3 h4 h5]; simp
          · right
            refine ⟨?_, fun hc => h1 (Or.inr hc), h2, ss, rfl, h4, h5, addZ_ok h1 h2 h3 h4 h5⟩
            cases hq : rTx t ins ys
            · exact absurd (Or.inl hq) h1
            · rfl
theorem addZ_good (xs : List Cel) (h t : Int) (ins : List InD) (ys : List (Int × Int)) (first : Bool) (hv : Vals xs) : Vals (addZ xs h t ins ys first).2 ∧ (addZ xs h t ins ys first).2.length ≤ xs.length + 8 := by
  rcases addZ_cases xs h t ins ys first with ⟨_, h2⟩ | ⟨hr, _, _, ss, hss, _, _, he⟩
  · rw [h2]; exact ⟨hv, by omega⟩
  · rw [he]
    obtain ⟨_, _, _, h8, ho⟩ := rTx_parts hr
    have hq : ∀ s ∈ ss, s.pl.toNat < xs.length := spZ_good xs (fun s => s.pl.toNat < xs.length) ins [] ss (fun i _ q hq _ => by simpa using hq) hss (fun s hs => by simp at hs)
    refine ⟨fun x hx => ?_, ?_⟩
    · rcases List.mem_append.1 hx with hx | hx
      · exact markZ_val h ss xs hv hq x hx
      · exact newC_val ho x hx
    · simp only [List.length_append, markZ_len, newC, List.length_map, List.length_range]
      omega
theorem ChOwn.hgt {w : World} {b o : Nat} {v : Value} {h : Int} {xs : List Cel} (hc : ChOwn Ex w b o v h xs) (h' : Int) : ChOwn Ex (w.setCell ⟨b, o + 1, none⟩ (.int .i64 h')) b o v h' xs := by
  refine ⟨?_, World.cell?_setCell_same _ _ _ hc.c1, by rw [World.frozen?_setCell]; exact hc.f0, fun j => by rw [World.frozen?_setCell]; exact hc.f1 j, ?_, fun q hq => ⟨(hc.ext q hq).1, (hc.ext q hq).2.1, ?_⟩⟩
  · rw [World.cell?_setCell_other _ _ _ _ (by intro e; have := congrArg Addr.off e; simp only at this; omega)]
    exact hc.c0
  · exact hc.own.gb (gb_set w b (o + 1) _) (fun k hk e => by injection e with e; have := (hc.own.blk k hk).1; omega)
  · rw [World.cell?_setCell_other _ _ _ _ (by intro e; have := congrArg Addr.off e; simp only at this; exact (hc.ext q hq).2.1 this.symm)]
    exact (hc.ext q hq).2.2
/-- what becomes of a block: the error, the number, the outputs; behind i transactions -/
def connGo (h : Int) : List Cel → List TxD → Nat → Int × Int × List Cel
  | xs, [], _ => (0, 0, xs)
  | xs, t :: r, i => if (addZ xs h t.t t.ins t.ys (i == 0)).1 ≠ 0 then ((addZ xs h t.t t.ins t.ys (i == 0)).1, i, tbZ h (addZ xs h t.t t.ins t.ys (i == 0)).2) else connGo h (addZ xs h t.t t.ins t.ys (i == 0)).2 r (i + 1)
theorem connGo_drop (h : Int) (xs : List Cel) (bl : List TxD) (k : Nat) (hk : k < bl.length) : connGo h xs (bl.drop k) k =
    if (addZ xs h (bl.getD k dT).t (bl.getD k dT).ins (bl.getD k dT).ys (k == 0)).1 ≠ 0 then ((addZ xs h (bl.getD k dT).t (bl.getD k dT).ins (bl.getD k dT).ys (k == 0)).1, (k : Int), tbZ h (addZ xs h (bl.getD k dT).t (bl.getD k dT).ins (bl.getD k dT).ys (k == 0)).2) else connGo h (addZ xs h (bl.getD k dT).t (bl.getD k dT).ins (bl.getD k dT).ys (k == 0)).2 (bl.drop (k + 1)) (k + 1) := by
  rw [List.drop_eq_getElem_cons hk]
  simp only [List.getD, List.getElem?_eq_getElem hk, Option.getD_some]
  rfl
/-- Connect: the error, the number, the height, the outputs -/
def connZ (h : Int) (xs : List Cel) (bl : List TxD) : Int × Int × Int × List Cel :=
  if 40 ≤ h then (3, 0, h, xs)
  else if 6 < bl.length then (2, 0, h, xs)
  else if (connGo h xs bl 0).1 ≠ 0 then ((connGo h xs bl 0).1, (connGo h xs bl 0).2.1, h, (connGo h xs bl 0).2.2)
  else (0, 0, h + 1, (connGo h xs bl 0).2.2)
theorem add_any (b o : Nat) (v : Value) (h : Int) (xs : List Cel) (N : Nat → Prop) (x : TxD) (first : Bool) (w : World)
    (hc : ChOwn Ex w b o v h xs) (hl : xs.length ≤ 10000) (hv : Vals xs) (hh : 0 ≤ h ∧ h ≤ 100) (hx : TxOk N w x) (hN : ∀ k, N k → ¬ chE b v k) :
    Calls Tryz.prog 151 #[.pointer (some ⟨b, o, none⟩), .agg #[.int .i64 x.t, .slice x.ai x.n x.c, .slice x.ap x.m x.d], .bool first] w fun e w' => ∃ v', e = .returned (.int .i64 (addZ xs h x.t x.ins x.ys first).1) ∧ ChOwn Ex w' b o v' h (addZ xs h x.t x.ins x.ys first).2 ∧ ChStep b v v' w w' := by
  by_cases hr : rTx x.t x.ins x.ys = false ∨ (x.ins = [] ∧ first = false)
  · refine (add_shape b o x.t x.ai x.n x.c x.ap x.m x.d x.ins x.ys first w hx.ins hx.il hx.outs hx.ol hr).mono ?_
    rintro e w' ⟨rfl, hb⟩
    rw [addZ_shape hr]
    exact ⟨v, rfl, hc.grown hb, ChStep.of_below hb b v⟩
  · have hrt : rTx x.t x.ins x.ys = true := by
      cases hq : rTx x.t x.ins x.ys
      · exact absurd (Or.inl hq) hr
      · rfl
    obtain ⟨_, _, _, h8, _⟩ := rTx_parts hrt
    exact add_rest b o v h xs x.t x.ai x.n x.c x.ap x.m x.d x.ins x.ys first w ⟨hc, hl, hv, hh, fun a ha => hN _ (hx.np (by intro e; rw [e] at h8; simp at h8) a ha)⟩ hx.ins hx.il hx.outs hx.ol hr
set_option maxRecDepth 100000 in
set_option maxHeartbeats 4000000 in
theorem connect_any (b o : Nat) (v : Value) (h : Int) (xs : List Cel) (N : Nat → Prop) (ao : Option Addr) (n c : Nat) (bl : List TxD) (w : World)
    (hc : ChOwn Ex w b o v h xs) (hl : xs.length ≤ 5000) (hv : Vals xs) (hh : 0 ≤ h ∧ h ≤ 100) (hb : BlkAt N w ao bl) (hn : bl.length = n) (hN : ∀ k, N k → k < w.heap.size ∧ ¬ chE b v k) (hn2 : n ≤ 9223372036854775807) :
    Calls Tryz.prog 96 #[.pointer (some ⟨b, o, none⟩), .slice ao n c] w fun e w' => e = .returned (.tuple #[.int .i64 (connZ h xs bl).1, .int .i64 (connZ h xs bl).2.1]) ∧ ∃ v', ChOwn Ex w' b o v' (connZ h xs bl).2.2.1 (connZ h xs bl).2.2.2 ∧ ChStep b v v' w w' := by
  have c1 := hc.c1
  have HC : Hid (ChOwn Ex w b o v h xs) := hc
  have HV : Hid (Vals xs) := hv
  have HB : Hid (BlkAt N w ao bl) := hb
  have HN : Hid (bl.length = n) := hn
  have HNE : Hid (∀ k, N k → k < w.heap.size ∧ ¬ chE b v k) := hN
  have HL : Hid (xs.length ≤ 5000) := hl
  clear hc hv hb hn hN hl
  by_cases h40 : 40 ≤ h
  · have HE : Hid (connZ h xs bl = (3, 0, h, xs)) := by show _ = _; unfold connZ; rw [if_pos h40]
    go_enter Tryz.func96, Tryz.ntmps96
    go_wp2
    go_ret2
    rw [HE.out]
    exact ⟨rfl, v, HC.out, ChStep.refl _ _ _⟩
  · by_cases h6 : 6 < n
    · have HE : Hid (connZ h xs bl = (2, 0, h, xs)) := by show _ = _; unfold connZ; rw [if_neg h40, if_pos (by rw [HN.out]; exact h6)]
      have g6 : decide ((6 : Int) < (n : Int)) = true := by rw [decide_eq_true_iff]; omega
      go_enter Tryz.func96, Tryz.ntmps96
      go_wp2
      go_ret2
      rw [HE.out]
      exact ⟨rfl, v, HC.out, ChStep.refl _ _ _⟩
    · have HE : Hid (connZ h xs bl = if (connGo h xs bl 0).1 ≠ 0 then ((connGo h xs bl 0).1, (connGo h xs bl 0).2.1, h, (connGo h xs bl 0).2.2) else (0, 0, h + 1, (connGo h xs bl 0).2.2)) := by show _ = _; unfold connZ; rw [if_neg h40, if_neg (by rw [HN.out]; exact h6)]
      have g6 : decide ((6 : Int) < (n : Int)) = false := by rw [decide_eq_false_iff_not]; omega
      go_enter Tryz.func96, Tryz.ntmps96
      go_wp2
      go_loopw [19] (fun i wr => ∃ (k : Nat) (v' : Value) (xk : List Cel), k ≤ n ∧ i = .int .i64 k ∧ Hid (connGo h xk (bl.drop k) k = connGo h xs bl 0) ∧ Hid (Vals xk) ∧ Hid (xk.length ≤ 5000 + 8 * k) ∧ ChOwn Ex wr b o v' h xk ∧ ChStep b v v' w wr) (fun i _ => n - (intOf i).toNat)
      case atStart => exact ⟨0, v, xs, Nat.zero_le _, rfl, rfl, HV, HL.out, HC.out, ChStep.refl _ _ _⟩
      case round =>
        obtain ⟨k, v', xk, hk, rfl, hz, hvk, hlk, hch, hst⟩ := hrel
        by_cases hlt : k < n
        · have hblk := HB.out.fr hst.fr (fun q hq => (HNE.out q hq).2)
          rcases hblk.row with hnil | ⟨g, off, rfl, hrow⟩
          · have := HN.out; rw [hnil] at this; simp at this; omega
          obtain ⟨t0, t1, t2⟩ := txCells hrow k (by rw [HN.out]; exact hlt)
          have hok := hblk.ok _ (getD_mem bl dT k (by rw [HN.out]; exact hlt))
          have HZ : Hid _ := hz.out
          rw [connGo_drop h xk bl k (by rw [HN.out]; exact hlt)] at HZ
          clear hrow hblk hz
          generalize bl.getD k dT = y at t0 t1 t2 hok HZ
          have HAG : Hid _ := addZ_good xk h y.t y.ins y.ys (k == 0) hvk.out
          obtain ⟨yt, yai, yn, yc, yap, ym, yd, yins, yys⟩ := y
          simp only at t0 t1 t2 HZ HAG
          have hst4 := hst.trans (ChStep.of_below ((Below.refl wr.heap.size wr).alloc (Nat.le_refl _) (.cells #[.int .i64 yt, .slice yai yn yc, .slice yap ym yd] 35)) b v')
          have hch4 := hch.alloc (.cells #[.int .i64 yt, .slice yai yn yc, .slice yap ym yd] 35)
          have hok4 := hok.fr (E := fun _ => False) (Fr.of_below ((Below.refl wr.heap.size wr).alloc (Nat.le_refl _) (.cells #[.int .i64 yt, .slice yai yn yc, .slice yap ym yd] 35)) _) (fun _ _ h => h)
          have hb0 : ((k : Int) == 0) = (k == 0) := by
            rcases Nat.eq_zero_or_pos k with rfl | hp
            · rfl
            · have h1 : ((k : Int) == 0) = false := by rw [beq_eq_false_iff_ne]; omega
              have h2 : (k == 0) = false := by rw [beq_eq_false_iff_ne]; omega
              rw [h1, h2]
          have HNK : Hid (∀ q, N q → ¬ chE b v' q) := fun q hq e => by
            obtain ⟨hq1, hq2⟩ := HNE.out q hq
            rcases e with e | e
            · exact hq2 (Or.inl e)
            · rcases hst.own q e with e' | e'
              · exact hq2 (Or.inr e')
              · omega
          go_wp2_with fail
          generalize wr.alloc (.cells #[.int .i64 yt, .slice yai yn yc, .slice yap ym yd] 35) = w4 at *
          have HOK4 : Hid (TxOk N w4 ⟨yt, yai, yn, yc, yap, ym, yd, yins, yys⟩) := hok4
          have HCH4 : Hid (ChOwn Ex w4 b o v' h xk) := hch4
          have HST4 : Hid (ChStep b v v' w w4) := hst4
          clear hok4 hch4 hst4 hok hch hst t0 t1 t2
          refine (add_any b o v' h xk N ⟨yt, yai, yn, yc, yap, ym, yd, yins, yys⟩ (k == 0) _ HCH4.out (by have := hlk.out; omega) hvk.out hh HOK4.out HNK.out).mono ?_
          rintro e w5 ⟨v5, rfl, hch5, hst5⟩
          simp only at hch5
          have hst5 := HST4.out.trans hst5
          have HL5 : Hid ((addZ xk h yt yins yys (k == 0)).2.length ≤ 5000 + 8 * (k + 1)) := by show _ ≤ _; have h1 := HAG.out.2; have h2 := hlk.out; omega
          have HV5 : Hid (Vals (addZ xk h yt yins yys (k == 0)).2) := HAG.out.1
          clear HCH4 HST4 HOK4 HNK HAG hlk hvk
          generalize (addZ xk h yt yins yys (k == 0)).2 = x5 at *
          generalize (addZ xk h yt yins yys (k == 0)).1 = e5 at *
          have HCH5 : Hid (ChOwn Ex w5 b o v5 h x5) := hch5
          have HST5 : Hid (ChStep b v v5 w w5) := hst5
          clear hch5 hst5
          by_cases he5 : e5 = 0
          · subst he5
            have HZ' : Hid (connGo h x5 (bl.drop (k + 1)) (k + 1) = connGo h xs bl 0) := by
              show _ = _
              have := HZ.out
              rw [if_neg (by simp)] at this
              exact this
            go_wp2
            go_roundw
            case rel => exact ⟨k + 1, v5, x5, by omega, by go_num, HZ', HV5, HL5.out, HCH5.out, HST5.out⟩
            case measure => simp [intOf]; omega
          · have he5' : (e5 == 0) = false := by rw [beq_eq_false_iff_ne]; exact he5
            have he5'' : (e5 != 0) = true := by simp [bne, he5']
            have HZ' : Hid ((e5, (k : Int), tbZ h x5) = connGo h xs bl 0) := by
              show _ = _
              have := HZ.out
              rw [if_pos he5] at this
              exact this
            have HE5 : Hid (connZ h xs bl = (e5, (k : Int), h, tbZ h x5)) := by
              show _ = _
              rw [HE.out, ← HZ'.out, if_pos he5]
            go_wp2_with fail
            refine (takeBack_any b o v5 h x5 _ HCH5.out (by have := HL5.out; omega)).mono ?_
            rintro e w6 ⟨rfl, v6, hch6, hst6⟩
            have hst6 := HST5.out.trans hst6
            go_wp2
            go_ret2
            rw [HE5.out]
            exact ⟨rfl, v6, hch6, hst6⟩
        · have hkn : k = n := by omega
          subst hkn
          have HZ' : Hid ((0, 0, xk) = connGo h xs bl 0) := by
            show _ = _
            rw [← hz.out, List.drop_of_length_le (by rw [HN.out]; omega)]
            rfl
          have HE5 : Hid (connZ h xs bl = (0, 0, h + 1, xk)) := by
            show _ = _
            rw [HE.out, ← HZ'.out, if_neg (by simp)]
          have d1 := hch.c1
          have f1 := hch.f1 (o + 1)
          have HCH : Hid (ChOwn Ex wr b o v' h xk) := hch
          have HST : Hid (ChStep b v v' w wr) := hst
          clear hch hst hz
          have hw1 : IntKind.i64.wrap (h + 1) = h + 1 := IntWalk.i64_in _ ⟨by omega, by omega⟩
          go_wp2
          go_ret2
          rw [HE5.out]
          exact ⟨rfl, v', HCH.out.hgt (h + 1), HST.out.trans ⟨(Fr.refl _ wr).set b (o + 1) _ (fun _ => Or.inl rfl), fun _ hk => Or.inl hk⟩⟩
end Go.Proofs.YtffgpepngcnjeabGreatQ

namespace Go.Proofs.YtffgpepngcnjeabGreatQ
open Go.RowKit
/-- the block XB holds a transaction's three cells and may be written -/
structure Tx3 (w : World) (XB : Nat) (a b c : Value) : Prop where
  c0 : w.cell? ⟨XB, 0, none⟩ = some a
  c1 : w.cell? ⟨XB, 1, none⟩ = some b
  c2 : w.cell? ⟨XB, 2, none⟩ = some c
  f0 : w.frozen? ⟨XB, 0, none⟩ = false
  f1 : w.frozen? ⟨XB, 1, none⟩ = false
  f2 : w.frozen? ⟨XB, 2, none⟩ = false
theorem Tx3.gb {w w' : World} {row : Option Nat} (h : w.grownBy w' row) {XB : Nat} {a b c : Value} (hx : Tx3 w XB a b c) (hne : some XB ≠ row) : Tx3 w' XB a b c := by
  have hlt := cell_lt hx.c0
  exact ⟨gb_cell h hx.c0 hne, gb_cell h hx.c1 hne, gb_cell h hx.c2 hne, (gb_frozen h hlt hne).trans hx.f0, (gb_frozen h hlt hne).trans hx.f1, (gb_frozen h hlt hne).trans hx.f2⟩
theorem Tx3.grown {w w' : World} (h : Below w.heap.size w w') {XB : Nat} {a b c : Value} (hx : Tx3 w XB a b c) : Tx3 w' XB a b c := hx.gb (gb_below h Option.none) (by simp)
theorem Tx3.new (w : World) (a b c : Value) (T : TypeId) : Tx3 (w.alloc (.cells #[a, b, c] T)) w.heap.size a b c := by
  refine ⟨?_, ?_, ?_, World.frozen?_alloc_at _ _ _ _ rfl, World.frozen?_alloc_at _ _ _ _ rfl, World.frozen?_alloc_at _ _ _ _ rfl⟩
  all_goals
    rw [World.cell?_alloc_new]
    rfl
theorem ne_off {b i j : Nat} (h : i ≠ j) : (⟨b, i, none⟩ : Addr) ≠ ⟨b, j, none⟩ := fun e => h (congrArg Addr.off e)
theorem Tx3.set1 {w : World} {XB : Nat} {a b c : Value} (h : Tx3 w XB a b c) (v : Value) : Tx3 (w.setCell ⟨XB, 1, none⟩ v) XB a v c :=
  ⟨by rw [World.cell?_setCell_other _ _ _ _ (ne_off (by decide))]; exact h.c0, World.cell?_setCell_same _ _ _ h.c1, by rw [World.cell?_setCell_other _ _ _ _ (ne_off (by decide))]; exact h.c2,
    by rw [World.frozen?_setCell]; exact h.f0, by rw [World.frozen?_setCell]; exact h.f1, by rw [World.frozen?_setCell]; exact h.f2⟩
theorem Tx3.set2 {w : World} {XB : Nat} {a b c : Value} (h : Tx3 w XB a b c) (v : Value) : Tx3 (w.setCell ⟨XB, 2, none⟩ v) XB a b v :=
  ⟨by rw [World.cell?_setCell_other _ _ _ _ (ne_off (by decide))]; exact h.c0, by rw [World.cell?_setCell_other _ _ _ _ (ne_off (by decide))]; exact h.c1, World.cell?_setCell_same _ _ _ h.c2,
    by rw [World.frozen?_setCell]; exact h.f0, by rw [World.frozen?_setCell]; exact h.f1, by rw [World.frozen?_setCell]; exact h.f2⟩
/-- the seals of the inputs: readable, of the call's own, not in the row of the inputs -/
def Seals (w : World) (base : Nat) (row : Option Nat) (Q : Nat → InD → Prop) (xs : List InD) : Prop :=
  ∀ j, j < xs.length → InOk w (xs.getD j dIn) ∧ Q j (xs.getD j dIn) ∧ ∀ a, (xs.getD j dIn).ao = some a → base ≤ a.block ∧ a.block < w.heap.size ∧ some a.block ≠ row
theorem Seals.gb {w w' : World} {row' : Option Nat} (h : w.grownBy w' row') {base : Nat} {row : Option Nat} {Q : Nat → InD → Prop} {xs : List InD} (hs : Seals w base row Q xs) (hne : ∀ k, row' = some k → k < base ∨ row = some k) : Seals w' base row Q xs := by
  intro j hj
  obtain ⟨h1, h2, h3⟩ := hs j hj
  refine ⟨gb_ok h h1 (fun a ha e => ?_), h2, fun a ha => ⟨(h3 a ha).1, Nat.lt_of_lt_of_le (h3 a ha).2.1 h.size, (h3 a ha).2.2⟩⟩
  rcases hne a.block e.symm with hk | hk
  · have := (h3 a ha).1; omega
  · exact (h3 a ha).2.2 hk.symm
/-- the inputs so far -/
structure SInv (W : World) (XB : Nat) (Q : Nat → InD → Prop) (t : Int) (vi vo : Value) (xs : List InD) (wr : World) : Prop where
  own : OwnIns wr (XB + 1) vi xs
  ok : Seals wr (XB + 1) vi.ownBlock Q xs
  tx : Tx3 wr XB (.int .i64 t) vi vo
  bel : Below XB W wr
  lt : XB < wr.heap.size
theorem SInv.grown {W : World} {XB : Nat} {Q : Nat → InD → Prop} {t : Int} {vi vo : Value} {xs : List InD} {wr ws : World} (h : SInv W XB Q t vi vo xs wr) (hb : Below wr.heap.size wr ws) : SInv W XB Q t vi vo xs ws := by
  have hg := gb_below hb Option.none
  exact ⟨owns_gb hg h.own (fun k _ => by simp), h.ok.gb hg (fun k hk => by cases hk), h.tx.grown hb, h.bel.trans (hb.mono (by have := h.lt; omega)), Nat.lt_of_lt_of_le h.lt hb.size⟩
theorem SInv.push {W : World} {XB : Nat} {Q : Nat → InD → Prop} {t : Int} {vi vo : Value} {xs : List InD} {wr ws w2 : World} {y : InD} {g cap : Nat} (h : SInv W XB Q t vi vo xs wr) (hb : Below wr.heap.size wr ws)
    (hy : InOk ws y) (hq : Q xs.length y) (hyb : ∀ a, y.ao = some a → wr.heap.size ≤ a.block ∧ a.block < ws.heap.size)
    (hown : OwnIns w2 (XB + 1) (.slice (some ⟨g, 0, none⟩) (xs.length + 1) cap) (xs ++ [y])) (hg : ws.grownBy w2 vi.ownBlock) (hlies : vi.ownBlock = some g ∨ ws.heap.size ≤ g) :
    SInv W XB Q t (.slice (some ⟨g, 0, none⟩) (xs.length + 1) cap) vo (xs ++ [y]) (w2.setCell ⟨XB, 1, none⟩ (.slice (some ⟨g, 0, none⟩) (xs.length + 1) cap)) := by
  have hs := h.grown hb
  have hvi := owns_blk h.own
  have hvX : some XB ≠ vi.ownBlock := fun e => by have := (hvi XB e.symm).1; omega
  have hgX : XB + 1 ≤ g := (owns_blk hown g rfl).1
  have hset := gb_set w2 XB 1 (.slice (some ⟨g, 0, none⟩) (xs.length + 1) cap)
  have hvg : ∀ k, vi.ownBlock = some k → XB ≤ k := fun k hk => by have := (hvi k hk).1; omega
  refine ⟨owns_gb hset hown (fun k hk e => ?_), ?_, (hs.tx.gb hg hvX).set1 _, ((hs.bel.trans (gb_to_below hg (by have := hs.lt; omega) hvg)).setCell (Nat.le_refl _) _), ?_⟩
  · simp [Value.ownBlock] at hk
    subst hk
    injection e with e
    omega
  · intro j hj
    rw [List.length_append] at hj
    by_cases hjl : j < xs.length
    · have e : (xs ++ [y]).getD j dIn = xs.getD j dIn := by simp only [List.getD]; rw [List.getElem?_append_left hjl]
      rw [e]
      obtain ⟨h1, h2, h3⟩ := hs.ok j hjl
      have hoff : Off (xs.getD j dIn).ao vi.ownBlock := fun a ha => (h3 a ha).2.2
      have hoff2 : Off (xs.getD j dIn).ao (some XB) := fun a ha e => by injection e with e; have := (h3 a ha).1; omega
      refine ⟨gb_ok hset (gb_ok hg h1 hoff) hoff2, h2, fun a ha => ⟨(h3 a ha).1, ?_, fun e => ?_⟩⟩
      · rw [World.size_setCell]; exact Nat.lt_of_lt_of_le (h3 a ha).2.1 hg.size
      · simp [Value.ownBlock] at e
        rcases hlies with hl | hl
        · exact (h3 a ha).2.2 (by rw [e]; exact hl.symm)
        · have := (h3 a ha).2.1; omega
    · have e : j = xs.length := by simp at hj; omega
      subst e
      have e : (xs ++ [y]).getD xs.length dIn = y := by simp [List.getD]
      rw [e]
      have hoff : Off y.ao vi.ownBlock := fun a ha e => by have := (hvi _ e.symm).2; have := (hyb a ha).1; omega
      have hoff2 : Off y.ao (some XB) := fun a ha e => by injection e with e; have := (hyb a ha).1; have := h.lt; omega
      refine ⟨gb_ok hset (gb_ok hg hy hoff) hoff2, hq, fun a ha => ⟨?_, ?_, fun e => ?_⟩⟩
      · have := (hyb a ha).1; have := h.lt; omega
      · rw [World.size_setCell]; exact Nat.lt_of_lt_of_le (hyb a ha).2 hg.size
      · simp [Value.ownBlock] at e
        rcases hlies with hl | hl
        · have := (hvi g hl).2; have := (hyb a ha).1; omega
        · have := (hyb a ha).2; omega
  · rw [World.size_setCell]; exact Nat.lt_of_lt_of_le hs.lt hg.size
/-- the outputs so far -/
structure OInv (Wm : World) (XB : Nat) (Q : Int × Int → Prop) (t : Int) (vi vo : Value) (ys : List (Int × Int)) (wr : World) : Prop where
  own : OwnOuts wr Wm.heap.size vo ys
  ok : ∀ j, j < ys.length → Q (ys.getD j (0, 0))
  tx : Tx3 wr XB (.int .i64 t) vi vo
  gb : Wm.grownBy wr (some XB)
  lt : XB < Wm.heap.size
theorem OInv.grown {Wm : World} {XB : Nat} {Q : Int × Int → Prop} {t : Int} {vi vo : Value} {ys : List (Int × Int)} {wr ws : World} (h : OInv Wm XB Q t vi vo ys wr) (hb : Below wr.heap.size wr ws) : OInv Wm XB Q t vi vo ys ws :=
  ⟨owns_gb (gb_below hb Option.none) h.own (fun k _ => by simp), h.ok, h.tx.grown hb, gb_trans h.gb (gb_below hb _), h.lt⟩
theorem OInv.push {Wm : World} {XB : Nat} {Q : Int × Int → Prop} {t : Int} {vi vo : Value} {ys : List (Int × Int)} {ws w2 : World} {y : Int × Int} {g cap : Nat} (hs : OInv Wm XB Q t vi vo ys ws) (hq : Q y)
    (hown : OwnOuts w2 Wm.heap.size (.slice (some ⟨g, 0, none⟩) (ys.length + 1) cap) (ys ++ [y])) (hg : ws.grownBy w2 vo.ownBlock) :
    OInv Wm XB Q t vi (.slice (some ⟨g, 0, none⟩) (ys.length + 1) cap) (ys ++ [y]) (w2.setCell ⟨XB, 2, none⟩ (.slice (some ⟨g, 0, none⟩) (ys.length + 1) cap)) := by
  have hvo := owns_blk hs.own
  have hlt := hs.lt
  have hvX : some XB ≠ vo.ownBlock := fun e => by have := (hvo XB e.symm).1; omega
  have hgX : Wm.heap.size ≤ g := (owns_blk hown g rfl).1
  have hset := gb_set w2 XB 2 (.slice (some ⟨g, 0, none⟩) (ys.length + 1) cap)
  have hg2 : Wm.grownBy w2 (some XB) := by
    refine ⟨hg.os.trans hs.gb.os, hg.tape.trans hs.gb.tape, hg.output.trans hs.gb.output, Nat.le_trans hs.gb.size hg.size, fun k hk hne => ?_⟩
    refine (hg.block k (Nat.lt_of_lt_of_le hk hs.gb.size) (fun e => ?_)).trans (hs.gb.block k hk hne)
    have := (hvo k e.symm).1
    omega
  refine ⟨owns_gb hset hown (fun k hk e => ?_), fun j hj => ?_, (hs.tx.gb hg hvX).set2 _, gb_trans hg2 hset, hlt⟩
  · simp [Value.ownBlock] at hk
    subst hk
    injection e with e
    omega
  · rw [List.length_append] at hj
    by_cases hjl : j < ys.length
    · have e : (ys ++ [y]).getD j (0, 0) = ys.getD j (0, 0) := by simp only [List.getD]; rw [List.getElem?_append_left hjl]
      rw [e]
      exact hs.ok j hjl
    · have e : j = ys.length := by simp at hj; omega
      subst e
      have e : (ys ++ [y]).getD ys.length (0, 0) = y := by simp [List.getD]
      rw [e]
      exact hq
/-- a transaction in lists of the call's own -/
structure Fresh (w : World) (base : Nat) (vi vo : Value) (Q : Nat → InD → Prop) (xs : List InD) (ys : List (Int × Int)) : Prop where
  ins : OwnIns w base vi xs
  outs : OwnOuts w base vo ys
  ok : Seals w base vi.ownBlock Q xs
  apart : ∀ k, vo.ownBlock = some k → some k ≠ vi.ownBlock ∧ ∀ j, j < xs.length → Off (xs.getD j dIn).ao (some k)
theorem Fresh.of {W Wm wr : World} {XB : Nat} {Q : Nat → InD → Prop} {P : Int × Int → Prop} {t : Int} {vi vo vo0 : Value} {xs : List InD} {ys : List (Int × Int)} (hs : SInv W XB Q t vi vo0 xs Wm) (ho : OInv Wm XB P t vi vo ys wr) : Fresh wr (XB + 1) vi vo Q xs ys := by
  have hvi := owns_blk hs.own
  have hvo := owns_blk ho.own
  refine ⟨owns_gb ho.gb hs.own (fun k hk e => ?_), ?_, hs.ok.gb ho.gb (fun k hk => ?_), fun k hk => ⟨fun e => ?_, fun j hj a ha e => ?_⟩⟩
  · injection e with e
    have := (hvi k hk).1
    omega
  · obtain ⟨h1, h2 | ⟨g, cap, cur, e, hb, hr⟩⟩ := ho.own
    · exact ⟨h1, Or.inl h2⟩
    · exact ⟨h1, Or.inr ⟨g, cap, cur, e, by have := hs.lt; omega, hr⟩⟩
  · injection hk with hk
    exact Or.inl (by omega)
  · have := (hvo k hk).1
    have := (hvi k e.symm).2
    omega
  · injection e with e
    have := ((hs.ok j hj).2.2 a ha).2.1
    have := (hvo k hk).1
    omega
theorem Fresh.gb {w w' : World} {row : Option Nat} (h : w.grownBy w' row) {base : Nat} {vi vo : Value} {Q : Nat → InD → Prop} {xs : List InD} {ys : List (Int × Int)} (hf : Fresh w base vi vo Q xs ys) (hr : ∀ k, row = some k → k < base) : Fresh w' base vi vo Q xs ys := by
  have hvi := owns_blk hf.ins
  have hvo := owns_blk hf.outs
  exact ⟨owns_gb h hf.ins (fun k hk e => by have := hr k e.symm; have := (hvi k hk).1; omega), owns_gb h hf.outs (fun k hk e => by have := hr k e.symm; have := (hvo k hk).1; omega), hf.ok.gb h (fun k hk => Or.inl (hr k hk)), hf.apart⟩
theorem Fresh.grown {w w' : World} (h : Below w.heap.size w w') {base : Nat} {vi vo : Value} {Q : Nat → InD → Prop} {xs : List InD} {ys : List (Int × Int)} (hf : Fresh w base vi vo Q xs ys) : Fresh w' base vi vo Q xs ys :=
  hf.gb (gb_below h Option.none) (fun k hk => by cases hk)
theorem gb_put3 (w : World) (b o : Nat) (x y z : Value) : w.grownBy (put3 w b o x y z) (some b) := gb_trans (gb_trans (gb_set _ _ _ _) (gb_set _ _ _ _)) (gb_set _ _ _ _)
theorem owns_lowerT {w : World} {base B e size : Nat} {v : Value} {n : Nat} {cs : List Value} (h : w.ownsRow base e size v n cs) (hB : B ≤ base) : w.ownsRow B e size v n cs := by
  obtain ⟨h1, h | ⟨g, cap, cur, rfl, hbg, hg⟩⟩ := h
  · exact ⟨h1, Or.inl h⟩
  · exact ⟨h1, Or.inr ⟨g, cap, cur, rfl, Nat.le_trans hB hbg, hg⟩⟩
theorem Fresh.lower {w : World} {base B : Nat} {vi vo : Value} {Q : Nat → InD → Prop} {xs : List InD} {ys : List (Int × Int)} (h : Fresh w base vi vo Q xs ys) (hB : B ≤ base) : Fresh w B vi vo Q xs ys :=
  ⟨owns_lowerT h.ins hB, owns_lowerT h.outs hB, fun j hj => ⟨(h.ok j hj).1, (h.ok j hj).2.1, fun a ha => ⟨Nat.le_trans hB ((h.ok j hj).2.2 a ha).1, ((h.ok j hj).2.2 a ha).2⟩⟩, h.apart⟩
end Go.Proofs.YtffgpepngcnjeabGreatQ

namespace Go.Proofs.YtffgpepngcnjeabGreatQ
open Go.RowKit
theorem copy_gen {sT elem sz : Nat} (hu : Tryz.prog.underlying sT = some (.slice elem)) (hs : (Tryz.prog.info? elem).map (fun x : TypeInfo => x.size) = some sz) (W : World) (g n : Nat) (ao : Option Addr) (c : Nat) (cur : Array Value) (cs : List Value)
    (hg : W.heap[g]? = some (.cells cur elem (0, 0))) (hsz : cur.size = n * sz) (hl : cs.length = n * sz) (hsrc : 0 < cs.length → ∃ a, ao = some a ∧ ∀ j v, cs[j]? = some v → W.cell? (a.add j) = some v) (h1 : ∀ v ∈ cs, v.oneCell' = true) (h0 : ao = none → n = 0 ∧ c = 0) :
    ∃ w1, Sem.run Tryz.prog (Builtin.copy_ #[sT, sT] 3 #[.slice (some ⟨g, 0, none⟩) n n, .slice ao n c]) W = .ok (.int .i64 n) w1 ∧ w1.heap[g]? = some (.cells cs.toArray elem (0, 0)) ∧ W.grownBy w1 (some g) := by
  cases ao with
  | none =>
    obtain ⟨rfl, rfl⟩ := h0 rfl
    have e1 : cs = [] := List.length_eq_zero_iff.1 (by rw [hl]; omega)
    have e2 : cur = #[] := Array.size_eq_zero_iff.1 (by rw [hsz]; omega)
    subst e1
    subst e2
    exact ⟨W, run_copy_nil Tryz.prog _ sT sT 3 elem _ _ _ hu (by rw [hs]; rfl), hg, ⟨rfl, rfl, rfl, Nat.le_refl _, fun _ _ _ => rfl⟩⟩
  | some a =>
    have hsrc' : ∀ j v, cs[j]? = some v → W.cell? (a.add j) = some v := by
      intro j v hj
      by_cases hp : 0 < cs.length
      · obtain ⟨b, e, h⟩ := hsrc hp
        cases e
        exact h j v hj
      · have : cs = [] := List.length_eq_zero_iff.1 (by omega)
        rw [this] at hj
        simp at hj
    have hmin : Nat.min n n = n := Nat.min_self n
    have hrun := run_copy_wide Tryz.prog W sT sT 3 elem g 0 n n a n c cur elem cs sz hu hs hg (by rw [hmin]; exact hl) hsrc' (by omega) h1
    have e : (cur.toList.take 0 ++ cs ++ cur.toList.drop (0 + cs.length)).toArray = cs.toArray := by
      rw [List.take_zero, List.nil_append, List.drop_of_length_le (by rw [Array.length_toList]; omega), List.append_nil]
    rw [e, hmin] at hrun
    exact ⟨_, hrun, setRow_heap W g cur cs.toArray elem (0, 0) hg, ⟨rfl, rfl, rfl, by simp [World.setRow], fun k _ hne => setRow_other W g k _ (fun e => hne (by rw [e]))⟩⟩
theorem ints_src {W : World} {ao : Option Addr} {l : List Int} (h : IntsAt W ao l) : 0 < (l.map (Value.int .i64)).length → ∃ a, ao = some a ∧ ∀ j v, (l.map (Value.int .i64))[j]? = some v → W.cell? (a.add j) = some v := by
  intro hp
  obtain ⟨_, ad, e, hh⟩ := copy_src h (Below.refl _ _) 0 hp
  exact ⟨ad, e, hh⟩
theorem owns_whole {w : World} {g e n size base : Nat} {cs : List Value} (h : w.heap[g]? = some (.cells cs.toArray e (0, 0))) (hl : cs.length = n * size) (hb : base ≤ g) (hn : n ≤ maxLen) : w.ownsRow base e size (.slice (some ⟨g, 0, none⟩) n n) n cs := by
  refine ⟨hl, Or.inr ⟨g, n, cs.toArray, rfl, hb, h, Nat.le_refl _, hn, by simpa using hl, ?_⟩⟩
  rw [List.take_of_length_le (by simpa using Nat.le_of_eq hl)]
theorem make_intsN (n : Nat) (hn : n ≤ 17592186044416) : ∀ u : World, (Instr.makeSlice 44 (.int .i64 (n : Int)) (.int .i64 (n : Int))).run Tryz.prog u =
    .ok (.slice (some ⟨u.heap.size, 0, none⟩) n n) (u.alloc (.cells (madeCells #[.int .i64 0] n) 3)) := fun u => by
  obtain ⟨i0, hi, hz0, hz1, hz2⟩ := info_parts info3
  have h := run_make (P := Tryz.prog) u 44 3 i0 (.int .i64 0) Tryz.underlying44 hi hz0 .i64 .i64 (n : Int) (n : Int) (by omega) (Int.le_refl _) (by rw [hz2]; omega) (by omega)
  simpa [hz1, Value.cells] using h
theorem make_outsT (n : Nat) (hn : n ≤ 8796093022208) : ∀ u : World, (Instr.makeSlice 28 (.int .i64 (n : Int)) (.int .i64 (n : Int))).run Tryz.prog u =
    .ok (.slice (some ⟨u.heap.size, 0, none⟩) n n) (u.alloc (.cells (madeCells #[.int .i64 0, .int .i64 0] (n * 2)) 93)) := fun u => by
  obtain ⟨i0, hi, hz0, hz1, hz2⟩ := info_parts info93
  have h := run_make (P := Tryz.prog) u 28 93 i0 (.agg #[.int .i64 0, .int .i64 0]) Tryz.underlying28 hi hz0 .i64 .i64 (n : Int) (n : Int) (by omega) (Int.le_refl _) (by rw [hz2]; omega) (by omega)
  simpa [hz1, Value.cells] using h
/-- the copy of a seal: made and filled -/
theorem copy_seal (ao : Option Addr) (n c : Nat) (l : List Int) (w : World) (hr : IntsAt w ao l) (hn : l.length = n) (hm : n ≤ 17592186044416) (h0 : ao = none → c = 0) :
    ∃ w1, Sem.run Tryz.prog (Builtin.copy_ #[44, 44] 3 #[.slice (some ⟨w.heap.size, 0, none⟩) n n, .slice ao n c]) (w.alloc (.cells (madeCells #[.int .i64 0] n) 3)) = .ok (.int .i64 n) w1 ∧
      OwnInts w1 w.heap.size (.slice (some ⟨w.heap.size, 0, none⟩) n n) l ∧ Below w.heap.size w w1 ∧ w.heap.size < w1.heap.size := by
  have hnil : ao = none → n = 0 ∧ c = 0 := by
    intro e
    refine ⟨?_, h0 e⟩
    rcases hr with rfl | ⟨b, off, e', _⟩
    · rw [← hn]; rfl
    · rw [e] at e'; cases e'
  have hb : Below w.heap.size w (w.alloc (.cells (madeCells #[.int .i64 0] n) 3)) := (Below.refl _ _).alloc (Nat.le_refl _) _
  obtain ⟨w1, h1, h2, h3⟩ := copy_gen Tryz.underlying44 sizeInfo3 (w.alloc (.cells (madeCells #[.int .i64 0] n) 3)) w.heap.size n ao c (madeCells #[.int .i64 0] n) (l.map (Value.int .i64)) (by have := heap_made w (madeCells #[.int .i64 0] n) 3; simpa using this) (by rw [size_madeCells]; omega) (by rw [List.length_map, hn]; omega) (ints_src (hr.grown hb)) (ints_one l) hnil
  refine ⟨w1, h1, ?_, hb.trans (gb_to_below h3 (by rw [World.size_alloc]; omega) (fun k hk => by injection hk with hk; omega)), ?_⟩
  · have := owns_whole (base := w.heap.size) (size := 1) (n := n) h2 (by rw [List.length_map, hn]; omega) (Nat.le_refl _) (by unfold maxLen; omega)
    unfold OwnInts
    rw [hn]
    exact this
  · have := h3.size
    rw [World.size_alloc] at this
    omega
theorem outCs_map (ys : List (Int × Int)) : outCs ys = (outL ys).map (Value.int .i64) := by
  induction ys with
  | nil => rfl
  | cons y r ih => simp only [outCs, outL, List.flatMap_cons, List.map_append] at ih ⊢; rw [ih]; rfl
/-- append(ins, x): at a step of a region that draws its order -/
theorem step_appIn (W : World) {ops : Array Oper} {o : Oper} {a : Act} {K : Act → World → Prop} {Q : Exit → Act → World → Prop} {E : Prop} (hgd : o.guard = none) (s x : Operand)
    (ho : o.op = .call { callee := .builtin .append, args := #[s, x], argTypes := #[33, 33] })
    (base g0 : Nat) (v : Value) (xs : List InD) (y : InD) (hs : a.eval s = v) (hx : a.eval x = .slice (some ⟨g0, 0, none⟩) 1 1) (hown : OwnIns W base v xs) (hc : W.cell? ⟨g0, 0, none⟩ = some (.int .i64 y.id) ∧ W.cell? ⟨g0, 1, none⟩ = some (.int .i64 y.pos) ∧ W.cell? ⟨g0, 2, none⟩ = some (.slice y.ao y.n y.c)) (hbase : base ≤ W.heap.size) (hlen : xs.length < 3518437208883)
    (h : ∀ g cap w', OwnIns w' base (.slice (some ⟨g, 0, none⟩) (xs.length + 1) cap) (xs ++ [y]) → W.grownBy w' v.ownBlock → (v.ownBlock = some g ∨ W.heap.size ≤ g) → g < w'.heap.size → K (a.put o.dst (.slice (some ⟨g, 0, none⟩) (xs.length + 1) cap)) w') :
    if Region.wanted o (yielded ops a.tmps) = true then Oper.wp Tryz.prog o a W K Q else E := by
  obtain ⟨i0, hi, hz0, hz1, hz2⟩ := info_parts info115
  refine step_append_lies W hgd s x 33 ho base 115 i0 _ 3 40 Tryz.underlying33 hi hz0 hz1 hz2 rfl (by decide) v xs.length (inCs xs) hs hown ⟨g0, 0, none⟩ 1 1 [.int .i64 y.id, .int .i64 y.pos, .slice y.ao y.n y.c] hx rfl ?_ (one3 _ _ _ _ _) (by decide) (by unfold maxLen; omega) (by omega) hbase W.heap.size rfl ?_
  · intro j u hj
    rw [Go.WideShapes.add_plain, Nat.zero_add]
    match j, hj with
    | 0, hj => simp at hj; subst hj; exact hc.1
    | 1, hj => simp at hj; subst hj; exact hc.2.1
    | 2, hj => simp at hj; subst hj; exact hc.2.2
  · intro g cap w' hown' hg hlies hlt
    refine h g cap w' ?_ hg ?_ hlt
    · unfold OwnIns
      rw [List.length_append, ← inCs_snoc]
      exact hown'
    · rcases hlies with e | e
      · exact Or.inl e
      · exact Or.inr (by omega)
/-- an input as another's, but for where its seal lies -/
def Same (x y : InD) : Prop := y.id = x.id ∧ y.pos = x.pos ∧ y.n = x.n ∧ y.l = x.l
end Go.Proofs.YtffgpepngcnjeabGreatQ
