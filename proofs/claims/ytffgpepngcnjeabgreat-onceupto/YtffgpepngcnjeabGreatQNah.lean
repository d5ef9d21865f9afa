/-
  Package chain: taken back, connected.
  The payments of a purse in memory; which coins they leave free.
  Package payments: what is held, which keys have sealed, which coins are free.
  What a purse shows, and whether two show the same.
  A purse's Connect and Disconnect.
  Found: its small functions.
-/
import Derived.Test.YtffgpepngcnjeabGreatQNag
import Derived.Test.YtffgpepngcnjeabGreatQNad
import Derived.Deep.QuietTactic
import Derived.Deep.CutBlock
import Derived.BigQuiet
import Derived.Test.YtffgpepngcnjeabGreatQNae
import Derived.Test.YtffgpepngcnjeabGreatQNaf
namespace Go.Proofs.YtffgpepngcnjeabGreatQ
open Go.RowKit
variable {Ex : List (Nat × Value)}
def leftI (h : Int) (xs : List Cel) : Nat → Nat
  | 0 => 0
  | k + 1 => if (xs.getD k dC).made = h then leftI h xs k else k + 1
theorem leftI_succ (h : Int) (xs : List Cel) (k : Nat) : leftI h xs (k + 1) = if (xs.getD k dC).made = h then leftI h xs k else k + 1 := rfl
theorem leftI_le (h : Int) (xs : List Cel) : ∀ k, leftI h xs k ≤ k := by
  intro k
  induction k with
  | zero => exact Nat.le_refl _
  | succ k ih => rw [leftI_succ]; split <;> omega
def unsp (h : Int) (x : Cel) : Cel := if x.spent = h then x.sp (-1) else x
def tbZ (h : Int) (xs : List Cel) : List Cel := (xs.take (leftI h xs xs.length)).map (unsp h)
/-- the first k are taken back -/
def partU (h : Int) (ys : List Cel) (k : Nat) : List Cel := (ys.take k).map (unsp h) ++ ys.drop k
theorem partU_len (h : Int) (ys : List Cel) (k : Nat) : (partU h ys k).length = ys.length := by
  simp only [partU, List.length_append, List.length_map, List.length_take, List.length_drop]
  omega
theorem partU_at (h : Int) (ys : List Cel) (k : Nat) (hk : k < ys.length) : (partU h ys k).getD k dC = ys.getD k dC := by
  simp only [partU, List.getD]
  rw [List.getElem?_append_right (by rw [List.length_map, List.length_take]; omega), List.length_map, List.length_take, List.getElem?_drop]
  congr 2
  omega
theorem partU_step (h : Int) (ys : List Cel) (k : Nat) (hk : k < ys.length) : partU h ys (k + 1) = (partU h ys k).set k (unsp h (ys.getD k dC)) := by
  simp only [partU]
  rw [List.take_succ_eq_append_getElem hk, List.map_append, List.drop_eq_getElem_cons hk]
  have hl : ((ys.take k).map (unsp h)).length = k := by rw [List.length_map, List.length_take]; omega
  rw [List.set_append_right _ _ (by omega), hl, Nat.sub_self, List.set_cons_zero, List.append_assoc]
  simp only [List.getD, List.getElem?_eq_getElem hk, Option.getD_some]
  rfl
theorem partU_same (h : Int) (ys : List Cel) (k : Nat) (hk : k < ys.length) (hs : (ys.getD k dC).spent ≠ h) : partU h ys (k + 1) = partU h ys k := by
  rw [partU_step h ys k hk]
  have e : unsp h (ys.getD k dC) = (partU h ys k).getD k dC := by
    rw [partU_at h ys k hk]
    unfold unsp
    rw [if_neg hs]
  rw [e]
  have hk' : k < (partU h ys k).length := by rw [partU_len]; exact hk
  simp only [List.getD, List.getElem?_eq_getElem hk', Option.getD_some]
  exact List.set_getElem_self hk'
theorem OwnRec.take {α : Type} {f : α → List Value} {e k : Nat} (hf : ∀ x, (f x).length = k) {w : World} {base n c : Nat} {ao : Option Addr} {xs : List α} (h : OwnRec f e k w base (.slice ao n c) xs) (hn : xs.length = n) (m : Nat) (hm : m ≤ n) : OwnRec f e k w base (.slice ao m c) (xs.take m) := by
  have hl : (xs.take m).length = m := by rw [List.length_take]; omega
  obtain ⟨h1, ⟨h2, h3⟩ | ⟨g, cap, cur, h2, hb, hg, hnc, hcm, hcs, ht⟩⟩ := h
  · injection h2 with e1 e2 e3
    subst e1 e3
    have hm0 : m = 0 := by omega
    subst hm0
    exact OwnRec.nil _ _ _ _ _
  · injection h2 with e1 e2 e3
    subst e1 e3
    unfold OwnRec
    rw [hl]
    refine ⟨by rw [rec_len f k hf, hl], Or.inr ⟨g, c, cur, rfl, hb, hg, by omega, hcm, hcs, ?_⟩⟩
    have e4 : (xs.take m).flatMap f = (xs.flatMap f).take (m * k) := by
      have e5 : xs.flatMap f = (xs.take m).flatMap f ++ (xs.drop m).flatMap f := by rw [← List.flatMap_append, List.take_append_drop]
      have e6 : ((xs.take m).flatMap f).length = m * k := by rw [rec_len f k hf, hl]
      rw [e5, List.take_append_of_le_length (Nat.le_of_eq e6.symm), List.take_of_length_le (Nat.le_of_eq e6)]
    rw [e4, ← ht, List.take_take, Nat.min_eq_left (Nat.mul_le_mul_right k (by omega))]
theorem OwnRec.cap {α : Type} {f : α → List Value} {e k : Nat} {w : World} {base n c : Nat} {ao : Option Addr} {xs : List α} (h : OwnRec f e k w base (.slice ao n c) xs) (hn : xs.length = n) : n ≤ c ∧ c ≤ maxLen := by
  obtain ⟨h1, ⟨h2, h3⟩ | ⟨g, cap, cur, h2, hb, hg, hnc, hcm, hcs, ht⟩⟩ := h
  · injection h2 with e1 e2 e3
    subst e2 e3
    exact ⟨Nat.le_refl _, Nat.zero_le _⟩
  · injection h2 with e1 e2 e3
    subst e3
    exact ⟨by omega, hcm⟩
theorem ChOwn.cut {w : World} {b o n c : Nat} {ao : Option Addr} {h : Int} {xs : List Cel} (hc : ChOwn Ex w b o (.slice ao n c) h xs) (hn : xs.length = n) (m : Nat) (hm : m ≤ n) : ChOwn Ex (w.setCell ⟨b, o, none⟩ (.slice ao m c)) b o (.slice ao m c) h (xs.take m) := by
  have hown := OwnRec.take cel6 hc.own hn m hm
  refine ⟨World.cell?_setCell_same _ _ _ hc.c0, ?_, by rw [World.frozen?_setCell]; exact hc.f0, fun j => by rw [World.frozen?_setCell]; exact hc.f1 j, ?_, fun q hq => ⟨(hc.ext q hq).1, (hc.ext q hq).2.1, ?_⟩⟩
  · rw [World.cell?_setCell_other _ _ _ _ (by intro e; have := congrArg Addr.off e; simp only at this; omega)]
    exact hc.c1
  · exact hown.gb (gb_set w b o _) (fun k hk e => by injection e with e; have := (hown.blk k hk).1; omega)
  · rw [World.cell?_setCell_other _ _ _ _ (by intro e; have := congrArg Addr.off e; simp only at this; exact (hc.ext q hq).1 this.symm)]
    exact (hc.ext q hq).2.2
set_option maxRecDepth 100000 in
set_option maxHeartbeats 8000000 in
theorem takeBack_any (b o : Nat) (v : Value) (h : Int) (xs : List Cel) (w : World) (hc : ChOwn Ex w b o v h xs) (hlen : xs.length ≤ 20000) :
    Calls Tryz.prog 152 #[.pointer (some ⟨b, o, none⟩)] w fun e w' => e = .returned (.tuple #[]) ∧ ∃ v', ChOwn Ex w' b o v' h (tbZ h xs) ∧ ChStep b v v' w w' := by
  obtain ⟨ao, c, hv, _⟩ := hc.at
  subst hv
  have HC : Hid (ChOwn Ex w b o (.slice ao xs.length c) h xs) := hc
  generalize hn : xs.length = n at *
  have HN : Hid (xs.length = n) := hn
  clear hn
  have hcap := OwnRec.cap hc.own HN.out
  have hcm : c ≤ 9223372036854775807 := by have := hcap.2; unfold maxLen at this; omega
  have c0 := hc.c0
  clear hc
  go_enter Tryz.func152, Tryz.ntmps152
  go_upto_block 0 with fail
  go_cut [2] (fun u wx => u = .int .i64 (leftI h xs n) ∧ ChOwn Ex wx b o (.slice ao n c) h xs ∧ Below w.heap.size w wx)
  case first =>
    go_wp2_with fail
    go_loopw [2] (fun i wr => ∃ k : Nat, k ≤ n ∧ i = .int .i64 k ∧ Hid (leftI h xs k = leftI h xs n) ∧ ChOwn Ex wr b o (.slice ao n c) h xs ∧ Below w.heap.size w wr) (fun i _ => (intOf i).toNat)
    case atStart => exact ⟨n, Nat.le_refl _, rfl, rfl, HC.out, Below.refl _ _⟩
    case round =>
      obtain ⟨k, hk, rfl, hz, hch, hbl⟩ := hrel
      have HCH : Hid (ChOwn Ex wr b o (.slice ao n c) h xs) := hch
      have d0 := hch.c0
      have d1 := hch.c1
      cases k with
      | zero =>
        clear hch
        go_wp2_with fail
        go_quiet (fail)
        have HCQ : Hid (ChOwn Ex (wr.drewN nq) b o (.slice ao n c) h xs) := ⟨HCH.out.c0, HCH.out.c1, HCH.out.f0, HCH.out.f1, HCH.out.own, HCH.out.ext⟩
        have HBQ : Hid (Below w.heap.size w (wr.drewN nq)) := ⟨hbl.os, hbl.tape, hbl.output, hbl.size, hbl.block⟩
        go_wp2_with fail
        go_meet
        exact ⟨by rw [← hz.out]; rfl, HCQ.out, HBQ.out⟩
      | succ k =>
        obtain ⟨g, hg, hg1, hg2, hrow, _⟩ := own_some cel6 hch.own HN.out (by omega)
        subst hg
        have r4 := (celCells hrow k (by rw [HN.out]; omega)).c4
        rw [Nat.zero_add] at r4
        have HZ : Hid _ := hz.out
        rw [leftI_succ] at HZ
        generalize xs.getD k dC = y at r4 HZ
        obtain ⟨y0, y1, y2, y3, ym, y5⟩ := y
        simp only at r4
        clear hrow hch hz
        generalize hki : k + 1 = K
        have HKI : Hid (k + 1 = K) := hki
        have e3 : (k : Int) < (n : Int) := by omega
        have e4 : (0 : Int) ≤ (k : Int) := by omega
        have hw1 : IntKind.i64.wrap ((K : Int) - 1) = k := by rw [show (K : Int) - 1 = k by omega]; exact IntWalk.i64_in _ ⟨by omega, by omega⟩
        have hK0 : 0 < K := by omega
        have hd : decide ((0 : Int) < (K : Int)) = true := by rw [decide_eq_true_iff]; omega
        clear hki
        cases hy : (ym == h)
        · go_wp2_with fail
          go_quiet (fail)
          have HCQ : Hid (ChOwn Ex (wr.drewN nq) b o (.slice (some ⟨g, 0, none⟩) n c) h xs) := ⟨HCH.out.c0, HCH.out.c1, HCH.out.f0, HCH.out.f1, HCH.out.own, HCH.out.ext⟩
          have HBQ : Hid (Below w.heap.size w (wr.drewN nq)) := ⟨hbl.os, hbl.tape, hbl.output, hbl.size, hbl.block⟩
          go_wp2_with fail
          go_meet
          refine ⟨?_, HCQ.out, HBQ.out⟩
          have := HZ.out
          rw [if_neg (by simpa using hy)] at this
          rw [← this, HKI.out]
        · go_wp2_with fail
          go_quiet (fail)
          have HCQ : Hid (ChOwn Ex (wr.drewN nq) b o (.slice (some ⟨g, 0, none⟩) n c) h xs) := ⟨HCH.out.c0, HCH.out.c1, HCH.out.f0, HCH.out.f1, HCH.out.own, HCH.out.ext⟩
          have HBQ : Hid (Below w.heap.size w (wr.drewN nq)) := ⟨hbl.os, hbl.tape, hbl.output, hbl.size, hbl.block⟩
          go_wp2_with fail
          go_roundw
          case rel => exact ⟨k, by omega, by go_num, by show _ = _; have := HZ.out; rw [if_pos (by simpa using hy)] at this; exact this, HCQ.out, HBQ.out⟩
          case measure => have hKe := HKI.out; simp [intOf]; omega
  case rest =>
    obtain ⟨rfl, hch, hbl⟩ := hcut
    have hle := leftI_le h xs n
    have HTB : Hid (tbZ h xs = (xs.take (leftI h xs n)).map (unsp h)) := by show _ = _; unfold tbZ; rw [HN.out]
    generalize leftI h xs n = m at *
    have d0 := hch.c0
    have f0 := hch.f0
    have hcc := hcap.1
    have i1 : (0 : Int) ≤ (m : Int) := by omega
    have i2 : (m : Int) ≤ (c : Int) := by omega
    have HCUT : Hid (ChOwn Ex (wc.setCell ⟨b, o, none⟩ (.slice ao m c)) b o (.slice ao m c) h (xs.take m)) := hch.cut HN.out m hle
    have HFR : Hid (Fr (chE b (.slice ao n c)) w (wc.setCell ⟨b, o, none⟩ (.slice ao m c))) := (Fr.of_below hbl _).set b o _ (fun _ => Or.inl rfl)
    go_wp2
    generalize hys : xs.take m = ys at *
    have HYL : Hid (ys.length = m) := by show _ = _; rw [← hys, List.length_take, HN.out]; omega
    generalize wc.setCell ⟨b, o, none⟩ (.slice ao m c) = wd at *
    clear d0 f0 hch hbl hys c0
    go_loopw [3] (fun i wr => ∃ k : Nat, k ≤ m ∧ i = .int .i64 k ∧ ChOwn Ex wr b o (.slice ao m c) h (partU h ys k) ∧ Fr (chE b (.slice ao n c)) w wr) (fun i _ => m - (intOf i).toNat)
    case atStart => exact ⟨0, Nat.zero_le _, rfl, by simpa [partU] using HCUT.out, HFR.out⟩
    case round =>
      obtain ⟨k, hk, rfl, hch, hfr⟩ := hrel
      by_cases hlt : k < m
      · have hkl : k < ys.length := by rw [HYL.out]; exact hlt
        have hpl : (partU h ys k).length = m := by rw [partU_len, HYL.out]
        obtain ⟨g, hg, hg1, hg2, hrow, hfz⟩ := own_some cel6 hch.own hpl (by omega)
        subst hg
        have r5 := (celCells hrow k (by rw [hpl]; exact hlt)).c5
        rw [Nat.zero_add, partU_at h ys k hkl] at r5
        have d0 := hch.c0
        have d1 := hch.c1
        have fz := hfz (k * 6 + 5)
        have HS : Hid _ := partU_step h ys k hkl
        have HSm : Hid _ := partU_same h ys k hkl
        have HAt : Hid _ := partU_at h ys k hkl
        have HCH : Hid (ChOwn Ex wr b o (.slice (some ⟨g, 0, none⟩) m c) h (partU h ys k)) := hch
        have HPL : Hid ((partU h ys k).length = m) := hpl
        have hnb : g ≠ b := by omega
        generalize hyy : ys.getD k dC = y at r5 HS HSm HAt
        obtain ⟨y0, y1, y2, y3, y4, ysp⟩ := y
        simp only at r5
        clear hrow hfz hch hyy hkl hpl
        have e1 : (k : Int) < (m : Int) := by omega
        have e2 : (0 : Int) ≤ (k : Int) := by omega
        cases hy : (ysp == h)
        · go_wp2_with fail
          go_quiet (fail)
          have HCQ : Hid (ChOwn Ex (wr.drewN nq) b o (.slice (some ⟨g, 0, none⟩) m c) h (partU h ys (k + 1))) := by rw [HSm.out (by simpa using hy)]; exact ⟨HCH.out.c0, HCH.out.c1, HCH.out.f0, HCH.out.f1, HCH.out.own, HCH.out.ext⟩
          have HFQ : Hid (Fr (chE b (.slice (some ⟨g, 0, none⟩) n c)) w (wr.drewN nq)) := ⟨hfr.os, hfr.tape, hfr.output, hfr.size, hfr.block⟩
          go_wp2
          go_roundw
          case rel => exact ⟨k + 1, by omega, by go_num, HCQ.out, HFQ.out⟩
          case measure => simp [intOf]; omega
        · go_wp2_with fail
          go_quiet (fail)
          have HCQ : Hid (ChOwn Ex ((wr.drewN nq).setCell ⟨g, k * 6 + 5, none⟩ (.int .i64 (-1))) b o (.slice (some ⟨g, 0, none⟩) m c) h (partU h ys (k + 1))) := by
            have h1 : ChOwn Ex (wr.drewN nq) b o (.slice (some ⟨g, 0, none⟩) (partU h ys k).length c) h (partU h ys k) := by rw [HPL.out]; exact ⟨HCH.out.c0, HCH.out.c1, HCH.out.f0, HCH.out.f1, HCH.out.own, HCH.out.ext⟩
            have h2 := h1.mark k (by rw [HPL.out]; exact hlt) (-1)
            rw [HPL.out, HAt.out] at h2
            rw [HS.out]
            unfold unsp
            rw [if_pos (by simpa using hy)]
            exact h2
          have HFQ : Hid (Fr (chE b (.slice (some ⟨g, 0, none⟩) n c)) w ((wr.drewN nq).setCell ⟨g, k * 6 + 5, none⟩ (.int .i64 (-1)))) := by
            have hq0 : Fr (chE b (.slice (some ⟨g, 0, none⟩) n c)) w (wr.drewN nq) := ⟨hfr.os, hfr.tape, hfr.output, hfr.size, hfr.block⟩
            exact hq0.set g (k * 6 + 5) _ (fun _ => Or.inr rfl)
          go_wp2
          go_roundw
          case rel => exact ⟨k + 1, by omega, by go_num, HCQ.out, HFQ.out⟩
          case measure => simp [intOf]; omega
      · have hkm : k = m := by omega
        subst hkm
        have HFIN : Hid (ChOwn Ex wr b o (.slice ao k c) h (tbZ h xs)) := by
          have e : partU h ys k = tbZ h xs := by
            rw [HTB.out]
            unfold partU
            rw [List.take_of_length_le (by rw [HYL.out]; omega), List.drop_of_length_le (by rw [HYL.out]; omega), List.append_nil]
          rw [← e]
          exact hch
        clear hch
        go_wp2
        go_end0
        exact ⟨rfl, _, HFIN.out, hfr, fun q hq => Or.inl (by cases ao with | none => cases hq | some a => exact hq)⟩
end Go.Proofs.YtffgpepngcnjeabGreatQ
namespace Go.Proofs.YtffgpepngcnjeabGreatQ
open Go.RowKit
variable {Ex : List (Nat × Value)}
/-- a transaction in memory -/
structure TxD where
  t : Int
  ai : Option Addr
  n : Nat
  c : Nat
  ap : Option Addr
  m : Nat
  d : Nat
  ins : List InD
  ys : List (Int × Int)
def dT : TxD := ⟨0, none, 0, 0, none, 0, 0, [], []⟩
def TxD.v (x : TxD) : List Value := [.int .i64 x.t, .slice x.ai x.n x.c, .slice x.ap x.m x.d]
theorem tx3 (x : TxD) : x.v.length = 3 := rfl
structure TxCells (w : World) (b off : Nat) (x : TxD) : Prop where
  c0 : w.cell? ⟨b, off, none⟩ = some (.int .i64 x.t)
  c1 : w.cell? ⟨b, off + 1, none⟩ = some (.slice x.ai x.n x.c)
  c2 : w.cell? ⟨b, off + 2, none⟩ = some (.slice x.ap x.m x.d)
theorem txCells {w : World} {b off : Nat} {xs : List TxD} (h : VRow w b off (xs.flatMap TxD.v)) (j : Nat) (hj : j < xs.length) : TxCells w b (off + j * 3) (xs.getD j dT) :=
  ⟨rcell tx3 dT h j hj 0 (by omega), rcell tx3 dT h j hj 1 (by omega), rcell tx3 dT h j hj 2 (by omega)⟩
/-- its inputs and outputs lie in blocks of N -/
structure TxOk (N : Nat → Prop) (w : World) (x : TxD) : Prop where
  ins : InsAt w x.ai x.ins
  il : x.ins.length = x.n
  outs : OutsAt w x.ap x.ys
  ol : x.ys.length = x.m
  na : x.ins ≠ [] → ∀ a, x.ai = some a → N a.block
  np : x.ys ≠ [] → ∀ a, x.ap = some a → N a.block
  ns : ∀ i ∈ x.ins, i.l ≠ [] → ∀ a, i.ao = some a → N a.block
theorem ints_fr {E : Nat → Prop} {w w' : World} (hf : Fr E w w') {ao : Option Addr} {l : List Int} (h : IntsAt w ao l) (hn : l ≠ [] → ∀ a, ao = some a → ¬ E a.block) : IntsAt w' ao l := by
  by_cases he : l = []
  · exact Or.inl he
  · rcases h with h | ⟨b, off, rfl, hr⟩
    · exact Or.inl h
    · exact Or.inr ⟨b, off, rfl, hf.row hr (hn he _ rfl)⟩
theorem ins_fr {E : Nat → Prop} {w w' : World} (hf : Fr E w w') {ao : Option Addr} {l : List InD} (h : InsAt w ao l) (hn : l ≠ [] → ∀ a, ao = some a → ¬ E a.block) (hs : ∀ i ∈ l, i.l ≠ [] → ∀ a, i.ao = some a → ¬ E a.block) : InsAt w' ao l := by
  by_cases he : l = []
  · exact Or.inl he
  · rcases h with h | ⟨b, off, rfl, hr⟩
    · exact Or.inl h
    · refine Or.inr ⟨b, off, rfl, fun j hj => ?_⟩
      obtain ⟨⟨h0, h1, h2⟩, h3⟩ := hr j hj
      have hb := hn he _ rfl
      exact ⟨⟨hf.cell h0 hb, hf.cell h1 hb, hf.cell h2 hb⟩, ⟨ints_fr hf h3.lies (hs _ (getD_mem l dIn j hj)), h3.len, h3.sz, h3.nil⟩⟩
theorem outs_fr {E : Nat → Prop} {w w' : World} (hf : Fr E w w') {ao : Option Addr} {l : List (Int × Int)} (h : OutsAt w ao l) (hn : l ≠ [] → ∀ a, ao = some a → ¬ E a.block) : OutsAt w' ao l := by
  by_cases he : l = []
  · exact Or.inl he
  · rcases h with h | ⟨b, off, rfl, hr⟩
    · exact Or.inl h
    · exact Or.inr ⟨b, off, rfl, fun j hj => ⟨hf.cell (hr j hj).1 (hn he _ rfl), hf.cell (hr j hj).2 (hn he _ rfl)⟩⟩
theorem TxOk.fr {E N : Nat → Prop} {w w' : World} (hf : Fr E w w') {x : TxD} (h : TxOk N w x) (hn : ∀ k, N k → ¬ E k) : TxOk N w' x :=
  ⟨ins_fr hf h.ins (fun e a ha => hn _ (h.na e a ha)) (fun i hi e a ha => hn _ (h.ns i hi e a ha)), h.il, outs_fr hf h.outs (fun e a ha => hn _ (h.np e a ha)), h.ol, h.na, h.np, h.ns⟩
/-- a block of transactions in memory -/
structure BlkAt (N : Nat → Prop) (w : World) (ao : Option Addr) (bl : List TxD) : Prop where
  row : RecAt TxD.v w ao bl
  na : bl ≠ [] → ∀ a, ao = some a → N a.block
  ok : ∀ x ∈ bl, TxOk N w x
theorem BlkAt.fr {E N : Nat → Prop} {w w' : World} (hf : Fr E w w') {ao : Option Addr} {bl : List TxD} (h : BlkAt N w ao bl) (hn : ∀ k, N k → ¬ E k) : BlkAt N w' ao bl := by
  refine ⟨?_, h.na, fun x hx => (h.ok x hx).fr hf hn⟩
  by_cases he : bl = []
  · exact Or.inl he
  · rcases h.row with h1 | ⟨b, off, rfl, hr⟩
    · exact Or.inl h1
    · exact Or.inr ⟨b, off, rfl, hf.vrow hr (hn _ (h.na he _ rfl))⟩
def Vals (xs : List Cel) : Prop := ∀ x ∈ xs, 0 ≤ x.val ∧ x.val ≤ 1099511627776
theorem markZ_val (h : Int) (ss : List SpD) : ∀ xs, Vals xs → (∀ s ∈ ss, s.pl.toNat < xs.length) → Vals (markZ h xs ss) := by
  induction ss with
  | nil => intro xs hx _; exact hx
  | cons s r ih =>
    intro xs hx hs
    rw [markZ]
    refine ih _ (fun y hy => ?_) (fun s' hs' => by rw [List.length_set]; exact hs s' (by simp [hs']))
    rcases List.mem_or_eq_of_mem_set hy with hy | hy
    · exact hx y hy
    · have hz := hx _ (getD_mem xs dC _ (hs s (by simp)))
      rw [hy]
      exact hz
theorem newC_val {id h : Int} {ys : List (Int × Int)} (hy : ∀ j, j < ys.length → rOut (ys.getD j (0, 0)) = true) : Vals (newC id h ys ys.length) := by
  intro x hx
  simp only [newC, List.mem_map, List.mem_range] at hx
  obtain ⟨j, hj, rfl⟩ := hx
  have := rOut_bd (hy j hj)
  simp only
  omega
theorem addZ_cases (xs : List Cel) (h t : Int) (ins : List InD) (ys : List (Int × Int)) (first : Bool) :
    ((addZ xs h t ins ys first).1 ≠ 0 ∧ (addZ xs h t ins ys first).2 = xs) ∨
    (rTx t ins ys = true ∧ ¬(ins = [] ∧ first = false) ∧ hasId xs (idZ t ins ys) = false ∧ ∃ ss, spZ xs ins [] = some ss ∧ ss.all (opens (idZ t ins ys)) = true ∧ ¬(ss ≠ [] ∧ sumSp ss < sumOu ys) ∧ addZ xs h t ins ys first = (0, markZ h xs ss ++ newC (idZ t ins ys) h ys ys.length)) := by
  by_cases h1 : rTx t ins ys = false ∨ (ins = [] ∧ first = false)
  · left; rw [addZ_shape h1]; simp
  · by_cases h2 : hasId xs (idZ t ins ys) = true
    · left; rw [addZ_twice h1 h2]; simp
    · rw [Bool.not_eq_true] at h2
      cases h3 : spZ xs ins [] with
      | none => left; rw [addZ_coin h1 h2 h3]; simp
      | some ss =>
        cases h4 : ss.all (opens (idZ t ins ys))
        · left; rw [addZ_seal h1 h2 h3 h4]; simp
        · by_cases h5 : ss ≠ [] ∧ sumSp ss < sumOu ys
          · left; rw [addZ_sum h1 h2 h3 h4 h5]; simp
          · right
            refine ⟨?_, fun hc => h1 (Or.inr hc), h2, ss, rfl, h4, h5, addZ_ok h1 h2 h3 h4 h5⟩
            cases hq : rTx t ins ys
            · exact absurd (Or.inl hq) h1
            · rfl
theorem addZ_good (xs : List Cel) (h t : Int) (ins : List InD) (ys : List (Int × Int)) (first : Bool) (hv : Vals xs) : Vals (addZ xs h t ins ys first).2 ∧ (addZ xs h t ins ys first).2.length ≤ xs.length + 8 := by
  rcases addZ_cases xs h t ins ys first with ⟨_, h2⟩ | ⟨hr, _, _, ss, hss, _, _, he⟩
  · rw [h2]; exact ⟨hv, by omega⟩
  · rw [he]
    obtain ⟨_, _, _, h8, ho⟩ := rTx_parts hr
    have hq : ∀ s ∈ ss, s.pl.toNat < xs.length := spZ_good xs (fun s => s.pl.toNat < xs.length) ins [] ss (fun i _ q hq _ => by simpa using hq) hss (fun s hs => by simp at hs)
    refine ⟨fun x hx => ?_, ?_⟩
    · rcases List.mem_append.1 hx with hx | hx
      · exact markZ_val h ss xs hv hq x hx
      · exact newC_val ho x hx
    · simp only [List.length_append, markZ_len, newC, List.length_map, List.length_range]
      omega
theorem ChOwn.hgt {w : World} {b o : Nat} {v : Value} {h : Int} {xs : List Cel} (hc : ChOwn Ex w b o v h xs) (h' : Int) : ChOwn Ex (w.setCell ⟨b, o + 1, none⟩ (.int .i64 h')) b o v h' xs := by
  refine ⟨?_, World.cell?_setCell_same _ _ _ hc.c1, by rw [World.frozen?_setCell]; exact hc.f0, fun j => by rw [World.frozen?_setCell]; exact hc.f1 j, ?_, fun q hq => ⟨(hc.ext q hq).1, (hc.ext q hq).2.1, ?_⟩⟩
  · rw [World.cell?_setCell_other _ _ _ _ (by intro e; have := congrArg Addr.off e; simp only at this; omega)]
    exact hc.c0
  · exact hc.own.gb (gb_set w b (o + 1) _) (fun k hk e => by injection e with e; have := (hc.own.blk k hk).1; omega)
  · rw [World.cell?_setCell_other _ _ _ _ (by intro e; have := congrArg Addr.off e; simp only at this; exact (hc.ext q hq).2.1 this.symm)]
    exact (hc.ext q hq).2.2
/-- what becomes of a block: the error, the number, the outputs; behind i transactions -/
def connGo (h : Int) : List Cel → List TxD → Nat → Int × Int × List Cel
  | xs, [], _ => (0, 0, xs)
  | xs, t :: r, i => if (addZ xs h t.t t.ins t.ys (i == 0)).1 ≠ 0 then ((addZ xs h t.t t.ins t.ys (i == 0)).1, i, tbZ h (addZ xs h t.t t.ins t.ys (i == 0)).2) else connGo h (addZ xs h t.t t.ins t.ys (i == 0)).2 r (i + 1)
theorem connGo_drop (h : Int) (xs : List Cel) (bl : List TxD) (k : Nat) (hk : k < bl.length) : connGo h xs (bl.drop k) k =
    if (addZ xs h (bl.getD k dT).t (bl.getD k dT).ins (bl.getD k dT).ys (k == 0)).1 ≠ 0 then ((addZ xs h (bl.getD k dT).t (bl.getD k dT).ins (bl.getD k dT).ys (k == 0)).1, (k : Int), tbZ h (addZ xs h (bl.getD k dT).t (bl.getD k dT).ins (bl.getD k dT).ys (k == 0)).2) else connGo h (addZ xs h (bl.getD k dT).t (bl.getD k dT).ins (bl.getD k dT).ys (k == 0)).2 (bl.drop (k + 1)) (k + 1) := by
  rw [List.drop_eq_getElem_cons hk]
  simp only [List.getD, List.getElem?_eq_getElem hk, Option.getD_some]
  rfl
/-- Connect: the error, the number, the height, the outputs -/
def connZ (h : Int) (xs : List Cel) (bl : List TxD) : Int × Int × Int × List Cel :=
  if 40 ≤ h then (3, 0, h, xs)
  else if 6 < bl.length then (2, 0, h, xs)
  else if (connGo h xs bl 0).1 ≠ 0 then ((connGo h xs bl 0).1, (connGo h xs bl 0).2.1, h, (connGo h xs bl 0).2.2)
  else (0, 0, h + 1, (connGo h xs bl 0).2.2)
theorem add_any (b o : Nat) (v : Value) (h : Int) (xs : List Cel) (N : Nat → Prop) (x : TxD) (first : Bool) (w : World)
    (hc : ChOwn Ex w b o v h xs) (hl : xs.length ≤ 10000) (hv : Vals xs) (hh : 0 ≤ h ∧ h ≤ 100) (hx : TxOk N w x) (hN : ∀ k, N k → ¬ chE b v k) :
    Calls Tryz.prog 151 #[.pointer (some ⟨b, o, none⟩), .agg #[.int .i64 x.t, .slice x.ai x.n x.c, .slice x.ap x.m x.d], .bool first] w fun e w' => ∃ v', e = .returned (.int .i64 (addZ xs h x.t x.ins x.ys first).1) ∧ ChOwn Ex w' b o v' h (addZ xs h x.t x.ins x.ys first).2 ∧ ChStep b v v' w w' := by
  by_cases hr : rTx x.t x.ins x.ys = false ∨ (x.ins = [] ∧ first = false)
  · refine (add_shape b o x.t x.ai x.n x.c x.ap x.m x.d x.ins x.ys first w hx.ins hx.il hx.outs hx.ol hr).mono ?_
    rintro e w' ⟨rfl, hb⟩
    rw [addZ_shape hr]
    exact ⟨v, rfl, hc.grown hb, ChStep.of_below hb b v⟩
  · have hrt : rTx x.t x.ins x.ys = true := by
      cases hq : rTx x.t x.ins x.ys
      · exact absurd (Or.inl hq) hr
      · rfl
    obtain ⟨_, _, _, h8, _⟩ := rTx_parts hrt
    exact add_rest b o v h xs x.t x.ai x.n x.c x.ap x.m x.d x.ins x.ys first w ⟨hc, hl, hv, hh, fun a ha => hN _ (hx.np (by intro e; rw [e] at h8; simp at h8) a ha)⟩ hx.ins hx.il hx.outs hx.ol hr
set_option maxRecDepth 100000 in
set_option maxHeartbeats 4000000 in
theorem connect_any (b o : Nat) (v : Value) (h : Int) (xs : List Cel) (N : Nat → Prop) (ao : Option Addr) (n c : Nat) (bl : List TxD) (w : World)
    (hc : ChOwn Ex w b o v h xs) (hl : xs.length ≤ 5000) (hv : Vals xs) (hh : 0 ≤ h ∧ h ≤ 100) (hb : BlkAt N w ao bl) (hn : bl.length = n) (hN : ∀ k, N k → k < w.heap.size ∧ ¬ chE b v k) (hn2 : n ≤ 9223372036854775807) :
    Calls Tryz.prog 96 #[.pointer (some ⟨b, o, none⟩), .slice ao n c] w fun e w' => e = .returned (.tuple #[.int .i64 (connZ h xs bl).1, .int .i64 (connZ h xs bl).2.1]) ∧ ∃ v', ChOwn Ex w' b o v' (connZ h xs bl).2.2.1 (connZ h xs bl).2.2.2 ∧ ChStep b v v' w w' := by
  have c1 := hc.c1
  have HC : Hid (ChOwn Ex w b o v h xs) := hc
  have HV : Hid (Vals xs) := hv
  have HB : Hid (BlkAt N w ao bl) := hb
  have HN : Hid (bl.length = n) := hn
  have HNE : Hid (∀ k, N k → k < w.heap.size ∧ ¬ chE b v k) := hN
  have HL : Hid (xs.length ≤ 5000) := hl
  clear hc hv hb hn hN hl
  by_cases h40 : 40 ≤ h
  · have HE : Hid (connZ h xs bl = (3, 0, h, xs)) := by show _ = _; unfold connZ; rw [if_pos h40]
    go_enter Tryz.func96, Tryz.ntmps96
    go_wp2
    go_ret2
    rw [HE.out]
    exact ⟨rfl, v, HC.out, ChStep.refl _ _ _⟩
  · by_cases h6 : 6 < n
    · have HE : Hid (connZ h xs bl = (2, 0, h, xs)) := by show _ = _; unfold connZ; rw [if_neg h40, if_pos (by rw [HN.out]; exact h6)]
      have g6 : decide ((6 : Int) < (n : Int)) = true := by rw [decide_eq_true_iff]; omega
      go_enter Tryz.func96, Tryz.ntmps96
      go_wp2
      go_ret2
      rw [HE.out]
      exact ⟨rfl, v, HC.out, ChStep.refl _ _ _⟩
    · have HE : Hid (connZ h xs bl = if (connGo h xs bl 0).1 ≠ 0 then ((connGo h xs bl 0).1, (connGo h xs bl 0).2.1, h, (connGo h xs bl 0).2.2) else (0, 0, h + 1, (connGo h xs bl 0).2.2)) := by show _ = _; unfold connZ; rw [if_neg h40, if_neg (by rw [HN.out]; exact h6)]
      have g6 : decide ((6 : Int) < (n : Int)) = false := by rw [decide_eq_false_iff_not]; omega
      go_enter Tryz.func96, Tryz.ntmps96
      go_wp2
      go_loopw [19] (fun i wr => ∃ (k : Nat) (v' : Value) (xk : List Cel), k ≤ n ∧ i = .int .i64 k ∧ Hid (connGo h xk (bl.drop k) k = connGo h xs bl 0) ∧ Hid (Vals xk) ∧ Hid (xk.length ≤ 5000 + 8 * k) ∧ ChOwn Ex wr b o v' h xk ∧ ChStep b v v' w wr) (fun i _ => n - (intOf i).toNat)
      case atStart => exact ⟨0, v, xs, Nat.zero_le _, rfl, rfl, HV, HL.out, HC.out, ChStep.refl _ _ _⟩
      case round =>
        obtain ⟨k, v', xk, hk, rfl, hz, hvk, hlk, hch, hst⟩ := hrel
        by_cases hlt : k < n
        · have hblk := HB.out.fr hst.fr (fun q hq => (HNE.out q hq).2)
          rcases hblk.row with hnil | ⟨g, off, rfl, hrow⟩
          · have := HN.out; rw [hnil] at this; simp at this; omega
          obtain ⟨t0, t1, t2⟩ := txCells hrow k (by rw [HN.out]; exact hlt)
          have hok := hblk.ok _ (getD_mem bl dT k (by rw [HN.out]; exact hlt))
          have HZ : Hid _ := hz.out
          rw [connGo_drop h xk bl k (by rw [HN.out]; exact hlt)] at HZ
          clear hrow hblk hz
          generalize bl.getD k dT = y at t0 t1 t2 hok HZ
          have HAG : Hid _ := addZ_good xk h y.t y.ins y.ys (k == 0) hvk.out
          obtain ⟨yt, yai, yn, yc, yap, ym, yd, yins, yys⟩ := y
          simp only at t0 t1 t2 HZ HAG
          have hst4 := hst.trans (ChStep.of_below ((Below.refl wr.heap.size wr).alloc (Nat.le_refl _) (.cells #[.int .i64 yt, .slice yai yn yc, .slice yap ym yd] 35)) b v')
          have hch4 := hch.alloc (.cells #[.int .i64 yt, .slice yai yn yc, .slice yap ym yd] 35)
          have hok4 := hok.fr (E := fun _ => False) (Fr.of_below ((Below.refl wr.heap.size wr).alloc (Nat.le_refl _) (.cells #[.int .i64 yt, .slice yai yn yc, .slice yap ym yd] 35)) _) (fun _ _ h => h)
          have hb0 : ((k : Int) == 0) = (k == 0) := by
            rcases Nat.eq_zero_or_pos k with rfl | hp
            · rfl
            · have h1 : ((k : Int) == 0) = false := by rw [beq_eq_false_iff_ne]; omega
              have h2 : (k == 0) = false := by rw [beq_eq_false_iff_ne]; omega
              rw [h1, h2]
          have HNK : Hid (∀ q, N q → ¬ chE b v' q) := fun q hq e => by
            obtain ⟨hq1, hq2⟩ := HNE.out q hq
            rcases e with e | e
            · exact hq2 (Or.inl e)
            · rcases hst.own q e with e' | e'
              · exact hq2 (Or.inr e')
              · omega
          go_wp2_with fail
          generalize wr.alloc (.cells #[.int .i64 yt, .slice yai yn yc, .slice yap ym yd] 35) = w4 at *
          have HOK4 : Hid (TxOk N w4 ⟨yt, yai, yn, yc, yap, ym, yd, yins, yys⟩) := hok4
          have HCH4 : Hid (ChOwn Ex w4 b o v' h xk) := hch4
          have HST4 : Hid (ChStep b v v' w w4) := hst4
          clear hok4 hch4 hst4 hok hch hst t0 t1 t2
          refine (add_any b o v' h xk N ⟨yt, yai, yn, yc, yap, ym, yd, yins, yys⟩ (k == 0) _ HCH4.out (by have := hlk.out; omega) hvk.out hh HOK4.out HNK.out).mono ?_
          rintro e w5 ⟨v5, rfl, hch5, hst5⟩
          simp only at hch5
          have hst5 := HST4.out.trans hst5
          have HL5 : Hid ((addZ xk h yt yins yys (k == 0)).2.length ≤ 5000 + 8 * (k + 1)) := by show _ ≤ _; have h1 := HAG.out.2; have h2 := hlk.out; omega
          have HV5 : Hid (Vals (addZ xk h yt yins yys (k == 0)).2) := HAG.out.1
          clear HCH4 HST4 HOK4 HNK HAG hlk hvk
          generalize (addZ xk h yt yins yys (k == 0)).2 = x5 at *
          generalize (addZ xk h yt yins yys (k == 0)).1 = e5 at *
          have HCH5 : Hid (ChOwn Ex w5 b o v5 h x5) := hch5
          have HST5 : Hid (ChStep b v v5 w w5) := hst5
          clear hch5 hst5
          by_cases he5 : e5 = 0
          · subst he5
            have HZ' : Hid (connGo h x5 (bl.drop (k + 1)) (k + 1) = connGo h xs bl 0) := by
              show _ = _
              have := HZ.out
              rw [if_neg (by simp)] at this
              exact this
            go_wp2
            go_roundw
            case rel => exact ⟨k + 1, v5, x5, by omega, by go_num, HZ', HV5, HL5.out, HCH5.out, HST5.out⟩
            case measure => simp [intOf]; omega
          · have he5' : (e5 == 0) = false := by rw [beq_eq_false_iff_ne]; exact he5
            have he5'' : (e5 != 0) = true := by simp [bne, he5']
            have HZ' : Hid ((e5, (k : Int), tbZ h x5) = connGo h xs bl 0) := by
              show _ = _
              have := HZ.out
              rw [if_pos he5] at this
              exact this
            have HE5 : Hid (connZ h xs bl = (e5, (k : Int), h, tbZ h x5)) := by
              show _ = _
              rw [HE.out, ← HZ'.out, if_pos he5]
            go_wp2_with fail
            refine (takeBack_any b o v5 h x5 _ HCH5.out (by have := HL5.out; omega)).mono ?_
            rintro e w6 ⟨rfl, v6, hch6, hst6⟩
            have hst6 := HST5.out.trans hst6
            go_wp2
            go_ret2
            rw [HE5.out]
            exact ⟨rfl, v6, hch6, hst6⟩
        · have hkn : k = n := by omega
          subst hkn
          have HZ' : Hid ((0, 0, xk) = connGo h xs bl 0) := by
            show _ = _
            rw [← hz.out, List.drop_of_length_le (by rw [HN.out]; omega)]
            rfl
          have HE5 : Hid (connZ h xs bl = (0, 0, h + 1, xk)) := by
            show _ = _
            rw [HE.out, ← HZ'.out, if_neg (by simp)]
          have d1 := hch.c1
          have f1 := hch.f1 (o + 1)
          have HCH : Hid (ChOwn Ex wr b o v' h xk) := hch
          have HST : Hid (ChStep b v v' w wr) := hst
          clear hch hst hz
          have hw1 : IntKind.i64.wrap (h + 1) = h + 1 := IntWalk.i64_in _ ⟨by omega, by omega⟩
          go_wp2
          go_ret2
          rw [HE5.out]
          exact ⟨rfl, v', HCH.out.hgt (h + 1), HST.out.trans ⟨(Fr.refl _ wr).set b (o + 1) _ (fun _ => Or.inl rfl), fun _ hk => Or.inl hk⟩⟩
end Go.Proofs.YtffgpepngcnjeabGreatQ

namespace Go.Proofs.YtffgpepngcnjeabGreatQ
open Go.RowKit
/-- a live payment -/
structure PayD where
  num : Int
  ac : Option Addr
  nc : Nat
  cc : Nat
  ap : Option Addr
  m : Nat
  d : Nat
  tag : Int
  sg : Bool
  cs : List CoinD
  ys : List (Int × Int)
def dP : PayD := ⟨0, none, 0, 0, none, 0, 0, 0, false, [], []⟩
def PayD.v (x : PayD) : List Value := [.int .i64 x.num, .slice x.ac x.nc x.cc, .slice x.ap x.m x.d, .int .i64 x.tag, .bool x.sg]
theorem pay5 (x : PayD) : x.v.length = 5 := rfl
theorem pay_one (x : PayD) : ∀ u ∈ x.v, u.oneCell' = true := by
  intro u hu
  simp only [PayD.v, List.mem_cons, List.not_mem_nil, or_false] at hu
  rcases hu with rfl | rfl | rfl | rfl | rfl <;> rfl
structure PayCells (w : World) (b off : Nat) (x : PayD) : Prop where
  c0 : w.cell? ⟨b, off, none⟩ = some (.int .i64 x.num)
  c1 : w.cell? ⟨b, off + 1, none⟩ = some (.slice x.ac x.nc x.cc)
  c2 : w.cell? ⟨b, off + 2, none⟩ = some (.slice x.ap x.m x.d)
  c3 : w.cell? ⟨b, off + 3, none⟩ = some (.int .i64 x.tag)
  c4 : w.cell? ⟨b, off + 4, none⟩ = some (.bool x.sg)
theorem payCells {w : World} {b off : Nat} {xs : List PayD} (h : VRow w b off (xs.flatMap PayD.v)) (j : Nat) (hj : j < xs.length) : PayCells w b (off + j * 5) (xs.getD j dP) :=
  ⟨rcell pay5 dP h j hj 0 (by omega), rcell pay5 dP h j hj 1 (by omega), rcell pay5 dP h j hj 2 (by omega), rcell pay5 dP h j hj 3 (by omega), rcell pay5 dP h j hj 4 (by omega)⟩
/-- its coins and outputs, in blocks of N -/
structure PayOk (N : Nat → Prop) (w : World) (x : PayD) : Prop where
  co : RecAt CoinD.l w x.ac x.cs
  cl : x.cs.length = x.nc
  ou : OutsAt w x.ap x.ys
  ol : x.ys.length = x.m
  nc : x.cs ≠ [] → ∀ a, x.ac = some a → N a.block
  np : x.ys ≠ [] → ∀ a, x.ap = some a → N a.block
  b1 : x.nc ≤ 10
  b2 : x.m ≤ 8
theorem rec_fr {α : Type} {f : α → List Value} {E : Nat → Prop} {w w' : World} (hf : Fr E w w') {ao : Option Addr} {l : List α} (h : RecAt f w ao l) (hn : l ≠ [] → ∀ a, ao = some a → ¬ E a.block) : RecAt f w' ao l := by
  by_cases he : l = []
  · exact Or.inl he
  · rcases h with h | ⟨b, off, rfl, hr⟩
    · exact Or.inl h
    · exact Or.inr ⟨b, off, rfl, hf.vrow hr (hn he _ rfl)⟩
theorem outsAt_fr {E : Nat → Prop} {w w' : World} (hf : Fr E w w') {ao : Option Addr} {l : List (Int × Int)} (h : OutsAt w ao l) (hn : l ≠ [] → ∀ a, ao = some a → ¬ E a.block) : OutsAt w' ao l := by
  by_cases he : l = []
  · exact Or.inl he
  · rcases h with h | ⟨b, off, rfl, hr⟩
    · exact Or.inl h
    · exact Or.inr ⟨b, off, rfl, fun j hj => ⟨hf.cell (hr j hj).1 (hn he _ rfl), hf.cell (hr j hj).2 (hn he _ rfl)⟩⟩
theorem PayOk.fr {E N : Nat → Prop} {w w' : World} (hf : Fr E w w') {x : PayD} (h : PayOk N w x) (hn : ∀ k, N k → ¬ E k) : PayOk N w' x :=
  ⟨rec_fr hf h.co (fun e a ha => hn _ (h.nc e a ha)), h.cl, outsAt_fr hf h.ou (fun e a ha => hn _ (h.np e a ha)), h.ol, h.nc, h.np, h.b1, h.b2⟩
theorem PayOk.grown {N : Nat → Prop} {w w' : World} {x : PayD} (h : PayOk N w x) (hb : Below w.heap.size w w') : PayOk N w' x := h.fr (Fr.of_below hb (fun _ => False)) (fun _ _ h => h)
/-- a key -/
def kV (k : Int × Int) : List Value := [.int .i64 k.1, .int .i64 k.2]
theorem kv2 (k : Int × Int) : (kV k).length = 2 := rfl
theorem kv_one (k : Int × Int) : ∀ u ∈ kV k, u.oneCell' = true := by
  intro u hu
  simp only [kV, List.mem_cons, List.not_mem_nil, or_false] at hu
  rcases hu with rfl | rfl <;> rfl
def KvCells (w : World) (b off : Nat) (k : Int × Int) : Prop := w.cell? ⟨b, off, none⟩ = some (.int .i64 k.1) ∧ w.cell? ⟨b, off + 1, none⟩ = some (.int .i64 k.2)
theorem kvCells {w : World} {b off : Nat} {xs : List (Int × Int)} (h : VRow w b off (xs.flatMap kV)) (j : Nat) (hj : j < xs.length) : KvCells w b (off + j * 2) (xs.getD j (0, 0)) :=
  ⟨rcell kv2 (0, 0) h j hj 0 (by omega), rcell kv2 (0, 0) h j hj 1 (by omega)⟩
def heldB (ps : List PayD) (id pos : Int) : Bool := ps.any fun p => p.cs.any fun x => x.id == id && x.pos == pos
def usedB (ks : List (Int × Int)) (k : Int × Int) : Bool := ks.any fun x => x.1 == k.1 && x.2 == k.2
def freeB (ps : List PayD) (ks : List (Int × Int)) (x : CoinD) : Bool := !heldB ps x.id x.pos && !usedB ks (x.br, x.ix)
end Go.Proofs.YtffgpepngcnjeabGreatQ

namespace Go.Proofs.YtffgpepngcnjeabGreatQ
open Go.RowKit
set_option maxRecDepth 100000 in
set_option maxHeartbeats 2000000 in
theorem holds_any (N : Nat → Prop) (b o : Nat) (ao : Option Addr) (n c : Nat) (ps : List PayD) (id pos : Int) (w : World) (hp : w.cell? ⟨b, o, none⟩ = some (.slice ao n c)) (hx : RecAt PayD.v w ao ps) (hn : ps.length = n) (hm : n ≤ 9007199254740992) (hok : ∀ p ∈ ps, PayOk N w p) :
    Calls Tryz.prog 185 #[.pointer (some ⟨b, o, none⟩), .int .i64 id, .int .i64 pos] w fun e w' => e = .returned (.bool (heldB ps id pos)) ∧ Below w.heap.size w w' := by
  have HN : Hid (ps.length = n) := hn
  have HX : Hid (RecAt PayD.v w ao ps) := hx
  have HO : Hid (∀ p ∈ ps, PayOk N w p) := hok
  clear hn hx hok
  go_enter Tryz.func185, Tryz.ntmps185
  go_wp2
  go_loopw [16] (fun i wr => ∃ k : Nat, k ≤ n ∧ i = .int .i64 k ∧ Hid ((ps.take k).any (fun p => p.cs.any fun x => x.id == id && x.pos == pos) = false) ∧ Below w.heap.size w wr) (fun i _ => n - (intOf i).toNat)
  case atStart => exact ⟨0, Nat.zero_le _, rfl, by show List.any _ _ = false; simp, Below.refl _ _⟩
  case round =>
    obtain ⟨k, hk, rfl, hany, hbl⟩ := hrel
    have hsz := hbl.size
    by_cases hlt : k < n
    · rcases HX.out with hnil | ⟨g, off, rfl, hrow⟩
      · have := HN.out; rw [hnil] at this; simp at this; omega
      obtain ⟨c0, c1, c2, c3, c4⟩ := payCells (hrow.grown hbl) k (by rw [HN.out]; exact hlt)
      have HS : Hid _ := any_no (fun p : PayD => p.cs.any fun x => x.id == id && x.pos == pos) ps dP k (by rw [HN.out]; exact hlt) hany.out
      have HZ : Hid _ := any_yes (fun p : PayD => p.cs.any fun x => x.id == id && x.pos == pos) ps dP k (by rw [HN.out]; exact hlt)
      have hk0 := HO.out (ps.getD k dP) (getD_mem ps dP k (by rw [HN.out]; exact hlt))
      have HCO : Hid _ := hk0.co
      have HCL : Hid _ := hk0.cl
      have hb1 := hk0.b1
      clear hrow hk0
      generalize ps.getD k dP = y at c0 c1 c2 c3 c4 HS HZ HCO HCL hb1
      obtain ⟨ynum, yac, ync, ycc, yap, ym, yd, ytag, ysg, ycs, yys⟩ := y
      simp only at c0 c1 c2 c3 c4 hb1
      have HA : Hid (RecAt CoinD.l w yac ycs) := HCO.out
      have HL : Hid (ycs.length = ync) := HCL.out
      clear HCO HCL
      obtain ⟨wo, rfl⟩ : ∃ wo : World, wo = wr := ⟨_, rfl⟩
      go_wp2
      go_loopw [23] (fun i wr => ∃ j : Nat, j ≤ ync ∧ i = .int .i64 j ∧ Hid ((ycs.take j).any (fun x => x.id == id && x.pos == pos) = false) ∧ Below w.heap.size w wr ∧ Below wo.heap.size wo wr) (fun i _ => ync - (intOf i).toNat)
      case atStart => exact ⟨0, Nat.zero_le _, rfl, by show List.any _ _ = false; simp, hbl.alloc hsz _, (Below.refl _ _).alloc (Nat.le_refl _) _⟩
      case round =>
        obtain ⟨j, hj, rfl, hany2, hbl2, hbo⟩ := hrel
        have hsz2 := hbl2.size
        have hszo := hbo.size
        by_cases hlt2 : j < ync
        · rcases HA.out with hnil | ⟨g2, off2, rfl, hrow⟩
          · have := HL.out; rw [hnil] at this; simp at this; omega
          obtain ⟨d0, d1, d2, d3, d4, d5⟩ := coinCells (hrow.grown hbl2) j (by rw [HL.out]; exact hlt2)
          have HS2 : Hid _ := any_no (fun x : CoinD => x.id == id && x.pos == pos) ycs dN j (by rw [HL.out]; exact hlt2) hany2.out
          have HZ2 : Hid _ := any_yes (fun x : CoinD => x.id == id && x.pos == pos) ycs dN j (by rw [HL.out]; exact hlt2)
          clear hrow
          generalize ycs.getD j dN = z at d0 d1 d2 d3 d4 d5 HS2 HZ2
          obtain ⟨z0, z1, z2, z3, z4, z5⟩ := z
          simp only at d0 d1 d2 d3 d4 d5
          cases h1 : (z0 == id)
          · go_wp2
            go_roundw
            case rel => exact ⟨j + 1, by omega, by go_num, HS2.out (by simp [h1]), hbl2.alloc hsz2 _, hbo.alloc hszo _⟩
            case measure => simp [intOf]; omega
          · cases h2 : (z1 == pos)
            · go_wp2
              go_roundw
              case rel => exact ⟨j + 1, by omega, by go_num, HS2.out (by simp [h2]), hbl2.alloc hsz2 _, hbo.alloc hszo _⟩
              case measure => simp [intOf]; omega
            · go_wp2
              go_ret
              exact ⟨ret_bool (HZ.out (HZ2.out (by show (z0 == id && z1 == pos) = true; rw [h1, h2]; rfl))).symm, hbl2.alloc hsz2 _⟩
        · have HE : Hid _ := any_done (fun x : CoinD => x.id == id && x.pos == pos) ycs ync HL.out j (by omega) hany2.out
          go_wp2
          go_roundw
          case rel => exact ⟨k + 1, by omega, by go_num, HS.out HE.out.symm, hbl2⟩
          case measure => simp [intOf]; omega
    · go_wp2
      go_ret
      exact ⟨ret_bool (any_done _ ps n HN.out k (by omega) hany.out), hbl⟩
set_option maxRecDepth 100000 in
set_option maxHeartbeats 1000000 in
theorem hasSealed_any (b o : Nat) (ao : Option Addr) (n c : Nat) (ks : List (Int × Int)) (kb ki : Int) (w : World) (hp : w.cell? ⟨b, o + 1, none⟩ = some (.slice ao n c)) (hx : RecAt kV w ao ks) (hn : ks.length = n) (hm : n ≤ 9007199254740992) :
    Calls Tryz.prog 146 #[.pointer (some ⟨b, o, none⟩), .agg #[.int .i64 kb, .int .i64 ki]] w fun e w' => e = .returned (.bool (usedB ks (kb, ki))) ∧ Below w.heap.size w w' := by
  have HN : Hid (ks.length = n) := hn
  have HX : Hid (RecAt kV w ao ks) := hx
  clear hn hx
  have hblt := cell_lt hp
  simp only at hblt
  go_enter Tryz.func146, Tryz.ntmps146
  go_wp2
  go_loopw [12] (fun i wr => ∃ k : Nat, k ≤ n ∧ i = .int .i64 k ∧ Hid ((ks.take k).any (fun x => x.1 == kb && x.2 == ki) = false) ∧ wr.cell? ⟨w.heap.size, 0, none⟩ = some (.int .i64 kb) ∧ wr.cell? ⟨w.heap.size, 1, none⟩ = some (.int .i64 ki) ∧ w.heap.size < wr.heap.size ∧ Below w.heap.size w wr) (fun i _ => n - (intOf i).toNat)
  case atStart => exact ⟨0, Nat.zero_le _, rfl, by show List.any _ _ = false; simp, by go_simp, by go_simp, by simp, (Below.refl _ _).alloc (Nat.le_refl _) _⟩
  case round =>
    obtain ⟨k, hk, rfl, hany, e0, e1, hlt0, hbl⟩ := hrel
    have hsz := hbl.size
    by_cases hlt : k < n
    · rcases HX.out with hnil | ⟨g, off, rfl, hrow⟩
      · have := HN.out; rw [hnil] at this; simp at this; omega
      obtain ⟨c0, c1⟩ := kvCells (hrow.grown hbl) k (by rw [HN.out]; exact hlt)
      have HS : Hid _ := any_no (fun x : Int × Int => x.1 == kb && x.2 == ki) ks (0, 0) k (by rw [HN.out]; exact hlt) hany.out
      have HZ : Hid _ := any_yes (fun x : Int × Int => x.1 == kb && x.2 == ki) ks (0, 0) k (by rw [HN.out]; exact hlt)
      clear hrow
      generalize ks.getD k (0, 0) = y at c0 c1 HS HZ
      obtain ⟨y0, y1⟩ := y
      simp only at c0 c1
      cases h1 : (y0 == kb)
      · go_wp2
        go_roundw
        case rel => exact ⟨k + 1, by omega, by go_num, HS.out (by simp [h1]), by go_simp, by go_simp, by simp; omega, hbl.alloc hsz _⟩
        case measure => simp [intOf]; omega
      · cases h2 : (y1 == ki)
        · go_wp2
          go_roundw
          case rel => exact ⟨k + 1, by omega, by go_num, HS.out (by simp [h2]), by go_simp, by go_simp, by simp; omega, hbl.alloc hsz _⟩
          case measure => simp [intOf]; omega
        · go_wp2
          go_ret
          exact ⟨ret_bool (HZ.out (by show (y0 == kb && y1 == ki) = true; rw [h1, h2]; rfl)).symm, hbl.alloc hsz _⟩
    · go_wp2
      go_ret
      exact ⟨ret_bool (any_done _ ks n HN.out k (by omega) hany.out), hbl⟩
set_option maxRecDepth 100000 in
set_option maxHeartbeats 400000 in
theorem keyOf_any (x : CoinD) (w : World) : Calls Tryz.prog 145 #[coinV x] w fun e w' => e = .returned (.agg #[.int .i64 x.br, .int .i64 x.ix]) ∧ Below w.heap.size w w' := by
  obtain ⟨x0, x1, x2, x3, x4, x5⟩ := x
  go_enter Tryz.func145, Tryz.ntmps145
  go_wp2
  refine bodyPost_ret (v := .agg #[.int .i64 x4, .int .i64 x5]) ?_ rfl ⟨rfl, ?_⟩
  · simp [results, Tryz.results145, go_sem]
  · have hbn : ∀ p q : Obj, Below w.heap.size w ((w.alloc p).alloc q) := fun p q => ((Below.refl _ _).alloc (Nat.le_refl _) _).alloc (by simp) _
    exact hbn _ _
/-- the payments at a place: the live ones, the keys that have sealed -/
structure PayM (N : Nat → Prop) (w : World) (b o : Nat) (ps : List PayD) (ks : List (Int × Int)) : Prop where
  h0 : ∃ ao c, w.cell? ⟨b, o, none⟩ = some (.slice ao ps.length c) ∧ RecAt PayD.v w ao ps
  h1 : ∃ ao c, w.cell? ⟨b, o + 1, none⟩ = some (.slice ao ks.length c) ∧ RecAt kV w ao ks
  ok : ∀ p ∈ ps, PayOk N w p
  b0 : ps.length ≤ 9007199254740992
  b1 : ks.length ≤ 9007199254740992
theorem PayM.grown {N : Nat → Prop} {w w' : World} {b o : Nat} {ps : List PayD} {ks : List (Int × Int)} (h : PayM N w b o ps ks) (hb : Below w.heap.size w w') : PayM N w' b o ps ks := by
  obtain ⟨ao, c, h0, r0⟩ := h.h0
  obtain ⟨ao1, c1, h1, r1⟩ := h.h1
  exact ⟨⟨ao, c, (hb.cell (p := ⟨b, o, none⟩) (cell_lt h0)).trans h0, r0.grown hb⟩, ⟨ao1, c1, (hb.cell (p := ⟨b, o + 1, none⟩) (cell_lt h1)).trans h1, r1.grown hb⟩, fun p hp => (h.ok p hp).grown hb, h.b0, h.b1⟩
theorem PayM.nil (N : Nat → Prop) {w : World} {b o : Nat} (h0 : w.cell? ⟨b, o, none⟩ = some (.slice none 0 0)) (h1 : w.cell? ⟨b, o + 1, none⟩ = some (.slice none 0 0)) : PayM N w b o [] [] :=
  ⟨⟨none, 0, h0, Or.inl rfl⟩, ⟨none, 0, h1, Or.inl rfl⟩, fun p hp => absurd hp (by simp), by simp, by simp⟩
theorem PayM.lt {N : Nat → Prop} {w : World} {b o : Nat} {ps : List PayD} {ks : List (Int × Int)} (h : PayM N w b o ps ks) : b < w.heap.size := by
  obtain ⟨ao, c, h0, _⟩ := h.h0
  exact cell_lt h0
set_option maxRecDepth 100000 in
set_option maxHeartbeats 1000000 in
theorem isFree_any (N : Nat → Prop) (b o : Nat) (ps : List PayD) (ks : List (Int × Int)) (x : CoinD) (w : World) (hm : PayM N w b o ps ks) :
    Calls Tryz.prog 131 #[.pointer (some ⟨b, o, none⟩), coinV x] w fun e w' => e = .returned (.bool (freeB ps ks x)) ∧ Below w.heap.size w w' := by
  have HM : Hid (PayM N w b o ps ks) := hm
  clear hm
  obtain ⟨x0, x1, x2, x3, x4, x5⟩ := x
  go_enter Tryz.func131, Tryz.ntmps131
  go_wp2_with fail
  refine (keyOf_any ⟨x0, x1, x2, x3, x4, x5⟩ _).mono ?_
  rintro e w1 ⟨rfl, hb1⟩
  simp only
  have hb0 : Below w.heap.size w (w.alloc (.cells #[.int .i64 x0, .int .i64 x1, .int .i64 x2, .int .i64 x3, .int .i64 x4, .int .i64 x5] 107)) := (Below.refl _ _).alloc (Nat.le_refl _) _
  have hz0 : (w.alloc (.cells #[.int .i64 x0, .int .i64 x1, .int .i64 x2, .int .i64 x3, .int .i64 x4, .int .i64 x5] 107)).heap.size = w.heap.size + 1 := by simp
  have hbW := hb0.trans (hb1.mono (by omega))
  obtain ⟨d0, d1, d2, d3, d4, d5⟩ := xrow ((vrow_new w [.int .i64 x0, .int .i64 x1, .int .i64 x2, .int .i64 x3, .int .i64 x4, .int .i64 x5] 107).grown hb1)
  have hs1 := hb1.size
  rw [hz0] at hs1
  have HM1 : Hid (PayM N (w1.alloc (.cells #[.int .i64 x4, .int .i64 x5] 117)) b o ps ks) := (HM.out.grown hbW).grown ((Below.refl _ _).alloc (Nat.le_refl _) _)
  have hbW2 := hbW.alloc hbW.size (.cells #[.int .i64 x4, .int .i64 x5] 117)
  clear hb0 hz0 hb1 hbW
  go_upto_region 2 with fail
  have bA : Below w1.heap.size w1 (w1.alloc (.cells #[.int .i64 x4, .int .i64 x5] 117)) := (Below.refl _ _).alloc (Nat.le_refl _) _
  have e0 := (bA.cell (p := ⟨w.heap.size, 0, none⟩) (cell_lt d0)).trans d0
  have e1 := (bA.cell (p := ⟨w.heap.size, 1, none⟩) (cell_lt d1)).trans d1
  clear bA
  have k0 : (w1.alloc (.cells #[.int .i64 x4, .int .i64 x5] 117)).cell? ⟨w1.heap.size, 0, none⟩ = some (.int .i64 x4) := by go_simp
  have k1 : (w1.alloc (.cells #[.int .i64 x4, .int .i64 x5] 117)).cell? ⟨w1.heap.size, 1, none⟩ = some (.int .i64 x5) := by go_simp
  clear d0 d1 d2 d3 d4 d5
  generalize w1.alloc (.cells #[.int .i64 x4, .int .i64 x5] 117) = w2 at *
  generalize w1.heap.size = K at *
  obtain ⟨ao, c, p0, r0⟩ := HM1.out.h0
  obtain ⟨ao1, c1, p1, r1⟩ := HM1.out.h1
  have HR0 : Hid (RecAt PayD.v w2 ao ps) := r0
  have HR1 : Hid (RecAt kV w2 ao1 ks) := r1
  have HP0 : Hid (w2.cell? ⟨b, o, none⟩ = some (.slice ao ps.length c)) := p0
  have HP1 : Hid (w2.cell? ⟨b, o + 1, none⟩ = some (.slice ao1 ks.length c1)) := p1
  clear r0 r1 p0 p1
  have hKl := cell_lt k0
  go_wp2_with fail
  refine (holds_any N b o ao ps.length c ps x0 x1 _ HP0.out HR0.out rfl HM1.out.b0 HM1.out.ok).mono ?_
  rintro e w3 ⟨rfl, hb3⟩
  have hbW3 := hbW2.trans (hb3.mono hbW2.size)
  have q0 := (hb3.cell (p := ⟨K, 0, none⟩) hKl).trans k0
  have q1 := (hb3.cell (p := ⟨K, 1, none⟩) hKl).trans k1
  have HQ1 : Hid (w3.cell? ⟨b, o + 1, none⟩ = some (.slice ao1 ks.length c1)) := (hb3.cell (p := ⟨b, o + 1, none⟩) (cell_lt HP1.out)).trans HP1.out
  have HRR : Hid (RecAt kV w3 ao1 ks) := HR1.out.grown hb3
  clear e0 e1 k0 k1 hb3
  have HF : Hid (freeB ps ks ⟨x0, x1, x2, x3, x4, x5⟩ = (!heldB ps x0 x1 && !usedB ks (x4, x5))) := rfl
  generalize hh : heldB ps x0 x1 = H at *
  cases H
  · go_wp2_with fail
    refine (hasSealed_any b o ao1 ks.length c1 ks x4 x5 _ HQ1.out HRR.out rfl HM1.out.b1).mono ?_
    rintro e w4 ⟨rfl, hb4⟩
    have hbW4 := hbW3.trans (hb4.mono hbW3.size)
    generalize usedB ks (x4, x5) = U at *
    cases U
    · go_wp2
      go_ret
      exact ⟨ret_bool HF.out.symm, hbW4⟩
    · go_wp2
      go_ret
      exact ⟨ret_bool HF.out.symm, hbW4⟩
  · go_wp2
    go_ret
    exact ⟨ret_bool (by rw [HF.out]; rfl), hbW3⟩
theorem keep6 {w w' : World} {T : Nat} {a0 a1 a2 a3 a4 a5 : Value} (hb : Below w.heap.size w w') (h : w.cell? ⟨T, 0, none⟩ = some a0 ∧ w.cell? ⟨T, 1, none⟩ = some a1 ∧ w.cell? ⟨T, 2, none⟩ = some a2 ∧ w.cell? ⟨T, 3, none⟩ = some a3 ∧ w.cell? ⟨T, 4, none⟩ = some a4 ∧ w.cell? ⟨T, 5, none⟩ = some a5) :
    w'.cell? ⟨T, 0, none⟩ = some a0 ∧ w'.cell? ⟨T, 1, none⟩ = some a1 ∧ w'.cell? ⟨T, 2, none⟩ = some a2 ∧ w'.cell? ⟨T, 3, none⟩ = some a3 ∧ w'.cell? ⟨T, 4, none⟩ = some a4 ∧ w'.cell? ⟨T, 5, none⟩ = some a5 := by
  have hl := cell_lt h.1
  obtain ⟨h0, h1, h2, h3, h4, h5⟩ := h
  exact ⟨(hb.cell (p := ⟨T, 0, none⟩) hl).trans h0, (hb.cell (p := ⟨T, 1, none⟩) hl).trans h1, (hb.cell (p := ⟨T, 2, none⟩) hl).trans h2, (hb.cell (p := ⟨T, 3, none⟩) hl).trans h3, (hb.cell (p := ⟨T, 4, none⟩) hl).trans h4, (hb.cell (p := ⟨T, 5, none⟩) hl).trans h5⟩
theorem filter_snoc {α : Type} (p : α → Bool) (l : List α) (d : α) (k : Nat) (h : k < l.length) : (l.take (k + 1)).filter p = (l.take k).filter p ++ if p (l.getD k d) = true then [l.getD k d] else [] := by
  rw [List.take_succ_eq_append_getElem h, List.filter_append]
  simp only [List.getD, List.getElem?_eq_getElem h, Option.getD_some]
  congr 1
  cases hp : p l[k] <;> simp [hp]
set_option maxRecDepth 100000 in
set_option maxHeartbeats 2000000 in
theorem free_any (N : Nat → Prop) (P : Nat) (ps : List PayD) (ks : List (Int × Int)) (ao : Option Addr) (n c : Nat) (cs : List CoinD) (w : World) (hp : PayM N w P 4 ps ks) (hx : RecAt CoinD.l w ao cs) (hn : cs.length = n) (hm : n ≤ 100000) :
    Calls Tryz.prog 80 #[.pointer (some ⟨P, 0, none⟩), .slice ao n c] w fun e w' => ∃ v, e = .returned v ∧ OwnRec CoinD.l 107 6 w' w.heap.size v (cs.filter (freeB ps ks)) ∧ Below w.heap.size w w' := by
  have HA : Hid (RecAt CoinD.l w ao cs) := hx
  have HM : Hid (cs.length = n) := hn
  have HP : Hid (PayM N w P 4 ps ks) := hp
  have hPl := hp.lt
  clear hx hn hp
  generalize hB : w.heap.size = B at hPl
  have HB : Hid (w.heap.size = B) := hB
  clear hB
  go_enter Tryz.func80, Tryz.ntmps80
  go_wp2
  go_loopw [5, 10] (fun v i wr => ∃ k : Nat, k ≤ n ∧ i = .int .i64 k ∧ OwnRec CoinD.l 107 6 wr B v ((cs.take k).filter (freeB ps ks)) ∧ Below B w wr) (fun _ i _ => n - (intOf i).toNat)
  case atStart => exact ⟨0, Nat.zero_le _, rfl, OwnRec.nil _ _ _ _ _, Below.refl _ _⟩
  case round =>
    obtain ⟨k, hk, rfl, hown, hbl⟩ := hrel
    have hsz := hbl.size
    rw [HB.out] at hsz
    by_cases hlt : k < n
    · rcases HA.out with hnil | ⟨gg, off, rfl, hrow⟩
      · have := HM.out; rw [hnil] at this; simp at this; omega
      obtain ⟨c0, c1, c2, c3, c4, c5⟩ := coinCells (hrow.grown (by rw [HB.out]; exact hbl)) k (by rw [HM.out]; exact hlt)
      have HS : Hid _ := filter_snoc (freeB ps ks) cs dN k (by rw [HM.out]; exact hlt)
      have HLN : Hid (((cs.take k).filter (freeB ps ks)).length ≤ 100000) := by show _ ≤ _; have := List.length_filter_le (freeB ps ks) (cs.take k); rw [List.length_take] at this; omega
      clear hrow
      generalize cs.getD k dN = y at c0 c1 c2 c3 c4 c5 HS
      generalize (cs.take k).filter (freeB ps ks) = acc at *
      obtain ⟨y0, y1, y2, y3, y4, y5⟩ := y
      simp only at c0 c1 c2 c3 c4 c5
      have hbx : Below wr.heap.size wr (wr.alloc (.cells #[.int .i64 y0, .int .i64 y1, .int .i64 y2, .int .i64 y3, .int .i64 y4, .int .i64 y5] 107)) := (Below.refl _ _).alloc (Nat.le_refl _) _
      have hv := vrow_new wr [.int .i64 y0, .int .i64 y1, .int .i64 y2, .int .i64 y3, .int .i64 y4, .int .i64 y5] 107
      obtain ⟨x0, x1, x2, x3, x4, x5⟩ := xrow hv
      have hown1 := hown.alloc (.cells #[.int .i64 y0, .int .i64 y1, .int .i64 y2, .int .i64 y3, .int .i64 y4, .int .i64 y5] 107)
      have hbl1 := hbl.alloc hsz (.cells #[.int .i64 y0, .int .i64 y1, .int .i64 y2, .int .i64 y3, .int .i64 y4, .int .i64 y5] 107)
      go_upto_region 5 with fail
      generalize wr.alloc (.cells #[.int .i64 y0, .int .i64 y1, .int .i64 y2, .int .i64 y3, .int .i64 y4, .int .i64 y5] 107) = w1 at *
      generalize hTe : wr.heap.size = T at *
      have hsz1 : B ≤ w1.heap.size := by have := hbx.size; omega
      have HP1 : Hid (PayM N w1.drew P 4 ps ks) := HP.out.grown (by rw [HB.out]; exact hbl1.drew)
      have HKX : Hid (w1.cell? ⟨T, 0, none⟩ = some (.int .i64 y0) ∧ w1.cell? ⟨T, 1, none⟩ = some (.int .i64 y1) ∧ w1.cell? ⟨T, 2, none⟩ = some (.int .i64 y2) ∧ w1.cell? ⟨T, 3, none⟩ = some (.int .i64 y3) ∧ w1.cell? ⟨T, 4, none⟩ = some (.int .i64 y4) ∧ w1.cell? ⟨T, 5, none⟩ = some (.int .i64 y5)) := ⟨x0, x1, x2, x3, x4, x5⟩
      have hTl : T < w1.heap.size := cell_lt x0
      clear hbx hv hown hbl hTe c0 c1 c2 c3 c4 c5
      go_wp2
      go_region_held3 (fun w' => w'.cell? ⟨T, 0, none⟩ = some (.int .i64 y0) ∧ w'.cell? ⟨T, 1, none⟩ = some (.int .i64 y1) ∧ w'.cell? ⟨T, 2, none⟩ = some (.int .i64 y2) ∧ w'.cell? ⟨T, 3, none⟩ = some (.int .i64 y3) ∧ w'.cell? ⟨T, 4, none⟩ = some (.int .i64 y4) ∧ w'.cell? ⟨T, 5, none⟩ = some (.int .i64 y5)) (first | assumption | go_keep | exact keep6 hb7 HKX.out) ((go_at_call 131; refine (isFree_any N P 4 ps ks ⟨y0, y1, y2, y3, y4, y5⟩ _ HP1.out).mono ?_; rintro e w7 ⟨rfl, hb7⟩))
      obtain ⟨d0, d1, d2, d3, d4, d5⟩ := keep6 hb7 HKX.out
      have HOW : Hid (OwnRec CoinD.l 107 6 w7 B u5 acc) := (OwnRec.drew hown1).grown hb7
      have hbld : Below B w w7 := hbl1.drew.trans (hb7.mono hsz1)
      have hszd : B ≤ w7.heap.size := Nat.le_trans hsz1 hb7.size
      clear x0 x1 x2 x3 x4 x5 hown1 hbl1 hsz1 HP1 HKX hb7 hTl
      generalize w1.drew = w1d at *
      cases hfr : freeB ps ks ⟨y0, y1, y2, y3, y4, y5⟩
      · rw [hfr] at HS
        go_wp2
        go_roundw
        case rel => exact ⟨k + 1, by omega, by go_num, by rw [HS.out, if_neg (by simp), List.append_nil]; exact HOW.out, hbld⟩
        case measure => simp [intOf]; omega
      · rw [hfr] at HS
        go_wp2_with (at_builtin; refine wpList_appR 45 48 _ Tryz.underlying45 info107 rfl (by decide) coin6 coin_one (w7.alloc (.cells #[.int .i64 y0, .int .i64 y1, .int .i64 y2, .int .i64 y3, .int .i64 y4, .int .i64 y5] 107)) rfl _ _ rfl B w7.heap.size 1 u5 acc ⟨y0, y1, y2, y3, y4, y5⟩ (by rfl) (by rfl) (HOW.out.alloc _) (vrow_new _ _ _) (by simp; omega) (by have := HLN.out; unfold maxLen; omega) (by have := HLN.out; omega) ?_; intro g' cap w5 hown5 hg5 _ _)
        go_roundw
        case rel => exact ⟨k + 1, by omega, by go_num, by rw [HS.out, if_pos rfl]; exact hown5, hbld.trans (gb_to_below (gb_trans (gb_alloc _ _ _) hg5) (by omega) (fun r hr => (HOW.out.blk r hr).1))⟩
        case measure => simp [intOf]; omega
    · have HE : Hid (cs.take k = cs) := by show _ = _; rw [List.take_of_length_le (by rw [HM.out]; omega)]
      rw [HE.out] at hown
      go_wp2
      go_ret
      exact ⟨_, rfl, hown, hbl⟩
theorem sumF_val {cs : List CoinD} {p : CoinD → Bool} (hv : ∀ x ∈ cs, 0 ≤ x.val ∧ x.val ≤ 1099511627776) : ∀ x ∈ cs.filter p, 0 ≤ x.val ∧ x.val ≤ 1099511627776 := fun x hx => hv x (List.mem_filter.1 hx).1
end Go.Proofs.YtffgpepngcnjeabGreatQ

namespace Go.Proofs.YtffgpepngcnjeabGreatQ
open Go.RowKit
end Go.Proofs.YtffgpepngcnjeabGreatQ

namespace Go.Proofs.YtffgpepngcnjeabGreatQ
open Go.RowKit
variable {Ex : List (Nat × Value)}
set_option maxRecDepth 100000 in
set_option maxHeartbeats 1000000 in
theorem chDis_any (b o : Nat) (v : Value) (h : Int) (xs : List Cel) (w : World) (hc : ChOwn Ex w b o v h xs) (hl : xs.length ≤ 20000) (hh : 0 < h) (hh2 : h ≤ 100) :
    Calls Tryz.prog 103 #[.pointer (some ⟨b, o, none⟩)] w fun e w' => e = .returned (.int .i64 0) ∧ ∃ v', ChOwn Ex w' b o v' (h - 1) (tbZ (h - 1) xs) ∧ ChStep b v v' w w' := by
  have c1 := hc.c1
  have f1 := hc.f1 (o + 1)
  have HC : Hid (ChOwn Ex (w.setCell ⟨b, o + 1, none⟩ (.int .i64 (h - 1))) b o v (h - 1) xs) := hc.hgt (h - 1)
  have HL : Hid (xs.length ≤ 20000) := hl
  clear hc hl
  have hw1 : IntKind.i64.wrap (h - 1) = h - 1 := IntWalk.i64_in _ ⟨by omega, by omega⟩
  have hd : decide (h ≤ 0) = false := by rw [decide_eq_false_iff_not]; omega
  go_enter Tryz.func103, Tryz.ntmps103
  go_wp2_with fail
  refine (takeBack_any b o v (h - 1) xs _ HC.out HL.out).mono ?_
  rintro e w6 ⟨rfl, v6, hch6, hst6⟩
  have hst0 : ChStep b v v w (w.setCell ⟨b, o + 1, none⟩ (.int .i64 (h - 1))) := ⟨(Fr.refl _ w).set b (o + 1) _ (fun _ => Or.inl rfl), fun _ hk => Or.inl hk⟩
  have hst := hst0.trans hst6
  clear hst0 hst6
  go_wp2
  go_ret
  exact ⟨rfl, v6, hch6, hst⟩
/-- a purse in block P -/
abbrev PAt (w : World) (P : Nat) (s : Int) (g : Nat) (v : Value) (h : Int) (xs : List Cel) : Prop := ChOwn [(0, .int .i64 s), (1, .int .i64 (g : Int)), (4, .slice none 0 0), (5, .slice none 0 0), (6, .int .i64 0), (7, .int .i64 0)] w P 2 v h xs
end Go.Proofs.YtffgpepngcnjeabGreatQ

namespace Go.Proofs.YtffgpepngcnjeabGreatQ
open Go.RowKit
def iV (x : Int) : List Value := [.int .i64 x]
def ints (A : List Nat) : List Int := A.map fun i : Nat => (i : Int)
end Go.Proofs.YtffgpepngcnjeabGreatQ
