/-
  What a block brings and leaves; it hangs on its contents alone.
-/
import Derived.Test.YtffgpepngcnjeaaChZ
import Derived.Test.YtffgpepngcnjeaaTagE
import Derived.Test.YtffgpepngcnjeaaTagF
namespace Go.Proofs.Ytffgpepngcnjeaa
open Go.RowKit

/-- xs is xs0 with what block h has brought so far -/
def Over (h : Int) (xs0 xs : List Cel) : Prop := ∃ pre new, xs = pre ++ new ∧ (∀ x ∈ new, x.made = h ∧ (x.spent = -1 ∨ x.spent = h)) ∧ (∀ x ∈ pre, x.made ≠ h) ∧ pre.map (unsp h) = xs0

theorem leftI_eq (h : Int) (xs : List Cel) (p : Nat) (hp : p = 0 ∨ (xs.getD (p - 1) dC).made ≠ h) : ∀ k, p ≤ k → (∀ j, p ≤ j → j < k → (xs.getD j dC).made = h) → leftI h xs k = p := by
  intro k
  induction k with
  | zero => intro hk _; exact (Nat.le_zero.1 hk).symm
  | succ k ih =>
    intro hk hj
    rw [leftI_succ]
    by_cases e : p = k + 1
    · subst e
      rcases hp with hp | hp
      · omega
      · rw [if_neg (by simpa using hp)]
    · rw [if_pos (hj k (by omega) (by omega))]
      exact ih (by omega) (fun j h1 h2 => hj j h1 (by omega))

theorem getD_app_left {α : Type} (a b : List α) (d : α) (j : Nat) (h : j < a.length) : (a ++ b).getD j d = a.getD j d := by
  simp only [List.getD]; rw [List.getElem?_append_left h]
theorem getD_app_right {α : Type} (a b : List α) (d : α) (j : Nat) (h : a.length ≤ j) : (a ++ b).getD j d = b.getD (j - a.length) d := by
  simp only [List.getD]; rw [List.getElem?_append_right h]

theorem tb_over {h : Int} {xs0 xs : List Cel} (ho : Over h xs0 xs) : tbZ h xs = xs0 := by
  obtain ⟨pre, new, rfl, hn, hp, hu⟩ := ho
  have hl : leftI h (pre ++ new) (pre ++ new).length = pre.length := by
    refine leftI_eq h _ _ ?_ _ (by simp) ?_
    · by_cases e : pre.length = 0
      · exact Or.inl e
      · right
        rw [getD_app_left _ _ _ _ (by omega)]
        exact hp _ (getD_mem pre dC _ (by omega))
    · intro j h1 h2
      rw [getD_app_right _ _ _ _ h1]
      exact (hn _ (getD_mem new dC _ (by rw [List.length_append] at h2; omega))).1
  unfold tbZ
  rw [hl, List.take_left]
  exact hu

theorem over_refl {h : Int} {xs : List Cel} (hx : ∀ x ∈ xs, x.made ≠ h ∧ x.spent ≠ h) : Over h xs xs := by
  refine ⟨xs, [], by simp, by simp, fun x hx' => (hx x hx').1, ?_⟩
  have e : ∀ x ∈ xs, unsp h x = id x := fun x hx' => by unfold unsp; rw [if_neg (hx x hx').2]; rfl
  rw [List.map_congr_left e, List.map_id]

theorem set_map_same {α β : Type} (f : α → β) (l : List α) (q : Nat) (y : α) (d : α) (hq : q < l.length) (hy : f y = f (l.getD q d)) : (l.set q y).map f = l.map f := by
  rw [List.map_set, hy]
  simp only [List.getD, List.getElem?_eq_getElem hq, Option.getD_some]
  have : f l[q] = (l.map f)[q]'(by simpa using hq) := by simp
  rw [this]
  exact List.set_getElem_self (by simpa using hq)

theorem over_mark1 {h : Int} {xs0 xs : List Cel} (ho : Over h xs0 xs) (hh : h ≠ -1) (q : Nat) (hq : q < xs.length) (hs : (xs.getD q dC).spent = -1 ∨ (xs.getD q dC).spent = h) : Over h xs0 (xs.set q ((xs.getD q dC).sp h)) := by
  obtain ⟨pre, new, rfl, hn, hp, hu⟩ := ho
  by_cases hl : q < pre.length
  · rw [getD_app_left _ _ _ _ hl] at hs ⊢
    refine ⟨pre.set q ((pre.getD q dC).sp h), new, by rw [List.set_append_left _ _ hl], hn, fun x hx => ?_, ?_⟩
    · rcases List.mem_or_eq_of_mem_set hx with hx | hx
      · exact hp x hx
      · have h3 := hp _ (getD_mem pre dC q hl)
        rw [hx]
        exact h3
    · rw [set_map_same (unsp h) pre q _ dC hl ?_]
      · exact hu
      · have e1 : unsp h ((pre.getD q dC).sp h) = ((pre.getD q dC).sp h).sp (-1) := by unfold unsp; exact if_pos rfl
        rw [e1]
        rcases hs with hs | hs
        · unfold unsp
          rw [if_neg (by rw [hs]; exact fun e => hh e.symm)]
          generalize pre.getD q dC = z at hs
          obtain ⟨z0, z1, z2, z3, z4, z5⟩ := z
          simp only at hs
          subst hs
          rfl
        · unfold unsp
          rw [if_pos hs]
          rfl
  · rw [getD_app_right _ _ _ _ (by omega)] at hs ⊢
    have hq2 : q - pre.length < new.length := by rw [List.length_append] at hq; omega
    refine ⟨pre, new.set (q - pre.length) ((new.getD (q - pre.length) dC).sp h), by rw [List.set_append_right _ _ (by omega)], fun x hx => ?_, hp, hu⟩
    rcases List.mem_or_eq_of_mem_set hx with hx | hx
    · exact hn x hx
    · rw [hx]
      exact ⟨(hn _ (getD_mem new dC _ hq2)).1, Or.inr rfl⟩

theorem over_mark {h : Int} (hh : h ≠ -1) {xs0 : List Cel} : ∀ (ss : List SpD) (xs : List Cel), Over h xs0 xs → (∀ s ∈ ss, s.pl.toNat < xs.length ∧ ((xs.getD s.pl.toNat dC).spent = -1 ∨ (xs.getD s.pl.toNat dC).spent = h)) → Over h xs0 (markZ h xs ss) := by
  intro ss
  induction ss with
  | nil => intro xs ho _; exact ho
  | cons s r ih =>
    intro xs ho hs
    obtain ⟨h1, h2⟩ := hs s (by simp)
    rw [markZ]
    refine ih _ (over_mark1 ho hh _ h1 h2) (fun s' hs' => ?_)
    obtain ⟨g1, g2⟩ := hs s' (by simp [hs'])
    refine ⟨by rw [List.length_set]; exact g1, ?_⟩
    by_cases e : s'.pl.toNat = s.pl.toNat
    · right
      rw [e]
      simp only [List.getD]
      rw [List.getElem?_set_self h1]
      rfl
    · simp only [List.getD] at g2 ⊢
      rw [List.getElem?_set_ne (fun e' => e e'.symm)]
      exact g2

theorem over_add {h : Int} (hh : h ≠ -1) {xs0 xs : List Cel} (ho : Over h xs0 xs) (t : Int) (ins : List InD) (ys : List (Int × Int)) (first : Bool) : Over h xs0 (addZ xs h t ins ys first).2 := by
  rcases addZ_cases xs h t ins ys first with ⟨_, h2⟩ | ⟨_, _, _, ss, hss, _, _, he⟩
  · rw [h2]; exact ho
  · rw [he]
    have hq : ∀ s ∈ ss, s.pl.toNat < xs.length ∧ ((xs.getD s.pl.toNat dC).spent = -1 ∨ (xs.getD s.pl.toNat dC).spent = h) := spZ_good xs (fun s => s.pl.toNat < xs.length ∧ ((xs.getD s.pl.toNat dC).spent = -1 ∨ (xs.getD s.pl.toNat dC).spent = h)) ins [] ss (fun i _ q hq hc => by
      have e : ((q : Int)).toNat = q := Int.toNat_natCast q
      simp only [e]
      refine ⟨hq, Or.inl ?_⟩
      simp only [isCoin, Bool.and_eq_true, beq_iff_eq] at hc
      exact hc.2.2) hss (fun s hs => by simp at hs)
    obtain ⟨pre, new, e, hn, hp, hu⟩ := over_mark hh ss xs ho hq
    refine ⟨pre, new ++ newC (idZ t ins ys) h ys ys.length, ?_, fun x hx => ?_, hp, hu⟩
    · show markZ h xs ss ++ _ = _
      rw [e, List.append_assoc]
    · rcases List.mem_append.1 hx with hx | hx
      · exact hn x hx
      · simp only [newC, List.mem_map, List.mem_range] at hx
        obtain ⟨j, _, rfl⟩ := hx
        exact ⟨rfl, Or.inl rfl⟩

theorem over_go {h : Int} (hh : h ≠ -1) {xs0 : List Cel} : ∀ (bl : List TxD) (xs : List Cel) (i : Nat), Over h xs0 xs → ((connGo h xs bl i).1 ≠ 0 → (connGo h xs bl i).2.2 = xs0) ∧ ((connGo h xs bl i).1 = 0 → Over h xs0 (connGo h xs bl i).2.2) := by
  intro bl
  induction bl with
  | nil => intro xs i ho; exact ⟨fun h => absurd rfl h, fun _ => ho⟩
  | cons t r ih =>
    intro xs i ho
    have ha := over_add hh ho t.t t.ins t.ys (i == 0)
    unfold connGo
    by_cases e : (addZ xs h t.t t.ins t.ys (i == 0)).1 ≠ 0
    · rw [if_pos e]
      exact ⟨fun _ => tb_over ha, fun h0 => absurd h0 e⟩
    · rw [if_neg e]
      exact ih _ _ ha

/-- made and spent by blocks below h -/
def Und (h : Int) (xs : List Cel) : Prop := ∀ x ∈ xs, x.made < h ∧ x.spent < h
theorem Und.over {h : Int} {xs0 xs : List Cel} (hu : Und h xs0) (ho : Over h xs0 xs) (hh : 0 ≤ h) : Und (h + 1) xs := by
  obtain ⟨pre, new, rfl, hn, hp, hm⟩ := ho
  intro x hx
  rcases List.mem_append.1 hx with hx | hx
  · have h1 : unsp h x ∈ xs0 := by rw [← hm]; exact List.mem_map_of_mem hx
    have h2 := hu _ h1
    unfold unsp at h2
    split at h2
    · rename_i e
      have h3 : x.made < h := h2.1
      omega
    · omega
  · obtain ⟨h1, h2⟩ := hn x hx
    omega
theorem Und.ne {h : Int} {xs : List Cel} (hu : Und h xs) : ∀ x ∈ xs, x.made ≠ h ∧ x.spent ≠ h := fun x hx => by have := hu x hx; omega

/-- what Connect says of a chain whose outputs are all of blocks below its height -/
theorem conn_cases (h : Int) (xs : List Cel) (bl : List TxD) (hu : Und h xs) (hh : 0 ≤ h) :
    ((connZ h xs bl).1 ≠ 0 ∧ (connZ h xs bl).2.2 = (h, xs)) ∨ (h < 40 ∧ (connZ h xs bl).1 = 0 ∧ (connZ h xs bl).2.1 = 0 ∧ (connZ h xs bl).2.2.1 = h + 1 ∧ Over h xs (connZ h xs bl).2.2.2) := by
  unfold connZ
  by_cases h40 : 40 ≤ h
  · rw [if_pos h40]; left; simp
  · rw [if_neg h40]
    by_cases h6 : 6 < bl.length
    · rw [if_pos h6]; left; simp
    · rw [if_neg h6]
      obtain ⟨g1, g2⟩ := over_go (h := h) (by omega) bl xs 0 (over_refl hu.ne)
      by_cases e : (connGo h xs bl 0).1 ≠ 0
      · rw [if_pos e]
        left
        refine ⟨e, ?_⟩
        simp only
        rw [g1 e]
      · rw [if_neg e]
        right
        exact ⟨by omega, rfl, rfl, rfl, g2 (by simpa using e)⟩

theorem go_len (h : Int) : ∀ (bl : List TxD) (xs : List Cel) (i : Nat), Vals xs → (connGo h xs bl i).1 = 0 → Vals (connGo h xs bl i).2.2 ∧ (connGo h xs bl i).2.2.length ≤ xs.length + 8 * bl.length := by
  intro bl
  induction bl with
  | nil => intro xs i hv _; exact ⟨hv, by simp [connGo]⟩
  | cons t r ih =>
    intro xs i hv
    obtain ⟨a1, a2⟩ := addZ_good xs h t.t t.ins t.ys (i == 0) hv
    unfold connGo
    by_cases e : (addZ xs h t.t t.ins t.ys (i == 0)).1 ≠ 0
    · rw [if_pos e]
      intro h0
      exact absurd h0 e
    · rw [if_neg e]
      intro h0
      obtain ⟨b1, b2⟩ := ih _ _ a1 h0
      refine ⟨b1, ?_⟩
      simp only [List.length_cons]
      omega
theorem conn_len (h : Int) (xs : List Cel) (bl : List TxD) (hv : Vals xs) (h0 : (connZ h xs bl).1 = 0) : Vals (connZ h xs bl).2.2.2 ∧ (connZ h xs bl).2.2.2.length ≤ xs.length + 48 := by
  unfold connZ at h0 ⊢
  by_cases h40 : 40 ≤ h
  · rw [if_pos h40] at h0; simp at h0
  · rw [if_neg h40] at h0 ⊢
    by_cases h6 : 6 < bl.length
    · rw [if_pos h6] at h0; simp at h0
    · rw [if_neg h6] at h0 ⊢
      by_cases e : (connGo h xs bl 0).1 ≠ 0
      · rw [if_pos e] at h0; exact absurd h0 e
      · rw [if_neg e]
        have := go_len h bl xs 0 hv (by simpa using e)
        refine ⟨this.1, ?_⟩
        have := this.2
        simp only
        omega

end Go.Proofs.Ytffgpepngcnjeaa
namespace Go.Proofs.Ytffgpepngcnjeaa
open Go.RowKit

def InD.st (x : InD) : InD := ⟨x.id, x.pos, none, x.n, 0, x.l⟩
def SpD.st (x : SpD) : SpD := match x with
  | ⟨a, b, c, _, n, _, l⟩ => ⟨a, b, c, none, n, 0, l⟩

theorem rIn_st (x : InD) : rIn x.st = rIn x := rfl
theorem rIns_st (xs : List InD) : rIns (xs.map InD.st) = rIns xs := by
  unfold rIns
  rw [List.length_map, List.all_map]
  rfl
theorem rTx_st (t : Int) (xs : List InD) (ys : List (Int × Int)) : rTx t (xs.map InD.st) ys = rTx t xs ys := by
  unfold rTx
  rw [rIns_st]
theorem inL_st (xs : List InD) : inL (xs.map InD.st) = inL xs := by
  unfold inL
  rw [List.flatMap_map]
  rfl
theorem idZ_st (t : Int) (xs : List InD) (ys : List (Int × Int)) : idZ t (xs.map InD.st) ys = idZ t xs ys := by
  unfold idZ idL
  rw [rTx_st, inL_st, List.length_map]
theorem isSp_st (acc : List SpD) (p : Int) : isSp (acc.map SpD.st) p = isSp acc p := by
  unfold isSp
  rw [List.any_map]
  rfl
theorem spZ_st (xs : List Cel) : ∀ (ins : List InD) (acc : List SpD), spZ xs (ins.map InD.st) (acc.map SpD.st) = (spZ xs ins acc).map (List.map SpD.st) := by
  intro ins
  induction ins with
  | nil => intro acc; rfl
  | cons i r ih =>
    intro acc
    rw [List.map_cons]
    unfold spZ
    rw [isSp_st]
    by_cases hc : findZ xs i.id i.pos < 0 ∨ isSp acc (findZ xs i.id i.pos) = true
    · have hc' : findZ xs i.st.id i.st.pos < 0 ∨ isSp acc (findZ xs i.st.id i.st.pos) = true := hc
      rw [if_pos hc', if_pos hc]
      rfl
    · have hc' : ¬(findZ xs i.st.id i.st.pos < 0 ∨ isSp acc (findZ xs i.st.id i.st.pos) = true) := hc
      rw [if_neg hc', if_neg hc, ← ih]
      rw [List.map_append]
      rfl
theorem all_st (id : Int) (ss : List SpD) : (ss.map SpD.st).all (opens id) = ss.all (opens id) := by
  rw [List.all_map]
  rfl
theorem sumSp_st (ss : List SpD) : sumSp (ss.map SpD.st) = sumSp ss := by
  unfold sumSp
  rw [List.map_map]
  rfl
theorem markZ_st (h : Int) (ss : List SpD) : ∀ xs, markZ h xs (ss.map SpD.st) = markZ h xs ss := by
  induction ss with
  | nil => intro xs; rfl
  | cons s r ih => intro xs; rw [List.map_cons, markZ, markZ, ih]; rfl
theorem addZ_st (xs : List Cel) (h t : Int) (ins : List InD) (ys : List (Int × Int)) (first : Bool) : addZ xs h t (ins.map InD.st) ys first = addZ xs h t ins ys first := by
  unfold addZ
  rw [rTx_st, idZ_st]
  have e0 : (ins.map InD.st = [] ∧ first = false) = (ins = [] ∧ first = false) := by rw [List.map_eq_nil_iff]
  simp only [e0]
  have e1 := spZ_st xs ins []
  rw [List.map_nil] at e1
  rw [e1]
  cases spZ xs ins [] with
  | none => rfl
  | some ss =>
    simp only [Option.map_some]
    rw [all_st, sumSp_st, markZ_st]
    have e2 : (ss.map SpD.st ≠ [] ∧ sumSp ss < sumOu ys) = (ss ≠ [] ∧ sumSp ss < sumOu ys) := by rw [ne_eq, List.map_eq_nil_iff]
    simp only [e2]

/-- the contents of a transaction -/
def TxD.k (x : TxD) : Int × List InD × List (Int × Int) := (x.t, x.ins.map InD.st, x.ys)
theorem connGo_k (h : Int) : ∀ (bl bl' : List TxD) (xs : List Cel) (i : Nat), bl.map TxD.k = bl'.map TxD.k → connGo h xs bl i = connGo h xs bl' i := by
  intro bl
  induction bl with
  | nil =>
    intro bl' xs i e
    cases bl' with
    | nil => rfl
    | cons t r => simp at e
  | cons t r ih =>
    intro bl' xs i e
    cases bl' with
    | nil => simp at e
    | cons t' r' =>
      rw [List.map_cons, List.map_cons] at e
      injection e with e1 e2
      simp only [TxD.k, Prod.mk.injEq] at e1
      obtain ⟨k1, k2, k3⟩ := e1
      have ea : addZ xs h t.t t.ins t.ys (i == 0) = addZ xs h t'.t t'.ins t'.ys (i == 0) := by
        rw [← addZ_st xs h t.t t.ins, ← addZ_st xs h t'.t t'.ins, k1, k2, k3]
      unfold connGo
      rw [ea, ih r' _ _ e2]
theorem connZ_k (h : Int) (xs : List Cel) (bl bl' : List TxD) (e : bl.map TxD.k = bl'.map TxD.k) : connZ h xs bl = connZ h xs bl' := by
  have el : bl.length = bl'.length := by have := congrArg List.length e; simpa using this
  unfold connZ
  rw [connGo_k h bl bl' xs 0 e, el]

theorem same_st {xs xs' : List InD} (hl : xs'.length = xs.length) (h : ∀ j, j < xs.length → Same (xs.getD j dIn) (xs'.getD j dIn)) : xs'.map InD.st = xs.map InD.st := by
  apply List.ext_getElem
  · rw [List.length_map, List.length_map, hl]
  · intro j h1 h2
    rw [List.length_map] at h1 h2
    have := h j h2
    simp only [List.getD, List.getElem?_eq_getElem h1, List.getElem?_eq_getElem h2, Option.getD_some] at this
    obtain ⟨e1, e2, e3, e4⟩ := this
    rw [List.getElem_map, List.getElem_map]
    unfold InD.st
    rw [e1, e2, e3, e4]

end Go.Proofs.Ytffgpepngcnjeaa
