/-
  Which coins a payment takes: the program's answer is the document's.
  Which coins a payment takes, the plain part: the greatest coins suffice just where something is chosen.
  One number of a transaction turned: another id.
  Found, the plain part: windows, own coins of deposits, new ids.
  The own coins of a scene are its deposits.
-/
import Derived.Test.YtffgpepngcnjeabMae
import Derived.Test.YtffgpepngcnjeabMab
namespace Go.Proofs.Ytffgpepngcnjeab
open Go.RowKit
/-- the program: how few of the first are enough, and their sum -/
def enZ (r want : Int) : List CoinD → Nat → Int → Nat × Int
  | [], _, _ => (0, 0)
  | c :: t, i, s => if want ≤ s + worthZ r c then (i + 1, s + worthZ r c) else enZ r want t (i + 1) (s + worthZ r c)
/-- the document: one after the other, till nothing is left to pay -/
def seD (r : Int) : List CoinD → List CoinD → Int → Option (List CoinD × Int)
  | [], _, _ => none
  | c :: t, out, left => if 0 ≤ left + worthZ r c then some (out ++ [c], left + worthZ r c) else seD r t (out ++ [c]) (left + worthZ r c)
theorem enZ_ge (r want : Int) : ∀ (t : List CoinD) (i : Nat) (s : Int), (enZ r want t i s).1 = 0 ∨ (i < (enZ r want t i s).1 ∧ (enZ r want t i s).1 ≤ i + t.length) := by
  intro t
  induction t with
  | nil => intro i s; exact Or.inl rfl
  | cons c t ih =>
    intro i s
    rw [enZ]
    split
    · right
      simp only [List.length_cons]
      omega
    · rcases ih (i + 1) (s + worthZ r c) with h | h
      · exact Or.inl h
      · right
        simp only [List.length_cons]
        omega
theorem en_se (r want : Int) : ∀ (t pre : List CoinD) (s : Int), pre.length ≤ 10 → seD r (t.take (10 - pre.length)) pre (s - want) =
    if (enZ r want t pre.length s).1 = 0 ∨ 10 < (enZ r want t pre.length s).1 then none else some ((pre ++ t).take (enZ r want t pre.length s).1, (enZ r want t pre.length s).2 - want) := by
  intro t
  induction t with
  | nil =>
    intro pre s _
    rw [List.take_nil, seD, enZ, if_pos (Or.inl rfl)]
  | cons c t ih =>
    intro pre s hp
    by_cases h10 : pre.length = 10
    · rw [h10, Nat.sub_self, List.take_zero, seD]
      rcases enZ_ge r want (c :: t) 10 s with h | h
      · rw [if_pos (Or.inl h)]
      · rw [if_pos (Or.inr h.1)]
    · rw [show 10 - pre.length = (10 - (pre.length + 1)) + 1 by omega, List.take_succ_cons, seD, enZ]
      by_cases hw : want ≤ s + worthZ r c
      · rw [if_pos (by omega), if_pos hw, if_neg (by simp only; omega)]
        simp only
        congr 2
        · rw [List.take_append, List.take_of_length_le (by omega), show pre.length + 1 - pre.length = 1 by omega]
          rfl
        · omega
      · rw [if_neg (by omega), if_neg hw]
        have := ih (pre ++ [c]) (s + worthZ r c) (by simp; omega)
        rw [List.length_append, List.length_singleton, List.append_assoc, List.singleton_append] at this
        rw [← this]
        congr 1
        omega
def slackZ (r : Int) : Int := 2 * r + 9
def chooseZ (r : Int) (cs : List CoinD) (want : Int) : Option (List CoinD × Int) :=
  if bestP r cs want (want + slackZ r) ≠ 0 then some (memP cs (bestP r cs want (want + slackZ r)), 0)
  else if (enZ r want cs 0 0).1 = 0 ∨ 10 < (enZ r want cs 0 0).1 then none
  else some (cs.take (enZ r want cs 0 0).1, if (enZ r want cs 0 0).2 - want ≤ slackZ r then 0 else (enZ r want cs 0 0).2 - want - 2 * r)
def chosenD (r : Int) (cs : List CoinD) (want : Int) : List CoinD × Int :=
  if 0 < bestD r cs (min 8 cs.length) want (want + 2 * r + 10 - 1) then (memD cs (min 8 cs.length) (bestD r cs (min 8 cs.length) want (want + 2 * r + 10 - 1)), 0)
  else match seD r (cs.take 10) [] (-want) with
    | none => ([], 0)
    | some (out, left) => (out, if 10 ≤ left - 2 * r then left - 2 * r else 0)
theorem sum_none {n : Nat} {f : Nat → Int} {b : Nat → Bool} (h : (List.range n).filter b = []) : ((List.range n).map fun i => if b i then f i else 0).sum = 0 := by
  refine sum_zero (fun i hi => ?_)
  have := List.filter_eq_nil_iff.1 h i hi
  rw [if_neg (by simpa using this)]
theorem choose_same (r : Int) (cs : List CoinD) (want : Int) (hw : 0 < want) : (chooseZ r cs want = none ∧ chosenD r cs want = ([], 0)) ∨ ∃ l c, chooseZ r cs want = some (l, c) ∧ chosenD r cs want = (l, c) ∧ l ≠ [] ∧ 0 ≤ c ∧ (0 < c → 10 ≤ c) := by
  have hs : want + 2 * r + 10 - 1 = want + slackZ r := by unfold slackZ; omega
  obtain ⟨b1, b2⟩ := best_same r cs (min 8 cs.length) rfl want (want + slackZ r) hw
  unfold chooseZ chosenD
  rw [hs]
  have hD : Best (sumD r cs (min 8 cs.length)) want (want + slackZ r) (2 ^ (min 8 cs.length) - 1) (bestD r cs (min 8 cs.length) want (want + slackZ r)) := fit_best _ _ _ (2 ^ (min 8 cs.length) - 1) (2 ^ (min 8 cs.length) - 1) (0, 0) (Nat.le_refl _) (fun _ => fun m h1 h2 => by omega) (fun h => absurd rfl h)
  by_cases e : bestP r cs want (want + slackZ r) = 0
  · have e2 := b2.1 e
    rw [e, e2, if_neg (fun h => h rfl), if_neg (Nat.lt_irrefl 0)]
    have h := en_se r want cs [] 0 (by simp)
    simp only [List.length_nil, Nat.sub_zero, List.nil_append] at h
    rw [show (0 : Int) - want = -want by omega] at h
    rw [h]
    by_cases hc : (enZ r want cs 0 0).1 = 0 ∨ 10 < (enZ r want cs 0 0).1
    · rw [if_pos hc, if_pos hc]
      exact Or.inl ⟨rfl, rfl⟩
    · rw [if_neg hc, if_neg hc]
      refine Or.inr ⟨_, _, rfl, ?_, ?_, ?_, ?_⟩
      · simp only
        congr 1
        unfold slackZ
        split <;> split <;> omega
      · intro hn
        rcases enZ_ge r want cs 0 0 with h | h
        · exact hc (Or.inl h)
        · have := congrArg List.length hn
          rw [List.length_take, List.length_nil] at this
          omega
      · unfold slackZ
        split <;> omega
      · unfold slackZ
        split <;> omega
  · have e2 : bestD r cs (min 8 cs.length) want (want + slackZ r) ≠ 0 := fun h => e (b2.2 h)
    rw [if_pos e, if_pos (Nat.pos_of_ne_zero e2)]
    refine Or.inr ⟨_, _, rfl, ?_, ?_, Int.le_refl _, fun h => absurd h (by simp)⟩
    · rw [memP_D cs (min 8 cs.length) rfl, b1]
    · rw [memP_D cs (min 8 cs.length) rfl, b1]
      intro hn
      have h0 : (List.range (min 8 cs.length)).filter (fun i => bitN (bestD r cs (min 8 cs.length) want (want + slackZ r)) (min 8 cs.length) i) = [] := by
        unfold memD at hn
        exact List.map_eq_nil_iff.1 hn
      have h1 := (hD.yes e2).2.1
      unfold sumD at h1
      rw [sum_none h0] at h1
      omega
end Go.Proofs.Ytffgpepngcnjeab

namespace Go.Proofs.Ytffgpepngcnjeab
open Go.RowKit
theorem insZ_perm (gf : Bool) (cs : List CoinD) (x : CoinD) : (insZ gf cs x).Perm (x :: cs) := by
  unfold insZ insAt
  refine List.perm_middle.trans ?_
  rw [List.take_append_drop]
theorem insF_perm (gf : Bool) : ∀ (l acc : List CoinD), (l.foldl (insZ gf) acc).Perm (l ++ acc) := by
  intro l
  induction l with
  | nil => intro acc; exact List.Perm.refl _
  | cons x r ih =>
    intro acc
    refine (ih _).trans ?_
    rw [List.cons_append]
    exact (List.Perm.append_left r (insZ_perm gf acc x)).trans List.perm_middle
theorem order_perm (r : Int) (l : List CoinD) : (orderZ r l).Perm (l.filter fun c => decide (1 ≤ worthZ r c)) := by
  rw [orderZ_filter]
  simpa using insF_perm true (l.filter fun c => decide (1 ≤ worthZ r c)) []
theorem insI_spec (cs : List CoinD) (x : CoinD) : ∀ n, insI true cs x n ≤ n ∧ (∀ k, insI true cs x n ≤ k → k < n → aheadG true x (cs.getD k dN) = true) ∧ (0 < insI true cs x n → aheadG true x (cs.getD (insI true cs x n - 1) dN) = false) := by
  intro n
  induction n with
  | zero => exact ⟨Nat.le_refl _, fun k _ h => absurd h (Nat.not_lt_zero _), fun h => absurd h (Nat.not_lt_zero _)⟩
  | succ n ih =>
    rw [insI_succ]
    by_cases h : aheadG true x (cs.getD n dN) = true
    · rw [if_pos h]
      refine ⟨by omega, fun k h1 h2 => ?_, ih.2.2⟩
      by_cases e : k = n
      · rw [e]; exact h
      · exact ih.2.1 k h1 (by omega)
    · rw [if_neg h]
      refine ⟨Nat.le_refl _, fun k h1 h2 => by omega, fun _ => ?_⟩
      rw [Nat.add_sub_cancel]
      simpa using h
theorem ahead_ge {x y : CoinD} (h : aheadG true x y = true) : y.val ≤ x.val := by
  unfold aheadG at h
  split at h
  · have := of_decide_eq_true h; omega
  · rename_i e
    have : x.val = y.val := Classical.byContradiction fun h2 => e ⟨rfl, h2⟩
    omega
theorem ahead_le {x y : CoinD} (h : aheadG true x y = false) : x.val ≤ y.val := by
  unfold aheadG at h
  split at h
  · have := of_decide_eq_false h; omega
  · rename_i e
    have : x.val = y.val := Classical.byContradiction fun h2 => e ⟨rfl, h2⟩
    omega
abbrev Down (l : List CoinD) : Prop := l.Pairwise fun a b => b.val ≤ a.val
theorem insZ_down (cs : List CoinD) (x : CoinD) (h : Down cs) : Down (insZ true cs x) := by
  obtain ⟨h1, h2, h3⟩ := insI_spec cs x cs.length
  unfold insZ insAt
  generalize insI true cs x cs.length = i at *
  have hp := List.pairwise_iff_getElem.1 h
  have hlo : ∀ y ∈ cs.take i, x.val ≤ y.val := fun y hy => by
    obtain ⟨k, hk, e⟩ := List.getElem_of_mem hy
    rw [List.length_take] at hk
    have hk1 : k < i := by omega
    have e2 : cs[k]'(by omega) = y := by rw [← e]; simp
    have h4 := ahead_le (h3 (by omega))
    have e3 : cs.getD (i - 1) dN = cs[i - 1]'(by omega) := by simp [List.getD, show i - 1 < cs.length by omega]
    rw [e3] at h4
    by_cases e4 : k = i - 1
    · subst e4; rw [← e2]; exact h4
    · have := hp k (i - 1) (by omega) (by omega) (by omega)
      rw [← e2]; omega
  have hhi : ∀ y ∈ cs.drop i, y.val ≤ x.val := fun y hy => by
    obtain ⟨k, hk, e⟩ := List.getElem_of_mem hy
    rw [List.length_drop] at hk
    have h4 := ahead_ge (h2 (i + k) (by omega) (by omega))
    have e3 : cs.getD (i + k) dN = y := by rw [← e]; simp [List.getD, show i + k < cs.length by omega]
    rw [e3] at h4
    exact h4
  rw [Down, List.pairwise_append, List.pairwise_cons]
  refine ⟨h.sublist (List.take_sublist _ _), ⟨hhi, h.sublist (List.drop_sublist _ _)⟩, fun a ha b hb => ?_⟩
  rcases List.mem_cons.1 hb with e | e
  · rw [e]; exact hlo a ha
  · have := hlo a ha; have := hhi b e; omega
theorem order_down (r : Int) (l : List CoinD) : Down (orderZ r l) := by
  rw [orderZ_filter]
  have : ∀ (l acc : List CoinD), Down acc → Down (l.foldl (insZ true) acc) := by
    intro l
    induction l with
    | nil => intro acc h; exact h
    | cons x t ih => intro acc h; exact ih _ (insZ_down acc x h)
  exact this _ _ List.Pairwise.nil
/-- the greatest one after the other; what is below nothing counts nothing -/
def mx0 (v : Int) : Int := if 0 < v then v else 0
inductive Gr : Nat → List Int → Int → Prop
  | zero (l : List Int) : Gr 0 l 0
  | nil (n : Nat) : Gr n [] 0
  | step (n : Nat) (l : List Int) (m s : Int) : m ∈ l → (∀ x ∈ l, x ≤ m) → Gr n (l.erase m) s → Gr (n + 1) l (mx0 m + s)
theorem gr_perm : ∀ (n : Nat) (l l' : List Int) (s : Int), Gr n l s → l.Perm l' → Gr n l' s := by
  intro n l l' s h
  induction h generalizing l' with
  | zero l => intro _; exact Gr.zero _
  | nil n => intro hp; rw [List.nil_perm.1 hp]; exact Gr.nil n
  | step n l m s h1 h2 _ ih => intro hp; exact Gr.step n l' m s (hp.mem_iff.1 h1) (fun x hx => h2 x (hp.mem_iff.2 hx)) (ih _ (hp.erase m))
/-- descending ones ahead of those below 1 -/
theorem gr_order (r : Int) (n : Nat) (l : List CoinD) (s : Int) (h : Gr n (l.map (worthZ r)) s) : s = (((orderZ r l).take n).map (worthZ r)).sum := by
  have hall : ∀ x ∈ orderZ r l, 1 ≤ worthZ r x := fun x hx => by
    have := (order_perm r l).mem_iff.1 hx
    exact of_decide_eq_true (List.mem_filter.1 this).2
  have hd := order_down r l
  -- the rest, in any descending order
  have key : ∀ (o : List CoinD), Down o → (∀ x ∈ o, 1 ≤ worthZ r x) → ∀ (rest : List Int), (∀ x ∈ rest, x ≤ 0) → ∀ n s, Gr n (o.map (worthZ r) ++ rest) s → s = ((o.take n).map (worthZ r)).sum := by
    intro o
    induction o with
    | nil =>
      intro _ _ rest hr n s hg
      rw [List.take_nil]
      show s = 0
      rw [List.map_nil, List.nil_append] at hg
      have : ∀ n l s, Gr n l s → (∀ x ∈ l, x ≤ 0) → s = 0 := by
        intro n l s h
        induction h with
        | zero l => intro _; rfl
        | nil n => intro _; rfl
        | step n l m s h1 h2 _ ih =>
          intro hl
          rw [ih (fun x hx => hl x (List.mem_of_mem_erase hx))]
          have := hl m h1
          unfold mx0
          rw [if_neg (by omega)]
          rfl
      exact this _ _ _ hg hr
    | cons a t ih =>
      intro hd ha rest hr n s hg
      obtain ⟨hd1, hd2⟩ := List.pairwise_cons.1 hd
      cases hg with
      | zero => rfl
      | step n _ m s h1 h2 h3 =>
        have h4 := ha a List.mem_cons_self
        have e : m = worthZ r a := by
          have h5 := h2 (worthZ r a) (by simp)
          rw [List.map_cons, List.cons_append] at h1
          rcases List.mem_cons.1 h1 with e | e
          · exact e
          · rcases List.mem_append.1 e with e | e
            · obtain ⟨y, hy, rfl⟩ := List.mem_map.1 e
              have := hd1 y hy
              unfold worthZ at h5 ⊢
              omega
            · have := hr m e; omega
        subst e
        rw [List.map_cons, List.cons_append, List.erase_cons_head] at h3
        rw [ih hd2 (fun x hx => ha x (List.mem_cons_of_mem _ hx)) rest hr n s h3, List.take_succ_cons, List.map_cons, List.sum_cons]
        unfold mx0
        rw [if_pos (by omega)]
  refine key (orderZ r l) hd hall ((l.filter fun c => !decide (1 ≤ worthZ r c)).map (worthZ r)) (fun x hx => ?_) n s (gr_perm _ _ _ _ h ?_)
  · obtain ⟨y, hy, rfl⟩ := List.mem_map.1 hx
    have := (List.mem_filter.1 hy).2
    simp at this
    omega
  · rw [← List.map_append]
    refine List.Perm.map _ ?_
    exact ((List.filter_append_perm (fun c => decide (1 ≤ worthZ r c)) l).symm).trans (List.Perm.append_right _ (order_perm r l).symm)
def wsum (r : Int) (l : List CoinD) : Int := (l.map (worthZ r)).sum
theorem wsum_nil (r : Int) : wsum r [] = 0 := rfl
theorem wsum_cons (r : Int) (c : CoinD) (l : List CoinD) : wsum r (c :: l) = worthZ r c + wsum r l := by simp [wsum]
theorem en_spec (r want : Int) : ∀ (t : List CoinD) (i : Nat) (s : Int), ((enZ r want t i s).1 = 0 ∧ ∀ k, 0 < k → s + wsum r (t.take k) < want ∨ t = []) ∨ ∃ k, 0 < k ∧ k ≤ t.length ∧ (enZ r want t i s).1 = i + k ∧ (enZ r want t i s).2 = s + wsum r (t.take k) ∧ want ≤ s + wsum r (t.take k) ∧ ∀ j, 0 < j → j < k → s + wsum r (t.take j) < want := by
  intro t
  induction t with
  | nil => intro i s; exact Or.inl ⟨rfl, fun k _ => Or.inr rfl⟩
  | cons c t ih =>
    intro i s
    rw [enZ]
    have h1 : wsum r ((c :: t).take 1) = worthZ r c := by rw [List.take_succ_cons, wsum_cons, List.take_zero, wsum_nil, Int.add_zero]
    by_cases h : want ≤ s + worthZ r c
    · rw [if_pos h]
      exact Or.inr ⟨1, by omega, by simp, rfl, by rw [h1], by rw [h1]; exact h, fun j h2 h3 => by omega⟩
    · rw [if_neg h]
      rcases ih (i + 1) (s + worthZ r c) with ⟨e1, e2⟩ | ⟨k, e1, e2, e3, e4, e5, e6⟩
      · refine Or.inl ⟨e1, fun k hk => Or.inl ?_⟩
        obtain ⟨j, rfl⟩ : ∃ j, k = j + 1 := ⟨k - 1, by omega⟩
        rw [List.take_succ_cons, wsum_cons]
        by_cases hj : j = 0
        · subst hj; rw [List.take_zero, wsum_nil]; omega
        · rcases e2 j (by omega) with e | e
          · omega
          · rw [e, List.take_nil, wsum_nil]; omega
      · refine Or.inr ⟨k + 1, by omega, by simp; omega, by rw [e3]; omega, ?_, ?_, fun j h2 h3 => ?_⟩
        · rw [e4, List.take_succ_cons, wsum_cons]; omega
        · rw [List.take_succ_cons, wsum_cons]; omega
        · obtain ⟨q, rfl⟩ : ∃ q, j = q + 1 := ⟨j - 1, by omega⟩
          rw [List.take_succ_cons, wsum_cons]
          by_cases hq : q = 0
          · subst hq; rw [List.take_zero, wsum_nil]; omega
          · have := e6 q (by omega) (by omega); omega
theorem sum_filter {f : Nat → Int} (p : Nat → Bool) : ∀ (l : List Nat), (l.map fun i => if p i = true then f i else 0).sum = ((l.filter p).map f).sum := by
  intro l
  induction l with
  | nil => rfl
  | cons x t ih =>
    rw [List.map_cons, List.sum_cons, ih, List.filter_cons]
    split
    · rw [List.map_cons, List.sum_cons]
    · rw [Int.zero_add]
theorem sumP_mem (r : Int) (cs : List CoinD) (m : Nat) : sumP r cs m = wsum r (memP cs m) := by
  unfold sumP memP wsum
  rw [sum_filter (f := fun i => worthZ r (cs.getD i dN)), List.map_map]
  rfl
theorem memP_sub (cs : List CoinD) (m : Nat) : (memP cs m).Sublist (cs.take 8) := by
  have e : cs.take 8 = ((List.range 8).filter fun i => decide (i < cs.length)).map fun i => cs.getD i dN := by
    have : ∀ n, cs.take n = ((List.range n).filter fun i => decide (i < cs.length)).map fun i => cs.getD i dN := by
      intro n
      induction n with
      | zero => rfl
      | succ n ih =>
        rw [List.range_succ, List.filter_append, List.map_append, ← ih]
        by_cases h : n < cs.length
        · rw [List.take_succ_eq_append_getElem h]
          simp [h, List.getD]
        · rw [List.take_of_length_le (by omega), List.take_of_length_le (by omega)]
          simp [h]
    exact this 8
  rw [e]
  unfold memP
  refine List.Sublist.map _ ?_
  have : ((List.range 8).filter fun i => decide (i < cs.length) && bitN m 8 i) = ((List.range 8).filter fun i => decide (i < cs.length)).filter fun i => bitN m 8 i := by
    rw [List.filter_filter]
    refine List.filter_congr (fun i _ => Bool.and_comm _ _)
  rw [this]
  exact List.filter_sublist
theorem best_P (r : Int) (cs : List CoinD) (lo hi : Int) : Best (sumP r cs) lo hi 255 (bestP r cs lo hi) := near_best _ _ _ 255 255 (0, hi + 1) (Nat.le_refl _) (fun _ => ⟨rfl, fun m h1 h2 => by omega⟩) (fun h => absurd rfl h)
theorem choose_some (r : Int) (cs : List CoinD) (want : Int) (hw : 0 < want) (l : List CoinD) (ch : Int) (h : chooseZ r cs want = some (l, ch)) : l.Sublist cs ∧ l.length ≤ 10 ∧ l ≠ [] ∧ want ≤ wsum r l ∧ ((ch = 0 ∧ wsum r l - want ≤ slackZ r) ∨ (ch = wsum r l - want - 2 * r ∧ 10 ≤ ch)) := by
  unfold chooseZ at h
  have hb := best_P r cs want (want + slackZ r)
  by_cases e : bestP r cs want (want + slackZ r) = 0
  · rw [e, if_neg (fun h => h rfl)] at h
    rcases en_spec r want cs 0 0 with ⟨e1, e2⟩ | ⟨k, e1, e2, e3, e4, e5, e6⟩
    · rw [if_pos (Or.inl e1)] at h; cases h
    · rw [Nat.zero_add] at e3
      rw [Int.zero_add] at e4 e5
      by_cases hk : 10 < k
      · rw [if_pos (Or.inr (by omega))] at h; cases h
      · rw [if_neg (by omega), e3, e4] at h
        injection h with h
        injection h with h1 h2
        rw [← h1]
        refine ⟨List.take_sublist _ _, by rw [List.length_take]; omega, fun hn => ?_, e5, ?_⟩
        · have := congrArg List.length hn
          rw [List.length_take, List.length_nil] at this
          omega
        · unfold slackZ at h2 ⊢
          split at h2
          · left; omega
          · right; omega
  · rw [if_pos e] at h
    injection h with h
    injection h with h1 h2
    obtain ⟨_, a1, a2, _⟩ := hb.yes e
    rw [sumP_mem] at a1 a2
    rw [← h1, ← h2]
    have hs := memP_sub cs (bestP r cs want (want + slackZ r))
    refine ⟨hs.trans (List.take_sublist _ _), ?_, fun hn => ?_, a1, Or.inl ⟨rfl, by omega⟩⟩
    · have := hs.length_le
      rw [List.length_take] at this
      omega
    · rw [hn, wsum_nil] at a1
      omega
/-- what is not gone yet -/
def remG : List Bool → List Int → List Int
  | g :: gs, v :: vs => if g = true then remG gs vs else v :: remG gs vs
  | _, _ => []
theorem rem_all : ∀ (vs : List Int), remG (List.replicate vs.length false) vs = vs := by
  intro vs
  induction vs with
  | nil => rfl
  | cons v t ih => rw [List.length_cons, List.replicate_succ, remG, if_neg (by simp), ih]
theorem rem_set : ∀ (gs : List Bool) (vs : List Int) (b : Nat), gs.length = vs.length → b < gs.length → gs.getD b true = false → (remG gs vs).Perm (vs.getD b 0 :: remG (gs.set b true) vs) := by
  intro gs
  induction gs with
  | nil => intro vs b _ h; exact absurd h (Nat.not_lt_zero _)
  | cons g t ih =>
    intro vs b hl hb hg
    cases vs with
    | nil => simp at hl
    | cons v vt =>
      cases b with
      | zero =>
        have hg' : g = false := by simpa using hg
        subst hg'
        rw [List.set_cons_zero, remG, if_neg (by simp), remG, if_pos rfl]
        exact List.Perm.refl _
      | succ b =>
        have := ih vt b (by simpa using hl) (by simpa using hb) (by simpa using hg)
        rw [List.set_cons_succ, remG, remG]
        have e : (v :: vt).getD (b + 1) 0 = vt.getD b 0 := by simp
        rw [e]
        split
        · exact this
        · exact (List.Perm.cons v this).trans (List.Perm.swap _ _ _)
theorem rem_mem : ∀ (gs : List Bool) (vs : List Int) (x : Int), gs.length = vs.length → x ∈ remG gs vs → ∃ j, j < gs.length ∧ gs.getD j true = false ∧ vs.getD j 0 = x := by
  intro gs
  induction gs with
  | nil => intro vs x _ h; simp [remG] at h
  | cons g t ih =>
    intro vs x hl h
    cases vs with
    | nil => simp at hl
    | cons v vt =>
      rw [remG] at h
      split at h
      · obtain ⟨j, h1, h2, h3⟩ := ih vt x (by simpa using hl) h
        exact ⟨j + 1, by simpa using h1, by simpa using h2, by simpa using h3⟩
      · rename_i hg
        rcases List.mem_cons.1 h with e | e
        · exact ⟨0, by simp, by simpa using hg, by simpa using e.symm⟩
        · obtain ⟨j, h1, h2, h3⟩ := ih vt x (by simpa using hl) e
          exact ⟨j + 1, by simpa using h1, by simpa using h2, by simpa using h3⟩
/-- the greatest that is not gone -/
theorem gr_pick {n : Nat} {gs : List Bool} {vs : List Int} {b : Nat} {s : Int} (hl : gs.length = vs.length) (hb : b < gs.length) (hg : gs.getD b true = false) (hm : ∀ j, j < gs.length → gs.getD j true = false → vs.getD j 0 ≤ vs.getD b 0) (h : Gr n (remG (gs.set b true) vs) s) : Gr (n + 1) (remG gs vs) (mx0 (vs.getD b 0) + s) := by
  have hp := rem_set gs vs b hl hb hg
  refine Gr.step n _ _ _ (hp.mem_iff.2 List.mem_cons_self) (fun x hx => ?_) (gr_perm _ _ _ _ h ?_)
  · obtain ⟨j, h1, h2, h3⟩ := rem_mem gs vs x hl hx
    rw [← h3]
    exact hm j h1 h2
  · have := hp.erase (vs.getD b 0)
    rw [List.erase_cons_head] at this
    exact this.symm
theorem rem_len {gs : List Bool} {vs : List Int} {b : Nat} (hl : gs.length = vs.length) (hb : b < gs.length) (hg : gs.getD b true = false) : (remG (gs.set b true) vs).length + 1 = (remG gs vs).length := by
  have := (rem_set gs vs b hl hb hg).length_eq
  simpa using this.symm
theorem rem_none {gs : List Bool} {vs : List Int} (hl : gs.length = vs.length) (h : ∀ j, j < gs.length → gs.getD j true = true) : remG gs vs = [] := by
  cases hr : remG gs vs with
  | nil => rfl
  | cons x t =>
    obtain ⟨j, h1, h2, _⟩ := rem_mem gs vs x hl (by rw [hr]; exact List.mem_cons_self)
    rw [h j h1] at h2
    cases h2
end Go.Proofs.Ytffgpepngcnjeab

namespace Go.Proofs.Ytffgpepngcnjeab
open Go.RowKit
theorem mx_inj (h h' x : Int) (a0 : 0 ≤ h) (a1 : h < 99991) (b0 : 0 ≤ h') (b1 : h' < 99991) (e : Mk.mx h x = Mk.mx h' x) : h = h' := by
  unfold Mk.mx at e
  omega
theorem mx_inj2 (h x x' : Int) (d1 : x - x' < 99991) (d2 : x' - x < 99991) (e : Mk.mx h x = Mk.mx h x') : x = x' := by
  unfold Mk.mx at e
  omega
theorem mixL_inj (l : List Int) : ∀ (h h' : Int), 0 ≤ h → h < 99991 → 0 ≤ h' → h' < 99991 → Mk.mixL h l = Mk.mixL h' l → h = h' := by
  induction l with
  | nil => intro h h' _ _ _ _ e; exact e
  | cons x r ih =>
    intro h h' a0 a1 b0 b1 e
    exact mx_inj h h' x a0 a1 b0 b1 (ih _ _ (Mk.mx_bd h x).1 (Mk.mx_bd h x).2 (Mk.mx_bd h' x).1 (Mk.mx_bd h' x).2 e)
theorem mixL_set (l : List Int) : ∀ (h : Int) (p : Nat) (v : Int), p < l.length → l.getD p 0 ≠ v → l.getD p 0 - v < 99991 → v - l.getD p 0 < 99991 → Mk.mixL h (l.set p v) ≠ Mk.mixL h l := by
  induction l with
  | nil => intro h p v hp; simp at hp
  | cons x r ih =>
    intro h p v hp hne d1 d2
    cases p with
    | zero =>
      intro e
      have e2 := mixL_inj r _ _ (Mk.mx_bd h v).1 (Mk.mx_bd h v).2 (Mk.mx_bd h x).1 (Mk.mx_bd h x).2 e
      exact hne (mx_inj2 h x v d1 d2 e2.symm)
    | succ p => exact ih (Mk.mx h x) p v (by simpa using hp) hne d1 d2
theorem id_tag (t t' : Int) (xs : List InD) (ys : List (Int × Int)) (hne : t ≠ t') (d1 : t - t' < 99991) (d2 : t' - t < 99991) : Mk.mixL 1 (idL t' xs ys) ≠ Mk.mixL 1 (idL t xs ys) := by
  have h := mixL_set (idL t xs ys) 1 0 t' (by simp [idL]) hne d1 d2
  exact h
end Go.Proofs.Ytffgpepngcnjeab

namespace Go.Proofs.Ytffgpepngcnjeab
open Go.RowKit
def Wide (hit : Nat → Bool) (g x : Nat) : Prop := ∀ i, i < x → hit i = true → i + 1 + g ≤ x
theorem wgo_spec (hit : Nat → Bool) (g : Nat) (hg : g ≤ 100) : ∀ (f i v : Nat), f + i = 101 → i ≤ v → v ≤ 100 → g ≤ v → (∀ j, j < i → hit j = true → min 100 (j + 1 + g) ≤ v) → (∀ x, g ≤ x → x < 100 → Wide hit g x → v ≤ x) →
    g ≤ wgo hit g f i v ∧ wgo hit g f i v ≤ 100 ∧ (wgo hit g f i v < 100 → Wide hit g (wgo hit g f i v)) ∧ (∀ x, g ≤ x → x < 100 → Wide hit g x → wgo hit g f i v ≤ x) := by
  intro f
  induction f with
  | zero => intro i v h1 h2 h3; omega
  | succ f ih =>
    intro i v h1 h2 h3 h4 h5 h6
    rw [wgo]
    by_cases hlt : i < v
    · rw [if_pos hlt]
      cases hh : hit i
      · rw [if_neg (by simp)]
        exact ih (i + 1) v (by omega) (by omega) h3 h4 (fun j hj hj2 => by
          by_cases e : j = i
          · subst e; rw [hh] at hj2; cases hj2
          · exact h5 j (by omega) hj2) h6
      · rw [if_pos rfl]
        refine ih (i + 1) (min 100 (i + 1 + g)) (by omega) (by omega) (by omega) (by omega) (fun j hj hj2 => by omega) (fun x hx1 hx2 hx3 => ?_)
        have := h6 x hx1 hx2 hx3
        have := hx3 i (by omega) hh
        omega
    · rw [if_neg hlt]
      refine ⟨h4, h3, fun hv i' hi' hh => ?_, h6⟩
      have := h5 i' (by omega) hh
      omega
theorem win_spec (xs : List Cel) (s : Int) (g : Nat) (br : Int) (hg : g ≤ 20) : g ≤ winZ xs s g br ∧ ∀ i, i < winZ xs s g br → hitAt xs s br i = true → min 100 (i + 1 + g) ≤ winZ xs s g br := by
  unfold winZ
  rw [show min 100 g = g by omega]
  obtain ⟨w1, w2, w3, w4⟩ := wgo_spec (hitAt xs s br) g (by omega) 101 0 g rfl (by omega) (by omega) (Nat.le_refl _) (fun j hj => by omega) (fun x hx _ _ => hx)
  generalize wgo (hitAt xs s br) g 101 0 g = V at *
  refine ⟨w1, fun i hi hh => ?_⟩
  by_cases e : V < 100
  · have := w3 e i hi hh
    omega
  · omega
/-- a deposit as the scene keeps it -/
def Cel.kept (x : Cel) : CoinD := ⟨x.id, x.pos, x.to, x.val, 0, 0⟩
def hasZ (l : List CoinD) (c : CoinD) : Bool := l.any fun x => x.id == c.id && (x.pos == c.pos && (x.tt == c.tt && x.val == c.val))
theorem insZ_new (cs : List CoinD) (x : CoinD) : x ∈ insZ false cs x := by
  unfold insZ insAt
  simp
theorem insZ_old {cs : List CoinD} (x : CoinD) {y : CoinD} (h : y ∈ cs) : y ∈ insZ false cs x := by
  unfold insZ insAt
  rw [← List.take_append_drop (insI false cs x cs.length) cs] at h
  simp only [List.mem_append, List.mem_cons] at h ⊢
  rcases h with h | h
  · exact Or.inl h
  · exact Or.inr (Or.inr h)
theorem ownFold_old (ks : List KeyD) {y : CoinD} : ∀ (l : List CoinC) (acc : List CoinD), y ∈ acc → y ∈ l.foldl (ownStep ks) acc := by
  intro l
  induction l with
  | nil => intro acc h; exact h
  | cons x r ih =>
    intro acc h
    rw [List.foldl_cons]
    refine ih _ ?_
    unfold ownStep
    split
    · exact h
    · exact insZ_old _ h
theorem first_found {ks : List KeyD} {a : Int} (h : ∃ k ∈ ks, k.ad = a) : ¬ firstZ ks a < 0 := by
  obtain ⟨k, hk, ha⟩ := h
  have key : ∀ (l : List KeyD) (i : Nat), k ∈ l → 0 ≤ idxOf (fun x : KeyD => x.ad == a) l i := by
    intro l
    induction l with
    | nil => intro i h; cases h
    | cons x r ih =>
      intro i h
      rw [idxOf]
      split
      · omega
      · rename_i hn
        rcases List.mem_cons.1 h with e | e
        · subst e
          simp [ha] at hn
        · exact ih _ e
  have := key ks 0 hk
  unfold firstZ
  omega
theorem ownFold_mem (ks : List KeyD) : ∀ (l : List CoinC) (acc : List CoinD) (x : CoinC), x ∈ l → (∃ k ∈ ks, k.ad = x.ad) → ∃ k, coinK x k ∈ l.foldl (ownStep ks) acc := by
  intro l
  induction l with
  | nil => intro acc x h; cases h
  | cons y r ih =>
    intro acc x h hk
    rw [List.foldl_cons]
    rcases List.mem_cons.1 h with e | e
    · subst e
      refine ⟨ks.getD (firstZ ks x.ad).toNat dK, ownFold_old ks r _ ?_⟩
      unfold ownStep
      rw [if_neg (first_found hk)]
      exact insZ_new _ _
    · exact ih _ x e hk
theorem key_mem {xs : List Cel} {s : Int} {g : Nat} {br : Int} (hb : br = 0 ∨ br = 1) {i : Nat} (h : i < winZ xs s g br) : ∃ k ∈ keysZ xs s g, k.ad = Mk.adr s br i := by
  refine ⟨⟨br, i, Mk.adr s br i⟩, ?_, rfl⟩
  unfold keysZ keysB
  rw [List.mem_append]
  rcases hb with rfl | rfl
  · exact Or.inl (List.mem_map.2 ⟨i, List.mem_range.2 h, rfl⟩)
  · exact Or.inr (List.mem_map.2 ⟨i, List.mem_range.2 h, rfl⟩)
theorem own_has {xs : List Cel} {s : Int} {g : Nat} {x : Cel} (hx : x ∈ xs) (hs : x.spent = -1) (hk : ∃ k ∈ keysZ xs s g, k.ad = x.to) : hasZ (ownOf xs s g) x.kept = true := by
  have hm : x.c ∈ coinsC xs := List.mem_map.2 ⟨x, List.mem_filter.2 ⟨hx, by simp [hs]⟩, rfl⟩
  obtain ⟨k, hk2⟩ := ownFold_mem (keysZ xs s g) (coinsC xs) [] x.c hm hk
  unfold hasZ
  rw [List.any_eq_true]
  refine ⟨_, hk2, ?_⟩
  simp [coinK, Cel.c, Cel.kept]
theorem sumC_ins (cs : List CoinD) (x : CoinD) : sumC (insZ false cs x) = sumC cs + x.val := by
  unfold insZ insAt
  generalize insI false cs x cs.length = p
  have h := congrArg sumC (List.take_append_drop p cs)
  unfold sumC at h ⊢
  simp only [List.map_append, List.map_cons, List.sum_append, List.sum_cons] at h ⊢
  omega
theorem ownFold_all (ks : List KeyD) : ∀ (l : List CoinC) (acc : List CoinD), (∀ x ∈ l, ∃ k ∈ ks, k.ad = x.ad) → (l.foldl (ownStep ks) acc).length = acc.length + l.length ∧ sumC (l.foldl (ownStep ks) acc) = sumC acc + (l.map CoinC.val).sum := by
  intro l
  induction l with
  | nil => intro acc _; simp
  | cons x r ih =>
    intro acc h
    rw [List.foldl_cons]
    have h1 := ih (ownStep ks acc x) (fun y hy => h y (List.mem_cons_of_mem _ hy))
    have h2 : ownStep ks acc x = insZ false acc (coinK x (ks.getD (firstZ ks x.ad).toNat dK)) := by
      unfold ownStep
      rw [if_neg (first_found (h x List.mem_cons_self))]
    rw [h2] at h1 ⊢
    rw [insZ_len, sumC_ins] at h1
    refine ⟨by rw [h1.1, List.length_cons]; omega, ?_⟩
    rw [h1.2, List.map_cons, List.sum_cons]
    have : (coinK x (ks.getD (firstZ ks x.ad).toNat dK)).val = x.val := rfl
    omega
theorem own_all {xs : List Cel} {s : Int} {g : Nat} (hs : ∀ x ∈ xs, x.spent = -1) (hk : ∀ x ∈ xs, ∃ k ∈ keysZ xs s g, k.ad = x.to) : (ownOf xs s g).length = xs.length ∧ sumC (ownOf xs s g) = sumC (xs.map Cel.kept) := by
  have e : coinsC xs = xs.map Cel.c := by
    unfold coinsC
    rw [List.filter_eq_self.2 (fun x hx => by simp [hs x hx])]
  have h := ownFold_all (keysZ xs s g) (coinsC xs) [] (by
    rw [e]
    intro x hx
    obtain ⟨y, hy, rfl⟩ := List.mem_map.1 hx
    exact hk y hy)
  unfold ownOf ownZ
  rw [e] at h ⊢
  refine ⟨by rw [h.1]; simp, ?_⟩
  rw [h.2]
  unfold sumC
  rw [List.map_map, List.map_map]
  simp only [List.map_nil, List.sum_nil, Int.zero_add]
  rfl
theorem pigeon : ∀ (n : Nat) (l : List Int) (f : Nat → Int), (∀ i, i < n → f i ∈ l) → (∀ i j, i < j → j < n → f i ≠ f j) → n ≤ l.length := by
  intro n
  induction n with
  | zero => intro l f _ _; omega
  | succ n ih =>
    intro l f h1 h2
    have hm := h1 n (by omega)
    have hl : (l.erase (f n)).length = l.length - 1 := List.length_erase_of_mem hm
    have := ih (l.erase (f n)) f (fun i hi => (List.mem_erase_of_ne (h2 i n hi (by omega))).2 (h1 i (by omega))) (fun i j hij hj => h2 i j hij (by omega))
    have := List.length_pos_of_mem hm
    omega
/-- the id of a deposit -/
def depId (t ta val : Int) : Int := idZ t [] [(ta, val)]
end Go.Proofs.Ytffgpepngcnjeab

namespace Go.Proofs.Ytffgpepngcnjeab
open Go.RowKit
/-- a coin without its key -/
def CoinD.k0 (x : CoinD) : CoinD := ⟨x.id, x.pos, x.tt, x.val, 0, 0⟩
theorem ownFold_perm (ks : List KeyD) : ∀ (l : List CoinC) (acc : List CoinD), (∀ x ∈ l, ∃ k ∈ ks, k.ad = x.ad) → ((l.foldl (ownStep ks) acc).map CoinD.k0).Perm ((l.map fun x => (coinK x dK).k0) ++ acc.map CoinD.k0) := by
  intro l
  induction l with
  | nil => intro acc _; exact List.Perm.refl _
  | cons x r ih =>
    intro acc h
    rw [List.foldl_cons]
    have h2 : ownStep ks acc x = insZ false acc (coinK x (ks.getD (firstZ ks x.ad).toNat dK)) := by
      unfold ownStep
      rw [if_neg (first_found (h x List.mem_cons_self))]
    refine (ih (ownStep ks acc x) (fun y hy => h y (List.mem_cons_of_mem _ hy))).trans ?_
    rw [h2, List.map_cons, List.cons_append]
    refine (List.Perm.append_left _ ((insZ_perm false acc _).map CoinD.k0)).trans ?_
    rw [List.map_cons]
    exact List.perm_middle
theorem own_perm {xs : List Cel} (ks : List KeyD) (hs : ∀ x ∈ xs, x.spent = -1) (hk : ∀ x ∈ xs, ∃ k ∈ ks, k.ad = x.to) : ((ownZ ks (coinsC xs)).map CoinD.k0).Perm (xs.map Cel.kept) := by
  have e : coinsC xs = xs.map Cel.c := by
    unfold coinsC
    rw [List.filter_eq_self.2 (fun x hx => by simp [hs x hx])]
  have h := ownFold_perm ks (coinsC xs) [] (by
    rw [e]
    intro x hx
    obtain ⟨y, hy, rfl⟩ := List.mem_map.1 hx
    exact hk y hy)
  unfold ownZ
  rw [List.map_nil, List.append_nil] at h
  refine h.trans ?_
  rw [e, List.map_map]
  exact List.Perm.refl _
end Go.Proofs.Ytffgpepngcnjeab
