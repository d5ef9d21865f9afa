/-
  Which coins a payment takes, the plain part: the greatest coins suffice just where something is chosen.
  Found, the plain part: windows, own coins of deposits, new ids.
  The own coins of a scene are its deposits.
  What a purse shows, and whether two show the same.
  A purse's Connect and Disconnect.
  Found: its small functions.
  Found: the scene in memory.
-/
import Derived.Test.YtffgpepngcnjeabGreatQMah
import Derived.Test.YtffgpepngcnjeabGreatQMag
import Derived.Test.YtffgpepngcnjeabGreatQMaf
import Derived.Test.YtffgpepngcnjeabGreatQMae
namespace Go.Proofs.YtffgpepngcnjeabGreatQ
open Go.RowKit
theorem insZ_perm (gf : Bool) (cs : List CoinD) (x : CoinD) : (insZ gf cs x).Perm (x :: cs) := by
  unfold insZ insAt
  refine List.perm_middle.trans ?_
  rw [List.take_append_drop]
theorem insF_perm (gf : Bool) : ∀ (l acc : List CoinD), (l.foldl (insZ gf) acc).Perm (l ++ acc) := by
  intro l
  induction l with
  | nil => intro acc; exact List.Perm.refl _
  | cons x r ih =>
    intro acc
    refine (ih _).trans ?_
    rw [List.cons_append]
    exact (List.Perm.append_left r (insZ_perm gf acc x)).trans List.perm_middle
theorem order_perm (r : Int) (l : List CoinD) : (orderZ r l).Perm (l.filter fun c => decide (1 ≤ worthZ r c)) := by
  rw [orderZ_filter]
  simpa using insF_perm true (l.filter fun c => decide (1 ≤ worthZ r c)) []
theorem insI_spec (cs : List CoinD) (x : CoinD) : ∀ n, insI true cs x n ≤ n ∧ (∀ k, insI true cs x n ≤ k → k < n → aheadG true x (cs.getD k dN) = true) ∧ (0 < insI true cs x n → aheadG true x (cs.getD (insI true cs x n - 1) dN) = false) := by
  intro n
  induction n with
  | zero => exact ⟨Nat.le_refl _, fun k _ h => absurd h (Nat.not_lt_zero _), fun h => absurd h (Nat.not_lt_zero _)⟩
  | succ n ih =>
    rw [insI_succ]
    by_cases h : aheadG true x (cs.getD n dN) = true
    · rw [if_pos h]
      refine ⟨by omega, fun k h1 h2 => ?_, ih.2.2⟩
      by_cases e : k = n
      · rw [e]; exact h
      · exact ih.2.1 k h1 (by omega)
    · rw [if_neg h]
      refine ⟨Nat.le_refl _, fun k h1 h2 => by omega, fun _ => ?_⟩
      rw [Nat.add_sub_cancel]
      simpa using h
theorem ahead_ge {x y : CoinD} (h : aheadG true x y = true) : y.val ≤ x.val := by
  unfold aheadG at h
  split at h
  · have := of_decide_eq_true h; omega
  · rename_i e
    have : x.val = y.val := Classical.byContradiction fun h2 => e ⟨rfl, h2⟩
    omega
theorem ahead_le {x y : CoinD} (h : aheadG true x y = false) : x.val ≤ y.val := by
  unfold aheadG at h
  split at h
  · have := of_decide_eq_false h; omega
  · rename_i e
    have : x.val = y.val := Classical.byContradiction fun h2 => e ⟨rfl, h2⟩
    omega
abbrev Down (l : List CoinD) : Prop := l.Pairwise fun a b => b.val ≤ a.val
theorem insZ_down (cs : List CoinD) (x : CoinD) (h : Down cs) : Down (insZ true cs x) := by
  obtain ⟨h1, h2, h3⟩ := insI_spec cs x cs.length
  unfold insZ insAt
  generalize insI true cs x cs.length = i at *
  have hp := List.pairwise_iff_getElem.1 h
  have hlo : ∀ y ∈ cs.take i, x.val ≤ y.val := fun y hy => by
    obtain ⟨k, hk, e⟩ := List.getElem_of_mem hy
    rw [List.length_take] at hk
    have hk1 : k < i := by omega
    have e2 : cs[k]'(by omega) = y := by rw [← e]; simp
    have h4 := ahead_le (h3 (by omega))
    have e3 : cs.getD (i - 1) dN = cs[i - 1]'(by omega) := by simp [List.getD, show i - 1 < cs.length by omega]
    rw [e3] at h4
    by_cases e4 : k = i - 1
    · subst e4; rw [← e2]; exact h4
    · have := hp k (i - 1) (by omega) (by omega) (by omega)
      rw [← e2]; omega
  have hhi : ∀ y ∈ cs.drop i, y.val ≤ x.val := fun y hy => by
    obtain ⟨k, hk, e⟩ := List.getElem_of_mem hy
    rw [List.length_drop] at hk
    have h4 := ahead_ge (h2 (i + k) (by omega) (by omega))
    have e3 : cs.getD (i + k) dN = y := by rw [← e]; simp [List.getD, show i + k < cs.length by omega]
    rw [e3] at h4
    exact h4
  rw [Down, List.pairwise_append, List.pairwise_cons]
  refine ⟨h.sublist (List.take_sublist _ _), ⟨hhi, h.sublist (List.drop_sublist _ _)⟩, fun a ha b hb => ?_⟩
  rcases List.mem_cons.1 hb with e | e
  · rw [e]; exact hlo a ha
  · have := hlo a ha; have := hhi b e; omega
theorem order_down (r : Int) (l : List CoinD) : Down (orderZ r l) := by
  rw [orderZ_filter]
  have : ∀ (l acc : List CoinD), Down acc → Down (l.foldl (insZ true) acc) := by
    intro l
    induction l with
    | nil => intro acc h; exact h
    | cons x t ih => intro acc h; exact ih _ (insZ_down acc x h)
  exact this _ _ List.Pairwise.nil
/-- the greatest one after the other; what is below nothing counts nothing -/
def mx0 (v : Int) : Int := if 0 < v then v else 0
inductive Gr : Nat → List Int → Int → Prop
  | zero (l : List Int) : Gr 0 l 0
  | nil (n : Nat) : Gr n [] 0
  | step (n : Nat) (l : List Int) (m s : Int) : m ∈ l → (∀ x ∈ l, x ≤ m) → Gr n (l.erase m) s → Gr (n + 1) l (mx0 m + s)
theorem gr_perm : ∀ (n : Nat) (l l' : List Int) (s : Int), Gr n l s → l.Perm l' → Gr n l' s := by
  intro n l l' s h
  induction h generalizing l' with
  | zero l => intro _; exact Gr.zero _
  | nil n => intro hp; rw [List.nil_perm.1 hp]; exact Gr.nil n
  | step n l m s h1 h2 _ ih => intro hp; exact Gr.step n l' m s (hp.mem_iff.1 h1) (fun x hx => h2 x (hp.mem_iff.2 hx)) (ih _ (hp.erase m))
/-- descending ones ahead of those below 1 -/
theorem gr_order (r : Int) (n : Nat) (l : List CoinD) (s : Int) (h : Gr n (l.map (worthZ r)) s) : s = (((orderZ r l).take n).map (worthZ r)).sum := by
  have hall : ∀ x ∈ orderZ r l, 1 ≤ worthZ r x := fun x hx => by
    have := (order_perm r l).mem_iff.1 hx
    exact of_decide_eq_true (List.mem_filter.1 this).2
  have hd := order_down r l
  -- the rest, in any descending order
  have key : ∀ (o : List CoinD), Down o → (∀ x ∈ o, 1 ≤ worthZ r x) → ∀ (rest : List Int), (∀ x ∈ rest, x ≤ 0) → ∀ n s, Gr n (o.map (worthZ r) ++ rest) s → s = ((o.take n).map (worthZ r)).sum := by
    intro o
    induction o with
    | nil =>
      intro _ _ rest hr n s hg
      rw [List.take_nil]
      show s = 0
      rw [List.map_nil, List.nil_append] at hg
      have : ∀ n l s, Gr n l s → (∀ x ∈ l, x ≤ 0) → s = 0 := by
        intro n l s h
        induction h with
        | zero l => intro _; rfl
        | nil n => intro _; rfl
        | step n l m s h1 h2 _ ih =>
          intro hl
          rw [ih (fun x hx => hl x (List.mem_of_mem_erase hx))]
          have := hl m h1
          unfold mx0
          rw [if_neg (by omega)]
          rfl
      exact this _ _ _ hg hr
    | cons a t ih =>
      intro hd ha rest hr n s hg
      obtain ⟨hd1, hd2⟩ := List.pairwise_cons.1 hd
      cases hg with
      | zero => rfl
      | step n _ m s h1 h2 h3 =>
        have h4 := ha a List.mem_cons_self
        have e : m = worthZ r a := by
          have h5 := h2 (worthZ r a) (by simp)
          rw [List.map_cons, List.cons_append] at h1
          rcases List.mem_cons.1 h1 with e | e
          · exact e
          · rcases List.mem_append.1 e with e | e
            · obtain ⟨y, hy, rfl⟩ := List.mem_map.1 e
              have := hd1 y hy
              unfold worthZ at h5 ⊢
              omega
            · have := hr m e; omega
        subst e
        rw [List.map_cons, List.cons_append, List.erase_cons_head] at h3
        rw [ih hd2 (fun x hx => ha x (List.mem_cons_of_mem _ hx)) rest hr n s h3, List.take_succ_cons, List.map_cons, List.sum_cons]
        unfold mx0
        rw [if_pos (by omega)]
  refine key (orderZ r l) hd hall ((l.filter fun c => !decide (1 ≤ worthZ r c)).map (worthZ r)) (fun x hx => ?_) n s (gr_perm _ _ _ _ h ?_)
  · obtain ⟨y, hy, rfl⟩ := List.mem_map.1 hx
    have := (List.mem_filter.1 hy).2
    simp at this
    omega
  · rw [← List.map_append]
    refine List.Perm.map _ ?_
    exact ((List.filter_append_perm (fun c => decide (1 ≤ worthZ r c)) l).symm).trans (List.Perm.append_right _ (order_perm r l).symm)
def wsum (r : Int) (l : List CoinD) : Int := (l.map (worthZ r)).sum
theorem wsum_nil (r : Int) : wsum r [] = 0 := rfl
theorem wsum_cons (r : Int) (c : CoinD) (l : List CoinD) : wsum r (c :: l) = worthZ r c + wsum r l := by simp [wsum]
theorem wsum_sub {r : Int} {l l' : List CoinD} (h : l.Sublist l') (hp : ∀ x ∈ l', 1 ≤ worthZ r x) : wsum r l ≤ wsum r l' := by
  induction h with
  | slnil => exact Int.le_refl _
  | cons a _ ih =>
    rw [wsum_cons]
    have := ih (fun x hx => hp x (List.mem_cons_of_mem _ hx))
    have := hp a List.mem_cons_self
    omega
  | cons_cons a _ ih =>
    rw [wsum_cons, wsum_cons]
    have := ih (fun x hx => hp x (List.mem_cons_of_mem _ hx))
    omega
theorem en_spec (r want : Int) : ∀ (t : List CoinD) (i : Nat) (s : Int), ((enZ r want t i s).1 = 0 ∧ ∀ k, 0 < k → s + wsum r (t.take k) < want ∨ t = []) ∨ ∃ k, 0 < k ∧ k ≤ t.length ∧ (enZ r want t i s).1 = i + k ∧ (enZ r want t i s).2 = s + wsum r (t.take k) ∧ want ≤ s + wsum r (t.take k) ∧ ∀ j, 0 < j → j < k → s + wsum r (t.take j) < want := by
  intro t
  induction t with
  | nil => intro i s; exact Or.inl ⟨rfl, fun k _ => Or.inr rfl⟩
  | cons c t ih =>
    intro i s
    rw [enZ]
    have h1 : wsum r ((c :: t).take 1) = worthZ r c := by rw [List.take_succ_cons, wsum_cons, List.take_zero, wsum_nil, Int.add_zero]
    by_cases h : want ≤ s + worthZ r c
    · rw [if_pos h]
      exact Or.inr ⟨1, by omega, by simp, rfl, by rw [h1], by rw [h1]; exact h, fun j h2 h3 => by omega⟩
    · rw [if_neg h]
      rcases ih (i + 1) (s + worthZ r c) with ⟨e1, e2⟩ | ⟨k, e1, e2, e3, e4, e5, e6⟩
      · refine Or.inl ⟨e1, fun k hk => Or.inl ?_⟩
        obtain ⟨j, rfl⟩ : ∃ j, k = j + 1 := ⟨k - 1, by omega⟩
        rw [List.take_succ_cons, wsum_cons]
        by_cases hj : j = 0
        · subst hj; rw [List.take_zero, wsum_nil]; omega
        · rcases e2 j (by omega) with e | e
          · omega
          · rw [e, List.take_nil, wsum_nil]; omega
      · refine Or.inr ⟨k + 1, by omega, by simp; omega, by rw [e3]; omega, ?_, ?_, fun j h2 h3 => ?_⟩
        · rw [e4, List.take_succ_cons, wsum_cons]; omega
        · rw [List.take_succ_cons, wsum_cons]; omega
        · obtain ⟨q, rfl⟩ : ∃ q, j = q + 1 := ⟨j - 1, by omega⟩
          rw [List.take_succ_cons, wsum_cons]
          by_cases hq : q = 0
          · subst hq; rw [List.take_zero, wsum_nil]; omega
          · have := e6 q (by omega) (by omega); omega
theorem sum_filter {f : Nat → Int} (p : Nat → Bool) : ∀ (l : List Nat), (l.map fun i => if p i = true then f i else 0).sum = ((l.filter p).map f).sum := by
  intro l
  induction l with
  | nil => rfl
  | cons x t ih =>
    rw [List.map_cons, List.sum_cons, ih, List.filter_cons]
    split
    · rw [List.map_cons, List.sum_cons]
    · rw [Int.zero_add]
theorem sumP_mem (r : Int) (cs : List CoinD) (m : Nat) : sumP r cs m = wsum r (memP cs m) := by
  unfold sumP memP wsum
  rw [sum_filter (f := fun i => worthZ r (cs.getD i dN)), List.map_map]
  rfl
theorem memP_sub (cs : List CoinD) (m : Nat) : (memP cs m).Sublist (cs.take 8) := by
  have e : cs.take 8 = ((List.range 8).filter fun i => decide (i < cs.length)).map fun i => cs.getD i dN := by
    have : ∀ n, cs.take n = ((List.range n).filter fun i => decide (i < cs.length)).map fun i => cs.getD i dN := by
      intro n
      induction n with
      | zero => rfl
      | succ n ih =>
        rw [List.range_succ, List.filter_append, List.map_append, ← ih]
        by_cases h : n < cs.length
        · rw [List.take_succ_eq_append_getElem h]
          simp [h, List.getD]
        · rw [List.take_of_length_le (by omega), List.take_of_length_le (by omega)]
          simp [h]
    exact this 8
  rw [e]
  unfold memP
  refine List.Sublist.map _ ?_
  have : ((List.range 8).filter fun i => decide (i < cs.length) && bitN m 8 i) = ((List.range 8).filter fun i => decide (i < cs.length)).filter fun i => bitN m 8 i := by
    rw [List.filter_filter]
    refine List.filter_congr (fun i _ => Bool.and_comm _ _)
  rw [this]
  exact List.filter_sublist
theorem best_P (r : Int) (cs : List CoinD) (lo hi : Int) : Best (sumP r cs) lo hi 255 (bestP r cs lo hi) := near_best _ _ _ 255 255 (0, hi + 1) (Nat.le_refl _) (fun _ => ⟨rfl, fun m h1 h2 => by omega⟩) (fun h => absurd rfl h)
theorem choose_none (r : Int) (cs : List CoinD) (want : Int) (hw : 0 < want) (hp : ∀ x ∈ cs, 1 ≤ worthZ r x) : chooseZ r cs want = none ↔ wsum r (cs.take 10) < want := by
  unfold chooseZ
  have hb := best_P r cs want (want + slackZ r)
  by_cases e : bestP r cs want (want + slackZ r) = 0
  · rw [e, if_neg (fun h => h rfl)]
    rcases en_spec r want cs 0 0 with ⟨e1, e2⟩ | ⟨k, e1, e2, e3, e4, e5, e6⟩
    · rw [if_pos (Or.inl e1)]
      refine ⟨fun _ => ?_, fun _ => rfl⟩
      rcases e2 10 (by omega) with h | h
      · omega
      · rw [h, List.take_nil, wsum_nil]; omega
    · rw [Nat.zero_add] at e3
      by_cases hk : 10 < k
      · rw [if_pos (Or.inr (by omega))]
        refine ⟨fun _ => ?_, fun _ => rfl⟩
        have := e6 10 (by omega) hk
        omega
      · rw [if_neg (by omega)]
        refine ⟨fun h => by simp at h, fun h => ?_⟩
        have h1 : (cs.take k).Sublist (cs.take 10) := (List.take_prefix_take_left (by omega)).sublist
        have := wsum_sub h1 (fun x hx => hp x (List.mem_of_mem_take hx))
        omega
  · rw [if_pos e]
    refine ⟨fun h => by simp at h, fun h => ?_⟩
    have h1 := (hb.yes e).2.1
    rw [sumP_mem] at h1
    have h2 : (memP cs (bestP r cs want (want + slackZ r))).Sublist (cs.take 10) := (memP_sub cs _).trans (List.take_prefix_take_left (by omega)).sublist
    have := wsum_sub h2 (fun x hx => hp x (List.mem_of_mem_take hx))
    omega
theorem choose_some (r : Int) (cs : List CoinD) (want : Int) (hw : 0 < want) (l : List CoinD) (ch : Int) (h : chooseZ r cs want = some (l, ch)) : l.Sublist cs ∧ l.length ≤ 10 ∧ l ≠ [] ∧ want ≤ wsum r l ∧ ((ch = 0 ∧ wsum r l - want ≤ slackZ r) ∨ (ch = wsum r l - want - 2 * r ∧ 10 ≤ ch)) := by
  unfold chooseZ at h
  have hb := best_P r cs want (want + slackZ r)
  by_cases e : bestP r cs want (want + slackZ r) = 0
  · rw [e, if_neg (fun h => h rfl)] at h
    rcases en_spec r want cs 0 0 with ⟨e1, e2⟩ | ⟨k, e1, e2, e3, e4, e5, e6⟩
    · rw [if_pos (Or.inl e1)] at h; cases h
    · rw [Nat.zero_add] at e3
      rw [Int.zero_add] at e4 e5
      by_cases hk : 10 < k
      · rw [if_pos (Or.inr (by omega))] at h; cases h
      · rw [if_neg (by omega), e3, e4] at h
        injection h with h
        injection h with h1 h2
        rw [← h1]
        refine ⟨List.take_sublist _ _, by rw [List.length_take]; omega, fun hn => ?_, e5, ?_⟩
        · have := congrArg List.length hn
          rw [List.length_take, List.length_nil] at this
          omega
        · unfold slackZ at h2 ⊢
          split at h2
          · left; omega
          · right; omega
  · rw [if_pos e] at h
    injection h with h
    injection h with h1 h2
    obtain ⟨_, a1, a2, _⟩ := hb.yes e
    rw [sumP_mem] at a1 a2
    rw [← h1, ← h2]
    have hs := memP_sub cs (bestP r cs want (want + slackZ r))
    refine ⟨hs.trans (List.take_sublist _ _), ?_, fun hn => ?_, a1, Or.inl ⟨rfl, by omega⟩⟩
    · have := hs.length_le
      rw [List.length_take] at this
      omega
    · rw [hn, wsum_nil] at a1
      omega
/-- what is not gone yet -/
def remG : List Bool → List Int → List Int
  | g :: gs, v :: vs => if g = true then remG gs vs else v :: remG gs vs
  | _, _ => []
theorem rem_all : ∀ (vs : List Int), remG (List.replicate vs.length false) vs = vs := by
  intro vs
  induction vs with
  | nil => rfl
  | cons v t ih => rw [List.length_cons, List.replicate_succ, remG, if_neg (by simp), ih]
theorem rem_set : ∀ (gs : List Bool) (vs : List Int) (b : Nat), gs.length = vs.length → b < gs.length → gs.getD b true = false → (remG gs vs).Perm (vs.getD b 0 :: remG (gs.set b true) vs) := by
  intro gs
  induction gs with
  | nil => intro vs b _ h; exact absurd h (Nat.not_lt_zero _)
  | cons g t ih =>
    intro vs b hl hb hg
    cases vs with
    | nil => simp at hl
    | cons v vt =>
      cases b with
      | zero =>
        have hg' : g = false := by simpa using hg
        subst hg'
        rw [List.set_cons_zero, remG, if_neg (by simp), remG, if_pos rfl]
        exact List.Perm.refl _
      | succ b =>
        have := ih vt b (by simpa using hl) (by simpa using hb) (by simpa using hg)
        rw [List.set_cons_succ, remG, remG]
        have e : (v :: vt).getD (b + 1) 0 = vt.getD b 0 := by simp
        rw [e]
        split
        · exact this
        · exact (List.Perm.cons v this).trans (List.Perm.swap _ _ _)
theorem rem_mem : ∀ (gs : List Bool) (vs : List Int) (x : Int), gs.length = vs.length → x ∈ remG gs vs → ∃ j, j < gs.length ∧ gs.getD j true = false ∧ vs.getD j 0 = x := by
  intro gs
  induction gs with
  | nil => intro vs x _ h; simp [remG] at h
  | cons g t ih =>
    intro vs x hl h
    cases vs with
    | nil => simp at hl
    | cons v vt =>
      rw [remG] at h
      split at h
      · obtain ⟨j, h1, h2, h3⟩ := ih vt x (by simpa using hl) h
        exact ⟨j + 1, by simpa using h1, by simpa using h2, by simpa using h3⟩
      · rename_i hg
        rcases List.mem_cons.1 h with e | e
        · exact ⟨0, by simp, by simpa using hg, by simpa using e.symm⟩
        · obtain ⟨j, h1, h2, h3⟩ := ih vt x (by simpa using hl) e
          exact ⟨j + 1, by simpa using h1, by simpa using h2, by simpa using h3⟩
/-- the greatest that is not gone -/
theorem gr_pick {n : Nat} {gs : List Bool} {vs : List Int} {b : Nat} {s : Int} (hl : gs.length = vs.length) (hb : b < gs.length) (hg : gs.getD b true = false) (hm : ∀ j, j < gs.length → gs.getD j true = false → vs.getD j 0 ≤ vs.getD b 0) (h : Gr n (remG (gs.set b true) vs) s) : Gr (n + 1) (remG gs vs) (mx0 (vs.getD b 0) + s) := by
  have hp := rem_set gs vs b hl hb hg
  refine Gr.step n _ _ _ (hp.mem_iff.2 List.mem_cons_self) (fun x hx => ?_) (gr_perm _ _ _ _ h ?_)
  · obtain ⟨j, h1, h2, h3⟩ := rem_mem gs vs x hl hx
    rw [← h3]
    exact hm j h1 h2
  · have := hp.erase (vs.getD b 0)
    rw [List.erase_cons_head] at this
    exact this.symm
theorem rem_len {gs : List Bool} {vs : List Int} {b : Nat} (hl : gs.length = vs.length) (hb : b < gs.length) (hg : gs.getD b true = false) : (remG (gs.set b true) vs).length + 1 = (remG gs vs).length := by
  have := (rem_set gs vs b hl hb hg).length_eq
  simpa using this.symm
theorem rem_none {gs : List Bool} {vs : List Int} (hl : gs.length = vs.length) (h : ∀ j, j < gs.length → gs.getD j true = true) : remG gs vs = [] := by
  cases hr : remG gs vs with
  | nil => rfl
  | cons x t =>
    obtain ⟨j, h1, h2, _⟩ := rem_mem gs vs x hl (by rw [hr]; exact List.mem_cons_self)
    rw [h j h1] at h2
    cases h2
end Go.Proofs.YtffgpepngcnjeabGreatQ

namespace Go.Proofs.YtffgpepngcnjeabGreatQ
open Go.RowKit
def Wide (hit : Nat → Bool) (g x : Nat) : Prop := ∀ i, i < x → hit i = true → i + 1 + g ≤ x
theorem wgo_spec (hit : Nat → Bool) (g : Nat) (hg : g ≤ 100) : ∀ (f i v : Nat), f + i = 101 → i ≤ v → v ≤ 100 → g ≤ v → (∀ j, j < i → hit j = true → min 100 (j + 1 + g) ≤ v) → (∀ x, g ≤ x → x < 100 → Wide hit g x → v ≤ x) →
    g ≤ wgo hit g f i v ∧ wgo hit g f i v ≤ 100 ∧ (wgo hit g f i v < 100 → Wide hit g (wgo hit g f i v)) ∧ (∀ x, g ≤ x → x < 100 → Wide hit g x → wgo hit g f i v ≤ x) := by
  intro f
  induction f with
  | zero => intro i v h1 h2 h3; omega
  | succ f ih =>
    intro i v h1 h2 h3 h4 h5 h6
    rw [wgo]
    by_cases hlt : i < v
    · rw [if_pos hlt]
      cases hh : hit i
      · rw [if_neg (by simp)]
        exact ih (i + 1) v (by omega) (by omega) h3 h4 (fun j hj hj2 => by
          by_cases e : j = i
          · subst e; rw [hh] at hj2; cases hj2
          · exact h5 j (by omega) hj2) h6
      · rw [if_pos rfl]
        refine ih (i + 1) (min 100 (i + 1 + g)) (by omega) (by omega) (by omega) (by omega) (fun j hj hj2 => by omega) (fun x hx1 hx2 hx3 => ?_)
        have := h6 x hx1 hx2 hx3
        have := hx3 i (by omega) hh
        omega
    · rw [if_neg hlt]
      refine ⟨h4, h3, fun hv i' hi' hh => ?_, h6⟩
      have := h5 i' (by omega) hh
      omega
theorem win_spec (xs : List Cel) (s : Int) (g : Nat) (br : Int) (hg : g ≤ 20) : g ≤ winZ xs s g br ∧ ∀ i, i < winZ xs s g br → hitAt xs s br i = true → min 100 (i + 1 + g) ≤ winZ xs s g br := by
  unfold winZ
  rw [show min 100 g = g by omega]
  obtain ⟨w1, w2, w3, w4⟩ := wgo_spec (hitAt xs s br) g (by omega) 101 0 g rfl (by omega) (by omega) (Nat.le_refl _) (fun j hj => by omega) (fun x hx _ _ => hx)
  generalize wgo (hitAt xs s br) g 101 0 g = V at *
  refine ⟨w1, fun i hi hh => ?_⟩
  by_cases e : V < 100
  · have := w3 e i hi hh
    omega
  · omega
/-- a deposit as the scene keeps it -/
def Cel.kept (x : Cel) : CoinD := ⟨x.id, x.pos, x.to, x.val, 0, 0⟩
def hasZ (l : List CoinD) (c : CoinD) : Bool := l.any fun x => x.id == c.id && (x.pos == c.pos && (x.tt == c.tt && x.val == c.val))
theorem insZ_new (cs : List CoinD) (x : CoinD) : x ∈ insZ false cs x := by
  unfold insZ insAt
  simp
theorem insZ_old {cs : List CoinD} (x : CoinD) {y : CoinD} (h : y ∈ cs) : y ∈ insZ false cs x := by
  unfold insZ insAt
  rw [← List.take_append_drop (insI false cs x cs.length) cs] at h
  simp only [List.mem_append, List.mem_cons] at h ⊢
  rcases h with h | h
  · exact Or.inl h
  · exact Or.inr (Or.inr h)
theorem ownFold_old (ks : List KeyD) {y : CoinD} : ∀ (l : List CoinC) (acc : List CoinD), y ∈ acc → y ∈ l.foldl (ownStep ks) acc := by
  intro l
  induction l with
  | nil => intro acc h; exact h
  | cons x r ih =>
    intro acc h
    rw [List.foldl_cons]
    refine ih _ ?_
    unfold ownStep
    split
    · exact h
    · exact insZ_old _ h
theorem first_found {ks : List KeyD} {a : Int} (h : ∃ k ∈ ks, k.ad = a) : ¬ firstZ ks a < 0 := by
  obtain ⟨k, hk, ha⟩ := h
  have key : ∀ (l : List KeyD) (i : Nat), k ∈ l → 0 ≤ idxOf (fun x : KeyD => x.ad == a) l i := by
    intro l
    induction l with
    | nil => intro i h; cases h
    | cons x r ih =>
      intro i h
      rw [idxOf]
      split
      · omega
      · rename_i hn
        rcases List.mem_cons.1 h with e | e
        · subst e
          simp [ha] at hn
        · exact ih _ e
  have := key ks 0 hk
  unfold firstZ
  omega
theorem ownFold_mem (ks : List KeyD) : ∀ (l : List CoinC) (acc : List CoinD) (x : CoinC), x ∈ l → (∃ k ∈ ks, k.ad = x.ad) → ∃ k, coinK x k ∈ l.foldl (ownStep ks) acc := by
  intro l
  induction l with
  | nil => intro acc x h; cases h
  | cons y r ih =>
    intro acc x h hk
    rw [List.foldl_cons]
    rcases List.mem_cons.1 h with e | e
    · subst e
      refine ⟨ks.getD (firstZ ks x.ad).toNat dK, ownFold_old ks r _ ?_⟩
      unfold ownStep
      rw [if_neg (first_found hk)]
      exact insZ_new _ _
    · exact ih _ x e hk
theorem key_mem {xs : List Cel} {s : Int} {g : Nat} {br : Int} (hb : br = 0 ∨ br = 1) {i : Nat} (h : i < winZ xs s g br) : ∃ k ∈ keysZ xs s g, k.ad = Mk.adr s br i := by
  refine ⟨⟨br, i, Mk.adr s br i⟩, ?_, rfl⟩
  unfold keysZ keysB
  rw [List.mem_append]
  rcases hb with rfl | rfl
  · exact Or.inl (List.mem_map.2 ⟨i, List.mem_range.2 h, rfl⟩)
  · exact Or.inr (List.mem_map.2 ⟨i, List.mem_range.2 h, rfl⟩)
theorem own_has {xs : List Cel} {s : Int} {g : Nat} {x : Cel} (hx : x ∈ xs) (hs : x.spent = -1) (hk : ∃ k ∈ keysZ xs s g, k.ad = x.to) : hasZ (ownOf xs s g) x.kept = true := by
  have hm : x.c ∈ coinsC xs := List.mem_map.2 ⟨x, List.mem_filter.2 ⟨hx, by simp [hs]⟩, rfl⟩
  obtain ⟨k, hk2⟩ := ownFold_mem (keysZ xs s g) (coinsC xs) [] x.c hm hk
  unfold hasZ
  rw [List.any_eq_true]
  refine ⟨_, hk2, ?_⟩
  simp [coinK, Cel.c, Cel.kept]
theorem sumC_ins (cs : List CoinD) (x : CoinD) : sumC (insZ false cs x) = sumC cs + x.val := by
  unfold insZ insAt
  generalize insI false cs x cs.length = p
  have h := congrArg sumC (List.take_append_drop p cs)
  unfold sumC at h ⊢
  simp only [List.map_append, List.map_cons, List.sum_append, List.sum_cons] at h ⊢
  omega
theorem ownFold_all (ks : List KeyD) : ∀ (l : List CoinC) (acc : List CoinD), (∀ x ∈ l, ∃ k ∈ ks, k.ad = x.ad) → (l.foldl (ownStep ks) acc).length = acc.length + l.length ∧ sumC (l.foldl (ownStep ks) acc) = sumC acc + (l.map CoinC.val).sum := by
  intro l
  induction l with
  | nil => intro acc _; simp
  | cons x r ih =>
    intro acc h
    rw [List.foldl_cons]
    have h1 := ih (ownStep ks acc x) (fun y hy => h y (List.mem_cons_of_mem _ hy))
    have h2 : ownStep ks acc x = insZ false acc (coinK x (ks.getD (firstZ ks x.ad).toNat dK)) := by
      unfold ownStep
      rw [if_neg (first_found (h x List.mem_cons_self))]
    rw [h2] at h1 ⊢
    rw [insZ_len, sumC_ins] at h1
    refine ⟨by rw [h1.1, List.length_cons]; omega, ?_⟩
    rw [h1.2, List.map_cons, List.sum_cons]
    have : (coinK x (ks.getD (firstZ ks x.ad).toNat dK)).val = x.val := rfl
    omega
theorem own_all {xs : List Cel} {s : Int} {g : Nat} (hs : ∀ x ∈ xs, x.spent = -1) (hk : ∀ x ∈ xs, ∃ k ∈ keysZ xs s g, k.ad = x.to) : (ownOf xs s g).length = xs.length ∧ sumC (ownOf xs s g) = sumC (xs.map Cel.kept) := by
  have e : coinsC xs = xs.map Cel.c := by
    unfold coinsC
    rw [List.filter_eq_self.2 (fun x hx => by simp [hs x hx])]
  have h := ownFold_all (keysZ xs s g) (coinsC xs) [] (by
    rw [e]
    intro x hx
    obtain ⟨y, hy, rfl⟩ := List.mem_map.1 hx
    exact hk y hy)
  unfold ownOf ownZ
  rw [e] at h ⊢
  refine ⟨by rw [h.1]; simp, ?_⟩
  rw [h.2]
  unfold sumC
  rw [List.map_map, List.map_map]
  simp only [List.map_nil, List.sum_nil, Int.zero_add]
  rfl
theorem pigeon : ∀ (n : Nat) (l : List Int) (f : Nat → Int), (∀ i, i < n → f i ∈ l) → (∀ i j, i < j → j < n → f i ≠ f j) → n ≤ l.length := by
  intro n
  induction n with
  | zero => intro l f _ _; omega
  | succ n ih =>
    intro l f h1 h2
    have hm := h1 n (by omega)
    have hl : (l.erase (f n)).length = l.length - 1 := List.length_erase_of_mem hm
    have := ih (l.erase (f n)) f (fun i hi => (List.mem_erase_of_ne (h2 i n hi (by omega))).2 (h1 i (by omega))) (fun i j hij hj => h2 i j hij (by omega))
    have := List.length_pos_of_mem hm
    omega
/-- the id of a deposit -/
def depId (t ta val : Int) : Int := idZ t [] [(ta, val)]
theorem dep_right (t ta val : Int) (ht : 0 ≤ t ∧ t ≤ 1099511627776) (h1 : Mk.isM ta = true) (h2 : 10 ≤ val ∧ val ≤ 1099511627776) : rTx t [] [(ta, val)] = true := by
  have e : rOut (ta, val) = true := by unfold rOut; simp only; rw [h1]; simp [h2]
  simp [rTx, rIns, rOuts, e, ht]
theorem dep_ne (t t' ta val : Int) (ht : 0 ≤ t ∧ t < 99991) (ht' : 0 ≤ t' ∧ t' < 99991) (h1 : Mk.isM ta = true) (h2 : 10 ≤ val ∧ val ≤ 1099511627776) (hne : t ≠ t') : depId t ta val ≠ depId t' ta val := by
  unfold depId
  have r1 := dep_right t ta val (by omega) h1 h2
  have r2 := dep_right t' ta val (by omega) h1 h2
  unfold idZ
  rw [if_pos r1, if_pos r2]
  exact fun e => id_tag t t' [] [(ta, val)] hne (by omega) (by omega) e.symm
theorem dep_some (l : List Int) (ta val : Int) (hl : l.length ≤ 1000) (h1 : Mk.isM ta = true) (h2 : 10 ≤ val ∧ val ≤ 1099511627776) (h : ∀ i, i < l.length + 1 → depId (i : Nat) ta val ∈ l) : False := by
  have := pigeon (l.length + 1) l (fun i => depId (i : Nat) ta val) h (fun i j hij hj => dep_ne _ _ ta val (by omega) (by omega) h1 h2 (by omega))
  omega
end Go.Proofs.YtffgpepngcnjeabGreatQ

namespace Go.Proofs.YtffgpepngcnjeabGreatQ
open Go.RowKit
/-- a coin without its key -/
def CoinD.k0 (x : CoinD) : CoinD := ⟨x.id, x.pos, x.tt, x.val, 0, 0⟩
theorem ownFold_perm (ks : List KeyD) : ∀ (l : List CoinC) (acc : List CoinD), (∀ x ∈ l, ∃ k ∈ ks, k.ad = x.ad) → ((l.foldl (ownStep ks) acc).map CoinD.k0).Perm ((l.map fun x => (coinK x dK).k0) ++ acc.map CoinD.k0) := by
  intro l
  induction l with
  | nil => intro acc _; exact List.Perm.refl _
  | cons x r ih =>
    intro acc h
    rw [List.foldl_cons]
    have h2 : ownStep ks acc x = insZ false acc (coinK x (ks.getD (firstZ ks x.ad).toNat dK)) := by
      unfold ownStep
      rw [if_neg (first_found (h x List.mem_cons_self))]
    refine (ih (ownStep ks acc x) (fun y hy => h y (List.mem_cons_of_mem _ hy))).trans ?_
    rw [h2, List.map_cons, List.cons_append]
    refine (List.Perm.append_left _ ((insZ_perm false acc _).map CoinD.k0)).trans ?_
    rw [List.map_cons]
    exact List.perm_middle
theorem own_perm {xs : List Cel} (ks : List KeyD) (hs : ∀ x ∈ xs, x.spent = -1) (hk : ∀ x ∈ xs, ∃ k ∈ ks, k.ad = x.to) : ((ownZ ks (coinsC xs)).map CoinD.k0).Perm (xs.map Cel.kept) := by
  have e : coinsC xs = xs.map Cel.c := by
    unfold coinsC
    rw [List.filter_eq_self.2 (fun x hx => by simp [hs x hx])]
  have h := ownFold_perm ks (coinsC xs) [] (by
    rw [e]
    intro x hx
    obtain ⟨y, hy, rfl⟩ := List.mem_map.1 hx
    exact hk y hy)
  unfold ownZ
  rw [List.map_nil, List.append_nil] at h
  refine h.trans ?_
  rw [e, List.map_map]
  exact List.Perm.refl _
theorem k0_worth (r : Int) (l : List CoinD) : (l.map CoinD.k0).map (worthZ r) = l.map (worthZ r) := by rw [List.map_map]; rfl
end Go.Proofs.YtffgpepngcnjeabGreatQ

namespace Go.Proofs.YtffgpepngcnjeabGreatQ
open Go.RowKit
end Go.Proofs.YtffgpepngcnjeabGreatQ

namespace Go.Proofs.YtffgpepngcnjeabGreatQ
open Go.RowKit
variable {Ex : List (Nat × Value)}
/-- a purse in block P -/
abbrev PAt (w : World) (P : Nat) (s : Int) (g : Nat) (v : Value) (h : Int) (xs : List Cel) : Prop := ChOwn [(0, .int .i64 s), (1, .int .i64 (g : Int)), (4, .slice none 0 0), (5, .slice none 0 0), (6, .int .i64 0), (7, .int .i64 0)] w P 2 v h xs
theorem pat_c0 {w : World} {P : Nat} {s : Int} {g : Nat} {v : Value} {h : Int} {xs : List Cel} (hp : PAt w P s g v h xs) : w.cell? ⟨P, 0, none⟩ = some (.int .i64 s) := (hp.ext (0, .int .i64 s) (by simp)).2.2
set_option maxRecDepth 100000 in
set_option maxHeartbeats 400000 in
theorem pConnect_any (P : Nat) (s : Int) (g : Nat) (v : Value) (h : Int) (xs : List Cel) (N : Nat → Prop) (ao : Option Addr) (n c : Nat) (bl : List TxD) (w : World)
    (hp : PAt w P s g v h xs) (hl : xs.length ≤ 5000) (hv : Vals xs) (hh : 0 ≤ h ∧ h ≤ 100) (hb : BlkAt N w ao bl) (hn : bl.length = n) (hN : ∀ k, N k → k < w.heap.size ∧ ¬ chE P v k) (hn2 : n ≤ 9223372036854775807) :
    Calls Tryz.prog 43 #[.pointer (some ⟨P, 0, none⟩), .slice ao n c] w fun e w' => e = .returned (.tuple #[.int .i64 (connZ h xs bl).1, .int .i64 (connZ h xs bl).2.1]) ∧ ∃ v', PAt w' P s g v' (connZ h xs bl).2.2.1 (connZ h xs bl).2.2.2 ∧ ChStep P v v' w w' := by
  go_enter Tryz.func43, Tryz.ntmps43
  go_wp2_with fail
  refine (connect_any P 2 v h xs N ao n c bl _ hp hl hv hh hb hn hN hn2).mono ?_
  rintro e w1 ⟨rfl, v', h1, h2⟩
  go_wp2
  go_ret2
  exact ⟨rfl, v', h1, h2⟩
end Go.Proofs.YtffgpepngcnjeabGreatQ

namespace Go.Proofs.YtffgpepngcnjeabGreatQ
open Go.RowKit
def iV (x : Int) : List Value := [.int .i64 x]
theorem iv1 (x : Int) : (iV x).length = 1 := rfl
theorem iv_one (x : Int) : ∀ u ∈ iV x, u.oneCell' = true := by
  intro u hu
  simp [iV] at hu
  subst hu
  rfl
theorem iCell {w : World} {b off : Nat} {xs : List Int} (h : VRow w b off (xs.flatMap iV)) (j : Nat) (hj : j < xs.length) : w.cell? ⟨b, off + j, none⟩ = some (.int .i64 (xs.getD j 0)) := by
  have := rcell iv1 0 h j hj 0 (by omega)
  rw [Nat.mul_one, Nat.add_zero] at this
  exact this
def ints (A : List Nat) : List Int := A.map fun i : Nat => (i : Int)
set_option maxRecDepth 100000 in
set_option maxHeartbeats 1000000 in
theorem among_any (ao : Option Addr) (n c : Nat) (l : List Int) (x : Int) (w : World) (hx : RecAt iV w ao l) (hn : l.length = n) (hm : n ≤ 1000000) :
    Calls Tryz.prog 77 #[.slice ao n c, .int .i64 x] w fun e w' => e = .returned (.bool (l.any fun y => y == x)) ∧ Below w.heap.size w w' := by
  have HN : Hid (l.length = n) := hn
  have HX : Hid (RecAt iV w ao l) := hx
  clear hn hx
  go_enter Tryz.func77, Tryz.ntmps77
  go_wp2
  go_loopw [5] (fun i wr => ∃ k : Nat, k ≤ n ∧ i = .int .i64 k ∧ Hid ((l.take k).any (fun y => y == x) = false) ∧ Below w.heap.size w wr) (fun i _ => n - (intOf i).toNat)
  case atStart => exact ⟨0, Nat.zero_le _, rfl, by show List.any _ _ = false; simp, Below.refl _ _⟩
  case round =>
    obtain ⟨k, hk, rfl, hany, hbl⟩ := hrel
    by_cases hlt : k < n
    · rcases HX.out with hnil | ⟨g, off, rfl, hrow⟩
      · have := HN.out; rw [hnil] at this; simp at this; omega
      have c0 := iCell (hrow.grown hbl) k (by rw [HN.out]; exact hlt)
      have HS : Hid _ := any_no (fun y : Int => y == x) l 0 k (by rw [HN.out]; exact hlt) hany.out
      have HZ : Hid _ := any_yes (fun y : Int => y == x) l 0 k (by rw [HN.out]; exact hlt)
      clear hrow
      generalize l.getD k 0 = y at c0 HS HZ
      cases hy : (y == x)
      · go_wp2
        go_roundw
        case rel => exact ⟨k + 1, by omega, by go_num, HS.out hy, hbl⟩
        case measure => simp [intOf]; omega
      · go_wp2
        go_ret
        exact ⟨ret_bool (HZ.out hy).symm, hbl⟩
    · go_wp2
      go_ret
      exact ⟨ret_bool (any_done _ l n HN.out k (by omega) hany.out), hbl⟩
end Go.Proofs.YtffgpepngcnjeabGreatQ

namespace Go.Proofs.YtffgpepngcnjeabGreatQ
open Go.RowKit
theorem dep_conn (h : Nat) (xs : List Cel) (t ta val : Int) (hh : h < 40) (ht : 0 ≤ t ∧ t ≤ 1099511627776) (h1 : Mk.isM ta = true) (h2 : 10 ≤ val ∧ val ≤ 1099511627776) (hn : depId t ta val ∉ xs.map Cel.id) (x : TxD) (hx1 : x.t = t) (hx2 : x.ins = []) (hx3 : x.ys = [(ta, val)]) :
    connZ h xs [x] = (0, 0, (h : Int) + 1, xs ++ [⟨depId t ta val, 0, ta, val, h, -1⟩]) := by
  have hr := dep_right t ta val ht h1 h2
  have hid : hasId xs (idZ t [] [(ta, val)]) = false := by
    unfold hasId
    rw [List.any_eq_false]
    intro y hy e
    refine hn (List.mem_map.2 ⟨y, hy, ?_⟩)
    simpa [depId] using e
  have ha : addZ xs h t [] [(ta, val)] true = (0, xs ++ [⟨depId t ta val, 0, ta, val, h, -1⟩]) := by
    have e := addZ_ok (xs := xs) (h := (h : Int)) (t := t) (ins := []) (ys := [(ta, val)]) (first := true) (ss := []) (by rw [hr]; simp) hid rfl rfl (by simp)
    rw [e]
    rfl
  have hg : connGo h xs [x] 0 = (0, 0, xs ++ [⟨depId t ta val, 0, ta, val, h, -1⟩]) := by
    rw [connGo, hx1, hx2, hx3]
    have e : (0 : Nat) == 0 := rfl
    rw [show ((0 : Nat) == 0) = true from rfl, ha]
    rfl
  unfold connZ
  rw [if_neg (by omega), if_neg (by simp), hg, if_neg (by simp)]
theorem dep_back (ys : List Cel) (x : Cel) (h : Int) (hx : x.made = h) (hy : ∀ y ∈ ys, y.made ≠ h ∧ y.spent ≠ h) : tbZ h (ys ++ [x]) = ys := by
  have hl : leftI h (ys ++ [x]) (ys ++ [x]).length = ys.length := by
    rw [List.length_append, List.length_singleton, leftI_succ]
    rw [if_pos (by simp [List.getD, hx])]
    have : ∀ k, k ≤ ys.length → leftI h (ys ++ [x]) k = k := by
      intro k hk
      cases k with
      | zero => rfl
      | succ k =>
        rw [leftI_succ, if_neg]
        have e : (ys ++ [x]).getD k dC = ys.getD k dC := by
          simp only [List.getD]
          rw [List.getElem?_append_left (by omega)]
        rw [e]
        exact (hy _ (getD_mem ys dC k (by omega))).1
    exact this _ (Nat.le_refl _)
  unfold tbZ
  rw [hl, List.take_left']
  · refine (List.map_congr_left (g := id) (fun y hy2 => ?_)).trans (List.map_id _)
    unfold unsp
    rw [if_neg (hy y hy2).2]
    rfl
  · rfl
/-- the blocks of a scene -/
def scE (P S : Nat) (v vi vc : Value) (k : Nat) : Prop := chE P v k ∨ k = S ∨ vi.ownBlock = some k ∨ vc.ownBlock = some k
/-- a scene in block S: its purse in block P -/
structure Sc (S P : Nat) (s : Int) (g h : Nat) (v vi vc : Value) (xs : List Cel) (ids : List Int) (cs : List CoinD) (w : World) : Prop where
  pat : PAt w P s g v h xs
  c0 : w.cell? ⟨S, 0, none⟩ = some (.pointer (some ⟨P, 0, none⟩))
  c1 : w.cell? ⟨S, 1, none⟩ = some (.int .i64 s)
  c2 : w.cell? ⟨S, 2, none⟩ = some (.int .i64 (g : Int))
  c3 : w.cell? ⟨S, 3, none⟩ = some vi
  c4 : w.cell? ⟨S, 4, none⟩ = some vc
  f3 : w.frozen? ⟨S, 3, none⟩ = false
  f4 : w.frozen? ⟨S, 4, none⟩ = false
  oi : OwnRec iV 3 1 w (S + 1) vi ids
  oc : OwnRec CoinD.l 107 6 w (S + 1) vc cs
  lt : P < S
  d1 : ∀ k, chE P v k → k ≠ S ∧ vi.ownBlock ≠ some k ∧ vc.ownBlock ≠ some k
  d2 : ∀ k, vi.ownBlock = some k → vc.ownBlock ≠ some k
variable {S P : Nat} {s : Int} {g h : Nat} {v vi vc : Value} {xs : List Cel} {ids : List Int} {cs : List CoinD} {w : World}
theorem Sc.big (u : Sc S P s g h v vi vc xs ids cs w) : S < w.heap.size ∧ P < w.heap.size := ⟨cell_lt u.c0, cell_lt u.pat.c0⟩
theorem Sc.blk (u : Sc S P s g h v vi vc xs ids cs w) : ∀ k, scE P S v vi vc k → P ≤ k ∧ k < w.heap.size := by
  intro k hk
  have hS := u.big
  have hl := u.lt
  rcases hk with e | e | e | e
  · exact u.pat.blk k e
  · omega
  · have := u.oi.blk k e; omega
  · have := u.oc.blk k e; omega
theorem Sc.fr {E : Nat → Prop} {w' : World} (u : Sc S P s g h v vi vc xs ids cs w) (hf : Fr E w w') (hE : ∀ k, scE P S v vi vc k → ¬ E k) : Sc S P s g h v vi vc xs ids cs w' := by
  have hS : ¬ E S := hE S (Or.inr (Or.inl rfl))
  have hl := u.big.1
  exact ⟨u.pat.fr hf (fun k hk => hE k (Or.inl hk)), hf.cell u.c0 hS, hf.cell u.c1 hS, hf.cell u.c2 hS, hf.cell u.c3 hS, hf.cell u.c4 hS, (hf.frozen hl hS).trans u.f3, (hf.frozen hl hS).trans u.f4, hf.own u.oi (fun k hk => hE k (Or.inr (Or.inr (Or.inl hk)))), hf.own u.oc (fun k hk => hE k (Or.inr (Or.inr (Or.inr hk)))), u.lt, u.d1, u.d2⟩
theorem Sc.grown {w' : World} (u : Sc S P s g h v vi vc xs ids cs w) (hb : Below w.heap.size w w') : Sc S P s g h v vi vc xs ids cs w' := u.fr (Fr.of_below hb (fun _ => False)) (fun _ _ h => h)
/-- one step of a scene -/
structure ScStep (P S : Nat) (v vi vc v' vi' vc' : Value) (w w' : World) : Prop where
  fr : Fr (scE P S v vi vc) w w'
  own : ∀ k, scE P S v' vi' vc' k → scE P S v vi vc k ∨ w.heap.size ≤ k
theorem ScStep.of_below {w' : World} (h : Below w.heap.size w w') : ScStep P S v vi vc v vi vc w w' := ⟨Fr.of_below h _, fun _ hk => Or.inl hk⟩
theorem ScStep.trans {v1 vi1 vc1 v2 vi2 vc2 : Value} {w1 w2 : World} (h : ScStep P S v vi vc v1 vi1 vc1 w w1) (k : ScStep P S v1 vi1 vc1 v2 vi2 vc2 w1 w2) : ScStep P S v vi vc v2 vi2 vc2 w w2 := by
  refine ⟨⟨k.fr.os.trans h.fr.os, k.fr.tape.trans h.fr.tape, k.fr.output.trans h.fr.output, Nat.le_trans h.fr.size k.fr.size, fun i hi he => ?_⟩, fun i hi => ?_⟩
  · refine (k.fr.block i (Nat.lt_of_lt_of_le hi h.fr.size) (fun e => ?_)).trans (h.fr.block i hi he)
    rcases h.own i e with e' | e'
    · exact he e'
    · omega
  · rcases k.own i hi with e | e
    · exact h.own i e
    · exact Or.inr (Nat.le_trans h.fr.size e)
/-- the chain moves -/
theorem Sc.chain (u : Sc S P s g h v vi vc xs ids cs w) {w' : World} {v' : Value} {h' : Nat} {xs' : List Cel} (hp : PAt w' P s g v' h' xs') (hst : ChStep P v v' w w') : Sc S P s g h' v' vi vc xs' ids cs w' ∧ ScStep P S v vi vc v' vi vc w w' := by
  have hf := hst.fr
  have hSE : ¬ chE P v S := fun e => (u.d1 S e).1 rfl
  have hl := u.big.1
  have hnew : ∀ k, chE P v' k → chE P v k ∨ w.heap.size ≤ k := fun k hk => by
    rcases hk with e | e
    · exact Or.inl (Or.inl e)
    · rcases hst.own k e with e' | e'
      · exact Or.inl (Or.inr e')
      · exact Or.inr e'
  refine ⟨⟨hp, hf.cell u.c0 hSE, hf.cell u.c1 hSE, hf.cell u.c2 hSE, hf.cell u.c3 hSE, hf.cell u.c4 hSE, (hf.frozen hl hSE).trans u.f3, (hf.frozen hl hSE).trans u.f4, hf.own u.oi (fun k hk e => (u.d1 k e).2.1 hk), hf.own u.oc (fun k hk e => (u.d1 k e).2.2 hk), u.lt, fun k hk => ?_, u.d2⟩, hf.weak (fun k _ e => Or.inl e), fun k hk => ?_⟩
  · rcases hnew k hk with e | e
    · exact u.d1 k e
    · exact ⟨fun e' => by omega, fun e' => by have := (u.oi.blk k e').2; omega, fun e' => by have := (u.oc.blk k e').2; omega⟩
  · rcases hk with e | e
    · exact (hnew k e).imp (fun e => Or.inl e) id
    · exact Or.inl (Or.inr e)
/-- an id more -/
theorem Sc.pushI (u : Sc S P s g h v vi vc xs ids cs w) {w1 : World} {gb cap : Nat} {x : Int} (hown : OwnRec iV 3 1 w1 (S + 1) (.slice (some ⟨gb, 0, none⟩) (ids.length + 1) cap) (ids ++ [x])) (hg : w.grownBy w1 vi.ownBlock) (hl : vi.ownBlock = some gb ∨ w.heap.size ≤ gb) :
    Sc S P s g h v (.slice (some ⟨gb, 0, none⟩) (ids.length + 1) cap) vc xs (ids ++ [x]) cs (w1.setCell ⟨S, 3, none⟩ (.slice (some ⟨gb, 0, none⟩) (ids.length + 1) cap)) ∧ ScStep P S v vi vc v (.slice (some ⟨gb, 0, none⟩) (ids.length + 1) cap) vc w (w1.setCell ⟨S, 3, none⟩ (.slice (some ⟨gb, 0, none⟩) (ids.length + 1) cap)) := by
  have hS := u.big.1
  have hvS : some S ≠ vi.ownBlock := fun e => by have := (u.oi.blk S e.symm).1; omega
  have hgb := (hown.blk gb rfl).1
  have hf : Fr (fun k => k = S ∨ vi.ownBlock = some k) w (w1.setCell ⟨S, 3, none⟩ (.slice (some ⟨gb, 0, none⟩) (ids.length + 1) cap)) := (Fr.of_gb hg (fun k hk _ => Or.inr hk)).set S 3 _ (fun _ => Or.inl rfl)
  have hpE : ∀ k, chE P v k → ¬ (k = S ∨ vi.ownBlock = some k) := fun k hk e => e.elim (u.d1 k hk).1 (u.d1 k hk).2.1
  refine ⟨⟨u.pat.fr hf hpE, so (gb_cell hg u.c0 hvS) (by decide), so (gb_cell hg u.c1 hvS) (by decide), so (gb_cell hg u.c2 hvS) (by decide), World.cell?_setCell_same _ _ _ (gb_cell hg u.c3 hvS), so (gb_cell hg u.c4 hvS) (by decide), by rw [World.frozen?_setCell]; exact (gb_frozen hg hS hvS).trans u.f3, by rw [World.frozen?_setCell]; exact (gb_frozen hg hS hvS).trans u.f4, hown.gb (gb_set w1 S 3 _) (fun k hk e => by simp [Value.ownBlock] at hk; injection e with e; omega), hf.own u.oc (fun k hk e => ?_), u.lt, fun k hk => ⟨(u.d1 k hk).1, fun e => ?_, (u.d1 k hk).2.2⟩, fun k hk e => ?_⟩, hf.weak (fun k _ e => Or.inr (e.imp id (fun h => Or.inl h))), fun k hk => ?_⟩
  · rcases e with e | e
    · have := (u.oc.blk k hk).1; omega
    · exact u.d2 k e hk
  · simp [Value.ownBlock] at e
    subst e
    rcases hl with h | h
    · exact (u.d1 _ hk).2.1 h
    · have := (u.pat.blk _ hk).2; omega
  · simp [Value.ownBlock] at hk
    subst hk
    rcases hl with h | h
    · exact u.d2 _ h e
    · have := (u.oc.blk _ e).2; omega
  · rcases hk with e | e | e | e
    · exact Or.inl (Or.inl e)
    · exact Or.inl (Or.inr (Or.inl e))
    · simp [Value.ownBlock] at e
      subst e
      exact hl.imp (fun h => Or.inr (Or.inr (Or.inl h))) id
    · exact Or.inl (Or.inr (Or.inr (Or.inr e)))
/-- a coin more -/
theorem Sc.pushC (u : Sc S P s g h v vi vc xs ids cs w) {w1 : World} {gb cap : Nat} {x : CoinD} (hown : OwnRec CoinD.l 107 6 w1 (S + 1) (.slice (some ⟨gb, 0, none⟩) (cs.length + 1) cap) (cs ++ [x])) (hg : w.grownBy w1 vc.ownBlock) (hl : vc.ownBlock = some gb ∨ w.heap.size ≤ gb) :
    Sc S P s g h v vi (.slice (some ⟨gb, 0, none⟩) (cs.length + 1) cap) xs ids (cs ++ [x]) (w1.setCell ⟨S, 4, none⟩ (.slice (some ⟨gb, 0, none⟩) (cs.length + 1) cap)) ∧ ScStep P S v vi vc v vi (.slice (some ⟨gb, 0, none⟩) (cs.length + 1) cap) w (w1.setCell ⟨S, 4, none⟩ (.slice (some ⟨gb, 0, none⟩) (cs.length + 1) cap)) := by
  have hS := u.big.1
  have hvS : some S ≠ vc.ownBlock := fun e => by have := (u.oc.blk S e.symm).1; omega
  have hgb := (hown.blk gb rfl).1
  have hf : Fr (fun k => k = S ∨ vc.ownBlock = some k) w (w1.setCell ⟨S, 4, none⟩ (.slice (some ⟨gb, 0, none⟩) (cs.length + 1) cap)) := (Fr.of_gb hg (fun k hk _ => Or.inr hk)).set S 4 _ (fun _ => Or.inl rfl)
  have hpE : ∀ k, chE P v k → ¬ (k = S ∨ vc.ownBlock = some k) := fun k hk e => e.elim (u.d1 k hk).1 (u.d1 k hk).2.2
  refine ⟨⟨u.pat.fr hf hpE, so (gb_cell hg u.c0 hvS) (by decide), so (gb_cell hg u.c1 hvS) (by decide), so (gb_cell hg u.c2 hvS) (by decide), so (gb_cell hg u.c3 hvS) (by decide), World.cell?_setCell_same _ _ _ (gb_cell hg u.c4 hvS), by rw [World.frozen?_setCell]; exact (gb_frozen hg hS hvS).trans u.f3, by rw [World.frozen?_setCell]; exact (gb_frozen hg hS hvS).trans u.f4, hf.own u.oi (fun k hk e => ?_), hown.gb (gb_set w1 S 4 _) (fun k hk e => by simp [Value.ownBlock] at hk; injection e with e; omega), u.lt, fun k hk => ⟨(u.d1 k hk).1, (u.d1 k hk).2.1, fun e => ?_⟩, fun k hk e => ?_⟩, hf.weak (fun k _ e => Or.inr (e.imp id (fun h => Or.inr h))), fun k hk => ?_⟩
  · rcases e with e | e
    · have := (u.oi.blk k hk).1; omega
    · exact u.d2 k hk e
  · simp [Value.ownBlock] at e
    subst e
    rcases hl with h | h
    · exact (u.d1 _ hk).2.2 h
    · have := (u.pat.blk _ hk).2; omega
  · simp [Value.ownBlock] at e
    subst e
    rcases hl with h | h
    · exact u.d2 _ hk h
    · have := (u.oi.blk _ hk).2; omega
  · rcases hk with e | e | e | e
    · exact Or.inl (Or.inl e)
    · exact Or.inl (Or.inr (Or.inl e))
    · exact Or.inl (Or.inr (Or.inr (Or.inl e)))
    · simp [Value.ownBlock] at e
      subst e
      exact hl.imp (fun h => Or.inr (Or.inr (Or.inr h))) id
end Go.Proofs.YtffgpepngcnjeabGreatQ
