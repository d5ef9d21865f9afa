/-
  Found, the plain part: windows, own coins of deposits, new ids.
-/
import Derived.Test.YtffgpepngcnjeaaWatZ
import Derived.Test.YtffgpepngcnjeaaMix
namespace Go.Proofs.Ytffgpepngcnjeaa
open Go.RowKit

def Wide (hit : Nat → Bool) (g x : Nat) : Prop := ∀ i, i < x → hit i = true → i + 1 + g ≤ x

theorem wgo_spec (hit : Nat → Bool) (g : Nat) (hg : g ≤ 100) : ∀ (f i v : Nat), f + i = 101 → i ≤ v → v ≤ 100 → g ≤ v → (∀ j, j < i → hit j = true → min 100 (j + 1 + g) ≤ v) → (∀ x, g ≤ x → x < 100 → Wide hit g x → v ≤ x) →
    g ≤ wgo hit g f i v ∧ wgo hit g f i v ≤ 100 ∧ (wgo hit g f i v < 100 → Wide hit g (wgo hit g f i v)) ∧ (∀ x, g ≤ x → x < 100 → Wide hit g x → wgo hit g f i v ≤ x) := by
  intro f
  induction f with
  | zero => intro i v h1 h2 h3; omega
  | succ f ih =>
    intro i v h1 h2 h3 h4 h5 h6
    rw [wgo]
    by_cases hlt : i < v
    · rw [if_pos hlt]
      cases hh : hit i
      · rw [if_neg (by simp)]
        exact ih (i + 1) v (by omega) (by omega) h3 h4 (fun j hj hj2 => by
          by_cases e : j = i
          · subst e; rw [hh] at hj2; cases hj2
          · exact h5 j (by omega) hj2) h6
      · rw [if_pos rfl]
        refine ih (i + 1) (min 100 (i + 1 + g)) (by omega) (by omega) (by omega) (by omega) (fun j hj hj2 => by omega) (fun x hx1 hx2 hx3 => ?_)
        have := h6 x hx1 hx2 hx3
        have := hx3 i (by omega) hh
        omega
    · rw [if_neg hlt]
      refine ⟨h4, h3, fun hv i' hi' hh => ?_, h6⟩
      have := h5 i' (by omega) hh
      omega

theorem win_spec (xs : List Cel) (s : Int) (g : Nat) (br : Int) (hg : g ≤ 20) : g ≤ winZ xs s g br ∧ ∀ i, i < winZ xs s g br → hitAt xs s br i = true → min 100 (i + 1 + g) ≤ winZ xs s g br := by
  unfold winZ
  rw [show min 100 g = g by omega]
  obtain ⟨w1, w2, w3, w4⟩ := wgo_spec (hitAt xs s br) g (by omega) 101 0 g rfl (by omega) (by omega) (Nat.le_refl _) (fun j hj => by omega) (fun x hx _ _ => hx)
  generalize wgo (hitAt xs s br) g 101 0 g = V at *
  refine ⟨w1, fun i hi hh => ?_⟩
  by_cases e : V < 100
  · have := w3 e i hi hh
    omega
  · omega

theorem win_nil (s : Int) (g : Nat) (br : Int) (hg : 1 ≤ g) (hg2 : g ≤ 20) : winZ [] s g br = g := by
  obtain ⟨w1, w2, w3, w4⟩ := wgo_spec (hitAt [] s br) g (by omega) 101 0 g rfl (by omega) (by omega) (Nat.le_refl _) (fun j hj => by omega) (fun x hx _ _ => hx)
  have h := w4 g (Nat.le_refl _) (by omega) (fun i hi hh => by simp [hitAt, paidTo] at hh)
  unfold winZ
  rw [show min 100 g = g by omega]
  omega

/-- a deposit as the scene keeps it -/
def Cel.kept (x : Cel) : CoinD := ⟨x.id, x.pos, x.to, x.val, 0, 0⟩
def hasZ (l : List CoinD) (c : CoinD) : Bool := l.any fun x => x.id == c.id && (x.pos == c.pos && (x.tt == c.tt && x.val == c.val))

theorem insZ_new (cs : List CoinD) (x : CoinD) : x ∈ insZ false cs x := by
  unfold insZ insAt
  simp
theorem insZ_old {cs : List CoinD} (x : CoinD) {y : CoinD} (h : y ∈ cs) : y ∈ insZ false cs x := by
  unfold insZ insAt
  rw [← List.take_append_drop (insI false cs x cs.length) cs] at h
  simp only [List.mem_append, List.mem_cons] at h ⊢
  rcases h with h | h
  · exact Or.inl h
  · exact Or.inr (Or.inr h)
theorem ownFold_old (ks : List KeyD) {y : CoinD} : ∀ (l : List CoinC) (acc : List CoinD), y ∈ acc → y ∈ l.foldl (ownStep ks) acc := by
  intro l
  induction l with
  | nil => intro acc h; exact h
  | cons x r ih =>
    intro acc h
    rw [List.foldl_cons]
    refine ih _ ?_
    unfold ownStep
    split
    · exact h
    · exact insZ_old _ h
theorem first_found {ks : List KeyD} {a : Int} (h : ∃ k ∈ ks, k.ad = a) : ¬ firstZ ks a < 0 := by
  obtain ⟨k, hk, ha⟩ := h
  have key : ∀ (l : List KeyD) (i : Nat), k ∈ l → 0 ≤ idxOf (fun x : KeyD => x.ad == a) l i := by
    intro l
    induction l with
    | nil => intro i h; cases h
    | cons x r ih =>
      intro i h
      rw [idxOf]
      split
      · omega
      · rename_i hn
        rcases List.mem_cons.1 h with e | e
        · subst e
          simp [ha] at hn
        · exact ih _ e
  have := key ks 0 hk
  unfold firstZ
  omega
theorem ownFold_mem (ks : List KeyD) : ∀ (l : List CoinC) (acc : List CoinD) (x : CoinC), x ∈ l → (∃ k ∈ ks, k.ad = x.ad) → ∃ k, coinK x k ∈ l.foldl (ownStep ks) acc := by
  intro l
  induction l with
  | nil => intro acc x h; cases h
  | cons y r ih =>
    intro acc x h hk
    rw [List.foldl_cons]
    rcases List.mem_cons.1 h with e | e
    · subst e
      refine ⟨ks.getD (firstZ ks x.ad).toNat dK, ownFold_old ks r _ ?_⟩
      unfold ownStep
      rw [if_neg (first_found hk)]
      exact insZ_new _ _
    · exact ih _ x e hk

theorem key_mem {xs : List Cel} {s : Int} {g : Nat} {br : Int} (hb : br = 0 ∨ br = 1) {i : Nat} (h : i < winZ xs s g br) : ∃ k ∈ keysZ xs s g, k.ad = Mk.adr s br i := by
  refine ⟨⟨br, i, Mk.adr s br i⟩, ?_, rfl⟩
  unfold keysZ keysB
  rw [List.mem_append]
  rcases hb with rfl | rfl
  · exact Or.inl (List.mem_map.2 ⟨i, List.mem_range.2 h, rfl⟩)
  · exact Or.inr (List.mem_map.2 ⟨i, List.mem_range.2 h, rfl⟩)

theorem own_has {xs : List Cel} {s : Int} {g : Nat} {x : Cel} (hx : x ∈ xs) (hs : x.spent = -1) (hk : ∃ k ∈ keysZ xs s g, k.ad = x.to) : hasZ (ownOf xs s g) x.kept = true := by
  have hm : x.c ∈ coinsC xs := List.mem_map.2 ⟨x, List.mem_filter.2 ⟨hx, by simp [hs]⟩, rfl⟩
  obtain ⟨k, hk2⟩ := ownFold_mem (keysZ xs s g) (coinsC xs) [] x.c hm hk
  unfold hasZ
  rw [List.any_eq_true]
  refine ⟨_, hk2, ?_⟩
  simp [coinK, Cel.c, Cel.kept]

theorem sumC_ins (cs : List CoinD) (x : CoinD) : sumC (insZ false cs x) = sumC cs + x.val := by
  unfold insZ insAt
  generalize insI false cs x cs.length = p
  have h := congrArg sumC (List.take_append_drop p cs)
  unfold sumC at h ⊢
  simp only [List.map_append, List.map_cons, List.sum_append, List.sum_cons] at h ⊢
  omega
theorem ownFold_all (ks : List KeyD) : ∀ (l : List CoinC) (acc : List CoinD), (∀ x ∈ l, ∃ k ∈ ks, k.ad = x.ad) → (l.foldl (ownStep ks) acc).length = acc.length + l.length ∧ sumC (l.foldl (ownStep ks) acc) = sumC acc + (l.map CoinC.val).sum := by
  intro l
  induction l with
  | nil => intro acc _; simp
  | cons x r ih =>
    intro acc h
    rw [List.foldl_cons]
    have h1 := ih (ownStep ks acc x) (fun y hy => h y (List.mem_cons_of_mem _ hy))
    have h2 : ownStep ks acc x = insZ false acc (coinK x (ks.getD (firstZ ks x.ad).toNat dK)) := by
      unfold ownStep
      rw [if_neg (first_found (h x List.mem_cons_self))]
    rw [h2] at h1 ⊢
    rw [insZ_len, sumC_ins] at h1
    refine ⟨by rw [h1.1, List.length_cons]; omega, ?_⟩
    rw [h1.2, List.map_cons, List.sum_cons]
    have : (coinK x (ks.getD (firstZ ks x.ad).toNat dK)).val = x.val := rfl
    omega
theorem own_all {xs : List Cel} {s : Int} {g : Nat} (hs : ∀ x ∈ xs, x.spent = -1) (hk : ∀ x ∈ xs, ∃ k ∈ keysZ xs s g, k.ad = x.to) : (ownOf xs s g).length = xs.length ∧ sumC (ownOf xs s g) = sumC (xs.map Cel.kept) := by
  have e : coinsC xs = xs.map Cel.c := by
    unfold coinsC
    rw [List.filter_eq_self.2 (fun x hx => by simp [hs x hx])]
  have h := ownFold_all (keysZ xs s g) (coinsC xs) [] (by
    rw [e]
    intro x hx
    obtain ⟨y, hy, rfl⟩ := List.mem_map.1 hx
    exact hk y hy)
  unfold ownOf ownZ
  rw [e] at h ⊢
  refine ⟨by rw [h.1]; simp, ?_⟩
  rw [h.2]
  unfold sumC
  rw [List.map_map, List.map_map]
  simp only [List.map_nil, List.sum_nil, Int.zero_add]
  rfl

theorem pigeon : ∀ (n : Nat) (l : List Int) (f : Nat → Int), (∀ i, i < n → f i ∈ l) → (∀ i j, i < j → j < n → f i ≠ f j) → n ≤ l.length := by
  intro n
  induction n with
  | zero => intro l f _ _; omega
  | succ n ih =>
    intro l f h1 h2
    have hm := h1 n (by omega)
    have hl : (l.erase (f n)).length = l.length - 1 := List.length_erase_of_mem hm
    have := ih (l.erase (f n)) f (fun i hi => (List.mem_erase_of_ne (h2 i n hi (by omega))).2 (h1 i (by omega))) (fun i j hij hj => h2 i j hij (by omega))
    have := List.length_pos_of_mem hm
    omega

/-- the id of a deposit -/
def depId (t ta val : Int) : Int := idZ t [] [(ta, val)]
theorem dep_right (t ta val : Int) (ht : 0 ≤ t ∧ t ≤ 1099511627776) (h1 : Mk.isM ta = true) (h2 : 10 ≤ val ∧ val ≤ 1099511627776) : rTx t [] [(ta, val)] = true := by
  have e : rOut (ta, val) = true := by unfold rOut; simp only; rw [h1]; simp [h2]
  simp [rTx, rIns, rOuts, e, ht]
theorem dep_ne (t t' ta val : Int) (ht : 0 ≤ t ∧ t < 99991) (ht' : 0 ≤ t' ∧ t' < 99991) (h1 : Mk.isM ta = true) (h2 : 10 ≤ val ∧ val ≤ 1099511627776) (hne : t ≠ t') : depId t ta val ≠ depId t' ta val := by
  unfold depId
  have r1 := dep_right t ta val (by omega) h1 h2
  have r2 := dep_right t' ta val (by omega) h1 h2
  unfold idZ
  rw [if_pos r1, if_pos r2]
  exact fun e => id_tag t t' [] [(ta, val)] hne (by omega) (by omega) e.symm
theorem dep_some (l : List Int) (ta val : Int) (hl : l.length ≤ 1000) (h1 : Mk.isM ta = true) (h2 : 10 ≤ val ∧ val ≤ 1099511627776) (h : ∀ i, i < l.length + 1 → depId (i : Nat) ta val ∈ l) : False := by
  have := pigeon (l.length + 1) l (fun i => depId (i : Nat) ta val) h (fun i j hij hj => dep_ne _ _ ta val (by omega) (by omega) h1 h2 (by omega))
  omega

end Go.Proofs.Ytffgpepngcnjeaa
