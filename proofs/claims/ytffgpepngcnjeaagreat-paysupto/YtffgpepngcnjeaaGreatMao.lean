/-
  Which coins a payment takes, the plain part: the program's way and the document's.
  The order of the candidates: what is laid to its place, one after the other, is what is picked out, the greatest first.
  Which coins a payment takes: the program's answer is the document's.
  The payments of a purse in memory; which coins they leave free.
  Package payments: what is held, which keys have sealed, which coins are free.
  Package choice: its small functions.
-/
import Derived.Test.YtffgpepngcnjeaaGreatMan
import Derived.Laws.BitsLemmas
namespace Go.Proofs.YtffgpepngcnjeaaGreat
open Go.RowKit
def worthZ (r : Int) (c : CoinD) : Int := c.val - 7 * r
/-- the worthy ones, each laid to its place -/
def ordStep (r : Int) (acc : List CoinD) (c : CoinD) : List CoinD := if 1 ≤ worthZ r c then insZ true acc c else acc
def orderZ (r : Int) (l : List CoinD) : List CoinD := l.foldl (ordStep r) []
def bitN (m n i : Nat) : Bool := m / 2 ^ (n - 1 - i) % 2 == 1
/-- the program's: eight bits, those behind the list's end tell nothing -/
def sumP (r : Int) (cs : List CoinD) (m : Nat) : Int := ((List.range 8).map fun i => if decide (i < cs.length) && bitN m 8 i then worthZ r (cs.getD i dN) else 0).sum
def memP (cs : List CoinD) (m : Nat) : List CoinD := ((List.range 8).filter fun i => decide (i < cs.length) && bitN m 8 i).map fun i => cs.getD i dN
/-- the document's: as many bits as candidates -/
def sumD (r : Int) (cs : List CoinD) (n m : Nat) : Int := ((List.range n).map fun i => if bitN m n i then worthZ r (cs.getD i dN) else 0).sum
def memD (cs : List CoinD) (n m : Nat) : List CoinD := ((List.range n).filter fun i => bitN m n i).map fun i => cs.getD i dN
def nearZ (f : Nat → Int) (lo : Int) : Nat → Nat × Int → Nat × Int
  | 0, s => s
  | m + 1, s => nearZ f lo m (if lo ≤ f (m + 1) ∧ f (m + 1) < s.2 then (m + 1, f (m + 1)) else s)
def fitZD (f : Nat → Int) (lo hi : Int) : Nat → Nat × Int → Nat × Int
  | 0, s => s
  | m + 1, s => fitZD f lo hi m (if lo ≤ f (m + 1) ∧ f (m + 1) ≤ hi ∧ (s.1 = 0 ∨ f (m + 1) < s.2) then (m + 1, f (m + 1)) else s)
/-- b: the greatest of the sets from 1 to M that have the least sum from lo to hi; 0: there is none -/
structure Best (f : Nat → Int) (lo hi : Int) (M b : Nat) : Prop where
  no : b = 0 → ∀ m, 1 ≤ m → m ≤ M → ¬(lo ≤ f m ∧ f m ≤ hi)
  yes : b ≠ 0 → b ≤ M ∧ lo ≤ f b ∧ f b ≤ hi ∧ ∀ m, 1 ≤ m → m ≤ M → lo ≤ f m → f b ≤ f m ∧ (f m = f b → m ≤ b)
theorem near_best (f : Nat → Int) (lo hi : Int) (M : Nat) : ∀ (k : Nat) (s : Nat × Int), k ≤ M → (s.1 = 0 → s.2 = hi + 1 ∧ ∀ m, k < m → m ≤ M → ¬(lo ≤ f m ∧ f m ≤ hi)) →
    (s.1 ≠ 0 → s.2 = f s.1 ∧ k < s.1 ∧ s.1 ≤ M ∧ lo ≤ f s.1 ∧ f s.1 ≤ hi ∧ ∀ m, k < m → m ≤ M → lo ≤ f m → f s.1 ≤ f m ∧ (f m = f s.1 → m ≤ s.1)) → Best f lo hi M (nearZ f lo k s).1 := by
  intro k
  induction k with
  | zero =>
    intro s _ h1 h2
    rw [nearZ]
    exact ⟨fun e m hm hM => (h1 e).2 m (by omega) hM, fun e => by
      obtain ⟨a, b, c, d, e1, e2⟩ := h2 e
      exact ⟨c, d, e1, fun m hm hM hl => e2 m (by omega) hM hl⟩⟩
  | succ k ih =>
    intro s hk h1 h2
    rw [nearZ]
    by_cases hc : lo ≤ f (k + 1) ∧ f (k + 1) < s.2
    · rw [if_pos hc]
      refine ih _ (by omega) (fun e => by simp at e) (fun _ => ?_)
      simp only
      by_cases e0 : s.1 = 0
      · obtain ⟨a, b⟩ := h1 e0
        refine ⟨trivial, by omega, hk, hc.1, by omega, fun m hm hM hl => ?_⟩
        by_cases em : m = k + 1
        · subst em; omega
        · have hb := b m (by omega) hM
          have : hi < f m := by
            by_cases hq : f m ≤ hi
            · exact absurd ⟨hl, hq⟩ hb
            · omega
          omega
      · obtain ⟨a, b, c, d, e1, e2⟩ := h2 e0
        refine ⟨trivial, by omega, hk, hc.1, by omega, fun m hm hM hl => ?_⟩
        by_cases em : m = k + 1
        · subst em; omega
        · have := e2 m (by omega) hM hl
          omega
    · rw [if_neg hc]
      refine ih _ (by omega) (fun e => ⟨(h1 e).1, fun m hm hM hf => ?_⟩) (fun e => ?_)
      · by_cases em : m = k + 1
        · subst em; have := (h1 e).1; exact hc ⟨hf.1, by omega⟩
        · exact (h1 e).2 m (by omega) hM hf
      · obtain ⟨a, b, c, d, e1, e2⟩ := h2 e
        refine ⟨a, by omega, c, d, e1, fun m hm hM hl => ?_⟩
        by_cases em : m = k + 1
        · subst em
          have : ¬ f (k + 1) < s.2 := fun h => hc ⟨hl, h⟩
          omega
        · exact e2 m (by omega) hM hl
theorem fit_best (f : Nat → Int) (lo hi : Int) (M : Nat) : ∀ (k : Nat) (s : Nat × Int), k ≤ M → (s.1 = 0 → ∀ m, k < m → m ≤ M → ¬(lo ≤ f m ∧ f m ≤ hi)) →
    (s.1 ≠ 0 → s.2 = f s.1 ∧ k < s.1 ∧ s.1 ≤ M ∧ lo ≤ f s.1 ∧ f s.1 ≤ hi ∧ ∀ m, k < m → m ≤ M → lo ≤ f m → f s.1 ≤ f m ∧ (f m = f s.1 → m ≤ s.1)) → Best f lo hi M (fitZD f lo hi k s).1 := by
  intro k
  induction k with
  | zero =>
    intro s _ h1 h2
    rw [fitZD]
    exact ⟨fun e m hm hM => h1 e m (by omega) hM, fun e => by
      obtain ⟨a, b, c, d, e1, e2⟩ := h2 e
      exact ⟨c, d, e1, fun m hm hM hl => e2 m (by omega) hM hl⟩⟩
  | succ k ih =>
    intro s hk h1 h2
    rw [fitZD]
    by_cases hc : lo ≤ f (k + 1) ∧ f (k + 1) ≤ hi ∧ (s.1 = 0 ∨ f (k + 1) < s.2)
    · rw [if_pos hc]
      refine ih _ (by omega) (fun e => by simp at e) (fun _ => ?_)
      simp only
      obtain ⟨c1, c2, c3⟩ := hc
      by_cases e0 : s.1 = 0
      · refine ⟨trivial, by omega, hk, c1, c2, fun m hm hM hl => ?_⟩
        by_cases em : m = k + 1
        · subst em; omega
        · have hb := h1 e0 m (by omega) hM
          have : hi < f m := by
            by_cases hq : f m ≤ hi
            · exact absurd ⟨hl, hq⟩ hb
            · omega
          omega
      · obtain ⟨a, b, c, d, e1, e2⟩ := h2 e0
        have c4 : f (k + 1) < s.2 := c3.resolve_left e0
        refine ⟨trivial, by omega, hk, c1, c2, fun m hm hM hl => ?_⟩
        by_cases em : m = k + 1
        · subst em; omega
        · have := e2 m (by omega) hM hl
          omega
    · rw [if_neg hc]
      refine ih _ (by omega) (fun e => fun m hm hM hf => ?_) (fun e => ?_)
      · by_cases em : m = k + 1
        · subst em; exact hc ⟨hf.1, hf.2, Or.inl e⟩
        · exact h1 e m (by omega) hM hf
      · obtain ⟨a, b, c, d, e1, e2⟩ := h2 e
        refine ⟨a, by omega, c, d, e1, fun m hm hM hl => ?_⟩
        by_cases em : m = k + 1
        · subst em
          by_cases hq : f (k + 1) ≤ hi
          · have : ¬ f (k + 1) < s.2 := fun h => hc ⟨hl, hq, Or.inr h⟩
            omega
          · omega
        · exact e2 m (by omega) hM hl
def bestP (r : Int) (cs : List CoinD) (lo hi : Int) : Nat := (nearZ (sumP r cs) lo 255 (0, hi + 1)).1
def bestD (r : Int) (cs : List CoinD) (n : Nat) (lo hi : Int) : Nat := (fitZD (sumD r cs n) lo hi (2 ^ n - 1) (0, 0)).1
theorem bit_shift (m j n i : Nat) (hn : n ≤ 8) (hi : i < n) (hj : j < 2 ^ (8 - n)) : bitN (m * 2 ^ (8 - n) + j) 8 i = bitN m n i := by
  unfold bitN
  have e : 8 - 1 - i = (8 - n) + (n - 1 - i) := by omega
  rw [e, Nat.pow_add, ← Nat.div_div_eq_div_mul]
  have e2 : (m * 2 ^ (8 - n) + j) / 2 ^ (8 - n) = m := by
    rw [Nat.mul_comm, Nat.mul_add_div (Nat.two_pow_pos _), Nat.div_eq_of_lt hj]
    omega
  rw [e2]
theorem range_split (a b : Nat) : List.range (a + b) = List.range a ++ (List.range b).map (a + ·) := List.range_add ..
theorem sum_zero {l : List Nat} {f : Nat → Int} (h : ∀ i ∈ l, f i = 0) : (l.map f).sum = 0 := by
  induction l with
  | nil => rfl
  | cons x r ih => rw [List.map_cons, List.sum_cons, h x List.mem_cons_self, ih (fun i hi => h i (List.mem_cons_of_mem _ hi))]; rfl
theorem sumP_D (r : Int) (cs : List CoinD) (n : Nat) (hn : n = min 8 cs.length) (S : Nat) : sumP r cs S = sumD r cs n (S / 2 ^ (8 - n)) := by
  unfold sumP sumD
  rw [show (8 : Nat) = n + (8 - n) by omega, range_split, List.map_append, List.sum_append]
  have e0 : (((List.range (8 - n)).map (n + ·)).map fun i => if decide (i < cs.length) && bitN S (n + (8 - n)) i then worthZ r (cs.getD i dN) else 0).sum = 0 := by
    refine sum_zero (fun i hi => ?_)
    obtain ⟨j, hj, rfl⟩ := List.mem_map.1 hi
    have hj := List.mem_range.1 hj
    rw [decide_eq_false (by omega), Bool.false_and, if_neg (by simp)]
  rw [e0, Int.add_zero]
  congr 1
  refine List.map_congr_left (fun i hi => ?_)
  have hi := List.mem_range.1 hi
  rw [decide_eq_true (by omega), Bool.true_and]
  have hb := bit_shift (S / 2 ^ (8 - n)) (S % 2 ^ (8 - n)) n i (by omega) hi (Nat.mod_lt _ (Nat.two_pow_pos _))
  rw [Nat.div_add_mod'] at hb
  rw [show n + (8 - n) = 8 by omega, hb]
theorem memP_D (cs : List CoinD) (n : Nat) (hn : n = min 8 cs.length) (S : Nat) : memP cs S = memD cs n (S / 2 ^ (8 - n)) := by
  unfold memP memD
  rw [show (8 : Nat) = n + (8 - n) by omega, range_split, List.filter_append]
  have e0 : ((List.range (8 - n)).map (n + ·)).filter (fun i => decide (i < cs.length) && bitN S (n + (8 - n)) i) = [] := by
    rw [List.filter_eq_nil_iff]
    intro i hi
    obtain ⟨j, hj, rfl⟩ := List.mem_map.1 hi
    have hj := List.mem_range.1 hj
    rw [decide_eq_false (by omega), Bool.false_and]
    simp
  rw [e0, List.append_nil]
  congr 1
  refine List.filter_congr (fun i hi => ?_)
  have hi := List.mem_range.1 hi
  rw [decide_eq_true (by omega), Bool.true_and]
  have hb := bit_shift (S / 2 ^ (8 - n)) (S % 2 ^ (8 - n)) n i (by omega) hi (Nat.mod_lt _ (Nat.two_pow_pos _))
  rw [Nat.div_add_mod'] at hb
  rw [show n + (8 - n) = 8 by omega, hb]
theorem best_same (r : Int) (cs : List CoinD) (n : Nat) (hn : n = min 8 cs.length) (lo hi : Int) (hlo : 0 < lo) : bestP r cs lo hi / 2 ^ (8 - n) = bestD r cs n lo hi ∧ (bestP r cs lo hi = 0 ↔ bestD r cs n lo hi = 0) := by
  have hP : Best (sumP r cs) lo hi 255 (bestP r cs lo hi) := near_best _ lo hi 255 255 (0, hi + 1) (Nat.le_refl _) (fun _ => ⟨rfl, fun m h1 h2 => by omega⟩) (fun h => absurd rfl h)
  have hD : Best (sumD r cs n) lo hi (2 ^ n - 1) (bestD r cs n lo hi) := fit_best _ lo hi (2 ^ n - 1) (2 ^ n - 1) (0, 0) (Nat.le_refl _) (fun _ => fun m h1 h2 => by omega) (fun h => absurd rfl h)
  generalize bestP r cs lo hi = bp at *
  generalize bestD r cs n lo hi = bd at *
  have hq : 2 ^ n * 2 ^ (8 - n) = 256 := by rw [← Nat.pow_add, show n + (8 - n) = 8 by omega]
  have hq0 : 0 < 2 ^ (8 - n) := Nat.two_pow_pos _
  have hn0 : 0 < 2 ^ n := Nat.two_pow_pos _
  have hz : sumD r cs n 0 = 0 := by
    unfold sumD
    refine sum_zero (fun i _ => ?_)
    unfold bitN
    rw [Nat.zero_div]
    rfl
  have up : ∀ S, S ≤ 255 → S / 2 ^ (8 - n) ≤ 2 ^ n - 1 := by
    intro S hS
    have : S / 2 ^ (8 - n) < 2 ^ n := by
      rw [Nat.div_lt_iff_lt_mul hq0, hq]
      exact Nat.lt_succ_of_le hS
    exact Nat.le_sub_one_of_lt this
  have pos : ∀ S, lo ≤ sumP r cs S → 1 ≤ S / 2 ^ (8 - n) := by
    intro S hS
    rw [sumP_D r cs n hn S] at hS
    by_cases e : S / 2 ^ (8 - n) = 0
    · rw [e, hz] at hS; omega
    · exact Nat.pos_of_ne_zero e
  have back : ∀ m, 1 ≤ m → m ≤ 2 ^ n - 1 → 1 ≤ m * 2 ^ (8 - n) + (2 ^ (8 - n) - 1) ∧ m * 2 ^ (8 - n) + (2 ^ (8 - n) - 1) ≤ 255 ∧ (m * 2 ^ (8 - n) + (2 ^ (8 - n) - 1)) / 2 ^ (8 - n) = m := by
    intro m h1 h2
    have h3 : (m + 1) * 2 ^ (8 - n) ≤ 2 ^ n * 2 ^ (8 - n) := Nat.mul_le_mul_right _ (by omega)
    rw [Nat.add_mul] at h3
    have h4 : 1 * 2 ^ (8 - n) ≤ m * 2 ^ (8 - n) := Nat.mul_le_mul_right _ h1
    refine ⟨by omega, by omega, ?_⟩
    rw [Nat.mul_comm, Nat.mul_add_div hq0, Nat.div_eq_of_lt (by omega)]
    omega
  by_cases ed : bd = 0
  · have ep : bp = 0 := by
      by_cases ep : bp = 0
      · exact ep
      · obtain ⟨a, b, c, _⟩ := hP.yes ep
        have h1 := pos bp b
        rw [sumP_D r cs n hn bp] at b c
        exact absurd ⟨b, c⟩ (hD.no ed _ h1 (up bp a))
    rw [ed, ep, Nat.zero_div]
    exact ⟨rfl, Iff.rfl⟩
  · obtain ⟨a, b, c, d⟩ := hD.yes ed
    obtain ⟨s1, s2, s3⟩ := back bd (by omega) a
    have hs : sumP r cs (bd * 2 ^ (8 - n) + (2 ^ (8 - n) - 1)) = sumD r cs n bd := by rw [sumP_D r cs n hn, s3]
    have ep : bp ≠ 0 := fun ep => hP.no ep _ s1 s2 (by rw [hs]; exact ⟨b, c⟩)
    obtain ⟨a', b', c', d'⟩ := hP.yes ep
    have h1 := pos bp b'
    have h2 := d' _ s1 s2 (by rw [hs]; exact b)
    rw [hs] at h2
    rw [sumP_D r cs n hn bp] at b' h2
    have h3 := d _ h1 (up bp a') b'
    have e : sumD r cs n bd = sumD r cs n (bp / 2 ^ (8 - n)) := by omega
    have h4 := h2.2 e
    have h5 := h3.2 e.symm
    have h6 : bd ≤ bp / 2 ^ (8 - n) := by
      have := Nat.div_le_div_right (c := 2 ^ (8 - n)) h4
      rw [s3] at this
      exact this
    exact ⟨by omega, ⟨fun h => absurd h ep, fun h => absurd h ed⟩⟩
end Go.Proofs.YtffgpepngcnjeaaGreat

namespace Go.Proofs.YtffgpepngcnjeaaGreat
open Go.RowKit
theorem insI_cons (m : CoinD) (acc : List CoinD) (y : CoinD) (h : aheadG true y m = false) : ∀ k, insI true (m :: acc) y (k + 1) = insI true acc y k + 1 := by
  intro k
  induction k with
  | zero => rw [insI_succ]; simp only [List.getD_cons_zero]; rw [h]; rfl
  | succ k ih =>
    rw [insI_succ true (m :: acc), insI_succ true acc, List.getD_cons_succ]
    split
    · exact ih
    · rfl
theorem insZ_cons (m : CoinD) (acc : List CoinD) (y : CoinD) (h : aheadG true y m = false) : insZ true (m :: acc) y = m :: insZ true acc y := by
  unfold insZ
  rw [List.length_cons, insI_cons m acc y h]
  rfl
theorem insI_front (acc : List CoinD) (m : CoinD) (h : ∀ y ∈ acc, aheadG true m y = true) : ∀ k, k ≤ acc.length → insI true acc m k = 0 := by
  intro k
  induction k with
  | zero => intro _; rfl
  | succ k ih =>
    intro hk
    have hm : acc.getD k dN ∈ acc := by
      rw [List.getD, List.getElem?_eq_getElem (by omega)]
      exact List.getElem_mem _
    rw [insI_succ, h _ hm, if_pos rfl]
    exact ih (by omega)
theorem insZ_front (acc : List CoinD) (m : CoinD) (h : ∀ y ∈ acc, aheadG true m y = true) : insZ true acc m = m :: acc := by
  unfold insZ
  rw [insI_front acc m h _ (Nat.le_refl _)]
  rfl
theorem insG_mem {cs : List CoinD} {x y : CoinD} (h : y ∈ insZ true cs x) : y = x ∨ y ∈ cs := by
  unfold insZ insAt at h
  simp only [List.mem_append, List.mem_cons] at h
  rcases h with h | h | h
  · exact Or.inr (List.mem_of_mem_take h)
  · exact Or.inl h
  · exact Or.inr (List.mem_of_mem_drop h)
theorem insF_mem : ∀ (l acc : List CoinD) {y : CoinD}, y ∈ l.foldl (insZ true) acc → y ∈ l ∨ y ∈ acc := by
  intro l
  induction l with
  | nil => intro acc y h; exact Or.inr h
  | cons x r ih =>
    intro acc y h
    rw [List.foldl_cons] at h
    rcases ih _ h with h | h
    · exact Or.inl (List.mem_cons_of_mem _ h)
    · rcases insG_mem h with h | h
      · exact Or.inl (h ▸ List.mem_cons_self)
      · exact Or.inr h
theorem insF_cons (m : CoinD) : ∀ (l acc : List CoinD), (∀ y ∈ l, aheadG true y m = false) → l.foldl (insZ true) (m :: acc) = m :: l.foldl (insZ true) acc := by
  intro l
  induction l with
  | nil => intro acc _; rfl
  | cons x r ih =>
    intro acc h
    rw [List.foldl_cons, List.foldl_cons, insZ_cons m acc x (h x List.mem_cons_self)]
    exact ih _ (fun y hy => h y (List.mem_cons_of_mem _ hy))
/-- the first of the greatest goes ahead of all -/
theorem ins_head (R1 R2 : List CoinD) (m : CoinD) (h1 : ∀ y ∈ R1, y.val < m.val) (h2 : ∀ y ∈ R2, y.val < m.val ∨ (y.val = m.val ∧ aheadZ y m = false)) : (R1 ++ m :: R2).foldl (insZ true) [] = m :: (R1 ++ R2).foldl (insZ true) [] := by
  rw [List.foldl_append, List.foldl_append, List.foldl_cons]
  rw [insZ_front _ m (fun y hy => ?_)]
  · refine insF_cons m R2 _ (fun y hy => ?_)
    unfold aheadG
    rcases h2 y hy with h | ⟨h, h'⟩
    · rw [if_pos ⟨rfl, by omega⟩]
      exact decide_eq_false (by omega)
    · rw [if_neg (by simp [h])]
      exact h'
  · rcases insF_mem R1 [] hy with h | h
    · have := h1 y h
      unfold aheadG
      rw [if_pos ⟨rfl, by omega⟩]
      exact decide_eq_true (by omega)
    · cases h
theorem orderZ_filter (r : Int) (l : List CoinD) : orderZ r l = (l.filter fun c => decide (1 ≤ worthZ r c)).foldl (insZ true) [] := by
  unfold orderZ
  have : ∀ (l acc : List CoinD), l.foldl (ordStep r) acc = (l.filter fun c => decide (1 ≤ worthZ r c)).foldl (insZ true) acc := by
    intro l
    induction l with
    | nil => intro acc; rfl
    | cons x t ih =>
      intro acc
      rw [List.foldl_cons, ih]
      unfold ordStep
      by_cases h : 1 ≤ worthZ r x
      · rw [if_pos h, List.filter_cons_of_pos (by simp [h]), List.foldl_cons]
      · rw [if_neg h, List.filter_cons_of_neg (by simp [h])]
  exact this l []
end Go.Proofs.YtffgpepngcnjeaaGreat

namespace Go.Proofs.YtffgpepngcnjeaaGreat
open Go.RowKit
/-- the program: how few of the first are enough, and their sum -/
def enZ (r want : Int) : List CoinD → Nat → Int → Nat × Int
  | [], _, _ => (0, 0)
  | c :: t, i, s => if want ≤ s + worthZ r c then (i + 1, s + worthZ r c) else enZ r want t (i + 1) (s + worthZ r c)
/-- the document: one after the other, till nothing is left to pay -/
def seD (r : Int) : List CoinD → List CoinD → Int → Option (List CoinD × Int)
  | [], _, _ => none
  | c :: t, out, left => if 0 ≤ left + worthZ r c then some (out ++ [c], left + worthZ r c) else seD r t (out ++ [c]) (left + worthZ r c)
theorem enZ_ge (r want : Int) : ∀ (t : List CoinD) (i : Nat) (s : Int), (enZ r want t i s).1 = 0 ∨ (i < (enZ r want t i s).1 ∧ (enZ r want t i s).1 ≤ i + t.length) := by
  intro t
  induction t with
  | nil => intro i s; exact Or.inl rfl
  | cons c t ih =>
    intro i s
    rw [enZ]
    split
    · right
      simp only [List.length_cons]
      omega
    · rcases ih (i + 1) (s + worthZ r c) with h | h
      · exact Or.inl h
      · right
        simp only [List.length_cons]
        omega
theorem en_se (r want : Int) : ∀ (t pre : List CoinD) (s : Int), pre.length ≤ 10 → seD r (t.take (10 - pre.length)) pre (s - want) =
    if (enZ r want t pre.length s).1 = 0 ∨ 10 < (enZ r want t pre.length s).1 then none else some ((pre ++ t).take (enZ r want t pre.length s).1, (enZ r want t pre.length s).2 - want) := by
  intro t
  induction t with
  | nil =>
    intro pre s _
    rw [List.take_nil, seD, enZ, if_pos (Or.inl rfl)]
  | cons c t ih =>
    intro pre s hp
    by_cases h10 : pre.length = 10
    · rw [h10, Nat.sub_self, List.take_zero, seD]
      rcases enZ_ge r want (c :: t) 10 s with h | h
      · rw [if_pos (Or.inl h)]
      · rw [if_pos (Or.inr h.1)]
    · rw [show 10 - pre.length = (10 - (pre.length + 1)) + 1 by omega, List.take_succ_cons, seD, enZ]
      by_cases hw : want ≤ s + worthZ r c
      · rw [if_pos (by omega), if_pos hw, if_neg (by simp only; omega)]
        simp only
        congr 2
        · rw [List.take_append, List.take_of_length_le (by omega), show pre.length + 1 - pre.length = 1 by omega]
          rfl
        · omega
      · rw [if_neg (by omega), if_neg hw]
        have := ih (pre ++ [c]) (s + worthZ r c) (by simp; omega)
        rw [List.length_append, List.length_singleton, List.append_assoc, List.singleton_append] at this
        rw [← this]
        congr 1
        omega
def slackZ (r : Int) : Int := 2 * r + 9
def chooseZ (r : Int) (cs : List CoinD) (want : Int) : Option (List CoinD × Int) :=
  if bestP r cs want (want + slackZ r) ≠ 0 then some (memP cs (bestP r cs want (want + slackZ r)), 0)
  else if (enZ r want cs 0 0).1 = 0 ∨ 10 < (enZ r want cs 0 0).1 then none
  else some (cs.take (enZ r want cs 0 0).1, if (enZ r want cs 0 0).2 - want ≤ slackZ r then 0 else (enZ r want cs 0 0).2 - want - 2 * r)
def chosenD (r : Int) (cs : List CoinD) (want : Int) : List CoinD × Int :=
  if 0 < bestD r cs (min 8 cs.length) want (want + 2 * r + 10 - 1) then (memD cs (min 8 cs.length) (bestD r cs (min 8 cs.length) want (want + 2 * r + 10 - 1)), 0)
  else match seD r (cs.take 10) [] (-want) with
    | none => ([], 0)
    | some (out, left) => (out, if 10 ≤ left - 2 * r then left - 2 * r else 0)
theorem sum_none {n : Nat} {f : Nat → Int} {b : Nat → Bool} (h : (List.range n).filter b = []) : ((List.range n).map fun i => if b i then f i else 0).sum = 0 := by
  refine sum_zero (fun i hi => ?_)
  have := List.filter_eq_nil_iff.1 h i hi
  rw [if_neg (by simpa using this)]
theorem choose_same (r : Int) (cs : List CoinD) (want : Int) (hw : 0 < want) : (chooseZ r cs want = none ∧ chosenD r cs want = ([], 0)) ∨ ∃ l c, chooseZ r cs want = some (l, c) ∧ chosenD r cs want = (l, c) ∧ l ≠ [] ∧ 0 ≤ c ∧ (0 < c → 10 ≤ c) := by
  have hs : want + 2 * r + 10 - 1 = want + slackZ r := by unfold slackZ; omega
  obtain ⟨b1, b2⟩ := best_same r cs (min 8 cs.length) rfl want (want + slackZ r) hw
  unfold chooseZ chosenD
  rw [hs]
  have hD : Best (sumD r cs (min 8 cs.length)) want (want + slackZ r) (2 ^ (min 8 cs.length) - 1) (bestD r cs (min 8 cs.length) want (want + slackZ r)) := fit_best _ _ _ (2 ^ (min 8 cs.length) - 1) (2 ^ (min 8 cs.length) - 1) (0, 0) (Nat.le_refl _) (fun _ => fun m h1 h2 => by omega) (fun h => absurd rfl h)
  by_cases e : bestP r cs want (want + slackZ r) = 0
  · have e2 := b2.1 e
    rw [e, e2, if_neg (fun h => h rfl), if_neg (Nat.lt_irrefl 0)]
    have h := en_se r want cs [] 0 (by simp)
    simp only [List.length_nil, Nat.sub_zero, List.nil_append] at h
    rw [show (0 : Int) - want = -want by omega] at h
    rw [h]
    by_cases hc : (enZ r want cs 0 0).1 = 0 ∨ 10 < (enZ r want cs 0 0).1
    · rw [if_pos hc, if_pos hc]
      exact Or.inl ⟨rfl, rfl⟩
    · rw [if_neg hc, if_neg hc]
      refine Or.inr ⟨_, _, rfl, ?_, ?_, ?_, ?_⟩
      · simp only
        congr 1
        unfold slackZ
        split <;> split <;> omega
      · intro hn
        rcases enZ_ge r want cs 0 0 with h | h
        · exact hc (Or.inl h)
        · have := congrArg List.length hn
          rw [List.length_take, List.length_nil] at this
          omega
      · unfold slackZ
        split <;> omega
      · unfold slackZ
        split <;> omega
  · have e2 : bestD r cs (min 8 cs.length) want (want + slackZ r) ≠ 0 := fun h => e (b2.2 h)
    rw [if_pos e, if_pos (Nat.pos_of_ne_zero e2)]
    refine Or.inr ⟨_, _, rfl, ?_, ?_, Int.le_refl _, fun h => absurd h (by simp)⟩
    · rw [memP_D cs (min 8 cs.length) rfl, b1]
    · rw [memP_D cs (min 8 cs.length) rfl, b1]
      intro hn
      have h0 : (List.range (min 8 cs.length)).filter (fun i => bitN (bestD r cs (min 8 cs.length) want (want + slackZ r)) (min 8 cs.length) i) = [] := by
        unfold memD at hn
        exact List.map_eq_nil_iff.1 hn
      have h1 := (hD.yes e2).2.1
      unfold sumD at h1
      rw [sum_none h0] at h1
      omega
end Go.Proofs.YtffgpepngcnjeaaGreat

namespace Go.Proofs.YtffgpepngcnjeaaGreat
open Go.RowKit
/-- a live payment -/
structure PayD where
  num : Int
  ac : Option Addr
  nc : Nat
  cc : Nat
  ap : Option Addr
  m : Nat
  d : Nat
  tag : Int
  sg : Bool
  cs : List CoinD
  ys : List (Int × Int)
def dP : PayD := ⟨0, none, 0, 0, none, 0, 0, 0, false, [], []⟩
def PayD.v (x : PayD) : List Value := [.int .i64 x.num, .slice x.ac x.nc x.cc, .slice x.ap x.m x.d, .int .i64 x.tag, .bool x.sg]
theorem pay5 (x : PayD) : x.v.length = 5 := rfl
theorem pay_one (x : PayD) : ∀ u ∈ x.v, u.oneCell' = true := by
  intro u hu
  simp only [PayD.v, List.mem_cons, List.not_mem_nil, or_false] at hu
  rcases hu with rfl | rfl | rfl | rfl | rfl <;> rfl
structure PayCells (w : World) (b off : Nat) (x : PayD) : Prop where
  c0 : w.cell? ⟨b, off, none⟩ = some (.int .i64 x.num)
  c1 : w.cell? ⟨b, off + 1, none⟩ = some (.slice x.ac x.nc x.cc)
  c2 : w.cell? ⟨b, off + 2, none⟩ = some (.slice x.ap x.m x.d)
  c3 : w.cell? ⟨b, off + 3, none⟩ = some (.int .i64 x.tag)
  c4 : w.cell? ⟨b, off + 4, none⟩ = some (.bool x.sg)
theorem payCells {w : World} {b off : Nat} {xs : List PayD} (h : VRow w b off (xs.flatMap PayD.v)) (j : Nat) (hj : j < xs.length) : PayCells w b (off + j * 5) (xs.getD j dP) :=
  ⟨rcell pay5 dP h j hj 0 (by omega), rcell pay5 dP h j hj 1 (by omega), rcell pay5 dP h j hj 2 (by omega), rcell pay5 dP h j hj 3 (by omega), rcell pay5 dP h j hj 4 (by omega)⟩
/-- its coins and outputs, in blocks of N -/
structure PayOk (N : Nat → Prop) (w : World) (x : PayD) : Prop where
  co : RecAt CoinD.l w x.ac x.cs
  cl : x.cs.length = x.nc
  ou : OutsAt w x.ap x.ys
  ol : x.ys.length = x.m
  nc : x.cs ≠ [] → ∀ a, x.ac = some a → N a.block
  np : x.ys ≠ [] → ∀ a, x.ap = some a → N a.block
  b1 : x.nc ≤ 10
  b2 : x.m ≤ 8
theorem rec_fr {α : Type} {f : α → List Value} {E : Nat → Prop} {w w' : World} (hf : Fr E w w') {ao : Option Addr} {l : List α} (h : RecAt f w ao l) (hn : l ≠ [] → ∀ a, ao = some a → ¬ E a.block) : RecAt f w' ao l := by
  by_cases he : l = []
  · exact Or.inl he
  · rcases h with h | ⟨b, off, rfl, hr⟩
    · exact Or.inl h
    · exact Or.inr ⟨b, off, rfl, hf.vrow hr (hn he _ rfl)⟩
theorem outsAt_fr {E : Nat → Prop} {w w' : World} (hf : Fr E w w') {ao : Option Addr} {l : List (Int × Int)} (h : OutsAt w ao l) (hn : l ≠ [] → ∀ a, ao = some a → ¬ E a.block) : OutsAt w' ao l := by
  by_cases he : l = []
  · exact Or.inl he
  · rcases h with h | ⟨b, off, rfl, hr⟩
    · exact Or.inl h
    · exact Or.inr ⟨b, off, rfl, fun j hj => ⟨hf.cell (hr j hj).1 (hn he _ rfl), hf.cell (hr j hj).2 (hn he _ rfl)⟩⟩
theorem PayOk.fr {E N : Nat → Prop} {w w' : World} (hf : Fr E w w') {x : PayD} (h : PayOk N w x) (hn : ∀ k, N k → ¬ E k) : PayOk N w' x :=
  ⟨rec_fr hf h.co (fun e a ha => hn _ (h.nc e a ha)), h.cl, outsAt_fr hf h.ou (fun e a ha => hn _ (h.np e a ha)), h.ol, h.nc, h.np, h.b1, h.b2⟩
theorem PayOk.grown {N : Nat → Prop} {w w' : World} {x : PayD} (h : PayOk N w x) (hb : Below w.heap.size w w') : PayOk N w' x := h.fr (Fr.of_below hb (fun _ => False)) (fun _ _ h => h)
/-- a key -/
def kV (k : Int × Int) : List Value := [.int .i64 k.1, .int .i64 k.2]
theorem kv2 (k : Int × Int) : (kV k).length = 2 := rfl
theorem kv_one (k : Int × Int) : ∀ u ∈ kV k, u.oneCell' = true := by
  intro u hu
  simp only [kV, List.mem_cons, List.not_mem_nil, or_false] at hu
  rcases hu with rfl | rfl <;> rfl
def KvCells (w : World) (b off : Nat) (k : Int × Int) : Prop := w.cell? ⟨b, off, none⟩ = some (.int .i64 k.1) ∧ w.cell? ⟨b, off + 1, none⟩ = some (.int .i64 k.2)
theorem kvCells {w : World} {b off : Nat} {xs : List (Int × Int)} (h : VRow w b off (xs.flatMap kV)) (j : Nat) (hj : j < xs.length) : KvCells w b (off + j * 2) (xs.getD j (0, 0)) :=
  ⟨rcell kv2 (0, 0) h j hj 0 (by omega), rcell kv2 (0, 0) h j hj 1 (by omega)⟩
def heldB (ps : List PayD) (id pos : Int) : Bool := ps.any fun p => p.cs.any fun x => x.id == id && x.pos == pos
def usedB (ks : List (Int × Int)) (k : Int × Int) : Bool := ks.any fun x => x.1 == k.1 && x.2 == k.2
def freeB (ps : List PayD) (ks : List (Int × Int)) (x : CoinD) : Bool := !heldB ps x.id x.pos && !usedB ks (x.br, x.ix)
end Go.Proofs.YtffgpepngcnjeaaGreat

namespace Go.Proofs.YtffgpepngcnjeaaGreat
open Go.RowKit
set_option maxRecDepth 100000 in
set_option maxHeartbeats 2000000 in
theorem holds_any (N : Nat → Prop) (b o : Nat) (ao : Option Addr) (n c : Nat) (ps : List PayD) (id pos : Int) (w : World) (hp : w.cell? ⟨b, o, none⟩ = some (.slice ao n c)) (hx : RecAt PayD.v w ao ps) (hn : ps.length = n) (hm : n ≤ 9007199254740992) (hok : ∀ p ∈ ps, PayOk N w p) :
    Calls Tryz.prog 154 #[.pointer (some ⟨b, o, none⟩), .int .i64 id, .int .i64 pos] w fun e w' => e = .returned (.bool (heldB ps id pos)) ∧ Below w.heap.size w w' := by
  have HN : Hid (ps.length = n) := hn
  have HX : Hid (RecAt PayD.v w ao ps) := hx
  have HO : Hid (∀ p ∈ ps, PayOk N w p) := hok
  clear hn hx hok
  go_enter Tryz.func154, Tryz.ntmps154
  go_wp2
  go_loopw [16] (fun i wr => ∃ k : Nat, k ≤ n ∧ i = .int .i64 k ∧ Hid ((ps.take k).any (fun p => p.cs.any fun x => x.id == id && x.pos == pos) = false) ∧ Below w.heap.size w wr) (fun i _ => n - (intOf i).toNat)
  case atStart => exact ⟨0, Nat.zero_le _, rfl, by show List.any _ _ = false; simp, Below.refl _ _⟩
  case round =>
    obtain ⟨k, hk, rfl, hany, hbl⟩ := hrel
    have hsz := hbl.size
    by_cases hlt : k < n
    · rcases HX.out with hnil | ⟨g, off, rfl, hrow⟩
      · have := HN.out; rw [hnil] at this; simp at this; omega
      obtain ⟨c0, c1, c2, c3, c4⟩ := payCells (hrow.grown hbl) k (by rw [HN.out]; exact hlt)
      have HS : Hid _ := any_no (fun p : PayD => p.cs.any fun x => x.id == id && x.pos == pos) ps dP k (by rw [HN.out]; exact hlt) hany.out
      have HZ : Hid _ := any_yes (fun p : PayD => p.cs.any fun x => x.id == id && x.pos == pos) ps dP k (by rw [HN.out]; exact hlt)
      have hk0 := HO.out (ps.getD k dP) (getD_mem ps dP k (by rw [HN.out]; exact hlt))
      have HCO : Hid _ := hk0.co
      have HCL : Hid _ := hk0.cl
      have hb1 := hk0.b1
      clear hrow hk0
      generalize ps.getD k dP = y at c0 c1 c2 c3 c4 HS HZ HCO HCL hb1
      obtain ⟨ynum, yac, ync, ycc, yap, ym, yd, ytag, ysg, ycs, yys⟩ := y
      simp only at c0 c1 c2 c3 c4 hb1
      have HA : Hid (RecAt CoinD.l w yac ycs) := HCO.out
      have HL : Hid (ycs.length = ync) := HCL.out
      clear HCO HCL
      obtain ⟨wo, rfl⟩ : ∃ wo : World, wo = wr := ⟨_, rfl⟩
      go_wp2
      go_loopw [23] (fun i wr => ∃ j : Nat, j ≤ ync ∧ i = .int .i64 j ∧ Hid ((ycs.take j).any (fun x => x.id == id && x.pos == pos) = false) ∧ Below w.heap.size w wr ∧ Below wo.heap.size wo wr) (fun i _ => ync - (intOf i).toNat)
      case atStart => exact ⟨0, Nat.zero_le _, rfl, by show List.any _ _ = false; simp, hbl.alloc hsz _, (Below.refl _ _).alloc (Nat.le_refl _) _⟩
      case round =>
        obtain ⟨j, hj, rfl, hany2, hbl2, hbo⟩ := hrel
        have hsz2 := hbl2.size
        have hszo := hbo.size
        by_cases hlt2 : j < ync
        · rcases HA.out with hnil | ⟨g2, off2, rfl, hrow⟩
          · have := HL.out; rw [hnil] at this; simp at this; omega
          obtain ⟨d0, d1, d2, d3, d4, d5⟩ := coinCells (hrow.grown hbl2) j (by rw [HL.out]; exact hlt2)
          have HS2 : Hid _ := any_no (fun x : CoinD => x.id == id && x.pos == pos) ycs dN j (by rw [HL.out]; exact hlt2) hany2.out
          have HZ2 : Hid _ := any_yes (fun x : CoinD => x.id == id && x.pos == pos) ycs dN j (by rw [HL.out]; exact hlt2)
          clear hrow
          generalize ycs.getD j dN = z at d0 d1 d2 d3 d4 d5 HS2 HZ2
          obtain ⟨z0, z1, z2, z3, z4, z5⟩ := z
          simp only at d0 d1 d2 d3 d4 d5
          cases h1 : (z0 == id)
          · go_wp2
            go_roundw
            case rel => exact ⟨j + 1, by omega, by go_num, HS2.out (by simp [h1]), hbl2.alloc hsz2 _, hbo.alloc hszo _⟩
            case measure => simp [intOf]; omega
          · cases h2 : (z1 == pos)
            · go_wp2
              go_roundw
              case rel => exact ⟨j + 1, by omega, by go_num, HS2.out (by simp [h2]), hbl2.alloc hsz2 _, hbo.alloc hszo _⟩
              case measure => simp [intOf]; omega
            · go_wp2
              go_ret
              exact ⟨ret_bool (HZ.out (HZ2.out (by show (z0 == id && z1 == pos) = true; rw [h1, h2]; rfl))).symm, hbl2.alloc hsz2 _⟩
        · have HE : Hid _ := any_done (fun x : CoinD => x.id == id && x.pos == pos) ycs ync HL.out j (by omega) hany2.out
          go_wp2
          go_roundw
          case rel => exact ⟨k + 1, by omega, by go_num, HS.out HE.out.symm, hbl2⟩
          case measure => simp [intOf]; omega
    · go_wp2
      go_ret
      exact ⟨ret_bool (any_done _ ps n HN.out k (by omega) hany.out), hbl⟩
set_option maxRecDepth 100000 in
set_option maxHeartbeats 1000000 in
theorem hasSealed_any (b o : Nat) (ao : Option Addr) (n c : Nat) (ks : List (Int × Int)) (kb ki : Int) (w : World) (hp : w.cell? ⟨b, o + 1, none⟩ = some (.slice ao n c)) (hx : RecAt kV w ao ks) (hn : ks.length = n) (hm : n ≤ 9007199254740992) :
    Calls Tryz.prog 155 #[.pointer (some ⟨b, o, none⟩), .agg #[.int .i64 kb, .int .i64 ki]] w fun e w' => e = .returned (.bool (usedB ks (kb, ki))) ∧ Below w.heap.size w w' := by
  have HN : Hid (ks.length = n) := hn
  have HX : Hid (RecAt kV w ao ks) := hx
  clear hn hx
  have hblt := cell_lt hp
  simp only at hblt
  go_enter Tryz.func155, Tryz.ntmps155
  go_wp2
  go_loopw [12] (fun i wr => ∃ k : Nat, k ≤ n ∧ i = .int .i64 k ∧ Hid ((ks.take k).any (fun x => x.1 == kb && x.2 == ki) = false) ∧ wr.cell? ⟨w.heap.size, 0, none⟩ = some (.int .i64 kb) ∧ wr.cell? ⟨w.heap.size, 1, none⟩ = some (.int .i64 ki) ∧ w.heap.size < wr.heap.size ∧ Below w.heap.size w wr) (fun i _ => n - (intOf i).toNat)
  case atStart => exact ⟨0, Nat.zero_le _, rfl, by show List.any _ _ = false; simp, by go_simp, by go_simp, by simp, (Below.refl _ _).alloc (Nat.le_refl _) _⟩
  case round =>
    obtain ⟨k, hk, rfl, hany, e0, e1, hlt0, hbl⟩ := hrel
    have hsz := hbl.size
    by_cases hlt : k < n
    · rcases HX.out with hnil | ⟨g, off, rfl, hrow⟩
      · have := HN.out; rw [hnil] at this; simp at this; omega
      obtain ⟨c0, c1⟩ := kvCells (hrow.grown hbl) k (by rw [HN.out]; exact hlt)
      have HS : Hid _ := any_no (fun x : Int × Int => x.1 == kb && x.2 == ki) ks (0, 0) k (by rw [HN.out]; exact hlt) hany.out
      have HZ : Hid _ := any_yes (fun x : Int × Int => x.1 == kb && x.2 == ki) ks (0, 0) k (by rw [HN.out]; exact hlt)
      clear hrow
      generalize ks.getD k (0, 0) = y at c0 c1 HS HZ
      obtain ⟨y0, y1⟩ := y
      simp only at c0 c1
      cases h1 : (y0 == kb)
      · go_wp2
        go_roundw
        case rel => exact ⟨k + 1, by omega, by go_num, HS.out (by simp [h1]), by go_simp, by go_simp, by simp; omega, hbl.alloc hsz _⟩
        case measure => simp [intOf]; omega
      · cases h2 : (y1 == ki)
        · go_wp2
          go_roundw
          case rel => exact ⟨k + 1, by omega, by go_num, HS.out (by simp [h2]), by go_simp, by go_simp, by simp; omega, hbl.alloc hsz _⟩
          case measure => simp [intOf]; omega
        · go_wp2
          go_ret
          exact ⟨ret_bool (HZ.out (by show (y0 == kb && y1 == ki) = true; rw [h1, h2]; rfl)).symm, hbl.alloc hsz _⟩
    · go_wp2
      go_ret
      exact ⟨ret_bool (any_done _ ks n HN.out k (by omega) hany.out), hbl⟩
set_option maxRecDepth 100000 in
set_option maxHeartbeats 400000 in
theorem keyOf_any (x : CoinD) (w : World) : Calls Tryz.prog 153 #[coinV x] w fun e w' => e = .returned (.agg #[.int .i64 x.br, .int .i64 x.ix]) ∧ Below w.heap.size w w' := by
  obtain ⟨x0, x1, x2, x3, x4, x5⟩ := x
  go_enter Tryz.func153, Tryz.ntmps153
  go_wp2
  refine bodyPost_ret (v := .agg #[.int .i64 x4, .int .i64 x5]) ?_ rfl ⟨rfl, ?_⟩
  · simp [results, Tryz.results153, go_sem]
  · have hbn : ∀ p q : Obj, Below w.heap.size w ((w.alloc p).alloc q) := fun p q => ((Below.refl _ _).alloc (Nat.le_refl _) _).alloc (by simp) _
    exact hbn _ _
/-- the payments at a place: the live ones, the keys that have sealed -/
structure PayM (N : Nat → Prop) (w : World) (b o : Nat) (ps : List PayD) (ks : List (Int × Int)) : Prop where
  h0 : ∃ ao c, w.cell? ⟨b, o, none⟩ = some (.slice ao ps.length c) ∧ RecAt PayD.v w ao ps
  h1 : ∃ ao c, w.cell? ⟨b, o + 1, none⟩ = some (.slice ao ks.length c) ∧ RecAt kV w ao ks
  ok : ∀ p ∈ ps, PayOk N w p
  b0 : ps.length ≤ 9007199254740992
  b1 : ks.length ≤ 9007199254740992
theorem PayM.grown {N : Nat → Prop} {w w' : World} {b o : Nat} {ps : List PayD} {ks : List (Int × Int)} (h : PayM N w b o ps ks) (hb : Below w.heap.size w w') : PayM N w' b o ps ks := by
  obtain ⟨ao, c, h0, r0⟩ := h.h0
  obtain ⟨ao1, c1, h1, r1⟩ := h.h1
  exact ⟨⟨ao, c, (hb.cell (p := ⟨b, o, none⟩) (cell_lt h0)).trans h0, r0.grown hb⟩, ⟨ao1, c1, (hb.cell (p := ⟨b, o + 1, none⟩) (cell_lt h1)).trans h1, r1.grown hb⟩, fun p hp => (h.ok p hp).grown hb, h.b0, h.b1⟩
theorem PayM.nil (N : Nat → Prop) {w : World} {b o : Nat} (h0 : w.cell? ⟨b, o, none⟩ = some (.slice none 0 0)) (h1 : w.cell? ⟨b, o + 1, none⟩ = some (.slice none 0 0)) : PayM N w b o [] [] :=
  ⟨⟨none, 0, h0, Or.inl rfl⟩, ⟨none, 0, h1, Or.inl rfl⟩, fun p hp => absurd hp (by simp), by simp, by simp⟩
theorem PayM.lt {N : Nat → Prop} {w : World} {b o : Nat} {ps : List PayD} {ks : List (Int × Int)} (h : PayM N w b o ps ks) : b < w.heap.size := by
  obtain ⟨ao, c, h0, _⟩ := h.h0
  exact cell_lt h0
set_option maxRecDepth 100000 in
set_option maxHeartbeats 1000000 in
theorem isFree_any (N : Nat → Prop) (b o : Nat) (ps : List PayD) (ks : List (Int × Int)) (x : CoinD) (w : World) (hm : PayM N w b o ps ks) :
    Calls Tryz.prog 112 #[.pointer (some ⟨b, o, none⟩), coinV x] w fun e w' => e = .returned (.bool (freeB ps ks x)) ∧ Below w.heap.size w w' := by
  have HM : Hid (PayM N w b o ps ks) := hm
  clear hm
  obtain ⟨x0, x1, x2, x3, x4, x5⟩ := x
  go_enter Tryz.func112, Tryz.ntmps112
  go_wp2_with fail
  refine (keyOf_any ⟨x0, x1, x2, x3, x4, x5⟩ _).mono ?_
  rintro e w1 ⟨rfl, hb1⟩
  simp only
  have hb0 : Below w.heap.size w (w.alloc (.cells #[.int .i64 x0, .int .i64 x1, .int .i64 x2, .int .i64 x3, .int .i64 x4, .int .i64 x5] 64)) := (Below.refl _ _).alloc (Nat.le_refl _) _
  have hz0 : (w.alloc (.cells #[.int .i64 x0, .int .i64 x1, .int .i64 x2, .int .i64 x3, .int .i64 x4, .int .i64 x5] 64)).heap.size = w.heap.size + 1 := by simp
  have hbW := hb0.trans (hb1.mono (by omega))
  obtain ⟨d0, d1, d2, d3, d4, d5⟩ := xrow ((vrow_new w [.int .i64 x0, .int .i64 x1, .int .i64 x2, .int .i64 x3, .int .i64 x4, .int .i64 x5] 64).grown hb1)
  have hs1 := hb1.size
  rw [hz0] at hs1
  have HM1 : Hid (PayM N (w1.alloc (.cells #[.int .i64 x4, .int .i64 x5] 61)) b o ps ks) := (HM.out.grown hbW).grown ((Below.refl _ _).alloc (Nat.le_refl _) _)
  have hbW2 := hbW.alloc hbW.size (.cells #[.int .i64 x4, .int .i64 x5] 61)
  clear hb0 hz0 hb1 hbW
  go_upto_region 2 with fail
  have bA : Below w1.heap.size w1 (w1.alloc (.cells #[.int .i64 x4, .int .i64 x5] 61)) := (Below.refl _ _).alloc (Nat.le_refl _) _
  have e0 := (bA.cell (p := ⟨w.heap.size, 0, none⟩) (cell_lt d0)).trans d0
  have e1 := (bA.cell (p := ⟨w.heap.size, 1, none⟩) (cell_lt d1)).trans d1
  clear bA
  have k0 : (w1.alloc (.cells #[.int .i64 x4, .int .i64 x5] 61)).cell? ⟨w1.heap.size, 0, none⟩ = some (.int .i64 x4) := by go_simp
  have k1 : (w1.alloc (.cells #[.int .i64 x4, .int .i64 x5] 61)).cell? ⟨w1.heap.size, 1, none⟩ = some (.int .i64 x5) := by go_simp
  clear d0 d1 d2 d3 d4 d5
  generalize w1.alloc (.cells #[.int .i64 x4, .int .i64 x5] 61) = w2 at *
  generalize w1.heap.size = K at *
  obtain ⟨ao, c, p0, r0⟩ := HM1.out.h0
  obtain ⟨ao1, c1, p1, r1⟩ := HM1.out.h1
  have HR0 : Hid (RecAt PayD.v w2 ao ps) := r0
  have HR1 : Hid (RecAt kV w2 ao1 ks) := r1
  have HP0 : Hid (w2.cell? ⟨b, o, none⟩ = some (.slice ao ps.length c)) := p0
  have HP1 : Hid (w2.cell? ⟨b, o + 1, none⟩ = some (.slice ao1 ks.length c1)) := p1
  clear r0 r1 p0 p1
  have hKl := cell_lt k0
  go_wp2_with fail
  refine (holds_any N b o ao ps.length c ps x0 x1 _ HP0.out HR0.out rfl HM1.out.b0 HM1.out.ok).mono ?_
  rintro e w3 ⟨rfl, hb3⟩
  have hbW3 := hbW2.trans (hb3.mono hbW2.size)
  have q0 := (hb3.cell (p := ⟨K, 0, none⟩) hKl).trans k0
  have q1 := (hb3.cell (p := ⟨K, 1, none⟩) hKl).trans k1
  have HQ1 : Hid (w3.cell? ⟨b, o + 1, none⟩ = some (.slice ao1 ks.length c1)) := (hb3.cell (p := ⟨b, o + 1, none⟩) (cell_lt HP1.out)).trans HP1.out
  have HRR : Hid (RecAt kV w3 ao1 ks) := HR1.out.grown hb3
  clear e0 e1 k0 k1 hb3
  have HF : Hid (freeB ps ks ⟨x0, x1, x2, x3, x4, x5⟩ = (!heldB ps x0 x1 && !usedB ks (x4, x5))) := rfl
  generalize hh : heldB ps x0 x1 = H at *
  cases H
  · go_wp2_with fail
    refine (hasSealed_any b o ao1 ks.length c1 ks x4 x5 _ HQ1.out HRR.out rfl HM1.out.b1).mono ?_
    rintro e w4 ⟨rfl, hb4⟩
    have hbW4 := hbW3.trans (hb4.mono hbW3.size)
    generalize usedB ks (x4, x5) = U at *
    cases U
    · go_wp2
      go_ret
      exact ⟨ret_bool HF.out.symm, hbW4⟩
    · go_wp2
      go_ret
      exact ⟨ret_bool HF.out.symm, hbW4⟩
  · go_wp2
    go_ret
    exact ⟨ret_bool (by rw [HF.out]; rfl), hbW3⟩
theorem keep6 {w w' : World} {T : Nat} {a0 a1 a2 a3 a4 a5 : Value} (hb : Below w.heap.size w w') (h : w.cell? ⟨T, 0, none⟩ = some a0 ∧ w.cell? ⟨T, 1, none⟩ = some a1 ∧ w.cell? ⟨T, 2, none⟩ = some a2 ∧ w.cell? ⟨T, 3, none⟩ = some a3 ∧ w.cell? ⟨T, 4, none⟩ = some a4 ∧ w.cell? ⟨T, 5, none⟩ = some a5) :
    w'.cell? ⟨T, 0, none⟩ = some a0 ∧ w'.cell? ⟨T, 1, none⟩ = some a1 ∧ w'.cell? ⟨T, 2, none⟩ = some a2 ∧ w'.cell? ⟨T, 3, none⟩ = some a3 ∧ w'.cell? ⟨T, 4, none⟩ = some a4 ∧ w'.cell? ⟨T, 5, none⟩ = some a5 := by
  have hl := cell_lt h.1
  obtain ⟨h0, h1, h2, h3, h4, h5⟩ := h
  exact ⟨(hb.cell (p := ⟨T, 0, none⟩) hl).trans h0, (hb.cell (p := ⟨T, 1, none⟩) hl).trans h1, (hb.cell (p := ⟨T, 2, none⟩) hl).trans h2, (hb.cell (p := ⟨T, 3, none⟩) hl).trans h3, (hb.cell (p := ⟨T, 4, none⟩) hl).trans h4, (hb.cell (p := ⟨T, 5, none⟩) hl).trans h5⟩
theorem filter_snoc {α : Type} (p : α → Bool) (l : List α) (d : α) (k : Nat) (h : k < l.length) : (l.take (k + 1)).filter p = (l.take k).filter p ++ if p (l.getD k d) = true then [l.getD k d] else [] := by
  rw [List.take_succ_eq_append_getElem h, List.filter_append]
  simp only [List.getD, List.getElem?_eq_getElem h, Option.getD_some]
  congr 1
  cases hp : p l[k] <;> simp [hp]
set_option maxRecDepth 100000 in
set_option maxHeartbeats 2000000 in
theorem free_any (N : Nat → Prop) (P : Nat) (ps : List PayD) (ks : List (Int × Int)) (ao : Option Addr) (n c : Nat) (cs : List CoinD) (w : World) (hp : PayM N w P 4 ps ks) (hx : RecAt CoinD.l w ao cs) (hn : cs.length = n) (hm : n ≤ 100000) :
    Calls Tryz.prog 68 #[.pointer (some ⟨P, 0, none⟩), .slice ao n c] w fun e w' => ∃ v, e = .returned v ∧ OwnRec CoinD.l 64 6 w' w.heap.size v (cs.filter (freeB ps ks)) ∧ Below w.heap.size w w' := by
  have HA : Hid (RecAt CoinD.l w ao cs) := hx
  have HM : Hid (cs.length = n) := hn
  have HP : Hid (PayM N w P 4 ps ks) := hp
  have hPl := hp.lt
  clear hx hn hp
  generalize hB : w.heap.size = B at hPl
  have HB : Hid (w.heap.size = B) := hB
  clear hB
  go_enter Tryz.func68, Tryz.ntmps68
  go_wp2
  go_loopw [5, 10] (fun v i wr => ∃ k : Nat, k ≤ n ∧ i = .int .i64 k ∧ OwnRec CoinD.l 64 6 wr B v ((cs.take k).filter (freeB ps ks)) ∧ Below B w wr) (fun _ i _ => n - (intOf i).toNat)
  case atStart => exact ⟨0, Nat.zero_le _, rfl, OwnRec.nil _ _ _ _ _, Below.refl _ _⟩
  case round =>
    obtain ⟨k, hk, rfl, hown, hbl⟩ := hrel
    have hsz := hbl.size
    rw [HB.out] at hsz
    by_cases hlt : k < n
    · rcases HA.out with hnil | ⟨gg, off, rfl, hrow⟩
      · have := HM.out; rw [hnil] at this; simp at this; omega
      obtain ⟨c0, c1, c2, c3, c4, c5⟩ := coinCells (hrow.grown (by rw [HB.out]; exact hbl)) k (by rw [HM.out]; exact hlt)
      have HS : Hid _ := filter_snoc (freeB ps ks) cs dN k (by rw [HM.out]; exact hlt)
      have HLN : Hid (((cs.take k).filter (freeB ps ks)).length ≤ 100000) := by show _ ≤ _; have := List.length_filter_le (freeB ps ks) (cs.take k); rw [List.length_take] at this; omega
      clear hrow
      generalize cs.getD k dN = y at c0 c1 c2 c3 c4 c5 HS
      generalize (cs.take k).filter (freeB ps ks) = acc at *
      obtain ⟨y0, y1, y2, y3, y4, y5⟩ := y
      simp only at c0 c1 c2 c3 c4 c5
      have hbx : Below wr.heap.size wr (wr.alloc (.cells #[.int .i64 y0, .int .i64 y1, .int .i64 y2, .int .i64 y3, .int .i64 y4, .int .i64 y5] 64)) := (Below.refl _ _).alloc (Nat.le_refl _) _
      have hv := vrow_new wr [.int .i64 y0, .int .i64 y1, .int .i64 y2, .int .i64 y3, .int .i64 y4, .int .i64 y5] 64
      obtain ⟨x0, x1, x2, x3, x4, x5⟩ := xrow hv
      have hown1 := hown.alloc (.cells #[.int .i64 y0, .int .i64 y1, .int .i64 y2, .int .i64 y3, .int .i64 y4, .int .i64 y5] 64)
      have hbl1 := hbl.alloc hsz (.cells #[.int .i64 y0, .int .i64 y1, .int .i64 y2, .int .i64 y3, .int .i64 y4, .int .i64 y5] 64)
      go_upto_region 5 with fail
      generalize wr.alloc (.cells #[.int .i64 y0, .int .i64 y1, .int .i64 y2, .int .i64 y3, .int .i64 y4, .int .i64 y5] 64) = w1 at *
      generalize hTe : wr.heap.size = T at *
      have hsz1 : B ≤ w1.heap.size := by have := hbx.size; omega
      have HP1 : Hid (PayM N w1.drew P 4 ps ks) := HP.out.grown (by rw [HB.out]; exact hbl1.drew)
      have HKX : Hid (w1.cell? ⟨T, 0, none⟩ = some (.int .i64 y0) ∧ w1.cell? ⟨T, 1, none⟩ = some (.int .i64 y1) ∧ w1.cell? ⟨T, 2, none⟩ = some (.int .i64 y2) ∧ w1.cell? ⟨T, 3, none⟩ = some (.int .i64 y3) ∧ w1.cell? ⟨T, 4, none⟩ = some (.int .i64 y4) ∧ w1.cell? ⟨T, 5, none⟩ = some (.int .i64 y5)) := ⟨x0, x1, x2, x3, x4, x5⟩
      have hTl : T < w1.heap.size := cell_lt x0
      clear hbx hv hown hbl hTe c0 c1 c2 c3 c4 c5
      go_wp2
      go_region_held3 (fun w' => w'.cell? ⟨T, 0, none⟩ = some (.int .i64 y0) ∧ w'.cell? ⟨T, 1, none⟩ = some (.int .i64 y1) ∧ w'.cell? ⟨T, 2, none⟩ = some (.int .i64 y2) ∧ w'.cell? ⟨T, 3, none⟩ = some (.int .i64 y3) ∧ w'.cell? ⟨T, 4, none⟩ = some (.int .i64 y4) ∧ w'.cell? ⟨T, 5, none⟩ = some (.int .i64 y5)) (first | assumption | go_keep | exact keep6 hb7 HKX.out) ((go_at_call 112; refine (isFree_any N P 4 ps ks ⟨y0, y1, y2, y3, y4, y5⟩ _ HP1.out).mono ?_; rintro e w7 ⟨rfl, hb7⟩))
      obtain ⟨d0, d1, d2, d3, d4, d5⟩ := keep6 hb7 HKX.out
      have HOW : Hid (OwnRec CoinD.l 64 6 w7 B u5 acc) := (OwnRec.drew hown1).grown hb7
      have hbld : Below B w w7 := hbl1.drew.trans (hb7.mono hsz1)
      have hszd : B ≤ w7.heap.size := Nat.le_trans hsz1 hb7.size
      clear x0 x1 x2 x3 x4 x5 hown1 hbl1 hsz1 HP1 HKX hb7 hTl
      generalize w1.drew = w1d at *
      cases hfr : freeB ps ks ⟨y0, y1, y2, y3, y4, y5⟩
      · rw [hfr] at HS
        go_wp2
        go_roundw
        case rel => exact ⟨k + 1, by omega, by go_num, by rw [HS.out, if_neg (by simp), List.append_nil]; exact HOW.out, hbld⟩
        case measure => simp [intOf]; omega
      · rw [hfr] at HS
        go_wp2_with (at_builtin; refine wpList_appR 62 48 _ Tryz.underlying62 info64 rfl (by decide) coin6 coin_one (w7.alloc (.cells #[.int .i64 y0, .int .i64 y1, .int .i64 y2, .int .i64 y3, .int .i64 y4, .int .i64 y5] 64)) rfl _ _ rfl B w7.heap.size 1 u5 acc ⟨y0, y1, y2, y3, y4, y5⟩ (by rfl) (by rfl) (HOW.out.alloc _) (vrow_new _ _ _) (by simp; omega) (by have := HLN.out; unfold maxLen; omega) (by have := HLN.out; omega) ?_; intro g' cap w5 hown5 hg5 _ _)
        go_roundw
        case rel => exact ⟨k + 1, by omega, by go_num, by rw [HS.out, if_pos rfl]; exact hown5, hbld.trans (gb_to_below (gb_trans (gb_alloc _ _ _) hg5) (by omega) (fun r hr => (HOW.out.blk r hr).1))⟩
        case measure => simp [intOf]; omega
    · have HE : Hid (cs.take k = cs) := by show _ = _; rw [List.take_of_length_le (by rw [HM.out]; omega)]
      rw [HE.out] at hown
      go_wp2
      go_ret
      exact ⟨_, rfl, hown, hbl⟩
theorem sumF_val {cs : List CoinD} {p : CoinD → Bool} (hv : ∀ x ∈ cs, 0 ≤ x.val ∧ x.val ≤ 1099511627776) : ∀ x ∈ cs.filter p, 0 ≤ x.val ∧ x.val ≤ 1099511627776 := fun x hx => hv x (List.mem_filter.1 hx).1
set_option maxRecDepth 100000 in
set_option maxHeartbeats 2000000 in
theorem pBalance_any (N : Nat → Prop) (ps : List PayD) (ks : List (Int × Int)) (P : Nat) (s : Int) (g : Nat) (ao : Option Addr) (n c : Nat) (h : Int) (xs : List Cel) (w : World) (hs : Mk.isM s = true) (hg : 1 ≤ g) (hg2 : g ≤ 20) (hp : PurseRow w P s g (.slice ao n c) h) (hl : PayM N w P 4 ps ks) (hx : CelsAt w ao xs) (hn : xs.length = n) (hm : n ≤ 10000) (hv : ∀ x ∈ ownZ (keysZ xs s g) (coinsC xs), 0 ≤ x.val ∧ x.val ≤ 1099511627776) :
    Calls Tryz.prog 56 #[.pointer (some ⟨P, 0, none⟩)] w fun e w' => e = .returned (.tuple #[.int .i64 (sumC (ownZ (keysZ xs s g) (coinsC xs))), .int .i64 (sumC ((ownZ (keysZ xs s g) (coinsC xs)).filter (freeB ps ks)))]) ∧ Below w.heap.size w w' := by
  have HV : Hid (∀ x ∈ ownZ (keysZ xs s g) (coinsC xs), 0 ≤ x.val ∧ x.val ≤ 1099511627776) := hv
  have HP : Hid (PurseRow w P s g (.slice ao n c) h) := hp
  have HX : Hid (CelsAt w ao xs) := hx
  have HN : Hid (xs.length = n) := hn
  have HL4 : Hid (PayM N w P 4 ps ks) := hl
  have hl0 : (ownZ (keysZ xs s g) (coinsC xs)).length ≤ 10000 := by
    have h1 := ownZ_len (keysZ xs s g) (coinsC xs)
    have h2 := coinsC_len xs
    omega
  have HL : Hid ((ownZ (keysZ xs s g) (coinsC xs)).length ≤ 10000) := hl0
  clear hv hp hx hn hl0 hl
  go_enter Tryz.func56, Tryz.ntmps56
  go_wp2_with fail
  refine (pCoins_any P s g ao n c h xs _ hs hg hg2 HP.out HX.out HN.out hm).mono ?_
  rintro e w1 ⟨v, rfl, ho1, hb1⟩
  generalize hcs : ownZ (keysZ xs s g) (coinsC xs) = cs at *
  have HCS : Hid (ownZ (keysZ xs s g) (coinsC xs) = cs) := hcs
  clear hcs
  obtain ⟨ac, cc, rfl, hat⟩ := OwnRec.at coin6 ho1
  have HA : Hid (RecAt CoinD.l w1 ac cs) := hat
  have HL1 : Hid (PayM N w1 P 4 ps ks) := HL4.out.grown hb1
  clear hat ho1
  generalize hm2 : cs.length = m at *
  have HM : Hid (cs.length = m) := hm2
  have hml : m ≤ 10000 := HL.out
  clear hm2
  go_wp2_with fail
  refine (free_any N P ps ks ac m cc cs _ HL1.out HA.out HM.out (by omega)).mono ?_
  rintro e w2 ⟨v2, rfl, ho2, hb2⟩
  obtain ⟨ad, cd, rfl, had⟩ := OwnRec.at coin6 ho2
  have HVF : Hid (∀ x ∈ cs.filter (freeB ps ks), 0 ≤ x.val ∧ x.val ≤ 1099511627776) := sumF_val HV.out
  have HFL : Hid ((cs.filter (freeB ps ks)).length ≤ 10000) := by show _ ≤ _; have := List.length_filter_le (freeB ps ks) cs; rw [HM.out] at this; omega
  have HA2 : Hid (RecAt CoinD.l w2 ac cs) := HA.out.grown hb2
  have HD2 : Hid (RecAt CoinD.l w2 ad (cs.filter (freeB ps ks))) := had
  have hb02 := below_blk hb1 hb2
  clear had ho2 HA hb1 hb2
  generalize hfs : cs.filter (freeB ps ks) = fs at *
  have HFS : Hid (cs.filter (freeB ps ks) = fs) := hfs
  clear hfs
  generalize hfm : fs.length = fm at *
  have HFM : Hid (fs.length = fm) := hfm
  have hfl : fm ≤ 10000 := HFL.out
  clear hfm HFL
  go_wp2_with fail
  refine (sum_any ac m cc cs _ HA2.out HM.out (by omega) HV.out).mono ?_
  rintro e w3 ⟨rfl, hb3⟩
  have HD3 : Hid (RecAt CoinD.l w3 ad fs) := HD2.out.grown hb3
  have hb03 := below_blk hb02 hb3
  go_wp2_with fail
  refine (sum_any ad fm cd fs _ HD3.out HFM.out (by omega) HVF.out).mono ?_
  rintro e w4 ⟨rfl, hb4⟩
  have hb04 := below_blk hb03 hb4
  go_wp2
  go_ret2
  rw [HCS.out, HFS.out]
  exact ⟨rfl, hb04⟩
end Go.Proofs.YtffgpepngcnjeaaGreat

namespace Go.Proofs.YtffgpepngcnjeaaGreat
open Go.RowKit
set_option maxRecDepth 100000 in
set_option maxHeartbeats 400000 in
theorem worth_any (x : CoinD) (r : Int) (w : World) (hr : 0 ≤ r ∧ r ≤ 1000) (hx : 0 ≤ x.val ∧ x.val ≤ 1099511627776) :
    Calls Tryz.prog 156 #[coinV x, .int .i64 r] w fun e w' => e = .returned (.int .i64 (worthZ r x)) ∧ Below w.heap.size w w' := by
  obtain ⟨x0, x1, x2, x3, x4, x5⟩ := x
  simp only at hx
  have hw1 : IntKind.i64.wrap (7 * r) = 7 * r := IntWalk.i64_in _ ⟨by omega, by omega⟩
  have hw2 : IntKind.i64.wrap (x3 - 7 * r) = x3 - 7 * r := IntWalk.i64_in _ ⟨by omega, by omega⟩
  go_enter Tryz.func156, Tryz.ntmps156
  go_wp2
  go_ret
  exact ⟨rfl, (Below.refl _ _).alloc (Nat.le_refl _) _⟩
set_option maxRecDepth 100000 in
set_option maxHeartbeats 400000 in
theorem slack_any (r : Int) (w : World) (hr : 0 ≤ r ∧ r ≤ 1000) :
    Calls Tryz.prog 115 #[.int .i64 r] w fun e w' => e = .returned (.int .i64 (slackZ r)) ∧ w = w' := by
  have hw1 : IntKind.i64.wrap (2 * r) = 2 * r := IntWalk.i64_in _ ⟨by omega, by omega⟩
  have hw2 : IntKind.i64.wrap (2 * r + 10) = 2 * r + 10 := IntWalk.i64_in _ ⟨by omega, by omega⟩
  have hw3 : IntKind.i64.wrap (2 * r + 10 - 1) = 2 * r + 10 - 1 := IntWalk.i64_in _ ⟨by omega, by omega⟩
  go_enter Tryz.func115, Tryz.ntmps115
  go_wp2
  go_ret
  exact ⟨ret_int (by unfold slackZ; omega), rfl⟩
set_option maxRecDepth 100000 in
set_option maxHeartbeats 400000 in
theorem change_any (l r : Int) (w : World) (hr : 0 ≤ r ∧ r ≤ 1000) (hl : 0 ≤ l ∧ l ≤ 1000000000000000000) :
    Calls Tryz.prog 119 #[.int .i64 l, .int .i64 r] w fun e w' => e = .returned (.int .i64 (if l ≤ slackZ r then 0 else l - 2 * r)) ∧ w = w' := by
  have hw1 : IntKind.i64.wrap (2 * r) = 2 * r := IntWalk.i64_in _ ⟨by omega, by omega⟩
  have hw2 : IntKind.i64.wrap (l - 2 * r) = l - 2 * r := IntWalk.i64_in _ ⟨by omega, by omega⟩
  by_cases h : l ≤ slackZ r
  · rw [if_pos h]
    go_enter Tryz.func119, Tryz.ntmps119
    go_wp2_with (go_at_call 115; refine (slack_any r _ hr).mono ?_; rintro e w' ⟨rfl, rfl⟩)
    go_ret
    exact ⟨rfl, rfl⟩
  · rw [if_neg h]
    go_enter Tryz.func119, Tryz.ntmps119
    go_wp2_with (go_at_call 115; refine (slack_any r _ hr).mono ?_; rintro e w' ⟨rfl, rfl⟩)
    go_ret
    exact ⟨rfl, rfl⟩
def targetZ (ys : List (Int × Int)) (r : Int) : Int := r * (3 + 2 * ys.length) + sumOu ys
set_option maxRecDepth 100000 in
set_option maxHeartbeats 1000000 in
theorem target_any (ao : Option Addr) (n c : Nat) (ys : List (Int × Int)) (r : Int) (w : World) (hx : OutsAt w ao ys) (hn : ys.length = n) (hm : n ≤ 100) (hr : 0 ≤ r ∧ r ≤ 1000) (hb : ∀ y ∈ ys, 0 ≤ y.2 ∧ y.2 ≤ 1099511627776) :
    Calls Tryz.prog 114 #[.slice ao n c, .int .i64 r] w fun e w' => e = .returned (.int .i64 (targetZ ys r)) ∧ Below w.heap.size w w' := by
  have HX : Hid (OutsAt w ao ys) := hx
  have HN : Hid (ys.length = n) := hn
  have HB : Hid (∀ y ∈ ys, 0 ≤ y.2 ∧ y.2 ≤ 1099511627776) := hb
  clear hx hn hb
  have hrn : 0 ≤ r * (3 + 2 * (n : Int)) ∧ r * (3 + 2 * (n : Int)) ≤ 203000 := ⟨Int.mul_nonneg hr.1 (by omega), by
    have h1 : r * (3 + 2 * (n : Int)) ≤ 1000 * (3 + 2 * (n : Int)) := Int.mul_le_mul_of_nonneg_right hr.2 (by omega)
    omega⟩
  have hw1 : IntKind.i64.wrap (2 * (n : Int)) = 2 * (n : Int) := IntWalk.i64_in _ ⟨by omega, by omega⟩
  have hw2 : IntKind.i64.wrap (3 + 2 * (n : Int)) = 3 + 2 * (n : Int) := IntWalk.i64_in _ ⟨by omega, by omega⟩
  have hw3 : IntKind.i64.wrap (r * (3 + 2 * (n : Int))) = r * (3 + 2 * (n : Int)) := IntWalk.i64_in _ ⟨by omega, by omega⟩
  have HT : Hid (targetZ ys r = r * (3 + 2 * (n : Int)) + sumOu ys) := by show _ = _; unfold targetZ; rw [HN.out]
  go_enter Tryz.func114, Tryz.ntmps114
  go_wp2
  generalize r * (3 + 2 * (n : Int)) = F at *
  go_loopw [5, 16] (fun v i wr => ∃ (k : Nat) (T : Int), k ≤ n ∧ i = .int .i64 k ∧ v = .int .i64 T ∧ Hid (F + ((ys.take k).map Prod.snd).sum = T) ∧ Below w.heap.size w wr) (fun _ i _ => n - (intOf i).toNat)
  case atStart => exact ⟨0, F, Nat.zero_le _, rfl, rfl, by show F + _ = F; simp, Below.refl _ _⟩
  case round =>
    obtain ⟨k, T, hk, rfl, rfl, hT, hbl⟩ := hrel
    have hsz := hbl.size
    by_cases hlt : k < n
    · rcases HX.out with hnil | ⟨gg, off, rfl, hrow⟩
      · have := HN.out; rw [hnil] at this; simp at this; omega
      obtain ⟨c0, c1⟩ := (hrow.grown hbl) k (by rw [HN.out]; exact hlt)
      have HS : Hid _ := sum_snoc Prod.snd ys (0, 0) k (by rw [HN.out]; exact hlt)
      have hSb := sum_bd Prod.snd 1099511627776 (ys.take k) (fun x hx => HB.out x (List.mem_of_mem_take hx))
      have hyb := HB.out (ys.getD k (0, 0)) (getD_mem ys (0, 0) k (by rw [HN.out]; exact hlt))
      have hl2 : (ys.take k).length ≤ 100 := by rw [List.length_take]; omega
      have hT2 : 0 ≤ T ∧ T ≤ 120000000000000 := by have := hT.out; omega
      clear hrow hSb hl2
      generalize ys.getD k (0, 0) = y at c0 c1 HS hyb
      obtain ⟨y0, y1⟩ := y
      simp only at c0 c1 hyb
      go_wp2
      go_roundw
      case rel => exact ⟨k + 1, T + y1, by omega, by go_num, rfl, by show _ = _; rw [HS.out, ← Int.add_assoc, hT.out], hbl.alloc hsz _⟩
      case measure => simp [intOf]; omega
    · have HSe : Hid (targetZ ys r = T) := by show _ = _; rw [HT.out, ← hT.out, List.take_of_length_le (by rw [HN.out]; omega)]; rfl
      go_wp2
      go_ret
      exact ⟨ret_int HSe.out.symm, hbl⟩
/-- the candidates in block b: their list, the rate -/
structure Cand (w : World) (b : Nat) (ao : Option Addr) (c : Nat) (cs : List CoinD) (r : Int) : Prop where
  c0 : w.cell? ⟨b, 0, none⟩ = some (.slice ao cs.length c)
  c1 : w.cell? ⟨b, 1, none⟩ = some (.int .i64 r)
  at_ : RecAt CoinD.l w ao cs
theorem Cand.grown {w w' : World} {b : Nat} {ao : Option Addr} {c : Nat} {cs : List CoinD} {r : Int} (h : Cand w b ao c cs r) (hb : Below w.heap.size w w') : Cand w' b ao c cs r :=
  ⟨(hb.cell (p := ⟨b, 0, none⟩) (cell_lt h.c0)).trans h.c0, (hb.cell (p := ⟨b, 1, none⟩) (cell_lt h.c1)).trans h.c1, h.at_.grown hb⟩
theorem i64_and1 (n : Int) : bits .and .i64 n 1 = n % 2 := by
  have h1 : (BitVec.ofInt 64 1).toNat = 2 ^ 1 - 1 := by decide
  have key : (BitVec.ofInt 64 n &&& BitVec.ofInt 64 1).toNat = (n % ((2 ^ 64 : Nat) : Int)).toNat % 2 ^ 1 := by
    rw [BitVec.toNat_and, BitVec.toNat_ofInt, h1, Nat.and_two_pow_sub_one_eq_mod]
  show IntKind.i64.wrap ((BitVec.ofInt 64 n &&& BitVec.ofInt 64 1).toNat : Nat) = n % 2
  rw [key, IntKind.wrap_i64]
  omega
set_option maxRecDepth 100000 in
set_option maxHeartbeats 1000000 in
theorem cHas_any (b : Nat) (ao : Option Addr) (c : Nat) (cs : List CoinD) (r : Int) (m i : Nat) (w : World) (hc : Cand w b ao c cs r) (hi : i < 8) :
    Calls Tryz.prog 158 #[.pointer (some ⟨b, 0, none⟩), .int .i64 (m : Int), .int .i64 (i : Int)] w fun e w' => e = .returned (.bool (decide (i < cs.length) && bitN m 8 i)) ∧ w = w' := by
  have c0 := hc.c0
  clear hc
  generalize hl : cs.length = n at *
  clear hl
  by_cases h : i < n
  · have hw1 : IntKind.i64.wrap (7 - (i : Int)) = 7 - (i : Int) := IntWalk.i64_in _ ⟨by omega, by omega⟩
    have h7 : (0 : Int) ≤ 7 - (i : Int) := by omega
    go_enter Tryz.func158, Tryz.ntmps158
    go_wp2
    go_ret
    refine ⟨ret_bool ?_, rfl⟩
    have e : (m : Int) / 2 ^ (7 - i) % 2 = ((m / 2 ^ (7 - i) % 2 : Nat) : Int) := by push_cast; rfl
    rw [i64_and1, e, decide_eq_true h]
    unfold bitN
    rw [show 8 - 1 - i = 7 - i by omega]
    generalize m / 2 ^ (7 - i) % 2 = t
    by_cases ht : t = 1
    · subst ht; rfl
    · have h1 : ((t : Int) == 1) = false := by rw [beq_eq_false_iff_ne]; omega
      have h2 : (t == 1) = false := by rw [beq_eq_false_iff_ne]; exact ht
      rw [h1, h2]; rfl
  · go_enter Tryz.func158, Tryz.ntmps158
    go_wp2
    go_ret
    exact ⟨ret_bool (by rw [decide_eq_false h]; rfl), rfl⟩
end Go.Proofs.YtffgpepngcnjeaaGreat
