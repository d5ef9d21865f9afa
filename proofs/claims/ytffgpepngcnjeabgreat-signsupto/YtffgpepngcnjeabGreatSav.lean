import Derived.Test.YtffgpepngcnjeabGreatSau
namespace Go.Proofs.YtffgpepngcnjeabGreat
set_option maxRecDepth 100000
set_option maxHeartbeats 4000000
section
open Go.RowKit
variable {c y z x : CoinD}
def insL (c : CoinD) : List CoinD → List CoinD
 | [] => [c]
 | y :: r => if aaZ c y = true then c :: y :: r else y :: insL c r
theorem plGo_true (c : CoinD) : ∀ (l out : List CoinD), plGo c l true out = (out ++ l, true) := by
 intro l
 induction l with
 | nil => intro out; simp [plGo]
 | cons x r ih => intro out; rw [plGo, if_neg (by simp), ih]; simp
theorem plGo_false (c : CoinD) : ∀ (l out : List CoinD), (if (plGo c l false out).2 = false then (plGo c l false out).1 ++ [c] else (plGo c l false out).1) = out ++ insL c l := by
 intro l
 induction l with
 | nil => intro out; simp [plGo, insL]
 | cons x r ih =>
  intro out
  by_cases h : aaZ c x = true
  ·have e : plGo c (x :: r) false out = (out ++ [c] ++ [x] ++ r, true) := by rw [plGo, if_pos ⟨h, rfl⟩, plGo_true]
   rw [e, insL, if_pos h]
   simp
  ·have e : plGo c (x :: r) false out = plGo c r false (out ++ [x]) := by rw [plGo, if_neg (fun e => h e.1)]
   rw [e, ih, insL, if_neg h]
   simp
theorem placed_ins (l : List CoinD) (c : CoinD) : placedR l c = insL c l := by
 have := plGo_false c l []
 unfold placedR
 simpa using this
abbrev SortC (l : List CoinD) : Prop := l.Pairwise (fun a b => aaZ b a = false)
theorem ahead_trans (h : aaZ c y = true) (h2 : aaZ z y = false) : aaZ c z = true := by
 unfold aaZ at *
 split at h <;> split at h2 <;> split <;> simp_all <;> omega
theorem ahead_asym (h : aaZ c y = true) : aaZ y c = false := by
 unfold aaZ at *
 split at h <;> split <;> simp_all <;> omega
theorem insL_mem : ∀ {l : List CoinD}, x ∈ insL c l → x = c ∨ x ∈ l := by
 intro l
 induction l with
 | nil => intro h; simp [insL] at h; exact Or.inl h
 | cons y r ih =>
  intro h
  rw [insL] at h
  split at h
  ·simpa using h
  ·rcases List.mem_cons.1 h with h | h
   ·exact Or.inr (by simp [h])
   ·rcases ih h with h | h
    ·exact Or.inl h
    ·exact Or.inr (by simp [h])
theorem insL_sort (c : CoinD) : ∀ (l : List CoinD), SortC l → SortC (insL c l) := by
 intro l
 induction l with
 | nil => intro _; simp [insL]
 | cons y r ih =>
  intro h
  obtain ⟨h1, h2⟩ := List.pairwise_cons.1 h
  rw [insL]
  by_cases e : aaZ c y = true
  ·rw [if_pos e]
   refine List.pairwise_cons.2 ⟨fun z hz => ?_, h⟩
   rcases List.mem_cons.1 hz with rfl | hz
   ·exact ahead_asym e
   ·exact ahead_asym (ahead_trans e (h1 z hz))
  ·rw [if_neg e]
   refine List.pairwise_cons.2 ⟨fun z hz => ?_, ih h2⟩
   rcases insL_mem hz with rfl | hz
   ·simpa using e
   ·exact h1 z hz
theorem ins_at (c : CoinD) : ∀ (l : List CoinD), SortC l → ∃ p, p ≤ l.length ∧ insL c l = insAt l c p ∧ (∀ i, i < p → aaZ c (l.getD i dN) = false) ∧ (∀ i, p ≤ i → i < l.length → aaZ c (l.getD i dN) = true) := by
 intro l
 induction l with
 | nil => intro _; exact ⟨0, leR, rfl, fun i hi => by omega, fun i _ hi => by simp at hi⟩
 | cons y r ih =>
  intro h
  obtain ⟨h1, h2⟩ := List.pairwise_cons.1 h
  rw [insL]
  by_cases e : aaZ c y = true
  ·rw [if_pos e]
   refine ⟨0, Nat.zero_le _, rfl, fun i hi => by omega, fun i _ hi => ?_⟩
   cases i with
   | zero => exact e
   | succ i =>
    have hi' : i < r.length := by simpa using hi
    have := h1 (r.getD i dN) (gDM r dN i hi')
    exact ahead_trans e this
  ·rw [if_neg e]
   obtain ⟨p, p1, p2, p3, p4⟩ := ih h2
   refine ⟨p + 1, by simpa using p1, by rw [p2]; simp [insAt], fun i hi => ?_, fun i hp hi => ?_⟩
   ·cases i with
    | zero => simpa using e
    | succ i => exact p3 i (by omega)
   ·cases i with
    | zero => omega
    | succ i => exact p4 i (by omega) (by simpa using hi)
theorem insI_at (c : CoinD) (l : List CoinD) (p : Nat) (h1 : ∀ i, i < p → aaZ c (l.getD i dN) = false) : ∀ n, p ≤ n → (∀ i, p ≤ i → i < n → aaZ c (l.getD i dN) = true) → insI false l c n = p := by
  intro n
  induction n with
  | zero => intro hp _; have : p = 0 := by omega
            subst this; rfl
  | succ n ih =>
    intro hp h2
    rw [insI, aheadG_no]
    by_cases e : p ≤ n
    · rw [if_pos (h2 n e (by omega))]
      exact ih e (fun i hi hn => h2 i hi (by omega))
    · rw [if_neg (by rw [h1 n (by omega)]; simp)]
      omega
theorem ins_same (c : CoinD) (l : List CoinD) (h : SortC l) : insZ false l c = insL c l := by
 obtain ⟨p, p1, p2, p3, p4⟩ := ins_at c l h
 rw [p2, insZ, insI_at c l p p3 l.length p1 (fun i hi hn => p4 i hi hn)]
theorem idxOf_app {α : Type} (p : α → Bool) : ∀ (a b : List α) (i : Nat), ixF p (a ++ b) i = if ixF p a i < 0 then ixF p b (i + a.length) else ixF p a i := by
 intro a
 induction a with
 | nil => intro b i; simp [ixF]
 | cons x r ih =>
  intro b i
  rw [List.cons_append, ixF, ixF]
  by_cases h : p x = true
  ·rw [if_pos h, if_pos h, if_neg (by omega)]
  ·rw [if_neg h, if_neg h, ih]
   rw [List.length_cons, show i + 1 + r.length = i + (r.length + 1) by omega]
theorem idxOf_shift {α : Type} (p : α → Bool) : ∀ (l : List α) (i : Nat), ixF p l i = if ixF p l 0 < 0 then -1 else ixF p l 0 + i := by
 intro l
 have h : ∀ (l : List α) (i j : Nat), ixF p l (i + j) = if ixF p l i < 0 then -1 else ixF p l i + j := by
  intro l
  induction l with
  | nil => intro i j; simp [ixF]
  | cons x r ih =>
   intro i j
   rw [ixF, ixF]
   by_cases hp : p x = true
   ·rw [if_pos hp, if_pos hp, if_neg (by omega)]; omega
   ·rw [if_neg hp, if_neg hp, show i + j + 1 = i + 1 + j by omega, ih (i + 1) j]
 intro i
 have := h l 0 i
 rw [Nat.zero_add] at this
 exact this
theorem key_index (s br : Int) (n : Nat) (a : Int) (hn : n ≤ 100) : ixF (fun x : KeyD => x.ad == a) (kyB s br n) 0 = ieR (adrs s br 100) n a := by
 unfold ieR
 rw [idxOf_vals, idxOf_vals (fun x : Int => x == a)]
 congr 1
 unfold kyB adrs
 rw [← List.map_take, List.take_range, Nat.min_eq_left hn, List.map_map, List.map_map]
 rfl
theorem indexR_cases (s br : Int) (n : Nat) (a : Int) (hn : n ≤ 100) : ieR (adrs s br 100) n a = -1 ∨ ∃ j : Nat, ieR (adrs s br 100) n a = (j : Int) ∧ j < n := by
 rcases icS (fun x : Int => x == a) 0 ((adrs s br 100).take n) 0 with h | ⟨j, h1, h2, _⟩
 ·exact Or.inl h
 ·rw [List.length_take, asN] at h1
  exact Or.inr ⟨j, by unfold ieR; rw [h2]; simp, by omega⟩
theorem keysB_get (s br : Int) (n j : Nat) (h : j < n) : (kyB s br n).getD j dK = ⟨br, j, Mk.adr s br j⟩ := by
 simp [kyB, List.getD, h]
theorem step_sync (s : Int) (n0 n1 : Nat) (h0 : n0 ≤ 100) (h1 : n1 ≤ 100) (acc : List CoinD) (hs : SortC acc) (x : Cel) (hx : (x.spent == -1) = true) :
 oSP (kyB s 0 n0 ++ kyB s 1 n1) acc x.c = ownRS (adrs s 0 100) (adrs s 1 100) n0 n1 acc (toR x) := by
 obtain ⟨i, p, a, v, m, sp⟩ := x
 have hr : ownRS (adrs s 0 100) (adrs s 1 100) n0 n1 acc (toR ⟨i, p, a, v, m, sp⟩) = match ownK (adrs s 0 100) (adrs s 1 100) n0 n1 (toR ⟨i, p, a, v, m, sp⟩) with
  | none => acc
  | some c => placedR acc c := by
  unfold ownRS
  rw [if_neg (by simp only [toR]; rw [hx]; simp)]
  rfl
 rw [hr]
 have hf : firstZ (kyB s 0 n0 ++ kyB s 1 n1) a = if ieR (adrs s 0 100) n0 a < 0 then (if ieR (adrs s 1 100) n1 a < 0 then -1 else ieR (adrs s 1 100) n1 a + (n0 : Int)) else ieR (adrs s 0 100) n0 a := by
  unfold firstZ
  rw [idxOf_app, idxOf_shift _ (kyB s 1 n1), keysB_len, key_index _ _ _ _ h0, key_index _ _ _ _ h1, Nat.zero_add]
 have hk : ownK (adrs s 0 100) (adrs s 1 100) n0 n1 (toR ⟨i, p, a, v, m, sp⟩) = if 0 ≤ ieR (adrs s 0 100) n0 a then some ⟨i, p, a, v, 0, ieR (adrs s 0 100) n0 a⟩ else if 0 ≤ ieR (adrs s 1 100) n1 a then some ⟨i, p, a, v, 1, ieR (adrs s 1 100) n1 a⟩ else none := rfl
 rw [hk]
 show oSP (kyB s 0 n0 ++ kyB s 1 n1) acc ⟨i, p, a, v⟩ = _
 rcases indexR_cases s 0 n0 a h0 with e0 | ⟨j0, e0, hj0⟩
 ·rw [e0, if_pos (by omega)] at hf
  rw [e0, if_neg (by omega)]
  rcases indexR_cases s 1 n1 a h1 with e1 | ⟨j1, e1, hj1⟩
  ·rw [e1, if_pos (by omega)] at hf
   rw [e1, if_neg (by omega)]
   exact ownStep_no _ _ _ hf
  ·rw [e1, if_neg (by omega)] at hf
   rw [e1, if_pos (by omega)]
   rw [ownStep_yes _ acc ⟨i, p, a, v⟩ (j1 + n0) (by show firstZ _ a = _; rw [hf]; omega)]
   rw [getD_app_right _ _ _ _ (by rw [keysB_len]; omega), keysB_len, show j1 + n0 - n0 = j1 by omega, keysB_get _ _ _ _ hj1]
   simp only
   rw [placed_ins, ← ins_same _ _ hs]
   rfl
 ·rw [e0, if_neg (by omega)] at hf
  rw [e0, if_pos (by omega)]
  rw [ownStep_yes _ acc ⟨i, p, a, v⟩ j0 hf]
  rw [getD_app_left _ _ _ _ (by rw [keysB_len]; exact hj0), keysB_get _ _ _ _ hj0]
  simp only
  rw [placed_ins, ← ins_same _ _ hs]
  rfl
theorem ownRS_sort (t0 t1 : List Int) (n0 n1 : Nat) (acc : List CoinD) (h : SortC acc) (x : RCel) : SortC (ownRS t0 t1 n0 n1 acc x) := by
 unfold ownRS
 split
 ·exact h
 ·split
  ·exact h
  ·rw [placed_ins]; exact insL_sort _ _ h
theorem own_sync (xs : List Cel) (s : Int) (g : Nat) (hg : g ≤ 20) : ownR (xs.map toR) (adrs s 0 100) (adrs s 1 100) (winR (xs.map toR) s g 0) (winR (xs.map toR) s g 1) = ownZ (kyZ xs s g) (cnC xs) := by
 rw [win_sync xs s g 0 hg, win_sync xs s g 1 hg]
 have h0 := winZ_le xs s g 0
 have h1 := winZ_le xs s g 1
 unfold kyZ
 generalize winZ xs s g 0 = n0 at *
 generalize winZ xs s g 1 = n1 at *
 have : ∀ (l : List Cel) (acc : List CoinD), SortC acc → (l.map toR).foldl (ownRS (adrs s 0 100) (adrs s 1 100) n0 n1) acc = (cnC l).foldl (oSP (kyB s 0 n0 ++ kyB s 1 n1)) acc := by
  intro l
  induction l with
  | nil => intro acc _; rfl
  | cons x r ih =>
   intro acc hs
   rw [List.map_cons, List.foldl_cons]
   cases hx : (x.spent == -1)
   ·have e1 : ownRS (adrs s 0 100) (adrs s 1 100) n0 n1 acc (toR x) = acc := by
     unfold ownRS
     rw [if_pos (by simp only [toR]; rw [hx]; rfl)]
    have e2 : cnC (x :: r) = cnC r := by unfold cnC; rw [List.filter_cons, if_neg (by rw [hx]; simp)]
    rw [e1, e2]
    exact ih acc hs
   ·have e2 : cnC (x :: r) = x.c :: cnC r := by unfold cnC; rw [List.filter_cons, if_pos (by rw [hx])]; rfl
    rw [e2, List.foldl_cons, step_sync s n0 n1 h0 h1 acc hs x hx]
    exact ih _ (ownRS_sort _ _ _ _ _ hs _)
 exact this xs [] List.Pairwise.nil
end
section
open Go.RowKit

variable {N X : NPr} {E DE : List (Nat × Value)} {G P D : Nat} {V : Value} {s : Int} {g : Nat} {v : Value} {ao : OAd} {c : Nat} {bls : List (List TxD)} {xs : List Cel}
theorem own_vals (xs : List Cel) (s : Int) (g : Nat) (hv : Vals xs) : ∀ x ∈ ownZ (kyZ xs s g) (cnC xs), 0 ≤ x.val ∧ x.val ≤ 1099511627776 :=
 ownZ_val (kyZ xs s g) (fun x => 0 ≤ x ∧ x ≤ 1099511627776) _ (coinsC_val (fun x => 0 ≤ x ∧ x ≤ 1099511627776) xs hv)
end
section
open Go.RowKit

variable {N X : NPr} {E DE : List (Nat × Value)} {G P D : Nat} {V : Value} {s : Int} {g : Nat} {v : Value} {ao : OAd} {c : Nat} {bls : List (List TxD)} {xs : List Cel}
def DrX (X : NPr) (D G Dr : Nat) (vc vn : Value) (ao ar ac : OAd) : Prop := ∀ q, drE Dr vc vn q → X q ∧ q ≠ D ∧ q ≠ G ∧ (∀ a, ao = some a → a.block ≠ q) ∧ (∀ a, ar = some a → a.block ≠ q) ∧ (∀ a, ac = some a → a.block ≠ q)
def OInv (s : Int) (g : Nat) (k G B : Nat) (w : World) : Prop :=
 ∃ (X : NPr) (D Dr : Nat) (v : Value) (ao : OAd) (c : Nat) (bls : List (List TxD)) (xs : List Cel) (ar : OAd) (cr : Nat) (ac : OAd) (cc : Nat) (vc vn : Value), GI (fun k => k < B) X exE (deE s (g : Int) (.slice ar 100 cr) (.slice ac 100 cc)) G B D (.pointer (some ⟨Dr, 0, none⟩)) s g v ao c bls xs w ∧ AdX X D ar ac ∧ IsT w ar (adrs s 0 100) ∧ IsT w ac (adrs s 1 100) ∧ DrI w Dr (G + 1) vc vn k ∧ DrX X D G Dr vc vn ao ar ac
end
section
open Go.RowKit
variable {w w' : World} {b off G n k : Nat} {xs gs : List Bool} {p : CoinD → Bool} {l L : List CoinD} {y : CoinD} {row : Option Nat} {bI : Int}
def ckF (hs : List Bool) : Nat → Nat → Int
 | 0, _ => -1
 | f + 1, i => if hs.getD i false = true then ckF hs f (i + 1) else (i : Int)
def ckR (l : List RCel) (s : Int) (g nx : Nat) : Int := ckF (htR l (adrs s 1 100)) (winR l s g 1 - nx) nx
theorem ckF_bd (hs : List Bool) : ∀ (f i : Nat), ckF hs f i = -1 ∨ ((i : Int) ≤ ckF hs f i ∧ ckF hs f i < (i : Int) + f) := by
 intro f
 induction f with
 | zero => intro i; exact Or.inl rfl
 | succ f ih =>
  intro i
  rw [ckF]
  split
  ·rcases ih (i + 1) with h | h
   ·exact Or.inl h
   ·right; push_cast at h ⊢; omega
  ·right; push_cast; omega
theorem bCell (h : VRow w b off (xs.flatMap bV)) (j : Nat) (hj : j < xs.length) : w.cell? ⟨b, off + j, none⟩ = some (.bool (xs.getD j false)) := by
 have := reL (f := bV) (k := 1) (fun _ => rfl) false h j hj 0 (by omega)
 rw [Nat.mul_one, Nat.add_zero] at this
 exact this
theorem changeKey_any (N : NPr) (D : Nat) (ao : OAd) (c : Nat) (bls : List (List TxD)) (s : Int) (g : Nat) (ar : OAd) (cr : Nat) (ac : OAd) (cc : Nat) (nx : Nat) (w : World) (hx : DCh N w D ao c bls) (hg : Good bls) (hm : bls.length ≤ 40) (ha : DAd w D s g ar cr ac cc) (g1 : g ≤ 20) (hgv : w.cell? ⟨D, 6, none⟩ = some (.int .i64 ((nx : Int) - 1))) (hnx : nx ≤ 1000) :
 Calls Tryz.prog 168 #[.pointer (some ⟨D, 0, none⟩)] w fun e w' => e = .returned (.int .i64 (ckR (clR bls) s g nx)) ∧ Below w.heap.size w w' := by
 obtain ⟨cs, hch⟩ := hx.ch
 have c4 := hx.c4
 have HC := hiD hch
 have HG := hiD hg
 have HA := hiD ha
 have HGV := hiD hgv
 have hll := cellsR_len hg
 have hDl : D < w.heap.size := clT c4
 have hwn : IntKind.i64.wrap ((nx : Int) - 1 + 1) = (nx : Int) := by rw [show (nx : Int) - 1 + 1 = (nx : Int) by omega]; exact IntWalk.i64_in _ ⟨by omega, by omega⟩
 clear hx hch hg ha hgv
 generalize hnl : bls.length = n at *
 have HN := hiD hnl
 clear hnl
 go_enter Tryz.func168, Tryz.ntmps168
 go_wp2_with fail
 refine (cells_any N ao n c cs bls _ HC HN (by omega) (fun i hi => HG.out.small i (by rw [HN.out]; exact hi))).mono ?_
 rintro e w1 ⟨v1, rfl, hown1, hb1⟩
 obtain ⟨al, cl, rfl, hat⟩ := ORC.at rc5 hown1
 have HAT := hiD hat
 have HA1 := hiD (HA.out.grown hb1)
 clear hat hown1 c4 HC HG
 have HCK : Hid (ckR (clR bls) s g nx = ckF (htR (clR bls) (adrs s 1 100)) (winR (clR bls) s g 1 - nx) nx) := rfl
 have HWE : Hid (winR (clR bls) s g 1 = wfind (htR (clR bls) (adrs s 1 100)) g (100 - g) g) := rfl
 have hW100 : winR (clR bls) s g 1 ≤ 100 := winR_le _ _ _ _ (by omega)
 generalize hcke : ckR (clR bls) s g nx = CK at *
 have HCKE := hiD hcke
 clear hcke
 generalize winR (clR bls) s g 1 = WN at *
 generalize hlE : clR bls = l at *
 have HLE := hiD hlE
 clear hlE
 have d3 := HA1.out.c3
 generalize hml : l.length = m at *
 have HM := hiD hml
 clear hml
 go_wp2_with fail
 refine (seen_any ac 100 cc (adrs s 1 100) al m cl l _ HA1.out.i1 (asN _ _ _) HAT HM (by omega) (by omega)).mono ?_
 rintro e w4 ⟨ai, ci, rfl, hh4, hb4⟩
 have hbx : Below w4.heap.size w4 (w4.alloc (.cells #[.slice ac 100 cc, .slice ai 100 ci] 236)) := (Below.refl _ _).alloc leR _
 have z0 : (w4.alloc (.cells #[.slice ac 100 cc, .slice ai 100 ci] 236)).cell? ⟨w4.heap.size, 0, none⟩ = some (.slice ac 100 cc) := by rw [World.cell?_alloc_new]; rfl
 have z1 : (w4.alloc (.cells #[.slice ac 100 cc, .slice ai 100 ci] 236)).cell? ⟨w4.heap.size, 1, none⟩ = some (.slice ai 100 ci) := by rw [World.cell?_alloc_new]; rfl
 have hb14 : Below w1.heap.size w1 (w4.alloc (.cells #[.slice ac 100 cc, .slice ai 100 ci] 236)) := bwK hb4 hbx
 have HA4 := hiD (HA1.out.grown hb14)
 have HH4 := hiD (hh4.grown hbx)
 have hb04 := bwK hb1 hb14
 have d1 := HA4.out.c1
 have HHL : Hid ((htR l (adrs s 1 100)).length = 100) := by show _ = _; rw [hits_len, asN]
 clear hh4 hb4 hb14 hbx HA1 HAT d3 hb1
 generalize htR l (adrs s 1 100) = hs at *
 go_upto_region 3 with fail
 generalize w4.alloc (.cells #[.slice ac 100 cc, .slice ai 100 ci] 236) = w5 at *
 generalize w4.heap.size = T6 at *
 have HHd : Hid (RcT bV w5.drew ai hs) := RcT.heap HH4.out rfl
 have HKB : Hid (∀ w6, Below w5.drew.heap.size w5.drew w6 → w6.cell? ⟨T6, 0, none⟩ = some (.slice ac 100 cc) ∧ w6.cell? ⟨T6, 1, none⟩ = some (.slice ai 100 ci) ∧ w6.cell? ⟨D, 1, none⟩ = some (.int .i64 (g : Int))) := fun w6 hb => keep3 (w2 := w5.drew) hb z0 z1 d1
 go_wp2
 go_region_held3 (fun w' => w'.cell? ⟨T6, 0, none⟩ = some (.slice ac 100 cc) ∧ w'.cell? ⟨T6, 1, none⟩ = some (.slice ai 100 ci) ∧ w'.cell? ⟨D, 1, none⟩ = some (.int .i64 (g : Int))) (first | assumption | go_keep) ((go_at_call 180; refine (rwindow_any ac 100 cc ai ci hs g _ HHd HHL (by omega)).mono ?_; rintro e w6 ⟨rfl, hb6⟩; have hk6 := HKB.out w6 hb6))
 rw [← HWE.out]
 have hb5d : Below w5.heap.size w5 w6 := ((Below.refl w5.heap.size w5).drew).trans hb6
 have hb06 := bwK hb04 hb5d
 have HH6 := hiD (HH4.out.grown hb5d)
 have dg := (hb06.cell (p := ⟨D, 6, none⟩) hDl).trans HGV.out
 have y1 := hk6.2.1
 clear hk6 hb6 HKB HHd HH4 HA4 z0 z1 d1 hb5d hb04
 go_wp2
 go_loopw [6] (fun i wr => ∃ k : Nat, i = .int .i64 k ∧ Hid (ckF hs (WN - k) k = CK) ∧ w6 = wr) (fun i _ => WN - (intOf i).toNat)
 case atStart => exact ⟨nx, rfl, HCK.out.symm, rfl⟩
 case round =>
  obtain ⟨k, rfl, hz, rfl⟩ := hrel
  by_cases hlt : k < WN
  ·have hz' := hz.out
   rw [show WN - k = (WN - (k + 1)) + 1 by omega, ckF] at hz'
   rcases HH6.out with hnil | ⟨gg, off, rfl, hrow⟩
   ·have := HHL.out; rw [hnil] at this; simp at this
   have e0 := bCell hrow k (by rw [HHL.out]; omega)
   have hkI : (k : Int) < 100 := by omega
   have hk0 : (0 : Int) ≤ (k : Int) := by omega
   clear hrow
   generalize hs.getD k false = b at *
   cases b
   ·have HF : Hid ((k : Int) = CK) := by show _ = _; simpa using hz'
    go_wp2
    go_ret
    exact ⟨riT (HF.out.trans (by rw [← HCKE.out, ← HLE.out])), hb06⟩
   ·have HF : Hid (ckF hs (WN - (k + 1)) (k + 1) = CK) := by show _ = _; simpa using hz'
    go_wp2
    go_roundw
    case rel => exact ⟨k + 1, by go_num, HF, trivial⟩
    case measure => simp [intOf]; omega
  ·have HF : Hid (-1 = CK) := by
    have := hz.out
    rw [show WN - k = 0 by omega, ckF] at this
    exact this
   go_wp2
   go_ret
   exact ⟨riT (HF.out.trans (by rw [← HCKE.out, ← HLE.out])), hb06⟩
def remB (p : CoinD → Bool) (l : List CoinD) (gs : List Bool) : List CoinD := ((l.zip gs).filter fun x => p x.1 && !x.2).map Prod.fst
theorem remB_start (p : CoinD → Bool) (l : List CoinD) : remB p l (List.replicate l.length false) = l.filter p := by
 unfold remB
 induction l with
 | nil => rfl
 | cons x t ih =>
  rw [List.length_cons, List.replicate_succ, List.zip_cons_cons, List.filter_cons, List.filter_cons]
  cases h : p x
  ·simp only [Bool.false_and, Bool.false_eq_true, if_false]; exact ih
  ·simp only [Bool.not_false, Bool.and_true, if_true, List.map_cons]; rw [ih]
theorem remB_app (p : CoinD → Bool) (l1 l2 : List CoinD) (g1 g2 : List Bool) (h : l1.length = g1.length) : remB p (l1 ++ l2) (g1 ++ g2) = remB p l1 g1 ++ remB p l2 g2 := by
 unfold remB
 rw [List.zip_append h, List.filter_append, List.map_append]
theorem remB_cons (p : CoinD → Bool) (x : CoinD) (l : List CoinD) (b : Bool) (gs : List Bool) : remB p (x :: l) (b :: gs) = (if p x && !b then [x] else []) ++ remB p l gs := by
 unfold remB
 rw [List.zip_cons_cons, List.filter_cons]
 simp only
 cases p x && !b
 ·simp
 ·simp
theorem remB_mem (h : y ∈ remB p l gs) : ∃ j, j < l.length ∧ j < gs.length ∧ y = l.getD j dN ∧ p y = true ∧ gs.getD j false = false := by
 unfold remB at h
 obtain ⟨⟨c, b⟩, hx, rfl⟩ := List.mem_map.1 h
 obtain ⟨hz, hp⟩ := List.mem_filter.1 hx
 rw [Bool.and_eq_true] at hp
 obtain ⟨j, hj, e⟩ := List.getElem_of_mem hz
 have hj2 : j < l.length ∧ j < gs.length := by rw [List.length_zip] at hj; omega
 rw [List.getElem_zip] at e
 injection e with e1 e2
 refine ⟨j, hj2.1, hj2.2, ?_, hp.1, ?_⟩
 ·simp [List.getD, hj2.1, e1]
 ·rw [List.getD, List.getElem?_eq_getElem hj2.2, Option.getD_some, e2]
  have := hp.2
  simp only at this
  cases b
  ·rfl
  ·cases this
theorem remB_nil (h : ∀ j, j < l.length → p (l.getD j dN) = true → gs.getD j false = true) : remB p l gs = [] := by
 rw [List.eq_nil_iff_forall_not_mem]
 intro y hy
 obtain ⟨j, h1, h2, h3, h4, h5⟩ := remB_mem hy
 rw [h3] at h4
 rw [h j h1 h4] at h5
 cases h5
theorem remB_pick (hl : l.length = gs.length) (hs : List.Pairwise (fun a b => aaZ b a = false) l) (b : Nat) (hb : b < l.length) (hp : p (l.getD b dN) = true) (hg : gs.getD b false = false)
 (h1 : ∀ j, j < b → p (l.getD j dN) = true → gs.getD j false = false → (l.getD j dN).val < (l.getD b dN).val) (h2 : ∀ j, b < j → j < l.length → p (l.getD j dN) = true → gs.getD j false = false → (l.getD j dN).val ≤ (l.getD b dN).val) :
 (remB p l gs).foldl (insZ true) [] = l.getD b dN :: (remB p l (gs.set b true)).foldl (insZ true) [] := by
 have hbg : b < gs.length := by omega
 have el : l = l.take b ++ l.getD b dN :: l.drop (b + 1) := by
  rw [show l.getD b dN = l[b] by simp [List.getD, hb]]
  rw [← List.drop_eq_getElem_cons hb, List.take_append_drop]
 have eg : gs = gs.take b ++ false :: gs.drop (b + 1) := by
  have : gs[b] = false := by rw [List.getD, List.getElem?_eq_getElem hbg, Option.getD_some] at hg; exact hg
  rw [← this, ← List.drop_eq_getElem_cons hbg, List.take_append_drop]
 have es : gs.set b true = gs.take b ++ true :: gs.drop (b + 1) := List.set_eq_take_append_cons_drop .. |>.trans (by rw [if_pos hbg])
 have hlt : (l.take b).length = (gs.take b).length := by rw [List.length_take, List.length_take]; omega
 have e1 : remB p l gs = remB p (l.take b) (gs.take b) ++ l.getD b dN :: remB p (l.drop (b + 1)) (gs.drop (b + 1)) := by
  conv => lhs; rw [el, eg]
  rw [remB_app p _ _ _ _ hlt, remB_cons, hp]
  rfl
 have e2 : remB p l (gs.set b true) = remB p (l.take b) (gs.take b) ++ remB p (l.drop (b + 1)) (gs.drop (b + 1)) := by
  conv => lhs; rw [es, el]
  rw [remB_app p _ _ _ _ hlt, remB_cons, Bool.not_true, Bool.and_false]
  rfl
 rw [e1, e2]
 refine ins_head _ _ _ (fun y hy => ?_) (fun y hy => ?_)
 ·obtain ⟨j, j1, j2, rfl, j4, j5⟩ := remB_mem hy
  rw [List.length_take] at j1 j2
  have a1 : (l.take b).getD j dN = l.getD j dN := by rw [List.getD, List.getElem?_take, if_pos (by omega)]; rfl
  have a2 : (gs.take b).getD j false = gs.getD j false := by rw [List.getD, List.getElem?_take, if_pos (by omega)]; rfl
  rw [a1] at j4 ⊢
  rw [a2] at j5
  exact h1 j (by omega) j4 j5
 ·obtain ⟨j, j1, j2, rfl, j4, j5⟩ := remB_mem hy
  rw [List.length_drop] at j1 j2
  have a1 : (l.drop (b + 1)).getD j dN = l.getD (b + 1 + j) dN := by rw [List.getD, List.getElem?_drop]; rfl
  have a2 : (gs.drop (b + 1)).getD j false = gs.getD (b + 1 + j) false := by rw [List.getD, List.getElem?_drop]; rfl
  rw [a1] at j4 ⊢
  rw [a2] at j5
  have hv := h2 (b + 1 + j) (by omega) (by omega) j4 j5
  by_cases e : (l.getD (b + 1 + j) dN).val = (l.getD b dN).val
  ·right
   refine ⟨e, ?_⟩
   have := List.pairwise_iff_getElem.1 hs b (b + 1 + j) hb (by omega) (by omega)
   simpa [List.getD, hb, show b + 1 + j < l.length by omega] using this
  ·left; omega
theorem insF_len : ∀ (l acc : List CoinD), (l.foldl (insZ true) acc).length = acc.length + l.length := by
 intro l
 induction l with
 | nil => intro acc; rfl
 | cons x t ih => intro acc; rw [List.foldl_cons, ih, insG_len, List.length_cons]; omega
def elD (ms : List MadeD) (r : Int) (c : CoinD) : Bool := (!takenB ms c.id c.pos && !usedR ms c.br c.ix) && decide (1 ≤ wtZ r c)
def candD (ms : List MadeD) (r : Int) (l : List CoinD) : List CoinD := (l.filter (elD ms r)).foldl (insZ true) []
theorem candD_len (ms : List MadeD) (r : Int) (l : List CoinD) : (candD ms r l).length ≤ l.length := by
 unfold candD
 rw [insF_len, List.length_nil, Nat.zero_add]
 exact List.length_filter_le _ _
theorem candD_order (ms : List MadeD) (r : Int) (l : List CoinD) : candD ms r l = oeZ r (l.filter fun c => !takenB ms c.id c.pos && !usedR ms c.br c.ix) := by
 rw [orderZ_filter, List.filter_filter]
 unfold candD
 congr 1
 refine List.filter_congr (fun c _ => ?_)
 unfold elD
 rw [Bool.and_comm]
structure GoneAt (w : World) (G n : Nat) (gs : List Bool) : Prop where
 len : gs.length = n
 cell : ∀ j, j < n → w.cell? ⟨G, j, none⟩ = some (.bool (gs.getD j false))
 fz : ∀ j, w.frozen? ⟨G, j, none⟩ = false
theorem GoneAt.grown (h : GoneAt w G n gs) (hG : G < w.heap.size) (hb : Below w.heap.size w w') : GoneAt w' G n gs :=
 ⟨h.len, fun j hj => (hb.cell (p := ⟨G, j, none⟩) hG).trans (h.cell j hj), fun j => (hb.frozen (p := ⟨G, j, none⟩) hG).trans (h.fz j)⟩
theorem GoneAt.gb (hg : w.grownBy w' row) (h : GoneAt w G n gs) (hG : G < w.heap.size) (hne : some G ≠ row) : GoneAt w' G n gs :=
 ⟨h.len, fun j hj => geL hg (h.cell j hj) hne, fun j => (goN hg hG hne).trans (h.fz j)⟩
theorem GoneAt.set (h : GoneAt w G n gs) (b : Nat) (hb : b < n) : GoneAt (w.setCell ⟨G, b, none⟩ (.bool true)) G n (gs.set b true) := by
 refine ⟨by rw [List.length_set]; exact h.len, fun j hj => ?_, fun j => by rw [World.frozen?_setCell]; exact h.fz j⟩
 by_cases e : j = b
 ·subst e
  rw [World.cell?_setCell_same _ _ _ (h.cell j hj)]
  have := h.len
  simp [List.getD, show j < gs.length by omega]
 ·rw [World.cell?_setCell_other _ _ _ _ (by intro e2; exact e (congrArg Addr.off e2).symm), h.cell j hj]
  simp [List.getD, show ¬ b = j from fun h => e h.symm]
theorem GoneAt.new (w : World) (n : Nat) : GoneAt (w.alloc (.cells (Go.madeCells #[Value.bool false] n) 4)) w.heap.size n (List.replicate n false) := by
 refine ⟨List.length_replicate, fun j hj => ?_, fun j => World.frozen?_alloc_at _ _ _ _ rfl⟩
 rw [World.cell?_alloc_new]
 have : (Go.madeCells #[Value.bool false] n)[j]? = some (Value.bool false) := by
  simp only [Go.madeCells, Array.getElem?_map]
  rw [Array.getElem?_eq_getElem (by simpa using hj)]
  simp [Nat.mod_one]
 simp [this, List.getD, hj]
theorem make_bools (n : Nat) (hn : n ≤ 1000000) : ∀ u : World, (Instr.makeSlice 105 (.int .i64 (n : Int)) (.int .i64 (n : Int))).run Tryz.prog u =
 .ok (.slice (some ⟨u.heap.size, 0, none⟩) n n) (u.alloc (.cells (Go.madeCells #[.bool false] n) 4)) := fun u => by
 obtain ⟨i0, hi, hz0, hz1, hz2⟩ := info_parts info4
 have h := run_make (P := Tryz.prog) u 105 4 i0 (.bool false) Tryz.underlying105 hi hz0 .i64 .i64 (n : Int) (n : Int) (by omega) (Int.le_refl _) (by rw [hz2]; omega) (by omega)
 have e : (n : Int).toNat = n := by omega
 rw [e] at h
 simpa [hz1, Value.cells] using h
theorem below_dn (h : Below b w w') (n : Nat) : Below b w (w'.drewN n) := ⟨h.os, h.tape, h.output, h.size, h.block⟩
def sliceLen : Value → Nat
 | .slice _ n _ => n
 | _ => 0
def Bst (p : CoinD → Bool) (L : List CoinD) (gs : List Bool) (k : Nat) (bI : Int) : Prop :=
 (bI = -1 ∧ ∀ j, j < k → p (L.getD j dN) = true → gs.getD j false = true) ∨
 ∃ b : Nat, bI = (b : Int) ∧ b < k ∧ p (L.getD b dN) = true ∧ gs.getD b false = false ∧ (∀ j, j < b → p (L.getD j dN) = true → gs.getD j false = false → (L.getD j dN).val < (L.getD b dN).val) ∧ (∀ j, b < j → j < k → p (L.getD j dN) = true → gs.getD j false = false → (L.getD j dN).val ≤ (L.getD b dN).val)
theorem Bst.zero (p : CoinD → Bool) (L : List CoinD) (gs : List Bool) : Bst p L gs 0 (-1) := Or.inl ⟨rfl, fun j hj => absurd hj (by omega)⟩
theorem Bst.skip (h : Bst p L gs k bI) (hs : p (L.getD k dN) = false ∨ gs.getD k false = true) : Bst p L gs (k + 1) bI := by
 rcases h with ⟨e, h⟩ | ⟨b, e, h1, h2, h3, h4, h5⟩
 ·refine Or.inl ⟨e, fun j hj hp => ?_⟩
  by_cases ej : j = k
  ·subst ej
   rcases hs with hs | hs
   ·rw [hs] at hp; cases hp
   ·exact hs
  ·exact h j (by omega) hp
 ·refine Or.inr ⟨b, e, by omega, h2, h3, h4, fun j hj hjk hp hg => ?_⟩
  by_cases ej : j = k
  ·subst ej
   rcases hs with hs | hs
   ·rw [hs] at hp; cases hp
   ·rw [hs] at hg; cases hg
  ·exact h5 j hj (by omega) hp hg
theorem Bst.low (h : Bst p L gs k (b : Int)) (hs : (L.getD k dN).val ≤ (L.getD b dN).val) : Bst p L gs (k + 1) (b : Int) := by
 rcases h with ⟨e, h⟩ | ⟨b', e, h1, h2, h3, h4, h5⟩
 ·omega
 ·have : b = b' := by omega
  subst this
  refine Or.inr ⟨b, e, by omega, h2, h3, h4, fun j hj hjk hp hg => ?_⟩
  by_cases ej : j = k
  ·subst ej; exact hs
  ·exact h5 j hj (by omega) hp hg
theorem Bst.first (h : Bst p L gs k bI) (h0 : bI < 0) (hp : p (L.getD k dN) = true) (hg : gs.getD k false = false) : Bst p L gs (k + 1) (k : Int) := by
 rcases h with ⟨e, h⟩ | ⟨b', e, _⟩
 ·refine Or.inr ⟨k, rfl, by omega, hp, hg, fun j hj hp hg => ?_, fun j hj hjk => by omega⟩
  rw [h j hj hp] at hg; cases hg
 ·omega
theorem Bst.more (h : Bst p L gs k (b : Int)) (hp : p (L.getD k dN) = true) (hg : gs.getD k false = false) (hs : (L.getD b dN).val < (L.getD k dN).val) : Bst p L gs (k + 1) (k : Int) := by
 rcases h with ⟨e, h⟩ | ⟨b', e, h1, h2, h3, h4, h5⟩
 ·omega
 ·have : b = b' := by omega
  subst this
  refine Or.inr ⟨k, rfl, by omega, hp, hg, fun j hj hp hg => ?_, fun j hj hjk => by omega⟩
  by_cases e1 : j < b
  ·have := h4 j e1 hp hg; omega
  ·by_cases e2 : j = b
   ·subst e2; exact hs
   ·have := h5 j (by omega) hj hp hg; omega
theorem Bst.bd (h : Bst p L gs k bI) : bI = -1 ∨ ∃ b : Nat, bI = (b : Int) ∧ b < k := by
 rcases h with ⟨e, _⟩ | ⟨b, e, h1, _⟩
 ·exact Or.inl e
 ·exact Or.inr ⟨b, e, h1⟩
theorem candidates_any (N Nm : NPr) (D : Nat) (ao : OAd) (c : Nat) (bls : List (List TxD)) (s : Int) (g : Nat) (ar : OAd) (cr : Nat) (ac : OAd) (cc : Nat) (am : OAd) (nm cm : Nat) (ms : List MadeD) (r : Int) (L : List CoinD) (w : World) (hx : DCh N w D ao c bls) (hg : Good bls) (hm : bls.length ≤ 40) (ha : DAd w D s g ar cr ac cc) (g1 : g ≤ 20) (hp5 : w.cell? ⟨D, 5, none⟩ = some (.slice am nm cm)) (hms : RcT MadeD.v w am ms) (hmn : ms.length = nm) (hmm : nm ≤ 9007199254740992) (hok : ∀ a ∈ ms, MadeOk Nm w a) (hr : 0 ≤ r ∧ r ≤ 1000)
 (hL : ownR (clR bls) (adrs s 0 100) (adrs s 1 100) (winR (clR bls) s g 0) (winR (clR bls) s g 1) = L) (hLl : L.length ≤ 10000) (hv : CVals L) (hst : SortC L) :
 Calls Tryz.prog 164 #[.pointer (some ⟨D, 0, none⟩), .int .i64 r] w fun e w' => ∃ v, e = .returned v ∧ ORC CoinD.l 107 6 w' w.heap.size v (candD ms r L) ∧ Below w.heap.size w w' := by
 have HX := hiD hx
 have HG := hiD hg
 have HA := hiD ha
 have HP5 := hiD hp5
 have HMS := hiD hms
 have HMN := hiD hmn
 have HOK := hiD hok
 have HL : Hid _ := hL
 have HV := hiD hv
 have HST := hiD hst
 have hDl : D < w.heap.size := clT hp5
 clear hx hg ha hp5 hms hmn hok hL hv hst
 go_enter Tryz.func164, Tryz.ntmps164
 go_wp2_with fail
 refine (rCoins_any N D ao c bls s g ar cr ac cc _ HX HG hm HA g1).mono ?_
 rintro e w1 ⟨v1, rfl, hown1, hb1⟩
 rw [HL.out] at hown1
 obtain ⟨al, cl, rfl, hat⟩ := ORC.at ci6 hown1
 have HAT := hiD hat
 have HLL : Hid (candD ms r L = (remB (elD ms r) L (List.replicate L.length false)).foldl (insZ true) []) := by show _ = _; rw [remB_start]; rfl
 have HCL : Hid ((candD ms r L).length ≤ L.length) := candD_len ms r L
 have HP51 : Hid (w1.cell? ⟨D, 5, none⟩ = some (.slice am nm cm)) := (hb1.cell (p := ⟨D, 5, none⟩) hDl).trans HP5.out
 have HMS1 := hiD (HMS.out.grown hb1)
 have HOK1 : Hid (∀ a ∈ ms, MadeOk Nm w1 a) := fun a ha => (HOK.out a ha).grown hb1
 clear hat hown1 HX HG HA HP5 HMS HOK HL
 generalize hn : L.length = n at *
 have HN := hiD hn
 clear hn
 have hmk := make_bools n (by omega)
 have HG0 : Hid (GoneAt (w1.alloc (.cells (Go.madeCells #[Value.bool false] n) 4)) w1.heap.size n (List.replicate n false)) := GoneAt.new w1 n
 have HB0 : Hid (Below w1.heap.size w1 (w1.alloc (.cells (Go.madeCells #[Value.bool false] n) 4))) := (Below.refl _ _).alloc leR _
 have HS0 : Hid ((w1.alloc (.cells (Go.madeCells #[Value.bool false] n) 4)).heap.size = w1.heap.size + 1) := by show _ = _; simp
 have hs1 := hb1.size
 go_wp2
 generalize w1.alloc (.cells (Go.madeCells #[Value.bool false] n) 4) = w2 at *
 generalize hGe : w1.heap.size = G at *
 have HGe := hiD hGe
 clear hGe hmk
 have hDG : D < G := by omega
 go_loopw [7] (fun v wr => ∃ (gs : List Bool) (out : List CoinD), ORC CoinD.l 107 6 wr (G + 1) v out ∧ GoneAt wr G n gs ∧ Hid (out ++ (remB (elD ms r) L gs).foldl (insZ true) [] = candD ms r L) ∧ Hid (Below G w1 wr) ∧ G < wr.heap.size) (fun v _ => n + 1 - sliceLen v)
 case atStart => exact ⟨_, [], ORC.nil _ _ _ _ _, HG0, by show _ = _; rw [HLL.out]; rfl, HB0, by have := HS0.out; omega⟩
 case round =>
  obtain ⟨gs, out, hown, hgo, hz, hbl, hGl⟩ := hrel
  obtain ⟨vo, co, rfl, hato⟩ := ORC.at ci6 hown
  clear hato
  have HOW := hiD hown
  have HGO := hiD hgo
  have HBW : Hid (Below w1.heap.size w1 wr) := by rw [HGe.out]; exact hbl.out
  clear hown hgo hbl
  obtain ⟨wo, rfl⟩ : ∃ wo : World, wo = wr := ⟨_, rfl⟩
  generalize hol : out.length = ol at *
  have HOLE := hiD hol
  clear hol
  go_wp2
  go_loopw [8, 9] (fun bv kv wr => ∃ (k : Nat) (bI : Int), k ≤ n ∧ kv = .int .i64 k ∧ bv = .int .i64 bI ∧ Hid (Bst (elD ms r) L gs k bI) ∧ Below wo.heap.size wo wr) (fun _ kv _ => n - (intOf kv).toNat)
  case atStart => exact ⟨0, -1, Nat.zero_le _, rfl, rfl, Bst.zero _ _ _, Below.refl _ _⟩
  case round =>
   obtain ⟨k, bI, hk, rfl, rfl, hb, hbl⟩ := hrel
   have hszo := hbl.size
   by_cases hlt : k < n
   ·have hb1r : Below w1.heap.size w1 wr := bwK HBW.out hbl
    have hkl : k < L.length := by rw [HN.out]; exact hlt
    have hvk := HV.out (L.getD k dN) (gDM L dN k hkl)
    have hbd := hb.out.bd
    rcases HAT.out.grown hb1r with hnil | ⟨gc, oc, rfl, hrow⟩
    ·rw [hnil] at hkl; simp at hkl
    obtain ⟨e0, e1, e2, e3, e4, e5⟩ := cCS hrow k hkl
    have HROW := hiD hrow
    have HG1 : Hid (GoneAt wr G n gs) := HGO.out.grown hGl hbl
    have HEL : Hid (elD ms r (L.getD k dN) = ((!takenB ms (L.getD k dN).id (L.getD k dN).pos && !usedR ms (L.getD k dN).br (L.getD k dN).ix) && decide (1 ≤ wtZ r (L.getD k dN)))) := rfl
    have HSK : Hid (elD ms r (L.getD k dN) = false ∨ gs.getD k false = true → Bst (elD ms r) L gs (k + 1) bI) := fun h => hb.out.skip h
    have HFI : Hid (bI < 0 → elD ms r (L.getD k dN) = true → gs.getD k false = false → Bst (elD ms r) L gs (k + 1) (k : Int)) := fun h1 h2 h3 => hb.out.first h1 h2 h3
    have HLO : Hid (∀ b : Nat, bI = (b : Int) → (L.getD k dN).val ≤ (L.getD b dN).val → Bst (elD ms r) L gs (k + 1) bI) := fun b e h => by subst e; exact hb.out.low h
    have HMO : Hid (∀ b : Nat, bI = (b : Int) → elD ms r (L.getD k dN) = true → gs.getD k false = false → (L.getD b dN).val < (L.getD k dN).val → Bst (elD ms r) L gs (k + 1) (k : Int)) := fun b e h1 h2 h => by subst e; exact hb.out.more h1 h2 h
    have hkI : (k : Int) < (n : Int) := by omega
    have hk0 : (0 : Int) ≤ (k : Int) := by omega
    have hGr : G < wr.heap.size := by omega
    clear hrow hb
    generalize L.getD k dN = y at *
    obtain ⟨y0, y1, y2, y3, y4, y5⟩ := y
    simp only at e0 e1 e2 e3 e4 e5 hvk HEL
    have HWD : Hid (wtZ r ⟨y0, y1, y2, y3, y4, y5⟩ = y3 - 7 * r) := rfl
    go_upto_region 9 with (go_at_call 183; refine (dFree_any Nm D am nm cm ms ⟨y0, y1, y2, y3, y4, y5⟩ _ ((hb1r.cell (p := ⟨D, 5, none⟩) (by rw [HGe.out]; exact hDG)).trans HP51) (HMS1.out.grown hb1r) HMN hmm (fun a ha => (HOK1 a ha).grown hb1r)).mono ?_; rintro e w3 ⟨rfl, hb3⟩)
    have HROW3 := hiD (HROW.out.grown hb3)
    obtain ⟨d0, d1, d2, d3, d4, d5⟩ : w3.cell? ⟨gc, oc + k * 6, none⟩ = some (.int .i64 y0) ∧ w3.cell? ⟨gc, oc + k * 6 + 1, none⟩ = some (.int .i64 y1) ∧ w3.cell? ⟨gc, oc + k * 6 + 2, none⟩ = some (.int .i64 y2) ∧ w3.cell? ⟨gc, oc + k * 6 + 3, none⟩ = some (.int .i64 y3) ∧ w3.cell? ⟨gc, oc + k * 6 + 4, none⟩ = some (.int .i64 y4) ∧ w3.cell? ⟨gc, oc + k * 6 + 5, none⟩ = some (.int .i64 y5) := ⟨(hb3.cell (p := ⟨gc, oc + k * 6, none⟩) (clT e0)).trans e0, (hb3.cell (p := ⟨gc, oc + k * 6 + 1, none⟩) (clT e1)).trans e1, (hb3.cell (p := ⟨gc, oc + k * 6 + 2, none⟩) (clT e2)).trans e2, (hb3.cell (p := ⟨gc, oc + k * 6 + 3, none⟩) (clT e3)).trans e3, (hb3.cell (p := ⟨gc, oc + k * 6 + 4, none⟩) (clT e4)).trans e4, (hb3.cell (p := ⟨gc, oc + k * 6 + 5, none⟩) (clT e5)).trans e5⟩
    clear e0 e1 e2 e3 e4 e5
    go_upto_region 10 with (go_at_call 205; refine (dWorth_any ⟨y0, y1, y2, y3, y4, y5⟩ r _ hr hvk).mono ?_; rintro e w4 ⟨rfl, hb4⟩; rw [HWD.out])
    have hb34 := bwK hb3 hb4
    have f3 := (hb4.cell (p := ⟨gc, oc + k * 6 + 3, none⟩) (clT d3)).trans d3
    have gk := (HG1.out.grown hGr hb34).cell k hlt
    have HROW4 := hiD (HROW3.out.grown hb4)
    have HB4 : Hid (Below wo.heap.size wo w4) := bwK hbl hb34
    clear d0 d1 d2 d3 d4 d5 hb3 hb4 hb34 HROW3 HROW HG1
    generalize hfr : (!takenB ms y0 y1 && !usedR ms y4 y5) = fr at *
    generalize gs.getD k false = gn at *
    rw [HWD.out] at HEL
    generalize hel : elD ms r ⟨y0, y1, y2, y3, y4, y5⟩ = el at *
    clear hfr hel
    cases fr
    ·go_quiet (fail)
     go_wp2
     go_roundw
     case rel => exact ⟨k + 1, bI, by omega, by go_num, rfl, HSK (Or.inl (by rw [HEL.out]; rfl)), below_dn HB4 _⟩
     case measure => simp [intOf]; omega
    ·by_cases hw1 : 1 ≤ y3 - 7 * r
     ·have HEL1 : Hid (el = true) := by show _ = _; rw [HEL.out, decide_eq_true hw1]; rfl
      have hwd : decide (1 ≤ y3 - 7 * r) = true := decide_eq_true hw1
      cases gn
      ·rcases hbd with rfl | ⟨b, rfl, hbk⟩
       ·go_quiet (fail)
        go_wp2
        go_roundw
        case rel => exact ⟨k + 1, k, by omega, by go_num, rfl, HFI (by omega) HEL1 rfl, below_dn HB4 _⟩
        case measure => simp [intOf]; omega
       ·have hbl2 : b < L.length := by rw [HN.out]; omega
        obtain ⟨_, _, _, b3, _, _⟩ := cCS HROW4.out b hbl2
        have hbI : (b : Int) < (n : Int) := by omega
        have hb0 : (0 : Int) ≤ (b : Int) := by omega
        have hbn : decide ((b : Int) < 0) = false := decide_eq_false (by omega)
        have HLOb := HLO.out b rfl
        have HMOb := HMO.out b rfl
        have HLO1 : Hid _ := HLOb
        have HMO1 : Hid _ := HMOb
        clear HLOb HMOb HLO HMO
        generalize (L.getD b dN).val = bv at *
        by_cases hgt : bv < y3
        ·have hgd : decide (bv < y3) = true := decide_eq_true hgt
         go_quiet (fail)
         go_wp2
         go_roundw
         case rel => exact ⟨k + 1, k, by omega, by go_num, rfl, HMO1 HEL1 rfl hgt, below_dn HB4 _⟩
         case measure => simp [intOf]; omega
        ·have hgd : decide (bv < y3) = false := decide_eq_false hgt
         go_quiet (fail)
         go_wp2
         go_roundw
         case rel => exact ⟨k + 1, b, by omega, by go_num, rfl, HLO1 (by omega), below_dn HB4 _⟩
         case measure => simp [intOf]; omega
      ·go_quiet (fail)
       go_wp2
       go_roundw
       case rel => exact ⟨k + 1, bI, by omega, by go_num, rfl, HSK (Or.inr rfl), below_dn HB4 _⟩
       case measure => simp [intOf]; omega
     ·have hwd : decide (1 ≤ y3 - 7 * r) = false := decide_eq_false hw1
      go_quiet (fail)
      go_wp2
      go_roundw
      case rel => exact ⟨k + 1, bI, by omega, by go_num, rfl, HSK (Or.inl (by rw [HEL.out, decide_eq_false hw1]; rfl)), below_dn HB4 _⟩
      case measure => simp [intOf]; omega
   ·have hkn : k = n := by omega
    subst hkn
    have hb1r : Below w1.heap.size w1 wr := bwK HBW.out hbl
    have HOr := hiD (HOW.out.grown hbl)
    have HG1 : Hid (GoneAt wr G k gs) := HGO.out.grown hGl hbl
    have hGr : G < wr.heap.size := by omega
    have HB1 := hiD hb1r
    clear hlt hk
    rcases hb.out with ⟨rfl, hno⟩ | ⟨b, rfl, h1, h2, h3, h4, h5⟩
    ·have HF : Hid (out = candD ms r L) := by
      show _ = _
      rw [← hz.out, remB_nil (fun j hj hp => hno j (by rw [← HN.out]; exact hj) hp)]
      simp
     clear hno
     go_wp2
     go_ret
     exact ⟨_, rfl, by rw [← HF.out]; exact olR HOr (by omega), hb1.trans (HB1.out.mono (by rw [HGe.out]; exact hs1))⟩
    ·have HPK : Hid _ := remB_pick (by rw [HN.out, HG1.out.len]) HST.out b (by rw [HN.out]; exact h1) h2 h3 h4 (fun j hj hjl => h5 j hj (by rw [← HN.out]; exact hjl))
     have hbl3 : b < L.length := by rw [HN.out]; exact h1
     rcases HAT.out.grown hb1r with hnil | ⟨gc, oc, rfl, hrow⟩
     ·rw [hnil] at hbl3; simp at hbl3
     obtain ⟨e0, e1, e2, e3, e4, e5⟩ := cCS hrow b hbl3
     have hgcG : gc < G := by
      have h6 : gc < w1.heap.size := by
       rcases HAT.out with hn2 | ⟨g3, o3, e3', hr3⟩
       ·rw [hn2] at hbl3; simp at hbl3
       ·injection e3' with e3'
        injection e3' with e3' _ _
        subst e3'
        exact clT (cCS hr3 b hbl3).1
      rw [HGe.out] at h6
      exact h6
     have gk := HG1.out.cell b h1
     have gf := HG1.out.fz b
     have HG2 : Hid (GoneAt (wr.setCell ⟨G, b, none⟩ (.bool true)) G k (gs.set b true)) := HG1.out.set b h1
     have HO2 : Hid (ORC CoinD.l 107 6 (wr.setCell ⟨G, b, none⟩ (.bool true)) (G + 1) (.slice vo ol co) out) := osT HOr.out _ _ _ (fun e => by have := (HOr.out.blk _ e).1; omega)
     have HB2 : Hid (Below G w1 (wr.setCell ⟨G, b, none⟩ (.bool true))) := by have := HB1.out; rw [HGe.out] at this; exact this.setCell leR _
     have hS2 : (wr.setCell ⟨G, b, none⟩ (.bool true)).heap.size = wr.heap.size := by simp
     have hneg : (⟨gc, oc + b * 6, none⟩ : Addr) ≠ ⟨G, b, none⟩ := by intro e; injection e with e _ _; omega
     have q0 : (wr.setCell ⟨G, b, none⟩ (.bool true)).cell? ⟨gc, oc + b * 6, none⟩ = some (.int .i64 _) := (World.cell?_setCell_other _ _ _ _ (by intro e; injection e with e _ _; omega)).trans e0
     have q1 : (wr.setCell ⟨G, b, none⟩ (.bool true)).cell? ⟨gc, oc + b * 6 + 1, none⟩ = some (.int .i64 _) := (World.cell?_setCell_other _ _ _ _ (by intro e; injection e with e _ _; omega)).trans e1
     have q2 : (wr.setCell ⟨G, b, none⟩ (.bool true)).cell? ⟨gc, oc + b * 6 + 2, none⟩ = some (.int .i64 _) := (World.cell?_setCell_other _ _ _ _ (by intro e; injection e with e _ _; omega)).trans e2
     have q3 : (wr.setCell ⟨G, b, none⟩ (.bool true)).cell? ⟨gc, oc + b * 6 + 3, none⟩ = some (.int .i64 _) := (World.cell?_setCell_other _ _ _ _ (by intro e; injection e with e _ _; omega)).trans e3
     have q4 : (wr.setCell ⟨G, b, none⟩ (.bool true)).cell? ⟨gc, oc + b * 6 + 4, none⟩ = some (.int .i64 _) := (World.cell?_setCell_other _ _ _ _ (by intro e; injection e with e _ _; omega)).trans e4
     have q5 : (wr.setCell ⟨G, b, none⟩ (.bool true)).cell? ⟨gc, oc + b * 6 + 5, none⟩ = some (.int .i64 _) := (World.cell?_setCell_other _ _ _ _ (by intro e; injection e with e _ _; omega)).trans e5
     have HZ2 : Hid ((out ++ [L.getD b dN]) ++ (remB (elD ms r) L (gs.set b true)).foldl (insZ true) [] = candD ms r L) := by
      show _ = _
      rw [← hz.out, HPK.out, List.append_assoc]
      rfl
     have hol2 : ol + 1 ≤ k := by
      have := congrArg List.length HZ2.out
      rw [List.length_append, List.length_append, HOLE.out, List.length_singleton] at this
      have := HCL.out
      omega
     have hbI : (b : Int) < (k : Int) := by omega
     have hb0 : (0 : Int) ≤ (b : Int) := by omega
     clear hrow hb h2 h3 h4 h5 HPK hz e0 e1 e2 e3 e4 e5 hneg HGO HOW HG1 HOr HB1 hb1r
     generalize L.getD b dN = y at *
     obtain ⟨y0, y1, y2, y3, y4, y5⟩ := y
     simp only at q0 q1 q2 q3 q4 q5
     go_upto_region 15 with fail
     generalize wr.setCell ⟨G, b, none⟩ (.bool true) = w5 at *
     have hG5 : G < w5.heap.size := by omega
     clear gk gf hS2
     go_wp2_with (at_builtin; refine wtR 45 48 _ Tryz.underlying45 info107 rfl (by decide) ci6 cnE (w5.alloc (.cells #[.int .i64 y0, .int .i64 y1, .int .i64 y2, .int .i64 y3, .int .i64 y4, .int .i64 y5] 107)) rfl _ _ rfl (G + 1) w5.heap.size 1 (.slice vo ol co) out ⟨y0, y1, y2, y3, y4, y5⟩ (by rfl) (by rfl) (HO2.out.alloc _) (vwW _ _ _) (by simp; omega) (by rw [HOLE.out]; unfold maxLen; omega) (by rw [HOLE.out]; omega) ?_; intro g' cap w6 hown6 hg6 _ _)
     have HGB : Hid _ := grS (glC w5 (.cells #[.int .i64 y0, .int .i64 y1, .int .i64 y2, .int .i64 y3, .int .i64 y4, .int .i64 y5] 107) (Value.slice vo ol co).ownBlock) hg6
     have HNB : Hid (∀ q, (Value.slice vo ol co).ownBlock = some q → G + 1 ≤ q) := fun q hq => (HO2.out.blk q hq).1
     clear hg6
     go_roundw
     case rel => exact ⟨gs.set b true, out ++ [⟨y0, y1, y2, y3, y4, y5⟩], hown6, HG2.out.gb HGB hG5 (fun e => by have := HNB.out G e.symm; omega), HZ2, HB2.out.trans (gbW HGB (by omega) (fun q hq => by have := HNB.out q hq; omega)), by have := HGB.out.size; omega⟩
     case measure => simp [sliceLen]; rw [HOLE.out]; omega
def pfindZ (ps : List PayD) (k : Int) : Int := ixF (fun p : PayD => p.num == k) ps 0
theorem pFind_any (b o : Nat) (ao : OAd) (n c : Nat) (ps : List PayD) (k : Int) (w : World) (hp : w.cell? ⟨b, o, none⟩ = some (.slice ao n c)) (hx : RcT PayD.v w ao ps) (hn : ps.length = n) (hm : n ≤ 1000000000000) :
 Calls Tryz.prog 88 #[.pointer (some ⟨b, o, none⟩), .int .i64 k] w fun e w' => e = .returned (.int .i64 (pfindZ ps k)) ∧ Below w.heap.size w w' := by
 have HN := hiD hn
 have HX := hiD hx
 clear hn hx
 go_enter Tryz.func88, Tryz.ntmps88
 go_wp2
 go_loopw [12] (fun i wr => ∃ j : Nat, j ≤ n ∧ i = .int .i64 j ∧ Hid (ixF (fun p : PayD => p.num == k) (ps.drop j) j = pfindZ ps k) ∧ Below w.heap.size w wr) (fun i _ => n - (intOf i).toNat)
 case atStart => exact ⟨0, Nat.zero_le _, rfl, rfl, Below.refl _ _⟩
 case round =>
  obtain ⟨j, hj, rfl, hz, hbl⟩ := hrel
  have hsz := hbl.size
  by_cases hlt : j < n
  ·rcases HX.out with hnil | ⟨g, off, rfl, hrow⟩
   ·have := HN.out; rw [hnil] at this; simp at this; omega
   obtain ⟨c0, c1, c2, c3, c4⟩ := payCells (hrow.grown hbl) j (by rw [HN.out]; exact hlt)
   have HS : Hid _ := hz.out
   rw [idxOf_drop _ _ dP j j (by rw [HN.out]; exact hlt)] at HS
   clear hrow
   generalize ps.getD j dP = y at c0 c1 c2 c3 c4 HS
   obtain ⟨y0, y1, y2, y3, y4, y5, y6, y7, y8, y9, y10⟩ := y
   simp only at c0 c1 c2 c3 c4
   cases h1 : (y0 == k)
   ·go_wp2
    go_roundw
    case rel => exact ⟨j + 1, by omega, by go_num, by show _ = _; have := HS.out; simp only [h1] at this; simpa using this, hbl.alloc hsz _⟩
    case measure => simp [intOf]; omega
   ·go_wp2
    go_ret
    exact ⟨riT (by have := HS.out; simp only [h1] at this; simpa using this), hbl.alloc hsz _⟩
  ·go_wp2
   go_ret
   refine ⟨riT ?_, hbl⟩
   rw [← hz.out, List.drop_of_length_le (by rw [HN.out]; omega)]
   rfl
def hoZ (xs : List Cel) (x : CoinD) : Bool := if fnZ xs x.id x.pos < 0 then false else ((xs.getD (fnZ xs x.id x.pos).toNat dC).to == x.tt && (xs.getD (fnZ xs x.id x.pos).toNat dC).val == x.val)
theorem hasCoin_any (b o : Nat) (ao : OAd) (n c : Nat) (xs : List Cel) (x : CoinD) (w : World) (hp : w.cell? ⟨b, o, none⟩ = some (.slice ao n c)) (hx : CsT w ao xs) (hn : xs.length = n) (hm : n ≤ 1000000) :
 Calls Tryz.prog 144 #[.pointer (some ⟨b, o, none⟩), .agg #[.int .i64 x.id, .int .i64 x.pos, .int .i64 x.tt, .int .i64 x.val]] w fun e w' => e = .returned (.bool (hoZ xs x)) ∧ Below w.heap.size w w' := by
 have HN := hiD hn
 have HX := hiD hx
 obtain ⟨x0, x1, x2, x3, x4, x5⟩ := x
 simp only
 have HZ : Hid (hoZ xs ⟨x0, x1, x2, x3, x4, x5⟩ = if fnZ xs x0 x1 < 0 then false else ((xs.getD (fnZ xs x0 x1).toNat dC).to == x2 && (xs.getD (fnZ xs x0 x1).toNat dC).val == x3)) := rfl
 have hb0 : Below w.heap.size w (w.alloc (.cells #[.int .i64 x0, .int .i64 x1, .int .i64 x2, .int .i64 x3] 209)) := (Below.refl _ _).alloc leR _
 have HP0 : Hid ((w.alloc (.cells #[.int .i64 x0, .int .i64 x1, .int .i64 x2, .int .i64 x3] 209)).cell? ⟨b, o, none⟩ = some (.slice ao n c)) := (hb0.cell (p := ⟨b, o, none⟩) (clT hp)).trans hp
 have HX0 := hiD (hx.grown hb0)
 have d2 : (w.alloc (.cells #[.int .i64 x0, .int .i64 x1, .int .i64 x2, .int .i64 x3] 209)).cell? ⟨w.heap.size, 2, none⟩ = some (.int .i64 x2) := by go_simp
 have d3 : (w.alloc (.cells #[.int .i64 x0, .int .i64 x1, .int .i64 x2, .int .i64 x3] 209)).cell? ⟨w.heap.size, 3, none⟩ = some (.int .i64 x3) := by go_simp
 clear hn hx hp
 go_enter Tryz.func144, Tryz.ntmps144
 go_wp2_with fail
 refine (find_any b o ao n c xs x0 x1 _ HP0 HX0 HN hm).mono ?_
 rintro e w1 ⟨rfl, hb1⟩
 have e2 := (hb1.cell (p := ⟨w.heap.size, 2, none⟩) (clT d2)).trans d2
 have e3 := (hb1.cell (p := ⟨w.heap.size, 3, none⟩) (clT d3)).trans d3
 have hX1 : w.heap.size < w1.heap.size := clT e2
 have hb01 : Below w.heap.size w w1 := bwK hb0 hb1
 have hp1 := (hb1.cell (p := ⟨b, o, none⟩) (clT HP0.out)).trans HP0.out
 have HX1 := hiD (HX0.out.grown hb1)
 clear d2 d3 HP0 HX0 hb0 hb1
 rcases fcS xs x0 x1 with hf | ⟨j, hj, hf, _⟩
 ·rw [hf] at HZ ⊢
  go_wp2
  go_ret
  exact ⟨rbL (by rw [HZ.out]; rfl), hb01⟩
 ·rw [hf] at HZ ⊢
  rcases HX1.out with hnil | ⟨g, off, rfl, hrow⟩
  ·rw [hnil] at hj; simp at hj
  obtain ⟨c0, c1, c2, c3, c4, c5⟩ := celCells hrow j hj
  have hjn : j < n := by rw [← HN.out]; exact hj
  clear hrow hj
  rw [if_neg (by omega), Int.toNat_natCast] at HZ
  generalize xs.getD j dC = y at c0 c1 c2 c3 c4 c5 HZ
  obtain ⟨yid, ypos, yto, yval, ymade, yspent⟩ := y
  simp only at c0 c1 c2 c3 c4 c5 HZ
  have hsz := hb01.size
  cases h1 : (yto == x2)
  ·go_wp2
   go_ret
   exact ⟨rbL (by rw [HZ.out, h1]; rfl), hb01.alloc hsz _⟩
  ·cases h2 : (yval == x3)
   ·go_wp2
    go_ret
    exact ⟨rbL (by rw [HZ.out, h1, h2]; rfl), hb01.alloc hsz _⟩
   ·go_wp2
    go_ret
    exact ⟨rbL (by rw [HZ.out, h1, h2]; rfl), hb01.alloc hsz _⟩
end
end Go.Proofs.YtffgpepngcnjeabGreat
