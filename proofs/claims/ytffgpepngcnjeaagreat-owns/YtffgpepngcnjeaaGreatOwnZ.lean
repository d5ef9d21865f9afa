/-
  The own coins of the program and the document's.
  The game of Owns.
  Owns: the steps of its scripts.
-/
import Derived.Test.YtffgpepngcnjeaaGreatRfW
import Derived.Test.YtffgpepngcnjeaaGreatWatE
import Derived.Test.YtffgpepngcnjeaaGreatFre
import Derived.Test.YtffgpepngcnjeaaGreatDrZ
namespace Go.Proofs.YtffgpepngcnjeaaGreat
open Go.RowKit

/-- a coin ahead of the first that it goes ahead of -/
def insL (c : CoinD) : List CoinD → List CoinD
  | [] => [c]
  | y :: r => if aheadZ c y = true then c :: y :: r else y :: insL c r
theorem plGo_true (c : CoinD) : ∀ (l out : List CoinD), plGo c l true out = (out ++ l, true) := by
  intro l
  induction l with
  | nil => intro out; simp [plGo]
  | cons x r ih => intro out; rw [plGo, if_neg (by simp), ih]; simp
theorem plGo_false (c : CoinD) : ∀ (l out : List CoinD), (if (plGo c l false out).2 = false then (plGo c l false out).1 ++ [c] else (plGo c l false out).1) = out ++ insL c l := by
  intro l
  induction l with
  | nil => intro out; simp [plGo, insL]
  | cons x r ih =>
    intro out
    by_cases h : aheadZ c x = true
    · have e : plGo c (x :: r) false out = (out ++ [c] ++ [x] ++ r, true) := by rw [plGo, if_pos ⟨h, rfl⟩, plGo_true]
      rw [e, insL, if_pos h]
      simp
    · have e : plGo c (x :: r) false out = plGo c r false (out ++ [x]) := by rw [plGo, if_neg (fun e => h e.1)]
      rw [e, ih, insL, if_neg h]
      simp
theorem placed_ins (l : List CoinD) (c : CoinD) : placedR l c = insL c l := by
  have := plGo_false c l []
  unfold placedR
  simpa using this

abbrev SortC (l : List CoinD) : Prop := l.Pairwise (fun a b => aheadZ b a = false)
theorem ahead_trans {c y z : CoinD} (h : aheadZ c y = true) (h2 : aheadZ z y = false) : aheadZ c z = true := by
  unfold aheadZ at *
  split at h <;> split at h2 <;> split <;> simp_all <;> omega
theorem ahead_asym {c y : CoinD} (h : aheadZ c y = true) : aheadZ y c = false := by
  unfold aheadZ at *
  split at h <;> split <;> simp_all <;> omega
theorem insL_mem {c x : CoinD} : ∀ {l : List CoinD}, x ∈ insL c l → x = c ∨ x ∈ l := by
  intro l
  induction l with
  | nil => intro h; simp [insL] at h; exact Or.inl h
  | cons y r ih =>
    intro h
    rw [insL] at h
    split at h
    · simpa using h
    · rcases List.mem_cons.1 h with h | h
      · exact Or.inr (by simp [h])
      · rcases ih h with h | h
        · exact Or.inl h
        · exact Or.inr (by simp [h])
theorem insL_sort (c : CoinD) : ∀ (l : List CoinD), SortC l → SortC (insL c l) := by
  intro l
  induction l with
  | nil => intro _; simp [insL]
  | cons y r ih =>
    intro h
    obtain ⟨h1, h2⟩ := List.pairwise_cons.1 h
    rw [insL]
    by_cases e : aheadZ c y = true
    · rw [if_pos e]
      refine List.pairwise_cons.2 ⟨fun z hz => ?_, h⟩
      rcases List.mem_cons.1 hz with rfl | hz
      · exact ahead_asym e
      · exact ahead_asym (ahead_trans e (h1 z hz))
    · rw [if_neg e]
      refine List.pairwise_cons.2 ⟨fun z hz => ?_, ih h2⟩
      rcases insL_mem hz with rfl | hz
      · simpa using e
      · exact h1 z hz
/-- where a coin goes -/
theorem ins_at (c : CoinD) : ∀ (l : List CoinD), SortC l → ∃ p, p ≤ l.length ∧ insL c l = insAt l c p ∧ (∀ i, i < p → aheadZ c (l.getD i dN) = false) ∧ (∀ i, p ≤ i → i < l.length → aheadZ c (l.getD i dN) = true) := by
  intro l
  induction l with
  | nil => intro _; exact ⟨0, Nat.le_refl _, rfl, fun i hi => by omega, fun i _ hi => by simp at hi⟩
  | cons y r ih =>
    intro h
    obtain ⟨h1, h2⟩ := List.pairwise_cons.1 h
    rw [insL]
    by_cases e : aheadZ c y = true
    · rw [if_pos e]
      refine ⟨0, Nat.zero_le _, rfl, fun i hi => by omega, fun i _ hi => ?_⟩
      cases i with
      | zero => exact e
      | succ i =>
        have hi' : i < r.length := by simpa using hi
        have := h1 (r.getD i dN) (getD_mem r dN i hi')
        exact ahead_trans e this
    · rw [if_neg e]
      obtain ⟨p, p1, p2, p3, p4⟩ := ih h2
      refine ⟨p + 1, by simpa using p1, by rw [p2]; simp [insAt], fun i hi => ?_, fun i hp hi => ?_⟩
      · cases i with
        | zero => simpa using e
        | succ i => exact p3 i (by omega)
      · cases i with
        | zero => omega
        | succ i => exact p4 i (by omega) (by simpa using hi)
theorem insI_at (c : CoinD) (l : List CoinD) (p : Nat) (h1 : ∀ i, i < p → aheadZ c (l.getD i dN) = false) : ∀ n, p ≤ n → (∀ i, p ≤ i → i < n → aheadZ c (l.getD i dN) = true) → insI false l c n = p := by
  intro n
  induction n with
  | zero => intro hp _; have : p = 0 := by omega
            subst this; rfl
  | succ n ih =>
    intro hp h2
    rw [insI, aheadG_no]
    by_cases e : p ≤ n
    · rw [if_pos (h2 n e (by omega))]
      exact ih e (fun i hi hn => h2 i hi (by omega))
    · rw [if_neg (by rw [h1 n (by omega)]; simp)]
      omega
theorem ins_same (c : CoinD) (l : List CoinD) (h : SortC l) : insZ false l c = insL c l := by
  obtain ⟨p, p1, p2, p3, p4⟩ := ins_at c l h
  rw [p2, insZ, insI_at c l p p3 l.length p1 (fun i hi hn => p4 i hi hn)]

theorem idxOf_app {α : Type} (p : α → Bool) : ∀ (a b : List α) (i : Nat), idxOf p (a ++ b) i = if idxOf p a i < 0 then idxOf p b (i + a.length) else idxOf p a i := by
  intro a
  induction a with
  | nil => intro b i; simp [idxOf]
  | cons x r ih =>
    intro b i
    rw [List.cons_append, idxOf, idxOf]
    by_cases h : p x = true
    · rw [if_pos h, if_pos h, if_neg (by omega)]
    · rw [if_neg h, if_neg h, ih]
      rw [List.length_cons, show i + 1 + r.length = i + (r.length + 1) by omega]
theorem idxOf_shift {α : Type} (p : α → Bool) : ∀ (l : List α) (i : Nat), idxOf p l i = if idxOf p l 0 < 0 then -1 else idxOf p l 0 + i := by
  intro l
  have h : ∀ (l : List α) (i j : Nat), idxOf p l (i + j) = if idxOf p l i < 0 then -1 else idxOf p l i + j := by
    intro l
    induction l with
    | nil => intro i j; simp [idxOf]
    | cons x r ih =>
      intro i j
      rw [idxOf, idxOf]
      by_cases hp : p x = true
      · rw [if_pos hp, if_pos hp, if_neg (by omega)]; omega
      · rw [if_neg hp, if_neg hp, show i + j + 1 = i + 1 + j by omega, ih (i + 1) j]
  intro i
  have := h l 0 i
  rw [Nat.zero_add] at this
  exact this

theorem key_index (s br : Int) (n : Nat) (a : Int) (hn : n ≤ 100) : idxOf (fun x : KeyD => x.ad == a) (keysB s br n) 0 = indexR (adrs s br 100) n a := by
  unfold indexR
  rw [idxOf_vals, idxOf_vals (fun x : Int => x == a)]
  congr 1
  unfold keysB adrs
  rw [← List.map_take, List.take_range, Nat.min_eq_left hn, List.map_map, List.map_map]
  rfl
theorem indexR_cases (s br : Int) (n : Nat) (a : Int) (hn : n ≤ 100) : indexR (adrs s br 100) n a = -1 ∨ ∃ j : Nat, indexR (adrs s br 100) n a = (j : Int) ∧ j < n := by
  rcases idxOf_cases (fun x : Int => x == a) 0 ((adrs s br 100).take n) 0 with h | ⟨j, h1, h2, _⟩
  · exact Or.inl h
  · rw [List.length_take, adrs_len] at h1
    exact Or.inr ⟨j, by unfold indexR; rw [h2]; simp, by omega⟩
theorem keysB_get (s br : Int) (n j : Nat) (h : j < n) : (keysB s br n).getD j dK = ⟨br, j, Mk.adr s br j⟩ := by
  simp [keysB, List.getD, h]

theorem step_sync (s : Int) (n0 n1 : Nat) (h0 : n0 ≤ 100) (h1 : n1 ≤ 100) (acc : List CoinD) (hs : SortC acc) (x : Cel) (hx : (x.spent == -1) = true) :
    ownStep (keysB s 0 n0 ++ keysB s 1 n1) acc x.c = ownRS (adrs s 0 100) (adrs s 1 100) n0 n1 acc (toR x) := by
  obtain ⟨i, p, a, v, m, sp⟩ := x
  have hr : ownRS (adrs s 0 100) (adrs s 1 100) n0 n1 acc (toR ⟨i, p, a, v, m, sp⟩) = match ownK (adrs s 0 100) (adrs s 1 100) n0 n1 (toR ⟨i, p, a, v, m, sp⟩) with
      | none => acc
      | some c => placedR acc c := by
    unfold ownRS
    rw [if_neg (by simp only [toR]; rw [hx]; simp)]
    rfl
  rw [hr]
  have hf : firstZ (keysB s 0 n0 ++ keysB s 1 n1) a = if indexR (adrs s 0 100) n0 a < 0 then (if indexR (adrs s 1 100) n1 a < 0 then -1 else indexR (adrs s 1 100) n1 a + (n0 : Int)) else indexR (adrs s 0 100) n0 a := by
    unfold firstZ
    rw [idxOf_app, idxOf_shift _ (keysB s 1 n1), keysB_len, key_index _ _ _ _ h0, key_index _ _ _ _ h1, Nat.zero_add]
  have hk : ownK (adrs s 0 100) (adrs s 1 100) n0 n1 (toR ⟨i, p, a, v, m, sp⟩) = if 0 ≤ indexR (adrs s 0 100) n0 a then some ⟨i, p, a, v, 0, indexR (adrs s 0 100) n0 a⟩ else if 0 ≤ indexR (adrs s 1 100) n1 a then some ⟨i, p, a, v, 1, indexR (adrs s 1 100) n1 a⟩ else none := rfl
  rw [hk]
  show ownStep (keysB s 0 n0 ++ keysB s 1 n1) acc ⟨i, p, a, v⟩ = _
  rcases indexR_cases s 0 n0 a h0 with e0 | ⟨j0, e0, hj0⟩
  · rw [e0, if_pos (by omega)] at hf
    rw [e0, if_neg (by omega)]
    rcases indexR_cases s 1 n1 a h1 with e1 | ⟨j1, e1, hj1⟩
    · rw [e1, if_pos (by omega)] at hf
      rw [e1, if_neg (by omega)]
      exact ownStep_no _ _ _ hf
    · rw [e1, if_neg (by omega)] at hf
      rw [e1, if_pos (by omega)]
      rw [ownStep_yes _ acc ⟨i, p, a, v⟩ (j1 + n0) (by show firstZ _ a = _; rw [hf]; omega)]
      rw [getD_app_right _ _ _ _ (by rw [keysB_len]; omega), keysB_len, show j1 + n0 - n0 = j1 by omega, keysB_get _ _ _ _ hj1]
      simp only
      rw [placed_ins, ← ins_same _ _ hs]
      rfl
  · rw [e0, if_neg (by omega)] at hf
    rw [e0, if_pos (by omega)]
    rw [ownStep_yes _ acc ⟨i, p, a, v⟩ j0 hf]
    rw [getD_app_left _ _ _ _ (by rw [keysB_len]; exact hj0), keysB_get _ _ _ _ hj0]
    simp only
    rw [placed_ins, ← ins_same _ _ hs]
    rfl
theorem ownRS_sort (t0 t1 : List Int) (n0 n1 : Nat) (acc : List CoinD) (h : SortC acc) (x : RCel) : SortC (ownRS t0 t1 n0 n1 acc x) := by
  unfold ownRS
  split
  · exact h
  · split
    · exact h
    · rw [placed_ins]; exact insL_sort _ _ h

theorem own_sync (xs : List Cel) (s : Int) (g : Nat) (hg : g ≤ 20) : ownR (xs.map toR) (adrs s 0 100) (adrs s 1 100) (winR (xs.map toR) s g 0) (winR (xs.map toR) s g 1) = ownZ (keysZ xs s g) (coinsC xs) := by
  rw [win_sync xs s g 0 hg, win_sync xs s g 1 hg]
  have h0 := winZ_le xs s g 0
  have h1 := winZ_le xs s g 1
  unfold keysZ
  generalize winZ xs s g 0 = n0 at *
  generalize winZ xs s g 1 = n1 at *
  have : ∀ (l : List Cel) (acc : List CoinD), SortC acc → (l.map toR).foldl (ownRS (adrs s 0 100) (adrs s 1 100) n0 n1) acc = (coinsC l).foldl (ownStep (keysB s 0 n0 ++ keysB s 1 n1)) acc := by
    intro l
    induction l with
    | nil => intro acc _; rfl
    | cons x r ih =>
      intro acc hs
      rw [List.map_cons, List.foldl_cons]
      cases hx : (x.spent == -1)
      · have e1 : ownRS (adrs s 0 100) (adrs s 1 100) n0 n1 acc (toR x) = acc := by
          unfold ownRS
          rw [if_pos (by simp only [toR]; rw [hx]; rfl)]
        have e2 : coinsC (x :: r) = coinsC r := by unfold coinsC; rw [List.filter_cons, if_neg (by rw [hx]; simp)]
        rw [e1, e2]
        exact ih acc hs
      · have e2 : coinsC (x :: r) = x.c :: coinsC r := by unfold coinsC; rw [List.filter_cons, if_pos (by rw [hx])]; rfl
        rw [e2, List.foldl_cons, step_sync s n0 n1 h0 h1 acc hs x hx]
        exact ih _ (ownRS_sort _ _ _ _ _ hs _)
  exact this xs [] List.Pairwise.nil

end Go.Proofs.YtffgpepngcnjeaaGreat
namespace Go.Proofs.YtffgpepngcnjeaaGreat
open Go.RowKit

variable {N X : Nat → Prop} {E DE : List (Nat × Value)} {G P D : Nat} {V : Value} {s : Int} {g : Nat} {v : Value} {ao : Option Addr} {c : Nat} {bls : List (List TxD)} {xs : List Cel}

theorem own_vals (xs : List Cel) (s : Int) (g : Nat) (hv : Vals xs) : ∀ x ∈ ownZ (keysZ xs s g) (coinsC xs), 0 ≤ x.val ∧ x.val ≤ 1099511627776 :=
  ownZ_val (keysZ xs s g) (fun x => 0 ≤ x ∧ x ≤ 1099511627776) _ (coinsC_val (fun x => 0 ≤ x ∧ x ≤ 1099511627776) xs hv)

set_option maxRecDepth 100000 in
set_option maxHeartbeats 1000000 in
theorem balance_any (ar : Option Addr) (cr : Nat) (ac : Option Addr) (cc : Nat) (w : World) (hg : GI N X exE (deE s (g : Int) (.slice ar 100 cr) (.slice ac 100 cc)) G P D V s g v ao c bls xs w) (hf : fitZ s (g : Int) = true) (ha : DAd w D s g ar cr ac cc) :
    Calls Tryz.prog 25 #[.pointer (some ⟨G, 0, none⟩)] w fun e w' => e = .returned (.bool true) ∧ Below w.heap.size w w' := by
  obtain ⟨hs, h1, h2⟩ := fitZ_yes hf
  have g0 := hg.g0
  have g1 := hg.g1
  have hp4 : w.cell? ⟨P, 4, none⟩ = some (.slice none 0 0) := (hg.pu.ext (4, .slice none 0 0) (by simp [exE])).2.2
  have HP5 : Hid (w.cell? ⟨P, 5, none⟩ = some (.slice none 0 0)) := (hg.pu.ext (5, .slice none 0 0) (by simp [exE])).2.2
  have hd5 : w.cell? ⟨D, 5, none⟩ = some (.slice none 0 0) := (hg.de (5, .slice none 0 0) (by simp [deE])).2
  obtain ⟨av, cv, rfl, hat⟩ := hg.pu.at
  have HP : Hid (PurseRow w P s g (.slice av xs.length cv) (bls.length : Nat)) := pat_row hg.pu
  have HP4 : Hid (w.cell? ⟨P, 4, none⟩ = some (.slice none 0 0)) := hp4
  have HAT : Hid (CelsAt w av xs) := hat
  have hlk := hg.lk.here
  have h40 := hg.lk.len
  have HD : Hid (DCh N w D ao c bls) := hg.dc
  have HA : Hid (DAd w D s g ar cr ac cc) := ha
  have HGO : Hid (Good bls) := hg.lk.good
  have HVL : Hid _ := own_vals xs s g hlk.2.2.1
  have HOS : Hid (ownR (cellsR bls) (adrs s 0 100) (adrs s 1 100) (winR (cellsR bls) s g 0) (winR (cellsR bls) s g 1) = ownZ (keysZ xs s g) (coinsC xs)) := by show _ = _; rw [← hlk.1]; exact own_sync xs s g (by omega)
  have hxl : xs.length ≤ 10000 := by have := hlk.2.2.2; omega
  have HOL : Hid ((ownZ (keysZ xs s g) (coinsC xs)).length ≤ 100000) := by show _ ≤ _; have := ownZ_len (keysZ xs s g) (coinsC xs); have := coinsC_len xs; omega
  have hGl : G < w.heap.size := cell_lt g0
  have hg1 : 1 ≤ g := by omega
  have hg2 : g ≤ 20 := by omega
  have HD5 : Hid (w.cell? ⟨D, 5, none⟩ = some (.slice none 0 0)) := hd5
  clear hg hat hlk ha hf h1 h2 hp4 hd5
  go_enter Tryz.func25, Tryz.ntmps25
  go_wp2_with fail
  refine (pBalance_none P s g av xs.length cv (bls.length : Nat) xs _ hs hg1 hg2 HP.out HP4.out HP5.out HAT.out rfl hxl HVL.out).mono ?_
  rintro e w1 ⟨rfl, hb1⟩
  have g1' := (hb1.cell (p := ⟨G, 1, none⟩) hGl).trans g1
  have HD1 : Hid (DCh N w1 D ao c bls) := HD.out.fr (Fr.of_below hb1 (fun _ => False)) (fun _ _ h => h) (fun _ _ h => h) (fun h => h)
  have HA1 : Hid (DAd w1 D s g ar cr ac cc) := HA.out.grown hb1
  have HD51 : Hid (w1.cell? ⟨D, 5, none⟩ = some (.slice none 0 0)) := (hb1.cell (p := ⟨D, 5, none⟩) (cell_lt HD5.out)).trans HD5.out
  clear g0 g1 HP HAT HD HA HP4 HD5
  go_wp2_with fail
  refine (rBalance_none N D ao c bls s g ar cr ac cc _ HD1.out HGO.out h40 HA1.out hg2 HD51.out (ownZ (keysZ xs s g) (coinsC xs)) HOS.out HOL.out HVL.out).mono ?_
  rintro e w2 ⟨rfl, hb2⟩
  have hb02 := below_blk hb1 hb2
  generalize sumC (ownZ (keysZ xs s g) (coinsC xs)) = a at *
  go_wp2
  go_ret
  exact ⟨ret_bool (by simp), hb02⟩

set_option maxRecDepth 100000 in
set_option maxHeartbeats 2000000 in
theorem coins_any (ar : Option Addr) (cr : Nat) (ac : Option Addr) (cc : Nat) (Dr B : Nat) (vc vn : Value) (q : Nat) (w : World) (hg : GI N X E DE G P D (.pointer (some ⟨Dr, 0, none⟩)) s g v ao c bls xs w) (hf : fitZ s (g : Int) = true) (ha : DAd w D s g ar cr ac cc) (hd : DrI w Dr B vc vn q) (hq : q ≤ 1759218604390) (hBw : B ≤ w.heap.size) :
    Calls Tryz.prog 24 #[.pointer (some ⟨G, 0, none⟩)] w fun e w' => e = .returned (.bool true) ∧ ∃ vc' vn', DrI w' Dr B vc' vn' (q + 1) ∧ Fr (fun k => drE Dr vc vn k ∨ w.heap.size ≤ k) w w' ∧ (∀ k, drE Dr vc' vn' k → drE Dr vc vn k ∨ w.heap.size ≤ k) := by
  obtain ⟨hs, h1, h2⟩ := fitZ_yes hf
  have g0 := hg.g0
  have g1 := hg.g1
  have g2 : w.cell? ⟨G, 2, none⟩ = some (.pointer (some ⟨Dr, 0, none⟩)) := hg.gm 2 (by simp)
  obtain ⟨av, cv, rfl, hat⟩ := hg.pu.at
  have HP : Hid (PurseRow w P s g (.slice av xs.length cv) (bls.length : Nat)) := pat_row hg.pu
  have HAT : Hid (CelsAt w av xs) := hat
  have hlk := hg.lk.here
  have h40 := hg.lk.len
  have HD : Hid (DCh N w D ao c bls) := hg.dc
  have HA : Hid (DAd w D s g ar cr ac cc) := ha
  have HGO : Hid (Good bls) := hg.lk.good
  have HOS : Hid (ownR (cellsR bls) (adrs s 0 100) (adrs s 1 100) (winR (cellsR bls) s g 0) (winR (cellsR bls) s g 1) = ownZ (keysZ xs s g) (coinsC xs)) := by show _ = _; rw [← hlk.1]; exact own_sync xs s g (by omega)
  have hxl : xs.length ≤ 10000 := by have := hlk.2.2.2; omega
  have HOL : Hid ((ownZ (keysZ xs s g) (coinsC xs)).length ≤ 100000) := by show _ ≤ _; have := ownZ_len (keysZ xs s g) (coinsC xs); have := coinsC_len xs; omega
  have hGl : G < w.heap.size := cell_lt g0
  have hg1 : 1 ≤ g := by omega
  have hg2 : g ≤ 20 := by omega
  have HDR : Hid (DrI w Dr B vc vn q) := hd
  clear hg hat hlk ha hf h1 h2 hd
  go_enter Tryz.func24, Tryz.ntmps24
  go_wp2_with fail
  refine (pCoins_any P s g av xs.length cv (bls.length : Nat) xs _ hs hg1 hg2 HP.out HAT.out rfl hxl).mono ?_
  rintro e w1 ⟨v1, rfl, ho1, hb1⟩
  have g1' := (hb1.cell (p := ⟨G, 1, none⟩) hGl).trans g1
  have g2' := (hb1.cell (p := ⟨G, 2, none⟩) hGl).trans g2
  have HD1 : Hid (DCh N w1 D ao c bls) := HD.out.fr (Fr.of_below hb1 (fun _ => False)) (fun _ _ h => h) (fun _ _ h => h) (fun h => h)
  have HA1 : Hid (DAd w1 D s g ar cr ac cc) := HA.out.grown hb1
  have HO1 : Hid (OwnRec CoinD.l 64 6 w1 w.heap.size v1 (ownZ (keysZ xs s g) (coinsC xs))) := ho1
  have hG1 : G < w1.heap.size := cell_lt g1'
  clear g0 g1 g2 HP HAT HD HA ho1
  go_wp2_with fail
  refine (rCoins_any N D ao c bls s g ar cr ac cc _ HD1.out HGO.out h40 HA1.out hg2).mono ?_
  rw [HOS.out]
  rintro e w2 ⟨v2, rfl, ho2, hb2⟩
  generalize ownZ (keysZ xs s g) (coinsC xs) = cs at *
  have HO12 : Hid (OwnRec CoinD.l 64 6 w2 w.heap.size v1 cs) := HO1.out.grown hb2
  obtain ⟨a1, c1, rfl, hat1⟩ := OwnRec.at coin6 HO12.out
  obtain ⟨a2, c2, rfl, hat2⟩ := OwnRec.at coin6 ho2
  have HAT1 : Hid (RecAt CoinD.l w2 a1 cs) := hat1
  have HAT2 : Hid (RecAt CoinD.l w2 a2 cs) := hat2
  have g2'' := (hb2.cell (p := ⟨G, 2, none⟩) hG1).trans g2'
  have hb02 := below_blk hb1 hb2
  have hG2 : G < w2.heap.size := cell_lt g2''
  clear ho2 hat1 hat2 HO1 HD1 HA1 g1' g2' hb1 hb2
  go_wp2_with fail
  refine (sameCoins_any a1 a2 cs.length c1 c2 cs _ HAT1.out HAT2.out rfl (by have := HOL.out; omega)).mono ?_
  rintro e w3 ⟨rfl, hb3⟩
  have HO3 : Hid (OwnRec CoinD.l 64 6 w3 w.heap.size (.slice a1 cs.length c1) cs) := HO12.out.grown hb3
  have g3 := (hb3.cell (p := ⟨G, 2, none⟩) hG2).trans g2''
  have hb03 := below_blk hb02 hb3
  have HDR3 : Hid (DrI w3 Dr B vc vn q) := HDR.out.grown hb03
  have HBK : Hid (∀ k, drE Dr vc vn k → k < w.heap.size) := HDR.out.blk
  have hs3 := hb03.size
  clear HAT1 HAT2 HO12 g2'' hb02 hb3
  go_wp2_with fail
  refine (keepCoins_any Dr B vc vn q (.slice a1 cs.length c1) w.heap.size cs _ HDR3.out HO3.out HBK.out hq (by omega)).mono ?_
  rintro e w4 ⟨rfl, vc', vn', hd4, hf4, he4⟩
  have HD4 : Hid (DrI w4 Dr B vc' vn' (q + 1)) := hd4
  have HF4 : Hid (Fr (fun k => drE Dr vc vn k ∨ w.heap.size ≤ k) w w4) := (Fr.of_below hb03 _).trans hf4
  have HE4 : Hid (∀ k, drE Dr vc' vn' k → drE Dr vc vn k ∨ w.heap.size ≤ k) := fun k hk => (he4 k hk).imp (fun h => h) (fun h => by omega)
  clear hd4 hf4 he4
  go_wp2
  go_ret
  exact ⟨rfl, vc', vn', HD4.out, HF4.out, HE4.out⟩

end Go.Proofs.YtffgpepngcnjeaaGreat
namespace Go.Proofs.YtffgpepngcnjeaaGreat
open Go.RowKit

variable {N X : Nat → Prop} {E DE : List (Nat × Value)} {G P D : Nat} {V : Value} {s : Int} {g : Nat} {v : Value} {ao : Option Addr} {c : Nat} {bls : List (List TxD)} {xs : List Cel}

set_option maxRecDepth 100000 in
set_option maxHeartbeats 1000000 in
theorem stepBa_any (o : OpD) (ar : Option Addr) (cr : Nat) (ac : Option Addr) (cc : Nat) (w : World) (hk : o.kd = 9) (hg : GI N X exE (deE s (g : Int) (.slice ar 100 cr) (.slice ac 100 cc)) G P D V s g v ao c bls xs w) (hf : fitZ s (g : Int) = true) (ha : DAd w D s g ar cr ac cc) :
    Calls Tryz.prog 9 #[.pointer (some ⟨G, 0, none⟩), o.val] w fun e w' => e = .returned (.bool true) ∧ Below w.heap.size w w' := by
  obtain ⟨kd, on, oa1, ob1, ab, m, d, bl, oa, om, od⟩ := o
  simp only at hk
  subst hk
  have hb1 : Below w.heap.size w (w.alloc (.cells #[.int .i64 9, .int .i64 on, .int .i64 oa1, .int .i64 ob1, .slice ab m d, .slice oa om od] 33)) := (Below.refl _ _).alloc (Nat.le_refl _) _
  have HG1 : Hid (GI N X exE (deE s (g : Int) (.slice ar 100 cr) (.slice ac 100 cc)) G P D V s g v ao c bls xs (w.alloc (.cells #[.int .i64 9, .int .i64 on, .int .i64 oa1, .int .i64 ob1, .slice ab m d, .slice oa om od] 33))) := hg.grown hb1
  have HA1 : Hid (DAd (w.alloc (.cells #[.int .i64 9, .int .i64 on, .int .i64 oa1, .int .i64 ob1, .slice ab m d, .slice oa om od] 33)) D s g ar cr ac cc) := ha.grown hb1
  clear hg ha
  go_enter Tryz.func9, Tryz.ntmps9
  go_wp2_with fail
  refine (balance_any ar cr ac cc _ HG1.out hf HA1.out).mono ?_
  rintro e w2 ⟨rfl, hb2⟩
  go_wp2
  go_ret
  exact ⟨rfl, below_blk hb1 hb2⟩

set_option maxRecDepth 100000 in
set_option maxHeartbeats 1000000 in
theorem stepCo_any (o : OpD) (ar : Option Addr) (cr : Nat) (ac : Option Addr) (cc : Nat) (Dr B : Nat) (vc vn : Value) (q : Nat) (w : World) (hk : o.kd = 8) (hg : GI N X E DE G P D (.pointer (some ⟨Dr, 0, none⟩)) s g v ao c bls xs w) (hf : fitZ s (g : Int) = true) (ha : DAd w D s g ar cr ac cc) (hd : DrI w Dr B vc vn q) (hq : q ≤ 1759218604390) (hBw : B ≤ w.heap.size) :
    Calls Tryz.prog 9 #[.pointer (some ⟨G, 0, none⟩), o.val] w fun e w' => e = .returned (.bool true) ∧ ∃ vc' vn', DrI w' Dr B vc' vn' (q + 1) ∧ Fr (fun k => drE Dr vc vn k ∨ w.heap.size ≤ k) w w' ∧ (∀ k, drE Dr vc' vn' k → drE Dr vc vn k ∨ w.heap.size ≤ k) := by
  obtain ⟨kd, on, oa1, ob1, ab, m, d, bl, oa, om, od⟩ := o
  simp only at hk
  subst hk
  have hb1 : Below w.heap.size w (w.alloc (.cells #[.int .i64 8, .int .i64 on, .int .i64 oa1, .int .i64 ob1, .slice ab m d, .slice oa om od] 33)) := (Below.refl _ _).alloc (Nat.le_refl _) _
  have HG1 : Hid (GI N X E DE G P D (.pointer (some ⟨Dr, 0, none⟩)) s g v ao c bls xs (w.alloc (.cells #[.int .i64 8, .int .i64 on, .int .i64 oa1, .int .i64 ob1, .slice ab m d, .slice oa om od] 33))) := hg.grown hb1
  have HA1 : Hid (DAd (w.alloc (.cells #[.int .i64 8, .int .i64 on, .int .i64 oa1, .int .i64 ob1, .slice ab m d, .slice oa om od] 33)) D s g ar cr ac cc) := ha.grown hb1
  have HD1 : Hid (DrI (w.alloc (.cells #[.int .i64 8, .int .i64 on, .int .i64 oa1, .int .i64 ob1, .slice ab m d, .slice oa om od] 33)) Dr B vc vn q) := hd.grown hb1
  have hz1 : (w.alloc (.cells #[.int .i64 8, .int .i64 on, .int .i64 oa1, .int .i64 ob1, .slice ab m d, .slice oa om od] 33)).heap.size = w.heap.size + 1 := by simp
  have HZ1 : Hid _ := hz1
  clear hg ha hd hz1
  go_enter Tryz.func9, Tryz.ntmps9
  go_wp2_with fail
  refine (coins_any ar cr ac cc Dr B vc vn q _ HG1.out hf HA1.out HD1.out hq (by rw [HZ1.out]; omega)).mono ?_
  rw [HZ1.out]
  rintro e w2 ⟨rfl, vc', vn', hd2, hf2, he2⟩
  have HD2 : Hid (DrI w2 Dr B vc' vn' (q + 1)) := hd2
  have HF2 : Hid (Fr (fun k => drE Dr vc vn k ∨ w.heap.size ≤ k) w w2) := (Fr.of_below hb1 _).trans (hf2.weak (fun k _ e => e.imp (fun h => h) (fun h => by omega)))
  have HE2 : Hid (∀ k, drE Dr vc' vn' k → drE Dr vc vn k ∨ w.heap.size ≤ k) := fun k hk => (he2 k hk).imp (fun h => h) (fun h => by omega)
  clear hd2 hf2 he2
  go_wp2
  go_ret
  exact ⟨rfl, vc', vn', HD2.out, HF2.out, HE2.out⟩

/-- the drawer apart from all else -/
def DrX (X : Nat → Prop) (D G Dr : Nat) (vc vn : Value) (ao ar ac : Option Addr) : Prop := ∀ q, drE Dr vc vn q → X q ∧ q ≠ D ∧ q ≠ G ∧ (∀ a, ao = some a → a.block ≠ q) ∧ (∀ a, ar = some a → a.block ≠ q) ∧ (∀ a, ac = some a → a.block ≠ q)

def OInv (s : Int) (g : Nat) (k G B : Nat) (w : World) : Prop :=
  ∃ (X : Nat → Prop) (D Dr : Nat) (v : Value) (ao : Option Addr) (c : Nat) (bls : List (List TxD)) (xs : List Cel) (ar : Option Addr) (cr : Nat) (ac : Option Addr) (cc : Nat) (vc vn : Value), GI (fun k => k < B) X exE (deE s (g : Int) (.slice ar 100 cr) (.slice ac 100 cc)) G B D (.pointer (some ⟨Dr, 0, none⟩)) s g v ao c bls xs w ∧ AdX X D ar ac ∧ IntsAt w ar (adrs s 0 100) ∧ IntsAt w ac (adrs s 1 100) ∧ DrI w Dr (G + 1) vc vn k ∧ DrX X D G Dr vc vn ao ar ac

theorem DrI.more {w : World} {Dr B : Nat} {vc vn : Value} {q : Nat} (h : DrI w Dr B vc vn q) : DrI w Dr B vc vn (q + 1) := by
  obtain ⟨cs, oc, lc⟩ := h.oc
  obtain ⟨ns, on, ln⟩ := h.on
  exact ⟨h.n0, h.f0, h.c5, h.f5, h.c10, h.f10, ⟨cs, oc, by omega⟩, ⟨ns, on, by omega⟩, h.ne, h.lt⟩

theorem own_play (s : Int) (g : Nat) (hf : fitZ s (g : Int) = true) : PlayOk 2 8 9 (OInv s g) := by
  refine ⟨?_, ?_, ?_, ?_⟩
  · rintro k G B w w' ⟨X, D, Dr, v, ao, c, bls, xs, ar, cr, ac, cc, vc, vn, h, hx, h0, h1, hd, hdx⟩ hb
    exact ⟨X, D, Dr, v, ao, c, bls, xs, ar, cr, ac, cc, vc, vn, h.grown hb, hx, h0.grown hb, h1.grown hb, hd.grown hb, hdx⟩
  · rintro k G B w ⟨X, D, Dr, v, ao, c, bls, xs, ar, cr, ac, cc, vc, vn, h, hx, h0, h1, hd, hdx⟩
    exact ⟨X, D, Dr, v, ao, c, bls, xs, ar, cr, ac, cc, vc, vn, h, hx, h0, h1, hd.more, hdx⟩
  · rintro k G B w ⟨X, D, Dr, v, ao, c, bls, xs, ar, cr, ac, cc, vc, vn, h, _⟩
    exact Nat.le_of_lt (h.ch B (Or.inl rfl))
  · rintro k G B w o hk9 ⟨X, D, Dr, v, ao, c, bls, xs, ar, cr, ac, cc, vc, vn, h, hx, i0, i1, hd, hdx⟩ ho hk
    have fin : ∀ (e : Ending) (w' : World), e = .returned (.bool true) ∧ GStep (fun k => k < B) X exE (deE s (g : Int) (.slice ar 100 cr) (.slice ac 100 cc)) G B D (.pointer (some ⟨Dr, 0, none⟩)) s g v ao w w' → e = .returned (.bool true) ∧ OInv s g (k + 1) G B w' ∧ Fr (fun k => B ≤ k) w w' := by
      rintro e w' ⟨rfl, hst⟩
      refine ⟨rfl, ?_, hst.toB h⟩
      obtain ⟨X', v', ao', c', bls', xs', q1, qa, q2, q3⟩ := hst
      have hdr : ∀ q, drE Dr vc vn q → ¬ (chE B v q ∨ q = D) := fun q hq e => e.elim (fun e => (h.xp q e).1 (hdx q hq).1) (fun e => (hdx q hq).2.1 e)
      refine ⟨X', D, Dr, v', ao', c', bls', xs', ar, cr, ac, cc, vc, vn, q3, ⟨fun a ha => ⟨q1 _ (hx.r a ha).1, (hx.r a ha).2⟩, fun a ha => ⟨q1 _ (hx.c a ha).1, (hx.c a ha).2⟩⟩, ?_, ?_, (hd.fr q2 hdr).more, fun q hq => ?_⟩
      · exact ints_fr q2 i0 (fun _ a ha e => e.elim (fun e => (h.xp _ e).1 (hx.r a ha).1) (fun e => (hx.r a ha).2 e))
      · exact ints_fr q2 i1 (fun _ a ha e => e.elim (fun e => (h.xp _ e).1 (hx.c a ha).1) (fun e => (hx.c a ha).2 e))
      · obtain ⟨d1, d2, d3, d4, d5, d6⟩ := hdx q hq
        refine ⟨q1 _ d1, d2, d3, fun a ha e => ?_, d5, d6⟩
        rcases qa a ha with h1 | h1
        · exact d4 a h1 e
        · have := hd.blk q hq; omega
    by_cases h1 : o.kd < 1
    · exact (stepN_any o w h1 h).mono fin
    · by_cases h2 : o.kd = 1
      · exact (stepC_any o w h2 h ho).mono fin
      · by_cases h3 : o.kd = 2
        · exact (stepD_any o w h3 h).mono fin
        · by_cases h8 : o.kd = 8
          · have hGw : G + 1 ≤ w.heap.size := (h.xl G h.xg).1
            refine (stepCo_any o ar cr ac cc Dr (G + 1) vc vn k w h8 h hf (h.dad i0 i1) hd hk9 hGw).mono ?_
            rintro e w' ⟨rfl, vc', vn', hd', hfr, he⟩
            have hF : ∀ q, X q → q < w.heap.size := fun q hq => (h.xl q hq).1
            have hP : ∀ q, chE B v q → ¬ (drE Dr vc vn q ∨ w.heap.size ≤ q) := fun q hq e => e.elim (fun e => (h.xp q hq).1 (hdx q e).1) (fun e => by have := h.ch q hq; omega)
            have hN : ∀ q, q < B → ¬ (drE Dr vc vn q ∨ w.heap.size ≤ q) := fun q hq e => e.elim (fun e => (h.xl q (hdx q e).1).2 hq) (fun e => by have := h.nl q hq; omega)
            have hG : ¬ (drE Dr vc vn G ∨ w.heap.size ≤ G) := fun e => e.elim (fun e => (hdx G e).2.2.1 rfl) (fun e => by omega)
            have hD : ¬ (drE Dr vc vn D ∨ w.heap.size ≤ D) := fun e => e.elim (fun e => (hdx D e).2.1 rfl) (fun e => by have := hF D h.xd; omega)
            have hA : ∀ a, ao = some a → ¬ (drE Dr vc vn a.block ∨ w.heap.size ≤ a.block) := fun a ha e => e.elim (fun e => (hdx _ e).2.2.2.1 a ha rfl) (fun e => by have := hF _ (h.xr a ha); omega)
            have hR : ∀ a, ar = some a → ¬ (drE Dr vc vn a.block ∨ w.heap.size ≤ a.block) := fun a ha e => e.elim (fun e => (hdx _ e).2.2.2.2.1 a ha rfl) (fun e => by have := hF _ (hx.r a ha).1; omega)
            have hC : ∀ a, ac = some a → ¬ (drE Dr vc vn a.block ∨ w.heap.size ≤ a.block) := fun a ha e => e.elim (fun e => (hdx _ e).2.2.2.2.2 a ha rfl) (fun e => by have := hF _ (hx.c a ha).1; omega)
            have hB : Fr (fun k => B ≤ k) w w' := hfr.weak (fun q _ e => Classical.byContradiction fun hn => hN q (by omega) e)
            refine ⟨rfl, ⟨fun q => X q ∨ (w.heap.size ≤ q ∧ q < w'.heap.size), D, Dr, v, ao, c, bls, xs, ar, cr, ac, cc, vc', vn', ⟨hfr.vrow h.gm hG, h.pu.fr hfr hP, h.dc.fr hfr hN hA hD, fun q hq => ⟨(h.de q hq).1, hfr.cell (h.de q hq).2 hD⟩, h.lk, fun q hq => ⟨fun e => e.elim (fun e => (h.xp q hq).1 e) (fun e => by have := h.ch q hq; omega), (h.xp q hq).2⟩, fun q hq => ?_, fun q hq => Nat.lt_of_lt_of_le (h.nl q hq) hfr.size, Or.inl h.xg, Or.inl h.xd, h.gd, fun a ha => Or.inl (h.xr a ha)⟩, ⟨fun a ha => ⟨Or.inl (hx.r a ha).1, (hx.r a ha).2⟩, fun a ha => ⟨Or.inl (hx.c a ha).1, (hx.c a ha).2⟩⟩, ints_fr hfr i0 (fun _ a ha => hR a ha), ints_fr hfr i1 (fun _ a ha => hC a ha), hd', fun q hq => ?_⟩, hB⟩
            · rcases hq with hq | hq
              · exact ⟨Nat.lt_of_lt_of_le (hF q hq) hfr.size, (h.xl q hq).2⟩
              · exact ⟨hq.2, fun e => by have := h.nl q e; omega⟩
            · have hql := hd'.blk q hq
              rcases he q hq with e | e
              · obtain ⟨d1, d2, d3, d4, d5, d6⟩ := hdx q e
                exact ⟨Or.inl d1, d2, d3, d4, d5, d6⟩
              · refine ⟨Or.inr ⟨e, hql⟩, fun e2 => ?_, fun e2 => ?_, fun a ha e2 => ?_, fun a ha e2 => ?_, fun a ha e2 => ?_⟩
                · have := hF D h.xd; omega
                · omega
                · have := hF _ (h.xr a ha); omega
                · have := hF _ (hx.r a ha).1; omega
                · have := hF _ (hx.c a ha).1; omega
          · refine (stepBa_any o ar cr ac cc w (by omega) h hf (h.dad i0 i1)).mono ?_
            rintro e w' ⟨rfl, hb⟩
            exact ⟨rfl, ⟨X, D, Dr, v, ao, c, bls, xs, ar, cr, ac, cc, vc, vn, h.grown hb, hx, i0.grown hb, i1.grown hb, (hd.grown hb).more, hdx⟩, Fr.of_below hb _⟩

theorem Game0.oinv {w0 w : World} {s : Int} {g G D Dr : Nat} {vr vc : Value} (h : Game0 w0 w s g G D Dr vr vc) : OInv s g 0 G w0.heap.size w := by
  obtain ⟨ar, cr, rfl, i0, _⟩ := h.own0.slice
  obtain ⟨ac, cc, rfl, i1, _⟩ := h.own1.slice
  have hgi := h.gi
  rw [adrs_len, adrs_len] at hgi
  obtain ⟨o1, o2, o3, o4⟩ := h.od
  have hr : ∀ a, ar = some a → a.block < D ∧ w0.heap.size < a.block := fun a ha => by
    subst ha
    have h1 := h.own0.blk a.block rfl
    have h2 := h.ob.1 a.block rfl
    omega
  have hc : ∀ a, ac = some a → a.block < D ∧ w0.heap.size < a.block := fun a ha => by
    subst ha
    have h1 := h.own1.blk a.block rfl
    have h2 := h.ob.2 a.block rfl
    omega
  refine ⟨_, D, Dr, _, _, _, _, _, ar, cr, ac, cc, .slice none 0 0, .slice none 0 0, hgi, ⟨fun a ha => ?_, fun a ha => ?_⟩, i0, i1, ⟨⟨0, h.dr 0 (by simp)⟩, h.df 0, h.dr 5 (by simp), h.df 5, h.dr 10 (by simp), h.df 10, ⟨[], OwnRec.nil _ _ _ _ _, Nat.le_refl _⟩, ⟨[], OwnRec.nil _ _ _ _ _, Nat.le_refl _⟩, fun k hk => (by cases hk), by omega⟩, fun q hq => ?_⟩
  · have := hr a ha; exact ⟨by omega, by omega⟩
  · have := hc a ha; exact ⟨by omega, by omega⟩
  · rcases hq with hq | hq | hq
    · subst hq
      exact ⟨by omega, by omega, by omega, fun a ha => (by cases ha), fun a ha e => (by have := hr a ha; omega), fun a ha e => (by have := hc a ha; omega)⟩
    · cases hq
    · cases hq

theorem own_begin (s : Int) (g : Nat) (hf : fitZ s (g : Int) = true) (w : World) : Calls Tryz.prog 8 #[.int .i64 s, .int .i64 (g : Int)] w fun e w' => ∃ G, e = .returned (.tuple #[.pointer (some ⟨G, 0, none⟩), .bool true]) ∧ OInv s g 0 G w.heap.size w' ∧ Below w.heap.size w w' := by
  refine (begin_yes s g w hf).mono ?_
  rintro e w' ⟨G, D, Dr, vr, vc, rfl, h, hb⟩
  exact ⟨G, rfl, h.oinv, hb⟩

set_option maxRecDepth 100000 in
set_option maxHeartbeats 1000000 in
theorem owns_law (s g : Int) (so : Option Addr) (n c : Nat) (ops : List OpD) (w : World) (hs : Scr w.heap.size w so ops) (hn : ops.length = n) (hm : n ≤ 1759218604390) :
    Calls Tryz.prog 5 #[.int .i64 s, .int .i64 g, .slice so n c] w fun e w' => e = .returned (.bool true) ∧ Below w.heap.size w w' := by
  cases hf : fitZ s g
  · go_enter Tryz.func5, Tryz.ntmps5
    go_wp2_with fail
    refine (plays_no s g 2 0 0 8 9 hf (.slice so n c) _).mono ?_
    rintro e w1 ⟨rfl, hb⟩
    go_wp2
    go_ret
    exact ⟨rfl, hb⟩
  · obtain ⟨h1, h2, h3⟩ := fitZ_yes hf
    obtain ⟨k, rfl⟩ : ∃ k : Nat, g = (k : Int) := ⟨g.toNat, by omega⟩
    have HS : Hid (Scr w.heap.size w so ops) := hs
    have HN : Hid (ops.length = n) := hn
    clear hs hn
    go_enter Tryz.func5, Tryz.ntmps5
    go_wp2_with fail
    refine (plays_yes s (k : Int) 2 0 0 8 9 (OInv s k) (own_play s k hf) (own_begin s k hf) so n c ops _ HS.out HN.out (by omega)).mono ?_
    rintro e w1 ⟨rfl, hb⟩
    go_wp2
    go_ret
    exact ⟨rfl, hb⟩

end Go.Proofs.YtffgpepngcnjeaaGreat
