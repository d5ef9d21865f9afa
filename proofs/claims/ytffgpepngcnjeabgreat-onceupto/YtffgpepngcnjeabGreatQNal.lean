/-
  Funds: what is chosen of a scene's deposits, and that it is fair.
  Funds: what a payment of a scene is.
  Funds: enough: do the greatest coins suffice?
-/
import Derived.Test.YtffgpepngcnjeabGreatQNaf
import Derived.Test.YtffgpepngcnjeabGreatQNai
import Derived.Test.YtffgpepngcnjeabGreatQNak
import Derived.Laws.MakeOwn
namespace Go.Proofs.YtffgpepngcnjeabGreatQ
open Go.RowKit
theorem Dp.watched {s : Int} {g : Nat} {xs : List Cel} (h : Dp s g xs) (hg2 : g ≤ 20) : ∀ x ∈ xs, ∃ k ∈ keysZ xs s g, k.ad = x.to := fun x hx => by
  obtain ⟨br, i, hb, hi, e⟩ := h.tw x hx
  have hw := (win_spec xs s g br hg2).1
  obtain ⟨k, hk, ha⟩ := key_mem (xs := xs) (s := s) (g := g) hb (i := i) (by omega)
  exact ⟨k, hk, by rw [ha, e]⟩
theorem Dp.perm {s : Int} {g : Nat} {xs : List Cel} (h : Dp s g xs) (hg2 : g ≤ 20) : ((ownOf xs s g).map CoinD.k0).Perm (xs.map Cel.kept) := own_perm (keysZ xs s g) h.sp (h.watched hg2)
theorem Dp.sum {s : Int} {g : Nat} {xs : List Cel} (h : Dp s g xs) (hg2 : g ≤ 20) : sumC (ownOf xs s g) = sumC (xs.map Cel.kept) := (own_all h.sp (h.watched hg2)).2
theorem own_src (ks : List KeyD) : ∀ (l : List CoinC) (acc : List CoinD) (y : CoinD), y ∈ l.foldl (ownStep ks) acc → y ∈ acc ∨ ∃ x ∈ l, ∃ k ∈ ks, k.ad = x.ad ∧ y = coinK x k := by
  intro l
  induction l with
  | nil => intro acc y h; exact Or.inl h
  | cons x r ih =>
    intro acc y h
    rw [List.foldl_cons] at h
    rcases ih _ y h with h1 | ⟨z, hz, k, hk, e1, e2⟩
    · unfold ownStep at h1
      rcases idxOf_cases (fun k : KeyD => k.ad == x.ad) dK ks 0 with e | ⟨j, hj, e, hk⟩
      · rw [if_pos (by show idxOf _ ks 0 < 0; rw [e]; omega)] at h1
        exact Or.inl h1
      · have e3 : firstZ ks x.ad = (j : Int) := by show idxOf _ ks 0 = _; rw [e]; simp
        rw [e3, if_neg (by omega), Int.toNat_natCast] at h1
        rcases insZ_mem h1 with e4 | e4
        · exact Or.inr ⟨x, List.mem_cons_self, ks.getD j dK, getD_mem ks dK j hj, by simpa using hk, e4⟩
        · exact Or.inl e4
    · exact Or.inr ⟨z, List.mem_cons_of_mem _ hz, k, hk, e1, e2⟩
theorem keysZ_key {xs : List Cel} {s : Int} {g : Nat} (hs : Mk.isM s = true) {k : KeyD} (hk : k ∈ keysZ xs s g) : Mk.isK s k.br k.ix = true ∧ Mk.adr s k.br k.ix = k.ad := by
  unfold keysZ keysB at hk
  have h0 := winZ_le xs s g 0
  have h1 := winZ_le xs s g 1
  rcases List.mem_append.1 hk with e | e
  · obtain ⟨i, hi, rfl⟩ := List.mem_map.1 e
    have := List.mem_range.1 hi
    exact ⟨key_ok hs (Or.inl rfl) (by simp only; omega) (by simp only; omega), rfl⟩
  · obtain ⟨i, hi, rfl⟩ := List.mem_map.1 e
    have := List.mem_range.1 hi
    exact ⟨key_ok hs (Or.inr rfl) (by simp only; omega) (by simp only; omega), rfl⟩
theorem valZ_mem : ∀ (l : List CoinD) (c : CoinD), (l.map CoinD.id).Nodup → c ∈ l → valZ l c.id 0 = c.val := by
  intro l
  induction l with
  | nil => intro c _ h; cases h
  | cons x t ih =>
    intro c hn hc
    rw [List.map_cons, List.nodup_cons] at hn
    rw [valZ]
    rcases List.mem_cons.1 hc with e | e
    · subst e; rw [if_pos (by simp)]
    · have hne : x.id ≠ c.id := fun h => hn.1 (by rw [h]; exact List.mem_map_of_mem e)
      rw [if_neg (by simp [hne])]
      exact ih c hn.2 e
/-- an own coin of a scene -/
theorem Dp.own {s : Int} {g : Nat} {xs : List Cel} (h : Dp s g xs) (hs : Mk.isM s = true) (hg2 : g ≤ 20) {y : CoinD} (hy : y ∈ ownOf xs s g) : DpsOk s (xs.map Cel.kept) y ∧ Mk.isM y.id = true ∧ y.pos = 0 := by
  have hm : y.k0 ∈ xs.map Cel.kept := (h.perm hg2).mem_iff.1 (List.mem_map_of_mem hy)
  obtain ⟨x, hx, e⟩ := List.mem_map.1 hm
  have e1 : x.id = y.id := congrArg CoinD.id e
  have e2 : x.pos = y.pos := congrArg CoinD.pos e
  have e4 : x.val = y.val := congrArg CoinD.val e
  have hpos : y.pos = 0 := by rw [← e2]; exact h.po x hx
  rcases own_src (keysZ xs s g) (coinsC xs) [] y hy with e0 | ⟨c, _, k, hk, h1, h2⟩
  · cases e0
  · have hkk := keysZ_key hs hk
    have b1 : y.br = k.br := by rw [h2]; rfl
    have b2 : y.ix = k.ix := by rw [h2]; rfl
    have b3 : y.tt = c.ad := by rw [h2]; rfl
    refine ⟨⟨by rw [b1, b2]; exact hkk.1, by rw [b1, b2, hkk.2, h1, b3], ?_, ?_, ?_⟩, by rw [← e1]; exact h.im x hx, hpos⟩
    · unfold hasZ
      rw [List.any_eq_true]
      exact ⟨y.k0, hm, by simp [CoinD.k0]⟩
    · have := valZ_mem (xs.map Cel.kept) y.k0 (by rw [List.map_map]; exact h.nd) hm
      rw [hpos]
      exact this
    · rw [← e4]; have := h.va x hx; omega
theorem order_mem {r : Int} {l : List CoinD} {x : CoinD} (h : x ∈ orderZ r l) : x ∈ l ∧ 1 ≤ worthZ r x := by
  have := List.mem_filter.1 ((order_perm r l).mem_iff.1 h)
  exact ⟨this.1, of_decide_eq_true this.2⟩
end Go.Proofs.YtffgpepngcnjeabGreatQ

namespace Go.Proofs.YtffgpepngcnjeabGreatQ
open Go.RowKit
theorem wsum_snoc (r : Int) (cs : List CoinD) (k : Nat) (h : k < cs.length) : wsum r (cs.take (k + 1)) = wsum r (cs.take k) + worthZ r cs[k] := by
  unfold wsum
  rw [List.take_succ_eq_append_getElem h, List.map_append, List.sum_append]
  simp
theorem choose_change (r : Int) (cs : List CoinD) (want : Int) (hw : 0 < want) (l : List CoinD) (ch : Int) (h : chooseZ r cs want = some (l, ch)) (hc : 0 < ch) : ∃ x ∈ l, wsum r l - want < worthZ r x := by
  unfold chooseZ at h
  by_cases e : bestP r cs want (want + slackZ r) = 0
  · rw [e, if_neg (fun h => h rfl)] at h
    rcases en_spec r want cs 0 0 with ⟨e1, e2⟩ | ⟨k, e1, e2, e3, e4, e5, e6⟩
    · rw [if_pos (Or.inl e1)] at h; cases h
    · rw [Nat.zero_add] at e3
      by_cases hk : 10 < k
      · rw [if_pos (Or.inr (by omega))] at h; cases h
      · rw [if_neg (by omega), e3] at h
        injection h with h
        injection h with h1 h2
        obtain ⟨j, rfl⟩ : ∃ j, k = j + 1 := ⟨k - 1, by omega⟩
        have hj : j < cs.length := by omega
        have hs := wsum_snoc r cs j hj
        rw [← h1]
        refine ⟨cs[j], ?_, ?_⟩
        · rw [List.take_succ_eq_append_getElem hj]
          exact List.mem_append.2 (Or.inr (List.mem_singleton.2 rfl))
        · by_cases hj0 : j = 0
          · subst hj0
            rw [List.take_zero, wsum_nil] at hs
            omega
          · have := e6 j (by omega) (by omega)
            omega
  · rw [if_pos e] at h
    injection h with h
    injection h with h1 h2
    omega
theorem wsum_sum (r : Int) (l : List CoinD) : wsum r l = sumC l - 7 * (r * (l.length : Int)) := by
  induction l with
  | nil => simp [wsum, sumC]
  | cons x t ih =>
    rw [wsum_cons, ih]
    unfold worthZ sumC
    rw [List.map_cons, List.sum_cons, List.length_cons]
    push_cast
    rw [Int.mul_add]
    omega
theorem sumOu_snoc (ys : List (Int × Int)) (a v : Int) : sumOu (ys ++ [(a, v)]) = sumOu ys + v := by
  unfold sumOu
  rw [List.map_append, List.sum_append]
  simp
/-- what is paid, whatever the tag -/
structure Paid1 (s : Int) (g : Nat) (xs : List Cel) (nx : Int) (ys : List (Int × Int)) (r : Int) (L : List CoinD) (ex : List (Int × Int)) (ch : Int) : Prop where
  own : ∀ x ∈ L, x ∈ ownOf xs s g
  nd : (L.map CoinD.id).Nodup
  l0 : 0 < L.length
  l10 : L.length ≤ 10
  e1 : ex.length ≤ 1
  ev : ∀ y ∈ ex, rOut y = true
  fair : FairC s g xs (xs.map Cel.kept) r ex ch (sumC L - sumOu (ys ++ ex) - r * (3 + 7 * (L.length : Int) + 2 * ((ys ++ ex).length : Int)))
  pay : ∀ t : Int, 0 ≤ t → t ≤ 1099511627776 → payZ xs s g [] [] nx ys r t = payFin xs t L (ys ++ ex) ch
  nx : ex = [] ∨ nx ≤ ch
  ck : ∃ c, chooseZ r (orderZ r (ownOf xs s g)) (targetZ ys r) = some (L, c) ∧ (ex = [] ↔ ¬ 0 < c)
theorem Paid1.right {s : Int} {g : Nat} {xs : List Cel} {nx : Int} {ys : List (Int × Int)} {r : Int} {L : List CoinD} {ex : List (Int × Int)} {ch : Int} (h : Paid1 s g xs nx ys r L ex ch) (hd : Dp s g xs) (hs : Mk.isM s = true) (hg2 : g ≤ 20) (hy1 : 1 ≤ ys.length) (hy7 : ys.length ≤ 7) (hyr : ∀ y ∈ ys, rOut y = true) (t : Int) (h1 : 0 ≤ t) (h2 : t ≤ 1099511627776) : rTx t (L.map CoinD.inD) (ys ++ ex) = true := by
  have he := h.e1
  have hl := h.l10
  unfold rTx rIns rOuts
  simp only [Bool.and_eq_true, decide_eq_true_iff, List.all_eq_true, List.length_map, List.length_append]
  refine ⟨⟨h1, h2⟩, ⟨hl, fun x hx => ?_⟩, ⟨by omega, by omega⟩, fun y hy => ?_⟩
  · obtain ⟨c, hc, rfl⟩ := List.mem_map.1 hx
    have hh := hd.own hs hg2 (h.own c hc)
    unfold rIn CoinD.inD
    simp only [hh.2.1, hh.2.2]
    decide
  · rcases List.mem_append.1 hy with e | e
    · exact hyr y e
    · exact h.ev y e
/-- one of so many tags is new -/
theorem Paid1.tag {s : Int} {g : Nat} {xs : List Cel} {nx : Int} {ys : List (Int × Int)} {r : Int} {L : List CoinD} {ex : List (Int × Int)} {ch : Int} (h : Paid1 s g xs nx ys r L ex ch) (hd : Dp s g xs) (hs : Mk.isM s = true) (hg2 : g ≤ 20) (hy1 : 1 ≤ ys.length) (hy7 : ys.length ≤ 7) (hyr : ∀ y ∈ ys, rOut y = true) (hl : xs.length ≤ 24) (hall : ∀ j : Nat, j ≤ xs.length → payZ xs s g [] [] nx ys r (j : Int) = .inl 4) : False := by
  have hin : ∀ j, j < xs.length + 1 → idZ (j : Int) (L.map CoinD.inD) (ys ++ ex) ∈ xs.map Cel.id := fun j hj => by
    have h3 := hall j (by omega)
    rw [h.pay (j : Int) (by omega) (by omega)] at h3
    unfold payFin at h3
    split at h3
    · rename_i h4
      unfold hasId at h4
      rw [List.any_eq_true] at h4
      obtain ⟨x, hx, e⟩ := h4
      rw [beq_iff_eq] at e
      rw [← e]
      exact List.mem_map_of_mem hx
    · cases h3
  have := pigeon (xs.length + 1) (xs.map Cel.id) (fun j => idZ (j : Int) (L.map CoinD.inD) (ys ++ ex)) hin (fun i j hij hj => by
    have r1 := h.right hd hs hg2 hy1 hy7 hyr (i : Int) (by omega) (by omega)
    have r2 := h.right hd hs hg2 hy1 hy7 hyr (j : Int) (by omega) (by omega)
    show idZ _ _ _ ≠ idZ _ _ _
    unfold idZ
    rw [if_pos r1, if_pos r2]
    exact fun e => id_tag (i : Int) (j : Int) (L.map CoinD.inD) (ys ++ ex) (by omega) (by omega) (by omega) e.symm)
  rw [List.length_map] at this
  omega
end Go.Proofs.YtffgpepngcnjeabGreatQ

namespace Go.Proofs.YtffgpepngcnjeabGreatQ
open Go.RowKit
/-- a list of marks: which are gone -/
structure GoneAt (w : World) (G n : Nat) (gs : List Bool) : Prop where
  len : gs.length = n
  cell : ∀ j, j < n → w.cell? ⟨G, j, none⟩ = some (.bool (gs.getD j true))
  fz : ∀ j, w.frozen? ⟨G, j, none⟩ = false
theorem GoneAt.grown {w w' : World} {G n : Nat} {gs : List Bool} (h : GoneAt w G n gs) (hG : G < w.heap.size) (hb : Below w.heap.size w w') : GoneAt w' G n gs :=
  ⟨h.len, fun j hj => (hb.cell (p := ⟨G, j, none⟩) hG).trans (h.cell j hj), fun j => (hb.frozen (p := ⟨G, j, none⟩) hG).trans (h.fz j)⟩
theorem GoneAt.set {w : World} {G n : Nat} {gs : List Bool} (h : GoneAt w G n gs) (b : Nat) (hb : b < n) : GoneAt (w.setCell ⟨G, b, none⟩ (.bool true)) G n (gs.set b true) := by
  refine ⟨by rw [List.length_set]; exact h.len, fun j hj => ?_, fun j => by rw [World.frozen?_setCell]; exact h.fz j⟩
  by_cases e : j = b
  · subst e
    rw [World.cell?_setCell_same _ _ _ (h.cell j hj)]
    have := h.len
    simp [List.getD, show j < gs.length by omega]
  · rw [World.cell?_setCell_other _ _ _ _ (by intro e2; exact e (congrArg Addr.off e2).symm), h.cell j hj]
    simp [List.getD, show ¬ b = j from fun h => e h.symm]
theorem GoneAt.new (w : World) (n : Nat) : GoneAt (w.alloc (.cells (Go.madeCells #[Value.bool false] n) 4)) w.heap.size n (List.replicate n false) := by
  refine ⟨List.length_replicate, fun j hj => ?_, fun j => World.frozen?_alloc_at _ _ _ _ rfl⟩
  rw [World.cell?_alloc_new]
  have : (Go.madeCells #[Value.bool false] n)[j]? = some (Value.bool false) := by
    simp only [Go.madeCells, Array.getElem?_map]
    rw [Array.getElem?_eq_getElem (by simpa using hj)]
    simp [Nat.mod_one]
  simp [this, List.getD, hj]
/-- of the first k: the greatest that is not gone -/
def Bst (L : List CoinD) (gs : List Bool) (k : Nat) (bI : Int) : Prop :=
  (bI = -1 ∧ ∀ j, j < k → gs.getD j true = true) ∨
  ∃ b : Nat, bI = (b : Int) ∧ b < k ∧ gs.getD b true = false ∧ ∀ j, j < k → gs.getD j true = false → (L.getD j dN).val ≤ (L.getD b dN).val
theorem Bst.zero (L : List CoinD) (gs : List Bool) : Bst L gs 0 (-1) := Or.inl ⟨rfl, fun j hj => absurd hj (by omega)⟩
theorem Bst.first {L : List CoinD} {gs : List Bool} {k : Nat} (h : Bst L gs k (-1)) (hg : gs.getD k true = false) : Bst L gs (k + 1) (k : Int) := by
  rcases h with ⟨e, h⟩ | ⟨b', e, _⟩
  · refine Or.inr ⟨k, rfl, by omega, hg, fun j hj hg => ?_⟩
    by_cases ej : j = k
    · rw [ej]; exact Int.le_refl _
    · rw [h j (by omega)] at hg; cases hg
  · omega
theorem Bst.more {L : List CoinD} {gs : List Bool} {k b : Nat} (h : Bst L gs k (b : Int)) (hg : gs.getD k true = false) (hs : (L.getD b dN).val < (L.getD k dN).val) : Bst L gs (k + 1) (k : Int) := by
  rcases h with ⟨e, h⟩ | ⟨b', e, h1, h2, h3⟩
  · omega
  · have : b = b' := by omega
    subst this
    refine Or.inr ⟨k, rfl, by omega, hg, fun j hj hg => ?_⟩
    by_cases ej : j = k
    · rw [ej]; exact Int.le_refl _
    · have := h3 j (by omega) hg; omega
theorem Bst.bd {L : List CoinD} {gs : List Bool} {k : Nat} {bI : Int} (h : Bst L gs k bI) : bI = -1 ∨ ∃ b : Nat, bI = (b : Int) ∧ b < k := by
  rcases h with ⟨e, _⟩ | ⟨b, e, h1, _⟩
  · exact Or.inl e
  · exact Or.inr ⟨b, e, h1⟩
/-- what is taken so far -/
structure EnI (r : Int) (cs : List CoinD) (gs : List Bool) (k : Nat) (S : Int) : Prop where
  gl : gs.length = cs.length
  rl : (remG gs (cs.map (worthZ r))).length + k = cs.length
  gr : ∀ T, Gr (10 - k) (remG gs (cs.map (worthZ r))) T → Gr 10 (cs.map (worthZ r)) (S + T)
  bd : 0 ≤ S ∧ S ≤ 1099511627776 * (k : Int)
theorem EnI.zero (r : Int) (cs : List CoinD) : EnI r cs (List.replicate cs.length false) 0 0 := by
  have e : remG (List.replicate cs.length false) (cs.map (worthZ r)) = cs.map (worthZ r) := by
    have := rem_all (cs.map (worthZ r))
    rwa [List.length_map] at this
  refine ⟨List.length_replicate, by rw [e, List.length_map]; omega, fun T hT => ?_, by omega⟩
  rw [e] at hT
  rw [Int.zero_add]
  exact hT
theorem map_getD (r : Int) (cs : List CoinD) (j : Nat) (h : j < cs.length) : (cs.map (worthZ r)).getD j 0 = worthZ r (cs.getD j dN) := by
  simp [List.getD, h]
theorem EnI.step {r : Int} {cs : List CoinD} {gs : List Bool} {k : Nat} {S : Int} (h : EnI r cs gs k S) (hk : k < 10) (hr : 0 ≤ r) (hv : ∀ x ∈ cs, 0 ≤ x.val ∧ x.val ≤ 1099511627776) {b : Nat} (hb : Bst cs gs cs.length (b : Int)) : EnI r cs (gs.set b true) (k + 1) (S + mx0 (worthZ r (cs.getD b dN))) := by
  rcases hb with ⟨e, _⟩ | ⟨b', e, h1, h2, h3⟩
  · omega
  · have : b = b' := by omega
    subst this
    have hgl := h.gl
    have hl : gs.length = (cs.map (worthZ r)).length := by rw [List.length_map]; exact hgl
    have hlen := rem_len hl (by omega) h2
    have hrl := h.rl
    have hvb := hv (cs.getD b dN) (getD_mem cs dN b h1)
    have hbd := h.bd
    refine ⟨by rw [List.length_set]; exact hgl, by omega, fun T hT => ?_, ?_⟩
    · have h4 : Gr (10 - (k + 1) + 1) (remG gs (cs.map (worthZ r))) _ := gr_pick hl (by omega) h2 (fun j hj hg => by
        have hj2 : j < cs.length := by omega
        rw [map_getD r cs j hj2, map_getD r cs b h1]
        have := h3 j hj2 hg
        unfold worthZ
        omega) hT
      rw [show 10 - (k + 1) + 1 = 10 - k by omega, map_getD r cs b h1] at h4
      have := h.gr _ h4
      rw [Int.add_assoc]
      exact this
    · have h5 : 0 ≤ mx0 (worthZ r (cs.getD b dN)) ∧ mx0 (worthZ r (cs.getD b dN)) ≤ 1099511627776 := by
        unfold mx0 worthZ
        split <;> omega
      push_cast
      omega
theorem EnI.some {r : Int} {cs : List CoinD} {gs : List Bool} {k : Nat} {S : Int} (h : EnI r cs gs k S) (hk : k < cs.length) {bI : Int} (hb : Bst cs gs cs.length bI) : ∃ b : Nat, bI = (b : Int) ∧ b < cs.length := by
  rcases hb with ⟨_, hn⟩ | ⟨b, e, h1, _⟩
  · have hgl := h.gl
    have := rem_none (gs := gs) (vs := cs.map (worthZ r)) (by rw [List.length_map]; exact hgl) (fun j hj => hn j (by omega))
    have hrl := h.rl
    rw [this, List.length_nil] at hrl
    omega
  · exact ⟨b, e, h1⟩
theorem EnI.done {r : Int} {cs : List CoinD} {gs : List Bool} {k : Nat} {S : Int} (h : EnI r cs gs k S) (hk : k = 10 ∨ k = cs.length) : S = wsum r ((orderZ r cs).take 10) := by
  have hT : Gr (10 - k) (remG gs (cs.map (worthZ r))) 0 := by
    rcases hk with e | e
    · subst e; exact Gr.zero _
    · have hrl := h.rl
      have : remG gs (cs.map (worthZ r)) = [] := List.length_eq_zero_iff.1 (by omega)
      rw [this]
      exact Gr.nil _
  have := gr_order r 10 cs _ (h.gr 0 hT)
  rw [Int.add_zero] at this
  exact this
end Go.Proofs.YtffgpepngcnjeabGreatQ
