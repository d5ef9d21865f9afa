/-
  Funds: enough: do the greatest coins suffice?
  Funds: the walk.
  Package payments: Abandon.
  Back: sameNames; a payment given up; what a payment is, whatever was paid ahead of it.
-/
import Derived.Test.YtffgpepngcnjeabMam
import Derived.Test.YtffgpepngcnjeabMaf
import Derived.Test.YtffgpepngcnjeabMaj
import Derived.Laws.MakeOwn
import Derived.Test.YtffgpepngcnjeabMao
namespace Go.Proofs.Ytffgpepngcnjeab
open Go.RowKit
theorem below_dn {b : Nat} {w w' : World} (h : Below b w w') (n : Nat) : Below b w (w'.drewN n) := ⟨h.os, h.tape, h.output, h.size, h.block⟩
theorem info4 : (Try.prog.info? 4).map (fun i => (i.zero, i.size, i.bytes)) = some (some (.bool false), 1, 1) := by kernel_rfl
/-- a list of marks: which are gone -/
structure GoneAt (w : World) (G n : Nat) (gs : List Bool) : Prop where
  len : gs.length = n
  cell : ∀ j, j < n → w.cell? ⟨G, j, none⟩ = some (.bool (gs.getD j true))
  fz : ∀ j, w.frozen? ⟨G, j, none⟩ = false
theorem GoneAt.grown {w w' : World} {G n : Nat} {gs : List Bool} (h : GoneAt w G n gs) (hG : G < w.heap.size) (hb : Below w.heap.size w w') : GoneAt w' G n gs :=
  ⟨h.len, fun j hj => (hb.cell (p := ⟨G, j, none⟩) hG).trans (h.cell j hj), fun j => (hb.frozen (p := ⟨G, j, none⟩) hG).trans (h.fz j)⟩
theorem GoneAt.set {w : World} {G n : Nat} {gs : List Bool} (h : GoneAt w G n gs) (b : Nat) (hb : b < n) : GoneAt (w.setCell ⟨G, b, none⟩ (.bool true)) G n (gs.set b true) := by
  refine ⟨by rw [List.length_set]; exact h.len, fun j hj => ?_, fun j => by rw [World.frozen?_setCell]; exact h.fz j⟩
  by_cases e : j = b
  · subst e
    rw [World.cell?_setCell_same _ _ _ (h.cell j hj)]
    have := h.len
    simp [List.getD, show j < gs.length by omega]
  · rw [World.cell?_setCell_other _ _ _ _ (by intro e2; exact e (congrArg Addr.off e2).symm), h.cell j hj]
    simp [List.getD, show ¬ b = j from fun h => e h.symm]
theorem GoneAt.new (w : World) (n : Nat) : GoneAt (w.alloc (.cells (Go.madeCells #[Value.bool false] n) 4)) w.heap.size n (List.replicate n false) := by
  refine ⟨List.length_replicate, fun j hj => ?_, fun j => World.frozen?_alloc_at _ _ _ _ rfl⟩
  rw [World.cell?_alloc_new]
  have : (Go.madeCells #[Value.bool false] n)[j]? = some (Value.bool false) := by
    simp only [Go.madeCells, Array.getElem?_map]
    rw [Array.getElem?_eq_getElem (by simpa using hj)]
    simp [Nat.mod_one]
  simp [this, List.getD, hj]
theorem make_bools (n : Nat) (hn : n ≤ 1000000) : ∀ u : World, (Instr.makeSlice 83 (.int .i64 (n : Int)) (.int .i64 (n : Int))).run Try.prog u =
    .ok (.slice (some ⟨u.heap.size, 0, none⟩) n n) (u.alloc (.cells (Go.madeCells #[.bool false] n) 4)) := fun u => by
  obtain ⟨i0, hi, hz0, hz1, hz2⟩ := info_parts info4
  have h := run_make (P := Try.prog) u 83 4 i0 (.bool false) Try.underlying83 hi hz0 .i64 .i64 (n : Int) (n : Int) (by omega) (Int.le_refl _) (by rw [hz2]; omega) (by omega)
  have e : (n : Int).toNat = n := by omega
  rw [e] at h
  simpa [hz1, Value.cells] using h
/-- of the first k: the greatest that is not gone -/
def Bst (L : List CoinD) (gs : List Bool) (k : Nat) (bI : Int) : Prop :=
  (bI = -1 ∧ ∀ j, j < k → gs.getD j true = true) ∨
  ∃ b : Nat, bI = (b : Int) ∧ b < k ∧ gs.getD b true = false ∧ ∀ j, j < k → gs.getD j true = false → (L.getD j dN).val ≤ (L.getD b dN).val
theorem Bst.zero (L : List CoinD) (gs : List Bool) : Bst L gs 0 (-1) := Or.inl ⟨rfl, fun j hj => absurd hj (by omega)⟩
theorem Bst.skip {L : List CoinD} {gs : List Bool} {k : Nat} {bI : Int} (h : Bst L gs k bI) (hs : gs.getD k true = true) : Bst L gs (k + 1) bI := by
  rcases h with ⟨e, h⟩ | ⟨b, e, h1, h2, h3⟩
  · refine Or.inl ⟨e, fun j hj => ?_⟩
    by_cases ej : j = k
    · rw [ej]; exact hs
    · exact h j (by omega)
  · refine Or.inr ⟨b, e, by omega, h2, fun j hj hg => ?_⟩
    by_cases ej : j = k
    · rw [ej, hs] at hg; cases hg
    · exact h3 j (by omega) hg
theorem Bst.low {L : List CoinD} {gs : List Bool} {k b : Nat} (h : Bst L gs k (b : Int)) (hs : (L.getD k dN).val ≤ (L.getD b dN).val) : Bst L gs (k + 1) (b : Int) := by
  rcases h with ⟨e, h⟩ | ⟨b', e, h1, h2, h3⟩
  · omega
  · have : b = b' := by omega
    subst this
    refine Or.inr ⟨b, e, by omega, h2, fun j hj hg => ?_⟩
    by_cases ej : j = k
    · rw [ej]; exact hs
    · exact h3 j (by omega) hg
theorem Bst.first {L : List CoinD} {gs : List Bool} {k : Nat} (h : Bst L gs k (-1)) (hg : gs.getD k true = false) : Bst L gs (k + 1) (k : Int) := by
  rcases h with ⟨e, h⟩ | ⟨b', e, _⟩
  · refine Or.inr ⟨k, rfl, by omega, hg, fun j hj hg => ?_⟩
    by_cases ej : j = k
    · rw [ej]; exact Int.le_refl _
    · rw [h j (by omega)] at hg; cases hg
  · omega
theorem Bst.more {L : List CoinD} {gs : List Bool} {k b : Nat} (h : Bst L gs k (b : Int)) (hg : gs.getD k true = false) (hs : (L.getD b dN).val < (L.getD k dN).val) : Bst L gs (k + 1) (k : Int) := by
  rcases h with ⟨e, h⟩ | ⟨b', e, h1, h2, h3⟩
  · omega
  · have : b = b' := by omega
    subst this
    refine Or.inr ⟨k, rfl, by omega, hg, fun j hj hg => ?_⟩
    by_cases ej : j = k
    · rw [ej]; exact Int.le_refl _
    · have := h3 j (by omega) hg; omega
theorem Bst.bd {L : List CoinD} {gs : List Bool} {k : Nat} {bI : Int} (h : Bst L gs k bI) : bI = -1 ∨ ∃ b : Nat, bI = (b : Int) ∧ b < k := by
  rcases h with ⟨e, _⟩ | ⟨b, e, h1, _⟩
  · exact Or.inl e
  · exact Or.inr ⟨b, e, h1⟩
/-- what is taken so far -/
structure EnI (r : Int) (cs : List CoinD) (gs : List Bool) (k : Nat) (S : Int) : Prop where
  gl : gs.length = cs.length
  rl : (remG gs (cs.map (worthZ r))).length + k = cs.length
  gr : ∀ T, Gr (10 - k) (remG gs (cs.map (worthZ r))) T → Gr 10 (cs.map (worthZ r)) (S + T)
  bd : 0 ≤ S ∧ S ≤ 1099511627776 * (k : Int)
theorem EnI.zero (r : Int) (cs : List CoinD) : EnI r cs (List.replicate cs.length false) 0 0 := by
  have e : remG (List.replicate cs.length false) (cs.map (worthZ r)) = cs.map (worthZ r) := by
    have := rem_all (cs.map (worthZ r))
    rwa [List.length_map] at this
  refine ⟨List.length_replicate, by rw [e, List.length_map]; omega, fun T hT => ?_, by omega⟩
  rw [e] at hT
  rw [Int.zero_add]
  exact hT
theorem map_getD (r : Int) (cs : List CoinD) (j : Nat) (h : j < cs.length) : (cs.map (worthZ r)).getD j 0 = worthZ r (cs.getD j dN) := by
  simp [List.getD, h]
theorem EnI.step {r : Int} {cs : List CoinD} {gs : List Bool} {k : Nat} {S : Int} (h : EnI r cs gs k S) (hk : k < 10) (hr : 0 ≤ r) (hv : ∀ x ∈ cs, 0 ≤ x.val ∧ x.val ≤ 1099511627776) {b : Nat} (hb : Bst cs gs cs.length (b : Int)) : EnI r cs (gs.set b true) (k + 1) (S + mx0 (worthZ r (cs.getD b dN))) := by
  rcases hb with ⟨e, _⟩ | ⟨b', e, h1, h2, h3⟩
  · omega
  · have : b = b' := by omega
    subst this
    have hgl := h.gl
    have hl : gs.length = (cs.map (worthZ r)).length := by rw [List.length_map]; exact hgl
    have hlen := rem_len hl (by omega) h2
    have hrl := h.rl
    have hvb := hv (cs.getD b dN) (getD_mem cs dN b h1)
    have hbd := h.bd
    refine ⟨by rw [List.length_set]; exact hgl, by omega, fun T hT => ?_, ?_⟩
    · have h4 : Gr (10 - (k + 1) + 1) (remG gs (cs.map (worthZ r))) _ := gr_pick hl (by omega) h2 (fun j hj hg => by
        have hj2 : j < cs.length := by omega
        rw [map_getD r cs j hj2, map_getD r cs b h1]
        have := h3 j hj2 hg
        unfold worthZ
        omega) hT
      rw [show 10 - (k + 1) + 1 = 10 - k by omega, map_getD r cs b h1] at h4
      have := h.gr _ h4
      rw [Int.add_assoc]
      exact this
    · have h5 : 0 ≤ mx0 (worthZ r (cs.getD b dN)) ∧ mx0 (worthZ r (cs.getD b dN)) ≤ 1099511627776 := by
        unfold mx0 worthZ
        split <;> omega
      push_cast
      omega
theorem EnI.some {r : Int} {cs : List CoinD} {gs : List Bool} {k : Nat} {S : Int} (h : EnI r cs gs k S) (hk : k < cs.length) {bI : Int} (hb : Bst cs gs cs.length bI) : ∃ b : Nat, bI = (b : Int) ∧ b < cs.length := by
  rcases hb with ⟨_, hn⟩ | ⟨b, e, h1, _⟩
  · have hgl := h.gl
    have := rem_none (gs := gs) (vs := cs.map (worthZ r)) (by rw [List.length_map]; exact hgl) (fun j hj => hn j (by omega))
    have hrl := h.rl
    rw [this, List.length_nil] at hrl
    omega
  · exact ⟨b, e, h1⟩
theorem EnI.done {r : Int} {cs : List CoinD} {gs : List Bool} {k : Nat} {S : Int} (h : EnI r cs gs k S) (hk : k = 10 ∨ k = cs.length) : S = wsum r ((orderZ r cs).take 10) := by
  have hT : Gr (10 - k) (remG gs (cs.map (worthZ r))) 0 := by
    rcases hk with e | e
    · subst e; exact Gr.zero _
    · have hrl := h.rl
      have : remG gs (cs.map (worthZ r)) = [] := List.length_eq_zero_iff.1 (by omega)
      rw [this]
      exact Gr.nil _
  have := gr_order r 10 cs _ (h.gr 0 hT)
  rw [Int.add_zero] at this
  exact this
set_option maxRecDepth 100000 in
set_option maxHeartbeats 4000000 in
theorem enough_any (al : Option Addr) (n cl : Nat) (cs : List CoinD) (ap : Option Addr) (m d : Nat) (ys : List (Int × Int)) (r : Int) (w : World) (hc : RecAt CoinD.l w al cs) (hcn : cs.length = n) (hcm : n ≤ 1000) (hv : ∀ x ∈ cs, 0 ≤ x.val ∧ x.val ≤ 1099511627776) (hy : OutsAt w ap ys) (hyn : ys.length = m) (hym : m ≤ 100) (hyv : ∀ y ∈ ys, 0 ≤ y.2 ∧ y.2 ≤ 1099511627776) (hr : 0 ≤ r ∧ r ≤ 1000) :
    Calls Try.prog 12 #[.slice al n cl, .slice ap m d, .int .i64 r] w fun e w' => e = .returned (.bool (decide (targetZ ys r ≤ wsum r ((orderZ r cs).take 10)))) ∧ Below w.heap.size w w' := by
  have HX : Hid (OutsAt w ap ys) := hy
  have HN : Hid (ys.length = m) := hyn
  have HB : Hid (∀ y ∈ ys, 0 ≤ y.2 ∧ y.2 ≤ 1099511627776) := hyv
  have HC : Hid (RecAt CoinD.l w al cs) := hc
  have HCN : Hid (cs.length = n) := hcn
  have HV : Hid (∀ x ∈ cs, 0 ≤ x.val ∧ x.val ≤ 1099511627776) := hv
  clear hy hyn hyv hc hcn hv
  have hrn : 0 ≤ r * (3 + 2 * (m : Int)) ∧ r * (3 + 2 * (m : Int)) ≤ 203000 := ⟨Int.mul_nonneg hr.1 (by omega), by
    have h1 : r * (3 + 2 * (m : Int)) ≤ 1000 * (3 + 2 * (m : Int)) := Int.mul_le_mul_of_nonneg_right hr.2 (by omega)
    omega⟩
  have hw3 : IntKind.i64.wrap (r * (3 + 2 * (m : Int))) = r * (3 + 2 * (m : Int)) := IntWalk.i64_in _ ⟨by omega, by omega⟩
  have HT : Hid (targetZ ys r = r * (3 + 2 * (m : Int)) + sumOu ys) := by show _ = _; unfold targetZ; rw [HN.out]
  go_enter Try.func12, Try.ntmps12
  go_wp2_with (go_at_call 29; refine (fSize_any 0 m _ (by omega) (by omega)).mono ?_; rintro e w' ⟨rfl, rfl⟩; rw [show (3 : Int) + 7 * ((0 : Nat) : Int) + 2 * (m : Int) = 3 + 2 * (m : Int) by omega])
  generalize r * (3 + 2 * (m : Int)) = F at *
  clear hw3
  go_loopw [7, 8] (fun v i wr => ∃ (k : Nat) (T : Int), k ≤ m ∧ i = .int .i64 k ∧ v = .int .i64 T ∧ Hid (F + ((ys.take k).map Prod.snd).sum = T) ∧ Below w.heap.size w wr) (fun _ i _ => m - (intOf i).toNat)
  case atStart => exact ⟨0, F, Nat.zero_le _, rfl, rfl, by show F + _ = F; simp, Below.refl _ _⟩
  case round =>
    obtain ⟨k, T, hk, rfl, rfl, hT, hbl⟩ := hrel
    have hsz := hbl.size
    by_cases hlt : k < m
    · rcases HX.out with hnil | ⟨gg, off, rfl, hrow⟩
      · have := HN.out; rw [hnil] at this; simp at this; omega
      obtain ⟨c0, c1⟩ := (hrow.grown hbl) k (by rw [HN.out]; exact hlt)
      have HS : Hid _ := sum_snoc Prod.snd ys (0, 0) k (by rw [HN.out]; exact hlt)
      have hSb := sum_bd Prod.snd 1099511627776 (ys.take k) (fun x hx => HB.out x (List.mem_of_mem_take hx))
      have hyb := HB.out (ys.getD k (0, 0)) (getD_mem ys (0, 0) k (by rw [HN.out]; exact hlt))
      have hl2 : (ys.take k).length ≤ 100 := by rw [List.length_take]; omega
      have hT2 : 0 ≤ T ∧ T ≤ 120000000000000 := by have := hT.out; omega
      clear hrow hSb hl2
      generalize ys.getD k (0, 0) = y at c0 c1 HS hyb
      obtain ⟨y0, y1⟩ := y
      simp only at c0 c1 hyb
      go_wp2
      go_roundw
      case rel => exact ⟨k + 1, T + y1, by omega, by go_num, rfl, by show _ = _; rw [HS.out, ← Int.add_assoc, hT.out], hbl⟩
      case measure => simp [intOf]; omega
    · have HSe : Hid (targetZ ys r = T) := by show _ = _; rw [HT.out, ← hT.out, List.take_of_length_le (by rw [HN.out]; omega)]; rfl
      have hSb := sum_bd Prod.snd 1099511627776 (ys.take k) (fun x hx => HB.out x (List.mem_of_mem_take hx))
      have hl2 : (ys.take k).length ≤ 100 := by rw [List.length_take]; omega
      have hT2 : 0 ≤ T ∧ T ≤ 120000000000000 := by have := hT.out; omega
      obtain ⟨w1, rfl⟩ : ∃ w1 : World, w1 = wr := ⟨_, rfl⟩
      clear hSb hl2 hT HT HX HN HB
      have hmk := make_bools n (by omega)
      have HG0 : Hid (GoneAt (w1.alloc (.cells (Go.madeCells #[Value.bool false] n) 4)) w1.heap.size n (List.replicate n false)) := GoneAt.new w1 n
      have HB0 : Hid (Below w1.heap.size w1 (w1.alloc (.cells (Go.madeCells #[Value.bool false] n) 4))) := (Below.refl _ _).alloc (Nat.le_refl _) _
      have HS0 : Hid ((w1.alloc (.cells (Go.madeCells #[Value.bool false] n) 4)).heap.size = w1.heap.size + 1) := by show _ = _; simp
      have HC1 : Hid (RecAt CoinD.l w1 al cs) := HC.out.grown hbl
      have HE0 : Hid (EnI r cs (List.replicate n false) 0 0) := by have := EnI.zero r cs; rw [HCN.out] at this; exact this
      go_wp2
      generalize w1.alloc (.cells (Go.madeCells #[Value.bool false] n) 4) = w2 at *
      generalize hGe : w1.heap.size = G at *
      have HGe : Hid (w1.heap.size = G) := hGe
      clear hGe hmk HC
      go_loopw [7, 10] (fun v i wr => ∃ (q : Nat) (S : Int) (gs : List Bool), q ≤ 10 ∧ q ≤ n ∧ i = .int .i64 q ∧ v = .int .i64 (T - S) ∧ Hid (EnI r cs gs q S) ∧ Hid (GoneAt wr G n gs) ∧ Hid (Below G w1 wr) ∧ G < wr.heap.size) (fun _ i _ => 10 - (intOf i).toNat)
      case atStart => exact ⟨0, 0, _, by omega, by omega, rfl, by rw [Int.sub_zero], HE0.out, HG0.out, HB0.out, by have := HS0.out; omega⟩
      case round =>
        obtain ⟨q, S, gs, hq, hqn, rfl, rfl, hE, hgo, hbw, hGl⟩ := hrel
        have hSb := hE.out.bd
        by_cases hlt : q < 10 ∧ q < n
        · obtain ⟨hq10, hqn'⟩ := hlt
          have hqI : (q : Int) < (n : Int) := by omega
          have hqI2 : (q : Int) < 10 := by omega
          obtain ⟨wo, rfl⟩ : ∃ wo : World, wo = wr := ⟨_, rfl⟩
          go_wp2
          go_loopw [11, 12] (fun bv kv wr => ∃ (k : Nat) (bI : Int), k ≤ n ∧ kv = .int .i64 k ∧ bv = .int .i64 bI ∧ Hid (Bst cs gs k bI) ∧ Below wo.heap.size wo wr) (fun _ kv _ => n - (intOf kv).toNat)
          case atStart => exact ⟨0, -1, Nat.zero_le _, rfl, rfl, Bst.zero _ _, Below.refl _ _⟩
          case round =>
            obtain ⟨k, bI, hk, rfl, rfl, hb, hbi⟩ := hrel
            have hszo := hbi.size
            have HB1 : Hid (Below w1.heap.size w1 wr) := by rw [HGe.out]; exact hbw.out.trans (hbi.mono (by omega))
            have hGr : G < wr.heap.size := by omega
            have HG1 : Hid (GoneAt wr G n gs) := hgo.out.grown hGl hbi
            by_cases hlt : k < n
            · have hkl : k < cs.length := by rw [HCN.out]; exact hlt
              have hbd := hb.out.bd
              rcases HC1.out.grown HB1.out with hnil | ⟨gc, oc, rfl, hrow⟩
              · rw [hnil] at hkl; simp at hkl
              obtain ⟨e0, e1, e2, e3, e4, e5⟩ := coinCells hrow k hkl
              have HROW : Hid (VRow wr gc oc (cs.flatMap CoinD.l)) := hrow
              have gk := HG1.out.cell k hlt
              have HSK : Hid (gs.getD k true = true → Bst cs gs (k + 1) bI) := fun h => hb.out.skip h
              have HFI : Hid (bI = -1 → gs.getD k true = false → Bst cs gs (k + 1) (k : Int)) := fun e h => by subst e; exact hb.out.first h
              have HLO : Hid (∀ b : Nat, bI = (b : Int) → (cs.getD k dN).val ≤ (cs.getD b dN).val → Bst cs gs (k + 1) bI) := fun b e h => by subst e; exact hb.out.low h
              have HMO : Hid (∀ b : Nat, bI = (b : Int) → gs.getD k true = false → (cs.getD b dN).val < (cs.getD k dN).val → Bst cs gs (k + 1) (k : Int)) := fun b e h1 h => by subst e; exact hb.out.more h1 h
              have hkI : (k : Int) < (n : Int) := by omega
              have hk0 : (0 : Int) ≤ (k : Int) := by omega
              clear hrow hb
              generalize (cs.getD k dN).val = yv at *
              generalize gs.getD k true = gn at *
              clear e0 e1 e2 e4 e5
              cases gn
              · rcases hbd with rfl | ⟨b, rfl, hbk⟩
                · go_wp2
                  go_quiet (fail)
                  go_wp2
                  go_roundw
                  case rel => exact ⟨k + 1, k, by omega, by go_num, rfl, HFI.out (by first | trivial | rfl) (by first | trivial | rfl), below_dn hbi _⟩
                  case measure => simp [intOf]; omega
                · have hbl2 : b < cs.length := by rw [HCN.out]; omega
                  obtain ⟨_, _, _, b3, _, _⟩ := coinCells HROW.out b hbl2
                  have hbI : (b : Int) < (n : Int) := by omega
                  have hb0 : (0 : Int) ≤ (b : Int) := by omega
                  have hbn : decide ((b : Int) < 0) = false := decide_eq_false (by omega)
                  have HLO1 : Hid _ := HLO.out b rfl
                  have HMO1 : Hid _ := HMO.out b rfl
                  clear HLO HMO HFI HSK
                  generalize (cs.getD b dN).val = bv at *
                  by_cases hgt : bv < yv
                  · have hgd : decide (bv < yv) = true := decide_eq_true hgt
                    go_wp2
                    go_quiet (fail)
                    go_wp2
                    go_roundw
                    case rel => exact ⟨k + 1, k, by omega, by go_num, rfl, HMO1.out (by first | trivial | rfl) hgt, below_dn hbi _⟩
                    case measure => simp [intOf]; omega
                  · have hgd : decide (bv < yv) = false := decide_eq_false hgt
                    go_wp2
                    go_quiet (fail)
                    go_wp2
                    go_roundw
                    case rel => exact ⟨k + 1, b, by omega, by go_num, rfl, HLO1.out (by omega), below_dn hbi _⟩
                    case measure => simp [intOf]; omega
              · go_wp2
                go_quiet (fail)
                go_wp2
                go_roundw
                case rel => exact ⟨k + 1, bI, by omega, by go_num, rfl, HSK.out (by first | trivial | rfl), below_dn hbi _⟩
                case measure => simp [intOf]; omega
            · have hkn : k = n := by omega
              subst hkn
              have hbC : Bst cs gs cs.length bI := by rw [HCN.out]; exact hb.out
              obtain ⟨b, rfl, hbl3⟩ := hE.out.some (by rw [HCN.out]; exact hqn') hbC
              have HE1 : Hid (EnI r cs (gs.set b true) (q + 1) (S + mx0 (worthZ r (cs.getD b dN)))) := hE.out.step hq10 hr.1 HV.out hbC
              have hbk : b < k := by rw [HCN.out] at hbl3; exact hbl3
              rcases HC1.out.grown HB1.out with hnil | ⟨gc, oc, rfl, hrow⟩
              · rw [hnil] at hbl3; simp at hbl3
              obtain ⟨e0, e1, e2, e3, e4, e5⟩ := coinCells hrow b hbl3
              have hgcG : gc ≠ G := by
                have h6 : gc < w1.heap.size := by
                  rcases HC1.out with hn2 | ⟨g3, o3, e3', hr3⟩
                  · rw [hn2] at hbl3; simp at hbl3
                  · injection e3' with e3'
                    injection e3' with e3' _ _
                    subst e3'
                    exact cell_lt (coinCells hr3 b hbl3).1
                rw [HGe.out] at h6
                omega
              have hvb := HV.out (cs.getD b dN) (getD_mem cs dN b hbl3)
              have gk := HG1.out.cell b hbk
              have gf := HG1.out.fz b
              have HG2 : Hid (GoneAt (wr.setCell ⟨G, b, none⟩ (.bool true)) G k (gs.set b true)) := HG1.out.set b hbk
              have HB2 : Hid (Below G w1 (wr.setCell ⟨G, b, none⟩ (.bool true))) := by have := HB1.out; rw [HGe.out] at this; exact this.setCell (Nat.le_refl _) _
              have hS2 : (wr.setCell ⟨G, b, none⟩ (.bool true)).heap.size = wr.heap.size := by simp
              have q3 : (wr.setCell ⟨G, b, none⟩ (.bool true)).cell? ⟨gc, oc + b * 6 + 3, none⟩ = some (.int .i64 (cs.getD b dN).val) := sob e3 hgcG
              have hbI : (b : Int) < (k : Int) := by omega
              have hb0 : (0 : Int) ≤ (b : Int) := by omega
              have hbn : decide ((b : Int) < 0) = false := decide_eq_false (by omega)
              have HWD : Hid (worthZ r (cs.getD b dN) = (cs.getD b dN).val - 7 * r) := rfl
              clear hrow hb hbC e0 e1 e2 e3 e4 e5 hgo hE HG1 HB1 hbw
              rw [HWD.out] at HE1
              generalize (cs.getD b dN).val = yv at *
              have hw1 : IntKind.i64.wrap (7 * r) = 7 * r := IntWalk.i64_in _ ⟨by omega, by omega⟩
              have hw2 : IntKind.i64.wrap (yv - 7 * r) = yv - 7 * r := IntWalk.i64_in _ ⟨by omega, by omega⟩
              have hm0 : mx0 (yv - 7 * r) = if 0 < yv - 7 * r then yv - 7 * r else 0 := rfl
              have HM0 : Hid (mx0 (yv - 7 * r) = if 0 < yv - 7 * r then yv - 7 * r else 0) := hm0
              clear hm0
              go_upto_region 18 with fail
              generalize wr.setCell ⟨G, b, none⟩ (.bool true) = w5 at *
              clear gk gf
              have hSb2 : S ≤ 10995116277760 := by omega
              by_cases hp : 0 < yv - 7 * r
              · have hw4 : IntKind.i64.wrap (T - S - (yv - 7 * r)) = T - S - (yv - 7 * r) := IntWalk.i64_in _ ⟨by omega, by omega⟩
                have HE2 : Hid (EnI r cs (gs.set b true) (q + 1) (S + (yv - 7 * r))) := by have := HE1.out; rw [HM0.out, if_pos hp] at this; exact this
                go_wp2
                go_roundw
                case rel => exact ⟨q + 1, S + (yv - 7 * r), gs.set b true, by omega, by omega, by go_num, by rw [← Int.sub_sub], HE2.out, HG2.out, HB2.out, by omega⟩
                case measure => simp [intOf]; omega
              · have HE2 : Hid (EnI r cs (gs.set b true) (q + 1) S) := by have := HE1.out; rw [HM0.out, if_neg hp, Int.add_zero] at this; exact this
                have hpd : decide (0 < yv - 7 * r) = false := decide_eq_false hp
                go_wp2
                go_roundw
                case rel => exact ⟨q + 1, S, gs.set b true, by omega, by omega, by go_num, rfl, HE2.out, HG2.out, HB2.out, by omega⟩
                case measure => simp [intOf]; omega
        · have HD : Hid (S = wsum r ((orderZ r cs).take 10)) := hE.out.done (by rw [HCN.out]; omega)
          have HBF : Hid (Below w.heap.size w wr) := hbl.trans (by have := hbw.out; rw [← HGe.out] at this; exact this.mono (by rw [HGe.out]; exact hsz))
          have HFI : Hid (decide (targetZ ys r ≤ wsum r ((orderZ r cs).take 10)) = decide (T - S ≤ 0)) := by
            show _ = _
            rw [HSe.out, ← HD.out]
            by_cases h : T ≤ S
            · rw [decide_eq_true h, decide_eq_true (show T - S ≤ 0 by omega)]
            · rw [decide_eq_false h, decide_eq_false (show ¬ T - S ≤ 0 by omega)]
          by_cases h10 : q < 10
          · have hqI : ¬ (q : Int) < (n : Int) := by omega
            have hqI2 : (q : Int) < 10 := by omega
            go_wp2
            go_ret
            exact ⟨ret_bool HFI.out.symm, HBF.out⟩
          · have hqI2 : ¬ (q : Int) < 10 := by omega
            go_wp2
            go_ret
            exact ⟨ret_bool HFI.out.symm, HBF.out⟩
end Go.Proofs.Ytffgpepngcnjeab

namespace Go.Proofs.Ytffgpepngcnjeab
open Go.RowKit
theorem own_cap {α : Type} {f : α → List Value} {e k : Nat} {w : World} {base n c : Nat} {ao : Option Addr} {xs : List α} (h : OwnRec f e k w base (.slice ao n c) xs) : xs.length = n ∧ n ≤ c := by
  rcases h.2 with ⟨e, h0⟩ | ⟨g, cap, cur, e, _, _, hc, _⟩
  · injection e with _ e2 e3
    omega
  · injection e with _ e2 e3
    omega
/-- a purse without payments -/
theorem pp_none {w : World} {P : Nat} {s : Int} {g : Nat} {v : Value} {h : Int} {xs : List Cel} (hp : PAt w P s g v h xs) : PP (fun _ => False) w P s g v h xs (.slice none 0 0) (.slice none 0 0) 0 0 [] [] := by
  refine ⟨⟨hp.c0, hp.c1, hp.f0, hp.f1, hp.own, fun q hq => hp.ext q ?_⟩, ⟨(hp.ext (4, .slice none 0 0) (by simp)).2.2, (hp.ext (5, .slice none 0 0) (by simp)).2.2, (hp.ext (6, .int .i64 0) (by simp)).2.2, (hp.ext (7, .int .i64 0) (by simp)).2.2, hp.f1, OwnRec.nil _ _ _ _ _, OwnRec.nil _ _ _ _ _, fun p hp => (by cases hp), by omega, fun k hk => (by cases hk), fun k hk => hk.elim⟩, fun k hk => ⟨fun e => (by cases e), fun e => (by cases e), fun e => e⟩⟩
  simp only [List.mem_cons, List.not_mem_nil, or_false] at hq ⊢
  rcases hq with rfl | rfl <;> simp
theorem Sn.fr {S P : Nat} {s : Int} {g : Nat} {vi : Value} {ac : Option Addr} {cc : Nat} {cs : List CoinD} {w w' : World} {E : Nat → Prop} (h : Sn S P s g vi ac cc cs w) (hf : Fr E w w') (h1 : ¬ E S) (h2 : ∀ a, ac = some a → ¬ E a.block) : Sn S P s g vi ac cc cs w' :=
  ⟨hf.cell h.c0 h1, hf.cell h.c1 h1, hf.cell h.c2 h1, hf.cell h.c3 h1, hf.cell h.c4 h1, rec_fr hf h.at_ (fun _ a ha => h2 a ha)⟩
/-- what a payment of a scene is, seen from behind -/
def ScPaid (S P : Nat) (s : Int) (g : Nat) (v vi : Value) (ac : Option Addr) (cc : Nat) (h : Int) (xs : List Cel) (ys : List (Int × Int)) (r : Int) (can : Bool) (n0 t : Int) (ai : Option Addr) (n2 ci : Nat) (ap : Option Addr) (n3 cp : Nat) (ak : Option Addr) (n4 ck : Nat) (ch er : Int) (w : World) : Prop :=
  Sn S P s g vi ac cc (xs.map Cel.kept) w ∧
  ((can = false ∧ er = 9 ∧ n0 = 0 ∧ t = 0 ∧ ai = none ∧ n2 = 0 ∧ ci = 0 ∧ ap = none ∧ n3 = 0 ∧ cp = 0 ∧ ak = none ∧ n4 = 0 ∧ ck = 0 ∧ ch = 0 ∧ PAt w P s g v h xs) ∨
   (can = true ∧ er = 10 ∧ unpZ xs s g 0 = none ∧ n0 = 0 ∧ t = 0 ∧ ai = none ∧ n2 = 0 ∧ ci = 0 ∧ ap = none ∧ n3 = 0 ∧ cp = 0 ∧ ak = none ∧ n4 = 0 ∧ ck = 0 ∧ ch = 0 ∧ PAt w P s g v h xs) ∨
   (can = true ∧ er = 0 ∧ n0 = 0 ∧ ∃ L ex NN vl' vs' md nx p, Paid1 s g xs 0 ys r L ex ch ∧ PP NN w P s g v h xs vl' vs' md nx [p] [] ∧ p.cs = L ∧ L.length = n2 ∧ n2 = n4 ∧ (ys ++ ex).length = n3 ∧ n3 ≤ cp ∧ RecAt inC w ai L ∧ RecAt kC w ak L ∧ OutsAt w ap (ys ++ ex)))
theorem ScPaid.grown {S P : Nat} {s : Int} {g : Nat} {v vi : Value} {ac : Option Addr} {cc : Nat} {h : Int} {xs : List Cel} {ys : List (Int × Int)} {r : Int} {can : Bool} {n0 t : Int} {ai : Option Addr} {n2 ci : Nat} {ap : Option Addr} {n3 cp : Nat} {ak : Option Addr} {n4 ck : Nat} {ch er : Int} {w w' : World} (u : ScPaid S P s g v vi ac cc h xs ys r can n0 t ai n2 ci ap n3 cp ak n4 ck ch er w) (hb : Below w.heap.size w w') : ScPaid S P s g v vi ac cc h xs ys r can n0 t ai n2 ci ap n3 cp ak n4 ck ch er w' := by
  refine ⟨u.1.grown hb, ?_⟩
  rcases u.2 with ⟨h1, h2, h3, h4, h5, h6, h7, h8, h9, h10, h11, h12, h13, h14, h15⟩ | ⟨h1, h2, h3, h4, h5, h6, h7, h8, h9, h10, h11, h12, h13, h14, h15, h16⟩ | ⟨h1, h2, h3, L, ex, NN, vl', vs', md, nx, p, g1, g2, g3, g4, g5, g6, g7, g8, g9, g10⟩
  · exact Or.inl ⟨h1, h2, h3, h4, h5, h6, h7, h8, h9, h10, h11, h12, h13, h14, h15.grown hb⟩
  · exact Or.inr (Or.inl ⟨h1, h2, h3, h4, h5, h6, h7, h8, h9, h10, h11, h12, h13, h14, h15, h16.grown hb⟩)
  · exact Or.inr (Or.inr ⟨h1, h2, h3, L, ex, NN, vl', vs', md, nx, p, g1, g2.grown hb, g3, g4, g5, g6, g7, g8.grown hb, g9.grown hb, g10.grown hb⟩)
/-- the sums behind a payment -/
def balF (tot : Int) (can : Bool) (er : Int) (L : List CoinD) : Int := if can = true ∧ er = 0 then tot - sumC L else tot
end Go.Proofs.Ytffgpepngcnjeab

namespace Go.Proofs.Ytffgpepngcnjeab
open Go.RowKit
/-- those that are left when the payment of a number is given up -/
def leftZ (ps : List PayD) (k : Int) : List PayD := ps.filter fun p => p.num != k
/-- what Abandon leaves: the error, the list -/
def AbOk (N : Nat → Prop) (b o base : Nat) (vs : Value) (md nx : Int) (ps : List PayD) (ks : List (Int × Int)) (k : Int) (er : Int) (w w' : World) : Prop :=
  ((leftZ ps k).length = ps.length ∧ er = 11 ∧ Below w.heap.size w w') ∨ ((leftZ ps k).length ≠ ps.length ∧ er = 0 ∧ ∃ vl', LsAt N w' b o base vl' vs md nx (leftZ ps k) ks ∧ Fr (fun q => q = b) w w' ∧ (∀ q, vl'.ownBlock = some q → w.heap.size ≤ q) ∧ (∀ j, j ≠ o → w'.cell? ⟨b, j, none⟩ = w.cell? ⟨b, j, none⟩))
theorem LsAt.swap {N : Nat → Prop} {w : World} {b o base : Nat} {vl vs : Value} {md nx : Int} {ps : List PayD} {ks : List (Int × Int)} (h : LsAt N w b o base vl vs md nx ps ks) {w1 : World} {v : Value} {qs : List PayD} (hb : Below w.heap.size w w1) (hbs : base ≤ w.heap.size) (hown : OwnRec PayD.v 119 5 w1 w.heap.size v qs) (hq : ∀ p ∈ qs, p ∈ ps) : LsAt N (w1.setCell ⟨b, o, none⟩ v) b o base v vs md nx qs ks := by
  have h1 := h.grown hb
  have hnb := h.nb
  have hbl : b < w.heap.size := cell_lt h.c0
  have hf : Fr (fun k => k = b) w1 (w1.setCell ⟨b, o, none⟩ v) := (Fr.refl _ w1).set b o _ (fun _ => rfl)
  have hvb : ∀ q, v.ownBlock = some q → w.heap.size ≤ q := fun q hq => (hown.blk q hq).1
  refine ⟨ss h1.c0, so h1.c1 (by omega), so h1.c2 (by omega), so h1.c3 (by omega), fun j => by rw [World.frozen?_setCell]; exact h1.fz j, owns_lower (own_set hown _ _ _ (fun e => by have := hvb _ e; omega)) hbs, own_set h1.os _ _ _ (fun e => by have := (h1.os.blk _ e).1; omega), fun p hp => (h1.ok p (hq p hp)).fr hf (fun k hk => (h1.nN k hk).2.1), h1.nb, fun k hk e => ?_, fun k hk => ⟨by simpa using (h1.nN k hk).1, (h1.nN k hk).2.1, fun e => ?_, (h1.nN k hk).2.2.2⟩⟩
  · have := hvb k hk
    have := (h.os.blk k e).2
    omega
  · have := hvb k e
    have := (h.nN k hk).1
    omega
set_option maxRecDepth 100000 in
set_option maxHeartbeats 2000000 in
theorem lAbandon_any (N : Nat → Prop) (b o base : Nat) (vl vs : Value) (md nx : Int) (ps : List PayD) (ks : List (Int × Int)) (k : Int) (w : World) (hL : LsAt N w b o base vl vs md nx ps ks) (hbs : base ≤ w.heap.size) (hpl : ps.length ≤ 1000000000000) :
    Calls Try.prog 25 #[.pointer (some ⟨b, o, none⟩), .int .i64 k] w fun e w' => ∃ er, e = .returned (.int .i64 er) ∧ AbOk N b o base vs md nx ps ks k er w w' := by
  obtain ⟨ao, c, ev, hat⟩ := OwnRec.at pay5 hL.ol
  subst ev
  have HL : Hid (LsAt N w b o base (.slice ao ps.length c) vs md nx ps ks) := hL
  have HA : Hid (RecAt PayD.v w ao ps) := hat
  have c0 := hL.c0
  have cf := hL.fz o
  have hbl : b < w.heap.size := cell_lt c0
  clear hL hat
  generalize hn : ps.length = n at *
  have HN : Hid (ps.length = n) := hn
  clear hn
  generalize hB : w.heap.size = B at *
  have HB : Hid (w.heap.size = B) := hB
  clear hB
  go_enter Try.func25, Try.ntmps25
  go_wp2
  go_loopw [5, 13] (fun v i wr => ∃ j : Nat, j ≤ n ∧ i = .int .i64 j ∧ OwnRec PayD.v 119 5 wr B v (leftZ (ps.take j) k) ∧ Below B w wr) (fun _ i _ => n - (intOf i).toNat)
  case atStart => exact ⟨0, Nat.zero_le _, rfl, OwnRec.nil _ _ _ _ _, Below.refl _ _⟩
  case round =>
    obtain ⟨j, hj, rfl, hown, hbl2⟩ := hrel
    have hsz := hbl2.size
    rw [HB.out] at hsz
    have d0 := (hbl2.cell (p := ⟨b, o, none⟩) hbl).trans c0
    have df := (hbl2.frozen (p := ⟨b, o, none⟩) hbl).trans cf
    by_cases hlt : j < n
    · rcases HA.out with hnil | ⟨gg, off, rfl, hrow⟩
      · have := HN.out; rw [hnil] at this; simp at this; omega
      obtain ⟨e0, e1, e2, e3, e4⟩ := payCells (hrow.grown (by rw [HB.out]; exact hbl2)) j (by rw [HN.out]; exact hlt)
      have HS : Hid _ := filter_snoc (fun p : PayD => p.num != k) ps dP j (by rw [HN.out]; exact hlt)
      have HLN : Hid ((leftZ (ps.take j) k).length ≤ 1000000000000) := by show _ ≤ _; have := List.length_filter_le (fun p : PayD => p.num != k) (ps.take j); rw [List.length_take] at this; unfold leftZ; omega
      have HLE : Hid (leftZ (ps.take j) k = (ps.take j).filter fun p => p.num != k) := rfl
      have HO : Hid (OwnRec PayD.v 119 5 wr B u5 (leftZ (ps.take j) k)) := hown
      have HLS : Hid (leftZ (ps.take (j + 1)) k = (ps.take (j + 1)).filter fun p => p.num != k) := rfl
      clear hrow hown
      rw [← HLE.out] at HS
      generalize ps.getD j dP = y at *
      generalize leftZ (ps.take j) k = acc at *
      obtain ⟨y0, y1, y2, y3, y4, y5, y6, y7, y8, y9, y10⟩ := y
      simp only at e0 e1 e2 e3 e4
      cases hk : (y0 != k)
      · have HR : Hid (leftZ (ps.take (j + 1)) k = acc) := by show _ = _; rw [HLS.out, HS.out, hk, if_neg (by simp), List.append_nil]
        go_wp2
        go_roundw
        case rel => exact ⟨j + 1, by omega, by go_num, by rw [HR.out]; exact HO.out.alloc _, hbl2.alloc (by omega) _⟩
        case measure => simp [intOf]; omega
      · have HR : Hid (leftZ (ps.take (j + 1)) k = acc ++ [⟨y0, y1, y2, y3, y4, y5, y6, y7, y8, y9, y10⟩]) := by show _ = _; rw [HLS.out, HS.out, hk, if_pos rfl]
        have hO1 := HO.out.alloc (.cells #[.int .i64 y0, .slice y1 y2 y3, .slice y4 y5 y6, .int .i64 y7, .bool y8] 119)
        have HO1 : Hid (OwnRec PayD.v 119 5 (wr.alloc (.cells #[.int .i64 y0, .slice y1 y2 y3, .slice y4 y5 y6, .int .i64 y7, .bool y8] 119)) B u5 acc) := hO1
        have hb1 := hbl2.alloc (show B ≤ wr.heap.size by omega) (.cells #[.int .i64 y0, .slice y1 y2 y3, .slice y4 y5 y6, .int .i64 y7, .bool y8] 119)
        have h5 := P5.new wr (.int .i64 y0) (.slice y1 y2 y3) (.slice y4 y5 y6) (.int .i64 y7) (.bool y8) 119
        obtain ⟨z0, z1, z2, z3, z4, _⟩ := h5
        clear hO1
        go_upto_region 5 with fail
        have hz1 : (wr.alloc (.cells #[.int .i64 y0, .slice y1 y2 y3, .slice y4 y5 y6, .int .i64 y7, .bool y8] 119)).heap.size = wr.heap.size + 1 := by simp
        have hBz : B ≤ (wr.alloc (.cells #[.int .i64 y0, .slice y1 y2 y3, .slice y4 y5 y6, .int .i64 y7, .bool y8] 119)).heap.size := by omega
        clear hz1 e0 e1 e2 e3 e4
        generalize wr.alloc (.cells #[.int .i64 y0, .slice y1 y2 y3, .slice y4 y5 y6, .int .i64 y7, .bool y8] 119) = w1 at *
        generalize wr.heap.size = X at *
        go_wp2_with (at_builtin; refine wpList_appR 75 72 _ Try.underlying75 info119 rfl (by decide) pay5 pay_one (w1.alloc (.cells #[.int .i64 y0, .slice y1 y2 y3, .slice y4 y5 y6, .int .i64 y7, .bool y8] 119)) rfl _ _ rfl B w1.heap.size 1 u5 acc ⟨y0, y1, y2, y3, y4, y5, y6, y7, y8, y9, y10⟩ (by rfl) (by rfl) (HO1.out.alloc _) (vrow_new _ _ _) (by simp; omega) (by have := HLN.out; unfold maxLen; omega) (by have := HLN.out; omega) ?_; intro g' cap w5 hown5 hg5 _ _)
        go_roundw
        case rel => exact ⟨j + 1, by omega, by go_num, by rw [HR.out]; exact hown5, hb1.trans (gb_to_below (gb_trans (gb_alloc _ _ _) hg5) (by omega) (fun r hr => (HO1.out.blk r hr).1))⟩
        case measure => simp [intOf]; omega
    · have HE : Hid (ps.take j = ps) := by show _ = _; rw [List.take_of_length_le (by rw [HN.out]; omega)]
      rw [HE.out] at hown
      obtain ⟨a2, c2, e2, _⟩ := OwnRec.at pay5 hown
      subst e2
      have HO : Hid (OwnRec PayD.v 119 5 wr B (.slice a2 (leftZ ps k).length c2) (leftZ ps k)) := hown
      have HBW : Hid (Below B w wr) := hbl2
      have HQ : Hid (∀ p ∈ leftZ ps k, p ∈ ps) := fun p hp => (List.mem_filter.1 hp).1
      have HAB : Hid (∀ er w', AbOk N b o base vs md nx ps ks k er w w' ↔ (((leftZ ps k).length = n ∧ er = 11 ∧ Below B w w') ∨ ((leftZ ps k).length ≠ n ∧ er = 0 ∧ ∃ vl', LsAt N w' b o base vl' vs md nx (leftZ ps k) ks ∧ Fr (fun q => q = b) w w' ∧ (∀ q, vl'.ownBlock = some q → B ≤ q) ∧ (∀ j, j ≠ o → w'.cell? ⟨b, j, none⟩ = w.cell? ⟨b, j, none⟩)))) := fun er w' => by unfold AbOk; rw [HN.out, HB.out]
      clear hown
      generalize leftZ ps k = qs at *
      generalize hql : qs.length = ql at *
      by_cases hq : ql = n
      · subst hq
        go_wp2
        go_ret
        exact ⟨11, rfl, (HAB.out _ _).2 (Or.inl ⟨by first | rfl | trivial, rfl, HBW.out⟩)⟩
      · have hqI : ((ql : Int) == (n : Int)) = false := by rw [beq_eq_false_iff_ne]; omega
        have HF : Hid (LsAt N (wr.setCell ⟨b, o, none⟩ (.slice a2 ql c2)) b o base (.slice a2 ql c2) vs md nx qs ks) := HL.out.swap (by rw [HB.out]; exact HBW.out) (by rw [HB.out]; exact hbs) (by rw [HB.out]; exact HO.out) HQ.out
        have HFr : Hid (Fr (fun q => q = b) w (wr.setCell ⟨b, o, none⟩ (.slice a2 ql c2))) := (Fr.of_below (by rw [HB.out]; exact HBW.out) _).set b o _ (fun _ => rfl)
        have HCJ : Hid (∀ j, j ≠ o → (wr.setCell ⟨b, o, none⟩ (.slice a2 ql c2)).cell? ⟨b, j, none⟩ = w.cell? ⟨b, j, none⟩) := fun j hj => by
          rw [cell_oth _ _ _ _ _ (fun e => hj e.symm)]
          exact HBW.out.cell (p := ⟨b, j, none⟩) hbl
        go_wp2
        go_ret
        exact ⟨0, rfl, (HAB.out _ _).2 (Or.inr ⟨hq, rfl, _, HF.out, HFr.out, fun q hq2 => (HO.out.blk q hq2).1, HCJ.out⟩)⟩
set_option maxRecDepth 100000 in
set_option maxHeartbeats 1000000 in
theorem pAbandon_any (N : Nat → Prop) (P : Nat) (s : Int) (g : Nat) (v : Value) (h : Int) (xs : List Cel) (vl vs : Value) (md nx : Int) (ps : List PayD) (ks : List (Int × Int)) (k : Int) (w : World) (u : PP N w P s g v h xs vl vs md nx ps ks) (hpl : ps.length ≤ 1000000000000) :
    Calls Try.prog 10 #[.pointer (some ⟨P, 0, none⟩), .int .i64 k] w fun e w' => ∃ er, e = .returned (.int .i64 er) ∧ AbOk N P 4 (P + 1) vs md nx ps ks k er w w' := by
  have HL : Hid (LsAt N w P 4 (P + 1) vl vs md nx ps ks) := u.ls
  have hb : P + 1 ≤ w.heap.size := cell_lt u.ls.c0
  clear u
  go_enter Try.func10, Try.ntmps10
  go_wp2_with fail
  refine (lAbandon_any N P 4 (P + 1) vl vs md nx ps ks k _ HL.out hb hpl).mono ?_
  rintro e w1 ⟨er, rfl, hr⟩
  have HR : Hid (AbOk N P 4 (P + 1) vs md nx ps ks k er w w1) := hr
  clear hr
  go_wp2
  go_ret
  exact ⟨er, rfl, HR.out⟩
end Go.Proofs.Ytffgpepngcnjeab

namespace Go.Proofs.Ytffgpepngcnjeab
open Go.RowKit
set_option maxRecDepth 100000 in
set_option maxHeartbeats 1000000 in
theorem sameNames_row (a1 o1 a2 o2 n c d : Nat) (L : List CoinD) (w : World) (h1 : VRow w a1 o1 (L.flatMap inC)) (h2 : VRow w a2 o2 (L.flatMap inC)) (hn : L.length = n) (hm : n ≤ 1000) :
    Calls Try.prog 14 #[.slice (some ⟨a1, o1, none⟩) n c, .slice (some ⟨a2, o2, none⟩) n d] w fun e w' => e = .returned (.bool true) ∧ Below w.heap.size w w' := by
  have H1 : Hid (VRow w a1 o1 (L.flatMap inC)) := h1
  have H2 : Hid (VRow w a2 o2 (L.flatMap inC)) := h2
  have HN : Hid (L.length = n) := hn
  clear h1 h2 hn
  go_enter Try.func14, Try.ntmps14
  go_wp2
  go_loopw [5] (fun i wr => ∃ k : Nat, k ≤ n ∧ i = .int .i64 k ∧ Below w.heap.size w wr) (fun i _ => n - (intOf i).toNat)
  case atStart => exact ⟨0, Nat.zero_le _, rfl, Below.refl _ _⟩
  case round =>
    obtain ⟨k, hk, rfl, hbl⟩ := hrel
    by_cases hlt : k < n
    · have hkl : k < L.length := by rw [HN.out]; exact hlt
      have r1 := H1.out.grown hbl
      have r2 := H2.out.grown hbl
      have c1 : wr.cell? ⟨a1, o1 + k * 3, none⟩ = some (.int .i64 (L.getD k dN).id) := rcell inC3 dN r1 k hkl 0 (by omega)
      have c2 : wr.cell? ⟨a1, o1 + k * 3 + 1, none⟩ = some (.int .i64 (L.getD k dN).pos) := rcell inC3 dN r1 k hkl 1 (by omega)
      have c3 : wr.cell? ⟨a2, o2 + k * 3, none⟩ = some (.int .i64 (L.getD k dN).id) := rcell inC3 dN r2 k hkl 0 (by omega)
      have c4 : wr.cell? ⟨a2, o2 + k * 3 + 1, none⟩ = some (.int .i64 (L.getD k dN).pos) := rcell inC3 dN r2 k hkl 1 (by omega)
      clear r1 r2
      generalize (L.getD k dN).id = ya at *
      generalize (L.getD k dN).pos = yv at *
      have k1 : (k : Int) < (n : Int) := by omega
      have k0 : (0 : Int) ≤ (k : Int) := by omega
      have gd : (ya != ya) = false := by simp
      go_wp2
      go_quiet (fail)
      go_wp2
      go_roundw
      case rel => exact ⟨k + 1, by omega, by go_num, below_drewN hbl _⟩
      case measure => simp [intOf]; omega
    · go_wp2
      go_ret
      exact ⟨rfl, hbl⟩
theorem sameNames_any (ai bi : Option Addr) (n c d : Nat) (L : List CoinD) (w : World) (h1 : RecAt inC w ai L) (h2 : RecAt inC w bi L) (hn : L.length = n) (h0 : 0 < n) (hm : n ≤ 1000) :
    Calls Try.prog 14 #[.slice ai n c, .slice bi n d] w fun e w' => e = .returned (.bool true) ∧ Below w.heap.size w w' := by
  rcases h1 with h | ⟨a1, o1, rfl, r1⟩
  · rw [h] at hn; simp at hn; omega
  · rcases h2 with h | ⟨a2, o2, rfl, r2⟩
    · rw [h] at hn; simp at hn; omega
    · exact sameNames_row a1 o1 a2 o2 n c d L w r1 r2 hn hm
/-- the purse behind Abandon -/
theorem PP.given {N : Nat → Prop} {w w' : World} {P : Nat} {s : Int} {g : Nat} {v : Value} {h : Int} {xs : List Cel} {vl vs vl' : Value} {md nx : Int} {ps qs : List PayD} {ks : List (Int × Int)} (u : PP N w P s g v h xs vl vs md nx ps ks) (hl : LsAt N w' P 4 (P + 1) vl' vs md nx qs ks) (hf : Fr (fun q => q = P) w w') (hnew : ∀ q, vl'.ownBlock = some q → w.heap.size ≤ q) (hc : ∀ j, j ≠ 4 → w'.cell? ⟨P, j, none⟩ = w.cell? ⟨P, j, none⟩) : PP N w' P s g v h xs vl' vs md nx qs ks := by
  refine ⟨⟨(hc 2 (by omega)).trans u.pu.c0, (hc 3 (by omega)).trans u.pu.c1, hl.fz 2, hl.fz, hf.own u.pu.own (fun k hk e => ?_), fun q hq => ⟨(u.pu.ext q hq).1, (u.pu.ext q hq).2.1, ?_⟩⟩, hl, fun k hk => ⟨fun e => ?_, (u.dj k hk).2⟩⟩
  · have := (u.pu.own.blk k hk).1; omega
  · have hq2 : q.1 ≠ 4 := by
      simp only [List.mem_cons, List.not_mem_nil, or_false] at hq
      rcases hq with rfl | rfl
      · show (0 : Nat) ≠ 4; omega
      · show (1 : Nat) ≠ 4; omega
    exact (hc q.1 hq2).trans (u.pu.ext q hq).2.2
  · have h1 := hnew k e
    have h2 := (u.pu.own.blk k hk).2
    omega
/-- what pay answers, whatever was paid and given up ahead of it -/
def PGen (N : Nat → Prop) (P : Nat) (s : Int) (g : Nat) (v : Value) (h : Int) (xs : List Cel) (vl vs : Value) (md nx : Int) (ys : List (Int × Int)) (r : Int) (can : Bool) (n0 : Int) (v2 v3 v4 : Value) (ch er : Int) (w w' : World) : Prop :=
  (can = false ∧ er = 9 ∧ Below w.heap.size w w') ∨
  (can = true ∧ er = 10 ∧ unpZ xs s g nx = none ∧ (∃ L c, chooseZ r (orderZ r (ownOf xs s g)) (targetZ ys r) = some (L, c) ∧ 0 < c) ∧ Below w.heap.size w w') ∨
  (can = true ∧ er = 0 ∧ n0 = md ∧ ∃ L ex tag, Paid1 s g xs nx ys r L ex ch ∧ PayGo N P s g v h xs vl vs md nx [] [] tag L (ys ++ ex) ch v2 v3 v4 w w')
theorem paid_gen {N : Nat → Prop} {P : Nat} {s : Int} {g : Nat} {v : Value} {h : Int} {xs : List Cel} {vl vs : Value} {md nx : Int} {ys : List (Int × Int)} {r : Int} {tag : Nat} {n0 t : Int} {v2 v3 v4 : Value} {ch er : Int} {w w' : World} (hd : Dp s g xs) (hs : Mk.isM s = true) (hg2 : g ≤ 20) (hl : xs.length ≤ 24) (hy1 : 1 ≤ ys.length) (hy7 : ys.length ≤ 7) (hyr : ∀ y ∈ ys, rOut y = true) (hr : 0 ≤ r ∧ r ≤ 1000)
    (ht : tag ≤ xs.length) (hold : ∀ j : Nat, j < tag → payZ xs s g [] [] nx ys r (j : Int) = .inl 4) (hnew : tag < xs.length → payZ xs s g [] [] nx ys r (tag : Int) ≠ .inl 4)
    (hp : PayOkR N P s g v h xs vl vs md nx [] [] ys r (tag : Int) (.int .i64 n0) (.int .i64 t) v2 v3 v4 (.int .i64 ch) er w w') :
    PGen N P s g v h xs vl vs md nx ys r (decide (targetZ ys r ≤ wsum r ((orderZ r (xs.map Cel.kept)).take 10))) n0 v2 v3 v4 ch er w w' := by
  have herr : ∀ x, payZ xs s g [] [] nx ys r (tag : Int) = .inl x → er = x ∧ Below w.heap.size w w' := fun x hx => by
    rcases hp with ⟨y, h1, h2, _, _, _, _, _, _, h9⟩ | ⟨cs, zs, c, h1, _⟩
    · rw [hx] at h1
      injection h1 with h1
      exact ⟨by rw [h2, h1], h9⟩
    · rw [hx] at h1; cases h1
  rcases pay_kinds hd hs hg2 hy1 hy7 hyr hr nx with ⟨k1, k2⟩ | ⟨k1, k2, k4, k3⟩ | ⟨k1, L, ex, c, k2⟩
  · exact Or.inl ⟨decide_eq_false k1, herr 9 (k2 _ (by omega) (by omega))⟩
  · obtain ⟨e1, e2⟩ := herr 10 (k3 _ (by omega) (by omega))
    exact Or.inr (Or.inl ⟨decide_eq_true k1, e1, k2, k4, e2⟩)
  · refine Or.inr (Or.inr ⟨decide_eq_true k1, ?_⟩)
    have hne : payZ xs s g [] [] nx ys r (tag : Int) ≠ .inl 4 := fun e => by
      by_cases hlt : tag < xs.length
      · exact hnew hlt e
      · refine k2.tag hd hs hg2 hy1 hy7 hyr hl (fun j hj => ?_)
        by_cases ej : j = tag
        · rw [ej]; exact e
        · exact hold j (by omega)
    have hpf := k2.pay (tag : Int) (by omega) (by omega)
    have hinr : payZ xs s g [] [] nx ys r (tag : Int) = .inr (L, ys ++ ex, c) := by
      rw [hpf] at hne ⊢
      unfold payFin at hne ⊢
      split
      · rename_i h4; rw [if_pos h4] at hne; exact absurd rfl hne
      · rfl
    rcases hp with ⟨y, h1, _⟩ | ⟨cs, zs, c2, h1, h2, h3, h4, h5, h6⟩
    · rw [hinr] at h1; cases h1
    · rw [hinr] at h1
      injection h1 with h1
      injection h1 with h1 h1'
      injection h1' with h7 h8
      injection h3 with _ h3
      injection h5 with _ h5
      subst h1
      subst h7
      subst h8
      subst h5
      exact ⟨h2, h3, L, ex, _, k2, h6⟩
end Go.Proofs.Ytffgpepngcnjeab
