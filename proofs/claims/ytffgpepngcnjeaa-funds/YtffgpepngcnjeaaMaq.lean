/-
  Funds: enough: do the greatest coins suffice?
  Funds: the walk.
  Funds: the walk of the law itself.
  A transaction that came in as data: what lies in memory.
-/
import Derived.Test.YtffgpepngcnjeaaMam
import Derived.Test.YtffgpepngcnjeaaMaf
import Derived.Test.YtffgpepngcnjeaaMaj
import Derived.Laws.MakeOwn
import Derived.Test.YtffgpepngcnjeaaMap
import Derived.Test.YtffgpepngcnjeaaMab
import Derived.ProofKit
import Derived.OpenShut
import Derived.Deep.Slices
import Derived.Deep.Strs
import Derived.Lib.SmallJoins
import Derived.SizedLaws
namespace Go.Proofs.Ytffgpepngcnjeaa
open Go.RowKit
theorem below_dn {b : Nat} {w w' : World} (h : Below b w w') (n : Nat) : Below b w (w'.drewN n) := ⟨h.os, h.tape, h.output, h.size, h.block⟩
theorem info4 : (Try.prog.info? 4).map (fun i => (i.zero, i.size, i.bytes)) = some (some (.bool false), 1, 1) := by kernel_rfl
/-- a list of marks: which are gone -/
structure GoneAt (w : World) (G n : Nat) (gs : List Bool) : Prop where
  len : gs.length = n
  cell : ∀ j, j < n → w.cell? ⟨G, j, none⟩ = some (.bool (gs.getD j true))
  fz : ∀ j, w.frozen? ⟨G, j, none⟩ = false
theorem GoneAt.grown {w w' : World} {G n : Nat} {gs : List Bool} (h : GoneAt w G n gs) (hG : G < w.heap.size) (hb : Below w.heap.size w w') : GoneAt w' G n gs :=
  ⟨h.len, fun j hj => (hb.cell (p := ⟨G, j, none⟩) hG).trans (h.cell j hj), fun j => (hb.frozen (p := ⟨G, j, none⟩) hG).trans (h.fz j)⟩
theorem GoneAt.set {w : World} {G n : Nat} {gs : List Bool} (h : GoneAt w G n gs) (b : Nat) (hb : b < n) : GoneAt (w.setCell ⟨G, b, none⟩ (.bool true)) G n (gs.set b true) := by
  refine ⟨by rw [List.length_set]; exact h.len, fun j hj => ?_, fun j => by rw [World.frozen?_setCell]; exact h.fz j⟩
  by_cases e : j = b
  · subst e
    rw [World.cell?_setCell_same _ _ _ (h.cell j hj)]
    have := h.len
    simp [List.getD, show j < gs.length by omega]
  · rw [World.cell?_setCell_other _ _ _ _ (by intro e2; exact e (congrArg Addr.off e2).symm), h.cell j hj]
    simp [List.getD, show ¬ b = j from fun h => e h.symm]
theorem GoneAt.new (w : World) (n : Nat) : GoneAt (w.alloc (.cells (Go.madeCells #[Value.bool false] n) 4)) w.heap.size n (List.replicate n false) := by
  refine ⟨List.length_replicate, fun j hj => ?_, fun j => World.frozen?_alloc_at _ _ _ _ rfl⟩
  rw [World.cell?_alloc_new]
  have : (Go.madeCells #[Value.bool false] n)[j]? = some (Value.bool false) := by
    simp only [Go.madeCells, Array.getElem?_map]
    rw [Array.getElem?_eq_getElem (by simpa using hj)]
    simp [Nat.mod_one]
  simp [this, List.getD, hj]
theorem make_bools (n : Nat) (hn : n ≤ 1000000) : ∀ u : World, (Instr.makeSlice 149 (.int .i64 (n : Int)) (.int .i64 (n : Int))).run Try.prog u =
    .ok (.slice (some ⟨u.heap.size, 0, none⟩) n n) (u.alloc (.cells (Go.madeCells #[.bool false] n) 4)) := fun u => by
  obtain ⟨i0, hi, hz0, hz1, hz2⟩ := info_parts info4
  have h := run_make (P := Try.prog) u 149 4 i0 (.bool false) Try.underlying149 hi hz0 .i64 .i64 (n : Int) (n : Int) (by omega) (Int.le_refl _) (by rw [hz2]; omega) (by omega)
  have e : (n : Int).toNat = n := by omega
  rw [e] at h
  simpa [hz1, Value.cells] using h
/-- of the first k: the greatest that is not gone -/
def Bst (L : List CoinD) (gs : List Bool) (k : Nat) (bI : Int) : Prop :=
  (bI = -1 ∧ ∀ j, j < k → gs.getD j true = true) ∨
  ∃ b : Nat, bI = (b : Int) ∧ b < k ∧ gs.getD b true = false ∧ ∀ j, j < k → gs.getD j true = false → (L.getD j dN).val ≤ (L.getD b dN).val
theorem Bst.zero (L : List CoinD) (gs : List Bool) : Bst L gs 0 (-1) := Or.inl ⟨rfl, fun j hj => absurd hj (by omega)⟩
theorem Bst.skip {L : List CoinD} {gs : List Bool} {k : Nat} {bI : Int} (h : Bst L gs k bI) (hs : gs.getD k true = true) : Bst L gs (k + 1) bI := by
  rcases h with ⟨e, h⟩ | ⟨b, e, h1, h2, h3⟩
  · refine Or.inl ⟨e, fun j hj => ?_⟩
    by_cases ej : j = k
    · rw [ej]; exact hs
    · exact h j (by omega)
  · refine Or.inr ⟨b, e, by omega, h2, fun j hj hg => ?_⟩
    by_cases ej : j = k
    · rw [ej, hs] at hg; cases hg
    · exact h3 j (by omega) hg
theorem Bst.low {L : List CoinD} {gs : List Bool} {k b : Nat} (h : Bst L gs k (b : Int)) (hs : (L.getD k dN).val ≤ (L.getD b dN).val) : Bst L gs (k + 1) (b : Int) := by
  rcases h with ⟨e, h⟩ | ⟨b', e, h1, h2, h3⟩
  · omega
  · have : b = b' := by omega
    subst this
    refine Or.inr ⟨b, e, by omega, h2, fun j hj hg => ?_⟩
    by_cases ej : j = k
    · rw [ej]; exact hs
    · exact h3 j (by omega) hg
theorem Bst.first {L : List CoinD} {gs : List Bool} {k : Nat} (h : Bst L gs k (-1)) (hg : gs.getD k true = false) : Bst L gs (k + 1) (k : Int) := by
  rcases h with ⟨e, h⟩ | ⟨b', e, _⟩
  · refine Or.inr ⟨k, rfl, by omega, hg, fun j hj hg => ?_⟩
    by_cases ej : j = k
    · rw [ej]; exact Int.le_refl _
    · rw [h j (by omega)] at hg; cases hg
  · omega
theorem Bst.more {L : List CoinD} {gs : List Bool} {k b : Nat} (h : Bst L gs k (b : Int)) (hg : gs.getD k true = false) (hs : (L.getD b dN).val < (L.getD k dN).val) : Bst L gs (k + 1) (k : Int) := by
  rcases h with ⟨e, h⟩ | ⟨b', e, h1, h2, h3⟩
  · omega
  · have : b = b' := by omega
    subst this
    refine Or.inr ⟨k, rfl, by omega, hg, fun j hj hg => ?_⟩
    by_cases ej : j = k
    · rw [ej]; exact Int.le_refl _
    · have := h3 j (by omega) hg; omega
theorem Bst.bd {L : List CoinD} {gs : List Bool} {k : Nat} {bI : Int} (h : Bst L gs k bI) : bI = -1 ∨ ∃ b : Nat, bI = (b : Int) ∧ b < k := by
  rcases h with ⟨e, _⟩ | ⟨b, e, h1, _⟩
  · exact Or.inl e
  · exact Or.inr ⟨b, e, h1⟩
/-- what is taken so far -/
structure EnI (r : Int) (cs : List CoinD) (gs : List Bool) (k : Nat) (S : Int) : Prop where
  gl : gs.length = cs.length
  rl : (remG gs (cs.map (worthZ r))).length + k = cs.length
  gr : ∀ T, Gr (10 - k) (remG gs (cs.map (worthZ r))) T → Gr 10 (cs.map (worthZ r)) (S + T)
  bd : 0 ≤ S ∧ S ≤ 1099511627776 * (k : Int)
theorem EnI.zero (r : Int) (cs : List CoinD) : EnI r cs (List.replicate cs.length false) 0 0 := by
  have e : remG (List.replicate cs.length false) (cs.map (worthZ r)) = cs.map (worthZ r) := by
    have := rem_all (cs.map (worthZ r))
    rwa [List.length_map] at this
  refine ⟨List.length_replicate, by rw [e, List.length_map]; omega, fun T hT => ?_, by omega⟩
  rw [e] at hT
  rw [Int.zero_add]
  exact hT
theorem map_getD (r : Int) (cs : List CoinD) (j : Nat) (h : j < cs.length) : (cs.map (worthZ r)).getD j 0 = worthZ r (cs.getD j dN) := by
  simp [List.getD, h]
theorem EnI.step {r : Int} {cs : List CoinD} {gs : List Bool} {k : Nat} {S : Int} (h : EnI r cs gs k S) (hk : k < 10) (hr : 0 ≤ r) (hv : ∀ x ∈ cs, 0 ≤ x.val ∧ x.val ≤ 1099511627776) {b : Nat} (hb : Bst cs gs cs.length (b : Int)) : EnI r cs (gs.set b true) (k + 1) (S + mx0 (worthZ r (cs.getD b dN))) := by
  rcases hb with ⟨e, _⟩ | ⟨b', e, h1, h2, h3⟩
  · omega
  · have : b = b' := by omega
    subst this
    have hgl := h.gl
    have hl : gs.length = (cs.map (worthZ r)).length := by rw [List.length_map]; exact hgl
    have hlen := rem_len hl (by omega) h2
    have hrl := h.rl
    have hvb := hv (cs.getD b dN) (getD_mem cs dN b h1)
    have hbd := h.bd
    refine ⟨by rw [List.length_set]; exact hgl, by omega, fun T hT => ?_, ?_⟩
    · have h4 : Gr (10 - (k + 1) + 1) (remG gs (cs.map (worthZ r))) _ := gr_pick hl (by omega) h2 (fun j hj hg => by
        have hj2 : j < cs.length := by omega
        rw [map_getD r cs j hj2, map_getD r cs b h1]
        have := h3 j hj2 hg
        unfold worthZ
        omega) hT
      rw [show 10 - (k + 1) + 1 = 10 - k by omega, map_getD r cs b h1] at h4
      have := h.gr _ h4
      rw [Int.add_assoc]
      exact this
    · have h5 : 0 ≤ mx0 (worthZ r (cs.getD b dN)) ∧ mx0 (worthZ r (cs.getD b dN)) ≤ 1099511627776 := by
        unfold mx0 worthZ
        split <;> omega
      push_cast
      omega
theorem EnI.some {r : Int} {cs : List CoinD} {gs : List Bool} {k : Nat} {S : Int} (h : EnI r cs gs k S) (hk : k < cs.length) {bI : Int} (hb : Bst cs gs cs.length bI) : ∃ b : Nat, bI = (b : Int) ∧ b < cs.length := by
  rcases hb with ⟨_, hn⟩ | ⟨b, e, h1, _⟩
  · have hgl := h.gl
    have := rem_none (gs := gs) (vs := cs.map (worthZ r)) (by rw [List.length_map]; exact hgl) (fun j hj => hn j (by omega))
    have hrl := h.rl
    rw [this, List.length_nil] at hrl
    omega
  · exact ⟨b, e, h1⟩
theorem EnI.done {r : Int} {cs : List CoinD} {gs : List Bool} {k : Nat} {S : Int} (h : EnI r cs gs k S) (hk : k = 10 ∨ k = cs.length) : S = wsum r ((orderZ r cs).take 10) := by
  have hT : Gr (10 - k) (remG gs (cs.map (worthZ r))) 0 := by
    rcases hk with e | e
    · subst e; exact Gr.zero _
    · have hrl := h.rl
      have : remG gs (cs.map (worthZ r)) = [] := List.length_eq_zero_iff.1 (by omega)
      rw [this]
      exact Gr.nil _
  have := gr_order r 10 cs _ (h.gr 0 hT)
  rw [Int.add_zero] at this
  exact this
set_option maxRecDepth 100000 in
set_option maxHeartbeats 4000000 in
theorem enough_any (al : Option Addr) (n cl : Nat) (cs : List CoinD) (ap : Option Addr) (m d : Nat) (ys : List (Int × Int)) (r : Int) (w : World) (hc : RecAt CoinD.l w al cs) (hcn : cs.length = n) (hcm : n ≤ 1000) (hv : ∀ x ∈ cs, 0 ≤ x.val ∧ x.val ≤ 1099511627776) (hy : OutsAt w ap ys) (hyn : ys.length = m) (hym : m ≤ 100) (hyv : ∀ y ∈ ys, 0 ≤ y.2 ∧ y.2 ≤ 1099511627776) (hr : 0 ≤ r ∧ r ≤ 1000) :
    Calls Try.prog 51 #[.slice al n cl, .slice ap m d, .int .i64 r] w fun e w' => e = .returned (.bool (decide (targetZ ys r ≤ wsum r ((orderZ r cs).take 10)))) ∧ Below w.heap.size w w' := by
  have HX : Hid (OutsAt w ap ys) := hy
  have HN : Hid (ys.length = m) := hyn
  have HB : Hid (∀ y ∈ ys, 0 ≤ y.2 ∧ y.2 ≤ 1099511627776) := hyv
  have HC : Hid (RecAt CoinD.l w al cs) := hc
  have HCN : Hid (cs.length = n) := hcn
  have HV : Hid (∀ x ∈ cs, 0 ≤ x.val ∧ x.val ≤ 1099511627776) := hv
  clear hy hyn hyv hc hcn hv
  have hrn : 0 ≤ r * (3 + 2 * (m : Int)) ∧ r * (3 + 2 * (m : Int)) ≤ 203000 := ⟨Int.mul_nonneg hr.1 (by omega), by
    have h1 : r * (3 + 2 * (m : Int)) ≤ 1000 * (3 + 2 * (m : Int)) := Int.mul_le_mul_of_nonneg_right hr.2 (by omega)
    omega⟩
  have hw3 : IntKind.i64.wrap (r * (3 + 2 * (m : Int))) = r * (3 + 2 * (m : Int)) := IntWalk.i64_in _ ⟨by omega, by omega⟩
  have HT : Hid (targetZ ys r = r * (3 + 2 * (m : Int)) + sumOu ys) := by show _ = _; unfold targetZ; rw [HN.out]
  go_enter Try.func51, Try.ntmps51
  go_wp2_with (go_at_call 86; refine (fSize_any 0 m _ (by omega) (by omega)).mono ?_; rintro e w' ⟨rfl, rfl⟩; rw [show (3 : Int) + 7 * ((0 : Nat) : Int) + 2 * (m : Int) = 3 + 2 * (m : Int) by omega])
  generalize r * (3 + 2 * (m : Int)) = F at *
  clear hw3
  go_loopw [7, 8] (fun v i wr => ∃ (k : Nat) (T : Int), k ≤ m ∧ i = .int .i64 k ∧ v = .int .i64 T ∧ Hid (F + ((ys.take k).map Prod.snd).sum = T) ∧ Below w.heap.size w wr) (fun _ i _ => m - (intOf i).toNat)
  case atStart => exact ⟨0, F, Nat.zero_le _, rfl, rfl, by show F + _ = F; simp, Below.refl _ _⟩
  case round =>
    obtain ⟨k, T, hk, rfl, rfl, hT, hbl⟩ := hrel
    have hsz := hbl.size
    by_cases hlt : k < m
    · rcases HX.out with hnil | ⟨gg, off, rfl, hrow⟩
      · have := HN.out; rw [hnil] at this; simp at this; omega
      obtain ⟨c0, c1⟩ := (hrow.grown hbl) k (by rw [HN.out]; exact hlt)
      have HS : Hid _ := sum_snoc Prod.snd ys (0, 0) k (by rw [HN.out]; exact hlt)
      have hSb := sum_bd Prod.snd 1099511627776 (ys.take k) (fun x hx => HB.out x (List.mem_of_mem_take hx))
      have hyb := HB.out (ys.getD k (0, 0)) (getD_mem ys (0, 0) k (by rw [HN.out]; exact hlt))
      have hl2 : (ys.take k).length ≤ 100 := by rw [List.length_take]; omega
      have hT2 : 0 ≤ T ∧ T ≤ 120000000000000 := by have := hT.out; omega
      clear hrow hSb hl2
      generalize ys.getD k (0, 0) = y at c0 c1 HS hyb
      obtain ⟨y0, y1⟩ := y
      simp only at c0 c1 hyb
      go_wp2
      go_roundw
      case rel => exact ⟨k + 1, T + y1, by omega, by go_num, rfl, by show _ = _; rw [HS.out, ← Int.add_assoc, hT.out], hbl⟩
      case measure => simp [intOf]; omega
    · have HSe : Hid (targetZ ys r = T) := by show _ = _; rw [HT.out, ← hT.out, List.take_of_length_le (by rw [HN.out]; omega)]; rfl
      have hSb := sum_bd Prod.snd 1099511627776 (ys.take k) (fun x hx => HB.out x (List.mem_of_mem_take hx))
      have hl2 : (ys.take k).length ≤ 100 := by rw [List.length_take]; omega
      have hT2 : 0 ≤ T ∧ T ≤ 120000000000000 := by have := hT.out; omega
      obtain ⟨w1, rfl⟩ : ∃ w1 : World, w1 = wr := ⟨_, rfl⟩
      clear hSb hl2 hT HT HX HN HB
      have hmk := make_bools n (by omega)
      have HG0 : Hid (GoneAt (w1.alloc (.cells (Go.madeCells #[Value.bool false] n) 4)) w1.heap.size n (List.replicate n false)) := GoneAt.new w1 n
      have HB0 : Hid (Below w1.heap.size w1 (w1.alloc (.cells (Go.madeCells #[Value.bool false] n) 4))) := (Below.refl _ _).alloc (Nat.le_refl _) _
      have HS0 : Hid ((w1.alloc (.cells (Go.madeCells #[Value.bool false] n) 4)).heap.size = w1.heap.size + 1) := by show _ = _; simp
      have HC1 : Hid (RecAt CoinD.l w1 al cs) := HC.out.grown hbl
      have HE0 : Hid (EnI r cs (List.replicate n false) 0 0) := by have := EnI.zero r cs; rw [HCN.out] at this; exact this
      go_wp2
      generalize w1.alloc (.cells (Go.madeCells #[Value.bool false] n) 4) = w2 at *
      generalize hGe : w1.heap.size = G at *
      have HGe : Hid (w1.heap.size = G) := hGe
      clear hGe hmk HC
      go_loopw [7, 10] (fun v i wr => ∃ (q : Nat) (S : Int) (gs : List Bool), q ≤ 10 ∧ q ≤ n ∧ i = .int .i64 q ∧ v = .int .i64 (T - S) ∧ Hid (EnI r cs gs q S) ∧ Hid (GoneAt wr G n gs) ∧ Hid (Below G w1 wr) ∧ G < wr.heap.size) (fun _ i _ => 10 - (intOf i).toNat)
      case atStart => exact ⟨0, 0, _, by omega, by omega, rfl, by rw [Int.sub_zero], HE0.out, HG0.out, HB0.out, by have := HS0.out; omega⟩
      case round =>
        obtain ⟨q, S, gs, hq, hqn, rfl, rfl, hE, hgo, hbw, hGl⟩ := hrel
        have hSb := hE.out.bd
        by_cases hlt : q < 10 ∧ q < n
        · obtain ⟨hq10, hqn'⟩ := hlt
          have hqI : (q : Int) < (n : Int) := by omega
          have hqI2 : (q : Int) < 10 := by omega
          obtain ⟨wo, rfl⟩ : ∃ wo : World, wo = wr := ⟨_, rfl⟩
          go_wp2
          go_loopw [11, 12] (fun bv kv wr => ∃ (k : Nat) (bI : Int), k ≤ n ∧ kv = .int .i64 k ∧ bv = .int .i64 bI ∧ Hid (Bst cs gs k bI) ∧ Below wo.heap.size wo wr) (fun _ kv _ => n - (intOf kv).toNat)
          case atStart => exact ⟨0, -1, Nat.zero_le _, rfl, rfl, Bst.zero _ _, Below.refl _ _⟩
          case round =>
            obtain ⟨k, bI, hk, rfl, rfl, hb, hbi⟩ := hrel
            have hszo := hbi.size
            have HB1 : Hid (Below w1.heap.size w1 wr) := by rw [HGe.out]; exact hbw.out.trans (hbi.mono (by omega))
            have hGr : G < wr.heap.size := by omega
            have HG1 : Hid (GoneAt wr G n gs) := hgo.out.grown hGl hbi
            by_cases hlt : k < n
            · have hkl : k < cs.length := by rw [HCN.out]; exact hlt
              have hbd := hb.out.bd
              rcases HC1.out.grown HB1.out with hnil | ⟨gc, oc, rfl, hrow⟩
              · rw [hnil] at hkl; simp at hkl
              obtain ⟨e0, e1, e2, e3, e4, e5⟩ := coinCells hrow k hkl
              have HROW : Hid (VRow wr gc oc (cs.flatMap CoinD.l)) := hrow
              have gk := HG1.out.cell k hlt
              have HSK : Hid (gs.getD k true = true → Bst cs gs (k + 1) bI) := fun h => hb.out.skip h
              have HFI : Hid (bI = -1 → gs.getD k true = false → Bst cs gs (k + 1) (k : Int)) := fun e h => by subst e; exact hb.out.first h
              have HLO : Hid (∀ b : Nat, bI = (b : Int) → (cs.getD k dN).val ≤ (cs.getD b dN).val → Bst cs gs (k + 1) bI) := fun b e h => by subst e; exact hb.out.low h
              have HMO : Hid (∀ b : Nat, bI = (b : Int) → gs.getD k true = false → (cs.getD b dN).val < (cs.getD k dN).val → Bst cs gs (k + 1) (k : Int)) := fun b e h1 h => by subst e; exact hb.out.more h1 h
              have hkI : (k : Int) < (n : Int) := by omega
              have hk0 : (0 : Int) ≤ (k : Int) := by omega
              clear hrow hb
              generalize (cs.getD k dN).val = yv at *
              generalize gs.getD k true = gn at *
              clear e0 e1 e2 e4 e5
              cases gn
              · rcases hbd with rfl | ⟨b, rfl, hbk⟩
                · go_wp2
                  go_quiet (fail)
                  go_wp2
                  go_roundw
                  case rel => exact ⟨k + 1, k, by omega, by go_num, rfl, HFI.out (by first | trivial | rfl) (by first | trivial | rfl), below_dn hbi _⟩
                  case measure => simp [intOf]; omega
                · have hbl2 : b < cs.length := by rw [HCN.out]; omega
                  obtain ⟨_, _, _, b3, _, _⟩ := coinCells HROW.out b hbl2
                  have hbI : (b : Int) < (n : Int) := by omega
                  have hb0 : (0 : Int) ≤ (b : Int) := by omega
                  have hbn : decide ((b : Int) < 0) = false := decide_eq_false (by omega)
                  have HLO1 : Hid _ := HLO.out b rfl
                  have HMO1 : Hid _ := HMO.out b rfl
                  clear HLO HMO HFI HSK
                  generalize (cs.getD b dN).val = bv at *
                  by_cases hgt : bv < yv
                  · have hgd : decide (bv < yv) = true := decide_eq_true hgt
                    go_wp2
                    go_quiet (fail)
                    go_wp2
                    go_roundw
                    case rel => exact ⟨k + 1, k, by omega, by go_num, rfl, HMO1.out (by first | trivial | rfl) hgt, below_dn hbi _⟩
                    case measure => simp [intOf]; omega
                  · have hgd : decide (bv < yv) = false := decide_eq_false hgt
                    go_wp2
                    go_quiet (fail)
                    go_wp2
                    go_roundw
                    case rel => exact ⟨k + 1, b, by omega, by go_num, rfl, HLO1.out (by omega), below_dn hbi _⟩
                    case measure => simp [intOf]; omega
              · go_wp2
                go_quiet (fail)
                go_wp2
                go_roundw
                case rel => exact ⟨k + 1, bI, by omega, by go_num, rfl, HSK.out (by first | trivial | rfl), below_dn hbi _⟩
                case measure => simp [intOf]; omega
            · have hkn : k = n := by omega
              subst hkn
              have hbC : Bst cs gs cs.length bI := by rw [HCN.out]; exact hb.out
              obtain ⟨b, rfl, hbl3⟩ := hE.out.some (by rw [HCN.out]; exact hqn') hbC
              have HE1 : Hid (EnI r cs (gs.set b true) (q + 1) (S + mx0 (worthZ r (cs.getD b dN)))) := hE.out.step hq10 hr.1 HV.out hbC
              have hbk : b < k := by rw [HCN.out] at hbl3; exact hbl3
              rcases HC1.out.grown HB1.out with hnil | ⟨gc, oc, rfl, hrow⟩
              · rw [hnil] at hbl3; simp at hbl3
              obtain ⟨e0, e1, e2, e3, e4, e5⟩ := coinCells hrow b hbl3
              have hgcG : gc ≠ G := by
                have h6 : gc < w1.heap.size := by
                  rcases HC1.out with hn2 | ⟨g3, o3, e3', hr3⟩
                  · rw [hn2] at hbl3; simp at hbl3
                  · injection e3' with e3'
                    injection e3' with e3' _ _
                    subst e3'
                    exact cell_lt (coinCells hr3 b hbl3).1
                rw [HGe.out] at h6
                omega
              have hvb := HV.out (cs.getD b dN) (getD_mem cs dN b hbl3)
              have gk := HG1.out.cell b hbk
              have gf := HG1.out.fz b
              have HG2 : Hid (GoneAt (wr.setCell ⟨G, b, none⟩ (.bool true)) G k (gs.set b true)) := HG1.out.set b hbk
              have HB2 : Hid (Below G w1 (wr.setCell ⟨G, b, none⟩ (.bool true))) := by have := HB1.out; rw [HGe.out] at this; exact this.setCell (Nat.le_refl _) _
              have hS2 : (wr.setCell ⟨G, b, none⟩ (.bool true)).heap.size = wr.heap.size := by simp
              have q3 : (wr.setCell ⟨G, b, none⟩ (.bool true)).cell? ⟨gc, oc + b * 6 + 3, none⟩ = some (.int .i64 (cs.getD b dN).val) := sob e3 hgcG
              have hbI : (b : Int) < (k : Int) := by omega
              have hb0 : (0 : Int) ≤ (b : Int) := by omega
              have hbn : decide ((b : Int) < 0) = false := decide_eq_false (by omega)
              have HWD : Hid (worthZ r (cs.getD b dN) = (cs.getD b dN).val - 7 * r) := rfl
              clear hrow hb hbC e0 e1 e2 e3 e4 e5 hgo hE HG1 HB1 hbw
              rw [HWD.out] at HE1
              generalize (cs.getD b dN).val = yv at *
              have hw1 : IntKind.i64.wrap (7 * r) = 7 * r := IntWalk.i64_in _ ⟨by omega, by omega⟩
              have hw2 : IntKind.i64.wrap (yv - 7 * r) = yv - 7 * r := IntWalk.i64_in _ ⟨by omega, by omega⟩
              have hm0 : mx0 (yv - 7 * r) = if 0 < yv - 7 * r then yv - 7 * r else 0 := rfl
              have HM0 : Hid (mx0 (yv - 7 * r) = if 0 < yv - 7 * r then yv - 7 * r else 0) := hm0
              clear hm0
              go_upto_region 18 with fail
              generalize wr.setCell ⟨G, b, none⟩ (.bool true) = w5 at *
              clear gk gf
              have hSb2 : S ≤ 10995116277760 := by omega
              by_cases hp : 0 < yv - 7 * r
              · have hw4 : IntKind.i64.wrap (T - S - (yv - 7 * r)) = T - S - (yv - 7 * r) := IntWalk.i64_in _ ⟨by omega, by omega⟩
                have HE2 : Hid (EnI r cs (gs.set b true) (q + 1) (S + (yv - 7 * r))) := by have := HE1.out; rw [HM0.out, if_pos hp] at this; exact this
                go_wp2
                go_roundw
                case rel => exact ⟨q + 1, S + (yv - 7 * r), gs.set b true, by omega, by omega, by go_num, by rw [← Int.sub_sub], HE2.out, HG2.out, HB2.out, by omega⟩
                case measure => simp [intOf]; omega
              · have HE2 : Hid (EnI r cs (gs.set b true) (q + 1) S) := by have := HE1.out; rw [HM0.out, if_neg hp, Int.add_zero] at this; exact this
                have hpd : decide (0 < yv - 7 * r) = false := decide_eq_false hp
                go_wp2
                go_roundw
                case rel => exact ⟨q + 1, S, gs.set b true, by omega, by omega, by go_num, rfl, HE2.out, HG2.out, HB2.out, by omega⟩
                case measure => simp [intOf]; omega
        · have HD : Hid (S = wsum r ((orderZ r cs).take 10)) := hE.out.done (by rw [HCN.out]; omega)
          have HBF : Hid (Below w.heap.size w wr) := hbl.trans (by have := hbw.out; rw [← HGe.out] at this; exact this.mono (by rw [HGe.out]; exact hsz))
          have HFI : Hid (decide (targetZ ys r ≤ wsum r ((orderZ r cs).take 10)) = decide (T - S ≤ 0)) := by
            show _ = _
            rw [HSe.out, ← HD.out]
            by_cases h : T ≤ S
            · rw [decide_eq_true h, decide_eq_true (show T - S ≤ 0 by omega)]
            · rw [decide_eq_false h, decide_eq_false (show ¬ T - S ≤ 0 by omega)]
          by_cases h10 : q < 10
          · have hqI : ¬ (q : Int) < (n : Int) := by omega
            have hqI2 : (q : Int) < 10 := by omega
            go_wp2
            go_ret
            exact ⟨ret_bool HFI.out.symm, HBF.out⟩
          · have hqI2 : ¬ (q : Int) < 10 := by omega
            go_wp2
            go_ret
            exact ⟨ret_bool HFI.out.symm, HBF.out⟩
end Go.Proofs.Ytffgpepngcnjeaa

namespace Go.Proofs.Ytffgpepngcnjeaa
open Go.RowKit
theorem own_cap {α : Type} {f : α → List Value} {e k : Nat} {w : World} {base n c : Nat} {ao : Option Addr} {xs : List α} (h : OwnRec f e k w base (.slice ao n c) xs) : xs.length = n ∧ n ≤ c := by
  rcases h.2 with ⟨e, h0⟩ | ⟨g, cap, cur, e, _, _, hc, _⟩
  · injection e with _ e2 e3
    omega
  · injection e with _ e2 e3
    omega
/-- a purse without payments -/
theorem pp_none {w : World} {P : Nat} {s : Int} {g : Nat} {v : Value} {h : Int} {xs : List Cel} (hp : PAt w P s g v h xs) : PP (fun _ => False) w P s g v h xs (.slice none 0 0) (.slice none 0 0) 0 0 [] [] := by
  refine ⟨⟨hp.c0, hp.c1, hp.f0, hp.f1, hp.own, fun q hq => hp.ext q ?_⟩, ⟨(hp.ext (4, .slice none 0 0) (by simp)).2.2, (hp.ext (5, .slice none 0 0) (by simp)).2.2, (hp.ext (6, .int .i64 0) (by simp)).2.2, (hp.ext (7, .int .i64 0) (by simp)).2.2, hp.f1, OwnRec.nil _ _ _ _ _, OwnRec.nil _ _ _ _ _, fun p hp => (by cases hp), by omega, fun k hk => (by cases hk), fun k hk => hk.elim⟩, fun k hk => ⟨fun e => (by cases e), fun e => (by cases e), fun e => e⟩⟩
  simp only [List.mem_cons, List.not_mem_nil, or_false] at hq ⊢
  rcases hq with rfl | rfl <;> simp
theorem Sn.fr {S P : Nat} {s : Int} {g : Nat} {vi : Value} {ac : Option Addr} {cc : Nat} {cs : List CoinD} {w w' : World} {E : Nat → Prop} (h : Sn S P s g vi ac cc cs w) (hf : Fr E w w') (h1 : ¬ E S) (h2 : ∀ a, ac = some a → ¬ E a.block) : Sn S P s g vi ac cc cs w' :=
  ⟨hf.cell h.c0 h1, hf.cell h.c1 h1, hf.cell h.c2 h1, hf.cell h.c3 h1, hf.cell h.c4 h1, rec_fr hf h.at_ (fun _ a ha => h2 a ha)⟩
/-- what a payment of a scene is, seen from behind -/
def ScPaid (S P : Nat) (s : Int) (g : Nat) (v vi : Value) (ac : Option Addr) (cc : Nat) (h : Int) (xs : List Cel) (ys : List (Int × Int)) (r : Int) (can : Bool) (n0 t : Int) (ai : Option Addr) (n2 ci : Nat) (ap : Option Addr) (n3 cp : Nat) (ak : Option Addr) (n4 ck : Nat) (ch er : Int) (w : World) : Prop :=
  Sn S P s g vi ac cc (xs.map Cel.kept) w ∧
  ((can = false ∧ er = 9 ∧ n0 = 0 ∧ t = 0 ∧ ai = none ∧ n2 = 0 ∧ ci = 0 ∧ ap = none ∧ n3 = 0 ∧ cp = 0 ∧ ak = none ∧ n4 = 0 ∧ ck = 0 ∧ ch = 0 ∧ PAt w P s g v h xs) ∨
   (can = true ∧ er = 10 ∧ unpZ xs s g 0 = none ∧ n0 = 0 ∧ t = 0 ∧ ai = none ∧ n2 = 0 ∧ ci = 0 ∧ ap = none ∧ n3 = 0 ∧ cp = 0 ∧ ak = none ∧ n4 = 0 ∧ ck = 0 ∧ ch = 0 ∧ PAt w P s g v h xs) ∨
   (can = true ∧ er = 0 ∧ n0 = 0 ∧ ∃ L ex NN vl' vs' md nx p, Paid1 s g xs 0 ys r L ex ch ∧ PP NN w P s g v h xs vl' vs' md nx [p] [] ∧ p.cs = L ∧ L.length = n2 ∧ n2 = n4 ∧ (ys ++ ex).length = n3 ∧ n3 ≤ cp ∧ RecAt inC w ai L ∧ RecAt kC w ak L ∧ OutsAt w ap (ys ++ ex)))
theorem ScPaid.grown {S P : Nat} {s : Int} {g : Nat} {v vi : Value} {ac : Option Addr} {cc : Nat} {h : Int} {xs : List Cel} {ys : List (Int × Int)} {r : Int} {can : Bool} {n0 t : Int} {ai : Option Addr} {n2 ci : Nat} {ap : Option Addr} {n3 cp : Nat} {ak : Option Addr} {n4 ck : Nat} {ch er : Int} {w w' : World} (u : ScPaid S P s g v vi ac cc h xs ys r can n0 t ai n2 ci ap n3 cp ak n4 ck ch er w) (hb : Below w.heap.size w w') : ScPaid S P s g v vi ac cc h xs ys r can n0 t ai n2 ci ap n3 cp ak n4 ck ch er w' := by
  refine ⟨u.1.grown hb, ?_⟩
  rcases u.2 with ⟨h1, h2, h3, h4, h5, h6, h7, h8, h9, h10, h11, h12, h13, h14, h15⟩ | ⟨h1, h2, h3, h4, h5, h6, h7, h8, h9, h10, h11, h12, h13, h14, h15, h16⟩ | ⟨h1, h2, h3, L, ex, NN, vl', vs', md, nx, p, g1, g2, g3, g4, g5, g6, g7, g8, g9, g10⟩
  · exact Or.inl ⟨h1, h2, h3, h4, h5, h6, h7, h8, h9, h10, h11, h12, h13, h14, h15.grown hb⟩
  · exact Or.inr (Or.inl ⟨h1, h2, h3, h4, h5, h6, h7, h8, h9, h10, h11, h12, h13, h14, h15, h16.grown hb⟩)
  · exact Or.inr (Or.inr ⟨h1, h2, h3, L, ex, NN, vl', vs', md, nx, p, g1, g2.grown hb, g3, g4, g5, g6, g7, g8.grown hb, g9.grown hb, g10.grown hb⟩)
/-- the answer of the scene's pay -/
theorem paid_of {S P : Nat} {s : Int} {g : Nat} {v vi : Value} {ac : Option Addr} {cc : Nat} {h : Int} {xs : List Cel} {ys : List (Int × Int)} {r : Int} {tag : Nat} {n0 t : Int} {ai : Option Addr} {n2 ci : Nat} {ap : Option Addr} {n3 cp : Nat} {ak : Option Addr} {n4 ck : Nat} {ch er : Int} {w w' : World} (hd : Dp s g xs) (hs : Mk.isM s = true) (hg2 : g ≤ 20) (hl : xs.length ≤ 24) (hy1 : 1 ≤ ys.length) (hy7 : ys.length ≤ 7) (hyr : ∀ y ∈ ys, rOut y = true) (hr : 0 ≤ r ∧ r ≤ 1000)
    (hS : Sn S P s g vi ac cc (xs.map Cel.kept) w) (hP : PAt w P s g v h xs) (hSP : S ≠ P) (hac : ∀ a, ac = some a → a.block ≠ P) (ht : tag ≤ xs.length) (hold : ∀ j : Nat, j < tag → payZ xs s g [] [] 0 ys r (j : Int) = .inl 4) (hnew : tag < xs.length → payZ xs s g [] [] 0 ys r (tag : Int) ≠ .inl 4)
    (hp : PayOkR (fun _ => False) P s g v h xs (.slice none 0 0) (.slice none 0 0) 0 0 [] [] ys r (tag : Int) (.int .i64 n0) (.int .i64 t) (.slice ai n2 ci) (.slice ap n3 cp) (.slice ak n4 ck) (.int .i64 ch) er w w') :
    ScPaid S P s g v vi ac cc h xs ys r (decide (targetZ ys r ≤ wsum r ((orderZ r (xs.map Cel.kept)).take 10))) n0 t ai n2 ci ap n3 cp ak n4 ck ch er w' := by
  have hfr := payOkR_fr hp
  refine ⟨hS.fr hfr (fun e => e.elim hSP (fun e => by cases e)) (fun a ha e => e.elim (hac a ha) (fun e => by cases e)), ?_⟩
  have herr : ∀ x, payZ xs s g [] [] 0 ys r (tag : Int) = .inl x → er = x ∧ n0 = 0 ∧ t = 0 ∧ ai = none ∧ n2 = 0 ∧ ci = 0 ∧ ap = none ∧ n3 = 0 ∧ cp = 0 ∧ ak = none ∧ n4 = 0 ∧ ck = 0 ∧ ch = 0 ∧ PAt w' P s g v h xs := fun x hx => by
    rcases hp with ⟨y, h1, h2, h3, h4, h5, h6, h7, h8, h9⟩ | ⟨cs, zs, c, h1, _⟩
    · rw [hx] at h1
      injection h1 with h1
      injection h3 with _ h3
      injection h4 with _ h4
      injection h5 with a1 a2 a3
      injection h6 with b1 b2 b3
      injection h7 with c1 c2 c3
      injection h8 with _ h8
      exact ⟨by rw [h2, h1], h3, h4, a1, a2, a3, b1, b2, b3, c1, c2, c3, h8, hP.grown h9⟩
    · rw [hx] at h1; cases h1
  rcases pay_kinds hd hs hg2 hy1 hy7 hyr hr 0 with ⟨k1, k2⟩ | ⟨k1, k2, _, k3⟩ | ⟨k1, L, ex, c, k2⟩
  · exact Or.inl ⟨decide_eq_false k1, herr 9 (k2 _ (by omega) (by omega))⟩
  · obtain ⟨e1, e2⟩ := herr 10 (k3 _ (by omega) (by omega))
    exact Or.inr (Or.inl ⟨decide_eq_true k1, e1, k2, e2⟩)
  · refine Or.inr (Or.inr ⟨decide_eq_true k1, ?_⟩)
    have hne : payZ xs s g [] [] 0 ys r (tag : Int) ≠ .inl 4 := fun e => by
      by_cases hlt : tag < xs.length
      · exact hnew hlt e
      · refine k2.tag hd hs hg2 hy1 hy7 hyr hl (fun j hj => ?_)
        by_cases ej : j = tag
        · rw [ej]; exact e
        · exact hold j (by omega)
    have hpf := k2.pay (tag : Int) (by omega) (by omega)
    have hinr : payZ xs s g [] [] 0 ys r (tag : Int) = .inr (L, ys ++ ex, c) := by
      rw [hpf] at hne ⊢
      unfold payFin at hne ⊢
      split
      · rename_i h4; rw [if_pos h4] at hne; exact absurd rfl hne
      · rfl
    rcases hp with ⟨y, h1, _⟩ | ⟨cs, zs, c2, h1, h2, h3, h4, h5, h6⟩
    · rw [hinr] at h1; cases h1
    · rw [hinr] at h1
      injection h1 with h1
      injection h1 with h1 h1'
      injection h1' with h7 h8
      injection h3 with _ h3
      injection h5 with _ h5
      subst h1
      subst h7
      subst h8
      subst h5
      obtain ⟨vl', gc, ccc, go, co, hpp, hpd, _, _⟩ := h6
      have o1 := own_cap hpd.oi
      have o2 := own_cap hpd.oo
      have o3 := own_cap hpd.ok
      exact ⟨h2, h3, L, ex, _, vl', _, _, _, _, k2, hpp, rfl, o1.1, by omega, o2.1, o2.2, own_atS inC3 hpd.oi, own_atS kC2 hpd.ok, rec_outs (own_atS kv2 hpd.oo)⟩
/-- the sums behind a payment -/
def balF (tot : Int) (can : Bool) (er : Int) (L : List CoinD) : Int := if can = true ∧ er = 0 then tot - sumC L else tot
end Go.Proofs.Ytffgpepngcnjeaa

namespace Go.Proofs.Ytffgpepngcnjeaa
open Go.RowKit
set_option maxRecDepth 100000 in
set_option maxHeartbeats 1000000 in
theorem funds_any (a b rt : Int) (al : Option Addr) (n c : Nat) (ds : List DepR) (ao : Option Addr) (m d : Nat) (raw : List (Int × Int)) (w : World) (a1 : -9223372036854775808 ≤ a) (a2 : a ≤ 9223372036854775807) (b1 : -9223372036854775808 ≤ b) (b2 : b ≤ 9223372036854775807) (r1 : -9223372036854775808 ≤ rt) (r2 : rt ≤ 9223372036854775807)
    (hd : RecAt DepR.l w al ds) (hdn : ds.length = n) (hdr : ∀ x ∈ ds, (-9223372036854775808 ≤ x.br ∧ x.br ≤ 9223372036854775807) ∧ (-9223372036854775808 ≤ x.ix ∧ x.ix ≤ 9223372036854775807) ∧ (-9223372036854775808 ≤ x.val ∧ x.val ≤ 9223372036854775807)) (ho : OutsAt w ao raw) (hon : raw.length = m) (hor : ∀ y ∈ raw, (-9223372036854775808 ≤ y.1 ∧ y.1 ≤ 9223372036854775807) ∧ (-9223372036854775808 ≤ y.2 ∧ y.2 ≤ 9223372036854775807)) :
    Calls Try.prog 10 #[.int .i64 a, .int .i64 b, .slice al n c, .slice ao m d, .int .i64 rt] w fun e w' => e = .returned (.bool true) ∧ Below w.heap.size w w' := by
  obtain ⟨g, hg⟩ : ∃ g : Nat, (g : Int) = 1 + Mk.pk b 20 := ⟨(1 + Mk.pk b 20).toNat, by have := Mk.pk_bd b 20 (by decide); omega⟩
  have hpb := Mk.pk_bd b 20 (by decide)
  have hg1 : 1 ≤ g := by omega
  have hg2 : g ≤ 20 := by omega
  have HSM : Hid (Mk.isM (Mk.pk a 99991) = true) := (Mk.isM_iff _).2 (Mk.pk_bd a 99991 (by decide))
  have HD : Hid (RecAt DepR.l w al ds) := hd
  have HDN : Hid (ds.length = n) := hdn
  have HDR : Hid (∀ x ∈ ds, (-9223372036854775808 ≤ x.br ∧ x.br ≤ 9223372036854775807) ∧ (-9223372036854775808 ≤ x.ix ∧ x.ix ≤ 9223372036854775807) ∧ (-9223372036854775808 ≤ x.val ∧ x.val ≤ 9223372036854775807)) := hdr
  have HO : Hid (OutsAt w ao raw) := ho
  have HON : Hid (raw.length = m) := hon
  have HOR : Hid (∀ y ∈ raw, (-9223372036854775808 ≤ y.1 ∧ y.1 ≤ 9223372036854775807) ∧ (-9223372036854775808 ≤ y.2 ∧ y.2 ≤ 9223372036854775807)) := hor
  have hprt := Mk.pk_bd rt 1001 (by decide)
  clear hd hdn hdr ho hon hor hpb
  go_enter Try.func10, Try.ntmps10
  go_wp2_with fail
  refine (deposited_any a b al n c ds g _ a1 a2 b1 b2 hg HD.out HDN.out HDR.out).mono ?_
  rintro e w1 ⟨rfl, v, vi, vc, xs, h24, hsc, hdp, hb1⟩
  clear hg a1 a2 b1 b2
  generalize Mk.pk a 99991 = s at *
  have HDP : Hid (Dp s g xs) := hdp
  have HB1 : Hid (Below w.heap.size w w1) := hb1
  obtain ⟨av, cv, ev, hatv⟩ := OwnRec.at cel6 hsc.pat.own
  obtain ⟨ai0, ci0, ei, hati⟩ := OwnRec.at iv1 hsc.oi
  obtain ⟨ac, cc, ec, hatc⟩ := OwnRec.at coin6 hsc.oc
  clear hatv hati
  have HAC : Hid (∀ x, ac = some x → x.block ≠ w.heap.size) := fun x hx e => (hsc.d1 w.heap.size (Or.inl rfl)).2.2 (by rw [ec, hx, ← e]; rfl)
  subst ev
  subst ei
  subst ec
  have HSN1 : Hid (Sn (w.heap.size + 1) w.heap.size s g (.slice ai0 (xs.map Cel.id).length ci0) ac cc (xs.map Cel.kept) w1) := ⟨hsc.c0, hsc.c1, hsc.c2, hsc.c3, hsc.c4, hatc⟩
  have HPA1 : Hid (PAt w1 w.heap.size s g (.slice av xs.length cv) ((xs.length : Nat) : Int) xs) := hsc.pat
  clear hsc hatc hdp hb1
  have HO1 : Hid (OutsAt w1 ao raw) := HO.out.grown HB1.out
  go_wp2_with fail
  refine (request_any ao m d raw _ HO1.out HON.out HOR.out).mono ?_
  obtain ⟨hy1, hy7, hyr⟩ := reqZ_right raw
  rintro e w2 ⟨vq, rfl, hq, hb2⟩
  generalize reqZ raw = ys at *
  have HYR : Hid (∀ y ∈ ys, rOut y = true) := hyr
  clear hyr HO1 HO HON HOR
  obtain ⟨aq, cq, eq, _⟩ := OwnRec.at kv2 hq
  subst eq
  obtain ⟨gq, rfl, hgq, _, _, _⟩ := own_some kv2 hq rfl (by omega)
  have HGQ : Hid (gq ≠ w.heap.size) := by show _ ≠ _; have : w.heap.size < w1.heap.size := cell_lt HPA1.out.c0; omega
  clear hgq
  have HQ2 : Hid (OutsAt w2 (some ⟨gq, 0, none⟩) ys) := rec_outs (own_atS kv2 hq)
  have HSN2 : Hid (Sn (w.heap.size + 1) w.heap.size s g (.slice ai0 (xs.map Cel.id).length ci0) ac cc (xs.map Cel.kept) w2) := HSN1.out.grown hb2
  have HPA2 : Hid (PAt w2 w.heap.size s g (.slice av xs.length cv) ((xs.length : Nat) : Int) xs) := HPA1.out.grown hb2
  have HB2 : Hid (Below w.heap.size w w2) := below_blk HB1.out hb2
  clear hq hb2 HSN1 HPA1 HB1
  have HCV : Hid (∀ x ∈ xs.map Cel.kept, 0 ≤ x.val ∧ x.val ≤ 1099511627776) := fun x hx => by
    obtain ⟨y, hy, rfl⟩ := List.mem_map.1 hx
    have := HDP.out.va y hy
    exact ⟨by show 0 ≤ y.val; omega, this.2⟩
  have HCL : Hid ((xs.map Cel.kept).length ≤ 24) := by show _ ≤ _; rw [List.length_map]; exact h24
  have HSU : Hid (sumC (ownZ (keysZ xs s g) (coinsC xs)) = sumC (xs.map Cel.kept)) := HDP.out.sum hg2
  have HOV : Hid (∀ x ∈ ownZ (keysZ xs s g) (coinsC xs), 0 ≤ x.val ∧ x.val ≤ 1099511627776) := fun x hx => ((HDP.out.own HSM.out hg2 hx).1).b
  have HYV : Hid (∀ y ∈ ys, 0 ≤ y.2 ∧ y.2 ≤ 1099511627776) := fun y hy => by have := (rOut_bd (HYR.out y hy)).2; omega
  have HSP : Hid (w.heap.size + 1 ≠ w.heap.size) := by show _ ≠ _; omega
  generalize hPe : w.heap.size = P at *
  have HPE : Hid (w.heap.size = P) := hPe
  clear hPe
  have HPS : Hid (P < P + 1) := by show _ < _; omega
  generalize P + 1 = S at *
  go_wp2_with (go_at_call 27; refine (pick_any rt 1001 _ (by omega) (by omega) r1 r2).mono ?_; rintro e w' ⟨rfl, rfl⟩)
  generalize Mk.pk rt 1001 = r at *
  have hr : 0 ≤ r ∧ r ≤ 1000 := by omega
  clear hprt r1 r2
  refine (total_any S ac (xs.map Cel.kept).length cc (xs.map Cel.kept) _ HSN2.out.c4 HSN2.out.at_ rfl (by have := HCL.out; omega) HCV.out).mono ?_
  rintro e w3 ⟨rfl, hb3⟩
  have HSN3 : Hid (Sn S P s g (.slice ai0 (xs.map Cel.id).length ci0) ac cc (xs.map Cel.kept) w3) := HSN2.out.grown hb3
  have HPA3 : Hid (PAt w3 P s g (.slice av xs.length cv) ((xs.length : Nat) : Int) xs) := HPA2.out.grown hb3
  have HQ3 : Hid (OutsAt w3 (some ⟨gq, 0, none⟩) ys) := HQ2.out.grown hb3
  have HB3 : Hid (Below P w w3) := HB2.out.trans (hb3.mono (by have : P < w2.heap.size := cell_lt HPA2.out.c0; omega))
  clear hb3 HSN2 HPA2 HQ2 HB2
  have s0 := HSN3.out.c0
  obtain ⟨av7, cv7, ev7, hatv⟩ := HPA3.out.at
  injection ev7 with ev7 _ _
  subst ev7
  have HX3 : Hid (CelsAt w3 av xs) := hatv
  have HPR3 : Hid (PurseRow w3 P s g (.slice av xs.length cv) ((xs.length : Nat) : Int)) := pat_row HPA3.out
  clear hatv
  generalize hT : sumC (xs.map Cel.kept) = tot at *
  have HTOT : Hid (sumC (xs.map Cel.kept) = tot) := hT
  clear hT
  go_wp2_with fail
  refine (pBalance_none P s g av xs.length cv _ xs _ HSM.out hg1 hg2 HPR3.out HPR3.out.c4 HPR3.out.c5 HX3.out rfl (by omega) HOV.out).mono ?_
  rw [HSU.out]
  rintro e w4 ⟨rfl, hb4⟩
  have HSN4 : Hid (Sn S P s g (.slice ai0 (xs.map Cel.id).length ci0) ac cc (xs.map Cel.kept) w4) := HSN3.out.grown hb4
  have HPA4 : Hid (PAt w4 P s g (.slice av xs.length cv) ((xs.length : Nat) : Int) xs) := HPA3.out.grown hb4
  have HQ4 : Hid (OutsAt w4 (some ⟨gq, 0, none⟩) ys) := HQ3.out.grown hb4
  have HB4 : Hid (Below P w w4) := HB3.out.trans (hb4.mono (by have : P < w3.heap.size := cell_lt HPA3.out.c0; omega))
  clear hb4 HSN3 HPA3 HQ3 HB3 s0 HX3 HPR3
  have s4 : w4.cell? ⟨S, 4, none⟩ = some (.slice ac xs.length cc) := by have := HSN4.out.c4; rwa [List.length_map] at this
  go_wp2_with fail
  refine (enough_any ac xs.length cc (xs.map Cel.kept) (some ⟨gq, 0, none⟩) ys.length cq ys r _ HSN4.out.at_ (List.length_map _) (by omega) HCV.out HQ4.out rfl (by omega) HYV.out hr).mono ?_
  rintro e w5 ⟨rfl, hb5⟩
  have HSN5 : Hid (Sn S P s g (.slice ai0 (xs.map Cel.id).length ci0) ac cc (xs.map Cel.kept) w5) := HSN4.out.grown hb5
  have HPA5 : Hid (PAt w5 P s g (.slice av xs.length cv) ((xs.length : Nat) : Int) xs) := HPA4.out.grown hb5
  have HQ5 : Hid (OutsAt w5 (some ⟨gq, 0, none⟩) ys) := HQ4.out.grown hb5
  have HB5 : Hid (Below P w w5) := HB4.out.trans (hb5.mono (by have : P < w4.heap.size := cell_lt HPA4.out.c0; omega))
  clear hb5 HSN4 HPA4 HQ4 HB4 s4
  go_wp2_with fail
  refine (scPay_any (fun _ => False) S P s g (.slice av xs.length cv) ((xs.length : Nat) : Int) xs (.slice none 0 0) (.slice none 0 0) 0 0 [] [] ai0 (xs.map Cel.id).length ci0 ⟨gq, 0, none⟩ ys.length cq ys r _ HSM.out hg1 hg2 (pp_none HPA5.out) (by omega) HDP.out.vals HQ5.out rfl (by omega) (by omega) (by simp) (by simp) (by rw [List.length_map]; omega) HSN5.out.c0 HSN5.out.c3 (fun e => e.elim HSP.out (fun e => by cases e))).mono ?_
  rintro e w6 ⟨tag, htag, hold, a0, a1, a2, a3, a4, a5, er, rfl, hpay, hnew⟩
  obtain ⟨n0, t, ai, n2, ci, ap, n3, cp, ak, n4, ck, ch, rfl, rfl, rfl, rfl, rfl, rfl⟩ := payOkR_vals hpay
  rw [List.length_map] at htag hnew
  have HSC6 : Hid (ScPaid S P s g (.slice av xs.length cv) (.slice ai0 (xs.map Cel.id).length ci0) ac cc ((xs.length : Nat) : Int) xs ys r (decide (targetZ ys r ≤ wsum r ((orderZ r (xs.map Cel.kept)).take 10))) n0 t ai n2 ci ap n3 cp ak n4 ck ch er w6) := paid_of HDP.out HSM.out hg2 h24 hy1 hy7 HYR.out hr HSN5.out HPA5.out HSP.out HAC.out htag hold hnew hpay
  have HF6 : Hid (Fr (fun q => q = P ∨ (Value.slice none 0 0).ownBlock = some q) w5 w6) := payOkR_fr hpay
  have HQ6 : Hid (OutsAt w6 (some ⟨gq, 0, none⟩) ys) := outsAt_fr HF6.out HQ5.out (fun _ x hx e => by
    injection hx with hx
    subst hx
    rcases e with e | e
    · exact HGQ.out e
    · cases e)
  have HB6 : Hid (Below P w w6) := HB5.out.trans (HF6.out.toBelow P (by have : P < w5.heap.size := cell_lt HPA5.out.c0; omega) (fun q hq => by
    rcases hq with e | e
    · omega
    · cases e))
  clear hpay hold hnew htag HSN5 HPA5 HQ5 HB5 HF6
  generalize decide (targetZ ys r ≤ wsum r ((orderZ r (xs.map Cel.kept)).take 10)) = can at *
  have bA : Below w6.heap.size w6 (w6.alloc (.cells #[.int .i64 n0, .int .i64 t, .slice ai n2 ci, .slice ap n3 cp, .slice ak n4 ck, .int .i64 ch] 101)) := (Below.refl _ _).alloc (Nat.le_refl _) _
  have HV7 : Hid (VB (w6.alloc (.cells #[.int .i64 n0, .int .i64 t, .slice ai n2 ci, .slice ap n3 cp, .slice ak n4 ck, .int .i64 ch] 101)) w6.heap.size (.int .i64 n0) (.int .i64 t) (.slice ai n2 ci) (.slice ap n3 cp) (.slice ak n4 ck) (.int .i64 ch)) := VB.new w6 _ _ _ _ _ _ 101
  go_upto_region 12 with fail
  have HSC7 : Hid _ := HSC6.out.grown bA
  have HQ7 : Hid (OutsAt (w6.alloc (.cells #[.int .i64 n0, .int .i64 t, .slice ai n2 ci, .slice ap n3 cp, .slice ak n4 ck, .int .i64 ch] 101)) (some ⟨gq, 0, none⟩) ys) := HQ6.out.grown bA
  have HB7 : Hid (Below P w (w6.alloc (.cells #[.int .i64 n0, .int .i64 t, .slice ai n2 ci, .slice ap n3 cp, .slice ak n4 ck, .int .i64 ch] 101))) := HB6.out.trans (bA.mono (by have : S < w6.heap.size := cell_lt HSC6.out.1.c0; have := HPS.out; omega))
  clear bA HSC6 HQ6 HB6
  generalize w6.alloc (.cells #[.int .i64 n0, .int .i64 t, .slice ai n2 ci, .slice ap n3 cp, .slice ak n4 ck, .int .i64 ch] 101) = w7 at *
  generalize w6.heap.size = X at *
  obtain ⟨hSn7, hkind⟩ := HSC7.out
  have HSN7 : Hid (Sn S P s g (.slice ai0 (xs.map Cel.id).length ci0) ac cc (xs.map Cel.kept) w7) := hSn7
  clear hSn7 HSC7
  rcases hkind with ⟨rfl, rfl, rfl, rfl, rfl, rfl, rfl, rfl, rfl, rfl, rfl, rfl, rfl, rfl, hpa⟩ | ⟨rfl, rfl, hun, rfl, rfl, rfl, rfl, rfl, rfl, rfl, rfl, rfl, rfl, rfl, rfl, hpa⟩ | ⟨rfl, rfl, rfl, L, ex, NN, vl', vs', md, nx, p, hpd, hpp, hpc, hn2, rfl, hn3, hcap, hri, hrk, hro⟩
  · have HPR7 : Hid (PurseRow w7 P s g (.slice av xs.length cv) ((xs.length : Nat) : Int)) := pat_row hpa
    obtain ⟨av7, cv7, ev7, hatv⟩ := hpa.at
    injection ev7 with ev7 _ _
    subst ev7
    have HX7 : Hid (CelsAt w7 av xs) := hatv
    have s0 := HSN7.out.c0
    have HP7l : Hid (P < w7.heap.size) := cell_lt hpa.c0
    clear hatv hpa
    go_wp2_with fail
    refine (pBalance_none P s g av xs.length cv _ xs _ HSM.out hg1 hg2 HPR7.out HPR7.out.c4 HPR7.out.c5 HX7.out rfl (by omega) HOV.out).mono ?_
    rw [HSU.out]
    rintro e w8 ⟨rfl, hb8⟩
    have HV8 : Hid (VB w8 X (.int .i64 0) (.int .i64 0) (.slice none 0 0) (.slice none 0 0) (.slice none 0 0) (.int .i64 0)) := HV7.out.fr (Fr.of_below hb8 (fun _ => False)) (fun h => h)
    have HB8 : Hid (Below P w w8) := HB7.out.trans (hb8.mono (by have := HP7l.out; omega))
    obtain ⟨x0, x1, x2, x3, x4, x5, _⟩ := HV8.out
    go_wp2_with fail
    refine (nothing_zero _).mono ?_
    rintro e w9 ⟨rfl, hb9⟩
    have HB9 : Hid (Below P w w9) := HB8.out.trans (hb9.mono (by have := HP7l.out; have := hb8.size; omega))
    clear x0 x1 x2 x3 x4 x5 hb9 hb8 s0
    go_wp2
    go_ret
    exact ⟨rfl, by rw [HPE.out]; exact HB9.out⟩
  · have HUN : Hid (unpZ xs s g 0 = none) := hun
    clear hun
    have HPR7 : Hid (PurseRow w7 P s g (.slice av xs.length cv) ((xs.length : Nat) : Int)) := pat_row hpa
    obtain ⟨av7, cv7, ev7, hatv⟩ := hpa.at
    injection ev7 with ev7 _ _
    subst ev7
    have HX7 : Hid (CelsAt w7 av xs) := hatv
    have s0 := HSN7.out.c0
    have HP7l : Hid (P < w7.heap.size) := cell_lt hpa.c0
    clear hatv hpa
    go_wp2_with fail
    refine (pBalance_none P s g av xs.length cv _ xs _ HSM.out hg1 hg2 HPR7.out HPR7.out.c4 HPR7.out.c5 HX7.out rfl (by omega) HOV.out).mono ?_
    rw [HSU.out]
    rintro e w8 ⟨rfl, hb8⟩
    have HV8 : Hid (VB w8 X (.int .i64 0) (.int .i64 0) (.slice none 0 0) (.slice none 0 0) (.slice none 0 0) (.int .i64 0)) := HV7.out.fr (Fr.of_below hb8 (fun _ => False)) (fun h => h)
    have HB8 : Hid (Below P w w8) := HB7.out.trans (hb8.mono (by have := HP7l.out; omega))
    obtain ⟨x0, x1, x2, x3, x4, x5, _⟩ := HV8.out
    have HSN8 : Hid (Sn S P s g (.slice ai0 (xs.map Cel.id).length ci0) ac cc (xs.map Cel.kept) w8) := HSN7.out.grown hb8
    have HR8 : Hid (PRow4 w8 P s g (.slice av xs.length cv) ((xs.length : Nat) : Int)) := fun j hj => by
      have h1 := (VRow.grown HPR7.out hb8) j (by simp at hj ⊢; omega)
      match j, hj with
      | 0, _ => exact h1
      | 1, _ => exact h1
      | 2, _ => exact h1
      | 3, _ => exact h1
    have HX8 : Hid (CelsAt w8 av xs) := HX7.out.grown hb8
    have hP8 : P < w8.heap.size := by have := HP7l.out; have := hb8.size; omega
    clear hb8 s0
    go_wp2_with fail
    refine (nothing_zero _).mono ?_
    rintro e w9 ⟨rfl, hb9⟩
    have HSN9 : Hid (Sn S P s g (.slice ai0 (xs.map Cel.id).length ci0) ac cc (xs.map Cel.kept) w9) := HSN8.out.grown hb9
    have HR9 : Hid (PRow4 w9 P s g (.slice av xs.length cv) ((xs.length : Nat) : Int)) := VRow.grown HR8.out hb9
    have HX9 : Hid (CelsAt w9 av xs) := HX8.out.grown hb9
    have HB9 : Hid (Below P w w9) := HB8.out.trans (hb9.mono (by omega))
    have hP9 : P < w9.heap.size := by have := hb9.size; omega
    have HFU : Hid (∀ i : Nat, i < winZ xs s g 1 → Mk.isK s 1 (i : Int) = true ∧ ((xs.map Cel.kept).any fun c => c.tt == Mk.adr s 1 (i : Int)) = true) := fun i hi => ⟨key_ok HSM.out (Or.inr rfl) (by omega) (by have := winZ_le xs s g 1; omega), unp_full HUN.out hi⟩
    have HW0 : Hid (0 < winZ xs s g 1) := by show _ < _; have := (win_spec xs s g 1 hg2).1; omega
    clear x0 x1 x2 x3 x4 x5 hb9
    go_wp2_with fail
    refine (sFull_any S P s g (.slice ai0 (xs.map Cel.id).length ci0) ac cc (xs.map Cel.kept) av cv _ xs _ HSN9.out (by have := HCL.out; omega) HSM.out hg1 hg2 HR9.out HX9.out (by omega) HW0.out HFU.out).mono ?_
    rintro e w10 ⟨rfl, hb10⟩
    have HB10 : Hid (Below P w w10) := HB9.out.trans (hb10.mono (by omega))
    clear hb10
    go_wp2
    go_ret
    exact ⟨rfl, by rw [HPE.out]; exact HB10.out⟩
  · have HPD : Hid (Paid1 s g xs 0 ys r L ex ch) := hpd
    have HPC : Hid (p.cs = L) := hpc
    have HN2 : Hid (L.length = n2) := hn2
    have HN3 : Hid ((ys ++ ex).length = n3) := hn3
    have HRI : Hid (RecAt inC w7 ai L) := hri
    have HRK : Hid (RecAt kC w7 ak L) := hrk
    have HRO : Hid (OutsAt w7 ap (ys ++ ex)) := hro
    have HR7 : Hid (PRow4 w7 P s g (.slice av xs.length cv) ((xs.length : Nat) : Int)) := paq_row hpp.pu
    obtain ⟨av7, cv7, ev7, hatv⟩ := hpp.pu.at
    injection ev7 with ev7 _ _
    subst ev7
    have HX7 : Hid (CelsAt w7 av xs) := hatv
    have HPM : Hid (PayM NN w7 P 4 [p] []) := hpp.ls.payM (by simp) (by simp)
    have HFR : Hid (sumC ((ownZ (keysZ xs s g) (coinsC xs)).filter (freeB [p] [])) = tot - sumC L) := by
      show _ = _
      have h1 := free_one HDP.out hg2 HPD.out.own HPD.out.nd HPC.out
      have h2 : sumC (ownOf xs s g) = tot := HSU.out
      rw [h2] at h1
      exact h1
    have hP7l : P < w7.heap.size := cell_lt hpp.pu.c0
    have s0 := HSN7.out.c0
    have HDO : Hid (∀ x ∈ L, DpsOk s (xs.map Cel.kept) x) := fun x hx => (HDP.out.own HSM.out hg2 (HPD.out.own x hx)).1
    have hSL := sum_bd CoinD.val 1099511627776 L (fun x hx => (HDO.out x hx).b)
    have hST := sum_bd CoinD.val 1099511627776 (xs.map Cel.kept) HCV.out
    have hl10 := HPD.out.l10
    have hcl24 := HCL.out
    have hbL : 0 ≤ sumC L ∧ sumC L ≤ 10995116277760 := by unfold sumC; omega
    have hbT : 0 ≤ tot ∧ tot ≤ 26388279066624 := by rw [← HTOT.out]; unfold sumC; omega
    clear hpd hpc hn2 hn3 hri hrk hro hpp hatv hSL hST
    go_wp2_with fail
    refine (pBalance4 NN [p] [] P s g av xs.length cv _ xs _ HSM.out hg1 hg2 HR7.out HPM.out HX7.out rfl (by omega) HOV.out).mono ?_
    rw [HSU.out, HFR.out]
    rintro e w8 ⟨rfl, hb8⟩
    have HV8 : Hid (VB w8 X (.int .i64 0) (.int .i64 t) (.slice ai n2 ci) (.slice ap n3 cp) (.slice ak n2 ck) (.int .i64 ch)) := HV7.out.fr (Fr.of_below hb8 (fun _ => False)) (fun h => h)
    have HB8 : Hid (Below P w w8) := HB7.out.trans (hb8.mono (by omega))
    have HSN8 : Hid (Sn S P s g (.slice ai0 (xs.map Cel.id).length ci0) ac cc (xs.map Cel.kept) w8) := HSN7.out.grown hb8
    have HR8 : Hid (PRow4 w8 P s g (.slice av xs.length cv) ((xs.length : Nat) : Int)) := VRow.grown HR7.out hb8
    have HX8 : Hid (CelsAt w8 av xs) := HX7.out.grown hb8
    have HRI8 : Hid (RecAt inC w8 ai L) := HRI.out.grown hb8
    have HRK8 : Hid (RecAt kC w8 ak L) := HRK.out.grown hb8
    have HRO8 : Hid (OutsAt w8 ap (ys ++ ex)) := HRO.out.grown hb8
    have HQ8 : Hid (OutsAt w8 (some ⟨gq, 0, none⟩) ys) := HQ7.out.grown hb8
    have hP8 : P < w8.heap.size := by have := hb8.size; omega
    have hX8 : X < w8.heap.size := cell_lt HV8.out.c0
    obtain ⟨x0, x1, x2, x3, x4, x5, _⟩ := HV8.out
    have HPW : Hid (L.Pairwise fun a b => ¬ (a.id = b.id ∧ a.pos = b.pos)) := List.Pairwise.imp (fun h e => h e.1) (List.pairwise_map.1 HPD.out.nd)
    have HZV : Hid (∀ y ∈ ys ++ ex, 0 ≤ y.2 ∧ y.2 ≤ 109951162777600) := fun y hy => by
      rcases List.mem_append.1 hy with e | e
      · have := (rOut_bd (HYR.out y e)).2; omega
      · have := (rOut_bd (HPD.out.ev y e)).2; omega
    have HFC : Hid (FairC s g xs (xs.map Cel.kept) r ex ch (sumC L - sumOu (ys ++ ex) - r * (3 + 7 * (n2 : Int) + 2 * (n3 : Int)))) := by rw [← HN2.out, ← HN3.out]; exact HPD.out.fair
    have HL0 : Hid (0 < n2 ∧ n2 ≤ 10) := ⟨by rw [← HN2.out]; exact HPD.out.l0, by rw [← HN2.out]; exact HPD.out.l10⟩
    have HE1 : Hid (ys.length + ex.length = n3 ∧ ex.length ≤ 1) := ⟨by rw [← HN3.out, List.length_append], HPD.out.e1⟩
    clear hb8 s0 hl10 hcl24
    go_wp2_with fail
    refine (fair_any S P s g (.slice ai0 (xs.map Cel.id).length ci0) ac cc (xs.map Cel.kept) av cv _ xs 0 t ch ai n2 ci ap n3 cp ak ck L (some ⟨gq, 0, none⟩) ys.length cq ys ex r _ HSN8.out (by have := HCL.out; omega) HSM.out hg1 hg2 HR8.out HX8.out (by omega) HRI8.out HRK8.out HN2.out HL0.out.1 HL0.out.2 HDO.out HPW.out HQ8.out rfl (by omega) HRO8.out HE1.out.1 HE1.out.2 hcap HZV.out hr HFC.out).mono ?_
    rintro e w9 ⟨rfl, hb9⟩
    have HB9 : Hid (Below P w w9) := HB8.out.trans (hb9.mono (by omega))
    have y0 := (hb9.cell (p := ⟨X, 0, none⟩) hX8).trans x0
    have hwr : IntKind.i64.wrap (tot - sumC L) = tot - sumC L := IntWalk.i64_in _ ⟨by omega, by omega⟩
    clear x0 x1 x2 x3 x4 x5 hb9
    go_wp2
    go_ret
    exact ⟨rfl, by rw [HPE.out]; exact HB9.out⟩
end Go.Proofs.Ytffgpepngcnjeaa

namespace Go.Proofs.Ytffgpepngcnjeaa
open Go.ChangeShapes Go.WideShapes Go.ChangeAt Go.RowKit
def I64 (x : Int) : Prop := -9223372036854775808 ≤ x ∧ x ≤ 9223372036854775807
theorem tCells3 : Try.prog.cellsOf 3 = 1 := by kernel_rfl
theorem tCells111 : Try.prog.cellsOf 111 = 2 := by kernel_rfl
theorem len3 {cs : List Value} (h : cs.length = 3) : ∃ a b c, cs = [a, b, c] := by
  match cs, h with
  | [a, b, c], _ => exact ⟨a, b, c, rfl⟩
theorem len2c {cs : List Value} (h : cs.length = 2) : ∃ a b, cs = [a, b] := by
  match cs, h with
  | [a, b], _ => exact ⟨a, b, rfl⟩
section
variable {H : Type} {enc : TypeId × Value → H} {W : World} {fuel : Nat} {cs : List Value} {x : DataW H × List MemPlace}
theorem open_num (h : DataW.trod enc Try.prog W 0 (fun _ => true) true fuel 3 cs = some x) : ∃ n : Int, cs = [.int .i64 n] ∧ I64 n := by
  obtain ⟨n, hcs, _, hw⟩ := DataW.trod_int Try.underlying3 h
  exact ⟨n, hcs, bounds_i64 hw⟩
structure In64 (x : InD) : Prop where
  id : I64 x.id
  pos : I64 x.pos
  l : ∀ z ∈ x.l, I64 z
theorem open_out (h : DataW.trod enc Try.prog W 0 (fun _ => true) true fuel 111 cs = some x) : ∃ y : Int × Int, cs = [.int .i64 y.1, .int .i64 y.2] ∧ I64 y.1 ∧ I64 y.2 := by
  obtain ⟨y0, y1, n, _, hlen, h0, h1⟩ := trod_struct2 Try.underlying111 h
  rw [tCells111] at hlen
  obtain ⟨a, b, rfl⟩ := len2c hlen
  simp only [tCells3, List.drop, List.take] at h0 h1
  obtain ⟨i, hi, bi⟩ := open_num h0
  obtain ⟨p, hp, bp⟩ := open_num h1
  cases hi
  cases hp
  exact ⟨(i, p), rfl, bi, bp⟩
end
theorem choose_upto {α : Type} (d : α) {n : Nat} {p : Nat → α → Prop} (h : ∀ i, i < n → ∃ x, p i x) : ∃ l : List α, l.length = n ∧ ∀ i, i < n → p i (l.getD i d) := by
  refine ⟨(List.range n).map fun i => if hi : i < n then Classical.choose (h i hi) else d, by simp, fun i hi => ?_⟩
  have e : ((List.range n).map fun i => if hi : i < n then Classical.choose (h i hi) else d).getD i d = Classical.choose (h i hi) := by
    simp [List.getD, hi]
  rw [e]
  exact Classical.choose_spec (h i hi)
/-- cells of a plain address -/
theorem cells_at {W : World} {a : Addr} {n : Nat} {cs : List Value} (h : W.cells? 0 a n = some cs) (hn : 0 < n) : a.spot = none ∧ ∀ i, i < n → W.cell? ⟨a.block, a.off + i, none⟩ = cs[i]? := by
  obtain ⟨_, hl, hc⟩ := World.cells?_some h
  obtain ⟨b, off, spot⟩ := a
  have hs : spot = none := by
    have h0 := hc 0 hn
    have : (W.cell? ((⟨b, off, spot⟩ : Addr).add 0)) = some (cs[0]'(by omega)) := by rw [h0]; exact List.getElem?_eq_getElem _
    simpa [Addr.add] using World.cell?_spot this
  subst hs
  exact ⟨rfl, fun i hi => by have := hc i hi; rw [add_plain] at this; exact this⟩
section
variable {H : Type} {enc : TypeId × Value → H} {W : World} {fuel : Nat} {cs : List Value} {x : DataW H × List MemPlace}
end
end Go.Proofs.Ytffgpepngcnjeaa
