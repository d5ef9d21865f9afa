/-
  Funds: its small functions: size, nothing, sameOuts, value, request.
  Funds: inputs.
  A purse with its payments; Pay: what it answers.
  Windows, Coins and Balance of a purse, whatever its payments are.
  Funds: change, full.
  Funds: fair.
  Funds: what is chosen of a scene's deposits, and that it is fair.
  The chain takes a signed payment, once; refuses it without its seals.
  The blocks that were taken, and the chains ahead of each.
  No two outputs of the chain have one name.
-/
import Derived.Test.YtffgpepngcnjeabGreatQMan
import Derived.Test.YtffgpepngcnjeabGreatQMam
import Derived.Test.YtffgpepngcnjeabGreatQMab
import Derived.Deep.RegionHeld3
import Derived.Test.YtffgpepngcnjeabGreatQMah
import Derived.Test.YtffgpepngcnjeabGreatQMai
import Derived.Test.YtffgpepngcnjeabGreatQMaf
import Derived.Test.YtffgpepngcnjeabGreatQMal
namespace Go.Proofs.YtffgpepngcnjeabGreatQ
open Go.RowKit
set_option maxRecDepth 100000 in
set_option maxHeartbeats 400000 in
theorem fSize_any (a b : Nat) (w : World) (ha : a ≤ 1000) (hb : b ≤ 1000) :
    Calls Tryz.prog 36 #[.int .i64 (a : Int), .int .i64 (b : Int)] w fun e w' => e = .returned (.int .i64 (3 + 7 * (a : Int) + 2 * (b : Int))) ∧ w = w' := by
  have h1 : IntKind.i64.wrap (7 * (a : Int)) = 7 * (a : Int) := IntWalk.i64_in _ ⟨by omega, by omega⟩
  have h2 : IntKind.i64.wrap (3 + 7 * (a : Int)) = 3 + 7 * (a : Int) := IntWalk.i64_in _ ⟨by omega, by omega⟩
  have h3 : IntKind.i64.wrap (2 * (b : Int)) = 2 * (b : Int) := IntWalk.i64_in _ ⟨by omega, by omega⟩
  have h4 : IntKind.i64.wrap (3 + 7 * (a : Int) + 2 * (b : Int)) = 3 + 7 * (a : Int) + 2 * (b : Int) := IntWalk.i64_in _ ⟨by omega, by omega⟩
  go_enter Tryz.func36, Tryz.ntmps36
  go_wp2
  go_ret
  exact ⟨rfl, rfl⟩
set_option maxRecDepth 100000 in
set_option maxHeartbeats 400000 in
theorem bare_zero (w : World) : Calls Tryz.prog 15 #[.agg #[.int .i64 0, .slice none 0 0, .slice none 0 0]] w fun e w' => e = .returned (.bool true) ∧ Below w.heap.size w w' := by
  have hb : Below w.heap.size w (w.alloc (.cells #[.int .i64 0, .slice none 0 0, .slice none 0 0] 35)) := (Below.refl _ _).alloc (Nat.le_refl _) _
  go_enter Tryz.func15, Tryz.ntmps15
  go_wp2
  go_ret
  exact ⟨rfl, hb⟩
set_option maxRecDepth 100000 in
set_option maxHeartbeats 400000 in
theorem kOuts_nil (ao bo : Option Addr) (c d : Nat) (w : World) :
    Calls Tryz.prog 39 #[.slice ao 0 c, .slice bo 0 d] w fun e w' => e = .returned (.bool true) ∧ w = w' := by
  go_enter Tryz.func39, Tryz.ntmps39
  go_wp2
  refine wp_loop_rounds 1 ?_
  rw [rounds_succ]
  go_wp2
  go_ret
  exact ⟨rfl, rfl⟩
set_option maxRecDepth 100000 in
set_option maxHeartbeats 400000 in
theorem kOuts_row (a1 o1 a2 o2 n c d : Nat) (ys : List (Int × Int)) (w : World) (h1 : OutsRow w a1 o1 ys) (h2 : OutsRow w a2 o2 ys) (hn : ys.length = n) (hm : n ≤ 9223372036854775807) :
    Calls Tryz.prog 39 #[.slice (some ⟨a1, o1, none⟩) n c, .slice (some ⟨a2, o2, none⟩) n d] w fun e w' => e = .returned (.bool true) ∧ Below w.heap.size w w' := by
  have H1 : Hid (OutsRow w a1 o1 ys) := h1
  have H2 : Hid (OutsRow w a2 o2 ys) := h2
  have HN : Hid (ys.length = n) := hn
  clear h1 h2 hn
  go_enter Tryz.func39, Tryz.ntmps39
  go_wp2
  go_loopw [5] (fun i wr => ∃ k : Nat, k ≤ n ∧ i = .int .i64 k ∧ Below w.heap.size w wr) (fun i _ => n - (intOf i).toNat)
  case atStart => exact ⟨0, Nat.zero_le _, rfl, Below.refl _ _⟩
  case round =>
    obtain ⟨k, hk, rfl, hbl⟩ := hrel
    by_cases hlt : k < n
    · obtain ⟨c1, c2⟩ := (H1.out.grown hbl) k (by rw [HN.out]; exact hlt)
      obtain ⟨c3, c4⟩ := (H2.out.grown hbl) k (by rw [HN.out]; exact hlt)
      generalize ys.getD k (0, 0) = y at c1 c2 c3 c4
      obtain ⟨ya, yv⟩ := y
      simp only at c1 c2 c3 c4
      have k1 : (k : Int) < (n : Int) := by omega
      have k0 : (0 : Int) ≤ (k : Int) := by omega
      have gd : (ya != ya) = false := by simp
      go_wp2
      go_quiet (fail)
      go_wp2
      go_roundw
      case rel => exact ⟨k + 1, by omega, by go_num, below_drewN hbl _⟩
      case measure => simp [intOf]; omega
    · go_wp2
      go_ret
      exact ⟨rfl, hbl⟩
theorem kOuts_any (ao bo : Option Addr) (n c d : Nat) (ys : List (Int × Int)) (w : World) (h1 : OutsAt w ao ys) (h2 : OutsAt w bo ys) (hn : ys.length = n) (hm : n ≤ 9223372036854775807) :
    Calls Tryz.prog 39 #[.slice ao n c, .slice bo n d] w fun e w' => e = .returned (.bool true) ∧ Below w.heap.size w w' := by
  rcases h1 with rfl | ⟨a1, o1, rfl, h1⟩
  · have h0 : n = 0 := by rw [← hn]; rfl
    subst h0
    refine (kOuts_nil ao bo c d w).mono ?_
    rintro e w' ⟨rfl, rfl⟩
    exact ⟨rfl, Below.refl _ _⟩
  · rcases h2 with rfl | ⟨a2, o2, rfl, h2⟩
    · have h0 : n = 0 := by rw [← hn]; rfl
      subst h0
      refine (kOuts_nil _ bo c d w).mono ?_
      rintro e w' ⟨rfl, rfl⟩
      exact ⟨rfl, Below.refl _ _⟩
    · exact kOuts_row a1 o1 a2 o2 n c d ys w h1 h2 hn hm
/-- the value of the deposit of this name -/
def valZ : List CoinD → Int → Int → Int
  | [], _, _ => -1
  | x :: r, id, pos => if (x.id == id && pos == 0) = true then x.val else valZ r id pos
/-- what is asked for -/
def rqZ (y : Int × Int) : Int × Int := (Mk.pk y.1 99991, 10 + Mk.pk y.2 1099511627767)
def reqZ (raw : List (Int × Int)) : List (Int × Int) := if raw.length = 0 then [(0, 10)] else (raw.take 7).map rqZ
theorem reqZ_right (raw : List (Int × Int)) : 1 ≤ (reqZ raw).length ∧ (reqZ raw).length ≤ 7 ∧ ∀ y ∈ reqZ raw, rOut y = true := by
  unfold reqZ
  split
  · refine ⟨by simp, by simp, fun y hy => ?_⟩
    rw [List.mem_singleton.1 hy]
    decide
  · rename_i h
    refine ⟨by rw [List.length_map, List.length_take]; omega, by rw [List.length_map, List.length_take]; omega, fun y hy => ?_⟩
    obtain ⟨x, _, rfl⟩ := List.mem_map.1 hy
    have h1 := Mk.pk_bd x.1 99991 (by decide)
    have h2 := Mk.pk_bd x.2 1099511627767 (by decide)
    unfold rOut rqZ
    simp only [(Mk.isM_iff _).2 h1, Bool.true_and, decide_eq_true_eq]
    omega
set_option maxRecDepth 100000 in
set_option maxHeartbeats 4000000 in
theorem request_any (ao : Option Addr) (n c : Nat) (raw : List (Int × Int)) (w : World) (hx : OutsAt w ao raw) (hn : raw.length = n) (hr : ∀ y ∈ raw, (-9223372036854775808 ≤ y.1 ∧ y.1 ≤ 9223372036854775807) ∧ (-9223372036854775808 ≤ y.2 ∧ y.2 ≤ 9223372036854775807)) :
    Calls Tryz.prog 10 #[.slice ao n c] w fun e w' => ∃ v, e = .returned v ∧ OwnRec kV 93 2 w' w.heap.size v (reqZ raw) ∧ Below w.heap.size w w' := by
  have HN : Hid (raw.length = n) := hn
  have HX : Hid (RecAt kV w ao raw) := outs_rec hx
  have HR : Hid (∀ y ∈ raw, (-9223372036854775808 ≤ y.1 ∧ y.1 ≤ 9223372036854775807) ∧ (-9223372036854775808 ≤ y.2 ∧ y.2 ≤ 9223372036854775807)) := hr
  have HQ : Hid (reqZ raw = if raw.length = 0 then [(0, 10)] else (raw.take 7).map rqZ) := rfl
  clear hn hx hr
  go_enter Tryz.func10, Tryz.ntmps10
  go_wp2
  go_loopw [3, 4] (fun v i wr => ∃ k : Nat, k ≤ n ∧ k ≤ 7 ∧ i = .int .i64 k ∧ Hid (OwnRec kV 93 2 wr w.heap.size v ((raw.take k).map rqZ)) ∧ Below w.heap.size w wr) (fun _ i _ => n - (intOf i).toNat)
  case atStart => exact ⟨0, Nat.zero_le _, by omega, rfl, OwnRec.nil _ _ _ _ _, Below.refl _ _⟩
  case round =>
    obtain ⟨k, hk, hk7, rfl, hown, hbl⟩ := hrel
    by_cases hlt : k < n
    · by_cases h7 : k < 7
      · rcases HX.out with hnil | ⟨g, off, rfl, hrow⟩
        · have := HN.out; rw [hnil] at this; simp at this; omega
        obtain ⟨c0, c1⟩ := kvCells (hrow.grown hbl) k (by rw [HN.out]; exact hlt)
        have hyr := HR.out (raw.getD k (0, 0)) (getD_mem raw (0, 0) k (by rw [HN.out]; exact hlt))
        have HS : Hid ((raw.take (k + 1)).map rqZ = (raw.take k).map rqZ ++ [rqZ (raw.getD k (0, 0))]) := by
          show _ = _
          have hkl : k < raw.length := by rw [HN.out]; exact hlt
          have e : raw.getD k (0, 0) = raw[k] := by simp [List.getD, hkl]
          rw [List.take_succ_eq_append_getElem hkl, List.map_append, e]
          rfl
        have HLL : Hid (((raw.take k).map rqZ).length ≤ 7) := by show _ ≤ _; rw [List.length_map, List.length_take]; omega
        clear hrow
        generalize raw.getD k (0, 0) = y at *
        generalize (raw.take k).map rqZ = acc at *
        obtain ⟨y0, y1⟩ := y
        have HRQ : Hid (rqZ (y0, y1) = (Mk.pk y0 99991, 10 + Mk.pk y1 1099511627767)) := rfl
        simp only at c0 c1 hyr
        obtain ⟨⟨r1, r2⟩, r3, r4⟩ := hyr
        have hsz := hbl.size
        have bA : Below wr.heap.size wr (wr.alloc (.cells #[.int .i64 (Mk.pk y0 99991), .int .i64 (10 + Mk.pk y1 1099511627767)] 93)) := (Below.refl _ _).alloc (Nat.le_refl _) _
        have x0 : (wr.alloc (.cells #[.int .i64 (Mk.pk y0 99991), .int .i64 (10 + Mk.pk y1 1099511627767)] 93)).cell? ⟨wr.heap.size, 0, none⟩ = some (.int .i64 (Mk.pk y0 99991)) := by go_simp
        have x1 : (wr.alloc (.cells #[.int .i64 (Mk.pk y0 99991), .int .i64 (10 + Mk.pk y1 1099511627767)] 93)).cell? ⟨wr.heap.size, 1, none⟩ = some (.int .i64 (10 + Mk.pk y1 1099511627767)) := by go_simp
        have hgw : g < wr.heap.size := cell_lt c0
        go_upto_region 7 with (first | (go_at_call 11; refine (pick_any y0 99991 _ (by omega) (by omega) r1 r2).mono ?_; rintro e w' ⟨rfl, rfl⟩) | (go_at_call 31; refine (valued_any y1 _ r3 r4).mono ?_; rintro e w' ⟨rfl, rfl⟩))
        generalize Mk.pk y0 99991 = q0 at *
        generalize 10 + Mk.pk y1 1099511627767 = q1 at *
        generalize (wr.alloc (.cells #[.int .i64 q0, .int .i64 q1] 93)) = w1 at *
        have HO1 : Hid (OwnRec kV 93 2 w1 w.heap.size u3 acc) := hown.out.grown bA
        have hb1 : Below w.heap.size w w1 := hbl.trans (bA.mono hsz)
        have hs1 := hb1.size
        clear bA hown hbl c0 c1
        generalize wr.heap.size = X at *
        have bC : Below w1.heap.size w1 (w1.alloc (.cells #[.int .i64 q0, .int .i64 q1] 93)) := (Below.refl _ _).alloc (Nat.le_refl _) _
        have HO2 : Hid (OwnRec kV 93 2 (w1.alloc (.cells #[.int .i64 q0, .int .i64 q1] 93)) w.heap.size u3 acc) := HO1.out.grown bC
        go_wp2_with (at_builtin; refine wpList_appR 28 16 _ Tryz.underlying28 info93 rfl (by decide) kv2 kv_one (w1.alloc (.cells #[.int .i64 q0, .int .i64 q1] 93)) rfl _ _ rfl w.heap.size w1.heap.size 1 u3 acc (q0, q1) (by rfl) (by rfl) HO2.out (vrow_new _ _ _) (by simp; omega) (by have := HLL.out; unfold maxLen; omega) (by have := HLL.out; omega) ?_; intro gb capb w8 hown8 hg8 hl8 hlt8)
        have HB8 : Hid (Below w.heap.size w w8) := (hb1.trans (bC.mono hs1)).trans (gb_to_below hg8 (by simp; omega) (fun q hq => (HO2.out.blk q hq).1))
        have HO8 : Hid _ := hown8
        clear hown8 hg8 hl8 hlt8 bC
        go_roundw
        case rel => exact ⟨k + 1, by omega, by omega, by go_num, by rw [HS.out, HRQ.out]; exact HO8.out, HB8.out⟩
        case measure => simp [intOf]; omega
      · have hk7' : k = 7 := by omega
        subst hk7'
        have HL0 : Hid (((raw.take 7).map rqZ).length = 7) := by show _ = _; rw [List.length_map, List.length_take, HN.out]; omega
        obtain ⟨av, cv, ev, _⟩ := OwnRec.at kv2 hown.out
        rw [HL0.out] at ev
        subst ev
        have HE : Hid (reqZ raw = (raw.take 7).map rqZ) := by show _ = _; rw [HQ.out, if_neg (by rw [HN.out]; omega)]
        go_wp2
        go_ret
        exact ⟨_, rfl, by rw [HE.out]; exact hown.out, hbl⟩
    · have hkn : k = n := by omega
      subst hkn
      obtain ⟨av, cv, ev, _⟩ := OwnRec.at kv2 hown.out
      rw [List.length_map, List.length_take, HN.out, Nat.min_self] at ev
      subst ev
      by_cases h0 : k = 0
      · subst h0
        have HE : Hid (reqZ raw = [(0, 10)]) := by show _ = _; rw [HQ.out, if_pos HN.out]
        have HO : Hid (OwnRec kV 93 2 wr w.heap.size (.slice av 0 cv) []) := by have := hown.out; rw [List.take_zero] at this; exact this
        have hs1 := hbl.size
        have bC : Below wr.heap.size wr (wr.alloc (.cells #[.int .i64 0, .int .i64 10] 93)) := (Below.refl _ _).alloc (Nat.le_refl _) _
        have HO2 : Hid (OwnRec kV 93 2 (wr.alloc (.cells #[.int .i64 0, .int .i64 10] 93)) w.heap.size (.slice av 0 cv) []) := HO.out.grown bC
        go_wp2_with (at_builtin; refine wpList_appR 28 16 _ Tryz.underlying28 info93 rfl (by decide) kv2 kv_one (wr.alloc (.cells #[.int .i64 0, .int .i64 10] 93)) rfl _ _ rfl w.heap.size wr.heap.size 1 (.slice av 0 cv) [] (0, 10) (by rfl) (by rfl) HO2.out (vrow_new _ _ _) (by simp; omega) (by unfold maxLen; simp) (by simp) ?_; intro gb capb w8 hown8 hg8 hl8 hlt8)
        have HB8 : Hid (Below w.heap.size w w8) := (hbl.trans (bC.mono hs1)).trans (gb_to_below hg8 (by simp; omega) (fun q hq => (HO2.out.blk q hq).1))
        have HO8 : Hid _ := hown8
        clear hown8 hg8 hl8 hlt8 bC
        go_ret
        exact ⟨_, rfl, by rw [HE.out]; exact HO8.out, HB8.out⟩
      · have HE : Hid (reqZ raw = (raw.take k).map rqZ) := by
          show _ = _
          rw [HQ.out, if_neg (by rw [HN.out]; exact h0), List.take_of_length_le (by rw [HN.out]; omega), List.take_of_length_le (by rw [HN.out]; omega)]
        have hki : ¬ ((k : Int) = 0) := by omega
        go_wp2
        go_ret
        exact ⟨_, rfl, by rw [HE.out]; exact hown.out, hbl⟩
end Go.Proofs.YtffgpepngcnjeabGreatQ

namespace Go.Proofs.YtffgpepngcnjeabGreatQ
open Go.RowKit
/-- what is read of a scene -/
structure Sn (S P : Nat) (s : Int) (g : Nat) (vi : Value) (ac : Option Addr) (cc : Nat) (cs : List CoinD) (w : World) : Prop where
  c0 : w.cell? ⟨S, 0, none⟩ = some (.pointer (some ⟨P, 0, none⟩))
  c1 : w.cell? ⟨S, 1, none⟩ = some (.int .i64 s)
  c2 : w.cell? ⟨S, 2, none⟩ = some (.int .i64 (g : Int))
  c3 : w.cell? ⟨S, 3, none⟩ = some vi
  c4 : w.cell? ⟨S, 4, none⟩ = some (.slice ac cs.length cc)
  at_ : RecAt CoinD.l w ac cs
theorem Sn.grown {S P : Nat} {s : Int} {g : Nat} {vi : Value} {ac : Option Addr} {cc : Nat} {cs : List CoinD} {w w' : World} (h : Sn S P s g vi ac cc cs w) (hb : Below w.heap.size w w') : Sn S P s g vi ac cc cs w' :=
  ⟨(hb.cell (p := ⟨S, 0, none⟩) (cell_lt h.c0)).trans h.c0, (hb.cell (p := ⟨S, 1, none⟩) (cell_lt h.c1)).trans h.c1, (hb.cell (p := ⟨S, 2, none⟩) (cell_lt h.c2)).trans h.c2, (hb.cell (p := ⟨S, 3, none⟩) (cell_lt h.c3)).trans h.c3, (hb.cell (p := ⟨S, 4, none⟩) (cell_lt h.c4)).trans h.c4, h.at_.grown hb⟩
/-- a coin of the scene that a payment may take -/
structure DpsOk (s : Int) (cs : List CoinD) (x : CoinD) : Prop where
  k : Mk.isK s x.br x.ix = true
  a : Mk.adr s x.br x.ix = x.tt
  h : hasZ cs ⟨x.id, x.pos, x.tt, x.val, 0, 0⟩ = true
  v : valZ cs x.id x.pos = x.val
  b : 0 ≤ x.val ∧ x.val ≤ 1099511627776
theorem keepB3 {w w' : World} {a b c p q r : Nat} {x y z : Value} (hb : Below w.heap.size w w') (h : w.cell? ⟨a, p, none⟩ = some x ∧ w.cell? ⟨b, q, none⟩ = some y ∧ w.cell? ⟨c, r, none⟩ = some z) : w'.cell? ⟨a, p, none⟩ = some x ∧ w'.cell? ⟨b, q, none⟩ = some y ∧ w'.cell? ⟨c, r, none⟩ = some z :=
  ⟨(hb.cell (p := ⟨a, p, none⟩) (cell_lt h.1)).trans h.1, (hb.cell (p := ⟨b, q, none⟩) (cell_lt h.2.1)).trans h.2.1, (hb.cell (p := ⟨c, r, none⟩) (cell_lt h.2.2)).trans h.2.2⟩
end Go.Proofs.YtffgpepngcnjeabGreatQ

namespace Go.Proofs.YtffgpepngcnjeabGreatQ
open Go.RowKit
/-- a purse, whatever its payments are -/
abbrev PAq (w : World) (P : Nat) (s : Int) (g : Nat) (v : Value) (h : Int) (xs : List Cel) : Prop := ChOwn [(0, .int .i64 s), (1, .int .i64 (g : Int))] w P 2 v h xs
/-- an input without a seal -/
def CoinD.inD (x : CoinD) : InD := ⟨x.id, x.pos, none, 0, 0, []⟩
def payFin (xs : List Cel) (tag : Int) (cs : List CoinD) (ys : List (Int × Int)) (ch : Int) : Sum Int (List CoinD × List (Int × Int) × Int) :=
  if hasId xs (idZ tag (cs.map CoinD.inD) ys) = true then .inl 4 else .inr (cs, ys, ch)
/-- what Pay answers: the error, or the coins, the outputs and the change's index -/
def payZ (xs : List Cel) (s : Int) (g : Nat) (ps : List PayD) (ks : List (Int × Int)) (nx : Int) (ys : List (Int × Int)) (r tag : Int) : Sum Int (List CoinD × List (Int × Int) × Int) :=
  if r < 0 ∨ 1000 < r ∨ ¬ (0 ≤ tag ∧ tag ≤ 1099511627776) then .inl 1
  else if 7 < ys.length ∨ rOuts ys = false then .inl 2
  else match chooseZ r (orderZ r ((ownOf xs s g).filter (freeB ps ks))) (targetZ ys r) with
    | none => .inl 9
    | some (cs, ch) => if 0 < ch then (match unpZ xs s g nx with
        | none => .inl 10
        | some k => payFin xs tag cs (ys ++ [(k.ad, ch)]) k.ix) else payFin xs tag cs ys (-1)
/-- a purse in block P, with its payments -/
structure PP (N : Nat → Prop) (w : World) (P : Nat) (s : Int) (g : Nat) (v : Value) (h : Int) (xs : List Cel) (vl vs : Value) (md nx : Int) (ps : List PayD) (ks : List (Int × Int)) : Prop where
  pu : PAq w P s g v h xs
  ls : LsAt N w P 4 (P + 1) vl vs md nx ps ks
  dj : ∀ k, v.ownBlock = some k → vl.ownBlock ≠ some k ∧ vs.ownBlock ≠ some k ∧ ¬ N k
theorem PP.fr {E N : Nat → Prop} {w w' : World} {P : Nat} {s : Int} {g : Nat} {v : Value} {h : Int} {xs : List Cel} {vl vs : Value} {md nx : Int} {ps : List PayD} {ks : List (Int × Int)} (u : PP N w P s g v h xs vl vs md nx ps ks) (hf : Fr E w w') (h1 : ∀ k, chE P v k → ¬ E k) (h2 : ∀ k, lsE P vl vs k → ¬ E k) (h3 : ∀ k, N k → ¬ E k) : PP N w' P s g v h xs vl vs md nx ps ks :=
  ⟨u.pu.fr hf h1, u.ls.fr hf h2 h3, u.dj⟩
theorem PP.grown {N : Nat → Prop} {w w' : World} {P : Nat} {s : Int} {g : Nat} {v : Value} {h : Int} {xs : List Cel} {vl vs : Value} {md nx : Int} {ps : List PayD} {ks : List (Int × Int)} (u : PP N w P s g v h xs vl vs md nx ps ks) (hb : Below w.heap.size w w') : PP N w' P s g v h xs vl vs md nx ps ks :=
  u.fr (Fr.of_below hb (fun _ => False)) (fun _ _ h => h) (fun _ _ h => h) (fun _ _ h => h)
/-- the purse behind a payment: two blocks more in N, the list of the live ones longer -/
def PayGo (N : Nat → Prop) (P : Nat) (s : Int) (g : Nat) (v : Value) (h : Int) (xs : List Cel) (vl vs : Value) (md nx : Int) (ps : List PayD) (ks : List (Int × Int)) (tag : Int) (cs : List CoinD) (ys : List (Int × Int)) (ch : Int) (vi vo vk : Value) (w w' : World) : Prop :=
  ∃ vl' gc cc go co, PP (fun k => N k ∨ k = gc ∨ k = go) w' P s g v h xs vl' vs (md + 1) (if nx ≤ ch then ch + 1 else nx) (ps ++ [⟨md, some ⟨gc, 0, none⟩, cs.length, cc, some ⟨go, 0, none⟩, ys.length, co, tag, false, cs, ys⟩]) ks ∧ PdOk w.heap.size vi vo vk cs ys cs w' ∧ Fr (fun k => k = P ∨ vl.ownBlock = some k) w w' ∧ (∀ k, (vl'.ownBlock = some k ∨ k = gc ∨ k = go) → vl.ownBlock = some k ∨ (w.heap.size ≤ k ∧ vi.ownBlock ≠ some k ∧ vo.ownBlock ≠ some k ∧ vk.ownBlock ≠ some k))
/-- the answer of Pay: number, tag, inputs, outputs, keys, change, error -/
def PayOkR (N : Nat → Prop) (P : Nat) (s : Int) (g : Nat) (v : Value) (h : Int) (xs : List Cel) (vl vs : Value) (md nx : Int) (ps : List PayD) (ks : List (Int × Int)) (ys : List (Int × Int)) (r tag : Int) (a0 a1 a2 a3 a4 a5 : Value) (er : Int) (w w' : World) : Prop :=
  (∃ x, payZ xs s g ps ks nx ys r tag = .inl x ∧ er = x ∧ a0 = .int .i64 0 ∧ a1 = .int .i64 0 ∧ a2 = .slice none 0 0 ∧ a3 = .slice none 0 0 ∧ a4 = .slice none 0 0 ∧ a5 = .int .i64 0 ∧ Below w.heap.size w w') ∨
  (∃ cs zs ch, payZ xs s g ps ks nx ys r tag = .inr (cs, zs, ch) ∧ er = 0 ∧ a0 = .int .i64 md ∧ a1 = .int .i64 tag ∧ a5 = .int .i64 ch ∧ PayGo N P s g v h xs vl vs md nx ps ks tag cs zs ch a2 a3 a4 w w')
theorem mem_choose {r : Int} {l : List CoinD} {want : Int} {cs : List CoinD} {ch : Int} (h : chooseZ r l want = some (cs, ch)) : (∀ x ∈ cs, x ∈ l) ∧ cs.length ≤ 10 := by
  unfold chooseZ at h
  split at h
  · injection h with h
    injection h with h1 _
    subst h1
    unfold memP
    refine ⟨fun x hx => ?_, ?_⟩
    · obtain ⟨i, hi, rfl⟩ := List.mem_map.1 hx
      have := (List.mem_filter.1 hi).2
      rw [Bool.and_eq_true, decide_eq_true_iff] at this
      exact getD_mem l dN i this.1
    · have := range_filter_len (fun i => decide (i < l.length) && bitN (bestP r l want (want + slackZ r)) 8 i) (fun i => l.getD i dN) 8
      omega
  · split at h
    · cases h
    · rename_i hn
      injection h with h
      injection h with h1 _
      subst h1
      exact ⟨fun x hx => List.mem_of_mem_take hx, by rw [List.length_take]; omega⟩
end Go.Proofs.YtffgpepngcnjeabGreatQ

namespace Go.Proofs.YtffgpepngcnjeabGreatQ
open Go.RowKit
def PRow4 (w : World) (P : Nat) (s g : Int) (v : Value) (h : Int) : Prop := VRow w P 0 [.int .i64 s, .int .i64 g, v, .int .i64 h]
theorem PRow4.c0 {w : World} {P : Nat} {s g : Int} {v : Value} {h : Int} (hr : PRow4 w P s g v h) : w.cell? ⟨P, 0, none⟩ = some (.int .i64 s) := hr 0 (by simp)
theorem PRow4.c1 {w : World} {P : Nat} {s g : Int} {v : Value} {h : Int} (hr : PRow4 w P s g v h) : w.cell? ⟨P, 1, none⟩ = some (.int .i64 g) := hr 1 (by simp)
theorem PRow4.c2 {w : World} {P : Nat} {s g : Int} {v : Value} {h : Int} (hr : PRow4 w P s g v h) : w.cell? ⟨P, 2, none⟩ = some v := hr 2 (by simp)
theorem PRow4.c3 {w : World} {P : Nat} {s g : Int} {v : Value} {h : Int} (hr : PRow4 w P s g v h) : w.cell? ⟨P, 3, none⟩ = some (.int .i64 h) := hr 3 (by simp)
set_option maxRecDepth 100000 in
set_option maxHeartbeats 1000000 in
theorem pWindows4 (P : Nat) (s : Int) (g : Nat) (ao : Option Addr) (n c : Nat) (h : Int) (xs : List Cel) (w : World) (hs : Mk.isM s = true) (hg : 1 ≤ g) (hg2 : g ≤ 20) (hp : PRow4 w P s g (.slice ao n c) h) (hx : CelsAt w ao xs) (hn : xs.length = n) (hm : n ≤ 1000000) :
    Calls Tryz.prog 37 #[.pointer (some ⟨P, 0, none⟩)] w fun e w' => e = .returned (.tuple #[.int .i64 (winZ xs s g 0), .int .i64 (winZ xs s g 1)]) ∧ Below w.heap.size w w' := by
  have HN : Hid (xs.length = n) := hn
  have HX : Hid (CelsAt w ao xs) := hx
  have HP : Hid (PRow4 w P s g (.slice ao n c) h) := hp
  have c0 := hp.c0
  have c1 := hp.c1
  have hx' : ∀ w', w'.heap = w.heap → CelsAt w' ao xs := fun w' hw => RecAt.heap hx hw
  have hc2 : ∀ w' : World, w'.heap = w.heap → w'.cell? ⟨P, 2, none⟩ = some (.slice ao n c) := fun w' hw => by rw [← hp.c2]; simp [World.cell?, hw]
  have HX' : Hid (∀ w' : World, w'.heap = w.heap → CelsAt w' ao xs) := hx'
  have HC : Hid (∀ w' : World, w'.heap = w.heap → w'.cell? ⟨P, 2, none⟩ = some (.slice ao n c)) := hc2
  clear hn hx hp hx' hc2
  go_enter Tryz.func37, Tryz.ntmps37
  go_wp2
  go_region_held3 (fun w' => w'.cell? ⟨P, 0, none⟩ = some (.int .i64 s) ∧ w'.cell? ⟨P, 1, none⟩ = some (.int .i64 g)) (first | go_keep | exact keepP (w' := w.drew) c0 c1 rfl (by assumption)) ((go_at_call 94; refine (window_any P 2 ao n c xs s g 0 w.drew hs hg hg2 (Or.inl rfl) (HC.out w.drew rfl) (HX'.out w.drew rfl) HN.out hm).mono ?_; rintro e w1 ⟨rfl, hb1⟩))
  rename_i hHd
  obtain ⟨d0, d1⟩ := hHd
  have hbw : Below w.heap.size w w1 := by have h0 : Below w.heap.size w w.drew := (Below.refl _ _).drew; exact h0.trans hb1
  have HX1 : Hid (CelsAt w1.drew ao xs) := RecAt.heap (HX.out.grown hbw) rfl
  have HC1 : Hid (w1.drew.cell? ⟨P, 2, none⟩ = some (.slice ao n c)) := (hbw.cell (p := ⟨P, 2, none⟩) (cell_lt HP.out.c2)).trans HP.out.c2
  clear c0 c1 hb1
  go_wp2
  go_region_held3 (fun w' => w'.cell? ⟨P, 0, none⟩ = some (.int .i64 s) ∧ w'.cell? ⟨P, 1, none⟩ = some (.int .i64 g)) (first | go_keep | exact keepP (w' := w1.drew) d0 d1 rfl (by assumption)) ((go_at_call 94; refine (window_any P 2 ao n c xs s g 1 w1.drew hs hg hg2 (Or.inr rfl) HC1.out HX1.out HN.out hm).mono ?_; rintro e w2 ⟨rfl, hb2⟩))
  go_wp2
  go_ret2
  exact ⟨rfl, hbw.trans ((((Below.refl w1.heap.size w1).drew).trans hb2).mono hbw.size)⟩
set_option maxRecDepth 100000 in
set_option maxHeartbeats 1000000 in
theorem pCoins4 (P : Nat) (s : Int) (g : Nat) (ao : Option Addr) (n c : Nat) (h : Int) (xs : List Cel) (w : World) (hs : Mk.isM s = true) (hg : 1 ≤ g) (hg2 : g ≤ 20) (hp : PRow4 w P s g (.slice ao n c) h) (hx : CelsAt w ao xs) (hn : xs.length = n) (hm : n ≤ 10000) :
    Calls Tryz.prog 44 #[.pointer (some ⟨P, 0, none⟩)] w fun e w' => ∃ v, e = .returned v ∧ OwnRec CoinD.l 107 6 w' w.heap.size v (ownZ (keysZ xs s g) (coinsC xs)) ∧ Below w.heap.size w w' := by
  have c0 := hp.c0
  have c1 := hp.c1
  have hc2 : w.drew.cell? ⟨P, 2, none⟩ = some (.slice ao n c) := hp.c2
  have HC : Hid (w.drew.cell? ⟨P, 2, none⟩ = some (.slice ao n c)) := hc2
  have HX : Hid (CelsAt w.drew ao xs) := RecAt.heap hx rfl
  have HN : Hid (xs.length = n) := hn
  clear hp hc2 hx hn
  go_enter Tryz.func44, Tryz.ntmps44
  go_wp2
  go_region_held3 (fun w' => w'.cell? ⟨P, 0, none⟩ = some (.int .i64 s) ∧ w'.cell? ⟨P, 1, none⟩ = some (.int .i64 g)) (first | go_keep | exact keepP (w' := w.drew) c0 c1 rfl (by assumption)) ((go_at_call 97; refine (wCoins_any P 2 ao n c xs s g w.drew hs hg hg2 HC.out HX.out HN.out hm).mono ?_; rintro e w1 ⟨v, rfl, ho1, hb1⟩))
  go_wp2
  go_ret
  exact ⟨v, rfl, ho1, ((Below.refl w.heap.size w).drew).trans hb1⟩
theorem paq_c0 {w : World} {P : Nat} {s : Int} {g : Nat} {v : Value} {h : Int} {xs : List Cel} (hp : PAq w P s g v h xs) : w.cell? ⟨P, 0, none⟩ = some (.int .i64 s) := (hp.ext (0, .int .i64 s) (by simp)).2.2
theorem paq_c1 {w : World} {P : Nat} {s : Int} {g : Nat} {v : Value} {h : Int} {xs : List Cel} (hp : PAq w P s g v h xs) : w.cell? ⟨P, 1, none⟩ = some (.int .i64 (g : Int)) := (hp.ext (1, .int .i64 (g : Int)) (by simp)).2.2
theorem paq_row {w : World} {P : Nat} {s : Int} {g : Nat} {v : Value} {h : Int} {xs : List Cel} (hp : PAq w P s g v h xs) : PRow4 w P s g v h := by
  intro j hj
  match j, hj with
  | 0, _ => exact (hp.ext (0, .int .i64 s) (by simp)).2.2
  | 1, _ => exact (hp.ext (1, .int .i64 (g : Int)) (by simp)).2.2
  | 2, _ => exact hp.c0
  | 3, _ => exact hp.c1
end Go.Proofs.YtffgpepngcnjeabGreatQ

namespace Go.Proofs.YtffgpepngcnjeabGreatQ
open Go.RowKit
set_option maxRecDepth 100000 in
set_option maxHeartbeats 4000000 in
theorem sFull_any (S P : Nat) (s : Int) (g : Nat) (vi : Value) (ac : Option Addr) (cc : Nat) (cs : List CoinD) (av : Option Addr) (cv : Nat) (h : Int) (xs : List Cel) (w : World) (hS : Sn S P s g vi ac cc cs w) (hcl : cs.length ≤ 1000) (hs : Mk.isM s = true) (hg : 1 ≤ g) (hg2 : g ≤ 20) (hp : PRow4 w P s g (.slice av xs.length cv) h) (hx : CelsAt w av xs) (hxl : xs.length ≤ 1000000) (hw0 : 0 < winZ xs s g 1) (hk : ∀ i : Nat, i < winZ xs s g 1 → Mk.isK s 1 (i : Int) = true ∧ (cs.any fun c => c.tt == Mk.adr s 1 (i : Int)) = true) :
    Calls Tryz.prog 16 #[.pointer (some ⟨S, 0, none⟩)] w fun e w' => e = .returned (.bool true) ∧ Below w.heap.size w w' := by
  have HS0 : Hid (Sn S P s g vi ac cc cs w) := hS
  have HP0 : Hid (PRow4 w P s g (.slice av xs.length cv) h) := hp
  have HX0 : Hid (CelsAt w av xs) := hx
  have HK : Hid (∀ i : Nat, i < winZ xs s g 1 → Mk.isK s 1 (i : Int) = true ∧ (cs.any fun c => c.tt == Mk.adr s 1 (i : Int)) = true) := hk
  have s0 := hS.c0
  clear hS hp hx hk
  go_enter Tryz.func16, Tryz.ntmps16
  go_wp2_with fail
  refine (pWindows4 P s g av xs.length cv h xs _ hs hg hg2 HP0.out HX0.out rfl hxl).mono ?_
  rintro e w4 ⟨rfl, hb4⟩
  have HS4 : Hid (Sn S P s g vi ac cc cs w4) := HS0.out.grown hb4
  have HWE : Hid (winZ xs s g 1 ≤ 100) := winZ_le xs s g 1
  clear s0 HS0 HP0 HX0
  generalize winZ xs s g 1 = wn at *
  generalize winZ xs s g 0 = wz at *
  generalize hcn : cs.length = cn at *
  have HCN : Hid (cs.length = cn) := hcn
  have hw100 : wn ≤ 100 := HWE.out
  clear hcn
  go_wp2
  go_loopw [5] (fun v wr => ∃ (k : Nat), k ≤ wn ∧ v = .int .i64 k ∧ Below w4.heap.size w4 wr) (fun v _ => wn - (intOf v).toNat)
  case atStart => exact ⟨0, Nat.zero_le _, rfl, Below.refl _ _⟩
  case round =>
    obtain ⟨k, hk, rfl, hbl⟩ := hrel
    have HSr : Hid (Sn S P s g vi ac cc cs wr) := HS4.out.grown hbl
    by_cases hlt : k < wn
    · obtain ⟨hky, hany⟩ := HK.out k hlt
      have HKY : Hid (Mk.isK s 1 (k : Int) = true) := hky
      have HANY : Hid ((cs.any fun c => c.tt == Mk.adr s 1 (k : Int)) = true) := hany
      have s1 := HSr.out.c1
      have hkI : (k : Int) < (wn : Int) := by omega
      clear hky hany
      go_wp2_with (go_at_call 32; refine (pAddress_yes s 1 (k : Int) _ HKY.out).mono ?_; rintro e w3 ⟨rfl, hb3⟩)
      generalize Mk.adr s 1 (k : Int) = ad at *
      have HS3 : Hid (Sn S P s g vi ac cc cs w3) := HSr.out.grown hb3
      have hb03 := below_blk hbl hb3
      clear s1 hb3 HSr hbl
      go_loopw [8, 9] (fun v q wr => ∃ (j : Nat), j ≤ cn ∧ q = .int .i64 j ∧ v = .bool ((cs.take j).any fun c => c.tt == ad) ∧ Below w3.heap.size w3 wr) (fun _ q _ => cn - (intOf q).toNat)
      case atStart => exact ⟨0, Nat.zero_le _, rfl, by simp, Below.refl _ _⟩
      case round =>
        obtain ⟨j, hj, rfl, rfl, hbj⟩ := hrel
        have HSj : Hid (Sn S P s g vi ac cc cs wr) := HS3.out.grown hbj
        have s4 := HSj.out.c4
        rw [HCN.out] at s4
        by_cases hjl : j < cn
        · have hkl : j < cs.length := by rw [HCN.out]; exact hjl
          rcases HSj.out.at_ with hnil | ⟨gc, oc, rfl, hrow⟩
          · rw [hnil] at hkl; simp at hkl
          obtain ⟨e0, e1, e2, e3, e4, e5⟩ := coinCells hrow j hkl
          have HNX : Hid ((cs.take (j + 1)).any (fun c => c.tt == ad) = ((cs.take j).any (fun c => c.tt == ad) || ((cs.getD j dN).tt == ad))) := by
            show _ = _
            have e : cs.getD j dN = cs[j] := by simp [List.getD, hkl]
            rw [List.take_succ_eq_append_getElem hkl, List.any_append, e]
            simp
          clear hrow e0 e1 e3 e4 e5
          generalize (cs.getD j dN).tt = y at *
          generalize ((cs.take j).any fun c => c.tt == ad) = bb at *
          have hjI : (j : Int) < (cn : Int) := by omega
          have hj0 : (0 : Int) ≤ (j : Int) := by omega
          cases bb
          · go_wp2
            go_roundw
            case rel => exact ⟨j + 1, by omega, by go_num, by rw [HNX.out]; rfl, hbj⟩
            case measure => simp [intOf]; omega
          · go_wp2
            go_roundw
            case rel => exact ⟨j + 1, by omega, by go_num, by rw [HNX.out]; rfl, hbj⟩
            case measure => simp [intOf]; omega
        · have HAL : Hid (((cs.take j).any fun c => c.tt == ad) = true) := by show _ = _; rw [List.take_of_length_le (by rw [HCN.out]; omega)]; exact HANY.out
          have hall := HAL.out
          have hjI : ¬ (j : Int) < (cn : Int) := by omega
          rw [hall]
          have hb05 := below_blk hb03 hbj
          go_wp2
          go_roundw
          case rel => exact ⟨k + 1, by omega, by go_num, hb05⟩
          case measure => simp [intOf]; omega
    · have hkI : ¬ (k : Int) < (wn : Int) := by omega
      have hwI : decide (0 < (wn : Int)) = true := decide_eq_true (by omega)
      have hb05 := below_blk hb4 hbl
      go_wp2
      go_ret
      exact ⟨rfl, hb05⟩
end Go.Proofs.YtffgpepngcnjeabGreatQ

namespace Go.Proofs.YtffgpepngcnjeabGreatQ
open Go.RowKit
/-- a payment that is fair: without change, or with one -/
def FairC (s : Int) (g : Nat) (xs : List Cel) (cs : List CoinD) (r : Int) (ex : List (Int × Int)) (ch ov : Int) : Prop :=
  (ex = [] ∧ ch = -1 ∧ 0 ≤ ov ∧ ov < r * 2 + 10) ∨
  ∃ (i : Nat) (v : Int), ex = [(Mk.adr s 1 (i : Int), v)] ∧ ch = (i : Int) ∧ Mk.isK s 1 (i : Int) = true ∧ i < winZ xs s g 1 ∧ 10 ≤ v ∧ (∀ c ∈ cs, c.tt ≠ Mk.adr s 1 (i : Int)) ∧ ov = 0
end Go.Proofs.YtffgpepngcnjeabGreatQ

namespace Go.Proofs.YtffgpepngcnjeabGreatQ
open Go.RowKit
theorem max_ex : ∀ (l : List Int), l ≠ [] → ∃ m ∈ l, ∀ x ∈ l, x ≤ m := by
  intro l
  induction l with
  | nil => intro h; exact absurd rfl h
  | cons a t ih =>
    intro _
    by_cases e : t = []
    · subst e
      exact ⟨a, by simp, fun x hx => by simp at hx; omega⟩
    · obtain ⟨m, h1, h2⟩ := ih e
      by_cases h : m ≤ a
      · refine ⟨a, List.mem_cons_self, fun x hx => ?_⟩
        rcases List.mem_cons.1 hx with e | e
        · omega
        · have := h2 x e; omega
      · refine ⟨m, List.mem_cons_of_mem _ h1, fun x hx => ?_⟩
        rcases List.mem_cons.1 hx with e | e
        · omega
        · exact h2 x e
theorem gr_ex : ∀ (n : Nat) (l : List Int), ∃ s, Gr n l s := by
  intro n
  induction n with
  | zero => intro l; exact ⟨0, Gr.zero l⟩
  | succ n ih =>
    intro l
    by_cases e : l = []
    · subst e; exact ⟨0, Gr.nil _⟩
    · obtain ⟨m, h1, h2⟩ := max_ex l e
      obtain ⟨s, hs⟩ := ih (l.erase m)
      exact ⟨mx0 m + s, Gr.step n l m s h1 h2 hs⟩
/-- the greatest ten are the same of the deposits and of the own coins -/
theorem wsum_perm (r : Int) {l l' : List CoinD} (h : (l.map (worthZ r)).Perm (l'.map (worthZ r))) : wsum r ((orderZ r l).take 10) = wsum r ((orderZ r l').take 10) := by
  obtain ⟨s, hs⟩ := gr_ex 10 (l.map (worthZ r))
  have h1 := gr_order r 10 l s hs
  have h2 := gr_order r 10 l' s (gr_perm _ _ _ _ hs h)
  unfold wsum
  rw [← h1, ← h2]
theorem Dp.watched {s : Int} {g : Nat} {xs : List Cel} (h : Dp s g xs) (hg2 : g ≤ 20) : ∀ x ∈ xs, ∃ k ∈ keysZ xs s g, k.ad = x.to := fun x hx => by
  obtain ⟨br, i, hb, hi, e⟩ := h.tw x hx
  have hw := (win_spec xs s g br hg2).1
  obtain ⟨k, hk, ha⟩ := key_mem (xs := xs) (s := s) (g := g) hb (i := i) (by omega)
  exact ⟨k, hk, by rw [ha, e]⟩
theorem Dp.perm {s : Int} {g : Nat} {xs : List Cel} (h : Dp s g xs) (hg2 : g ≤ 20) : ((ownOf xs s g).map CoinD.k0).Perm (xs.map Cel.kept) := own_perm (keysZ xs s g) h.sp (h.watched hg2)
theorem Dp.worths {s : Int} {g : Nat} {xs : List Cel} (h : Dp s g xs) (hg2 : g ≤ 20) (r : Int) : ((ownOf xs s g).map (worthZ r)).Perm ((xs.map Cel.kept).map (worthZ r)) := by
  have := (h.perm hg2).map (worthZ r)
  rwa [k0_worth] at this
theorem Dp.sum {s : Int} {g : Nat} {xs : List Cel} (h : Dp s g xs) (hg2 : g ≤ 20) : sumC (ownOf xs s g) = sumC (xs.map Cel.kept) := (own_all h.sp (h.watched hg2)).2
theorem own_src (ks : List KeyD) : ∀ (l : List CoinC) (acc : List CoinD) (y : CoinD), y ∈ l.foldl (ownStep ks) acc → y ∈ acc ∨ ∃ x ∈ l, ∃ k ∈ ks, k.ad = x.ad ∧ y = coinK x k := by
  intro l
  induction l with
  | nil => intro acc y h; exact Or.inl h
  | cons x r ih =>
    intro acc y h
    rw [List.foldl_cons] at h
    rcases ih _ y h with h1 | ⟨z, hz, k, hk, e1, e2⟩
    · unfold ownStep at h1
      rcases idxOf_cases (fun k : KeyD => k.ad == x.ad) dK ks 0 with e | ⟨j, hj, e, hk⟩
      · rw [if_pos (by show idxOf _ ks 0 < 0; rw [e]; omega)] at h1
        exact Or.inl h1
      · have e3 : firstZ ks x.ad = (j : Int) := by show idxOf _ ks 0 = _; rw [e]; simp
        rw [e3, if_neg (by omega), Int.toNat_natCast] at h1
        rcases insZ_mem h1 with e4 | e4
        · exact Or.inr ⟨x, List.mem_cons_self, ks.getD j dK, getD_mem ks dK j hj, by simpa using hk, e4⟩
        · exact Or.inl e4
    · exact Or.inr ⟨z, List.mem_cons_of_mem _ hz, k, hk, e1, e2⟩
theorem keysZ_key {xs : List Cel} {s : Int} {g : Nat} (hs : Mk.isM s = true) {k : KeyD} (hk : k ∈ keysZ xs s g) : Mk.isK s k.br k.ix = true ∧ Mk.adr s k.br k.ix = k.ad := by
  unfold keysZ keysB at hk
  have h0 := winZ_le xs s g 0
  have h1 := winZ_le xs s g 1
  rcases List.mem_append.1 hk with e | e
  · obtain ⟨i, hi, rfl⟩ := List.mem_map.1 e
    have := List.mem_range.1 hi
    exact ⟨key_ok hs (Or.inl rfl) (by simp only; omega) (by simp only; omega), rfl⟩
  · obtain ⟨i, hi, rfl⟩ := List.mem_map.1 e
    have := List.mem_range.1 hi
    exact ⟨key_ok hs (Or.inr rfl) (by simp only; omega) (by simp only; omega), rfl⟩
theorem valZ_mem : ∀ (l : List CoinD) (c : CoinD), (l.map CoinD.id).Nodup → c ∈ l → valZ l c.id 0 = c.val := by
  intro l
  induction l with
  | nil => intro c _ h; cases h
  | cons x t ih =>
    intro c hn hc
    rw [List.map_cons, List.nodup_cons] at hn
    rw [valZ]
    rcases List.mem_cons.1 hc with e | e
    · subst e; rw [if_pos (by simp)]
    · have hne : x.id ≠ c.id := fun h => hn.1 (by rw [h]; exact List.mem_map_of_mem e)
      rw [if_neg (by simp [hne])]
      exact ih c hn.2 e
/-- an own coin of a scene -/
theorem Dp.own {s : Int} {g : Nat} {xs : List Cel} (h : Dp s g xs) (hs : Mk.isM s = true) (hg2 : g ≤ 20) {y : CoinD} (hy : y ∈ ownOf xs s g) : DpsOk s (xs.map Cel.kept) y ∧ Mk.isM y.id = true ∧ y.pos = 0 := by
  have hm : y.k0 ∈ xs.map Cel.kept := (h.perm hg2).mem_iff.1 (List.mem_map_of_mem hy)
  obtain ⟨x, hx, e⟩ := List.mem_map.1 hm
  have e1 : x.id = y.id := congrArg CoinD.id e
  have e2 : x.pos = y.pos := congrArg CoinD.pos e
  have e4 : x.val = y.val := congrArg CoinD.val e
  have hpos : y.pos = 0 := by rw [← e2]; exact h.po x hx
  rcases own_src (keysZ xs s g) (coinsC xs) [] y hy with e0 | ⟨c, _, k, hk, h1, h2⟩
  · cases e0
  · have hkk := keysZ_key hs hk
    have b1 : y.br = k.br := by rw [h2]; rfl
    have b2 : y.ix = k.ix := by rw [h2]; rfl
    have b3 : y.tt = c.ad := by rw [h2]; rfl
    refine ⟨⟨by rw [b1, b2]; exact hkk.1, by rw [b1, b2, hkk.2, h1, b3], ?_, ?_, ?_⟩, by rw [← e1]; exact h.im x hx, hpos⟩
    · unfold hasZ
      rw [List.any_eq_true]
      exact ⟨y.k0, hm, by simp [CoinD.k0]⟩
    · have := valZ_mem (xs.map Cel.kept) y.k0 (by rw [List.map_map]; exact h.nd) hm
      rw [hpos]
      exact this
    · rw [← e4]; have := h.va x hx; omega
theorem Dp.ownNd {s : Int} {g : Nat} {xs : List Cel} (h : Dp s g xs) (hg2 : g ≤ 20) : ((ownOf xs s g).map CoinD.id).Nodup := by
  have h1 := (h.perm hg2).map CoinD.id
  rw [List.map_map, List.map_map] at h1
  exact h1.nodup_iff.2 h.nd
theorem Dp.ordNd {s : Int} {g : Nat} {xs : List Cel} (h : Dp s g xs) (hg2 : g ≤ 20) (r : Int) : ((orderZ r (ownOf xs s g)).map CoinD.id).Nodup := by
  have h1 := (order_perm r (ownOf xs s g)).map CoinD.id
  refine h1.nodup_iff.2 ?_
  exact List.Nodup.sublist (List.Sublist.map _ List.filter_sublist) (h.ownNd hg2)
theorem order_mem {r : Int} {l : List CoinD} {x : CoinD} (h : x ∈ orderZ r l) : x ∈ l ∧ 1 ≤ worthZ r x := by
  have := List.mem_filter.1 ((order_perm r l).mem_iff.1 h)
  exact ⟨this.1, of_decide_eq_true this.2⟩
end Go.Proofs.YtffgpepngcnjeabGreatQ

namespace Go.Proofs.YtffgpepngcnjeabGreatQ
open Go.RowKit
/-- the coin that an input names, as the chain looks it up -/
def spOf (xs : List Cel) (i : InD) : SpD := ⟨findZ xs i.id i.pos, (xs.getD (findZ xs i.id i.pos).toNat dC).to, (xs.getD (findZ xs i.id i.pos).toNat dC).val, i.ao, i.n, i.c, i.l⟩
theorem spZ_map (xs : List Cel) : ∀ (ins : List InD) (acc : List SpD), (∀ i ∈ ins, ¬ findZ xs i.id i.pos < 0) → (ins.map fun i => findZ xs i.id i.pos).Nodup → (∀ i ∈ ins, isSp acc (findZ xs i.id i.pos) = false) → spZ xs ins acc = some (acc ++ ins.map (spOf xs)) := by
  intro ins
  induction ins with
  | nil => intro acc _ _ _; simp [spZ]
  | cons i r ih =>
    intro acc h1 h2 h3
    have hi := h3 i List.mem_cons_self
    have hf := h1 i List.mem_cons_self
    rw [List.map_cons, List.nodup_cons] at h2
    rw [spZ, if_neg (by rw [hi]; rintro (e | e); exact hf e; cases e)]
    have he : (⟨findZ xs i.id i.pos, (xs.getD (findZ xs i.id i.pos).toNat dC).to, (xs.getD (findZ xs i.id i.pos).toNat dC).val, i.ao, i.n, i.c, i.l⟩ : SpD) = spOf xs i := rfl
    rw [he, ih (acc ++ [spOf xs i]) (fun j hj => h1 j (List.mem_cons_of_mem _ hj)) h2.2 (fun j hj => ?_), List.map_cons, List.append_assoc]
    · rfl
    · unfold isSp
      rw [List.any_append, Bool.or_eq_false_iff]
      refine ⟨h3 j (List.mem_cons_of_mem _ hj), ?_⟩
      rw [List.any_cons, List.any_nil, Bool.or_false]
      show (findZ xs i.id i.pos == findZ xs j.id j.pos) = false
      rw [beq_eq_false_iff_ne]
      intro e
      exact h2.1 (List.mem_map.2 ⟨j, hj, e.symm⟩)
theorem find_name {xs : List Cel} {a b c d : Int} (h : ¬ findZ xs a b < 0) (e : findZ xs a b = findZ xs c d) : a = c ∧ b = d := by
  rcases findZ_cases xs a b with h1 | ⟨j, _, h2, h3⟩
  · rw [h1] at h; exact absurd (by decide) h
  · rcases findZ_cases xs c d with k1 | ⟨k, _, k2, k3⟩
    · rw [e, k1] at h; exact absurd (by decide) h
    · have hjk : j = k := by omega
      subst hjk
      unfold isCoin at h3 k3
      simp only [Bool.and_eq_true, beq_iff_eq] at h3 k3
      omega
/-- the inputs name coins that stand in the chain, each once -/
structure Stand (xs : List Cel) (ins : List InD) : Prop where
  fd : ∀ i ∈ ins, ¬ findZ xs i.id i.pos < 0
  nd : (ins.map fun i => (i.id, i.pos)).Nodup
theorem Stand.places {xs : List Cel} {ins : List InD} (h : Stand xs ins) : (ins.map fun i => findZ xs i.id i.pos).Nodup := by
  have h1 := h.fd
  have h2 := h.nd
  clear h
  induction ins with
  | nil => exact List.nodup_nil
  | cons i r ih =>
    rw [List.map_cons, List.nodup_cons] at h2 ⊢
    refine ⟨fun e => h2.1 ?_, ih (fun j hj => h1 j (List.mem_cons_of_mem _ hj)) h2.2⟩
    obtain ⟨j, hj, e⟩ := List.mem_map.1 e
    obtain ⟨e1, e2⟩ := find_name (h1 j (List.mem_cons_of_mem _ hj)) e
    exact List.mem_map.2 ⟨j, hj, by rw [e1, e2]⟩
theorem Stand.sp {xs : List Cel} {ins : List InD} (h : Stand xs ins) : spZ xs ins [] = some (ins.map (spOf xs)) := by
  have := spZ_map xs ins [] h.fd h.places (fun _ _ => rfl)
  rwa [List.nil_append] at this
theorem conn_one (h : Int) (xs : List Cel) (x : TxD) (hh : ¬ 40 ≤ h) : connZ h xs [x] = if (addZ xs h x.t x.ins x.ys true).1 ≠ 0 then ((addZ xs h x.t x.ins x.ys true).1, 0, h, tbZ h (addZ xs h x.t x.ins x.ys true).2) else (0, 0, h + 1, (addZ xs h x.t x.ins x.ys true).2) := by
  have hg : connGo h xs [x] 0 = if (addZ xs h x.t x.ins x.ys true).1 ≠ 0 then ((addZ xs h x.t x.ins x.ys true).1, 0, tbZ h (addZ xs h x.t x.ins x.ys true).2) else (0, 0, (addZ xs h x.t x.ins x.ys true).2) := rfl
  unfold connZ
  rw [if_neg hh, if_neg (by show ¬ 6 < 1; omega), hg]
  by_cases e : (addZ xs h x.t x.ins x.ys true).1 ≠ 0
  · rw [if_pos e]
    exact (if_pos e).trans (if_pos e).symm
  · rw [if_neg e]
    exact (if_neg (fun h => h rfl)).trans (if_neg e).symm
theorem und_back {h : Int} {xs : List Cel} (hu : Und h xs) : tbZ h xs = xs := tb_over (over_refl hu.ne)
/-- without seals it is refused -/
theorem conn_raw {h : Int} {xs : List Cel} {x : TxD} (hh : ¬ 40 ≤ h) (hu : Und h xs) (hr : rTx x.t x.ins x.ys = true) (hi : x.ins ≠ []) (hn : hasId xs (idZ x.t x.ins x.ys) = false) (hs : Stand xs x.ins) (hl : ∀ i ∈ x.ins, i.l = []) : connZ h xs [x] = (6, 0, h, xs) := by
  have hop : (x.ins.map (spOf xs)).all (opens (idZ x.t x.ins x.ys)) = false := by
    cases hx : x.ins with
    | nil => exact absurd hx hi
    | cons i r =>
      rw [List.map_cons, List.all_cons, Bool.and_eq_false_iff]
      left
      unfold opens
      rw [show (spOf xs i).l = [] from hl i (by rw [hx]; exact List.mem_cons_self)]
      rfl
  have ha : addZ xs h x.t x.ins x.ys true = (6, xs) := by
    unfold addZ
    rw [if_neg (by rw [hr]; simp), if_neg (by rw [hn]; simp), hs.sp]
    simp only [hop, if_true]
  rw [conn_one h xs x hh, ha, if_pos (by show (6 : Int) ≠ 0; decide), und_back hu]
/-- with them it is taken -/
theorem conn_sealed {h : Int} {xs : List Cel} {x : TxD} (hh : ¬ 40 ≤ h) (hr : rTx x.t x.ins x.ys = true) (hn : hasId xs (idZ x.t x.ins x.ys) = false) (hs : Stand xs x.ins) (ho : ∀ i ∈ x.ins, opens (idZ x.t x.ins x.ys) (spOf xs i) = true) (hv : sumOu x.ys ≤ sumSp (x.ins.map (spOf xs))) : connZ h xs [x] = (0, 0, h + 1, markZ h xs (x.ins.map (spOf xs)) ++ newC (idZ x.t x.ins x.ys) h x.ys x.ys.length) := by
  have hop : (x.ins.map (spOf xs)).all (opens (idZ x.t x.ins x.ys)) = true := by
    rw [List.all_eq_true]
    intro y hy
    obtain ⟨i, hi, rfl⟩ := List.mem_map.1 hy
    exact ho i hi
  have ha : addZ xs h x.t x.ins x.ys true = (0, markZ h xs (x.ins.map (spOf xs)) ++ newC (idZ x.t x.ins x.ys) h x.ys x.ys.length) := by
    unfold addZ
    rw [if_neg (by rw [hr]; simp), if_neg (by rw [hn]; simp), hs.sp]
    simp only [hop]
    rw [if_neg (by simp), if_neg (by rintro ⟨_, e⟩; omega)]
  rw [conn_one h xs x hh, ha, if_neg (fun h => h rfl)]
/-- a second time it is refused -/
theorem conn_twice {h : Int} {xs : List Cel} {x : TxD} (hh : ¬ 40 ≤ h) (hu : Und h xs) (hr : rTx x.t x.ins x.ys = true) (hn : hasId xs (idZ x.t x.ins x.ys) = true) : connZ h xs [x] = (4, 0, h, xs) := by
  have ha : addZ xs h x.t x.ins x.ys true = (4, xs) := by
    unfold addZ
    rw [if_neg (by rw [hr]; simp), if_pos hn]
  rw [conn_one h xs x hh, ha, if_pos (by show (4 : Int) ≠ 0; decide), und_back hu]
/-- the outputs behind it -/
def takenC (h id : Int) (xs : List Cel) (ins : List InD) (ys : List (Int × Int)) : List Cel := markZ h xs (ins.map (spOf xs)) ++ newC id h ys ys.length
theorem taken_has {h id : Int} {xs : List Cel} {ins : List InD} {ys : List (Int × Int)} (hy : ys ≠ []) : hasId (takenC h id xs ins ys) id = true := by
  unfold hasId takenC newC
  rw [List.any_append, Bool.or_eq_true]
  right
  rw [List.any_eq_true]
  refine ⟨_, List.mem_map.2 ⟨0, List.mem_range.2 (List.length_pos_iff.2 hy), rfl⟩, ?_⟩
  simp
/-- marks change what is spent alone -/
theorem mark_get (h : Int) : ∀ (ss : List SpD) (xs : List Cel) (k : Nat), ((markZ h xs ss).getD k dC = xs.getD k dC ∧ ∀ s ∈ ss, s.pl.toNat ≠ k) ∨ (k < xs.length ∧ (markZ h xs ss).getD k dC = (xs.getD k dC).sp h) ∨ (xs.length ≤ k) := by
  intro ss
  induction ss with
  | nil => intro xs k; exact Or.inl ⟨rfl, fun s hs => (by cases hs)⟩
  | cons s r ih =>
    intro xs k
    by_cases hk : xs.length ≤ k
    · exact Or.inr (Or.inr hk)
    · have hk' : k < xs.length := by omega
      rw [markZ]
      have hset : (xs.set s.pl.toNat ((xs.getD s.pl.toNat dC).sp h)).getD k dC = if s.pl.toNat = k then (xs.getD k dC).sp h else xs.getD k dC := by
        by_cases e : s.pl.toNat = k
        · rw [if_pos e, e, List.getD_eq_getElem?_getD, List.getElem?_set_self hk']; rfl
        · rw [if_neg e, List.getD_eq_getElem?_getD, List.getElem?_set_ne e, ← List.getD_eq_getElem?_getD]
      rcases ih (xs.set s.pl.toNat ((xs.getD s.pl.toNat dC).sp h)) k with ⟨h1, h2⟩ | ⟨h1, h2⟩ | h1
      · rw [hset] at h1
        by_cases e : s.pl.toNat = k
        · rw [if_pos e] at h1
          exact Or.inr (Or.inl ⟨hk', h1⟩)
        · rw [if_neg e] at h1
          refine Or.inl ⟨h1, fun t ht => ?_⟩
          rcases List.mem_cons.1 ht with rfl | ht
          · exact e
          · exact h2 t ht
      · refine Or.inr (Or.inl ⟨hk', ?_⟩)
        rw [h2, hset]
        by_cases e : s.pl.toNat = k
        · rw [if_pos e]; rfl
        · rw [if_neg e]
      · rw [List.length_set] at h1; omega
/-- no two coins of one name -/
def Uq (xs : List Cel) : Prop := ∀ (a b : Int) (j k : Nat), j < xs.length → k < xs.length → isCoin a b (xs.getD j dC) = true → isCoin a b (xs.getD k dC) = true → j = k
theorem own_cel {xs : List Cel} {s : Int} {g : Nat} {y : CoinD} (hy : y ∈ ownOf xs s g) : ∃ x ∈ xs, x.spent = -1 ∧ y.id = x.id ∧ y.pos = x.pos := by
  rcases own_src (keysZ xs s g) (coinsC xs) [] y hy with e | ⟨c, hc, k, hk, _, rfl⟩
  · cases e
  · obtain ⟨x, hx, rfl⟩ := List.mem_map.1 hc
    have := (List.mem_filter.1 hx).2
    rw [beq_iff_eq] at this
    exact ⟨x, (List.mem_filter.1 hx).1, this, rfl, rfl⟩
theorem taken_gone {h id s : Int} {g : Nat} {xs : List Cel} {ins : List InD} {ys : List (Int × Int)} (hh : h ≠ -1) (hs : Stand xs ins) (hq : Uq xs) (hn : hasId xs id = false) : (!(ins.any fun i => namedB (ownOf (takenC h id xs ins ys) s g) i.id i.pos)) = true := by
  rw [Bool.not_eq_true', List.any_eq_false]
  intro i hi e
  unfold namedB at e
  rw [List.any_eq_true] at e
  obtain ⟨y, hy, e⟩ := e
  rw [Bool.and_eq_true, beq_iff_eq, beq_iff_eq] at e
  obtain ⟨x, hx, hsp, e1, e2⟩ := own_cel hy
  have hfi := hs.fd i hi
  rcases findZ_cases xs i.id i.pos with f1 | ⟨j, hj, f2, f3⟩
  · rw [f1] at hfi; exact hfi (by decide)
  · unfold takenC at hx
    rcases List.mem_append.1 hx with hx | hx
    · obtain ⟨k, hk, rfl⟩ := mem_getD dC hx
      rw [markZ_len] at hk
      rcases mark_get h (ins.map (spOf xs)) xs k with ⟨m1, m2⟩ | ⟨_, m1⟩ | m1
      · rw [m1] at hsp e1 e2
        have hc : isCoin i.id i.pos (xs.getD k dC) = true := by
          unfold isCoin
          rw [hsp, ← e1, ← e2, e.1, e.2]
          simp
        have hjk := hq _ _ j k hj hk f3 hc
        have := m2 (spOf xs i) (List.mem_map.2 ⟨i, hi, rfl⟩)
        apply this
        show (findZ xs i.id i.pos).toNat = k
        omega
      · rw [m1] at hsp
        exact hh hsp
      · omega
    · unfold newC at hx
      obtain ⟨k, _, rfl⟩ := List.mem_map.1 hx
      have hid : id = i.id := by rw [← e.1, e1]
      unfold isCoin at f3
      rw [Bool.and_eq_true, beq_iff_eq] at f3
      unfold hasId at hn
      rw [List.any_eq_false] at hn
      have := hn _ (getD_mem xs dC j hj)
      rw [f3.1, hid] at this
      exact this (by simp)
theorem mark_to (h : Int) (ss : List SpD) (xs : List Cel) (a : Int) (hp : paidTo xs a = true) : paidTo (markZ h xs ss) a = true := by
  unfold paidTo at hp ⊢
  rw [List.any_eq_true] at hp ⊢
  obtain ⟨x, hx, e⟩ := hp
  obtain ⟨k, hk, rfl⟩ := mem_getD dC hx
  refine ⟨(markZ h xs ss).getD k dC, getD_mem _ _ _ (by rw [markZ_len]; exact hk), ?_⟩
  rcases mark_get h ss xs k with ⟨m1, _⟩ | ⟨_, m1⟩ | m1
  · rw [m1]; exact e
  · rw [m1]; exact e
  · omega
theorem win_mono {xs zs : List Cel} {s : Int} {g : Nat} {br : Int} (hg : g ≤ 20) (hp : ∀ a, paidTo xs a = true → paidTo zs a = true) : winZ xs s g br ≤ winZ zs s g br := by
  have h1 := winZ_le xs s g br
  obtain ⟨z1, z2⟩ := win_spec zs s g br hg
  by_cases e : winZ zs s g br < 100
  · obtain ⟨_, _, _, w4⟩ := wgo_spec (hitAt xs s br) g (by omega) 101 0 g rfl (by omega) (by omega) (Nat.le_refl _) (fun j hj => by omega) (fun x hx _ _ => hx)
    have := w4 (winZ zs s g br) z1 e (fun i hi hh => by
      have := z2 i hi (hp _ hh)
      omega)
    unfold winZ at this ⊢
    rw [show min 100 g = g by omega] at this ⊢
    exact this
  · omega
/-- an output to a watched key is an own coin -/
theorem taken_back {h id s : Int} {g : Nat} {xs : List Cel} {ins : List InD} {ys : List (Int × Int)} {br : Int} {i : Nat} {n : Nat} (hg : g ≤ 20) (hb : br = 0 ∨ br = 1) (hi : i < winZ xs s g br) (hn : n < ys.length) (he : (ys.getD n (0, 0)).1 = Mk.adr s br (i : Int)) : hasZ (ownOf (takenC h id xs ins ys) s g) ⟨id, (n : Int), (ys.getD n (0, 0)).1, (ys.getD n (0, 0)).2, 0, 0⟩ = true := by
  have hx : (⟨id, (n : Int), (ys.getD n (0, 0)).1, (ys.getD n (0, 0)).2, h, -1⟩ : Cel) ∈ takenC h id xs ins ys := by
    unfold takenC newC
    exact List.mem_append.2 (Or.inr (List.mem_map.2 ⟨n, List.mem_range.2 hn, rfl⟩))
  refine own_has hx rfl ?_
  show ∃ k ∈ keysZ (takenC h id xs ins ys) s g, k.ad = (ys.getD n (0, 0)).1
  rw [he]
  refine key_mem hb (Nat.lt_of_lt_of_le hi (win_mono hg (fun a ha => ?_)))
  have := mark_to h (ins.map (spOf xs)) xs a ha
  unfold paidTo takenC at *
  rw [List.any_append, this]
  rfl
theorem taken_und {h id : Int} {xs : List Cel} {ins : List InD} {ys : List (Int × Int)} (hh : 0 ≤ h) (hu : Und h xs) : Und (h + 1) (takenC h id xs ins ys) := by
  intro x hx
  unfold takenC at hx
  rcases List.mem_append.1 hx with hx | hx
  · obtain ⟨k, hk, rfl⟩ := mem_getD dC hx
    rw [markZ_len] at hk
    have h0 := hu _ (getD_mem xs dC k hk)
    rcases mark_get h (ins.map (spOf xs)) xs k with ⟨m1, _⟩ | ⟨_, m1⟩ | m1
    · rw [m1]; omega
    · rw [m1]
      show (xs.getD k dC).made < h + 1 ∧ h < h + 1
      omega
    · omega
  · unfold newC at hx
    obtain ⟨k, _, rfl⟩ := List.mem_map.1 hx
    show h < h + 1 ∧ (-1 : Int) < h + 1
    omega
/-- the coins of a payment that stands, by its inputs -/
theorem stand_of {xs : List Cel} {cs : List CoinD} {ins : List InD} (hall : hasAllZ xs cs = true) (hnd : (cs.map fun x => (x.id, x.pos)).Nodup) (he : (ins.map fun i => (i.id, i.pos)) = cs.map fun x => (x.id, x.pos)) : Stand xs ins := by
  refine ⟨fun i hi => ?_, by rw [he]; exact hnd⟩
  have hm : (i.id, i.pos) ∈ cs.map fun x => (x.id, x.pos) := by rw [← he]; exact List.mem_map.2 ⟨i, hi, rfl⟩
  obtain ⟨x, hx, e⟩ := List.mem_map.1 hm
  unfold hasAllZ at hall
  rw [Bool.not_eq_true', List.any_eq_false] at hall
  have := hall x hx
  rw [Bool.not_eq_true', Bool.not_eq_false] at this
  unfold hasCoinZ at this
  injection e with e1 e2
  rw [e1, e2] at this
  intro hlt
  rw [if_pos hlt] at this
  cases this
theorem stand_coin {xs : List Cel} {cs : List CoinD} (hall : hasAllZ xs cs = true) {x : CoinD} (hx : x ∈ cs) : (xs.getD (findZ xs x.id x.pos).toNat dC).to = x.tt ∧ (xs.getD (findZ xs x.id x.pos).toNat dC).val = x.val := by
  unfold hasAllZ at hall
  rw [Bool.not_eq_true', List.any_eq_false] at hall
  have := hall x hx
  rw [Bool.not_eq_true', Bool.not_eq_false] at this
  unfold hasCoinZ at this
  by_cases hlt : findZ xs x.id x.pos < 0
  · rw [if_pos hlt] at this; cases this
  · rw [if_neg hlt, Bool.and_eq_true, beq_iff_eq, beq_iff_eq] at this
    exact this
end Go.Proofs.YtffgpepngcnjeabGreatQ

namespace Go.Proofs.YtffgpepngcnjeabGreatQ
open Go.RowKit
/-- the blocks that were taken, and the chains ahead of each -/
def Hst : Nat → List Cel → List (List TxD) → List (List Cel) → Prop
  | 0, xs, bls, ps => xs = [] ∧ bls = [] ∧ ps = []
  | h + 1, xs, bls, ps => ∃ p bls0 ps0 bl, bls = bls0 ++ [bl] ∧ ps = ps0 ++ [p] ∧ Hst h p bls0 ps0 ∧ connZ h p bl = (0, 0, (h : Int) + 1, xs)
end Go.Proofs.YtffgpepngcnjeabGreatQ

namespace Go.Proofs.YtffgpepngcnjeabGreatQ
open Go.RowKit
def Cel.nm (x : Cel) : Int × Int := (x.id, x.pos)
theorem markZ_nm (h : Int) : ∀ (ss : List SpD) (xs : List Cel), (markZ h xs ss).map Cel.nm = xs.map Cel.nm := by
  intro ss
  induction ss with
  | nil => intro xs; rfl
  | cons s r ih =>
    intro xs
    rw [markZ, ih]
    by_cases hq : s.pl.toNat < xs.length
    · exact set_map_same Cel.nm xs _ _ dC hq rfl
    · rw [List.set_eq_of_length_le (by omega)]
theorem addZ_nm (xs : List Cel) (h t : Int) (ins : List InD) (ys : List (Int × Int)) (first : Bool) (hn : (xs.map Cel.nm).Nodup) : ((addZ xs h t ins ys first).2.map Cel.nm).Nodup := by
  rcases addZ_cases xs h t ins ys first with ⟨_, h2⟩ | ⟨_, _, h3, ss, _, _, _, he⟩
  · rw [h2]; exact hn
  · rw [he]
    show ((markZ h xs ss ++ newC (idZ t ins ys) h ys ys.length).map Cel.nm).Nodup
    rw [List.map_append, markZ_nm, List.nodup_append]
    refine ⟨hn, ?_, fun a ha b hb e => ?_⟩
    · unfold newC
      rw [List.map_map]
      refine List.pairwise_map.2 (List.Pairwise.imp ?_ List.nodup_range)
      intro i j hij e
      have := congrArg Prod.snd e
      simp only [Function.comp, Cel.nm] at this
      omega
    · obtain ⟨x, hx, rfl⟩ := List.mem_map.1 ha
      obtain ⟨y, hy, rfl⟩ := List.mem_map.1 hb
      unfold newC at hy
      obtain ⟨j, _, rfl⟩ := List.mem_map.1 hy
      have e1 : x.id = idZ t ins ys := congrArg Prod.fst e
      unfold hasId at h3
      rw [List.any_eq_false] at h3
      exact h3 x hx (by rw [e1]; simp)
theorem go_nm (h : Int) : ∀ (bl : List TxD) (xs : List Cel) (i : Nat), (xs.map Cel.nm).Nodup → (connGo h xs bl i).1 = 0 → ((connGo h xs bl i).2.2.map Cel.nm).Nodup := by
  intro bl
  induction bl with
  | nil => intro xs i hv _; exact hv
  | cons t r ih =>
    intro xs i hv
    unfold connGo
    by_cases e : (addZ xs h t.t t.ins t.ys (i == 0)).1 ≠ 0
    · rw [if_pos e]
      intro h0
      exact absurd h0 e
    · rw [if_neg e]
      intro h0
      exact ih _ _ (addZ_nm xs h t.t t.ins t.ys (i == 0) hv) h0
theorem Hst.nm : ∀ (h : Nat) (xs : List Cel) (bls : List (List TxD)) (ps : List (List Cel)), Hst h xs bls ps → (xs.map Cel.nm).Nodup := by
  intro h
  induction h with
  | zero =>
    intro xs bls ps hh
    obtain ⟨rfl, rfl, rfl⟩ := hh
    exact List.nodup_nil
  | succ h ih =>
    intro xs bls ps hh
    obtain ⟨p, bls0, ps0, bl, rfl, rfl, h0, hc⟩ := hh
    have h1 := ih p bls0 ps0 h0
    unfold connZ at hc
    split at hc
    · injection hc with hc _; omega
    · split at hc
      · injection hc with hc _; omega
      · split at hc
        · rename_i e
          injection hc with hc _
          exact absurd hc e
        · rename_i e
          injection hc with _ hc
          injection hc with _ hc
          injection hc with _ hc
          rw [← hc]
          exact go_nm _ bl p 0 h1 (by simpa using e)
/-- a chain that came to be block by block -/
def Chn (h : Nat) (xs : List Cel) : Prop := ∃ bls ps, Hst h xs bls ps
theorem Chn.zero : Chn 0 [] := ⟨[], [], rfl, rfl, rfl⟩
end Go.Proofs.YtffgpepngcnjeabGreatQ
