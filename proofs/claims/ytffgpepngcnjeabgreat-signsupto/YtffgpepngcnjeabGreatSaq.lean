import Derived.Test.YtffgpepngcnjeabGreatSap
namespace Go.Proofs.YtffgpepngcnjeabGreat
set_option maxRecDepth 100000
set_option maxHeartbeats 4000000
section
open Go.RowKit
variable {r tag : Int} {l cs : List CoinD} {x : CoinD} {w wr ws W w1 : World} {S g off e k T o n c : Nat} {v u vi : Value} {ao : OAd} {ys : LII}
theorem range_filter_snoc (p : Nat → Bool) (f : Nat → CoinD) (k : Nat) : ((List.range (k + 1)).filter p).map f = ((List.range k).filter p).map f ++ if p k = true then [f k] else [] := by
 rw [List.range_succ, List.filter_append, List.map_append]
 congr 1
 cases h : p k <;> simp [h]
theorem rAa (p : Nat → Bool) (f : Nat → CoinD) (k : Nat) : (((List.range k).filter p).map f).length ≤ k := by
 rw [List.length_map]
 have := List.length_filter_le p (List.range k)
 rw [List.length_range] at this
 exact this
theorem cMembers_any (b : Nat) (ao : OAd) (c : Nat) (cs : List CoinD) (r : Int) (m : Nat) (w : World) (hc : Cand w b ao c cs r) :
 Calls Tryz.prog 136 #[.pointer (some ⟨b, 0, none⟩), .int .i64 (m : Int)] w fun e w' => ∃ v, e = .returned v ∧ ORC CoinD.l 107 6 w' w.heap.size v (memP cs m) ∧ Below w.heap.size w w' := by
 have HC := hiD hc
 have hbl0 := clT hc.c0
 clear hc
 generalize hB : w.heap.size = B
 have HB := hiD hB
 clear hB
 go_enter Tryz.func136, Tryz.ntmps136
 go_wp2
 go_loopw [5, 6] (fun v i wr => ∃ (k : Nat), k ≤ 8 ∧ i = .int .i64 k ∧ ORC CoinD.l 107 6 wr B v (((List.range k).filter fun i => decide (i < cs.length) && bitN m 8 i).map fun i => cs.getD i dN) ∧ Below B w wr) (fun _ i _ => 8 - (intOf i).toNat)
 case atStart => exact ⟨0, Nat.zero_le _, rfl, ORC.nil _ _ _ _ _, Below.refl _ _⟩
 case round =>
  obtain ⟨k, hk, rfl, hown, hbl⟩ := hrel
  have hsz := hbl.size
  rw [HB.out] at hsz
  have HCr : Hid (Cand wr b ao c cs r) := HC.out.grown (by rw [HB.out]; exact hbl)
  by_cases hlt : k < 8
  ·have HS : Hid _ := range_filter_snoc (fun i => decide (i < cs.length) && bitN m 8 i) (fun i => cs.getD i dN) k
   have HL : Hid _ := rAa (fun i => decide (i < cs.length) && bitN m 8 i) (fun i => cs.getD i dN) k
   have HO := hiD hown
   clear hown
   generalize ((List.range k).filter fun i => decide (i < cs.length) && bitN m 8 i).map (fun i => cs.getD i dN) = acc at *
   cases hb : (decide (k < cs.length) && bitN m 8 k)
   ·go_wp2_with (go_at_call 188; refine (cHas_any b ao c cs r m k _ HCr hlt).mono ?_; rintro e w' ⟨rfl, rfl⟩; rw [hb])
    go_roundw
    case rel => exact ⟨k + 1, by omega, by go_num, by rw [HS.out, hb, if_neg (by simp), List.append_nil]; exact HO, hbl⟩
    case measure => simp [intOf]; omega
   ·have hkl : k < cs.length := by
     rw [Bool.and_eq_true, decide_eq_true_iff] at hb
     exact hb.1
    rcases HCr.out.at_ with hnil | ⟨gc, oc, rfl, hrow⟩
    ·rw [hnil] at hkl; simp at hkl
    obtain ⟨e0, e1, e2, e3, e4, e5⟩ := cCS hrow k hkl
    have p0 := HCr.out.c0
    have hkI : (k : Int) < (cs.length : Int) := by omega
    have hk0 : (0 : Int) ≤ (k : Int) := by omega
    clear hrow
    generalize cs.getD k dN = y at *
    obtain ⟨y0, y1, y2, y3, y4, y5⟩ := y
    simp only at e0 e1 e2 e3 e4 e5
    go_wp2_with (first | (go_at_call 188; refine (cHas_any b (some ⟨gc, oc, none⟩) c cs r m k _ HCr hlt).mono ?_; rintro e w' ⟨rfl, rfl⟩; rw [hb]) | (at_builtin; refine wtR 45 48 _ Tryz.underlying45 info107 rfl (by decide) ci6 cnE (wr.alloc (.cells #[.int .i64 y0, .int .i64 y1, .int .i64 y2, .int .i64 y3, .int .i64 y4, .int .i64 y5] 107)) rfl _ _ rfl B wr.heap.size 1 u5 acc ⟨y0, y1, y2, y3, y4, y5⟩ (by rfl) (by rfl) (HO.out.alloc _) (vwW _ _ _) (by simp; omega) (by have := HL.out; unfold maxLen; omega) (by have := HL.out; omega) ?_; intro g' cap w5 hown5 hg5 _ _))
    go_roundw
    case rel => exact ⟨k + 1, by omega, by go_num, by rw [HS.out, if_pos hb]; exact hown5, hbl.trans (gbW (grS (glC _ _ _) hg5) (by omega) (fun r hr => (HO.out.blk r hr).1))⟩
    case measure => simp [intOf]; omega
  ·have hk8 : k = 8 := by omega
   subst hk8
   go_wp2
   go_ret
   exact ⟨_, rfl, hown, hbl⟩
theorem cFirst_any (b : Nat) (ao : OAd) (c : Nat) (cs : List CoinD) (r : Int) (q : Nat) (w : World) (hc : Cand w b ao c cs r) (hq : q ≤ 100) (hql : q ≤ cs.length) :
 Calls Tryz.prog 139 #[.pointer (some ⟨b, 0, none⟩), .int .i64 (q : Int)] w fun e w' => ∃ v, e = .returned v ∧ ORC CoinD.l 107 6 w' w.heap.size v (cs.take q) ∧ Below w.heap.size w w' := by
 have HC := hiD hc
 clear hc
 generalize hB : w.heap.size = B
 have HB := hiD hB
 clear hB
 go_enter Tryz.func139, Tryz.ntmps139
 go_wp2
 go_loopw [5, 6] (fun v i wr => ∃ (k : Nat), k ≤ q ∧ i = .int .i64 k ∧ ORC CoinD.l 107 6 wr B v (cs.take k) ∧ Below B w wr) (fun _ i _ => q - (intOf i).toNat)
 case atStart => exact ⟨0, Nat.zero_le _, rfl, ORC.nil _ _ _ _ _, Below.refl _ _⟩
 case round =>
  obtain ⟨k, hk, rfl, hown, hbl⟩ := hrel
  have hsz := hbl.size
  rw [HB.out] at hsz
  have HCr : Hid (Cand wr b ao c cs r) := HC.out.grown (by rw [HB.out]; exact hbl)
  by_cases hlt : k < q
  ·have hkl : k < cs.length := by omega
   have HS : Hid (cs.take (k + 1) = cs.take k ++ [cs.getD k dN]) := by
    show _ = _
    rw [List.take_succ_eq_append_getElem hkl]
    simp [List.getD, hkl]
   have HL : Hid ((cs.take k).length ≤ 100) := by show _ ≤ _; rw [List.length_take]; omega
   have HO := hiD hown
   clear hown
   rcases HCr.out.at_ with hnil | ⟨gc, oc, rfl, hrow⟩
   ·rw [hnil] at hkl; simp at hkl
   obtain ⟨e0, e1, e2, e3, e4, e5⟩ := cCS hrow k hkl
   have p0 := HCr.out.c0
   have hkI : (k : Int) < (cs.length : Int) := by omega
   have hk0 : (0 : Int) ≤ (k : Int) := by omega
   clear hrow
   generalize cs.getD k dN = y at *
   generalize cs.take k = acc at *
   obtain ⟨y0, y1, y2, y3, y4, y5⟩ := y
   simp only at e0 e1 e2 e3 e4 e5
   go_wp2_with (at_builtin; refine wtR 45 48 _ Tryz.underlying45 info107 rfl (by decide) ci6 cnE (wr.alloc (.cells #[.int .i64 y0, .int .i64 y1, .int .i64 y2, .int .i64 y3, .int .i64 y4, .int .i64 y5] 107)) rfl _ _ rfl B wr.heap.size 1 u5 acc ⟨y0, y1, y2, y3, y4, y5⟩ (by rfl) (by rfl) (HO.out.alloc _) (vwW _ _ _) (by simp; omega) (by have := HL.out; unfold maxLen; omega) (by have := HL.out; omega) ?_; intro g' cap w5 hown5 hg5 _ _)
   go_roundw
   case rel => exact ⟨k + 1, by omega, by go_num, by rw [HS.out]; exact hown5, hbl.trans (gbW (grS (glC _ _ _) hg5) (by omega) (fun r hr => (HO.out.blk r hr).1))⟩
   case measure => simp [intOf]; omega
  ·have hkq : k = q := by omega
   subst hkq
   go_wp2
   go_ret
   exact ⟨_, rfl, hown, hbl⟩
theorem enZ_drop (r want : Int) (cs : List CoinD) (k : Nat) (h : k < cs.length) (T : Int) : enZ r want (cs.drop k) k T = if want ≤ T + wtZ r (cs.getD k dN) then (k + 1, T + wtZ r (cs.getD k dN)) else enZ r want (cs.drop (k + 1)) (k + 1) (T + wtZ r (cs.getD k dN)) := by
 rw [List.drop_eq_getElem_cons h, enZ]
 simp only [List.getD, List.getElem?_eq_getElem h, Option.getD_some]
theorem cEnough_any (b : Nat) (ao : OAd) (c : Nat) (cs : List CoinD) (r want : Int) (w : World) (hc : Cand w b ao c cs r) (hr : 0 ≤ r ∧ r ≤ 1000) (hv : CVals cs) (hl : cs.length ≤ 100000) :
 Calls Tryz.prog 137 #[.pointer (some ⟨b, 0, none⟩), .int .i64 want] w fun e w' => (∃ q T, e = .returned (.tuple #[.int .i64 (q : Nat), .int .i64 T]) ∧ (q, T) = enZ r want cs 0 0 ∧ T ≤ 200000000000000000) ∧ Below w.heap.size w w' := by
 have HC : Hid (Cand w b ao c cs r) := hc
 have HV : Hid (CVals cs) := hv
 have c0 := hc.c0
 have hbl0 := clT c0
 simp only at hbl0
 clear hc hv
 go_enter Tryz.func137, Tryz.ntmps137
 go_wp2
 go_loopw [6, 14] (fun v i wr => ∃ (k : Nat) (T : Int), k ≤ cs.length ∧ i = .int .i64 k ∧ v = .int .i64 T ∧ Hid (enZ r want (cs.drop k) k T = enZ r want cs 0 0) ∧ -(7000 * (k : Int)) ≤ T ∧ T ≤ 1099511627776 * (k : Int) ∧ Below w.heap.size w wr) (fun _ i _ => cs.length - (intOf i).toNat)
 case atStart => exact ⟨0, 0, Nat.zero_le _, rfl, rfl, rfl, by simp, by simp, Below.refl _ _⟩
 case round =>
  obtain ⟨k, T, hk, rfl, rfl, hz, hT1, hT2, hbl⟩ := hrel
  have hsz := hbl.size
  have HCr : Hid (Cand wr b ao c cs r) := HC.out.grown hbl
  by_cases hlt : k < cs.length
  ·have hz' := hz.out
   rw [enZ_drop r want cs k hlt T] at hz'
   have hvk := HV.out (cs.getD k dN) (gDM cs dN k hlt)
   rcases HCr.out.at_ with hnil | ⟨gc, oc, rfl, hrow⟩
   ·rw [hnil] at hlt; simp at hlt
   obtain ⟨e0, e1, e2, e3, e4, e5⟩ := cCS hrow k hlt
   have p1 := HCr.out.c1
   have hkI : (k : Int) < (cs.length : Int) := by omega
   have hk0 : (0 : Int) ≤ (k : Int) := by omega
   clear hrow hz
   generalize cs.getD k dN = y at *
   obtain ⟨y0, y1, y2, y3, y4, y5⟩ := y
   simp only at e0 e1 e2 e3 e4 e5 hvk
   have HZ : Hid ((if want ≤ T + (y3 - 7 * r) then (k + 1, T + (y3 - 7 * r)) else enZ r want (cs.drop (k + 1)) (k + 1) (T + (y3 - 7 * r))) = enZ r want cs 0 0) := hz'
   have HWD : Hid (wtZ r ⟨y0, y1, y2, y3, y4, y5⟩ = y3 - 7 * r) := rfl
   have hw : IntKind.i64.wrap (T + (y3 - 7 * r)) = T + (y3 - 7 * r) := IntWalk.i64_in _ ⟨by omega, by omega⟩
   clear hz'
   have hbx : Below wr.heap.size wr (wr.alloc (.cells #[.int .i64 y0, .int .i64 y1, .int .i64 y2, .int .i64 y3, .int .i64 y4, .int .i64 y5] 107)) := (Below.refl _ _).alloc leR _
   obtain ⟨x0, x1, x2, x3, x4, x5⟩ := xrow (vwW wr [.int .i64 y0, .int .i64 y1, .int .i64 y2, .int .i64 y3, .int .i64 y4, .int .i64 y5] 107)
   have q1 := (hbx.cell (p := ⟨b, 1, none⟩) (clT p1)).trans p1
   have q0 := (hbx.cell (p := ⟨b, 0, none⟩) (clT HCr.out.c0)).trans HCr.out.c0
   have hb1 := hbl.alloc hsz (.cells #[.int .i64 y0, .int .i64 y1, .int .i64 y2, .int .i64 y3, .int .i64 y4, .int .i64 y5] 107)
   go_upto_region 5 with fail
   generalize wr.alloc (.cells #[.int .i64 y0, .int .i64 y1, .int .i64 y2, .int .i64 y3, .int .i64 y4, .int .i64 y5] 107) = w1 at *
   generalize wr.heap.size = X at *
   clear e0 e1 e2 e3 e4 e5 p1 hbx
   have HKX : Hid (w1.cell? ⟨b, 0, none⟩ = some (.slice (some ⟨gc, oc, none⟩) cs.length c) ∧ w1.cell? ⟨b, 1, none⟩ = some (.int .i64 r) ∧ w1.cell? ⟨X, 0, none⟩ = some (.int .i64 y0) ∧ w1.cell? ⟨X, 0 + 1, none⟩ = some (.int .i64 y1) ∧ w1.cell? ⟨X, 0 + 2, none⟩ = some (.int .i64 y2) ∧ w1.cell? ⟨X, 0 + 3, none⟩ = some (.int .i64 y3) ∧ w1.cell? ⟨X, 0 + 4, none⟩ = some (.int .i64 y4) ∧ w1.cell? ⟨X, 0 + 5, none⟩ = some (.int .i64 y5)) := ⟨q0, q1, x0, x1, x2, x3, x4, x5⟩
   have hsz1 := hb1.size
   go_region_held3 (fun w' => w'.cell? ⟨b, 0, none⟩ = some (.slice (some ⟨gc, oc, none⟩) cs.length c) ∧ w'.cell? ⟨b, 1, none⟩ = some (.int .i64 r) ∧ w'.cell? ⟨X, 0, none⟩ = some (.int .i64 y0) ∧ w'.cell? ⟨X, 1, none⟩ = some (.int .i64 y1) ∧ w'.cell? ⟨X, 2, none⟩ = some (.int .i64 y2) ∧ w'.cell? ⟨X, 3, none⟩ = some (.int .i64 y3) ∧ w'.cell? ⟨X, 4, none⟩ = some (.int .i64 y4) ∧ w'.cell? ⟨X, 5, none⟩ = some (.int .i64 y5)) (first | assumption | go_keep | exact keep8 hb7 HKX.out) ((go_at_call 186; refine (worth_any ⟨y0, y1, y2, y3, y4, y5⟩ r _ hr hvk).mono ?_; rintro e w7 ⟨rfl, hb7⟩; rw [HWD.out]))
   have hb07 : Below w.heap.size w w7 := hb1.drew.trans (hb7.mono hsz1)
   clear HKX x0 x1 x2 x3 x4 x5 q0 q1 hb7 hb1 hsz1
   generalize hTe : T + (y3 - 7 * r) = T' at *
   have hT1' : -(7000 * ((k + 1 : Nat) : Int)) ≤ T' := by push_cast; omega
   have hT2' : T' ≤ 1099511627776 * ((k + 1 : Nat) : Int) := by push_cast; omega
   have hT3 : T' ≤ 200000000000000000 := by omega
   clear hTe
   by_cases hw2 : want ≤ T'
   ·rw [if_pos hw2] at HZ
    go_wp2
    go_ret2
    exact ⟨⟨k + 1, T', by push_cast; rfl, HZ.out, hT3⟩, hb07⟩
   ·rw [if_neg hw2] at HZ
    go_wp2
    go_roundw
    case rel => exact ⟨k + 1, T', by omega, by go_num, rfl, HZ.out, hT1', hT2', hb07⟩
    case measure => simp [intOf]; omega
  ·have hkl : k = cs.length := by omega
   have HZ : Hid ((0, 0) = enZ r want cs 0 0) := by
    have := hz.out
    rw [List.drop_of_length_le (by omega), enZ] at this
    exact this
   go_wp2
   go_ret2
   exact ⟨⟨0, 0, rfl, HZ.out, by omega⟩, hbl⟩
theorem insG_le (gf : Bool) (cs : List CoinD) (x : CoinD) : ∀ n, insI gf cs x n ≤ n := by
 intro n
 induction n with
 | zero => exact leR
 | succ n ih => unfold insI; split <;> omega
theorem insG_len (gf : Bool) (cs : List CoinD) (x : CoinD) : (insZ gf cs x).length = cs.length + 1 := insAt_len cs x _ (insG_le gf cs x _)
theorem ordStep_len (r : Int) (acc : List CoinD) (x : CoinD) : (ordStep r acc x).length ≤ acc.length + 1 := by
 unfold ordStep
 split
 ·rw [insG_len]; omega
 ·omega
theorem orderZ_snoc (r : Int) (l : List CoinD) (k : Nat) (h : k < l.length) : oeZ r (l.take (k + 1)) = ordStep r (oeZ r (l.take k)) (l.getD k dN) := by
 unfold oeZ
 rw [List.take_succ_eq_append_getElem h, List.foldl_append]
 simp only [List.getD, List.getElem?_eq_getElem h, Option.getD_some]
 rfl
theorem orderZ_len (r : Int) (l : List CoinD) : (oeZ r l).length ≤ l.length := by
 have h : ∀ (l : List CoinD) (acc : List CoinD), (l.foldl (ordStep r) acc).length ≤ acc.length + l.length := by
  intro l
  induction l with
  | nil => intro acc; simp
  | cons x t ih =>
   intro acc
   have h1 := ih (ordStep r acc x)
   have h2 := ordStep_len r acc x
   simp only [List.foldl_cons, List.length_cons]
   omega
 have := h l []
 simpa [oeZ] using this
theorem orderZ_mem (h : x ∈ oeZ r l) : x ∈ l := by
 rw [orderZ_filter] at h
 rcases insF_mem _ _ h with h | h
 ·exact (List.mem_filter.1 h).1
 ·cases h
theorem enZ_want (r want : Int) : ∀ (t : List CoinD) (i : Nat) (s : Int), (enZ r want t i s).1 ≠ 0 → want ≤ (enZ r want t i s).2 := by
 intro t
 induction t with
 | nil => intro i s h; exact absurd rfl h
 | cons c t ih =>
  intro i s h
  rw [enZ] at h ⊢
  split at h
  ·rename_i hw
   rw [if_pos hw]
   exact hw
  ·rename_i hw
   rw [if_neg hw]
   exact ih _ _ h
structure OIv (w : World) (S : Nat) (v : Value) (cs : List CoinD) (wr : World) : Prop where
 s0 : wr.cell? ⟨S, 1, none⟩ = some v
 sg : wr.cell? ⟨S, 0, none⟩ = some (.bool true)
 sf : wr.frozen? ⟨S, 1, none⟩ = false
 own : ORC CoinD.l 107 6 wr (S + 1) v cs
 st : ChStep S (.slice none 0 0) v w wr
theorem OIv.grown (h : OIv w S v cs wr) (hb : Below wr.heap.size wr ws) : OIv w S v cs ws :=
 ⟨(hb.cell (p := ⟨S, 1, none⟩) (clT h.s0)).trans h.s0, (hb.cell (p := ⟨S, 0, none⟩) (clT h.sg)).trans h.sg, (hb.frozen (p := ⟨S, 1, none⟩) (clT h.s0)).trans h.sf, h.own.grown hb, h.st.trans (ChStep.of_below hb _ _)⟩
theorem order_any (ao : OAd) (n c : Nat) (l : List CoinD) (r : Int) (w : World) (hx : RcT CoinD.l w ao l) (hn : l.length = n) (hm : n ≤ 10000) (hr : 0 ≤ r ∧ r ≤ 1000) (hv : CVals l) :
 Calls Tryz.prog 132 #[.slice ao n c, .int .i64 r] w fun e w' => ∃ v, e = .returned (.agg #[v, .int .i64 r]) ∧ ORC CoinD.l 107 6 w' w.heap.size v (oeZ r l) ∧ Below w.heap.size w w' := by
 have HN := hiD hn
 have HV := hiD hv
 have HX := hiD hx
 clear hn hv hx
 have hbA : Below w.heap.size w ((w.alloc (.cells #[.slice none 0 0, .int .i64 0] 198)).alloc (.cells #[.bool true, .slice none 0 0] 217)) := (bAl _ _).alloc (by simp) _
 have r0 : ((w.alloc (.cells #[.slice none 0 0, .int .i64 0] 198)).alloc (.cells #[.bool true, .slice none 0 0] 217)).cell? ⟨w.heap.size, 0, none⟩ = some (.slice none 0 0) := by go_simp
 have r1 : ((w.alloc (.cells #[.slice none 0 0, .int .i64 0] 198)).alloc (.cells #[.bool true, .slice none 0 0] 217)).cell? ⟨w.heap.size, 1, none⟩ = some (.int .i64 0) := by go_simp
 have f0 : ∀ j, ((w.alloc (.cells #[.slice none 0 0, .int .i64 0] 198)).alloc (.cells #[.bool true, .slice none 0 0] 217)).frozen? ⟨w.heap.size, j, none⟩ = false := fun j => by
  have h1 : (w.alloc (.cells #[.slice none 0 0, .int .i64 0] 198)).frozen? ⟨w.heap.size, j, none⟩ = false := World.frozen?_alloc_at _ _ _ _ rfl
  exact (((Below.refl (w.alloc (.cells #[.slice none 0 0, .int .i64 0] 198)).heap.size (w.alloc (.cells #[.slice none 0 0, .int .i64 0] 198))).alloc leR _).frozen (p := ⟨w.heap.size, j, none⟩) (by simp)).trans h1
 have hI0 : OIv ((w.alloc (.cells #[.slice none 0 0, .int .i64 0] 198)).alloc (.cells #[.bool true, .slice none 0 0] 217)) (w.heap.size + 1) (.slice none 0 0) [] ((w.alloc (.cells #[.slice none 0 0, .int .i64 0] 198)).alloc (.cells #[.bool true, .slice none 0 0] 217)) := by
  refine ⟨by go_simp, by go_simp, ?_, ORC.nil _ _ _ _ _, ChStep.refl _ _ _⟩
  have hz : (w.alloc (.cells #[.slice none 0 0, .int .i64 0] 198)).heap.size = w.heap.size + 1 := by simp
  rw [← hz]
  exact World.frozen?_alloc_at _ _ _ _ rfl
 have hzS : w.heap.size + 1 < ((w.alloc (.cells #[.slice none 0 0, .int .i64 0] 198)).alloc (.cells #[.bool true, .slice none 0 0] 217)).heap.size := by simp
 have HI0 := hiD hI0
 clear hI0
 have HF0 : Hid _ := f0
 clear f0
 go_enter Tryz.func132, Tryz.ntmps132
 go_upto_region 2 with fail
 generalize ((w.alloc (.cells #[.slice none 0 0, .int .i64 0] 198)).alloc (.cells #[.bool true, .slice none 0 0] 217)) = w0 at *
 have HX0 := hiD (HX.out.grown hbA)
 have HLF : Hid (∀ w', Fr (chE (w.heap.size + 1) (.slice none 0 0)) w0 w' → RcT CoinD.l w' ao l) := by
  intro w' hf
  refine rec_fr hf HX0 (fun hne a ha e => ?_)
  have hlt : a.block < w.heap.size := by
   rcases HX.out with hnil | ⟨bb, off, e2, hrr⟩
   ·exact absurd hnil hne
   ·rw [ha] at e2
    injection e2 with e2
    rw [e2]
    refine hrr.lt (fun e3 => ?_)
    have h3 := rlN CoinD.l 6 ci6 l
    rw [e3] at h3
    exact hne (List.length_eq_zero_iff.1 (by simp at h3; omega))
  rcases e with e | e
  ·omega
  ·simp [Value.ownBlock] at e
 generalize hB : w.heap.size = B at *
 have HBe := hiD hB
 clear hB HX HX0
 go_wp2
 go_loopw [11] (fun i wr => ∃ (k : Nat) (v : Value), k ≤ n ∧ i = .int .i64 k ∧ OIv w0 (B + 1) v (oeZ r (l.take k)) wr) (fun i _ => n - (intOf i).toNat)
 case atStart => exact ⟨0, _, Nat.zero_le _, rfl, HI0⟩
 case round =>
  obtain ⟨k, v, hk, rfl, hinv⟩ := hrel
  by_cases hlt : k < n
  ·rcases HLF.out wr hinv.st.fr with hnil | ⟨gc, oc, rfl, hrow⟩
   ·have := HN.out; rw [hnil] at this; simp at this; omega
   obtain ⟨e0, e1, e2, e3, e4, e5⟩ := cCS hrow k (by rw [HN.out]; exact hlt)
   have HS : Hid _ := orderZ_snoc r l k (by rw [HN.out]; exact hlt)
   have HLL : Hid ((oeZ r (l.take k)).length ≤ 10000) := by show _ ≤ _; have := orderZ_len r (l.take k); rw [List.length_take] at this; omega
   have hvk := HV.out (l.getD k dN) (gDM l dN k (by rw [HN.out]; exact hlt))
   clear hrow
   generalize l.getD k dN = y at *
   generalize oeZ r (l.take k) = acc at *
   obtain ⟨y0, y1, y2, y3, y4, y5⟩ := y
   simp only at e0 e1 e2 e3 e4 e5 hvk
   have hb4 : Below wr.heap.size wr (wr.alloc (.cells #[.int .i64 y0, .int .i64 y1, .int .i64 y2, .int .i64 y3, .int .i64 y4, .int .i64 y5] 107)) := (Below.refl _ _).alloc leR _
   have HI4 := hiD (hinv.grown hb4)
   obtain ⟨x0, x1, x2, x3, x4, x5⟩ := xrow (vwW wr [.int .i64 y0, .int .i64 y1, .int .i64 y2, .int .i64 y3, .int .i64 y4, .int .i64 y5] 107)
   go_upto_region 5 with fail
   generalize wr.alloc (.cells #[.int .i64 y0, .int .i64 y1, .int .i64 y2, .int .i64 y3, .int .i64 y4, .int .i64 y5] 107) = w4 at *
   generalize wr.heap.size = X at *
   clear e0 e1 e2 e3 e4 e5 hb4 hinv
   have HXK : Hid (w4.cell? ⟨X, 0, none⟩ = some (.int .i64 y0) ∧ w4.cell? ⟨X, 1, none⟩ = some (.int .i64 y1) ∧ w4.cell? ⟨X, 2, none⟩ = some (.int .i64 y2) ∧ w4.cell? ⟨X, 3, none⟩ = some (.int .i64 y3) ∧ w4.cell? ⟨X, 4, none⟩ = some (.int .i64 y4) ∧ w4.cell? ⟨X, 5, none⟩ = some (.int .i64 y5)) := ⟨x0, x1, x2, x3, x4, x5⟩
   go_wp2_with fail
   refine (worth_any ⟨y0, y1, y2, y3, y4, y5⟩ r _ hr hvk).mono ?_
   rintro e w5 ⟨rfl, hb5⟩
   have HI5 := hiD (HI4.out.grown hb5)
   obtain ⟨z0, z1, z2, z3, z4, z5⟩ := keep6 hb5 HXK.out
   clear x0 x1 x2 x3 x4 x5 HXK HI4 hb5
   have hS2 : oeZ r (l.take (k + 1)) = if 1 ≤ wtZ r ⟨y0, y1, y2, y3, y4, y5⟩ then insZ true acc ⟨y0, y1, y2, y3, y4, y5⟩ else acc := HS.out
   have HS2 := hiD hS2
   clear hS2 HS
   generalize wtZ r ⟨y0, y1, y2, y3, y4, y5⟩ = W at *
   by_cases hW : 1 ≤ W
   ·rw [if_pos hW] at HS2
    go_wp2_with fail
    refine (put_any true (B + 1) v acc ⟨y0, y1, y2, y3, y4, y5⟩ _ HI5.out.s0 HI5.out.sg HI5.out.sf HI5.out.own HLL).mono ?_
    rintro e w7 ⟨rfl, v', p1, pg, p2, p3, p4⟩
    have HI7 : Hid (OIv w0 (B + 1) v' (oeZ r (l.take (k + 1))) w7) := by rw [HS2.out]; exact ⟨p1, pg, p2, p3, HI5.out.st.trans p4⟩
    clear p1 pg p2 p3 p4 HI5 z0 z1 z2 z3 z4 z5
    go_wp2
    go_roundw
    case rel => exact ⟨k + 1, v', by omega, by go_num, HI7⟩
    case measure => simp [intOf]; omega
   ·rw [if_neg hW] at HS2
    go_wp2
    go_roundw
    case rel => exact ⟨k + 1, v, by omega, by go_num, by rw [HS2.out]; exact HI5⟩
    case measure => simp [intOf]; omega
  ·have HE : Hid (oeZ r (l.take k) = oeZ r l) := by show _ = _; rw [List.take_of_length_le (by rw [HN.out]; omega)]
   rw [HE.out] at hinv
   have s0 := hinv.s0
   have hnR : ¬ chE (B + 1) (.slice none 0 0) B := fun e => by
    rcases e with e | e
    ·omega
    ·simp [Value.ownBlock] at e
   have q0 := hinv.st.fr.cell r0 hnR
   have q1 := hinv.st.fr.cell r1 hnR
   have hBl : B < w0.heap.size := by omega
   have g0 := (hinv.st.fr.frozen (o := 0) hBl hnR).trans (HF0.out 0)
   have g1 := (hinv.st.fr.frozen (o := 1) hBl hnR).trans (HF0.out 1)
   have HOW := hiD hinv.own
   have HBW : Hid (Below B w wr) := hbA.trans (hinv.st.fr.toBelow B (by omega) (fun q hq => by
    rcases hq with e | e
    ·omega
    ·simp [Value.ownBlock] at e))
   clear hinv r0 r1
   obtain ⟨av, cv, ev, _⟩ := ORC.at ci6 HOW.out
   subst ev
   generalize (oeZ r l).length = ol at *
   go_wp2
   have k0 : ((wr.setCell ⟨B, 0, none⟩ (.slice av ol cv)).setCell ⟨B, 1, none⟩ (.int .i64 r)).cell? ⟨B, 0, none⟩ = some (.slice av ol cv) := so (ss q0) (by decide)
   have k1 : ((wr.setCell ⟨B, 0, none⟩ (.slice av ol cv)).setCell ⟨B, 1, none⟩ (.int .i64 r)).cell? ⟨B, 1, none⟩ = some (.int .i64 r) := ss (so q1 (by decide))
   refine bodyPost_ret (v := .agg #[.slice av ol cv, .int .i64 r]) ?_ rfl ⟨_, rfl, ?_, ?_⟩
   ·simp [results, Tryz.results132, go_sem, k0, k1]
   ·rw [HBe.out]
    exact olR (ownsRow_setCell_below (ownsRow_setCell_below HOW (a := ⟨B, 0, none⟩) (by show B < B + 1 + 1; omega) _) (a := ⟨B, 1, none⟩) (by show B < B + 1 + 1; omega) _) (by omega)
   ·rw [HBe.out]
    exact (HBW.out.setCell (p := ⟨B, 0, none⟩) leR _).setCell (p := ⟨B, 1, none⟩) leR _
def ChoiceOk (r : Int) (l : List CoinD) (ys : LII) (base : Nat) (v : Value) (ch er : Int) (w : World) : Prop :=
 (coZ r (oeZ r l) (tgZ ys r) = none ∧ v = .slice none 0 0 ∧ ch = 0 ∧ er = 9) ∨ ∃ cs, coZ r (oeZ r l) (tgZ ys r) = some (cs, ch) ∧ er = 0 ∧ ORC CoinD.l 107 6 w base v cs
theorem target_bd (ys : LII) (r : Int) (hr : 0 ≤ r ∧ r ≤ 1000) (hl : ys.length ≤ 100) (hb : ∀ y ∈ ys, 0 ≤ y.2 ∧ y.2 ≤ 1099511627776) : 0 ≤ tgZ ys r ∧ tgZ ys r ≤ 200000000000000 := by
 unfold tgZ
 have h1 := sum_bd Prod.snd 1099511627776 ys hb
 have h2 : 0 ≤ r * (3 + 2 * (ys.length : Int)) := Int.mul_nonneg hr.1 (by omega)
 have h3 : r * (3 + 2 * (ys.length : Int)) ≤ 1000 * (3 + 2 * (ys.length : Int)) := Int.mul_le_mul_of_nonneg_right hr.2 (by omega)
 unfold smU
 omega
theorem choose_any (ao : OAd) (n c : Nat) (l : List CoinD) (ap : OAd) (m d : Nat) (ys : LII) (r : Int) (w : World) (hx : RcT CoinD.l w ao l) (hn : l.length = n) (hm : n ≤ 10000) (hr : 0 ≤ r ∧ r ≤ 1000) (hv : CVals l) (hy : OsT w ap ys) (hyn : ys.length = m) (hym : m ≤ 100) (hyb : ∀ y ∈ ys, 0 ≤ y.2 ∧ y.2 ≤ 1099511627776) :
 Calls Tryz.prog 81 #[.slice ao n c, .slice ap m d, .int .i64 r] w fun e w' => ∃ v ch er, e = .returned (.tuple #[.agg #[v, .int .i64 ch], .int .i64 er]) ∧ ChoiceOk r l ys w.heap.size v ch er w' ∧ Below w.heap.size w w' := by
 have HN := hiD hn
 have HV := hiD hv
 have HX := hiD hx
 have HY := hiD hy
 have HYN := hiD hyn
 have HYB := hiD hyb
 have hT := target_bd ys r hr (by omega) hyb
 clear hn hv hx hy hyn hyb
 have hbA : Below w.heap.size w (w.alloc (.cells #[.slice none 0 0, .int .i64 0] 148)) := (Below.refl _ _).alloc leR _
 have r0 : (w.alloc (.cells #[.slice none 0 0, .int .i64 0] 148)).cell? ⟨w.heap.size, 0, none⟩ = some (.slice none 0 0) := by go_simp
 have r1 : (w.alloc (.cells #[.slice none 0 0, .int .i64 0] 148)).cell? ⟨w.heap.size, 1, none⟩ = some (.int .i64 0) := by go_simp
 have f0 : ∀ j, (w.alloc (.cells #[.slice none 0 0, .int .i64 0] 148)).frozen? ⟨w.heap.size, j, none⟩ = false := fun j => World.frozen?_alloc_at _ _ _ _ rfl
 have HF : Hid _ := f0
 clear f0
 go_enter Tryz.func81, Tryz.ntmps81
 go_upto_region 1 with fail
 generalize w.alloc (.cells #[.slice none 0 0, .int .i64 0] 148) = w0 at *
 have HX0 := hiD (HX.out.grown hbA)
 have HY0 := hiD (HY.out.grown hbA)
 have hB0 : w.heap.size < w0.heap.size := clT r0
 generalize hB : w.heap.size = B at *
 have HBe := hiD hB
 clear hB HX HY
 go_wp2_with fail
 refine (order_any ao n c l r _ HX0 HN hm hr HV).mono ?_
 rintro e w1 ⟨v1, rfl, ho1, hb1⟩
 obtain ⟨a1, c1, ev1, hat1⟩ := ORC.at ci6 ho1
 subst ev1
 have HOL : Hid ((oeZ r l).length ≤ 10000) := by show _ ≤ _; have := orderZ_len r l; have := HN.out; omega
 have HOV : Hid (CVals (oeZ r l)) := fun x hx => HV.out x (orderZ_mem hx)
 have hbC : Below w1.heap.size w1 (w1.alloc (.cells #[.slice a1 (oeZ r l).length c1, .int .i64 r] 198)) := (Below.refl _ _).alloc leR _
 have HCA : Hid (Cand (w1.alloc (.cells #[.slice a1 (oeZ r l).length c1, .int .i64 r] 198)) w1.heap.size a1 c1 (oeZ r l) r) := ⟨by rw [World.cell?_alloc_new]; rfl, by rw [World.cell?_alloc_new]; rfl, hat1.grown hbC⟩
 have hb02 : Below w0.heap.size w0 (w1.alloc (.cells #[.slice a1 (oeZ r l).length c1, .int .i64 r] 198)) := bwK hb1 hbC
 clear ho1 hat1 hb1 hbC
 go_upto_region 2 with fail
 generalize w1.alloc (.cells #[.slice a1 (oeZ r l).length c1, .int .i64 r] 198) = w2 at *
 generalize w1.heap.size = C at *
 have hz2 := hb02.size
 have HY2 := hiD (HY0.out.grown hb02)
 go_wp2_with fail
 refine (target_any ap m d ys r _ HY2 HYN hym hr HYB).mono ?_
 rintro e w3 ⟨rfl, hb3⟩
 have HC3 := hiD (HCA.out.grown hb3)
 have hb03 : Below w0.heap.size w0 w3 := bwK hb02 hb3
 clear hb02 hb3 HCA HY2 HY0 HYB HYN HX0
 have hsl : 0 ≤ scZ r ∧ scZ r ≤ 3000 := by unfold scZ; omega
 generalize hws : tgZ ys r + scZ r = WS at *
 have hws2 : 0 ≤ WS ∧ WS ≤ 1000000000000000000 := by omega
 have hw1 : IntKind.i64.wrap (tgZ ys r + scZ r) = WS := by rw [hws]; exact IntWalk.i64_in _ ⟨by omega, by omega⟩
 have HWS := hiD hws
 clear hws
 go_wp2_with (go_at_call 134; refine (slack_any r _ hr).mono ?_; rintro e w' ⟨rfl, rfl⟩)
 refine (cNearest_any C a1 c1 (oeZ r l) r (tgZ ys r) WS _ HC3 hr HOV hws2).mono ?_
 rintro e w4 ⟨rfl, hb255, hb4⟩
 have HC4 := hiD (HC3.out.grown hb4)
 have hb04 : Below w0.heap.size w0 w4 := bwK hb03 hb4
 clear hb03 hb4 HC3
 have q0 := (hb04.cell (p := ⟨B, 0, none⟩) hB0).trans r0
 have q1 := (hb04.cell (p := ⟨B, 1, none⟩) hB0).trans r1
 have hz4 := hb04.size
 have hbB4 : Below B w w4 := hbA.trans (hb04.mono (by omega))
 have HF4 : Hid (∀ j, w4.frozen? ⟨B, j, none⟩ = false) := fun j => (hb04.frozen (p := ⟨B, j, none⟩) hB0).trans (HF.out j)
 generalize hbe : bestP r (oeZ r l) (tgZ ys r) WS = bp at *
 have HCZ : Hid (coZ r (oeZ r l) (tgZ ys r) = if bp ≠ 0 then some (memP (oeZ r l) bp, 0) else if (enZ r (tgZ ys r) (oeZ r l) 0 0).1 = 0 ∨ 10 < (enZ r (tgZ ys r) (oeZ r l) 0 0).1 then none else some ((oeZ r l).take (enZ r (tgZ ys r) (oeZ r l) 0 0).1, if (enZ r (tgZ ys r) (oeZ r l) 0 0).2 - tgZ ys r ≤ scZ r then 0 else (enZ r (tgZ ys r) (oeZ r l) 0 0).2 - tgZ ys r - 2 * r)) := by
  show _ = _
  unfold coZ
  rw [HWS.out, hbe]
 clear hbe HWS hw1 r0 r1 hb04 HF
 have HEG : Hid _ := enZ_ge r (tgZ ys r) (oeZ r l) 0 0
 have HEW : Hid _ := enZ_want r (tgZ ys r) (oeZ r l) 0 0
 have HCK : Hid (∀ v ch er w', ChoiceOk r l ys B v ch er w' ↔ ((coZ r (oeZ r l) (tgZ ys r) = none ∧ v = .slice none 0 0 ∧ ch = 0 ∧ er = 9) ∨ ∃ cs, coZ r (oeZ r l) (tgZ ys r) = some (cs, ch) ∧ er = 0 ∧ ORC CoinD.l 107 6 w' B v cs)) := fun _ _ _ _ => Iff.rfl
 generalize coZ r (oeZ r l) (tgZ ys r) = CZ at *
 generalize oeZ r l = cs at *
 generalize tgZ ys r = want at *
 by_cases hb0 : bp = 0
 ·subst hb0
  rw [if_neg (fun h => h rfl)] at HCZ
  go_wp2_with fail
  refine (cEnough_any C a1 c1 cs r want _ HC4 hr HOV (by have := HOL.out; omega)).mono ?_
  rintro e w5 ⟨⟨q, T, rfl, hqT, hT5⟩, hb5⟩
  rw [← hqT] at HCZ HEG HEW
  simp only at HCZ HEG HEW
  clear hqT
  have p0 := (hb5.cell (p := ⟨B, 0, none⟩) (clT q0)).trans q0
  have p1 := (hb5.cell (p := ⟨B, 1, none⟩) (clT q1)).trans q1
  have g0 := (hb5.frozen (p := ⟨B, 0, none⟩) (clT q0)).trans (HF4.out 0)
  have g1 := (hb5.frozen (p := ⟨B, 1, none⟩) (clT q1)).trans (HF4.out 1)
  have hbB5 : Below B w w5 := hbB4.trans (hb5.mono (by omega))
  have HC5 := hiD (HC4.out.grown hb5)
  clear q0 q1 HF4 hb5 HC4
  by_cases hq : q = 0 ∨ 10 < q
  ·rw [if_pos hq] at HCZ
   have k0 : ((w5.setCell ⟨B, 0, none⟩ (.slice none 0 0)).setCell ⟨B, 1, none⟩ (.int .i64 0)).cell? ⟨B, 0, none⟩ = some (.slice none 0 0) := so (ss p0) (by decide)
   have k1 : ((w5.setCell ⟨B, 0, none⟩ (.slice none 0 0)).setCell ⟨B, 1, none⟩ (.int .i64 0)).cell? ⟨B, 1, none⟩ = some (.int .i64 0) := ss (so p1 (by decide))
   have HFB : Hid (Below B w ((w5.setCell ⟨B, 0, none⟩ (.slice none 0 0)).setCell ⟨B, 1, none⟩ (.int .i64 0))) := (hbB5.setCell (p := ⟨B, 0, none⟩) leR _).setCell (p := ⟨B, 1, none⟩) leR _
   rcases hq with hq | hq
   ·subst hq
    go_wp2
    refine bodyPost_ret (v := .tuple #[.agg #[.slice none 0 0, .int .i64 0], .int .i64 9]) ?_ rfl ⟨_, _, _, rfl, ?_, ?_⟩
    ·simp [results, Tryz.results81, go_sem, k0, k1]
    ·rw [HBe.out]; exact (HCK _ _ _ _).2 (Or.inl ⟨HCZ, rfl, rfl, rfl⟩)
    ·rw [HBe.out]; exact HFB
   ·have hq1 : ((q : Int) == 0) = false := by rw [beq_eq_false_iff_ne]; omega
    have hq2 : (10 : Int) < (q : Int) := by omega
    go_wp2
    refine bodyPost_ret (v := .tuple #[.agg #[.slice none 0 0, .int .i64 0], .int .i64 9]) ?_ rfl ⟨_, _, _, rfl, ?_, ?_⟩
    ·simp [results, Tryz.results81, go_sem, k0, k1]
    ·rw [HBe.out]; exact (HCK _ _ _ _).2 (Or.inl ⟨HCZ, rfl, rfl, rfl⟩)
    ·rw [HBe.out]; exact HFB
  ·rw [if_neg hq] at HCZ
   have hq1 : ((q : Int) == 0) = false := by rw [beq_eq_false_iff_ne]; omega
   have hq2 : ¬ (10 : Int) < (q : Int) := by omega
   have hd2 : decide ((10 : Int) < (q : Int)) = false := by rw [decide_eq_false_iff_not]; exact hq2
   have hwt : want ≤ T := HEW.out (by omega)
   have hql : q ≤ cs.length := by
    rcases HEG.out with h | h
    ·omega
    ·omega
   have hwT : IntKind.i64.wrap (T - want) = T - want := IntWalk.i64_in _ ⟨by omega, by omega⟩
   generalize hch : (if T - want ≤ scZ r then 0 else T - want - 2 * r) = ch at *
   have HCH := hiD hch
   clear hch
   go_wp2_with (go_at_call 138; refine (change_any (T - want) r _ hr ⟨by omega, by omega⟩).mono ?_; rintro e w' ⟨rfl, rfl⟩; rw [HCH.out])
   refine (cFirst_any C a1 c1 cs r q _ HC5 (by omega) hql).mono ?_
   rintro e w6 ⟨v6, rfl, ho6, hb6⟩
   obtain ⟨a6, c6, e6, _⟩ := ORC.at ci6 ho6
   subst e6
   have HO6 := hiD ho6
   have x0 := (hb6.cell (p := ⟨B, 0, none⟩) (clT p0)).trans p0
   have x1 := (hb6.cell (p := ⟨B, 1, none⟩) (clT p1)).trans p1
   have y0 := (hb6.frozen (p := ⟨B, 0, none⟩) (clT p0)).trans g0
   have y1 := (hb6.frozen (p := ⟨B, 1, none⟩) (clT p1)).trans g1
   have hB5 : B < w5.heap.size := clT p0
   have hbB6 : Below B w w6 := hbB5.trans (hb6.mono (by omega))
   clear ho6 p0 p1 g0 g1 hb6 hbB5
   generalize (cs.take q).length = tl at *
   have k0 : ((w6.setCell ⟨B, 0, none⟩ (.slice a6 tl c6)).setCell ⟨B, 1, none⟩ (.int .i64 ch)).cell? ⟨B, 0, none⟩ = some (.slice a6 tl c6) := so (ss x0) (by decide)
   have k1 : ((w6.setCell ⟨B, 0, none⟩ (.slice a6 tl c6)).setCell ⟨B, 1, none⟩ (.int .i64 ch)).cell? ⟨B, 1, none⟩ = some (.int .i64 ch) := ss (so x1 (by decide))
   have HFB : Hid (Below B w ((w6.setCell ⟨B, 0, none⟩ (.slice a6 tl c6)).setCell ⟨B, 1, none⟩ (.int .i64 ch))) := (hbB6.setCell (p := ⟨B, 0, none⟩) leR _).setCell (p := ⟨B, 1, none⟩) leR _
   have HFO : Hid (ORC CoinD.l 107 6 ((w6.setCell ⟨B, 0, none⟩ (.slice a6 tl c6)).setCell ⟨B, 1, none⟩ (.int .i64 ch)) B (.slice a6 tl c6) (cs.take q)) := olR (ownsRow_setCell_below (ownsRow_setCell_below HO6.out (a := ⟨B, 0, none⟩) hB5 _) (a := ⟨B, 1, none⟩) hB5 _) (by omega)
   go_wp2
   refine bodyPost_ret (v := .tuple #[.agg #[.slice a6 tl c6, .int .i64 ch], .int .i64 0]) ?_ rfl ⟨_, _, _, rfl, ?_, ?_⟩
   ·simp [results, Tryz.results81, go_sem, k0, k1]
   ·rw [HBe.out]; exact (HCK _ _ _ _).2 (Or.inr ⟨_, HCZ, rfl, HFO⟩)
   ·rw [HBe.out]; exact HFB
 ·rw [if_pos hb0] at HCZ
  have hbp : (0 : Int) < (bp : Int) := by omega
  go_wp2_with fail
  refine (cMembers_any C a1 c1 cs r bp _ HC4).mono ?_
  rintro e w6 ⟨v6, rfl, ho6, hb6⟩
  obtain ⟨a6, c6, e6, _⟩ := ORC.at ci6 ho6
  subst e6
  have HO6 := hiD ho6
  have x0 := (hb6.cell (p := ⟨B, 0, none⟩) (clT q0)).trans q0
  have x1 := (hb6.cell (p := ⟨B, 1, none⟩) (clT q1)).trans q1
  have y0 := (hb6.frozen (p := ⟨B, 0, none⟩) (clT q0)).trans (HF4.out 0)
  have y1 := (hb6.frozen (p := ⟨B, 1, none⟩) (clT q1)).trans (HF4.out 1)
  have hB5 : B < w4.heap.size := clT q0
  have hbB6 : Below B w w6 := hbB4.trans (hb6.mono (by omega))
  clear ho6 q0 q1 hb6 hbB4 HF4
  generalize (memP cs bp).length = tl at *
  have k0 : ((w6.setCell ⟨B, 0, none⟩ (.slice a6 tl c6)).setCell ⟨B, 1, none⟩ (.int .i64 0)).cell? ⟨B, 0, none⟩ = some (.slice a6 tl c6) := so (ss x0) (by decide)
  have k1 : ((w6.setCell ⟨B, 0, none⟩ (.slice a6 tl c6)).setCell ⟨B, 1, none⟩ (.int .i64 0)).cell? ⟨B, 1, none⟩ = some (.int .i64 0) := ss (so x1 (by decide))
  have HFB : Hid (Below B w ((w6.setCell ⟨B, 0, none⟩ (.slice a6 tl c6)).setCell ⟨B, 1, none⟩ (.int .i64 0))) := (hbB6.setCell (p := ⟨B, 0, none⟩) leR _).setCell (p := ⟨B, 1, none⟩) leR _
  have HFO : Hid (ORC CoinD.l 107 6 ((w6.setCell ⟨B, 0, none⟩ (.slice a6 tl c6)).setCell ⟨B, 1, none⟩ (.int .i64 0)) B (.slice a6 tl c6) (memP cs bp)) := olR (ownsRow_setCell_below (ownsRow_setCell_below HO6.out (a := ⟨B, 0, none⟩) hB5 _) (a := ⟨B, 1, none⟩) hB5 _) (by omega)
  go_wp2
  refine bodyPost_ret (v := .tuple #[.agg #[.slice a6 tl c6, .int .i64 0], .int .i64 0]) ?_ rfl ⟨_, _, _, rfl, ?_, ?_⟩
  ·simp [results, Tryz.results81, go_sem, k0, k1]
  ·rw [HBe.out]; exact (HCK _ _ _ _).2 (Or.inr ⟨_, HCZ, rfl, HFO⟩)
  ·rw [HBe.out]; exact HFB
theorem vrow_srcN {l : List Value} (h : VRow W g off l) : ∀ j u, l[j]? = some u → W.cell? ((⟨g, off, none⟩ : Addr).add j) = some u := by
 intro j u hj
 obtain ⟨hl, e⟩ := List.getElem?_eq_some_iff.1 hj
 have := h j hl
 simp only [List.getD, hj, Option.getD_some] at this
 rw [Go.WideShapes.add_plain]
 exact this
theorem wpList_appN {α : Type} {f : α → List Value} (sT bytes : Nat) (z : Value) (hu : Tryz.prog.underlying sT = some (.slice e)) (hinf : (Tryz.prog.info? e).map (fun i => (i.zero, i.size, i.bytes)) = some (some z, k, bytes)) (hzs : z.cells.size = k) (hk : 0 < k) (hf : ∀ x, (f x).length = k) (h1 : ∀ x, ∀ u ∈ f x, u.oneCell' = true)
 (W : World) {ops : Array Oper} {rest : List Oper} {o : Oper} {a : Act} {Q : Exit → Act → World → Prop} (hgd : o.guard = none) (s x : Operand)
 (ho : o.op = .call { callee := .builtin .append, args := #[s, x], argTypes := #[sT, sT] })
 (base g0 off m c : Nat) (v : Value) (xs ys : List α) (hs : a.eval s = v) (hx : a.eval x = .slice (some ⟨g0, off, none⟩) m c) (hm : ys.length = m) (hm0 : 0 < m) (hown : ORC f e k W base v xs) (hc : VRow W g0 off (ys.flatMap f)) (hbase : base ≤ W.heap.size) (hlen : xs.length + m ≤ maxLen) (hby : (xs.length + m) * bytes ≤ 140737488355328)
 (h : ∀ g cap w', ORC f e k w' base (.slice (some ⟨g, 0, none⟩) (xs.length + m) cap) (xs ++ ys) → W.grownBy w' v.ownBlock → (v.ownBlock = some g ∨ W.heap.size ≤ g) → g < w'.heap.size → wpList Tryz.prog ops Q rest (a.put o.dst (.slice (some ⟨g, 0, none⟩) (xs.length + m) cap)) w') :
 wpList Tryz.prog ops Q (o :: rest) a W := by
 obtain ⟨i0, hi, hz0, hz1, hz2⟩ := info_parts hinf
 refine wpList_append_lies _ hgd s x sT ho base e i0 z k bytes hu hi hz0 hz1 hz2 hzs hk v xs.length (xs.flatMap f) hs hown ⟨g0, off, none⟩ m c (ys.flatMap f) hx (by rw [rlN f k hf, hm]) (vrow_srcN hc) (fun u hu2 => ?_) hm0 hlen hby hbase W.heap.size rfl ?_
 ·obtain ⟨y, _, hy⟩ := List.mem_flatMap.1 hu2
  exact h1 y u hy
 ·intro g cap w' hown' hg hlies hlt
  refine h g cap w' ?_ hg (hlies.imp id fun e => by omega) hlt
  unfold ORC
  rw [List.length_append, List.flatMap_append, hm]
  exact hown'
theorem outs_rec (h : OsT w ao ys) : RcT kV w ao ys := by
 rcases h with h | ⟨b, off, e, hr⟩
 ·exact Or.inl h
 ·refine Or.inr ⟨b, off, e, fun j hj => ?_⟩
  rw [rlN kV 2 kv2] at hj
  obtain ⟨q, t, ht, rfl⟩ : ∃ q t, t < 2 ∧ j = q * 2 + t := ⟨j / 2, j % 2, by omega, by omega⟩
  have hq : q < ys.length := by omega
  rw [rec_get kV 2 kv2 (0, 0) ys q t hq ht]
  obtain ⟨h0, h1⟩ := hr q hq
  match t, ht with
  | 0, _ => exact h0
  | 1, _ => exact h1
theorem roS (h : RcT kV w ao ys) : OsT w ao ys := by
 rcases h with h | ⟨b, off, e, hr⟩
 ·exact Or.inl h
 ·exact Or.inr ⟨b, off, e, fun j hj => kvCells hr j hj⟩
def inC (x : CoinD) : List Value := [.int .i64 x.id, .int .i64 x.pos, .slice none 0 0]
theorem inC3 (x : CoinD) : (inC x).length = 3 := rfl
theorem inC_one (x : CoinD) : ∀ u ∈ inC x, u.oneCell' = true := by
 intro u hu
 simp only [inC, List.mem_cons, List.not_mem_nil, or_false] at hu
 rcases hu with rfl | rfl | rfl <;> rfl
def kC (x : CoinD) : List Value := [.int .i64 x.br, .int .i64 x.ix]
theorem kC2 (x : CoinD) : (kC x).length = 2 := rfl
theorem kC_one (x : CoinD) : ∀ u ∈ kC x, u.oneCell' = true := by
 intro u hu
 simp only [kC, List.mem_cons, List.not_mem_nil, or_false] at hu
 rcases hu with rfl | rfl <;> rfl
theorem cstep_push (hg : W.grownBy w1 v.ownBlock) (hl : v.ownBlock = some g ∨ W.heap.size ≤ g) : ChStep T v (.slice (some ⟨g, 0, none⟩) n c) W (w1.setCell ⟨T, o, none⟩ u) :=
 ⟨(Fr.of_gb hg (fun k hk _ => Or.inr hk)).set T o u (fun _ => Or.inl rfl), fun k hk => by
  simp [Value.ownBlock] at hk
  subst hk
  exact hl⟩
structure UIv (w : World) (T : Nat) (tag : Int) (vi : Value) (cs : List CoinD) (wr : World) : Prop where
 t0 : wr.cell? ⟨T, 0, none⟩ = some (.int .i64 tag)
 t1 : wr.cell? ⟨T, 1, none⟩ = some vi
 t2 : wr.cell? ⟨T, 2, none⟩ = some (.slice none 0 0)
 tf : ∀ j, wr.frozen? ⟨T, j, none⟩ = false
 own : ORC inC 115 3 wr (T + 1) vi cs
 st : ChStep T (.slice none 0 0) vi w wr
theorem UIv.grown (h : UIv w T tag vi cs wr) (hb : Below wr.heap.size wr ws) : UIv w T tag vi cs ws :=
 ⟨(hb.cell (p := ⟨T, 0, none⟩) (clT h.t0)).trans h.t0, (hb.cell (p := ⟨T, 1, none⟩) (clT h.t1)).trans h.t1, (hb.cell (p := ⟨T, 2, none⟩) (clT h.t2)).trans h.t2, fun j => (hb.frozen (p := ⟨T, j, none⟩) (show T < wr.heap.size from clT h.t0)).trans (h.tf j), h.own.grown hb, h.st.trans (ChStep.of_below hb _ _)⟩
theorem UIv.push (h : UIv w T tag vi cs wr) (hown : ORC inC 115 3 w1 (T + 1) (.slice (some ⟨g, 0, none⟩) n c) (cs ++ [x])) (hg : wr.grownBy w1 vi.ownBlock) (hl : vi.ownBlock = some g ∨ wr.heap.size ≤ g) :
 UIv w T tag (.slice (some ⟨g, 0, none⟩) n c) (cs ++ [x]) (w1.setCell ⟨T, 1, none⟩ (.slice (some ⟨g, 0, none⟩) n c)) := by
 have hT := clT h.t0
 simp only at hT
 have hvT : some T ≠ vi.ownBlock := fun e => by have := (h.own.blk T e.symm).1; omega
 have hgT := (hown.blk g rfl).1
 exact ⟨so (geL hg h.t0 hvT) (by decide), ss (geL hg h.t1 hvT), so (geL hg h.t2 hvT) (by decide), fun j => by rw [World.frozen?_setCell]; exact (goN hg hT hvT).trans (h.tf j), hown.gb (gb_set w1 T 1 _) (fun k hk e => by simp [Value.ownBlock] at hk; injection e with e; omega), h.st.trans (cstep_push hg hl)⟩
end
end Go.Proofs.YtffgpepngcnjeabGreat
