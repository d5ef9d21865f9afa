import Derived.Test.YtffgpepngcnjeabGreatSaa
import Derived.Laws.CopyOwn
namespace Go.Proofs.YtffgpepngcnjeabGreat
set_option maxRecDepth 100000
set_option maxHeartbeats 1000000
section
open Go.RowKit
variable {wr w2 w W w' w1 : World} {o : Obj} {B b o1 d o2 g n off : Nat} {x : Value} {y t : Int} {l : List Int} {ao : OAd} {ys : LII}
theorem rIsSeal_row (b off c : Nat) (l : List Int) (w : World) (hr : Row w b off l) (h5 : l.length = 5) :
 Calls Tryz.prog 224 #[.slice (some ⟨b, off, none⟩) 5 c] w fun e w' => e = .returned (.bool (allM l)) ∧ w = w' := by
 have HR := hiD hr
 have HN := hiD h5
 clear hr h5
 go_enter Tryz.func224, Tryz.ntmps224
 go_wp2
 go_loop [3] (fun i => ∃ k : Nat, k ≤ 5 ∧ i = .int .i64 k ∧ Hid (allM (l.take k) = true)) (fun i => 5 - (intOf i).toNat)
 case atStart => exact ⟨0, Nat.zero_le _, rfl, by show allM _ = true; simp [allM]⟩
 case round =>
  obtain ⟨k, hk, rfl, hall⟩ := hrel
  by_cases hlt : k < 5
  ·have hc := HR.out k (by rw [HN.out]; exact hlt)
   generalize hx : l.getD k 0 = x at hc
   have HX := hiD hx
   clear hx
   cases hmk : Mk.isM x
   ·go_wp2_with (go_at_call 105; refine (rkY _ _).mono ?_; rintro e w' ⟨rfl, rfl⟩)
    go_ret
    exact ⟨rbL (allM_no l k (by rw [HN.out]; exact hlt) (by rw [HX.out]; exact hmk)).symm, rfl⟩
   ·go_wp2_with (go_at_call 105; refine (rkY _ _).mono ?_; rintro e w' ⟨rfl, rfl⟩)
    go_round
    case rel => exact ⟨k + 1, by omega, by go_num, by show allM _ = true; rw [allM_snoc l k (by rw [HN.out]; exact hlt), hall.out, HX.out, hmk]; rfl⟩
    case measure => simp [intOf]; omega
  ·go_wp2
   go_ret
   exact ⟨rbL (by rw [← hall.out, List.take_of_length_le (by rw [HN.out]; omega)]), rfl⟩
theorem rIsSeal_not (ao : OAd) (n c : Nat) (w : World) (h5 : n ≠ 5) :
 Calls Tryz.prog 224 #[.slice ao n c] w fun e w' => e = .returned (.bool false) ∧ w = w' := by
 have h5' : ((n : Int) != 5) = true := by rw [bne_iff_ne]; omega
 go_enter Tryz.func224, Tryz.ntmps224
 go_wp2
 go_ret
 exact ⟨rfl, rfl⟩
theorem raY (ao : OAd) (n c : Nat) (l : List Int) (w : World) (hr : IsT w ao l) (hn : l.length = n) :
 Calls Tryz.prog 224 #[.slice ao n c] w fun e w' => e = .returned (.bool (isS l)) ∧ w = w' := by
 by_cases h5 : n = 5
 ·subst h5
  have e : isS l = allM l := by unfold isS; rw [hn]; rfl
  rw [e]
  rcases hr with rfl | ⟨b, off, rfl, hr⟩
  ·simp at hn
  ·exact rIsSeal_row b off c l w hr hn
 ·have e : isS l = false := by unfold isS; rw [hn, decide_eq_false h5]; rfl
  rw [e]
  exact rIsSeal_not ao n c w h5
theorem cell_oned (w : World) (v : Value) : (w.alloc (.cells #[v] 3)).drew.cell? ⟨w.heap.size, 0, none⟩ = some v := by
 rw [World.cell?_drew, World.cell?_alloc_new]
 rfl
theorem le_oned (w : World) (o : Obj) : w.heap.size ≤ (w.alloc o).drew.heap.size := by rw [World.size_drew, World.size_alloc]; omega
theorem keep_two {y : Value} (hb : Below B (wr.alloc o).drew w2) (c0 : wr.cell? ⟨b, o1, none⟩ = some x) (c1 : wr.cell? ⟨d, o2, none⟩ = some y) (h0 : b < B) (h1 : d < B) :
 w2.cell? ⟨b, o1, none⟩ = some x ∧ w2.cell? ⟨d, o2, none⟩ = some y := by
 have l0 := clT c0
 have l1 := clT c1
 refine ⟨(hb.cell (p := ⟨b, o1, none⟩) h0).trans ?_, (hb.cell (p := ⟨d, o2, none⟩) h1).trans ?_⟩
 ·rw [World.cell?_drew, World.cell?_alloc_lt _ _ _ l0]; exact c0
 ·rw [World.cell?_drew, World.cell?_alloc_lt _ _ _ l1]; exact c1
theorem opened_row (id : Int) (b off c : Nat) (l : List Int) (w : World) (hm : Mk.isM id = true) (hs : isS l = true) (hr : Row w b off l) :
 Calls Tryz.prog 225 #[.int .i64 id, .slice (some ⟨b, off, none⟩) 5 c] w fun e w' => e = .returned (.int .i64 (Mk.opn id l)) ∧ Below w.heap.size w w' := by
 have hm' := (Mk.isM_iff id).1 hm
 obtain ⟨h5, hall⟩ := isS_iff hs
 have HR := hiD hr
 have H5 := hiD h5
 have HA := hiD hall
 have hne : l ≠ [] := by intro e; rw [e] at h5; simp at h5
 have hblt := hr.lt hne
 clear hr h5 hall
 go_enter Tryz.func225, Tryz.ntmps225
 go_wp2_with fail
 refine (rDigits_any _ _ hm'.1 hm'.2).mono ?_
 rintro e w1 ⟨vd, rfl, hd, hb1⟩
 obtain ⟨ad, cd, rfl, hat, _⟩ := hd.slice
 obtain ⟨bd, od, rfl, hrow⟩ : ∃ b off, ad = some ⟨b, off, none⟩ ∧ Row w1 b off (dgL id) := by
  rcases hat with h | h
  ·simp [dgL] at h
  ·exact h
 have hbd := hrow.lt (by simp [dgL])
 have hs1 := hb1.size
 rw [show (dgL id).length = 5 from rfl]
 clear hd hat
 go_wp2
 go_loopw [6, 7] (fun v j wr => ∃ k : Nat, k ≤ 5 ∧ j = .int .i64 k ∧ OIS wr w1.heap.size v ((List.range k).map fun j => Mk.tnN (l.getD j 0) (7 - Mk.dg id j).toNat) ∧ Below w1.heap.size w1 wr) (fun _ j _ => 5 - (intOf j).toNat)
 case atStart => exact ⟨0, by omega, rfl, OIS.nil _ _, Below.refl _ _⟩
 case round =>
  obtain ⟨k, hk5, rfl, hown, hbl⟩ := hrel
  have hsz := hbl.size
  by_cases hlt : k < 5
  ·have c0 : wr.cell? ⟨b, off + k, none⟩ = some (.int .i64 (l.getD k 0)) := ((HR.out.grown hb1).below hbl (by omega)) k (by rw [H5.out]; exact hlt)
   have c1 : wr.cell? ⟨bd, od + k, none⟩ = some (.int .i64 (Mk.dg id k)) := by
    have := (hrow.below hbl hbd) k (by simpa [dgL] using hlt); rw [dgL_at id k hlt] at this; exact this
   have bs := allM_bd HA.out k (by rw [H5.out]; exact hlt)
   have bg := Mk.dg_bd id k
   have hw7 : IntKind.i64.wrap (7 - Mk.dg id k) = 7 - Mk.dg id k := IntWalk.i64_in _ ⟨by omega, by omega⟩
   have HSn : Hid _ := range_snoc (fun j => Mk.tnN (l.getD j 0) (7 - Mk.dg id j).toNat) k
   have hrl := range_len (fun j => Mk.tnN (l.getD j 0) (7 - Mk.dg id j).toNat) k
   generalize l.getD k 0 = x at c0 bs HSn
   have hn0 := World.new_ne wr ⟨b, off + k, none⟩ c0
   have hn1 := World.new_ne wr ⟨bd, od + k, none⟩ c1
   have k0 : (0 : Int) ≤ (k : Int) := by omega
   have k1 : (k : Int) < 5 := by omega
   go_wp2
   go_region_held3 (fun w' => w'.cell? ⟨b, off + k, none⟩ = some (.int .i64 x) ∧ w'.cell? ⟨bd, od + k, none⟩ = some (.int .i64 (Mk.dg id k))) (first | go_keep | exact keep_two (by assumption) c0 c1 (by omega) hbd) (first | (go_at_call 198; refine (turned_any _ _ _ (by omega) (by omega) (by omega) (by omega)).mono ?_; rintro e w' ⟨rfl, rfl⟩) | (refine step_app1g _ ?_ (.tmp 14) (.tmp 25) ?_ w1.heap.size wr.heap.size 1 u6 ((List.range k).map fun j => Mk.tnN (l.getD j 0) (7 - Mk.dg id j).toNat) (Mk.tnN x (7 - Mk.dg id k).toNat) ?_ ?_ ?_ ?_ ?_ ?_ ?_; rfl; rfl; rfl; rfl; exact (hown.alloc _).drew; exact cell_oned _ _; exact leT hsz (le_oned _ _); (rw [hrl]; omega); intro v' w2 hown2 hb2))
   all_goals
    go_wp2
    go_roundw
    case rel => exact ⟨k + 1, by omega, by go_num, by rw [← HSn.out]; exact hown2, ((hbl.alloc hsz _).drew).trans hb2⟩
    case measure => simp [intOf]; omega
  ·have hk : k = 5 := by omega
   subst hk
   obtain ⟨ao, c, rfl, hat, _⟩ := hown.slice
   rw [range_len]
   go_wp2_with fail
   refine (mixed_any _ _ _ _ _ _ (by omega) (by omega) hat (range_len _ _) (mixable_marks ?_) (by omega)).mono ?_
   ·intro x hx
    obtain ⟨j, hj, rfl⟩ := List.mem_map.1 hx
    have hb := allM_bd HA.out j (by rw [H5.out]; simpa using hj)
    exact Mk.tnN_bd _ hb.1 hb.2 _
   rintro e w' ⟨rfl, rfl⟩
   go_wp2
   go_ret
   exact ⟨rfl, hb1.trans (hbl.mono hs1)⟩
theorem opened_any (id : Int) (ao : OAd) (n c : Nat) (l : List Int) (w : World) (hm : Mk.isM id = true) (hr : IsT w ao l) (hn : l.length = n) (hs : isS l = true) :
 Calls Tryz.prog 225 #[.int .i64 id, .slice ao n c] w fun e w' => e = .returned (.int .i64 (Mk.opn id l)) ∧ Below w.heap.size w w' := by
 have h5 := (isS_iff hs).1
 obtain rfl : n = 5 := by omega
 rcases hr with rfl | ⟨b, off, rfl, hr⟩
 ·simp at h5
 ·exact opened_row id b off c l w hm hs hr
theorem rOpen_yes (id : Int) (ao : OAd) (n c : Nat) (l : List Int) (w : World) (hm : Mk.isM id = true) (hr : IsT w ao l) (hn : l.length = n) (hs : isS l = true) :
 Calls Tryz.prog 223 #[.int .i64 id, .slice ao n c] w fun e w' => e = .returned (.tuple #[.int .i64 (Mk.opn id l), .int .i64 0]) ∧ Below w.heap.size w w' := by
 have HN := hiD hn
 clear hn
 go_enter Tryz.func223, Tryz.ntmps223
 go_wp2_with (first | (go_at_call 105; refine (rkY _ _).mono ?_; rintro e w' ⟨rfl, rfl⟩) | (go_at_call 224; refine (raY _ _ _ l _ hr HN).mono ?_; rintro e w' ⟨rfl, rfl⟩) | (go_at_call 225; refine (opened_any _ _ _ _ l _ hm hr HN hs).mono ?_; rintro e w' ⟨rfl, hb⟩))
 go_ret2
 exact ⟨rfl, hb⟩
theorem rOpen_noSeal (id : Int) (ao : OAd) (n c : Nat) (l : List Int) (w : World) (hm : Mk.isM id = true) (hr : IsT w ao l) (hn : l.length = n) (hs : isS l = false) :
 Calls Tryz.prog 223 #[.int .i64 id, .slice ao n c] w fun e w' => e = .returned (.tuple #[.int .i64 0, .int .i64 2]) ∧ w = w' := by
 have HN := hiD hn
 clear hn
 go_enter Tryz.func223, Tryz.ntmps223
 go_wp2_with (first | (go_at_call 105; refine (rkY _ _).mono ?_; rintro e w' ⟨rfl, rfl⟩) | (go_at_call 224; refine (raY _ _ _ l _ hr HN).mono ?_; rintro e w' ⟨rfl, rfl⟩))
 go_ret2
 exact ⟨rfl, rfl⟩
theorem num_any (x : Int) (w : World) :
 Calls Tryz.prog 64 #[.int .i64 x] w fun e w' => e = .returned (.int .i64 x) ∧ w = w' := by
 go_enter Tryz.func64, Tryz.ntmps64
 go_wp2
 go_ret
 exact ⟨rfl, rfl⟩
theorem sameInts_nil (ao bo : OAd) (c d : Nat) (w : World) :
 Calls Tryz.prog 212 #[.slice ao 0 c, .slice bo 0 d] w fun e w' => e = .returned (.bool true) ∧ w = w' := by
 go_enter Tryz.func212, Tryz.ntmps212
 go_wp2
 refine wp_loop_rounds 1 ?_
 rw [rounds_succ]
 go_wp2
 go_ret
 exact ⟨rfl, rfl⟩
theorem sameInts_row (a1 o1 a2 o2 n c d : Nat) (l : List Int) (w : World) (h1 : Row w a1 o1 l) (h2 : Row w a2 o2 l) (hn : l.length = n) (hm : n ≤ 9223372036854775807) :
 Calls Tryz.prog 212 #[.slice (some ⟨a1, o1, none⟩) n c, .slice (some ⟨a2, o2, none⟩) n d] w fun e w' => e = .returned (.bool true) ∧ Below w.heap.size w w' := by
 have H1 := hiD h1
 have H2 := hiD h2
 have HN := hiD hn
 clear h1 h2 hn
 go_enter Tryz.func212, Tryz.ntmps212
 go_wp2
 go_loopw [5] (fun i wr => ∃ k : Nat, k ≤ n ∧ i = .int .i64 k ∧ Below w.heap.size w wr) (fun i _ => n - (intOf i).toNat)
 case atStart => exact ⟨0, Nat.zero_le _, rfl, Below.refl _ _⟩
 case round =>
  obtain ⟨k, hk, rfl, hbl⟩ := hrel
  by_cases hlt : k < n
  ·have c1 := (H1.out.grown hbl) k (by rw [HN.out]; exact hlt)
   have c2 := (H2.out.grown hbl) k (by rw [HN.out]; exact hlt)
   generalize l.getD k 0 = x at c1 c2
   go_wp2
   go_region
   all_goals
    go_wp2
    go_roundw
    case rel => exact ⟨k + 1, by omega, by go_num, hbl.drew⟩
    case measure => simp [intOf]; omega
  ·go_wp2
   go_ret
   exact ⟨rfl, hbl⟩
theorem sameInts_any (ao bo : OAd) (n c d : Nat) (l : List Int) (w : World) (h1 : IsT w ao l) (h2 : IsT w bo l) (hn : l.length = n) (hm : n ≤ 9223372036854775807) :
 Calls Tryz.prog 212 #[.slice ao n c, .slice bo n d] w fun e w' => e = .returned (.bool true) ∧ Below w.heap.size w w' := by
 rcases h1 with rfl | ⟨a1, o1, rfl, h1⟩
 ·have h0 : n = 0 := by rw [← hn]; rfl
  subst h0
  refine (sameInts_nil ao bo c d w).mono ?_
  rintro e w' ⟨rfl, rfl⟩
  exact ⟨rfl, Below.refl _ _⟩
 ·rcases h2 with rfl | ⟨a2, o2, rfl, h2⟩
  ·have h0 : n = 0 := by rw [← hn]; rfl
   subst h0
   refine (sameInts_nil _ _ c d w).mono ?_
   rintro e w' ⟨rfl, rfl⟩
   exact ⟨rfl, Below.refl _ _⟩
  ·exact sameInts_row a1 o1 a2 o2 n c d l w h1 h2 hn hm
theorem made_at (n j : Nat) (h : j < n) : (madeCells #[Value.int .i64 0] n)[j]? = some (.int .i64 0) := by
 simp only [madeCells, Array.getElem?_map]
 rw [Array.getElem?_eq_getElem (by simpa using h)]
 simp [Nat.mod_one]
theorem row_spliced {t : TypeId} (hn : l.length = n)
 (h : w.heap[g]? = some (.cells (splice (madeCells #[Value.int .i64 0] (n + 1)).toList 0 (l.map (Value.int .i64))).toArray t)) : Row w g 0 (l ++ [0]) ∧ Free w g 0 (n + 1) := by
 constructor
 ·intro j hj
  rw [List.length_append] at hj
  simp only [World.cell?, h, Nat.zero_add, splice, List.take_zero, List.nil_append, List.length_map, hn]
  simp only [List.getElem?_toArray, List.getD]
  by_cases hlt : j < n
  ·simp only [List.getElem?_append_left (show j < (l.map (Value.int .i64)).length by rw [List.length_map]; omega), List.getElem?_append_left (show j < l.length by omega)]
   simp [hn, hlt]
  ·have e : j = n := by simp at hj; omega
   subst e
   rw [List.getElem?_append_right (by rw [List.length_map]; omega), List.getElem?_append_right (by omega)]
   rw [List.length_map, hn, Nat.sub_self, List.getElem?_drop, Nat.add_zero, Array.getElem?_toList, made_at _ _ (by omega)]
   simp
 ·intro j hj
  simp [World.frozen?, h]
theorem sizeInfo3 : Option.map (fun x : TypeInfo => x.size) (Tryz.prog.info? 3) = some 1 := by kernel_rfl
theorem make_ints (n : Nat) (hn : n ≤ 17592186044416) : ∀ u : World, (Instr.makeSlice 44 (.int .i64 ((n : Int) + 1)) (.int .i64 ((n : Int) + 1))).run Tryz.prog u =
 .ok (.slice (some ⟨u.heap.size, 0, none⟩) (n + 1) (n + 1)) (u.alloc (.cells (madeCells #[.int .i64 0] (n + 1)) 3)) := fun u => by
 obtain ⟨i0, hi, hz0, hz1, hz2⟩ := info_parts info3
 have h := run_make (P := Tryz.prog) u 44 3 i0 (.int .i64 0) Tryz.underlying44 hi hz0 .i64 .i64 ((n : Int) + 1) ((n : Int) + 1) (by omega) (Int.le_refl _) (by rw [hz2]; omega) (by omega)
 have e : ((n : Int) + 1).toNat = n + 1 := by omega
 rw [e] at h
 simpa [hz1, Value.cells] using h
theorem copy_src (h : IsT w ao l) (hW : Below w.heap.size w W) (g : Nat) : 0 < (l.map (Value.int .i64)).length →
 some (⟨g, 0, none⟩ : Addr) = some ⟨g, 0, none⟩ ∧ ∃ ad, ao = some ad ∧ ∀ (j : Nat) (v : Value), (l.map (Value.int .i64))[j]? = some v → W.cell? (ad.add j) = some v := by
 intro hp
 refine ⟨rfl, ?_⟩
 rcases h with rfl | ⟨b, off, rfl, hr⟩
 ·simp at hp
 ·refine ⟨_, rfl, ?_⟩
  intro j v hj
  have hlt : j < l.length := by
   apply Classical.byContradiction
   intro hc
   rw [List.getElem?_eq_none (by rw [List.length_map]; omega)] at hj
   cases hj
  have := (hr.grown hW) j hlt
  rw [List.getElem?_map, List.getElem?_eq_getElem hlt] at hj
  simp at hj
  rw [← hj]
  rw [Go.WideShapes.add_plain]
  simpa [List.getD, hlt] using this
theorem ints_one (l : List Int) : ∀ v ∈ l.map (Value.int .i64), v.oneCell' = true := by
 intro v hv
 obtain ⟨x, _, rfl⟩ := List.mem_map.1 hv
 rfl
theorem row_last (hn : l.length = n) (h : Row w g 0 (l ++ [0])) : Row (w.setCell ⟨g, n, none⟩ (.int .i64 (-5))) g 0 (l ++ [-5]) := by
 have := h.set (k := n) (by simp; omega) (-5)
 rw [Nat.zero_add] at this
 have e : (l ++ [0]).set n (-5) = l ++ [-5] := by
  subst hn
  simp
 rw [e] at this
 exact this
theorem heap_made (w : World) (a : Array Value) (t : TypeId) : (w.alloc (.cells a t)).heap[w.heap.size]? = some (.cells a.toList.toArray t) := by
 show (w.heap.push _)[w.heap.size]? = _
 rw [Array.getElem?_push_size]
theorem len_made (l : List Int) (n : Nat) (h : l.length = n) : (l.map (Value.int .i64)).length = n.min (n + 1) := by
 rw [List.length_map, h]
 exact (Nat.min_eq_left (by omega)).symm
theorem room_made (l : List Int) (n : Nat) (h : l.length = n) : 0 + (l.map (Value.int .i64)).length ≤ (madeCells #[Value.int .i64 0] (n + 1)).toList.length := by
 rw [List.length_map, h, Array.length_toList, size_madeCells]
 omega
theorem row_made (w : World) (n : Nat) : Row (w.alloc (.cells (madeCells #[Value.int .i64 0] (n + 1)) 3)) w.heap.size 0 ([] ++ [0]) ∧ Free (w.alloc (.cells (madeCells #[Value.int .i64 0] (n + 1)) 3)) w.heap.size 0 (n + 1) := by
 constructor
 ·intro j hj
  have e : j = 0 := by simp at hj; omega
  subst e
  rw [World.cell?_alloc_new]
  simp [made_at]
 ·intro j _
  exact World.frozen?_alloc_at _ _ _ _ rfl
theorem copy_made (ao : OAd) (n c : Nat) (l : List Int) (w : World) (hr : IsT w ao l) (hn : l.length = n) (h0 : ao = none → c = 0) :
 ∃ w1, Sem.run Tryz.prog (Builtin.copy_ #[44, 44] 3 #[.slice (some ⟨w.heap.size, 0, none⟩) (n + 1) (n + 1), .slice ao n c]) (w.alloc (.cells (madeCells #[.int .i64 0] (n + 1)) 3)) = .ok (.int .i64 n) w1 ∧
  Row w1 w.heap.size 0 (l ++ [0]) ∧ Free w1 w.heap.size 0 (n + 1) ∧ Below w.heap.size w w1 := by
 cases ao with
 | none =>
  have hl : l = [] := by
   rcases hr with h | ⟨b, off, h, _⟩
   ·exact h
   ·cases h
  subst hl
  have e : n = 0 := by rw [← hn]; rfl
  subst e
  rw [h0 rfl]
  have hm := row_made w 0
  exact ⟨_, run_copy_nil Tryz.prog _ 44 44 3 3 _ _ _ Tryz.underlying44 (by rw [sizeInfo3]; rfl), hm.1, hm.2, (Below.refl _ _).alloc leR _⟩
 | some a =>
  have hcs := copy_src (W := w.alloc (.cells (madeCells #[.int .i64 0] (n + 1)) 3)) hr (bAl _ _) w.heap.size
  have hsrc : ∀ (j : Nat) (v : Value), (l.map (Value.int .i64))[j]? = some v → (w.alloc (.cells (madeCells #[.int .i64 0] (n + 1)) 3)).cell? (a.add j) = some v := by
   intro j v hj
   by_cases hp : 0 < (l.map (Value.int .i64)).length
   ·obtain ⟨_, ad, e, h⟩ := hcs hp
    cases e
    exact h j v hj
   ·have : l.map (Value.int .i64) = [] := List.length_eq_zero_iff.1 (by omega)
    rw [this] at hj
    simp at hj
  have hheap := heap_made w (madeCells #[Value.int .i64 0] (n + 1)) 3
  have hrun := run_copy_row Tryz.prog (w.alloc (.cells (madeCells #[.int .i64 0] (n + 1)) 3)) 44 44 3 3 w.heap.size 0 (n + 1) (n + 1) a n c (madeCells #[Value.int .i64 0] (n + 1)) 3 (l.map (Value.int .i64)) Tryz.underlying44 sizeInfo3 hheap (len_made l n hn) hsrc (by have := room_made l n hn; rwa [Array.length_toList] at this) (ints_one l)
  have hh := setRow_heap (w.alloc (.cells (madeCells #[.int .i64 0] (n + 1)) 3)) w.heap.size (madeCells #[Value.int .i64 0] (n + 1)) (splice (madeCells #[Value.int .i64 0] (n + 1)).toList 0 (l.map (Value.int .i64))).toArray 3 (0, 0) hheap
  have hrf := row_spliced hn hh
  refine ⟨_, ?_, hrf.1, hrf.2, below_setRow (bAl _ _) leR _⟩
  rw [hrun, List.length_map, hn]
  simp [splice, goInt]
  rw [hn]
theorem Row.head (h : Row w b off (l ++ [y])) : Row w b off l := by
 intro j hj
 rw [h j (by rw [List.length_append]; omega)]
 simp only [List.getD]
 rw [List.getElem?_append_left hj]
theorem Row.last (h : Row w b 0 (l ++ [y])) (hn : l.length = n) : w.cell? ⟨b, n, none⟩ = some (.int .i64 y) := by
 have := h n (by simp [hn])
 rw [Nat.zero_add] at this
 rw [this]
 subst hn
 simp [List.getD]
theorem stillInts_any (B : Nat) (ao : OAd) (n c : Nat) (l : List Int) (w : World) (ho : Row w B 0 (l ++ [-5])) (hr : IsT w ao l) (hn : l.length = n) (hm : n ≤ 17592186044416) :
 Calls Tryz.prog 201 #[.slice (some ⟨B, 0, none⟩) n (n + 1), .slice ao n c] w fun e w' => e = .returned (.bool true) ∧ Below w.heap.size w w' := by
 have HN := hiD hn
 have HO := hiD ho
 clear hn ho
 go_enter Tryz.func201, Tryz.ntmps201
 go_wp2_with fail
 refine (sameInts_any _ _ _ _ _ l _ (Or.inr ⟨_, _, rfl, HO.out.head⟩) hr HN (by omega)).mono ?_
 rintro e w1 ⟨rfl, hb1⟩
 have hl := (HO.out.grown hb1).last HN.out
 go_wp2
 go_ret
 exact ⟨rfl, hb1⟩
structure InD where
 id : Int
 pos : Int
 ao : OAd
 n : Nat
 c : Nat
 l : List Int
def dIn : InD := ⟨0, 0, none, 0, 0, []⟩
structure InOk (w : World) (x : InD) : Prop where
 lies : IsT w x.ao x.l
 len : x.l.length = x.n
 sz : x.n ≤ 17592186044416
 nil : x.ao = none → x.c = 0
structure InCells (w : World) (b off : Nat) (x : InD) : Prop where
 c0 : w.cell? ⟨b, off, none⟩ = some (.int .i64 x.id)
 c1 : w.cell? ⟨b, off + 1, none⟩ = some (.int .i64 x.pos)
 c2 : w.cell? ⟨b, off + 2, none⟩ = some (.slice x.ao x.n x.c)
def InsRow (w : World) (b off : Nat) (xs : List InD) : Prop := ∀ j, j < xs.length → InCells w b (off + j * 3) (xs.getD j dIn) ∧ InOk w (xs.getD j dIn)
def IAa (w : World) (ao : OAd) (xs : List InD) : Prop := xs = [] ∨ ∃ b off, ao = some ⟨b, off, none⟩ ∧ InsRow w b off xs
def OutCells (w : World) (b off : Nat) (x : Int × Int) : Prop := w.cell? ⟨b, off, none⟩ = some (.int .i64 x.1) ∧ w.cell? ⟨b, off + 1, none⟩ = some (.int .i64 x.2)
def OsW (w : World) (b off : Nat) (ys : LII) : Prop := ∀ j, j < ys.length → OutCells w b (off + j * 2) (ys.getD j (0, 0))
def OsT (w : World) (ao : OAd) (ys : LII) : Prop := ys = [] ∨ ∃ b off, ao = some ⟨b, off, none⟩ ∧ OsW w b off ys
theorem InCells.below {x : InD} (h : InCells w b off x) (hb : Below B w w') (hB : b < B) : InCells w' b off x :=
 ⟨(hb.cell (p := ⟨b, off, none⟩) hB).trans h.c0, (hb.cell (p := ⟨b, off + 1, none⟩) hB).trans h.c1, (hb.cell (p := ⟨b, off + 2, none⟩) hB).trans h.c2⟩
theorem InOk.grown {x : InD} (h : InOk w x) (hb : Below w.heap.size w w') : InOk w' x := ⟨h.lies.grown hb, h.len, h.sz, h.nil⟩
theorem InsRow.grown {xs : List InD} (h : InsRow w b off xs) (hb : Below w.heap.size w w') : InsRow w' b off xs :=
 fun j hj => ⟨(h j hj).1.below hb (clT (h j hj).1.c0), (h j hj).2.grown hb⟩
theorem IAa.grown {xs : List InD} (h : IAa w ao xs) (hb : Below w.heap.size w w') : IAa w' ao xs := by
 rcases h with h | ⟨b, off, h, hr⟩
 ·exact Or.inl h
 ·exact Or.inr ⟨b, off, h, hr.grown hb⟩
theorem OsW.grown (h : OsW w b off ys) (hb : Below w.heap.size w w') : OsW w' b off ys :=
 fun j hj => ⟨(hb.cell (p := ⟨b, off + j * 2, none⟩) (clT (h j hj).1)).trans (h j hj).1, (hb.cell (p := ⟨b, off + j * 2 + 1, none⟩) (clT (h j hj).2)).trans (h j hj).2⟩
theorem OsT.grown (h : OsT w ao ys) (hb : Below w.heap.size w w') : OsT w' ao ys := by
 rcases h with h | ⟨b, off, h, hr⟩
 ·exact Or.inl h
 ·exact Or.inr ⟨b, off, h, hr.grown hb⟩
theorem bcell (hb : Below W.heap.size W w1) : (∀ b o, b < W.heap.size → w1.cell? ⟨b, o, none⟩ = W.cell? ⟨b, o, none⟩) ∧ (∀ b o, b < W.heap.size → w1.frozen? ⟨b, o, none⟩ = W.frozen? ⟨b, o, none⟩) :=
 ⟨fun b o h => hb.cell (p := ⟨b, o, none⟩) h, fun b o h => hb.frozen (p := ⟨b, o, none⟩) h⟩
def rIn (x : InD) : Bool := Mk.isM x.id && (decide (0 ≤ x.pos ∧ x.pos < 8) && (decide (x.n = 0) || isS x.l))
def rOut (y : Int × Int) : Bool := Mk.isM y.1 && decide (10 ≤ y.2 ∧ y.2 ≤ 1099511627776)
def rIns (xs : List InD) : Bool := decide (xs.length ≤ 10) && xs.all rIn
def rOuts (ys : LII) : Bool := decide (1 ≤ ys.length ∧ ys.length ≤ 8) && ys.all rOut
def rTx (t : Int) (xs : List InD) (ys : LII) : Bool := decide (0 ≤ t ∧ t ≤ 1099511627776) && (rIns xs && rOuts ys)
theorem rightOut_any (a v : Int) (w : World) :
 Calls Tryz.prog 130 #[.agg #[.int .i64 a, .int .i64 v]] w fun e w' => e = .returned (.bool (rOut (a, v))) ∧ Below w.heap.size w w' := by
 cases hm : Mk.isM a
 ·go_enter Tryz.func130, Tryz.ntmps130
  go_wp2_with (go_at_call 104; refine (iaY _ _).mono ?_; rintro e w' ⟨rfl, rfl⟩)
  go_ret
  exact ⟨rbL (by simp [rOut, hm]), (Below.refl _ _).alloc leR _⟩
 ·by_cases h1 : 10 ≤ v
  ·by_cases h2 : v ≤ 1099511627776
   ·go_enter Tryz.func130, Tryz.ntmps130
    go_wp2_with (go_at_call 104; refine (iaY _ _).mono ?_; rintro e w' ⟨rfl, rfl⟩)
    go_ret
    exact ⟨rbL (by simp [rOut, hm, h1, h2]), (Below.refl _ _).alloc leR _⟩
   ·go_enter Tryz.func130, Tryz.ntmps130
    go_wp2_with (go_at_call 104; refine (iaY _ _).mono ?_; rintro e w' ⟨rfl, rfl⟩)
    go_ret
    exact ⟨rbL (by simp [rOut, hm]; omega), (Below.refl _ _).alloc leR _⟩
  ·go_enter Tryz.func130, Tryz.ntmps130
   go_wp2_with (go_at_call 104; refine (iaY _ _).mono ?_; rintro e w' ⟨rfl, rfl⟩)
   go_ret
   exact ⟨rbL (by simp [rOut, hm]; omega), (Below.refl _ _).alloc leR _⟩
theorem all_snoc {α : Type} (p : α → Bool) (l : List α) (d : α) (k : Nat) (h : k < l.length) : (l.take (k + 1)).all p = ((l.take k).all p && p (l.getD k d)) := by
 rw [List.take_succ_eq_append_getElem h, List.all_append]
 simp [List.getD, h]
theorem all_no {α : Type} (p : α → Bool) (l : List α) (d : α) (k : Nat) (h : k < l.length) (h' : p (l.getD k d) = false) : l.all p = false := by
 rw [List.all_eq_false]
 refine ⟨l[k], List.getElem_mem h, ?_⟩
 simp only [List.getD, List.getElem?_eq_getElem h, Option.getD_some] at h'
 simp [h']
theorem all_done {α : Type} (p : α → Bool) (l : List α) (n : Nat) (hn : l.length = n) (k : Nat) (hk : n ≤ k) (h : (l.take k).all p = true) : true = l.all p := by
 rw [← h, List.take_of_length_le (by omega)]
theorem rightOuts_row (b off n c : Nat) (ys : LII) (w : World) (hr : OsW w b off ys) (hn : ys.length = n) (h1 : 1 ≤ n) (h8 : n ≤ 8) :
 Calls Tryz.prog 79 #[.slice (some ⟨b, off, none⟩) n c] w fun e w' => e = .returned (.bool (ys.all rOut)) ∧ Below w.heap.size w w' := by
 have HR := hiD hr
 have HN := hiD hn
 have g1 : decide ((n : Int) < 1) = false := by rw [decide_eq_false_iff_not]; omega
 have g2 : decide (8 < (n : Int)) = false := by rw [decide_eq_false_iff_not]; omega
 clear hr hn
 go_enter Tryz.func79, Tryz.ntmps79
 go_wp2
 go_loopw [15] (fun i wr => ∃ k : Nat, k ≤ n ∧ i = .int .i64 k ∧ Hid ((ys.take k).all rOut = true) ∧ Below w.heap.size w wr) (fun i _ => n - (intOf i).toNat)
 case atStart => exact ⟨0, Nat.zero_le _, rfl, by show List.all _ _ = true; simp, Below.refl _ _⟩
 case round =>
  obtain ⟨k, hk, rfl, hall, hbl⟩ := hrel
  have hsz := hbl.size
  by_cases hlt : k < n
  ·obtain ⟨c0, c1⟩ := (HR.out.grown hbl) k (by rw [HN.out]; exact hlt)
   have HS : Hid _ := all_snoc rOut ys (0, 0) k (by rw [HN.out]; exact hlt)
   have HZ : Hid _ := all_no rOut ys (0, 0) k (by rw [HN.out]; exact hlt)
   generalize ys.getD k (0, 0) = y at c0 c1 HS HZ
   obtain ⟨ya, yv⟩ := y
   simp only at c0 c1
   cases hy : rOut (ya, yv)
   ·go_wp2_with (go_at_call 130; refine (rightOut_any _ _ _).mono ?_; rintro e w2 ⟨rfl, hb2⟩; simp only [hy])
    go_ret
    exact ⟨rbL (HZ hy).symm, bwK (hbl.alloc hsz _) (by simpa using hb2)⟩
   ·go_wp2_with (go_at_call 130; refine (rightOut_any _ _ _).mono ?_; rintro e w2 ⟨rfl, hb2⟩; simp only [hy])
    go_roundw
    case rel => exact ⟨k + 1, by omega, by go_num, by show List.all _ _ = true; rw [HS.out, hall.out, hy]; rfl, bwK (hbl.alloc hsz _) hb2⟩
    case measure => simp [intOf]; omega
  ·go_wp2
   go_ret
   exact ⟨rbL (all_done rOut ys n HN k (by omega) hall.out), hbl⟩
theorem rightOuts_few (ao : OAd) (n c : Nat) (w : World) (hn : n < 1 ∨ 8 < n) :
 Calls Tryz.prog 79 #[.slice ao n c] w fun e w' => e = .returned (.bool false) ∧ Below w.heap.size w w' := by
 by_cases h : n < 1
 ·have g1 : decide ((n : Int) < 1) = true := by rw [decide_eq_true_iff]; omega
  go_enter Tryz.func79, Tryz.ntmps79
  go_wp2
  go_ret
  exact ⟨rfl, Below.refl _ _⟩
 ·have g1 : decide ((n : Int) < 1) = false := by rw [decide_eq_false_iff_not]; omega
  have g2 : decide (8 < (n : Int)) = true := by rw [decide_eq_true_iff]; omega
  go_enter Tryz.func79, Tryz.ntmps79
  go_wp2
  go_ret
  exact ⟨rfl, Below.refl _ _⟩
theorem rightOuts_any (ao : OAd) (n c : Nat) (ys : LII) (w : World) (hr : OsT w ao ys) (hn : ys.length = n) :
 Calls Tryz.prog 79 #[.slice ao n c] w fun e w' => e = .returned (.bool (rOuts ys)) ∧ Below w.heap.size w w' := by
 by_cases h : 1 ≤ n ∧ n ≤ 8
 ·have e : rOuts ys = ys.all rOut := by unfold rOuts; rw [hn, decide_eq_true h]; rfl
  rw [e]
  rcases hr with rfl | ⟨b, off, rfl, hr⟩
  ·simp at hn; omega
  ·exact rightOuts_row b off n c ys w hr hn h.1 h.2
 ·have e : rOuts ys = false := by unfold rOuts; rw [hn, decide_eq_false h]; rfl
  rw [e]
  exact rightOuts_few ao n c w (by omega)
theorem rightIn_any (x : InD) (w : World) (hx : InOk w x) :
 Calls Tryz.prog 216 #[.agg #[.int .i64 x.id, .int .i64 x.pos, .slice x.ao x.n x.c]] w fun e w' => e = .returned (.bool (rIn x)) ∧ Below w.heap.size w w' := by
 obtain ⟨id, pos, ao, n, c, l⟩ := x
 obtain ⟨h1, h2, h3, h4⟩ := hx
 simp only at h1 h2 h3 h4 ⊢
 have HN := hiD h2
 have HR := hiD h1
 clear h1 h2 h4
 have bl : ∀ o, Below w.heap.size w (w.alloc o) := fun o => (Below.refl _ _).alloc leR _
 have HB : Hid _ := bl
 clear bl
 cases hm : Mk.isM id
 ·go_enter Tryz.func216, Tryz.ntmps216
  go_wp2_with (go_at_call 104; refine (iaY _ _).mono ?_; rintro e w' ⟨rfl, rfl⟩)
  go_ret
  exact ⟨rbL (by simp [rIn, hm]), HB _⟩
 ·by_cases p0 : 0 ≤ pos
  ·by_cases p1 : pos < 8
   ·by_cases hn0 : n = 0
    ·subst hn0
     go_enter Tryz.func216, Tryz.ntmps216
     go_wp2_with (go_at_call 104; refine (iaY _ _).mono ?_; rintro e w' ⟨rfl, rfl⟩)
     go_ret
     exact ⟨rbL (by simp [rIn, hm, p0, p1]), HB _⟩
    ·have hn0' : ((n : Int) == 0) = false := by rw [beq_eq_false_iff_ne]; omega
     go_enter Tryz.func216, Tryz.ntmps216
     go_wp2_with (first | (go_at_call 104; refine (iaY _ _).mono ?_; rintro e w' ⟨rfl, rfl⟩) | (go_at_call 149; refine (isSeal_any _ _ _ l _ (HR.out.grown (HB _)) HN (by omega)).mono ?_; rintro e w' ⟨rfl, rfl⟩))
     go_ret
     exact ⟨rbL (by simp [rIn, hm, p0, p1, hn0]), HB _⟩
   ·go_enter Tryz.func216, Tryz.ntmps216
    go_wp2_with (go_at_call 104; refine (iaY _ _).mono ?_; rintro e w' ⟨rfl, rfl⟩)
    go_ret
    exact ⟨rbL (by simp [rIn, hm]; omega), HB _⟩
  ·go_enter Tryz.func216, Tryz.ntmps216
   go_wp2_with (go_at_call 104; refine (iaY _ _).mono ?_; rintro e w' ⟨rfl, rfl⟩)
   go_ret
   exact ⟨rbL (by simp [rIn, hm]; omega), HB _⟩
theorem rightIns_none (ao : OAd) (c : Nat) (w : World) :
 Calls Tryz.prog 189 #[.slice ao 0 c] w fun e w' => e = .returned (.bool true) ∧ Below w.heap.size w w' := by
 go_enter Tryz.func189, Tryz.ntmps189
 go_wp2
 refine wp_loop_rounds 1 ?_
 rw [rounds_succ]
 go_wp2
 go_ret
 exact ⟨rfl, Below.refl _ _⟩
theorem rightIns_row (b off n c : Nat) (xs : List InD) (w : World) (hr : InsRow w b off xs) (hn : xs.length = n) (h8 : n ≤ 10) :
 Calls Tryz.prog 189 #[.slice (some ⟨b, off, none⟩) n c] w fun e w' => e = .returned (.bool (xs.all rIn)) ∧ Below w.heap.size w w' := by
 have HR := hiD hr
 have HN := hiD hn
 have g2 : decide (10 < (n : Int)) = false := by rw [decide_eq_false_iff_not]; omega
 clear hr hn
 go_enter Tryz.func189, Tryz.ntmps189
 go_wp2
 go_loopw [10] (fun i wr => ∃ k : Nat, k ≤ n ∧ i = .int .i64 k ∧ Hid ((xs.take k).all rIn = true) ∧ Below w.heap.size w wr) (fun i _ => n - (intOf i).toNat)
 case atStart => exact ⟨0, Nat.zero_le _, rfl, by show List.all _ _ = true; simp, Below.refl _ _⟩
 case round =>
  obtain ⟨k, hk, rfl, hall, hbl⟩ := hrel
  have hsz := hbl.size
  by_cases hlt : k < n
  ·obtain ⟨⟨c0, c1, c2⟩, hok⟩ := (HR.out.grown hbl) k (by rw [HN.out]; exact hlt)
   have HS : Hid _ := all_snoc rIn xs dIn k (by rw [HN.out]; exact hlt)
   have HZ : Hid _ := all_no rIn xs dIn k (by rw [HN.out]; exact hlt)
   generalize xs.getD k dIn = y at c0 c1 c2 hok HS HZ
   have hok' := fun o => hok.grown (w' := wr.alloc o) (bAl _ _)
   have HK : Hid _ := hok'
   clear hok hok'
   cases hy : rIn y
   ·go_wp2_with (go_at_call 216; refine (rightIn_any y _ (HK _)).mono ?_; rintro e w2 ⟨rfl, hb2⟩; simp only [hy])
    go_ret
    exact ⟨rbL (HZ hy).symm, bwK (hbl.alloc hsz _) (by simpa using hb2)⟩
   ·go_wp2_with (go_at_call 216; refine (rightIn_any y _ (HK _)).mono ?_; rintro e w2 ⟨rfl, hb2⟩; simp only [hy])
    go_roundw
    case rel => exact ⟨k + 1, by omega, by go_num, by show List.all _ _ = true; rw [HS.out, hall.out, hy]; rfl, bwK (hbl.alloc hsz _) hb2⟩
    case measure => simp [intOf]; omega
  ·go_wp2
   go_ret
   exact ⟨rbL (all_done rIn xs n HN k (by omega) hall.out), hbl⟩
theorem rightIns_many (ao : OAd) (n c : Nat) (w : World) (hn : 10 < n) :
 Calls Tryz.prog 189 #[.slice ao n c] w fun e w' => e = .returned (.bool false) ∧ Below w.heap.size w w' := by
 have g2 : decide (10 < (n : Int)) = true := by rw [decide_eq_true_iff]; omega
 go_enter Tryz.func189, Tryz.ntmps189
 go_wp2
 go_ret
 exact ⟨rfl, Below.refl _ _⟩
theorem rightIns_any (ao : OAd) (n c : Nat) (xs : List InD) (w : World) (hr : IAa w ao xs) (hn : xs.length = n) :
 Calls Tryz.prog 189 #[.slice ao n c] w fun e w' => e = .returned (.bool (rIns xs)) ∧ Below w.heap.size w w' := by
 by_cases h : n ≤ 10
 ·have e : rIns xs = xs.all rIn := by unfold rIns; rw [hn, decide_eq_true h]; rfl
  rw [e]
  rcases hr with rfl | ⟨b, off, rfl, hr⟩
  ·have h0 : n = 0 := by rw [← hn]; rfl
   subst h0
   exact rightIns_none ao c w
  ·exact rightIns_row b off n c xs w hr hn h
 ·have e : rIns xs = false := by unfold rIns; rw [hn, decide_eq_false h]; rfl
  rw [e]
  exact rightIns_many ao n c w (by omega)
theorem rTY (t : Int) (w : World) : Calls Tryz.prog 78 #[.int .i64 t] w fun e w' => e = .returned (.bool (decide (0 ≤ t ∧ t ≤ 1099511627776))) ∧ w = w' := by
 by_cases t0 : 0 ≤ t
 ·by_cases t1 : t ≤ 1099511627776
  ·go_enter Tryz.func78, Tryz.ntmps78
   go_wp2
   go_ret
   exact ⟨rbL (by simp [t0, t1]), rfl⟩
  ·go_enter Tryz.func78, Tryz.ntmps78
   go_wp2
   go_ret
   exact ⟨rbL (by simp; omega), rfl⟩
 ·go_enter Tryz.func78, Tryz.ntmps78
  go_wp2
  go_ret
  exact ⟨rbL (by simp; omega), rfl⟩
theorem rhY (t : Int) (ai : OAd) (n c : Nat) (ap : OAd) (m d : Nat) (xs : List InD) (ys : LII) (w : World) (hx : IAa w ai xs) (hn : xs.length = n) (hy : OsT w ap ys) (hm : ys.length = m) :
 Calls Tryz.prog 142 #[.agg #[.int .i64 t, .slice ai n c, .slice ap m d]] w fun e w' => e = .returned (.bool (rTx t xs ys)) ∧ Below w.heap.size w w' := by
 have HN := hiD hn
 have HM := hiD hm
 have HX := hiD hx
 have HY := hiD hy
 clear hn hm hx hy
 have bl : ∀ o, Below w.heap.size w (w.alloc o) := fun o => (Below.refl _ _).alloc leR _
 have HB : Hid _ := bl
 clear bl
 cases ht : decide (0 ≤ t ∧ t ≤ 1099511627776)
 ·go_enter Tryz.func142, Tryz.ntmps142
  go_wp2_with (go_at_call 78; refine (rTY _ _).mono ?_; rintro e w' ⟨rfl, rfl⟩; rw [ht])
  go_ret
  exact ⟨rbL (by simp only [rTx, ht]; rfl), HB _⟩
 ·cases hi : rIns xs
  ·go_enter Tryz.func142, Tryz.ntmps142
   go_wp2_with (first | (go_at_call 78; refine (rTY _ _).mono ?_; rintro e w' ⟨rfl, rfl⟩; rw [ht]) | (go_at_call 189; refine (rightIns_any _ _ _ xs _ (HX.out.grown (HB _)) HN).mono ?_; rintro e w1 ⟨rfl, hb1⟩; rw [hi]))
   go_ret
   exact ⟨rbL (by simp [rTx, hi]), bwK (HB _) hb1⟩
  ·go_enter Tryz.func142, Tryz.ntmps142
   go_wp2_with (first | (go_at_call 78; refine (rTY _ _).mono ?_; rintro e w' ⟨rfl, rfl⟩; rw [ht]) | fail)
   refine (rightIns_any _ _ _ xs _ (HX.out.grown (HB _)) HN).mono ?_
   rintro e w1 ⟨rfl, hb1⟩
   rw [hi]
   have hw1 := bwK (HB.out _) hb1
   obtain ⟨c1, _⟩ := bcell hb1
   go_wp2_with fail
   refine (rightOuts_any _ _ _ ys _ (HY.out.grown hw1) HM).mono ?_
   rintro e w2 ⟨rfl, hb2⟩
   go_wp2
   go_ret
   exact ⟨rbL (by simp only [rTx, hi, ht]; rfl), bwK hw1 hb2⟩
def inL (xs : List InD) : List Int := xs.flatMap fun x => [x.id, x.pos]
def outL (ys : LII) : List Int := ys.flatMap fun y => [y.1, y.2]
def idL (t : Int) (xs : List InD) (ys : LII) : List Int := [t, (xs.length : Int)] ++ inL xs ++ [(ys.length : Int)] ++ outL ys
def idZ (t : Int) (xs : List InD) (ys : LII) : Int := if rTx t xs ys = true then Mk.mixL 1 (idL t xs ys) else 0
theorem inL_snoc (xs : List InD) (k : Nat) (h : k < xs.length) : inL (xs.take (k + 1)) = inL (xs.take k) ++ [(xs.getD k dIn).id, (xs.getD k dIn).pos] := by
 unfold inL
 rw [List.take_succ_eq_append_getElem h, List.flatMap_append]
 simp [List.getD, h]
theorem outL_snoc (ys : LII) (k : Nat) (h : k < ys.length) : outL (ys.take (k + 1)) = outL (ys.take k) ++ [(ys.getD k (0, 0)).1, (ys.getD k (0, 0)).2] := by
 unfold outL
 rw [List.take_succ_eq_append_getElem h, List.flatMap_append]
 simp [List.getD, h]
theorem mixIn_snoc (h : Int) (xs : List InD) (k : Nat) (hk : k < xs.length) : Mk.mixL h (inL (xs.take (k + 1))) = Mk.mx (Mk.mx (Mk.mixL h (inL (xs.take k))) (xs.getD k dIn).id) (xs.getD k dIn).pos := by
 rw [inL_snoc xs k hk, Mk.mixL_append]; rfl
theorem mixOut_snoc (h : Int) (ys : LII) (k : Nat) (hk : k < ys.length) : Mk.mixL h (outL (ys.take (k + 1))) = Mk.mx (Mk.mx (Mk.mixL h (outL (ys.take k))) (ys.getD k (0, 0)).1) (ys.getD k (0, 0)).2 := by
 rw [outL_snoc ys k hk, Mk.mixL_append]; rfl
theorem raS {xs : List InD} (h : rTx t xs ys = true) :
 (0 ≤ t ∧ t ≤ 1099511627776) ∧ xs.length ≤ 10 ∧ (∀ j, j < xs.length → rIn (xs.getD j dIn) = true) ∧ (1 ≤ ys.length ∧ ys.length ≤ 8) ∧ (∀ j, j < ys.length → rOut (ys.getD j (0, 0)) = true) := by
 simp only [rTx, rIns, rOuts, Bool.and_eq_true, decide_eq_true_iff, List.all_eq_true] at h
 obtain ⟨h1, ⟨h2, h3⟩, h4, h5⟩ := h
 refine ⟨h1, h2, fun j hj => ?_, h4, fun j hj => ?_⟩
 ·have := h3 _ (List.getElem_mem hj)
  simpa [List.getD, hj] using this
 ·have := h5 _ (List.getElem_mem hj)
  simpa [List.getD, hj] using this
theorem rIn_bd {x : InD} (h : rIn x = true) : (0 ≤ x.id ∧ x.id < 99991) ∧ (0 ≤ x.pos ∧ x.pos < 8) := by
 simp only [rIn, Bool.and_eq_true, decide_eq_true_iff] at h
 exact ⟨(Mk.isM_iff _).1 h.1, h.2.1⟩
theorem rOut_bd {y : Int × Int} (h : rOut y = true) : (0 ≤ y.1 ∧ y.1 < 99991) ∧ (10 ≤ y.2 ∧ y.2 ≤ 1099511627776) := by
 simp only [rOut, Bool.and_eq_true, decide_eq_true_iff] at h
 exact ⟨(Mk.isM_iff _).1 h.1, h.2⟩
theorem idL_split (t : Int) (xs : List InD) (ys : LII) : Mk.mixL 1 (idL t xs ys) = Mk.mixL (Mk.mx (Mk.mixL (Mk.mx (Mk.mx 1 t) (xs.length : Int)) (inL xs)) (ys.length : Int)) (outL ys) := by
 unfold idL
 rw [Mk.mixL_append, Mk.mixL_append, Mk.mixL_append]
 rfl
theorem txId_no (t : Int) (ai : OAd) (n c : Nat) (ap : OAd) (m d : Nat) (xs : List InD) (ys : LII) (w : World) (hx : IAa w ai xs) (hn : xs.length = n) (hy : OsT w ap ys) (hm : ys.length = m) (hr : rTx t xs ys = false) :
 Calls Tryz.prog 85 #[.agg #[.int .i64 t, .slice ai n c, .slice ap m d]] w fun e w' => e = .returned (.int .i64 0) ∧ Below w.heap.size w w' := by
 have HN := hiD hn
 have HM := hiD hm
 have HX := hiD hx
 have HY := hiD hy
 clear hn hm hx hy
 have bl : ∀ o, Below w.heap.size w (w.alloc o) := fun o => (Below.refl _ _).alloc leR _
 have HB : Hid _ := bl
 clear bl
 go_enter Tryz.func85, Tryz.ntmps85
 go_wp2_with fail
 refine (rhY _ _ _ _ _ _ _ xs ys _ (HX.out.grown (HB _)) HN (HY.out.grown (HB _)) HM).mono ?_
 rintro e w1 ⟨rfl, hb1⟩
 rw [hr]
 go_wp2
 go_ret
 exact ⟨rfl, bwK (HB _) hb1⟩
theorem txId_yes (t : Int) (ai : OAd) (n c : Nat) (ap : OAd) (m d : Nat) (xs : List InD) (ys : LII) (w : World) (hx : IAa w ai xs) (hn : xs.length = n) (hy : OsT w ap ys) (hm : ys.length = m) (hr : rTx t xs ys = true) :
 Calls Tryz.prog 85 #[.agg #[.int .i64 t, .slice ai n c, .slice ap m d]] w fun e w' => e = .returned (.int .i64 (Mk.mixL 1 (idL t xs ys))) ∧ Below w.heap.size w w' := by
 obtain ⟨ht, hn10, hin, hm8, hout⟩ := raS hr
 rw [hn] at hn10
 rw [hm] at hm8
 have HN := hiD hn
 have HM := hiD hm
 have HX := hiD hx
 have HY := hiD hy
 have HI : Hid _ := hin
 have HO : Hid _ := hout
 clear hn hm hx hy hin hout
 have bl : ∀ o, Below w.heap.size w (w.alloc o) := fun o => (Below.refl _ _).alloc leR _
 have HB : Hid _ := bl
 clear bl
 have HE : Hid _ := idL_split t xs ys
 rw [HN.out, HM.out] at HE
 have b1 := Mk.mx_bd 1 t
 have b2 := Mk.mx_bd (Mk.mx 1 t) (n : Int)
 go_enter Tryz.func85, Tryz.ntmps85
 go_wp2_with fail
 refine (rhY _ _ _ _ _ _ _ xs ys _ (HX.out.grown (HB _)) HN (HY.out.grown (HB _)) HM).mono ?_
 rintro e w1 ⟨rfl, hb1⟩
 rw [hr]
 have hw1 := bwK (HB.out _) hb1
 obtain ⟨cc, _⟩ := bcell hb1
 go_wp2_with (go_at_call 143; refine (mix_any _ _ _ (by omega) (by omega) (by omega) (by omega)).mono ?_; rintro e w' ⟨rfl, rfl⟩)
 clear cc
 generalize hh0 : Mk.mx (Mk.mx 1 t) (n : Int) = h0 at *
 clear b1
 go_loopw [3, 22] (fun v i wr => ∃ k : Nat, k ≤ n ∧ i = .int .i64 k ∧ v = .int .i64 (Mk.mixL h0 (inL (xs.take k))) ∧ Below w1.heap.size w1 wr) (fun _ i _ => n - (intOf i).toNat)
 case atStart => exact ⟨0, Nat.zero_le _, rfl, rfl, Below.refl _ _⟩
 case round =>
  obtain ⟨k, hk, rfl, rfl, hbl⟩ := hrel
  have hsz := hbl.size
  have hw := bwK hw1 hbl
  have hmb := Mk.mixL_bd h0 (inL (xs.take k)) b2.1 b2.2
  by_cases hlt : k < n
  ·rcases HX.out with hnil | ⟨b, off, rfl, hrow⟩
   ·have := HN.out; rw [hnil] at this; simp at this; omega
   obtain ⟨⟨c0, c1, c2⟩, _⟩ := (hrow.grown hw) k (by rw [HN.out]; exact hlt)
   have HS : Hid _ := mixIn_snoc h0 xs k (by rw [HN.out]; exact hlt)
   have hb := rIn_bd (HI.out k (by rw [HN.out]; exact hlt))
   clear hrow
   generalize xs.getD k dIn = y at c0 c1 c2 HS hb
   obtain ⟨yid, ypos, yao, yn, yc, yl⟩ := y
   simp only at c0 c1 c2 hb
   generalize Mk.mixL h0 (inL (xs.take k)) = hh at *
   have bb := Mk.mx_bd hh yid
   go_wp2_with (go_at_call 143; refine (mix_any _ _ _ (by omega) (by omega) (by omega) (by omega)).mono ?_; rintro e w' ⟨rfl, rfl⟩)
   go_roundw
   case rel => exact ⟨k + 1, by omega, by go_num, by rw [HS.out], hbl.alloc hsz _⟩
   case measure => simp [intOf]; omega
  ·have hkn : k = n := by omega
   subst hkn
   have HT : Hid (inL (xs.take k) = inL xs) := by show _ = _; rw [List.take_of_length_le (by rw [HN.out]; omega)]
   rw [HT.out] at hmb ⊢
   generalize hh1 : Mk.mixL h0 (inL xs) = h1 at *
   have b3 := Mk.mx_bd h1 (m : Int)
   have hbx := hb1.trans (hbl.mono hb1.size)
   obtain ⟨cc, _⟩ := bcell hbx
   clear hlt
   go_wp2_with (go_at_call 143; refine (mix_any _ _ _ (by omega) (by omega) (by omega) (by omega)).mono ?_; rintro e w' ⟨rfl, rfl⟩)
   clear cc
   generalize hh2 : Mk.mx h1 (m : Int) = h2 at *
   go_loopw [3, 43] (fun v i ws => ∃ j : Nat, j ≤ m ∧ i = .int .i64 j ∧ v = .int .i64 (Mk.mixL h2 (outL (ys.take j))) ∧ Below wr.heap.size wr ws) (fun _ i _ => m - (intOf i).toNat)
   case atStart => exact ⟨0, Nat.zero_le _, rfl, rfl, Below.refl _ _⟩
   case round =>
    obtain ⟨j, hj, rfl, rfl, hbl2⟩ := hrel
    have hsz2 := hbl2.size
    have hv := bwK hw hbl2
    have hmb2 := Mk.mixL_bd h2 (outL (ys.take j)) b3.1 b3.2
    by_cases hjt : j < m
    ·rcases HY.out with hnil | ⟨b, off, rfl, hrow⟩
     ·have := HM.out; rw [hnil] at this; simp at this; omega
     obtain ⟨c0, c1⟩ := (hrow.grown hv) j (by rw [HM.out]; exact hjt)
     have HS : Hid _ := mixOut_snoc h2 ys j (by rw [HM.out]; exact hjt)
     have hb := rOut_bd (HO.out j (by rw [HM.out]; exact hjt))
     clear hrow
     generalize ys.getD j (0, 0) = y at c0 c1 HS hb
     obtain ⟨ya, yv⟩ := y
     simp only at c0 c1 hb
     generalize Mk.mixL h2 (outL (ys.take j)) = hh at *
     have bb := Mk.mx_bd hh ya
     go_wp2_with (go_at_call 143; refine (mix_any _ _ _ (by omega) (by omega) (by omega) (by omega)).mono ?_; rintro e w' ⟨rfl, rfl⟩)
     go_roundw
     case rel => exact ⟨j + 1, by omega, by go_num, by rw [HS.out], hbl2.alloc hsz2 _⟩
     case measure => simp [intOf]; omega
    ·go_wp2
     go_ret
     refine ⟨riT ?_, hv⟩
     rw [HE.out, List.take_of_length_le (by rw [HM.out]; omega)]
theorem txId_any (t : Int) (ai : OAd) (n c : Nat) (ap : OAd) (m d : Nat) (xs : List InD) (ys : LII) (w : World) (hx : IAa w ai xs) (hn : xs.length = n) (hy : OsT w ap ys) (hm : ys.length = m) :
 Calls Tryz.prog 85 #[.agg #[.int .i64 t, .slice ai n c, .slice ap m d]] w fun e w' => e = .returned (.int .i64 (idZ t xs ys)) ∧ Below w.heap.size w w' := by
 unfold idZ
 cases hr : rTx t xs ys
 ·rw [if_neg (by simp)]
  exact txId_no t ai n c ap m d xs ys w hx hn hy hm hr
 ·rw [if_pos rfl]
  exact txId_yes t ai n c ap m d xs ys w hx hn hy hm hr
end
end Go.Proofs.YtffgpepngcnjeabGreat
