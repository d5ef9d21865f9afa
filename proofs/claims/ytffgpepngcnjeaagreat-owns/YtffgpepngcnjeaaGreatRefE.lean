/-
-/
import Derived.Test.YtffgpepngcnjeaaGreatRefC
namespace Go.Proofs.YtffgpepngcnjeaaGreat
open Go.RowKit

set_option maxRecDepth 100000 in
set_option maxHeartbeats 400000 in
theorem rIsSeal_row (b off c : Nat) (l : List Int) (w : World) (hr : Row w b off l) (h5 : l.length = 5) :
    Calls Tryz.prog 176 #[.slice (some ⟨b, off, none⟩) 5 c] w fun e w' => e = .returned (.bool (allM l)) ∧ w = w' := by
  have HR : Hid (Row w b off l) := hr
  have HN : Hid (l.length = 5) := h5
  clear hr h5
  go_enter Tryz.func176, Tryz.ntmps176
  go_wp2
  go_loop [3] (fun i => ∃ k : Nat, k ≤ 5 ∧ i = .int .i64 k ∧ Hid (allM (l.take k) = true)) (fun i => 5 - (intOf i).toNat)
  case atStart => exact ⟨0, Nat.zero_le _, rfl, by show allM _ = true; simp [allM]⟩
  case round =>
    obtain ⟨k, hk, rfl, hall⟩ := hrel
    by_cases hlt : k < 5
    · have hc := HR.out k (by rw [HN.out]; exact hlt)
      generalize hx : l.getD k 0 = x at hc
      have HX : Hid (l.getD k 0 = x) := hx
      clear hx
      cases hmk : Mk.isM x
      · go_wp2_with (go_at_call 28; refine (rMark_any _ _).mono ?_; rintro e w' ⟨rfl, rfl⟩)
        go_ret
        exact ⟨ret_bool (allM_no l k (by rw [HN.out]; exact hlt) (by rw [HX.out]; exact hmk)).symm, rfl⟩
      · go_wp2_with (go_at_call 28; refine (rMark_any _ _).mono ?_; rintro e w' ⟨rfl, rfl⟩)
        go_round
        case rel => exact ⟨k + 1, by omega, by go_num, by show allM _ = true; rw [allM_snoc l k (by rw [HN.out]; exact hlt), hall.out, HX.out, hmk]; rfl⟩
        case measure => simp [intOf]; omega
    · go_wp2
      go_ret
      exact ⟨ret_bool (by rw [← hall.out, List.take_of_length_le (by rw [HN.out]; omega)]), rfl⟩

set_option maxRecDepth 100000 in
set_option maxHeartbeats 400000 in
theorem rIsSeal_not (ao : Option Addr) (n c : Nat) (w : World) (h5 : n ≠ 5) :
    Calls Tryz.prog 176 #[.slice ao n c] w fun e w' => e = .returned (.bool false) ∧ w = w' := by
  have h5' : ((n : Int) != 5) = true := by rw [bne_iff_ne]; omega
  go_enter Tryz.func176, Tryz.ntmps176
  go_wp2
  go_ret
  exact ⟨rfl, rfl⟩

theorem rIsSeal_any (ao : Option Addr) (n c : Nat) (l : List Int) (w : World) (hr : IntsAt w ao l) (hn : l.length = n) :
    Calls Tryz.prog 176 #[.slice ao n c] w fun e w' => e = .returned (.bool (isS l)) ∧ w = w' := by
  by_cases h5 : n = 5
  · subst h5
    have e : isS l = allM l := by unfold isS; rw [hn]; rfl
    rw [e]
    rcases hr with rfl | ⟨b, off, rfl, hr⟩
    · simp at hn
    · exact rIsSeal_row b off c l w hr hn
  · have e : isS l = false := by unfold isS; rw [hn, decide_eq_false h5]; rfl
    rw [e]
    exact rIsSeal_not ao n c w h5

theorem cell_oned (w : World) (v : Value) : (w.alloc (.cells #[v] 3)).drew.cell? ⟨w.heap.size, 0, none⟩ = some v := by
  rw [World.cell?_drew, World.cell?_alloc_new]
  rfl
theorem le_oned (w : World) (o : Obj) : w.heap.size ≤ (w.alloc o).drew.heap.size := by rw [World.size_drew, World.size_alloc]; omega
theorem keep_two {wr w2 : World} {o : Obj} {B b o1 d o2 : Nat} {x y : Value} (hb : Below B (wr.alloc o).drew w2) (c0 : wr.cell? ⟨b, o1, none⟩ = some x) (c1 : wr.cell? ⟨d, o2, none⟩ = some y) (h0 : b < B) (h1 : d < B) :
    w2.cell? ⟨b, o1, none⟩ = some x ∧ w2.cell? ⟨d, o2, none⟩ = some y := by
  have l0 := cell_lt c0
  have l1 := cell_lt c1
  refine ⟨(hb.cell (p := ⟨b, o1, none⟩) h0).trans ?_, (hb.cell (p := ⟨d, o2, none⟩) h1).trans ?_⟩
  · rw [World.cell?_drew, World.cell?_alloc_lt _ _ _ l0]; exact c0
  · rw [World.cell?_drew, World.cell?_alloc_lt _ _ _ l1]; exact c1

theorem opn_range (id : Int) (l : List Int) : Mk.mixL 1 ((List.range 5).map fun j => Mk.tnN (l.getD j 0) (7 - Mk.dg id j).toNat) = Mk.opn id l := rfl

set_option maxRecDepth 100000 in
set_option maxHeartbeats 1000000 in
theorem opened_row (id : Int) (b off c : Nat) (l : List Int) (w : World) (hm : Mk.isM id = true) (hs : isS l = true) (hr : Row w b off l) :
    Calls Tryz.prog 180 #[.int .i64 id, .slice (some ⟨b, off, none⟩) 5 c] w fun e w' => e = .returned (.int .i64 (Mk.opn id l)) ∧ Below w.heap.size w w' := by
  have hm' := (Mk.isM_iff id).1 hm
  obtain ⟨h5, hall⟩ := isS_iff hs
  have HR : Hid (Row w b off l) := hr
  have H5 : Hid (l.length = 5) := h5
  have HA : Hid (allM l = true) := hall
  have hne : l ≠ [] := by intro e; rw [e] at h5; simp at h5
  have hblt := hr.lt hne
  clear hr h5 hall
  go_enter Tryz.func180, Tryz.ntmps180
  go_wp2_with fail
  refine (rDigits_any _ _ hm'.1 hm'.2).mono ?_
  rintro e w1 ⟨vd, rfl, hd, hb1⟩
  obtain ⟨ad, cd, rfl, hat, _⟩ := hd.slice
  obtain ⟨bd, od, rfl, hrow⟩ : ∃ b off, ad = some ⟨b, off, none⟩ ∧ Row w1 b off (dgL id) := by
    rcases hat with h | h
    · simp [dgL] at h
    · exact h
  have hbd := hrow.lt (by simp [dgL])
  have hs1 := hb1.size
  rw [show (dgL id).length = 5 from rfl]
  clear hd hat
  go_wp2
  go_loopw [6, 7] (fun v j wr => ∃ k : Nat, k ≤ 5 ∧ j = .int .i64 k ∧ OwnInts wr w1.heap.size v ((List.range k).map fun j => Mk.tnN (l.getD j 0) (7 - Mk.dg id j).toNat) ∧ Below w1.heap.size w1 wr) (fun _ j _ => 5 - (intOf j).toNat)
  case atStart => exact ⟨0, by omega, rfl, OwnInts.nil _ _, Below.refl _ _⟩
  case round =>
    obtain ⟨k, hk5, rfl, hown, hbl⟩ := hrel
    have hsz := hbl.size
    by_cases hlt : k < 5
    · have c0 : wr.cell? ⟨b, off + k, none⟩ = some (.int .i64 (l.getD k 0)) := ((HR.out.grown hb1).below hbl (by omega)) k (by rw [H5.out]; exact hlt)
      have c1 : wr.cell? ⟨bd, od + k, none⟩ = some (.int .i64 (Mk.dg id k)) := by
        have := (hrow.below hbl hbd) k (by simpa [dgL] using hlt); rw [dgL_at id k hlt] at this; exact this
      have bs := allM_bd HA.out k (by rw [H5.out]; exact hlt)
      have bg := Mk.dg_bd id k
      have hw7 : IntKind.i64.wrap (7 - Mk.dg id k) = 7 - Mk.dg id k := IntWalk.i64_in _ ⟨by omega, by omega⟩
      have HSn : Hid _ := range_snoc (fun j => Mk.tnN (l.getD j 0) (7 - Mk.dg id j).toNat) k
      have hrl := range_len (fun j => Mk.tnN (l.getD j 0) (7 - Mk.dg id j).toNat) k
      generalize l.getD k 0 = x at c0 bs HSn
      have hn0 := World.new_ne wr ⟨b, off + k, none⟩ c0
      have hn1 := World.new_ne wr ⟨bd, od + k, none⟩ c1
      have k0 : (0 : Int) ≤ (k : Int) := by omega
      have k1 : (k : Int) < 5 := by omega
      go_wp2
      go_region_held3 (fun w' => w'.cell? ⟨b, off + k, none⟩ = some (.int .i64 x) ∧ w'.cell? ⟨bd, od + k, none⟩ = some (.int .i64 (Mk.dg id k))) (first | go_keep | exact keep_two (by assumption) c0 c1 (by omega) hbd) (first | (go_at_call 104; refine (turned_any _ _ _ (by omega) (by omega) (by omega) (by omega)).mono ?_; rintro e w' ⟨rfl, rfl⟩) | (refine step_app1g _ ?_ (.tmp 14) (.tmp 25) ?_ w1.heap.size wr.heap.size 1 u6 ((List.range k).map fun j => Mk.tnN (l.getD j 0) (7 - Mk.dg id j).toNat) (Mk.tnN x (7 - Mk.dg id k).toNat) ?_ ?_ ?_ ?_ ?_ ?_ ?_; rfl; rfl; rfl; rfl; exact (hown.alloc _).drew; exact cell_oned _ _; exact Nat.le_trans hsz (le_oned _ _); (rw [hrl]; omega); intro v' w2 hown2 hb2))
      all_goals
        go_wp2
        go_roundw
        case rel => exact ⟨k + 1, by omega, by go_num, by rw [← HSn.out]; exact hown2, ((hbl.alloc hsz _).drew).trans hb2⟩
        case measure => simp [intOf]; omega
    · have hk : k = 5 := by omega
      subst hk
      obtain ⟨ao, c, rfl, hat, _⟩ := hown.slice
      rw [range_len]
      go_wp2_with fail
      refine (mixed_any _ _ _ _ _ _ (by omega) (by omega) hat (range_len _ _) (mixable_marks ?_) (by omega)).mono ?_
      · intro x hx
        obtain ⟨j, hj, rfl⟩ := List.mem_map.1 hx
        have hb := allM_bd HA.out j (by rw [H5.out]; simpa using hj)
        exact Mk.tnN_bd _ hb.1 hb.2 _
      rintro e w' ⟨rfl, rfl⟩
      go_wp2
      go_ret
      exact ⟨rfl, hb1.trans (hbl.mono hs1)⟩

end Go.Proofs.YtffgpepngcnjeaaGreat
namespace Go.Proofs.YtffgpepngcnjeaaGreat
open Go.RowKit

theorem opened_any (id : Int) (ao : Option Addr) (n c : Nat) (l : List Int) (w : World) (hm : Mk.isM id = true) (hr : IntsAt w ao l) (hn : l.length = n) (hs : isS l = true) :
    Calls Tryz.prog 180 #[.int .i64 id, .slice ao n c] w fun e w' => e = .returned (.int .i64 (Mk.opn id l)) ∧ Below w.heap.size w w' := by
  have h5 := (isS_iff hs).1
  obtain rfl : n = 5 := by omega
  rcases hr with rfl | ⟨b, off, rfl, hr⟩
  · simp at h5
  · exact opened_row id b off c l w hm hs hr

set_option maxRecDepth 100000 in
set_option maxHeartbeats 400000 in
theorem rOpen_yes (id : Int) (ao : Option Addr) (n c : Nat) (l : List Int) (w : World) (hm : Mk.isM id = true) (hr : IntsAt w ao l) (hn : l.length = n) (hs : isS l = true) :
    Calls Tryz.prog 174 #[.int .i64 id, .slice ao n c] w fun e w' => e = .returned (.tuple #[.int .i64 (Mk.opn id l), .int .i64 0]) ∧ Below w.heap.size w w' := by
  have HN : Hid (l.length = n) := hn
  clear hn
  go_enter Tryz.func174, Tryz.ntmps174
  go_wp2_with (first | (go_at_call 28; refine (rMark_any _ _).mono ?_; rintro e w' ⟨rfl, rfl⟩) | (go_at_call 176; refine (rIsSeal_any _ _ _ l _ hr HN.out).mono ?_; rintro e w' ⟨rfl, rfl⟩) | (go_at_call 180; refine (opened_any _ _ _ _ l _ hm hr HN.out hs).mono ?_; rintro e w' ⟨rfl, hb⟩))
  go_ret2
  exact ⟨rfl, hb⟩
set_option maxRecDepth 100000 in
set_option maxHeartbeats 400000 in
theorem rOpen_noMark (id : Int) (v : Value) (w : World) (hm : Mk.isM id = false) :
    Calls Tryz.prog 174 #[.int .i64 id, v] w fun e w' => e = .returned (.tuple #[.int .i64 0, .int .i64 1]) ∧ w = w' := by
  go_enter Tryz.func174, Tryz.ntmps174
  go_wp2_with (go_at_call 28; refine (rMark_any _ _).mono ?_; rintro e w' ⟨rfl, rfl⟩)
  go_ret2
  exact ⟨rfl, rfl⟩
set_option maxRecDepth 100000 in
set_option maxHeartbeats 400000 in
theorem rOpen_noSeal (id : Int) (ao : Option Addr) (n c : Nat) (l : List Int) (w : World) (hm : Mk.isM id = true) (hr : IntsAt w ao l) (hn : l.length = n) (hs : isS l = false) :
    Calls Tryz.prog 174 #[.int .i64 id, .slice ao n c] w fun e w' => e = .returned (.tuple #[.int .i64 0, .int .i64 2]) ∧ w = w' := by
  have HN : Hid (l.length = n) := hn
  clear hn
  go_enter Tryz.func174, Tryz.ntmps174
  go_wp2_with (first | (go_at_call 28; refine (rMark_any _ _).mono ?_; rintro e w' ⟨rfl, rfl⟩) | (go_at_call 176; refine (rIsSeal_any _ _ _ l _ hr HN.out).mono ?_; rintro e w' ⟨rfl, rfl⟩))
  go_ret2
  exact ⟨rfl, rfl⟩

set_option maxRecDepth 100000 in
set_option maxHeartbeats 400000 in
theorem num_any (x : Int) (w : World) :
    Calls Tryz.prog 13 #[.int .i64 x] w fun e w' => e = .returned (.int .i64 x) ∧ w = w' := by
  go_enter Tryz.func13, Tryz.ntmps13
  go_wp2
  go_ret
  exact ⟨rfl, rfl⟩

set_option maxRecDepth 100000 in
set_option maxHeartbeats 400000 in
theorem sameInts_nil (ao bo : Option Addr) (c d : Nat) (w : World) :
    Calls Tryz.prog 139 #[.slice ao 0 c, .slice bo 0 d] w fun e w' => e = .returned (.bool true) ∧ w = w' := by
  go_enter Tryz.func139, Tryz.ntmps139
  go_wp2
  refine wp_loop_rounds 1 ?_
  rw [rounds_succ]
  go_wp2
  go_ret
  exact ⟨rfl, rfl⟩

set_option maxRecDepth 100000 in
set_option maxHeartbeats 400000 in
theorem sameInts_row (a1 o1 a2 o2 n c d : Nat) (l : List Int) (w : World) (h1 : Row w a1 o1 l) (h2 : Row w a2 o2 l) (hn : l.length = n) (hm : n ≤ 9223372036854775807) :
    Calls Tryz.prog 139 #[.slice (some ⟨a1, o1, none⟩) n c, .slice (some ⟨a2, o2, none⟩) n d] w fun e w' => e = .returned (.bool true) ∧ Below w.heap.size w w' := by
  have H1 : Hid (Row w a1 o1 l) := h1
  have H2 : Hid (Row w a2 o2 l) := h2
  have HN : Hid (l.length = n) := hn
  clear h1 h2 hn
  go_enter Tryz.func139, Tryz.ntmps139
  go_wp2
  go_loopw [5] (fun i wr => ∃ k : Nat, k ≤ n ∧ i = .int .i64 k ∧ Below w.heap.size w wr) (fun i _ => n - (intOf i).toNat)
  case atStart => exact ⟨0, Nat.zero_le _, rfl, Below.refl _ _⟩
  case round =>
    obtain ⟨k, hk, rfl, hbl⟩ := hrel
    by_cases hlt : k < n
    · have c1 := (H1.out.grown hbl) k (by rw [HN.out]; exact hlt)
      have c2 := (H2.out.grown hbl) k (by rw [HN.out]; exact hlt)
      generalize l.getD k 0 = x at c1 c2
      go_wp2
      go_region
      all_goals
        go_wp2
        go_roundw
        case rel => exact ⟨k + 1, by omega, by go_num, hbl.drew⟩
        case measure => simp [intOf]; omega
    · go_wp2
      go_ret
      exact ⟨rfl, hbl⟩

theorem sameInts_any (ao bo : Option Addr) (n c d : Nat) (l : List Int) (w : World) (h1 : IntsAt w ao l) (h2 : IntsAt w bo l) (hn : l.length = n) (hm : n ≤ 9223372036854775807) :
    Calls Tryz.prog 139 #[.slice ao n c, .slice bo n d] w fun e w' => e = .returned (.bool true) ∧ Below w.heap.size w w' := by
  rcases h1 with rfl | ⟨a1, o1, rfl, h1⟩
  · have h0 : n = 0 := by rw [← hn]; rfl
    subst h0
    refine (sameInts_nil ao bo c d w).mono ?_
    rintro e w' ⟨rfl, rfl⟩
    exact ⟨rfl, Below.refl _ _⟩
  · rcases h2 with rfl | ⟨a2, o2, rfl, h2⟩
    · have h0 : n = 0 := by rw [← hn]; rfl
      subst h0
      refine (sameInts_nil _ _ c d w).mono ?_
      rintro e w' ⟨rfl, rfl⟩
      exact ⟨rfl, Below.refl _ _⟩
    · exact sameInts_row a1 o1 a2 o2 n c d l w h1 h2 hn hm

end Go.Proofs.YtffgpepngcnjeaaGreat
