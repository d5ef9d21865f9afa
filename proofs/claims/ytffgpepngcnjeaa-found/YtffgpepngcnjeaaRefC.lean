import Derived.Test.YtffgpepngcnjeaaRefB
namespace Go.Proofs.Ytffgpepngcnjeaa
open Go.RowKit

theorem own3 (w : World) (base : Nat) (a b c : Int) (hb : base ≤ w.heap.size) : OwnInts (w.alloc (.cells #[.int .i64 a, .int .i64 b, .int .i64 c] 3)) base (.slice (some ⟨w.heap.size, 0, none⟩) 3 3) [a, b, c] := by
  refine ⟨rfl, Or.inr ⟨w.heap.size, 3, #[.int .i64 a, .int .i64 b, .int .i64 c], rfl, hb, ?_, Nat.le_refl _, by unfold maxLen; omega, rfl, rfl⟩⟩
  show (w.heap.push _)[w.heap.size]? = _
  rw [Array.getElem?_push_size]

theorem dig0 (id : Int) : id % 512 / 64 = Mk.d0 id := by unfold Mk.d0; omega
theorem dig1 (id : Int) : id % 64 / 8 = Mk.d1 id := by unfold Mk.d1; omega

theorem dg_list (id : Int) : ([id % 512 / 64, id % 64 / 8, id % 8] ++ [(21 - id % 512 / 64 - id % 64 / 8 - id % 8) / 8]) ++ [(21 - id % 512 / 64 - id % 64 / 8 - id % 8) % 8] = dgL id := by
  unfold dgL Mk.dg Mk.lk
  rw [dig0, dig1]
  rfl

theorem own_lower {w : World} {base B : Nat} {v : Value} {l : List Int} (h : OwnInts w base v l) (hB : B ≤ base) : OwnInts w B v l := by
  obtain ⟨h1, h | ⟨g, cap, cur, rfl, hbg, hg⟩⟩ := h
  · exact ⟨h1, Or.inl h⟩
  · exact ⟨h1, Or.inr ⟨g, cap, cur, rfl, Nat.le_trans hB hbg, hg⟩⟩
theorem le_one (w : World) (o : Obj) : w.heap.size ≤ (w.alloc o).heap.size := by rw [World.size_alloc]; omega
theorem le_two (w : World) (o p : Obj) : w.heap.size ≤ ((w.alloc o).alloc p).drew.heap.size := by rw [World.size_drew, World.size_alloc, World.size_alloc]; omega
theorem cell_two (w : World) (o : Obj) (v : Value) : ((w.alloc o).alloc (.cells #[v] 3)).drew.cell? ⟨w.heap.size + 1, 0, none⟩ = some v := by
  rw [World.cell?_drew, World.cell?_alloc_at _ _ _ _ (by rw [World.size_alloc])]
  rfl
theorem hsz1 {w w1 : World} {B : Nat} {o p : Obj} (h : w.heap.size = B) (hl : Below B ((w.alloc o).alloc p).drew w1) : B ≤ w1.heap.size := by
  have := hl.size
  rw [World.size_drew, World.size_alloc, World.size_alloc] at this
  omega

set_option maxRecDepth 100000 in
set_option maxHeartbeats 1000000 in
theorem rDigits_any (id : Int) (w : World) (h0 : 0 ≤ id) (h1 : id < 99991) :
    Calls Try.prog 105 #[.int .i64 id] w fun e w' => ∃ v, e = .returned v ∧ OwnInts w' w.heap.size v (dgL id) ∧ Below w.heap.size w w' := by
  have g1 : IntKind.i64.wrap (21 - id % 512 / 64) = 21 - id % 512 / 64 := IntWalk.i64_in _ ⟨by omega, by omega⟩
  have g2 : IntKind.i64.wrap (21 - id % 512 / 64 - id % 64 / 8) = 21 - id % 512 / 64 - id % 64 / 8 := IntWalk.i64_in _ ⟨by omega, by omega⟩
  have g3 : IntKind.i64.wrap (21 - id % 512 / 64 - id % 64 / 8 - id % 8) = 21 - id % 512 / 64 - id % 64 / 8 - id % 8 := IntWalk.i64_in _ ⟨by omega, by omega⟩
  go_enter Try.func105, Try.ntmps105
  go_wp2
  go_region
  all_goals clear g1 g2 g3
  have H1 : Hid _ := dg_list id
  have b0 : 0 ≤ id % 512 / 64 ∧ id % 512 / 64 ≤ 7 := by omega
  have b1 : 0 ≤ id % 64 / 8 ∧ id % 64 / 8 ≤ 7 := by omega
  have b2 : 0 ≤ id % 8 ∧ id % 8 ≤ 7 := by omega
  generalize id % 512 / 64 = x0 at *
  generalize id % 64 / 8 = x1 at *
  generalize id % 8 = x2 at *
  have ho := own3 w w.heap.size x0 x1 x2 (Nat.le_refl _)
  have hl : Below w.heap.size w (w.alloc (.cells #[.int .i64 x0, .int .i64 x1, .int .i64 x2] 3)) := (Below.refl _ _).alloc (Nat.le_refl _) _
  go_wp2_with (first | (at_builtin; refine wpList_app1g _ rfl (.tmp 26) (.tmp 29) rfl w.heap.size (w.heap.size + 1) 1 (.slice (some ⟨w.heap.size, 0, none⟩) 3 3) [x0, x1, x2] ((21 - x0 - x1 - x2) / 8) ?_ ?_ ?_ ?_ ?_ ?_ ?_; rfl; rfl; exact (ho.alloc _).drew; exact cell_two _ _ _; exact le_two _ _ _; exact (by decide : 3 ≤ 1000000); intro v1 w1 ho1 hl1; have hs1 : w.heap.size ≤ w1.heap.size := hsz1 rfl hl1) | (at_builtin; refine wpList_app1g _ rfl (.tmp 31) (.tmp 34) rfl w.heap.size w1.heap.size 1 v1 ([x0, x1, x2] ++ [(21 - x0 - x1 - x2) / 8]) ((21 - x0 - x1 - x2) % 8) ?_ ?_ ?_ ?_ ?_ ?_ ?_; rfl; rfl; exact ho1.alloc _; exact World.cell?_alloc_new _ _ _ _; exact Nat.le_trans hs1 (le_one _ _); exact (by decide : 4 ≤ 1000000); intro v2 w2 ho2 hl2))
  go_ret
  refine ⟨_, rfl, ?_, ?_⟩
  · rw [H1.out] at ho2
    exact ho2
  · exact (((((hl.alloc (le_one _ _) _).drew).trans hl1).alloc hs1 _).trans hl2)

theorem sealL_eq (s b i id : Int) : (List.range 5).map (fun j => Mk.tnN (Mk.sec s b i j) (Mk.dg id j).toNat) = Mk.sealL s b i id := rfl

set_option maxRecDepth 100000 in
set_option maxHeartbeats 1000000 in
theorem sealed_any (s b i id : Int) (w : World) (hk : Mk.isK s b i = true) (hm : Mk.isM id = true) :
    Calls Try.prog 66 #[.int .i64 s, .int .i64 b, .int .i64 i, .int .i64 id] w fun e w' => ∃ v, e = .returned v ∧ OwnInts w' w.heap.size v (Mk.sealL s b i id) ∧ Below w.heap.size w w' := by
  have hm' := (Mk.isM_iff id).1 hm
  go_enter Try.func66, Try.ntmps66
  go_wp2_with fail
  refine (rDigits_any _ _ hm'.1 hm'.2).mono ?_
  rintro e w1 ⟨vd, rfl, hd, hb1⟩
  obtain ⟨ad, cd, rfl, hat, _⟩ := hd.slice
  obtain ⟨bd, od, rfl, hrow⟩ : ∃ b off, ad = some ⟨b, off, none⟩ ∧ Row w1 b off (dgL id) := by
    rcases hat with h | h
    · simp [dgL] at h
    · exact h
  have hbd := hrow.lt (by simp [dgL])
  have hs1 := hb1.size
  rw [show (dgL id).length = 5 from rfl]
  clear hd hat
  go_wp2
  go_loopw [10, 11] (fun v j wr => ∃ k : Nat, k ≤ 5 ∧ j = .int .i64 k ∧ OwnInts wr w1.heap.size v ((List.range k).map fun j => Mk.tnN (Mk.sec s b i j) (Mk.dg id j).toNat) ∧ Below w1.heap.size w1 wr) (fun _ j _ => 5 - (intOf j).toNat)
  case atStart => exact ⟨0, by omega, rfl, OwnInts.nil _ _, Below.refl _ _⟩
  case round =>
    obtain ⟨k, hk5, rfl, hown, hbl⟩ := hrel
    have hsz := hbl.size
    by_cases hlt : k < 5
    · have bs := Mk.sec_bd s b i k
      have bg := Mk.dg_bd id k
      have ek : ((k : Int)).toNat = k := Int.toNat_natCast k
      go_wp2_with fail
      refine (secret_any _ _ _ _ _ hk (by omega) (by omega)).mono ?_
      rintro e w2 ⟨rfl, hb2⟩
      rw [ek]
      clear ek
      have hown2 := hown.grown hb2
      have hbl2 := hbl.trans (hb2.mono hsz)
      have hsz2 := hbl2.size
      have c1 : w2.cell? ⟨bd, od + k, none⟩ = some (.int .i64 (Mk.dg id k)) := by
        have := (hrow.below hbl2 hbd) k (by simpa [dgL] using hlt); rw [dgL_at id k hlt] at this; exact this
      clear hown hbl hb2
      go_wp2_with (first | (go_at_call 102; refine (turned_any _ _ _ (by omega) (by omega) (by omega) (by omega)).mono ?_; rintro e w' ⟨rfl, rfl⟩) | (at_builtin; refine wpList_app1 w2 rfl _ _ rfl w1.heap.size _ _ _ (by rfl) (by rfl) hown2 hsz2 (by rw [range_len]; omega) ?_; intro v' w3 hown3 hb3))
      go_roundw
      case rel => exact ⟨k + 1, by omega, by go_num, by rw [← range_snoc]; exact hown3, hbl2.trans hb3⟩
      case measure => simp [intOf]; omega
    · have hk : k = 5 := by omega
      subst hk
      go_wp2
      go_ret
      refine ⟨_, rfl, ?_, hb1.trans (hbl.mono hs1)⟩
      rw [sealL_eq] at hown
      exact own_lower hown hs1

end Go.Proofs.Ytffgpepngcnjeaa
