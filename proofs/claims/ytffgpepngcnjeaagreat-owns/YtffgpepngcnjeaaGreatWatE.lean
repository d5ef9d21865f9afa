/-
  The window of the program and the document's: the least that is wide enough.
  The game of Watches.
-/
import Derived.Test.YtffgpepngcnjeaaGreatRfX
import Derived.Test.YtffgpepngcnjeaaGreatGmY
namespace Go.Proofs.YtffgpepngcnjeaaGreat
open Go.RowKit

def Wide (hit : Nat → Bool) (g x : Nat) : Prop := ∀ i, i < x → hit i = true → i + 1 + g ≤ x

theorem wgo_spec (hit : Nat → Bool) (g : Nat) (hg : g ≤ 100) : ∀ (f i v : Nat), f + i = 101 → i ≤ v → v ≤ 100 → g ≤ v → (∀ j, j < i → hit j = true → min 100 (j + 1 + g) ≤ v) → (∀ x, g ≤ x → x < 100 → Wide hit g x → v ≤ x) →
    g ≤ wgo hit g f i v ∧ wgo hit g f i v ≤ 100 ∧ (wgo hit g f i v < 100 → Wide hit g (wgo hit g f i v)) ∧ (∀ x, g ≤ x → x < 100 → Wide hit g x → wgo hit g f i v ≤ x) := by
  intro f
  induction f with
  | zero => intro i v h1 h2 h3; omega
  | succ f ih =>
    intro i v h1 h2 h3 h4 h5 h6
    rw [wgo]
    by_cases hlt : i < v
    · rw [if_pos hlt]
      cases hh : hit i
      · rw [if_neg (by simp)]
        exact ih (i + 1) v (by omega) (by omega) h3 h4 (fun j hj hj2 => by
          by_cases e : j = i
          · subst e; rw [hh] at hj2; cases hj2
          · exact h5 j (by omega) hj2) h6
      · rw [if_pos rfl]
        have hv : v ≤ min 100 (i + 1 + g) ∨ min 100 (i + 1 + g) < v := by omega
        refine ih (i + 1) (min 100 (i + 1 + g)) (by omega) (by omega) (by omega) (by omega) (fun j hj hj2 => by omega) (fun x hx1 hx2 hx3 => ?_)
        have := h6 x hx1 hx2 hx3
        have := hx3 i (by omega) hh
        omega
    · rw [if_neg hlt]
      refine ⟨h4, h3, fun hv i' hi' hh => ?_, h6⟩
      have := h5 i' (by omega) hh
      omega

theorem wideB_iff (bs : List Bool) (g x : Nat) : wideB bs g x = true ↔ Wide (fun i => bs.getD i false) g x := by
  unfold wideB Wide
  rw [List.all_eq_true]
  constructor
  · intro h i hi hb
    have hb : bs.getD i false = true := hb
    have := h i (List.mem_range.2 hi)
    rw [hb] at this
    simp at this
    omega
  · intro h i hi
    have hi := List.mem_range.1 hi
    cases hb : bs.getD i false
    · rfl
    · have := h i hi hb
      simp
      omega
theorem wfind_spec (bs : List Bool) (g : Nat) : ∀ (f x : Nat), f + x = 100 → (wfind bs g f x = 100 ∧ ∀ y, x ≤ y → y < 100 → ¬ wideB bs g y = true) ∨ (x ≤ wfind bs g f x ∧ wfind bs g f x < 100 ∧ wideB bs g (wfind bs g f x) = true ∧ ∀ y, x ≤ y → y < wfind bs g f x → ¬ wideB bs g y = true) := by
  intro f
  induction f with
  | zero => intro x hx; left; exact ⟨rfl, fun y h1 h2 => by omega⟩
  | succ f ih =>
    intro x hx
    rw [wfind]
    by_cases hw : wideB bs g x = true
    · rw [if_pos hw]
      right
      exact ⟨Nat.le_refl _, by omega, hw, fun y h1 h2 => by omega⟩
    · rw [if_neg hw]
      rcases ih (x + 1) (by omega) with ⟨h1, h2⟩ | ⟨h1, h2, h3, h4⟩
      · left
        refine ⟨h1, fun y hy1 hy2 => ?_⟩
        by_cases e : y = x
        · rw [e]; exact hw
        · exact h2 y (by omega) hy2
      · right
        refine ⟨by omega, h2, h3, fun y hy1 hy2 => ?_⟩
        by_cases e : y = x
        · rw [e]; exact hw
        · exact h4 y (by omega) hy2

theorem win_sync (xs : List Cel) (s : Int) (g : Nat) (br : Int) (hg : g ≤ 20) : winR (xs.map toR) s g br = winZ xs s g br := by
  have hhit : ∀ i, i < 100 → (hitsR (xs.map toR) (adrs s br 100)).getD i false = hitAt xs s br i := by
    intro i hi
    unfold hitsR
    have e : ((adrs s br 100).map (hitR (xs.map toR))).getD i false = hitR (xs.map toR) (Mk.adr s br i) := by
      simp [adrs, List.getD, hi]
    rw [e]
    unfold hitR hitAt paidTo
    rw [List.any_map]
    rfl
  have hwd : ∀ x, x ≤ 100 → (wideB (hitsR (xs.map toR) (adrs s br 100)) g x = true ↔ Wide (hitAt xs s br) g x) := by
    intro x hx
    rw [wideB_iff]
    constructor
    · intro h i hi hh
      exact h i hi (by show (hitsR (xs.map toR) (adrs s br 100)).getD i false = true; rw [hhit i (by omega)]; exact hh)
    · intro h i hi hh
      exact h i hi (by rw [← hhit i (by omega)]; exact hh)
  unfold winR winZ
  rw [show min 100 g = g by omega]
  obtain ⟨w1, w2, w3, w4⟩ := wgo_spec (hitAt xs s br) g (by omega) 101 0 g rfl (by omega) (by omega) (Nat.le_refl _) (fun j hj => by omega) (fun x hx _ _ => hx)
  generalize wgo (hitAt xs s br) g 101 0 g = V at *
  rcases wfind_spec (hitsR (xs.map toR) (adrs s br 100)) g (100 - g) g (by omega) with ⟨h1, h2⟩ | ⟨h1, h2, h3, h4⟩
  · rw [h1]
    by_cases e : V < 100
    · exact absurd ((hwd V w2).2 (w3 e)) (h2 V w1 e)
    · omega
  · generalize wfind (hitsR (xs.map toR) (adrs s br 100)) g (100 - g) g = F at *
    have hv : V ≤ F := w4 F h1 h2 ((hwd F (by omega)).1 h3)
    by_cases e : V < F
    · exact absurd ((hwd V w2).2 (w3 (by omega))) (h4 V w1 e)
    · omega

end Go.Proofs.YtffgpepngcnjeaaGreat
namespace Go.Proofs.YtffgpepngcnjeaaGreat
open Go.RowKit

variable {N X : Nat → Prop} {E DE : List (Nat × Value)} {G P D : Nat} {V : Value} {s : Int} {g : Nat} {v : Value} {ao : Option Addr} {c : Nat} {bls : List (List TxD)} {xs : List Cel}

set_option maxRecDepth 100000 in
set_option maxHeartbeats 1000000 in
theorem windows_any (ar : Option Addr) (cr : Nat) (ac : Option Addr) (cc : Nat) (w : World) (hg : GI N X E DE G P D V s g v ao c bls xs w) (hf : fitZ s (g : Int) = true) (ha : DAd w D s g ar cr ac cc) :
    Calls Tryz.prog 23 #[.pointer (some ⟨G, 0, none⟩)] w fun e w' => e = .returned (.bool true) ∧ Below w.heap.size w w' := by
  obtain ⟨hs, h1, h2⟩ := fitZ_yes hf
  have g0 := hg.g0
  have g1 := hg.g1
  obtain ⟨av, cv, rfl, hat⟩ := hg.pu.at
  have HP : Hid (PurseRow w P s g (.slice av xs.length cv) (bls.length : Nat)) := pat_row hg.pu
  have HAT : Hid (CelsAt w av xs) := hat
  have hlk := hg.lk.here
  have h40 := hg.lk.len
  have HD : Hid (DCh N w D ao c bls) := hg.dc
  have HA : Hid (DAd w D s g ar cr ac cc) := ha
  have HGO : Hid (Good bls) := hg.lk.good
  have HW0 : Hid (winR (cellsR bls) s g 0 = winZ xs s g 0) := by show _ = _; rw [← hlk.1]; exact win_sync xs s g 0 (by omega)
  have HW1 : Hid (winR (cellsR bls) s g 1 = winZ xs s g 1) := by show _ = _; rw [← hlk.1]; exact win_sync xs s g 1 (by omega)
  have hxl : xs.length ≤ 1000000 := by have := hlk.2.2.2; omega
  have hGl : G < w.heap.size := cell_lt g0
  have hg1 : 1 ≤ g := by omega
  have hg2 : g ≤ 20 := by omega
  clear hg hat hlk ha hf h1 h2
  go_enter Tryz.func23, Tryz.ntmps23
  go_wp2_with fail
  refine (pWindows_any P s g av xs.length cv (bls.length : Nat) xs _ hs hg1 hg2 HP.out HAT.out rfl hxl).mono ?_
  rintro e w1 ⟨rfl, hb1⟩
  have g1' := (hb1.cell (p := ⟨G, 1, none⟩) hGl).trans g1
  have HD1 : Hid (DCh N w1 D ao c bls) := HD.out.fr (Fr.of_below hb1 (fun _ => False)) (fun _ _ h => h) (fun _ _ h => h) (fun h => h)
  have HA1 : Hid (DAd w1 D s g ar cr ac cc) := HA.out.grown hb1
  clear g0 g1 HP HAT HD HA
  go_wp2_with fail
  refine (rWindows_any N D ao c bls s g ar cr ac cc _ HD1.out HGO.out h40 HA1.out hg2).mono ?_
  rintro e w2 ⟨rfl, hb2⟩
  rw [HW0.out, HW1.out]
  have hb02 := below_blk hb1 hb2
  generalize winZ xs s g 0 = a at *
  generalize winZ xs s g 1 = b at *
  go_wp2
  go_ret
  exact ⟨ret_bool (by simp), hb02⟩

set_option maxRecDepth 100000 in
set_option maxHeartbeats 1000000 in
theorem stepW_any (o : OpD) (ar : Option Addr) (cr : Nat) (ac : Option Addr) (cc : Nat) (w : World) (hk : o.kd = 7) (hg : GI N X E DE G P D V s g v ao c bls xs w) (hf : fitZ s (g : Int) = true) (ha : DAd w D s g ar cr ac cc) :
    Calls Tryz.prog 9 #[.pointer (some ⟨G, 0, none⟩), o.val] w fun e w' => e = .returned (.bool true) ∧ Below w.heap.size w w' := by
  obtain ⟨kd, on, oa1, ob1, ab, m, d, bl, oa, om, od⟩ := o
  simp only at hk
  subst hk
  have hb1 : Below w.heap.size w (w.alloc (.cells #[.int .i64 7, .int .i64 on, .int .i64 oa1, .int .i64 ob1, .slice ab m d, .slice oa om od] 33)) := (Below.refl _ _).alloc (Nat.le_refl _) _
  have HG1 : Hid (GI N X E DE G P D V s g v ao c bls xs (w.alloc (.cells #[.int .i64 7, .int .i64 on, .int .i64 oa1, .int .i64 ob1, .slice ab m d, .slice oa om od] 33))) := hg.grown hb1
  have HA1 : Hid (DAd (w.alloc (.cells #[.int .i64 7, .int .i64 on, .int .i64 oa1, .int .i64 ob1, .slice ab m d, .slice oa om od] 33)) D s g ar cr ac cc) := ha.grown hb1
  clear hg ha
  go_enter Tryz.func9, Tryz.ntmps9
  go_wp2_with fail
  refine (windows_any ar cr ac cc _ HG1.out hf HA1.out).mono ?_
  rintro e w2 ⟨rfl, hb2⟩
  go_wp2
  go_ret
  exact ⟨rfl, below_blk hb1 hb2⟩

/-- the addresses' rows: apart from the purse and from D -/
structure AdX (X : Nat → Prop) (D : Nat) (ar ac : Option Addr) : Prop where
  r : ∀ a, ar = some a → X a.block ∧ a.block ≠ D
  c : ∀ a, ac = some a → X a.block ∧ a.block ≠ D

def WInvG (s : Int) (g : Nat) (G B : Nat) (w : World) : Prop :=
  ∃ (X : Nat → Prop) (D : Nat) (V v : Value) (ao : Option Addr) (c : Nat) (bls : List (List TxD)) (xs : List Cel) (ar : Option Addr) (cr : Nat) (ac : Option Addr) (cc : Nat), GI (fun k => k < B) X exE (deE s (g : Int) (.slice ar 100 cr) (.slice ac 100 cc)) G B D V s g v ao c bls xs w ∧ AdX X D ar ac ∧ IntsAt w ar (adrs s 0 100) ∧ IntsAt w ac (adrs s 1 100)

theorem GI.dad {ar : Option Addr} {cr : Nat} {ac : Option Addr} {cc : Nat} {w : World} (h : GI N X E (deE s (g : Int) (.slice ar 100 cr) (.slice ac 100 cc)) G P D V s g v ao c bls xs w) (h0 : IntsAt w ar (adrs s 0 100)) (h1 : IntsAt w ac (adrs s 1 100)) : DAd w D s g ar cr ac cc :=
  ⟨(h.de (1, .int .i64 (g : Int)) (by simp [deE])).2, (h.de (2, .slice ar 100 cr) (by simp [deE])).2, (h.de (3, .slice ac 100 cc) (by simp [deE])).2, h0, h1⟩

theorem watch_play (s : Int) (g : Nat) (hf : fitZ s (g : Int) = true) : PlayOk 2 7 7 (fun _ => WInvG s g) := by
  refine ⟨?_, fun _ _ _ _ h => h, ?_, ?_⟩
  · rintro _ G B w w' ⟨X, D, V, v, ao, c, bls, xs, ar, cr, ac, cc, h, hx, h0, h1⟩ hb
    exact ⟨X, D, V, v, ao, c, bls, xs, ar, cr, ac, cc, h.grown hb, hx, h0.grown hb, h1.grown hb⟩
  · rintro _ G B w ⟨X, D, V, v, ao, c, bls, xs, ar, cr, ac, cc, h, _⟩
    exact Nat.le_of_lt (h.ch B (Or.inl rfl))
  · rintro _ G B w o _ ⟨X, D, V, v, ao, c, bls, xs, ar, cr, ac, cc, h, hx, i0, i1⟩ ho hk
    have fin : ∀ (e : Ending) (w' : World), e = .returned (.bool true) ∧ GStep (fun k => k < B) X exE (deE s (g : Int) (.slice ar 100 cr) (.slice ac 100 cc)) G B D V s g v ao w w' → e = .returned (.bool true) ∧ WInvG s g G B w' ∧ Fr (fun k => B ≤ k) w w' := by
      rintro e w' ⟨rfl, hst⟩
      refine ⟨rfl, ?_, hst.toB h⟩
      obtain ⟨X', v', ao', c', bls', xs', q1, _, q2, q3⟩ := hst
      refine ⟨X', D, V, v', ao', c', bls', xs', ar, cr, ac, cc, q3, ⟨fun a ha => ⟨q1 _ (hx.r a ha).1, (hx.r a ha).2⟩, fun a ha => ⟨q1 _ (hx.c a ha).1, (hx.c a ha).2⟩⟩, ?_, ?_⟩
      · exact ints_fr q2 i0 (fun _ a ha e => e.elim (fun e => (h.xp _ e).1 (hx.r a ha).1) (fun e => (hx.r a ha).2 e))
      · exact ints_fr q2 i1 (fun _ a ha e => e.elim (fun e => (h.xp _ e).1 (hx.c a ha).1) (fun e => (hx.c a ha).2 e))
    by_cases h1 : o.kd < 1
    · exact (stepN_any o w h1 h).mono fin
    · by_cases h2 : o.kd = 1
      · exact (stepC_any o w h2 h ho).mono fin
      · by_cases h3 : o.kd = 2
        · exact (stepD_any o w h3 h).mono fin
        · refine (stepW_any o ar cr ac cc w (by omega) h hf (h.dad i0 i1)).mono ?_
          rintro e w' ⟨rfl, hb⟩
          exact ⟨rfl, ⟨X, D, V, v, ao, c, bls, xs, ar, cr, ac, cc, h.grown hb, hx, i0.grown hb, i1.grown hb⟩, Fr.of_below hb _⟩

theorem Game0.winv {w0 w : World} {s : Int} {g G D Dr : Nat} {vr vc : Value} (h : Game0 w0 w s g G D Dr vr vc) : WInvG s g G w0.heap.size w := by
  obtain ⟨ar, cr, rfl, i0, _⟩ := h.own0.slice
  obtain ⟨ac, cc, rfl, i1, _⟩ := h.own1.slice
  have hgi := h.gi
  rw [adrs_len, adrs_len] at hgi
  refine ⟨_, D, _, _, _, _, _, _, ar, cr, ac, cc, hgi, ⟨fun a ha => ?_, fun a ha => ?_⟩, i0, i1⟩
  · subst ha
    have h1 := h.own0.blk a.block rfl
    have h2 := h.ob.1 a.block rfl
    exact ⟨by omega, by omega⟩
  · subst ha
    have h1 := h.own1.blk a.block rfl
    have h2 := h.ob.2 a.block rfl
    exact ⟨by omega, by omega⟩

theorem watch_begin (s : Int) (g : Nat) (hf : fitZ s (g : Int) = true) (w : World) : Calls Tryz.prog 8 #[.int .i64 s, .int .i64 (g : Int)] w fun e w' => ∃ G, e = .returned (.tuple #[.pointer (some ⟨G, 0, none⟩), .bool true]) ∧ WInvG s g G w.heap.size w' ∧ Below w.heap.size w w' := by
  refine (begin_yes s g w hf).mono ?_
  rintro e w' ⟨G, D, Dr, vr, vc, rfl, h, hb⟩
  exact ⟨G, rfl, h.winv, hb⟩

set_option maxRecDepth 100000 in
set_option maxHeartbeats 1000000 in
theorem watches_law (s g : Int) (so : Option Addr) (n c : Nat) (ops : List OpD) (w : World) (hs : Scr w.heap.size w so ops) (hn : ops.length = n) (hm : n ≤ 1759218604390) :
    Calls Tryz.prog 4 #[.int .i64 s, .int .i64 g, .slice so n c] w fun e w' => e = .returned (.bool true) ∧ Below w.heap.size w w' := by
  cases hf : fitZ s g
  · go_enter Tryz.func4, Tryz.ntmps4
    go_wp2_with fail
    refine (plays_no s g 2 0 0 7 7 hf (.slice so n c) _).mono ?_
    rintro e w1 ⟨rfl, hb⟩
    go_wp2
    go_ret
    exact ⟨rfl, hb⟩
  · obtain ⟨h1, h2, h3⟩ := fitZ_yes hf
    obtain ⟨k, rfl⟩ : ∃ k : Nat, g = (k : Int) := ⟨g.toNat, by omega⟩
    have HS : Hid (Scr w.heap.size w so ops) := hs
    have HN : Hid (ops.length = n) := hn
    clear hs hn
    go_enter Tryz.func4, Tryz.ntmps4
    go_wp2_with fail
    refine (plays_yes s (k : Int) 2 0 0 7 7 (fun _ => WInvG s k) (watch_play s k hf) (watch_begin s k hf) so n c ops _ HS.out HN.out (by omega)).mono ?_
    rintro e w1 ⟨rfl, hb⟩
    go_wp2
    go_ret
    exact ⟨rfl, hb⟩

end Go.Proofs.YtffgpepngcnjeaaGreat
