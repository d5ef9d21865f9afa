/-
  A purse's Connect and Disconnect.
-/
import Derived.Test.YtffgpepngcnjeaaChZ
import Derived.Test.YtffgpepngcnjeaaLookA
namespace Go.Proofs.Ytffgpepngcnjeaa
open Go.RowKit
variable {Ex : List (Nat × Value)}

set_option maxRecDepth 100000 in
set_option maxHeartbeats 1000000 in
theorem chDis_any (b o : Nat) (v : Value) (h : Int) (xs : List Cel) (w : World) (hc : ChOwn Ex w b o v h xs) (hl : xs.length ≤ 20000) (hh : 0 < h) (hh2 : h ≤ 100) :
    Calls Try.prog 81 #[.pointer (some ⟨b, o, none⟩)] w fun e w' => e = .returned (.int .i64 0) ∧ ∃ v', ChOwn Ex w' b o v' (h - 1) (tbZ (h - 1) xs) ∧ ChStep b v v' w w' := by
  have c1 := hc.c1
  have f1 := hc.f1
  have HC : Hid (ChOwn Ex (w.setCell ⟨b, o + 1, none⟩ (.int .i64 (h - 1))) b o v (h - 1) xs) := hc.hgt (h - 1)
  have HL : Hid (xs.length ≤ 20000) := hl
  clear hc hl
  have hw1 : IntKind.i64.wrap (h - 1) = h - 1 := IntWalk.i64_in _ ⟨by omega, by omega⟩
  have hd : decide (h ≤ 0) = false := by rw [decide_eq_false_iff_not]; omega
  go_enter Try.func81, Try.ntmps81
  go_wp2_with fail
  refine (takeBack_any b o v (h - 1) xs _ HC.out HL.out).mono ?_
  rintro e w6 ⟨rfl, v6, hch6, hst6⟩
  have hst0 : ChStep b v v w (w.setCell ⟨b, o + 1, none⟩ (.int .i64 (h - 1))) := ⟨(Fr.refl _ w).set b (o + 1) _ (fun _ => Or.inl rfl), fun _ hk => Or.inl hk⟩
  have hst := hst0.trans hst6
  clear hst0 hst6
  go_wp2
  go_ret
  exact ⟨rfl, v6, hch6, hst⟩

/-- a purse in block P -/
abbrev PAt (w : World) (P : Nat) (s : Int) (g : Nat) (v : Value) (h : Int) (xs : List Cel) : Prop := ChOwn [(0, .int .i64 s), (1, .int .i64 (g : Int)), (4, .slice none 0 0), (5, .slice none 0 0), (6, .int .i64 0), (7, .int .i64 0)] w P 2 v h xs

theorem pat_c0 {w : World} {P : Nat} {s : Int} {g : Nat} {v : Value} {h : Int} {xs : List Cel} (hp : PAt w P s g v h xs) : w.cell? ⟨P, 0, none⟩ = some (.int .i64 s) := (hp.ext (0, .int .i64 s) (by simp)).2.2
theorem pat_c1 {w : World} {P : Nat} {s : Int} {g : Nat} {v : Value} {h : Int} {xs : List Cel} (hp : PAt w P s g v h xs) : w.cell? ⟨P, 1, none⟩ = some (.int .i64 (g : Int)) := (hp.ext (1, .int .i64 (g : Int)) (by simp)).2.2
theorem pat_row {w : World} {P : Nat} {s : Int} {g : Nat} {v : Value} {h : Int} {xs : List Cel} (hp : PAt w P s g v h xs) : PurseRow w P s g v h := by
  intro j hj
  match j, hj with
  | 0, _ => exact pat_c0 hp
  | 1, _ => exact pat_c1 hp
  | 2, _ => exact hp.c0
  | 3, _ => exact hp.c1
  | 4, _ => exact (hp.ext (4, .slice none 0 0) (by simp)).2.2
  | 5, _ => exact (hp.ext (5, .slice none 0 0) (by simp)).2.2
  | 6, _ => exact (hp.ext (6, .int .i64 0) (by simp)).2.2
  | 7, _ => exact (hp.ext (7, .int .i64 0) (by simp)).2.2

set_option maxRecDepth 100000 in
set_option maxHeartbeats 400000 in
theorem pConnect_any (P : Nat) (s : Int) (g : Nat) (v : Value) (h : Int) (xs : List Cel) (N : Nat → Prop) (ao : Option Addr) (n c : Nat) (bl : List TxD) (w : World)
    (hp : PAt w P s g v h xs) (hl : xs.length ≤ 5000) (hv : Vals xs) (hh : 0 ≤ h ∧ h ≤ 100) (hb : BlkAt N w ao bl) (hn : bl.length = n) (hN : ∀ k, N k → k < w.heap.size ∧ ¬ chE P v k) (hn2 : n ≤ 9223372036854775807) :
    Calls Try.prog 41 #[.pointer (some ⟨P, 0, none⟩), .slice ao n c] w fun e w' => e = .returned (.tuple #[.int .i64 (connZ h xs bl).1, .int .i64 (connZ h xs bl).2.1]) ∧ ∃ v', PAt w' P s g v' (connZ h xs bl).2.2.1 (connZ h xs bl).2.2.2 ∧ ChStep P v v' w w' := by
  go_enter Try.func41, Try.ntmps41
  go_wp2_with fail
  refine (connect_any P 2 v h xs N ao n c bl _ hp hl hv hh hb hn hN hn2).mono ?_
  rintro e w1 ⟨rfl, v', h1, h2⟩
  go_wp2
  go_ret2
  exact ⟨rfl, v', h1, h2⟩

set_option maxRecDepth 100000 in
set_option maxHeartbeats 400000 in
theorem pDis_any (P : Nat) (s : Int) (g : Nat) (v : Value) (h : Int) (xs : List Cel) (w : World) (hp : PAt w P s g v h xs) (hl : xs.length ≤ 20000) (hh : 0 < h) (hh2 : h ≤ 100) :
    Calls Try.prog 34 #[.pointer (some ⟨P, 0, none⟩)] w fun e w' => e = .returned (.int .i64 0) ∧ ∃ v', PAt w' P s g v' (h - 1) (tbZ (h - 1) xs) ∧ ChStep P v v' w w' := by
  go_enter Try.func34, Try.ntmps34
  go_wp2_with fail
  refine (chDis_any P 2 v h xs _ hp hl hh hh2).mono ?_
  rintro e w1 ⟨rfl, v', h1, h2⟩
  go_wp2
  go_ret
  exact ⟨rfl, v', h1, h2⟩

theorem pLooked_any (P : Nat) (s : Int) (g : Nat) (v : Value) (h : Int) (xs : List Cel) (w : World) (hs : Mk.isM s = true) (hg : 1 ≤ g) (hg2 : g ≤ 20) (hp : PAt w P s g v h xs) (hl : xs.length ≤ 5000) (hv : Vals xs) :
    Calls Try.prog 39 #[.pointer (some ⟨P, 0, none⟩)] w fun e w' => ∃ ac cc, e = .returned (.agg #[.int .i64 h, .int .i64 (winZ xs s g 0), .int .i64 (winZ xs s g 1), .int .i64 (sumC (ownOf xs s g)), .int .i64 (sumC (ownOf xs s g)), .slice ac (ownOf xs s g).length cc]) ∧ OwnRec CoinD.l 143 6 w' w.heap.size (.slice ac (ownOf xs s g).length cc) (ownOf xs s g) ∧ Below w.heap.size w w' := by
  obtain ⟨ao, c, rfl, hat⟩ := hp.at
  exact looked_any P s g ao xs.length c h xs w hs hg hg2 (pat_row hp) hat rfl (by omega) hv

end Go.Proofs.Ytffgpepngcnjeaa
