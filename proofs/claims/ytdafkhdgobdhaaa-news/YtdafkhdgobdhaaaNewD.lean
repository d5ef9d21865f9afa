/-
  What a purse with an empty chain shows; News.
-/
import Derived.Test.YtdafkhdgobdhaaaNewC
namespace Go.Proofs.Ytdafkhdgobdhaaa
open Go.RowKit

set_option maxRecDepth 100000 in
set_option maxHeartbeats 1000000 in
theorem wCoins_nil (b o : Nat) (s : Int) (g : Nat) (w : World) (hs : Mk.isM s = true) (hg : 1 ≤ g) (hg2 : g ≤ 20) (hp : w.cell? ⟨b, o, none⟩ = some (.slice none 0 0)) :
    Calls Try.prog 70 #[.pointer (some ⟨b, o, none⟩), .int .i64 s, .int .i64 g] w fun e w' => e = .returned (.slice none 0 0) ∧ Below w.heap.size w w' := by
  have HP : Hid (w.cell? ⟨b, o, none⟩ = some (.slice none 0 0)) := hp
  clear hp
  have hlt := cell_lt HP.out
  go_enter Try.func70, Try.ntmps70
  go_wp2_with fail
  refine (keys_any b o none 0 0 [] s g _ hs hg hg2 HP.out (Or.inl rfl) rfl (by omega)).mono ?_
  rintro e w1 ⟨v, rfl, _, hb1⟩
  have hsz := hb1.size
  have hb2 := hb1.alloc hsz (.cells #[.slice none 0 0] 143)
  have HP2 : Hid ((w1.alloc (.cells #[.slice none 0 0] 143)).cell? ⟨b, o, none⟩ = some (.slice none 0 0)) := (hb2.cell (p := ⟨b, o, none⟩) hlt).trans HP.out
  go_wp2_with fail
  refine (chCoins_any b o none 0 0 [] _ HP2.out (Or.inl rfl) rfl (by omega)).mono ?_
  rintro e w2 ⟨u, rfl, hown, hb3⟩
  obtain ⟨au, cu, rfl, _⟩ := OwnRec.at coinC4 hown
  have hnew : w2.cell? ⟨w1.heap.size, 0, none⟩ = some (.slice none 0 0) := (hb3.cell (p := ⟨w1.heap.size, 0, none⟩) (by simp)).trans (by rw [World.cell?_alloc_new]; rfl)
  have hb4 := below_blk hb2 hb3
  have e0 : (coinsC []).length = 0 := rfl
  rw [e0]
  go_wp2
  refine wp_loop_rounds 1 ?_
  rw [rounds_succ]
  go_wp2
  go_ret
  exact ⟨rfl, hb4⟩

set_option maxRecDepth 100000 in
set_option maxHeartbeats 1000000 in
theorem pCoins_nil (P : Nat) (s : Int) (g : Nat) (h : Int) (w : World) (hs : Mk.isM s = true) (hg : 1 ≤ g) (hg2 : g ≤ 20) (hp : PurseRow w P s g (.slice none 0 0) h) :
    Calls Try.prog 31 #[.pointer (some ⟨P, 0, none⟩)] w fun e w' => e = .returned (.slice none 0 0) ∧ Below w.heap.size w w' := by
  have c0 := hp.c0
  have c1 := hp.c1
  have hc2 : w.drew.cell? ⟨P, 2, none⟩ = some (.slice none 0 0) := hp.c2
  have HC : Hid (w.drew.cell? ⟨P, 2, none⟩ = some (.slice none 0 0)) := hc2
  clear hp hc2
  go_enter Try.func31, Try.ntmps31
  go_wp2
  go_region_held3 (fun w' => w'.cell? ⟨P, 0, none⟩ = some (.int .i64 s) ∧ w'.cell? ⟨P, 1, none⟩ = some (.int .i64 g)) (first | go_keep | exact keepP (w' := w.drew) c0 c1 rfl (by assumption)) ((go_at_call 70; refine (wCoins_nil P 2 s g w.drew hs hg hg2 HC.out).mono ?_; rintro e w1 ⟨rfl, hb1⟩))
  go_wp2
  go_ret
  exact ⟨rfl, ((Below.refl w.heap.size w).drew).trans hb1⟩

set_option maxRecDepth 100000 in
set_option maxHeartbeats 1000000 in
theorem pBalance_nil (P : Nat) (s : Int) (g : Nat) (h : Int) (w : World) (hs : Mk.isM s = true) (hg : 1 ≤ g) (hg2 : g ≤ 20) (hp : PurseRow w P s g (.slice none 0 0) h) :
    Calls Try.prog 32 #[.pointer (some ⟨P, 0, none⟩)] w fun e w' => e = .returned (.tuple #[.int .i64 0, .int .i64 0]) ∧ Below w.heap.size w w' := by
  go_enter Try.func32, Try.ntmps32
  go_wp2_with (go_at_call 31; refine (pCoins_nil P s g h _ hs hg hg2 hp).mono ?_; rintro e w1 ⟨rfl, hb1⟩)
  refine wp_loop_rounds 1 ?_
  rw [rounds_succ]
  go_wp2
  go_ret2
  exact ⟨rfl, hb1⟩

set_option maxHeartbeats 400000 in
theorem chDis_none (b o : Nat) (w : World) (hp : w.cell? ⟨b, o + 1, none⟩ = some (.int .i64 0)) :
    Calls Try.prog 71 #[.pointer (some ⟨b, o, none⟩)] w fun e w' => e = .returned (.int .i64 8) ∧ w = w' := by
  go_enter Try.func71, Try.ntmps71
  go_wp2
  go_ret
  exact ⟨rfl, rfl⟩

set_option maxHeartbeats 400000 in
theorem pDis_none (P : Nat) (s g : Int) (v : Value) (w : World) (hp : PurseRow w P s g v 0) :
    Calls Try.prog 33 #[.pointer (some ⟨P, 0, none⟩)] w fun e w' => e = .returned (.int .i64 8) ∧ w = w' := by
  go_enter Try.func33, Try.ntmps33
  go_wp2_with (go_at_call 71; refine (chDis_none P 2 _ hp.c3).mono ?_; rintro e w' ⟨rfl, rfl⟩)
  go_ret
  exact ⟨rfl, rfl⟩

end Go.Proofs.Ytdafkhdgobdhaaa
