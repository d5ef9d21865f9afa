/-
  Windows, Coins and Balance of a purse, whatever its payments are.
  Funds: change, full.
  Funds: fair.
-/
import Derived.Test.YtffgpepngcnjeaaMai
import Derived.Test.YtffgpepngcnjeaaMam
import Derived.Test.YtffgpepngcnjeaaMaj
namespace Go.Proofs.Ytffgpepngcnjeaa
open Go.RowKit
def PRow4 (w : World) (P : Nat) (s g : Int) (v : Value) (h : Int) : Prop := VRow w P 0 [.int .i64 s, .int .i64 g, v, .int .i64 h]
theorem PRow4.c0 {w : World} {P : Nat} {s g : Int} {v : Value} {h : Int} (hr : PRow4 w P s g v h) : w.cell? ⟨P, 0, none⟩ = some (.int .i64 s) := hr 0 (by simp)
theorem PRow4.c1 {w : World} {P : Nat} {s g : Int} {v : Value} {h : Int} (hr : PRow4 w P s g v h) : w.cell? ⟨P, 1, none⟩ = some (.int .i64 g) := hr 1 (by simp)
theorem PRow4.c2 {w : World} {P : Nat} {s g : Int} {v : Value} {h : Int} (hr : PRow4 w P s g v h) : w.cell? ⟨P, 2, none⟩ = some v := hr 2 (by simp)
theorem PRow4.c3 {w : World} {P : Nat} {s g : Int} {v : Value} {h : Int} (hr : PRow4 w P s g v h) : w.cell? ⟨P, 3, none⟩ = some (.int .i64 h) := hr 3 (by simp)
set_option maxRecDepth 100000 in
set_option maxHeartbeats 1000000 in
theorem pWindows4 (P : Nat) (s : Int) (g : Nat) (ao : Option Addr) (n c : Nat) (h : Int) (xs : List Cel) (w : World) (hs : Mk.isM s = true) (hg : 1 ≤ g) (hg2 : g ≤ 20) (hp : PRow4 w P s g (.slice ao n c) h) (hx : CelsAt w ao xs) (hn : xs.length = n) (hm : n ≤ 1000000) :
    Calls Try.prog 31 #[.pointer (some ⟨P, 0, none⟩)] w fun e w' => e = .returned (.tuple #[.int .i64 (winZ xs s g 0), .int .i64 (winZ xs s g 1)]) ∧ Below w.heap.size w w' := by
  have HN : Hid (xs.length = n) := hn
  have HX : Hid (CelsAt w ao xs) := hx
  have HP : Hid (PRow4 w P s g (.slice ao n c) h) := hp
  have c0 := hp.c0
  have c1 := hp.c1
  have hx' : ∀ w', w'.heap = w.heap → CelsAt w' ao xs := fun w' hw => RecAt.heap hx hw
  have hc2 : ∀ w' : World, w'.heap = w.heap → w'.cell? ⟨P, 2, none⟩ = some (.slice ao n c) := fun w' hw => by rw [← hp.c2]; simp [World.cell?, hw]
  have HX' : Hid (∀ w' : World, w'.heap = w.heap → CelsAt w' ao xs) := hx'
  have HC : Hid (∀ w' : World, w'.heap = w.heap → w'.cell? ⟨P, 2, none⟩ = some (.slice ao n c)) := hc2
  clear hn hx hp hx' hc2
  go_enter Try.func31, Try.ntmps31
  go_wp2
  go_region_held3 (fun w' => w'.cell? ⟨P, 0, none⟩ = some (.int .i64 s) ∧ w'.cell? ⟨P, 1, none⟩ = some (.int .i64 g)) (first | go_keep | exact keepP (w' := w.drew) c0 c1 rfl (by assumption)) ((go_at_call 77; refine (window_any P 2 ao n c xs s g 0 w.drew hs hg hg2 (Or.inl rfl) (HC.out w.drew rfl) (HX'.out w.drew rfl) HN.out hm).mono ?_; rintro e w1 ⟨rfl, hb1⟩))
  rename_i hHd
  obtain ⟨d0, d1⟩ := hHd
  have hbw : Below w.heap.size w w1 := by have h0 : Below w.heap.size w w.drew := (Below.refl _ _).drew; exact h0.trans hb1
  have HX1 : Hid (CelsAt w1.drew ao xs) := RecAt.heap (HX.out.grown hbw) rfl
  have HC1 : Hid (w1.drew.cell? ⟨P, 2, none⟩ = some (.slice ao n c)) := (hbw.cell (p := ⟨P, 2, none⟩) (cell_lt HP.out.c2)).trans HP.out.c2
  clear c0 c1 hb1
  go_wp2
  go_region_held3 (fun w' => w'.cell? ⟨P, 0, none⟩ = some (.int .i64 s) ∧ w'.cell? ⟨P, 1, none⟩ = some (.int .i64 g)) (first | go_keep | exact keepP (w' := w1.drew) d0 d1 rfl (by assumption)) ((go_at_call 77; refine (window_any P 2 ao n c xs s g 1 w1.drew hs hg hg2 (Or.inr rfl) HC1.out HX1.out HN.out hm).mono ?_; rintro e w2 ⟨rfl, hb2⟩))
  go_wp2
  go_ret2
  exact ⟨rfl, hbw.trans ((((Below.refl w1.heap.size w1).drew).trans hb2).mono hbw.size)⟩
set_option maxRecDepth 100000 in
set_option maxHeartbeats 1000000 in
theorem pCoins4 (P : Nat) (s : Int) (g : Nat) (ao : Option Addr) (n c : Nat) (h : Int) (xs : List Cel) (w : World) (hs : Mk.isM s = true) (hg : 1 ≤ g) (hg2 : g ≤ 20) (hp : PRow4 w P s g (.slice ao n c) h) (hx : CelsAt w ao xs) (hn : xs.length = n) (hm : n ≤ 10000) :
    Calls Try.prog 32 #[.pointer (some ⟨P, 0, none⟩)] w fun e w' => ∃ v, e = .returned v ∧ OwnRec CoinD.l 143 6 w' w.heap.size v (ownZ (keysZ xs s g) (coinsC xs)) ∧ Below w.heap.size w w' := by
  have c0 := hp.c0
  have c1 := hp.c1
  have hc2 : w.drew.cell? ⟨P, 2, none⟩ = some (.slice ao n c) := hp.c2
  have HC : Hid (w.drew.cell? ⟨P, 2, none⟩ = some (.slice ao n c)) := hc2
  have HX : Hid (CelsAt w.drew ao xs) := RecAt.heap hx rfl
  have HN : Hid (xs.length = n) := hn
  clear hp hc2 hx hn
  go_enter Try.func32, Try.ntmps32
  go_wp2
  go_region_held3 (fun w' => w'.cell? ⟨P, 0, none⟩ = some (.int .i64 s) ∧ w'.cell? ⟨P, 1, none⟩ = some (.int .i64 g)) (first | go_keep | exact keepP (w' := w.drew) c0 c1 rfl (by assumption)) ((go_at_call 78; refine (wCoins_any P 2 ao n c xs s g w.drew hs hg hg2 HC.out HX.out HN.out hm).mono ?_; rintro e w1 ⟨v, rfl, ho1, hb1⟩))
  go_wp2
  go_ret
  exact ⟨v, rfl, ho1, ((Below.refl w.heap.size w).drew).trans hb1⟩
set_option maxRecDepth 100000 in
set_option maxHeartbeats 2000000 in
theorem pBalance4 (N : Nat → Prop) (ps : List PayD) (ks : List (Int × Int)) (P : Nat) (s : Int) (g : Nat) (ao : Option Addr) (n c : Nat) (h : Int) (xs : List Cel) (w : World) (hs : Mk.isM s = true) (hg : 1 ≤ g) (hg2 : g ≤ 20) (hp : PRow4 w P s g (.slice ao n c) h) (hl : PayM N w P 4 ps ks) (hx : CelsAt w ao xs) (hn : xs.length = n) (hm : n ≤ 10000) (hv : ∀ x ∈ ownZ (keysZ xs s g) (coinsC xs), 0 ≤ x.val ∧ x.val ≤ 1099511627776) :
    Calls Try.prog 33 #[.pointer (some ⟨P, 0, none⟩)] w fun e w' => e = .returned (.tuple #[.int .i64 (sumC (ownZ (keysZ xs s g) (coinsC xs))), .int .i64 (sumC ((ownZ (keysZ xs s g) (coinsC xs)).filter (freeB ps ks)))]) ∧ Below w.heap.size w w' := by
  have HV : Hid (∀ x ∈ ownZ (keysZ xs s g) (coinsC xs), 0 ≤ x.val ∧ x.val ≤ 1099511627776) := hv
  have HP : Hid (PRow4 w P s g (.slice ao n c) h) := hp
  have HX : Hid (CelsAt w ao xs) := hx
  have HN : Hid (xs.length = n) := hn
  have HL4 : Hid (PayM N w P 4 ps ks) := hl
  have hl0 : (ownZ (keysZ xs s g) (coinsC xs)).length ≤ 10000 := by
    have h1 := ownZ_len (keysZ xs s g) (coinsC xs)
    have h2 := coinsC_len xs
    omega
  have HL : Hid ((ownZ (keysZ xs s g) (coinsC xs)).length ≤ 10000) := hl0
  clear hv hp hx hn hl0 hl
  go_enter Try.func33, Try.ntmps33
  go_wp2_with fail
  refine (pCoins4 P s g ao n c h xs _ hs hg hg2 HP.out HX.out HN.out hm).mono ?_
  rintro e w1 ⟨v, rfl, ho1, hb1⟩
  generalize hcs : ownZ (keysZ xs s g) (coinsC xs) = cs at *
  have HCS : Hid (ownZ (keysZ xs s g) (coinsC xs) = cs) := hcs
  clear hcs
  obtain ⟨ac, cc, rfl, hat⟩ := OwnRec.at coin6 ho1
  have HA : Hid (RecAt CoinD.l w1 ac cs) := hat
  have HL1 : Hid (PayM N w1 P 4 ps ks) := HL4.out.grown hb1
  clear hat ho1
  generalize hm2 : cs.length = m at *
  have HM : Hid (cs.length = m) := hm2
  have hml : m ≤ 10000 := HL.out
  clear hm2
  go_wp2_with fail
  refine (free_any N P ps ks ac m cc cs _ HL1.out HA.out HM.out (by omega)).mono ?_
  rintro e w2 ⟨v2, rfl, ho2, hb2⟩
  obtain ⟨ad, cd, rfl, had⟩ := OwnRec.at coin6 ho2
  have HVF : Hid (∀ x ∈ cs.filter (freeB ps ks), 0 ≤ x.val ∧ x.val ≤ 1099511627776) := sumF_val HV.out
  have HFL : Hid ((cs.filter (freeB ps ks)).length ≤ 10000) := by show _ ≤ _; have := List.length_filter_le (freeB ps ks) cs; rw [HM.out] at this; omega
  have HA2 : Hid (RecAt CoinD.l w2 ac cs) := HA.out.grown hb2
  have HD2 : Hid (RecAt CoinD.l w2 ad (cs.filter (freeB ps ks))) := had
  have hb02 := below_blk hb1 hb2
  clear had ho2 HA hb1 hb2
  generalize hfs : cs.filter (freeB ps ks) = fs at *
  have HFS : Hid (cs.filter (freeB ps ks) = fs) := hfs
  clear hfs
  generalize hfm : fs.length = fm at *
  have HFM : Hid (fs.length = fm) := hfm
  have hfl : fm ≤ 10000 := HFL.out
  clear hfm HFL
  go_wp2_with fail
  refine (sum_any ac m cc cs _ HA2.out HM.out (by omega) HV.out).mono ?_
  rintro e w3 ⟨rfl, hb3⟩
  have HD3 : Hid (RecAt CoinD.l w3 ad fs) := HD2.out.grown hb3
  have hb03 := below_blk hb02 hb3
  go_wp2_with fail
  refine (sum_any ad fm cd fs _ HD3.out HFM.out (by omega) HVF.out).mono ?_
  rintro e w4 ⟨rfl, hb4⟩
  have hb04 := below_blk hb03 hb4
  go_wp2
  go_ret2
  rw [HCS.out, HFS.out]
  exact ⟨rfl, hb04⟩
theorem paq_c0 {w : World} {P : Nat} {s : Int} {g : Nat} {v : Value} {h : Int} {xs : List Cel} (hp : PAq w P s g v h xs) : w.cell? ⟨P, 0, none⟩ = some (.int .i64 s) := (hp.ext (0, .int .i64 s) (by simp)).2.2
theorem paq_c1 {w : World} {P : Nat} {s : Int} {g : Nat} {v : Value} {h : Int} {xs : List Cel} (hp : PAq w P s g v h xs) : w.cell? ⟨P, 1, none⟩ = some (.int .i64 (g : Int)) := (hp.ext (1, .int .i64 (g : Int)) (by simp)).2.2
theorem paq_row {w : World} {P : Nat} {s : Int} {g : Nat} {v : Value} {h : Int} {xs : List Cel} (hp : PAq w P s g v h xs) : PRow4 w P s g v h := by
  intro j hj
  match j, hj with
  | 0, _ => exact (hp.ext (0, .int .i64 s) (by simp)).2.2
  | 1, _ => exact (hp.ext (1, .int .i64 (g : Int)) (by simp)).2.2
  | 2, _ => exact hp.c0
  | 3, _ => exact hp.c1
end Go.Proofs.Ytffgpepngcnjeaa

namespace Go.Proofs.Ytffgpepngcnjeaa
open Go.RowKit
theorem keepB2' {w w' : World} {a b p q : Nat} {x y : Value} (hb : Below w.heap.size w w') (h : w.cell? ⟨a, p, none⟩ = some x ∧ w.cell? ⟨b, q, none⟩ = some y) : w'.cell? ⟨a, p, none⟩ = some x ∧ w'.cell? ⟨b, q, none⟩ = some y :=
  ⟨(hb.cell (p := ⟨a, p, none⟩) (cell_lt h.1)).trans h.1, (hb.cell (p := ⟨b, q, none⟩) (cell_lt h.2)).trans h.2⟩
set_option maxRecDepth 100000 in
set_option maxHeartbeats 4000000 in
theorem sChange_any (S P : Nat) (s : Int) (g : Nat) (vi : Value) (ac : Option Addr) (cc : Nat) (cs : List CoinD) (av : Option Addr) (cv : Nat) (h : Int) (xs : List Cel) (n0 t : Int) (i : Nat) (ai : Option Addr) (n ci : Nat) (ap : Option Addr) (np cp : Nat) (ak : Option Addr) (nk ck : Nat) (val : Int) (w : World) (hS : Sn S P s g vi ac cc cs w) (hcl : cs.length ≤ 1000) (hs : Mk.isM s = true) (hg : 1 ≤ g) (hg2 : g ≤ 20) (hp : PRow4 w P s g (.slice av xs.length cv) h) (hx : CelsAt w av xs) (hxl : xs.length ≤ 1000000) (hk : Mk.isK s 1 (i : Int) = true) (hi : i < winZ xs s g 1) (hv : 10 ≤ val) (hf : ∀ c ∈ cs, c.tt ≠ Mk.adr s 1 (i : Int)) :
    Calls Try.prog 91 #[.pointer (some ⟨S, 0, none⟩), .agg #[.int .i64 n0, .int .i64 t, .slice ai n ci, .slice ap np cp, .slice ak nk ck, .int .i64 (i : Int)], .agg #[.int .i64 (Mk.adr s 1 (i : Int)), .int .i64 val]] w fun e w' => e = .returned (.bool true) ∧ Below w.heap.size w w' := by
  have hbA : Below w.heap.size w ((w.alloc (.cells #[.int .i64 n0, .int .i64 t, .slice ai n ci, .slice ap np cp, .slice ak nk ck, .int .i64 (i : Int)] 101)).alloc (.cells #[.int .i64 (Mk.adr s 1 (i : Int)), .int .i64 val] 111)) := ((Below.refl _ _).alloc (Nat.le_refl _) _).alloc (by simp) _
  have b5 : ((w.alloc (.cells #[.int .i64 n0, .int .i64 t, .slice ai n ci, .slice ap np cp, .slice ak nk ck, .int .i64 (i : Int)] 101)).alloc (.cells #[.int .i64 (Mk.adr s 1 (i : Int)), .int .i64 val] 111)).cell? ⟨w.heap.size, 5, none⟩ = some (.int .i64 (i : Int)) := by go_simp
  have o0 : ((w.alloc (.cells #[.int .i64 n0, .int .i64 t, .slice ai n ci, .slice ap np cp, .slice ak nk ck, .int .i64 (i : Int)] 101)).alloc (.cells #[.int .i64 (Mk.adr s 1 (i : Int)), .int .i64 val] 111)).cell? ⟨w.heap.size + 1, 0, none⟩ = some (.int .i64 (Mk.adr s 1 (i : Int))) := by go_simp
  have o1 : ((w.alloc (.cells #[.int .i64 n0, .int .i64 t, .slice ai n ci, .slice ap np cp, .slice ak nk ck, .int .i64 (i : Int)] 101)).alloc (.cells #[.int .i64 (Mk.adr s 1 (i : Int)), .int .i64 val] 111)).cell? ⟨w.heap.size + 1, 1, none⟩ = some (.int .i64 val) := by go_simp
  have HS0 : Hid (Sn S P s g vi ac cc cs ((w.alloc (.cells #[.int .i64 n0, .int .i64 t, .slice ai n ci, .slice ap np cp, .slice ak nk ck, .int .i64 (i : Int)] 101)).alloc (.cells #[.int .i64 (Mk.adr s 1 (i : Int)), .int .i64 val] 111))) := hS.grown hbA
  have HP0 : Hid (PRow4 ((w.alloc (.cells #[.int .i64 n0, .int .i64 t, .slice ai n ci, .slice ap np cp, .slice ak nk ck, .int .i64 (i : Int)] 101)).alloc (.cells #[.int .i64 (Mk.adr s 1 (i : Int)), .int .i64 val] 111)) P s g (.slice av xs.length cv) h) := VRow.grown hp hbA
  have HX0 : Hid (CelsAt ((w.alloc (.cells #[.int .i64 n0, .int .i64 t, .slice ai n ci, .slice ap np cp, .slice ak nk ck, .int .i64 (i : Int)] 101)).alloc (.cells #[.int .i64 (Mk.adr s 1 (i : Int)), .int .i64 val] 111)) av xs) := hx.grown hbA
  have HF : Hid (∀ c ∈ cs, c.tt ≠ Mk.adr s 1 (i : Int)) := hf
  have HKY : Hid (Mk.isK s 1 (i : Int) = true) := hk
  have HBA : Hid (Below w.heap.size w ((w.alloc (.cells #[.int .i64 n0, .int .i64 t, .slice ai n ci, .slice ap np cp, .slice ak nk ck, .int .i64 (i : Int)] 101)).alloc (.cells #[.int .i64 (Mk.adr s 1 (i : Int)), .int .i64 val] 111))) := hbA
  clear hS hp hx hf hk hbA
  go_enter Try.func91, Try.ntmps91
  go_upto_region 1 with fail
  generalize ((w.alloc (.cells #[.int .i64 n0, .int .i64 t, .slice ai n ci, .slice ap np cp, .slice ak nk ck, .int .i64 (i : Int)] 101)).alloc (.cells #[.int .i64 (Mk.adr s 1 (i : Int)), .int .i64 val] 111)) = w0 at *
  generalize hB : w.heap.size = B at *
  have HBe : Hid (w.heap.size = B) := hB
  clear hB
  have s1 := HS0.out.c1
  have HKX : Hid (w0.cell? ⟨S, 1, none⟩ = some (.int .i64 s) ∧ w0.cell? ⟨B, 5, none⟩ = some (.int .i64 (i : Int))) := ⟨s1, b5⟩
  have HKB : Hid (w0.cell? ⟨B, 5, none⟩ = some (.int .i64 (i : Int)) ∧ w0.cell? ⟨B + 1, 0, none⟩ = some (.int .i64 (Mk.adr s 1 (i : Int))) ∧ w0.cell? ⟨B + 1, 1, none⟩ = some (.int .i64 val)) := ⟨b5, o0, o1⟩
  have hBw : B < w0.heap.size := cell_lt b5
  generalize hae : Mk.adr s 1 (i : Int) = ad at *
  have HAD : Hid (Mk.adr s 1 (i : Int) = ad) := hae
  clear hae
  go_region_held3 (fun w' => w'.cell? ⟨S, 1, none⟩ = some (.int .i64 s) ∧ w'.cell? ⟨B, 5, none⟩ = some (.int .i64 (i : Int))) (first | assumption | go_keep | exact keepB2' hb3 HKX.out) ((go_at_call 15; refine (pAddress_yes s 1 (i : Int) _ HKY.out).mono ?_; rw [HAD.out]; rintro e w3 ⟨rfl, hb3⟩))
  have bW : Below w0.heap.size w0 w3 := ((Below.refl w0.heap.size w0).drew).trans hb3
  have HKB3 : Hid _ := keepB3 bW HKB.out
  have HS3 : Hid (Sn S P s g vi ac cc cs w3) := HS0.out.grown bW
  have HP3 : Hid (PRow4 w3 P s g (.slice av xs.length cv) h) := VRow.grown HP0.out bW
  have HX3 : Hid (CelsAt w3 av xs) := HX0.out.grown bW
  have hb03 : Below w0.heap.size w0 w3 := bW
  clear bW hb3 HKX s1 b5 o0 o1 HKB HS0 HP0 HX0
  have s0 := HS3.out.c0
  go_wp2_with fail
  refine (pWindows4 P s g av xs.length cv h xs _ hs hg hg2 HP3.out HX3.out rfl hxl).mono ?_
  rintro e w4 ⟨rfl, hb4⟩
  obtain ⟨b5, o0, o1⟩ := keepB3 hb4 HKB3.out
  have HS4 : Hid (Sn S P s g vi ac cc cs w4) := HS3.out.grown hb4
  have hb04 := below_blk hb03 hb4
  have hiI : (i : Int) < ((winZ xs s g 1 : Nat) : Int) := by omega
  have hid : decide (((winZ xs s g 1 : Nat) : Int) ≤ (i : Int)) = false := decide_eq_false (by omega)
  have hvd : decide (val < 10) = false := decide_eq_false (by omega)
  clear hb03 hb4 s0 HKB3 HS3 HP3 HX3
  generalize winZ xs s g 1 = wn at *
  go_wp2
  clear b5 o0 o1
  generalize hcn : cs.length = cn at *
  have HCN : Hid (cs.length = cn) := hcn
  clear hcn
  go_loopw [11] (fun v wr => ∃ (k : Nat), k ≤ cn ∧ v = .int .i64 k ∧ Below w4.heap.size w4 wr) (fun v _ => cn - (intOf v).toNat)
  case atStart => exact ⟨0, Nat.zero_le _, rfl, Below.refl _ _⟩
  case round =>
    obtain ⟨k, hk, rfl, hbl⟩ := hrel
    have HSr : Hid (Sn S P s g vi ac cc cs wr) := HS4.out.grown hbl
    have s4 := HSr.out.c4
    rw [HCN.out] at s4
    by_cases hlt : k < cn
    · have hkl : k < cs.length := by rw [HCN.out]; exact hlt
      rcases HSr.out.at_ with hnil | ⟨gc, oc, rfl, hrow⟩
      · rw [hnil] at hkl; simp at hkl
      obtain ⟨e0, e1, e2, e3, e4, e5⟩ := coinCells hrow k hkl
      have hne := HF.out _ (getD_mem cs dN k hkl)
      clear hrow e0 e1 e3 e4 e5
      generalize (cs.getD k dN).tt = y at *
      have hkI : (k : Int) < (cn : Int) := by omega
      have hk0 : (0 : Int) ≤ (k : Int) := by omega
      have hyd : (y == ad) = false := by simpa using hne
      go_wp2
      go_roundw
      case rel => exact ⟨k + 1, by omega, by go_num, hbl⟩
      case measure => simp [intOf]; omega
    · have hkI : ¬ (k : Int) < (cn : Int) := by omega
      have hbF : Below B w wr := HBA.out.trans ((below_blk hb04 hbl).mono (by omega))
      go_wp2
      go_ret
      exact ⟨rfl, by rw [HBe.out]; exact hbF⟩
set_option maxRecDepth 100000 in
set_option maxHeartbeats 4000000 in
theorem sFull_any (S P : Nat) (s : Int) (g : Nat) (vi : Value) (ac : Option Addr) (cc : Nat) (cs : List CoinD) (av : Option Addr) (cv : Nat) (h : Int) (xs : List Cel) (w : World) (hS : Sn S P s g vi ac cc cs w) (hcl : cs.length ≤ 1000) (hs : Mk.isM s = true) (hg : 1 ≤ g) (hg2 : g ≤ 20) (hp : PRow4 w P s g (.slice av xs.length cv) h) (hx : CelsAt w av xs) (hxl : xs.length ≤ 1000000) (hw0 : 0 < winZ xs s g 1) (hk : ∀ i : Nat, i < winZ xs s g 1 → Mk.isK s 1 (i : Int) = true ∧ (cs.any fun c => c.tt == Mk.adr s 1 (i : Int)) = true) :
    Calls Try.prog 54 #[.pointer (some ⟨S, 0, none⟩)] w fun e w' => e = .returned (.bool true) ∧ Below w.heap.size w w' := by
  have HS0 : Hid (Sn S P s g vi ac cc cs w) := hS
  have HP0 : Hid (PRow4 w P s g (.slice av xs.length cv) h) := hp
  have HX0 : Hid (CelsAt w av xs) := hx
  have HK : Hid (∀ i : Nat, i < winZ xs s g 1 → Mk.isK s 1 (i : Int) = true ∧ (cs.any fun c => c.tt == Mk.adr s 1 (i : Int)) = true) := hk
  have s0 := hS.c0
  clear hS hp hx hk
  go_enter Try.func54, Try.ntmps54
  go_wp2_with fail
  refine (pWindows4 P s g av xs.length cv h xs _ hs hg hg2 HP0.out HX0.out rfl hxl).mono ?_
  rintro e w4 ⟨rfl, hb4⟩
  have HS4 : Hid (Sn S P s g vi ac cc cs w4) := HS0.out.grown hb4
  have HWE : Hid (winZ xs s g 1 ≤ 100) := winZ_le xs s g 1
  clear s0 HS0 HP0 HX0
  generalize winZ xs s g 1 = wn at *
  generalize winZ xs s g 0 = wz at *
  generalize hcn : cs.length = cn at *
  have HCN : Hid (cs.length = cn) := hcn
  have hw100 : wn ≤ 100 := HWE.out
  clear hcn
  go_wp2
  go_loopw [5] (fun v wr => ∃ (k : Nat), k ≤ wn ∧ v = .int .i64 k ∧ Below w4.heap.size w4 wr) (fun v _ => wn - (intOf v).toNat)
  case atStart => exact ⟨0, Nat.zero_le _, rfl, Below.refl _ _⟩
  case round =>
    obtain ⟨k, hk, rfl, hbl⟩ := hrel
    have HSr : Hid (Sn S P s g vi ac cc cs wr) := HS4.out.grown hbl
    by_cases hlt : k < wn
    · obtain ⟨hky, hany⟩ := HK.out k hlt
      have HKY : Hid (Mk.isK s 1 (k : Int) = true) := hky
      have HANY : Hid ((cs.any fun c => c.tt == Mk.adr s 1 (k : Int)) = true) := hany
      have s1 := HSr.out.c1
      have hkI : (k : Int) < (wn : Int) := by omega
      clear hky hany
      go_wp2_with (go_at_call 15; refine (pAddress_yes s 1 (k : Int) _ HKY.out).mono ?_; rintro e w3 ⟨rfl, hb3⟩)
      generalize Mk.adr s 1 (k : Int) = ad at *
      have HS3 : Hid (Sn S P s g vi ac cc cs w3) := HSr.out.grown hb3
      have hb03 := below_blk hbl hb3
      clear s1 hb3 HSr hbl
      go_loopw [8, 9] (fun v q wr => ∃ (j : Nat), j ≤ cn ∧ q = .int .i64 j ∧ v = .bool ((cs.take j).any fun c => c.tt == ad) ∧ Below w3.heap.size w3 wr) (fun _ q _ => cn - (intOf q).toNat)
      case atStart => exact ⟨0, Nat.zero_le _, rfl, by simp, Below.refl _ _⟩
      case round =>
        obtain ⟨j, hj, rfl, rfl, hbj⟩ := hrel
        have HSj : Hid (Sn S P s g vi ac cc cs wr) := HS3.out.grown hbj
        have s4 := HSj.out.c4
        rw [HCN.out] at s4
        by_cases hjl : j < cn
        · have hkl : j < cs.length := by rw [HCN.out]; exact hjl
          rcases HSj.out.at_ with hnil | ⟨gc, oc, rfl, hrow⟩
          · rw [hnil] at hkl; simp at hkl
          obtain ⟨e0, e1, e2, e3, e4, e5⟩ := coinCells hrow j hkl
          have HNX : Hid ((cs.take (j + 1)).any (fun c => c.tt == ad) = ((cs.take j).any (fun c => c.tt == ad) || ((cs.getD j dN).tt == ad))) := by
            show _ = _
            have e : cs.getD j dN = cs[j] := by simp [List.getD, hkl]
            rw [List.take_succ_eq_append_getElem hkl, List.any_append, e]
            simp
          clear hrow e0 e1 e3 e4 e5
          generalize (cs.getD j dN).tt = y at *
          generalize ((cs.take j).any fun c => c.tt == ad) = bb at *
          have hjI : (j : Int) < (cn : Int) := by omega
          have hj0 : (0 : Int) ≤ (j : Int) := by omega
          cases bb
          · go_wp2
            go_roundw
            case rel => exact ⟨j + 1, by omega, by go_num, by rw [HNX.out]; rfl, hbj⟩
            case measure => simp [intOf]; omega
          · go_wp2
            go_roundw
            case rel => exact ⟨j + 1, by omega, by go_num, by rw [HNX.out]; rfl, hbj⟩
            case measure => simp [intOf]; omega
        · have HAL : Hid (((cs.take j).any fun c => c.tt == ad) = true) := by show _ = _; rw [List.take_of_length_le (by rw [HCN.out]; omega)]; exact HANY.out
          have hall := HAL.out
          have hjI : ¬ (j : Int) < (cn : Int) := by omega
          rw [hall]
          have hb05 := below_blk hb03 hbj
          go_wp2
          go_roundw
          case rel => exact ⟨k + 1, by omega, by go_num, hb05⟩
          case measure => simp [intOf]; omega
    · have hkI : ¬ (k : Int) < (wn : Int) := by omega
      have hwI : decide (0 < (wn : Int)) = true := decide_eq_true (by omega)
      have hb05 := below_blk hb4 hbl
      go_wp2
      go_ret
      exact ⟨rfl, hb05⟩
end Go.Proofs.Ytffgpepngcnjeaa

namespace Go.Proofs.Ytffgpepngcnjeaa
open Go.RowKit
theorem outs_take {w : World} {ao : Option Addr} {ys ex : List (Int × Int)} (h : OutsAt w ao (ys ++ ex)) : OutsAt w ao ys := by
  rcases h with h | ⟨b, off, e, hr⟩
  · exact Or.inl (List.append_eq_nil_iff.1 h).1
  · refine Or.inr ⟨b, off, e, fun j hj => ?_⟩
    have h1 := hr j (by rw [List.length_append]; omega)
    have e2 : (ys ++ ex).getD j (0, 0) = ys.getD j (0, 0) := by simp [List.getD, List.getElem?_append_left hj]
    rw [e2] at h1
    exact h1
theorem keepB8 {w w' : World} {B a1 a2 o1 o2 : Nat} {x0 x1 x2 x3 x4 x5 y z : Value} (hb : Below w.heap.size w w') (h : w.cell? ⟨B, 0, none⟩ = some x0 ∧ w.cell? ⟨B, 1, none⟩ = some x1 ∧ w.cell? ⟨B, 2, none⟩ = some x2 ∧ w.cell? ⟨B, 3, none⟩ = some x3 ∧ w.cell? ⟨B, 4, none⟩ = some x4 ∧ w.cell? ⟨B, 5, none⟩ = some x5 ∧ w.cell? ⟨a1, o1, none⟩ = some y ∧ w.cell? ⟨a2, o2, none⟩ = some z) :
    w'.cell? ⟨B, 0, none⟩ = some x0 ∧ w'.cell? ⟨B, 1, none⟩ = some x1 ∧ w'.cell? ⟨B, 2, none⟩ = some x2 ∧ w'.cell? ⟨B, 3, none⟩ = some x3 ∧ w'.cell? ⟨B, 4, none⟩ = some x4 ∧ w'.cell? ⟨B, 5, none⟩ = some x5 ∧ w'.cell? ⟨a1, o1, none⟩ = some y ∧ w'.cell? ⟨a2, o2, none⟩ = some z := by
  have k : ∀ {b o : Nat} {v : Value}, w.cell? ⟨b, o, none⟩ = some v → w'.cell? ⟨b, o, none⟩ = some v := fun {b o v} h => (hb.cell (p := ⟨b, o, none⟩) (cell_lt h)).trans h
  obtain ⟨h0, h1, h2, h3, h4, h5, h6, h7⟩ := h
  exact ⟨k h0, k h1, k h2, k h3, k h4, k h5, k h6, k h7⟩
/-- a payment that is fair: without change, or with one -/
def FairC (s : Int) (g : Nat) (xs : List Cel) (cs : List CoinD) (r : Int) (ex : List (Int × Int)) (ch ov : Int) : Prop :=
  (ex = [] ∧ ch = -1 ∧ 0 ≤ ov ∧ ov < r * 2 + 10) ∨
  ∃ (i : Nat) (v : Int), ex = [(Mk.adr s 1 (i : Int), v)] ∧ ch = (i : Int) ∧ Mk.isK s 1 (i : Int) = true ∧ i < winZ xs s g 1 ∧ 10 ≤ v ∧ (∀ c ∈ cs, c.tt ≠ Mk.adr s 1 (i : Int)) ∧ ov = 0
set_option maxRecDepth 100000 in
set_option maxHeartbeats 4000000 in
theorem fair_any (S P : Nat) (s : Int) (g : Nat) (vi : Value) (ac : Option Addr) (cc : Nat) (cs : List CoinD) (av : Option Addr) (cv : Nat) (h : Int) (xs : List Cel) (n0 t ch : Int) (ai : Option Addr) (n ci : Nat) (ap : Option Addr) (np cp : Nat) (ak : Option Addr) (ck : Nat) (L : List CoinD) (al : Option Addr) (nl cl : Nat) (ys ex : List (Int × Int)) (r : Int) (w : World) (hS : Sn S P s g vi ac cc cs w) (hcl : cs.length ≤ 1000) (hs : Mk.isM s = true) (hg : 1 ≤ g) (hg2 : g ≤ 20) (hp : PRow4 w P s g (.slice av xs.length cv) h) (hx : CelsAt w av xs) (hxl : xs.length ≤ 1000000)
    (hi : RecAt inC w ai L) (hk : RecAt kC w ak L) (hn : L.length = n) (h0 : 0 < n) (h10 : n ≤ 10) (hL : ∀ x ∈ L, DpsOk s cs x) (hd : L.Pairwise fun a b => ¬ (a.id = b.id ∧ a.pos = b.pos)) (hy : OutsAt w al ys) (hyn : ys.length = nl) (hym : nl ≤ 10) (hz : OutsAt w ap (ys ++ ex)) (hzn : nl + ex.length = np) (hex : ex.length ≤ 1) (hcap : np ≤ cp) (hzv : ∀ y ∈ ys ++ ex, 0 ≤ y.2 ∧ y.2 ≤ 109951162777600) (hr : 0 ≤ r ∧ r ≤ 1000) (hc : FairC s g xs cs r ex ch (sumC L - sumOu (ys ++ ex) - r * (3 + 7 * (n : Int) + 2 * (np : Int)))) :
    Calls Try.prog 55 #[.pointer (some ⟨S, 0, none⟩), .agg #[.int .i64 n0, .int .i64 t, .slice ai n ci, .slice ap np cp, .slice ak n ck, .int .i64 ch], .slice al nl cl, .int .i64 r] w fun e w' => e = .returned (.tuple #[.int .i64 (sumC L), .bool true]) ∧ Below w.heap.size w w' := by
  have hbA : Below w.heap.size w (w.alloc (.cells #[.int .i64 n0, .int .i64 t, .slice ai n ci, .slice ap np cp, .slice ak n ck, .int .i64 ch] 101)) := (Below.refl _ _).alloc (Nat.le_refl _) _
  have HV : Hid (VB (w.alloc (.cells #[.int .i64 n0, .int .i64 t, .slice ai n ci, .slice ap np cp, .slice ak n ck, .int .i64 ch] 101)) w.heap.size (.int .i64 n0) (.int .i64 t) (.slice ai n ci) (.slice ap np cp) (.slice ak n ck) (.int .i64 ch)) := VB.new w _ _ _ _ _ _ 101
  have HS0 : Hid (Sn S P s g vi ac cc cs (w.alloc (.cells #[.int .i64 n0, .int .i64 t, .slice ai n ci, .slice ap np cp, .slice ak n ck, .int .i64 ch] 101))) := hS.grown hbA
  have HP0 : Hid (PRow4 (w.alloc (.cells #[.int .i64 n0, .int .i64 t, .slice ai n ci, .slice ap np cp, .slice ak n ck, .int .i64 ch] 101)) P s g (.slice av xs.length cv) h) := VRow.grown hp hbA
  have HX0 : Hid (CelsAt (w.alloc (.cells #[.int .i64 n0, .int .i64 t, .slice ai n ci, .slice ap np cp, .slice ak n ck, .int .i64 ch] 101)) av xs) := hx.grown hbA
  have HI0 : Hid (RecAt inC (w.alloc (.cells #[.int .i64 n0, .int .i64 t, .slice ai n ci, .slice ap np cp, .slice ak n ck, .int .i64 ch] 101)) ai L) := hi.grown hbA
  have HK0 : Hid (RecAt kC (w.alloc (.cells #[.int .i64 n0, .int .i64 t, .slice ai n ci, .slice ap np cp, .slice ak n ck, .int .i64 ch] 101)) ak L) := hk.grown hbA
  have HY0 : Hid (OutsAt (w.alloc (.cells #[.int .i64 n0, .int .i64 t, .slice ai n ci, .slice ap np cp, .slice ak n ck, .int .i64 ch] 101)) al ys) := hy.grown hbA
  have HZ0 : Hid (OutsAt (w.alloc (.cells #[.int .i64 n0, .int .i64 t, .slice ai n ci, .slice ap np cp, .slice ak n ck, .int .i64 ch] 101)) ap (ys ++ ex)) := hz.grown hbA
  have HN : Hid (L.length = n) := hn
  have HYN : Hid (ys.length = nl) := hyn
  have HZN : Hid ((ys ++ ex).length = np) := by show _ = _; rw [List.length_append, hyn]; exact hzn
  have HL : Hid (∀ x ∈ L, DpsOk s cs x) := hL
  have HD : Hid (L.Pairwise fun a b => ¬ (a.id = b.id ∧ a.pos = b.pos)) := hd
  have HZV : Hid (∀ y ∈ ys ++ ex, 0 ≤ y.2 ∧ y.2 ≤ 109951162777600) := hzv
  have HEX : Hid (ex.length ≤ 1) := hex
  have HZE : Hid (nl + ex.length = np) := hzn
  have HBA : Hid (Below w.heap.size w (w.alloc (.cells #[.int .i64 n0, .int .i64 t, .slice ai n ci, .slice ap np cp, .slice ak n ck, .int .i64 ch] 101))) := hbA
  have HC : Hid (FairC s g xs cs r ex ch (sumC L - sumOu (ys ++ ex) - r * (3 + 7 * (n : Int) + 2 * (np : Int)))) := hc
  have hnp : nl ≤ np ∧ np ≤ nl + 1 := by omega
  have hSL := sum_bd CoinD.val 1099511627776 L (fun x hx => (hL x hx).b)
  have hin : 0 ≤ sumC L ∧ sumC L ≤ 10995116277760 := by unfold sumC; omega
  clear hS hp hx hi hk hy hz hn hyn hzn hL hd hzv hex hbA hc hSL
  have hrs : 0 ≤ r * (3 + 7 * (n : Int) + 2 * (np : Int)) ∧ r * (3 + 7 * (n : Int) + 2 * (np : Int)) ≤ 100000 := ⟨Int.mul_nonneg hr.1 (by omega), by
    have h1 : r * (3 + 7 * (n : Int) + 2 * (np : Int)) ≤ 1000 * (3 + 7 * (n : Int) + 2 * (np : Int)) := Int.mul_le_mul_of_nonneg_right hr.2 (by omega)
    omega⟩
  go_enter Try.func55, Try.ntmps55
  go_upto_region 1 with fail
  generalize w.alloc (.cells #[.int .i64 n0, .int .i64 t, .slice ai n ci, .slice ap np cp, .slice ak n ck, .int .i64 ch] 101) = w0 at *
  generalize hB : w.heap.size = B at *
  have HBe : Hid (w.heap.size = B) := hB
  clear hB
  obtain ⟨b0, b1, b2, b3, b4, b5, _⟩ := HV.out
  go_wp2_with fail
  refine (inputs_any S P s g vi ac cc cs n0 t ch ai n ci ap np cp ak ck L _ HS0.out hcl HI0.out HK0.out HN.out h0 h10 HL.out HD.out).mono ?_
  rintro e w1 ⟨rfl, hb1⟩
  have HV1 : Hid (VB w1 B (.int .i64 n0) (.int .i64 t) (.slice ai n ci) (.slice ap np cp) (.slice ak n ck) (.int .i64 ch)) := HV.out.fr (Fr.of_below hb1 (fun _ => False)) (fun h => h)
  have HS1 : Hid (Sn S P s g vi ac cc cs w1) := HS0.out.grown hb1
  have HP1 : Hid (PRow4 w1 P s g (.slice av xs.length cv) h) := VRow.grown HP0.out hb1
  have HX1 : Hid (CelsAt w1 av xs) := HX0.out.grown hb1
  have HY1 : Hid (OutsAt w1 al ys) := HY0.out.grown hb1
  have HZ1 : Hid (OutsAt w1 ap (ys ++ ex)) := HZ0.out.grown hb1
  have HT1 : Hid (OutsAt w1 ap ys) := outs_take HZ1.out
  have hB0 : B < w0.heap.size := cell_lt b0
  clear b0 b1 b2 b3 b4 b5 HV HS0 HP0 HX0 HI0 HK0 HY0 HZ0 HN HL HD
  obtain ⟨b0, b1, b2, b3, b4, b5, _⟩ := HV1.out
  have hnI1 : ¬ ((np : Int) < (nl : Int)) := by omega
  have hnI2 : ¬ ((nl : Int) + 1 < (np : Int)) := by omega
  have hw1 : IntKind.i64.wrap ((nl : Int) + 1) = (nl : Int) + 1 := IntWalk.i64_in _ ⟨by omega, by omega⟩
  have hcapI : (nl : Int) ≤ (cp : Int) := by omega
  have hnl0 : (0 : Int) ≤ (nl : Int) := by omega
  go_wp2_with (go_at_call 90; refine (kOuts_any ap al nl cp cl ys _ HT1.out HY1.out HYN.out (by omega)).mono ?_; rintro e w2 ⟨rfl, hb2⟩)
  have HV2 : Hid (VB w2 B (.int .i64 n0) (.int .i64 t) (.slice ai n ci) (.slice ap np cp) (.slice ak n ck) (.int .i64 ch)) := HV1.out.fr (Fr.of_below hb2 (fun _ => False)) (fun h => h)
  have HS2 : Hid (Sn S P s g vi ac cc cs w2) := HS1.out.grown hb2
  have HP2 : Hid (PRow4 w2 P s g (.slice av xs.length cv) h) := VRow.grown HP1.out hb2
  have HX2 : Hid (CelsAt w2 av xs) := HX1.out.grown hb2
  have HZ2 : Hid (OutsAt w2 ap (ys ++ ex)) := HZ1.out.grown hb2
  have hb02 := below_blk hb1 hb2
  clear b0 b1 b2 b3 b4 b5 HV1 HS1 HP1 HX1 HY1 HZ1 HT1 hb1 hb2
  go_loopw [15, 16] (fun v i wr => ∃ (k : Nat) (T : Int), k ≤ np ∧ i = .int .i64 k ∧ v = .int .i64 T ∧ Hid (sumC L - (((ys ++ ex).take k).map Prod.snd).sum = T) ∧ Below w2.heap.size w2 wr) (fun _ i _ => np - (intOf i).toNat)
  case atStart => exact ⟨0, sumC L, Nat.zero_le _, rfl, rfl, by show sumC L - _ = sumC L; simp, Below.refl _ _⟩
  case round =>
    obtain ⟨k, T, hk, rfl, rfl, hT, hbl⟩ := hrel
    have HVr : Hid (VB wr B (.int .i64 n0) (.int .i64 t) (.slice ai n ci) (.slice ap np cp) (.slice ak n ck) (.int .i64 ch)) := HV2.out.fr (Fr.of_below hbl (fun _ => False)) (fun h => h)
    obtain ⟨b0, b1, b2, b3, b4, b5, _⟩ := HVr.out
    have hSb := sum_bd Prod.snd 109951162777600 ((ys ++ ex).take k) (fun x hx => HZV.out x (List.mem_of_mem_take hx))
    have hl2 : ((ys ++ ex).take k).length ≤ 11 := by rw [List.length_take]; omega
    have hT2 : -1209462790553600 ≤ T ∧ T ≤ 10995116277760 := by have := hT.out; omega
    clear hSb hl2
    by_cases hlt : k < np
    · have hkl : k < (ys ++ ex).length := by rw [HZN.out]; exact hlt
      rcases HZ2.out.grown hbl with hnil | ⟨gz, oz, rfl, hrow⟩
      · rw [hnil] at hkl; simp at hkl
      obtain ⟨c0, c1⟩ := hrow k hkl
      have HS : Hid _ := sum_snoc Prod.snd (ys ++ ex) (0, 0) k hkl
      have hyb := HZV.out ((ys ++ ex).getD k (0, 0)) (getD_mem (ys ++ ex) (0, 0) k hkl)
      clear hrow
      generalize (ys ++ ex).getD k (0, 0) = y at c0 c1 HS hyb
      obtain ⟨y0, y1⟩ := y
      simp only at c0 c1 hyb
      have hkI : (k : Int) < (np : Int) := by omega
      have hk0 : (0 : Int) ≤ (k : Int) := by omega
      have hw3 : IntKind.i64.wrap (T - y1) = T - y1 := IntWalk.i64_in _ ⟨by omega, by omega⟩
      go_wp2
      go_roundw
      case rel => exact ⟨k + 1, T - y1, by omega, by go_num, rfl, by show _ = _; rw [HS.out, ← Int.sub_sub, hT.out], hbl⟩
      case measure => simp [intOf]; omega
    · have HTe : Hid (sumC L - sumOu (ys ++ ex) = T) := by show _ = _; rw [← hT.out, List.take_of_length_le (by rw [HZN.out]; omega)]; rfl
      have hkI : ¬ (k : Int) < (np : Int) := by omega
      have HC1 : Hid (FairC s g xs cs r ex ch (T - r * (3 + 7 * (n : Int) + 2 * (np : Int)))) := by rw [← HTe.out]; exact HC.out
      have hw4 : IntKind.i64.wrap (r * (3 + 7 * (n : Int) + 2 * (np : Int))) = r * (3 + 7 * (n : Int) + 2 * (np : Int)) := IntWalk.i64_in _ ⟨by omega, by omega⟩
      have hw5 : IntKind.i64.wrap (T - r * (3 + 7 * (n : Int) + 2 * (np : Int))) = T - r * (3 + 7 * (n : Int) + 2 * (np : Int)) := IntWalk.i64_in _ ⟨by omega, by omega⟩
      have HBF : Hid (∀ wx, Below wr.heap.size wr wx → Below w.heap.size w wx) := fun wx hb => by rw [HBe.out]; exact HBA.out.trans ((below_blk (below_blk hb02 hbl) hb).mono (by omega))
      have HSr : Hid (Sn S P s g vi ac cc cs wr) := HS2.out.grown hbl
      have HPr : Hid (PRow4 wr P s g (.slice av xs.length cv) h) := VRow.grown HP2.out hbl
      have HXr : Hid (CelsAt wr av xs) := HX2.out.grown hbl
      have HZr : Hid (OutsAt wr ap (ys ++ ex)) := HZ2.out.grown hbl
      clear hT HTe HC HV2 HS2 HP2 HX2 HZ2 hbl hb02
      go_wp2_with fail
      refine (fSize_any n np _ (by omega) (by omega)).mono ?_
      rintro e w' ⟨rfl, rfl⟩
      go_upto_region 15 with fail
      generalize T - r * (3 + 7 * (n : Int) + 2 * (np : Int)) = ov at *
      clear hw4 hw5
      generalize r * (3 + 7 * (n : Int) + 2 * (np : Int)) = rs at *
      rcases HC1.out with ⟨he, rfl, ho1, ho2⟩ | ⟨i, v, he, rfl, hky, hwi, hv10, hfr, ho⟩
      · have hnn : np = nl := by have := HZE.out; rw [he] at this; simp at this; omega
        clear he
        have hw6 : IntKind.i64.wrap (r * 2) = r * 2 := IntWalk.i64_in _ ⟨by omega, by omega⟩
        have hw7 : IntKind.i64.wrap (r * 2 + 10) = r * 2 + 10 := IntWalk.i64_in _ ⟨by omega, by omega⟩
        have hd1 : decide (0 ≤ ov) = true := decide_eq_true ho1
        have hd2 : decide (ov < r * 2 + 10) = true := decide_eq_true ho2
        have hd0 : ((np : Int) == (nl : Int)) = true := by simp [hnn]
        clear hnn HC1
        go_wp2
        go_ret2
        exact ⟨rfl, HBF.out _ (Below.refl _ _)⟩
      · have hnn : np = nl + 1 := by have := HZE.out; rw [he] at this; simpa using this.symm
        have hd0 : ((np : Int) == (nl : Int)) = false := by simp; omega
        have hkl : nl < (ys ++ ex).length := by rw [HZN.out]; omega
        have HYV : Hid ((ys ++ ex).getD nl (0, 0) = (Mk.adr s 1 (i : Int), v)) := by
          show _ = _
          rw [he]
          simp [List.getD, ← HYN.out]
        have HKY : Hid (Mk.isK s 1 (i : Int) = true) := hky
        have HFR : Hid (∀ c ∈ cs, c.tt ≠ Mk.adr s 1 (i : Int)) := hfr
        clear hky hfr he HC1
        subst ho
        go_upto_region 17 with fail
        rcases HZr.out with hnil | ⟨gz, oz, rfl, hrow⟩
        · rw [hnil] at hkl; simp at hkl
        obtain ⟨c0, c1⟩ := hrow nl hkl
        rw [HYV.out] at c0 c1
        simp only at c0 c1
        have hnlI : (nl : Int) < (np : Int) := by omega
        have HSd : Hid (Sn S P s g vi ac cc cs wr.drew) := HSr.out.grown ((Below.refl _ _).drew)
        have HPd : Hid (PRow4 wr.drew P s g (.slice av xs.length cv) h) := VRow.grown HPr.out ((Below.refl _ _).drew)
        have HXd : Hid (CelsAt wr.drew av xs) := HXr.out.grown ((Below.refl _ _).drew)
        clear hrow hnn HYV hkl
        have HKX : Hid (wr.cell? ⟨B, 0, none⟩ = some (.int .i64 n0) ∧ wr.cell? ⟨B, 1, none⟩ = some (.int .i64 t) ∧ wr.cell? ⟨B, 2, none⟩ = some (.slice ai n ci) ∧ wr.cell? ⟨B, 3, none⟩ = some (.slice (some ⟨gz, oz, none⟩) np cp) ∧ wr.cell? ⟨B, 4, none⟩ = some (.slice ak n ck) ∧ wr.cell? ⟨B, 5, none⟩ = some (.int .i64 (i : Int)) ∧ wr.cell? ⟨gz, oz + nl * 2, none⟩ = some (.int .i64 (Mk.adr s 1 (i : Int))) ∧ wr.cell? ⟨gz, oz + nl * 2 + 1, none⟩ = some (.int .i64 v)) := ⟨b0, b1, b2, b3, b4, b5, c0, c1⟩
        go_region_held3 (fun w' => w'.cell? ⟨B, 0, none⟩ = some (.int .i64 n0) ∧ w'.cell? ⟨B, 1, none⟩ = some (.int .i64 t) ∧ w'.cell? ⟨B, 2, none⟩ = some (.slice ai n ci) ∧ w'.cell? ⟨B, 3, none⟩ = some (.slice (some ⟨gz, oz, none⟩) np cp) ∧ w'.cell? ⟨B, 4, none⟩ = some (.slice ak n ck) ∧ w'.cell? ⟨B, 5, none⟩ = some (.int .i64 (i : Int)) ∧ w'.cell? ⟨gz, oz + nl * 2, none⟩ = some (.int .i64 (Mk.adr s 1 (i : Int))) ∧ w'.cell? ⟨gz, oz + nl * 2 + 1, none⟩ = some (.int .i64 v)) (first | assumption | go_keep | exact keepB8 hb3 HKX.out) ((go_at_call 91; refine (sChange_any S P s g vi ac cc cs av cv h xs n0 t i ai n ci (some ⟨gz, oz, none⟩) np cp ak n ck v _ HSd.out hcl hs hg hg2 HPd.out HXd.out hxl HKY.out hwi hv10 HFR.out).mono ?_; rintro e w3 ⟨rfl, hb3⟩))
        have bW : Below wr.heap.size wr w3 := ((Below.refl wr.heap.size wr).drew).trans hb3
        have HB3 : Hid (Below w.heap.size w w3) := HBF.out _ bW
        clear bW hb3
        go_wp2
        go_ret2
        exact ⟨rfl, HB3.out⟩
end Go.Proofs.Ytffgpepngcnjeaa
