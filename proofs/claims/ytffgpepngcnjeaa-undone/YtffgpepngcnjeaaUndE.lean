/-
  Undone: the walk.
-/
import Derived.Test.YtffgpepngcnjeaaUndD
namespace Go.Proofs.Ytffgpepngcnjeaa
open Go.RowKit

/-- a step of a script -/
structure StD where
  k : Int
  a : Int
  b : Int
  bk : BkD
  oo : Option Addr
  on : Nat
  oc : Nat
  bl : List TxD
def dSt : StD := ⟨0, 0, 0, dBk, none, 0, 0, []⟩
def StD.v (x : StD) : List Value := [.int .i64 x.k, .int .i64 x.a, .int .i64 x.b, .slice x.bk.ao x.bk.n x.bk.c, .slice x.oo x.on x.oc]
theorem st5 (x : StD) : x.v.length = 5 := rfl

/-- a script that came in -/
structure ScriptAt (B0 : Nat) (w : World) (ao : Option Addr) (sc : List StD) : Prop where
  row : RecAt StD.v w ao sc
  na : sc ≠ [] → ∀ a, ao = some a → a.block < B0
  ok : ∀ x ∈ sc, BkOk B0 w x.bk x.bl
theorem ScriptAt.below {B0 : Nat} {w w' : World} {ao : Option Addr} {sc : List StD} (h : ScriptAt B0 w ao sc) (hb : Below B0 w w') (hB : B0 ≤ w.heap.size) : ScriptAt B0 w' ao sc := by
  refine ⟨?_, h.na, fun x hx => (h.ok x hx).below hb hB⟩
  by_cases he : sc = []
  · exact Or.inl he
  · rcases h.row with h1 | ⟨b, off, rfl, hr⟩
    · exact Or.inl h1
    · exact Or.inr ⟨b, off, rfl, hr.below hb (h.na he _ rfl)⟩

set_option maxRecDepth 100000 in
set_option maxHeartbeats 400000 in
theorem seeded_any (a b : Int) (w : World) (a1 : -9223372036854775808 ≤ a) (a2 : a ≤ 9223372036854775807) (b1 : -9223372036854775808 ≤ b) (b2 : b ≤ 9223372036854775807) :
    Calls Try.prog 35 #[.int .i64 a, .int .i64 b] w fun e w' => e = .returned (.tuple #[.int .i64 (Mk.pk a 99991), .int .i64 (1 + Mk.pk b 20)]) ∧ w = w' := by
  have hb := Mk.pk_bd b 20 (by decide)
  have hw : IntKind.i64.wrap (1 + Mk.pk b 20) = 1 + Mk.pk b 20 := IntWalk.i64_in _ ⟨by omega, by omega⟩
  go_enter Try.func35, Try.ntmps35
  go_wp2_with fail
  refine (pick_any a 99991 _ (by omega) (by omega) a1 a2).mono ?_
  rintro e w' ⟨rfl, rfl⟩
  go_wp2_with fail
  refine (pick_any b 20 _ (by omega) (by omega) b1 b2).mono ?_
  rintro e w' ⟨rfl, rfl⟩
  go_wp2
  go_ret2
  exact ⟨rfl, rfl⟩

set_option maxRecDepth 100000 in
set_option maxHeartbeats 400000 in
theorem opened_yes (s g : Int) (w : World) (hs : Mk.isM s = true) (h1 : 1 ≤ g) (h2 : g ≤ 20) :
    Calls Try.prog 36 #[.int .i64 s, .int .i64 g] w fun e w' => e = .returned (.pointer (some ⟨w.heap.size, 0, none⟩)) ∧ w.alloc (.cells #[.int .i64 s, .int .i64 g, .slice none 0 0, .int .i64 0, .slice none 0 0, .slice none 0 0, .int .i64 0, .int .i64 0] 136) = w' := by
  go_enter Try.func36, Try.ntmps36
  go_wp2_with fail
  refine (new_yes s g _ hs h1 h2).mono ?_
  rintro e w1 ⟨rfl, rfl⟩
  go_wp2
  go_ret
  exact ⟨rfl, rfl⟩

theorem ui_new (w : World) (s : Int) (g : Nat) :
    UI w.heap.size w.heap.size (w.heap.size + 1) s g 0 [] [] [] (.slice none 0 0) (.slice none 0 0) (.slice none 0 0) [] [] ((w.alloc (.cells #[.int .i64 s, .int .i64 (g : Int), .slice none 0 0, .int .i64 0, .slice none 0 0, .slice none 0 0, .int .i64 0, .int .i64 0] 136)).alloc (.cells #[.slice none 0 0, .slice none 0 0] 74)) := by
  have hb : Below (w.alloc (.cells #[.int .i64 s, .int .i64 (g : Int), .slice none 0 0, .int .i64 0, .slice none 0 0, .slice none 0 0, .int .i64 0, .int .i64 0] 136)).heap.size (w.alloc (.cells #[.int .i64 s, .int .i64 (g : Int), .slice none 0 0, .int .i64 0, .slice none 0 0, .slice none 0 0, .int .i64 0, .int .i64 0] 136)) ((w.alloc (.cells #[.int .i64 s, .int .i64 (g : Int), .slice none 0 0, .int .i64 0, .slice none 0 0, .slice none 0 0, .int .i64 0, .int .i64 0] 136)).alloc (.cells #[.slice none 0 0, .slice none 0 0] 74)) := (Below.refl _ _).alloc (Nat.le_refl _) _
  have hp : PAt (w.alloc (.cells #[.int .i64 s, .int .i64 (g : Int), .slice none 0 0, .int .i64 0, .slice none 0 0, .slice none 0 0, .int .i64 0, .int .i64 0] 136)) w.heap.size s g (.slice none 0 0) 0 [] := by
    refine ⟨?_, ?_, World.frozen?_alloc_at _ _ _ _ rfl, World.frozen?_alloc_at _ _ _ _ rfl, OwnRec.nil _ _ _ _ _, fun q hq => ?_⟩
    · rw [World.cell?_alloc_new]; rfl
    · rw [World.cell?_alloc_new]; rfl
    · simp at hq
      rcases hq with rfl | rfl | rfl | rfl | rfl | rfl
      · exact ⟨by simp, by simp, by rw [World.cell?_alloc_new]; rfl⟩
      · exact ⟨by simp, by simp, by rw [World.cell?_alloc_new]; rfl⟩
      · exact ⟨by simp, by simp, by rw [World.cell?_alloc_new]; rfl⟩
      · exact ⟨by simp, by simp, by rw [World.cell?_alloc_new]; rfl⟩
      · exact ⟨by simp, by simp, by rw [World.cell?_alloc_new]; rfl⟩
      · exact ⟨by simp, by simp, by rw [World.cell?_alloc_new]; rfl⟩
  have hz : (w.alloc (.cells #[.int .i64 s, .int .i64 (g : Int), .slice none 0 0, .int .i64 0, .slice none 0 0, .slice none 0 0, .int .i64 0, .int .i64 0] 136)).heap.size = w.heap.size + 1 := by simp
  have hT0 : ((w.alloc (.cells #[.int .i64 s, .int .i64 (g : Int), .slice none 0 0, .int .i64 0, .slice none 0 0, .slice none 0 0, .int .i64 0, .int .i64 0] 136)).alloc (.cells #[.slice none 0 0, .slice none 0 0] 74)).cell? ⟨w.heap.size + 1, 0, none⟩ = some (.slice none 0 0) := by rw [← hz, World.cell?_alloc_new]; rfl
  have hT1 : ((w.alloc (.cells #[.int .i64 s, .int .i64 (g : Int), .slice none 0 0, .int .i64 0, .slice none 0 0, .slice none 0 0, .int .i64 0, .int .i64 0] 136)).alloc (.cells #[.slice none 0 0, .slice none 0 0] 74)).cell? ⟨w.heap.size + 1, 1, none⟩ = some (.slice none 0 0) := by rw [← hz, World.cell?_alloc_new]; rfl
  have hF : ∀ j, ((w.alloc (.cells #[.int .i64 s, .int .i64 (g : Int), .slice none 0 0, .int .i64 0, .slice none 0 0, .slice none 0 0, .int .i64 0, .int .i64 0] 136)).alloc (.cells #[.slice none 0 0, .slice none 0 0] 74)).frozen? ⟨w.heap.size + 1, j, none⟩ = false := fun j => by rw [← hz]; exact World.frozen?_alloc_at _ _ _ _ rfl
  refine ⟨hp.grown hb, ⟨rfl, rfl, rfl⟩, hT0, hT1, hF 0, hF 1, OwnRec.nil _ _ _ _ _, OwnRec.nil _ _ _ _ _, ⟨Nat.le_refl _, by omega⟩, fun k hk => ?_, fun k hk => by simp [Value.ownBlock] at hk, rfl, fun i hi => by simp at hi, rfl, fun i hi => by simp at hi, fun i hi => by simp at hi⟩
  rcases hk with hk | hk
  · exact ⟨by omega, by simp [Value.ownBlock], by simp [Value.ownBlock]⟩
  · simp [Value.ownBlock] at hk

set_option maxRecDepth 100000 in
set_option maxHeartbeats 4000000 in
theorem undone_any (a b : Int) (ao : Option Addr) (n c : Nat) (sc : List StD) (w : World) (a1 : -9223372036854775808 ≤ a) (a2 : a ≤ 9223372036854775807) (b1 : -9223372036854775808 ≤ b) (b2 : b ≤ 9223372036854775807)
    (hsc : ScriptAt w.heap.size w ao sc) (hn : sc.length = n) (hn2 : n ≤ 9000000000000000000) :
    Calls Try.prog 8 #[.int .i64 a, .int .i64 b, .slice ao n c] w fun e w' => e = .returned (.bool true) ∧ Below w.heap.size w w' := by
  have pa := Mk.pk_bd a 99991 (by decide)
  have pb := Mk.pk_bd b 20 (by decide)
  have hs : Mk.isM (Mk.pk a 99991) = true := (Mk.isM_iff _).2 pa
  obtain ⟨g, hg⟩ := Int.eq_ofNat_of_zero_le (show 0 ≤ 1 + Mk.pk b 20 by omega)
  have hg1 : 1 ≤ g := by omega
  have hg2 : g ≤ 20 := by omega
  have HG : Hid (1 + Mk.pk b 20 = (g : Int)) := hg
  have HS : Hid (ScriptAt w.heap.size w ao sc) := hsc
  have HN : Hid (sc.length = n) := hn
  clear hg hsc hn
  go_enter Try.func8, Try.ntmps8
  go_wp2_with (go_at_call 35; refine (seeded_any a b _ a1 a2 b1 b2).mono ?_; rintro e w' ⟨rfl, rfl⟩; rw [HG.out])
  generalize Mk.pk a 99991 = s at *
  refine (opened_yes s g _ hs (by omega) (by omega)).mono ?_
  rintro e w1 ⟨rfl, hw1⟩
  have hui := ui_new w s g
  rw [hw1] at hui
  have hb1 : Below w.heap.size w w1 := by rw [← hw1]; exact (Below.refl _ _).alloc (Nat.le_refl _) _
  have hz1 : w1.heap.size = w.heap.size + 1 := by rw [← hw1]; simp
  have hb2 := hb1.alloc hb1.size (.cells #[.slice none 0 0, .slice none 0 0] 74)
  clear hw1 hb1
  go_wp2
  generalize w1.alloc (.cells #[.slice none 0 0, .slice none 0 0] 74) = w2 at *
  have HB2 : Hid (Below w.heap.size w w2) := hb2
  have HU2 : Hid (UEx w.heap.size w.heap.size (w.heap.size + 1) s g w2) := ⟨_, _, _, _, _, _, _, _, _, hui⟩
  generalize hB0 : w.heap.size = B0 at *
  have HB0 : Hid (w.heap.size = B0) := hB0
  clear hb2 hui hB0 hz1
  go_loopw [11, 12] (fun o i wr => o = .bool true ∧ ∃ k : Nat, k ≤ n ∧ i = .int .i64 k ∧ UEx B0 B0 (B0 + 1) s g wr ∧ Below B0 w wr) (fun _ i _ => n - (intOf i).toNat)
  case atStart => exact ⟨rfl, 0, Nat.zero_le _, rfl, HU2.out, HB2.out⟩
  case round =>
    obtain ⟨rfl, k, hk, rfl, ⟨h, xs, bls, ps, v, vb, vl, bs, ls, hu⟩, hbl⟩ := hrel
    have HU : Hid (UI B0 B0 (B0 + 1) s g h xs bls ps v vb vl bs ls wr) := hu
    clear hu
    by_cases hlt : k < n
    · have hscr := HS.out.below hbl (by rw [HB0.out]; exact Nat.le_refl _)
      rcases hscr.row with hnil | ⟨gs, os, rfl, hrow⟩
      · have := HN.out; rw [hnil] at this; simp at this; omega
      have hkl : k < sc.length := by rw [HN.out]; exact hlt
      have c0 : wr.cell? ⟨gs, os + k * 5, none⟩ = some (.int .i64 (sc.getD k dSt).k) := rcell st5 dSt hrow k hkl 0 (by omega)
      have c3 : wr.cell? ⟨gs, os + k * 5 + 3, none⟩ = some (.slice (sc.getD k dSt).bk.ao (sc.getD k dSt).bk.n (sc.getD k dSt).bk.c) := rcell st5 dSt hrow k hkl 3 (by omega)
      have hok := hscr.ok _ (getD_mem sc dSt k hkl)
      clear hrow hscr
      generalize sc.getD k dSt = y at c0 c3 hok
      obtain ⟨yk, ya, yb, ⟨yao, yn, yc⟩, yoo, yon, yoc, ybl⟩ := y
      simp only at c0 c3 hok
      have HOK : Hid (BkOk B0 wr ⟨yao, yn, yc⟩ ybl) := hok
      clear hok
      by_cases k1 : yk = 1
      · subst k1
        go_wp2_with fail
        refine (on_any B0 B0 (B0 + 1) s g h xs bls ps v vb vl bs ls yao yn yc ybl _ hs hg1 hg2 HU.out HOK.out).mono ?_
        rintro e w5 ⟨rfl, hu5, hb5⟩
        go_wp2
        go_roundw
        case rel => exact ⟨rfl, k + 1, by omega, by go_num, hu5, hbl.trans hb5⟩
        case measure => simp [intOf]; omega
      · have k1' : (yk == 1) = false := by rw [beq_eq_false_iff_ne]; exact k1
        by_cases k2 : yk = 2
        · subst k2
          go_wp2_with fail
          refine (off_any B0 B0 (B0 + 1) s g h xs bls ps v vb vl bs ls _ hs hg1 hg2 HU.out).mono ?_
          rintro e w5 ⟨rfl, hu5, hb5⟩
          go_wp2
          go_roundw
          case rel => exact ⟨rfl, k + 1, by omega, by go_num, hu5, hbl.trans hb5⟩
          case measure => simp [intOf]; omega
        · have k2' : (yk == 2) = false := by rw [beq_eq_false_iff_ne]; exact k2
          go_wp2
          go_roundw
          case rel => exact ⟨rfl, k + 1, by omega, by go_num, ⟨h, xs, bls, ps, v, vb, vl, bs, ls, HU.out⟩, hbl⟩
          case measure => simp [intOf]; omega
    · obtain ⟨fU, fV, fL, f40, fbl, fps⟩ := Hst.facts h xs bls ps HU.out.hst
      have HV : Hid (Vals xs) := fV
      have HL : Hid (xs.length ≤ 2000) := by show _ ≤ _; omega
      have hbbs : bs.length = h := by rw [HU.out.bl, fbl]
      obtain ⟨ab, cb, hvb, _⟩ := OwnRec.at bk1 HU.out.ob
      rw [hbbs] at hvb
      subst hvb
      clear fU fV fL
      go_wp2_with fail
      clear hlt
      refine (pLooked_any B0 s g v h xs _ hs hg1 hg2 HU.out.pat (by have := HL.out; omega) HV.out).mono ?_
      rintro e w3 ⟨ac, cc, rfl, ho3, hb3⟩
      have hz3 := hb3.size
      have hbA : Below w3.heap.size w3 (w3.alloc (.cells #[.int .i64 h, .int .i64 (winZ xs s g 0), .int .i64 (winZ xs s g 1), .int .i64 (sumC (ownOf xs s g)), .int .i64 (sumC (ownOf xs s g)), .slice ac (ownOf xs s g).length cc] 81)) := (Below.refl _ _).alloc (Nat.le_refl _) _
      have hL4 : LookIn (w3.alloc (.cells #[.int .i64 h, .int .i64 (winZ xs s g 0), .int .i64 (winZ xs s g 1), .int .i64 (sumC (ownOf xs s g)), .int .i64 (sumC (ownOf xs s g)), .slice ac (ownOf xs s g).length cc] 81)) s g h xs w3.heap.size ac cc := ⟨VB.new _ _ _ _ _ _ _ _, owns_lower (ho3.grown hbA) (Nat.zero_le _)⟩
      have HCB : Hid (∀ q, (Value.slice ac (ownOf xs s g).length cc).ownBlock = some q → wr.heap.size ≤ q ∧ q < w3.heap.size) := ho3.blk
      have hb4 := hb3.trans (hbA.mono hz3)
      have hz4 : (w3.alloc (.cells #[.int .i64 h, .int .i64 (winZ xs s g 0), .int .i64 (winZ xs s g 1), .int .i64 (sumC (ownOf xs s g)), .int .i64 (sumC (ownOf xs s g)), .slice ac (ownOf xs s g).length cc] 81)).heap.size = w3.heap.size + 1 := by simp
      go_upto_region 18 with fail
      generalize w3.alloc (.cells #[.int .i64 h, .int .i64 (winZ xs s g 0), .int .i64 (winZ xs s g 1), .int .i64 (sumC (ownOf xs s g)), .int .i64 (sumC (ownOf xs s g)), .slice ac (ownOf xs s g).length cc] 81) = w4 at *
      have HU4 : Hid (UI B0 B0 (B0 + 1) s g h xs bls ps v (.slice ab h cb) vl bs ls w4) := HU.out.grown hb4
      have HL4 : Hid (LookIn w4 s g h xs w3.heap.size ac cc) := hL4
      have hBz := HU.out.big
      have HB4 : Hid (Below B0 w w4) := hbl.trans (hb4.mono (by omega))
      have HPB : Hid (∀ q, chE B0 v q → B0 ≤ q ∧ q < wr.heap.size) := HU.out.pat.blk
      clear hL4 hbA ho3 hb3 hb4
      have t0 := HU4.out.t0
      go_upto_if 76 with fail
      go_cut [14, 15, 16, 17, 18, 19] (fun _ _ _ _ _ _ wx => ∃ v', PAt wx B0 s g v' h xs ∧ LookIn wx s g h xs w3.heap.size ac cc ∧ ¬ chE B0 v' w3.heap.size ∧ (∀ q, (Value.slice ac (ownOf xs s g).length cc).ownBlock = some q → ¬ chE B0 v' q) ∧ Below B0 w wx)
      case first =>
        cases h with
        | zero =>
          go_wp2_with fail
          go_meet
          exact ⟨v, HU4.out.pat, HL4.out, fun e => by have := (HPB.out _ e).2; omega, fun q hq e => by have := (HPB.out _ e).2; have := (HCB.out q hq).1; omega, HB4.out⟩
        | succ h =>
          obtain ⟨p, bls0, ps0, bl, rfl, rfl, hst0, hcon, htb⟩ := hst_last HU4.out.hst
          obtain ⟨gU, gV, gL, g40, gbl, gps⟩ := Hst.facts h p bls0 ps0 hst0
          obtain ⟨gb, hgb, _, _, hbrow, _⟩ := own_some bk1 HU4.out.ob hbbs (by omega)
          subst hgb
          have m0 := rcell bk1 dBk hbrow h (by omega) 0 (by omega)
          have hbo := HU4.out.bo h (by rw [fbl]; omega)
          have ebb : (bls0 ++ [bl]).getD h [] = bl := by rw [getD_app_right _ _ _ _ (by omega), gbl, Nat.sub_self]; rfl
          rw [ebb] at hbo
          generalize bs.getD h dBk = y at m0 hbo
          obtain ⟨yao, yn, yc⟩ := y
          have r0 : w4.cell? ⟨gb, h, none⟩ = some (.slice yao yn yc) := by rw [Nat.zero_add, Nat.mul_one] at m0; exact m0
          have HBO : Hid (BkOk B0 w4.drew ⟨yao, yn, yc⟩ bl) := hbo.below ((Below.refl B0 w4).drew) (by omega)
          have HCON : Hid (connZ h p bl = (0, 0, (h : Int) + 1, xs)) := hcon
          have HTB : Hid (tbZ h xs = p) := htb
          have HGV : Hid (Vals p) := gV
          have HGL : Hid (p.length ≤ 2000) := by show _ ≤ _; omega
          have HPA : Hid (PAt w4 B0 s g v ((h : Int) + 1) xs) := by have := HU4.out.pat; push_cast at this; exact this
          clear m0 hbo hbrow ebb hcon htb gU gV gL
          generalize hki : h + 1 = K at *
          have HKI : Hid (h + 1 = K) := hki
          have hkb : ∀ w2, Below w4.drew.heap.size w4.drew w2 → w2.cell? ⟨B0 + 1, 0, none⟩ = some (.slice (some ⟨gb, 0, none⟩) K cb) ∧ w2.cell? ⟨gb, h, none⟩ = some (.slice yao yn yc) := fun w2 hb => ⟨(hb.cell (p := ⟨B0 + 1, 0, none⟩) (cell_lt t0)).trans t0, (hb.cell (p := ⟨gb, h, none⟩) (cell_lt r0)).trans r0⟩
          have HKB : Hid _ := hkb
          clear hkb
          have e3 : (h : Int) < (K : Int) := by omega
          have e4 : (0 : Int) ≤ (h : Int) := by omega
          have hw1 : IntKind.i64.wrap ((K : Int) - 1) = h := by rw [show (K : Int) - 1 = h by omega]; exact IntWalk.i64_in _ ⟨by omega, by omega⟩
          have hK0 : 0 < K := by omega
          have hd : decide ((0 : Int) < (K : Int)) = true := by rw [decide_eq_true_iff]; omega
          clear hki
          go_upto_region 19 with fail
          go_region_held3 (fun w' => w'.cell? ⟨B0 + 1, 0, none⟩ = some (.slice (some ⟨gb, 0, none⟩) K cb) ∧ w'.cell? ⟨gb, h, none⟩ = some (.slice yao yn yc)) (first | assumption | go_keep) ((go_at_call 40; refine (copyBlock_any (fun q => q < B0) yao yn yc bl _ HBO.out.at_ HBO.out.len HBO.out.sm HBO.out.sz (fun q hq => by have := HU4.out.big; rw [World.size_drew]; omega)).mono ?_; rintro e w5 ⟨ao5, c5, bl5, rfl, hbl5, hkk5, hblk5, hb5⟩; have hk9 := HKB.out w5 hb5))
          have bW5 : Below w4.heap.size w4 w5 := ((Below.refl w4.heap.size w4).drew).trans hb5
          have hz5 : w4.heap.size ≤ w5.heap.size := bW5.size
          have HPA5 : Hid (PAt w5 B0 s g v ((h : Int) + 1) xs) := HPA.out.grown bW5
          have HL5 : Hid (LookIn w5 s g K xs w3.heap.size ac cc) := HL4.out.grown bW5
          have HBK5 : Hid (BlkAt (fun q => w4.heap.size ≤ q ∧ q < w5.heap.size) w5 ao5 bl5) := hblk5
          have HKK5 : Hid (connZ h p bl5 = (0, 0, (h : Int) + 1, xs)) := by rw [connZ_k h p bl5 bl hkk5]; exact HCON.out
          have HBL5 : Hid (bl5.length = yn) := hbl5
          have HB5 : Hid (Below B0 w w5) := HB4.out.trans (bW5.mono (by omega))
          have hynz : yn ≤ 2513169434916 := HBO.out.sz
          clear hk9 HKB hblk5 hkk5 hbl5 hb5 bW5 r0
          go_wp2_with fail
          refine (pDis_any B0 s g v ((h : Int) + 1) xs _ HPA5.out (by have := HL.out; omega) (by omega) (by omega)).mono ?_
          rintro e w6 ⟨rfl, v6, hp6, hst6⟩
          rw [show (h : Int) + 1 - 1 = (h : Int) by omega, HTB.out] at hp6
          have hz6 := hst6.fr.size
          have HP6 : Hid (PAt w6 B0 s g v6 h p) := hp6
          have hcv6 : ∀ q, chE B0 v6 q → q < wr.heap.size ∨ w5.heap.size ≤ q := fun q hq => by
            rcases hq with e | e
            · left; have := (HPB.out q (Or.inl e)).2; omega
            · rcases hst6.own q e with e' | e'
              · left; have := (HPB.out q (Or.inr e')).2; omega
              · right; exact e'
          have HC6 : Hid _ := hcv6
          have HL6 : Hid (LookIn w6 s g K xs w3.heap.size ac cc) := HL5.out.fr hst6.fr (fun e => by have := (HPB.out _ e).2; omega) (fun q hq e => by have := (HPB.out _ e).2; have := (HCB.out q hq).1; omega)
          have HBK6 : Hid (BlkAt (fun q => w4.heap.size ≤ q ∧ q < w5.heap.size) w6 ao5 bl5) := HBK5.out.fr hst6.fr (fun q hq e => by have := (HPB.out _ e).2; omega)
          have HB6 : Hid (Below B0 w w6) := HB5.out.trans (hst6.fr.toBelow B0 (by omega) (fun q hq => (HPB.out q hq).1))
          clear hp6 hst6 hcv6 HPA5 HL5 HBK5 HB5
          go_wp2_with fail
          refine (pConnect_any B0 s g v6 h p (fun q => w4.heap.size ≤ q ∧ q < w5.heap.size) ao5 yn c5 bl5 _ HP6.out (by have := HGL.out; omega) HGV.out (by omega) HBK6.out HBL5.out (fun q hq => ⟨by omega, fun e => by rcases HC6.out q e with e' | e' <;> omega⟩) (by omega)).mono ?_
          rintro e w7 ⟨rfl, v7, hp7, hst7⟩
          rw [HKK5.out] at hp7 ⊢
          simp only at hp7 ⊢
          have hz7 := hst7.fr.size
          have HP7 : Hid (PAt w7 B0 s g v7 ((h : Int) + 1) xs) := hp7
          have hcv7 : ∀ q, chE B0 v7 q → q < wr.heap.size ∨ w5.heap.size ≤ q := fun q hq => by
            rcases hq with e | e
            · left; have := (HPB.out q (Or.inl e)).2; omega
            · rcases hst7.own q e with e' | e'
              · exact HC6.out q (Or.inr e')
              · right; omega
          have HC7 : Hid _ := hcv7
          have HL7 : Hid (LookIn w7 s g K xs w3.heap.size ac cc) := HL6.out.fr hst7.fr (fun e => by rcases HC6.out _ e with e' | e' <;> omega) (fun q hq e => by have := (HCB.out q hq); rcases HC6.out _ e with e' | e' <;> omega)
          have HPB6 : Hid (∀ q, chE B0 v6 q → B0 ≤ q ∧ q < w6.heap.size) := HP6.out.blk
          have HB7 : Hid (Below B0 w w7) := HB6.out.trans (hst7.fr.toBelow B0 (by omega) (fun q hq => (HPB6.out q hq).1))
          clear hp7 hst7 hcv7 HL6 HBK6 HB6
          go_wp2_with fail
          refine (pLooked_any B0 s g v7 ((h : Int) + 1) xs _ hs hg1 hg2 HP7.out (by have := HL.out; omega) HV.out).mono ?_
          rintro e w8 ⟨ac5, cc5, rfl, ho8, hb8⟩
          have hbA : Below w8.heap.size w8 (w8.alloc (.cells #[.int .i64 ((h : Int) + 1), .int .i64 (winZ xs s g 0), .int .i64 (winZ xs s g 1), .int .i64 (sumC (ownOf xs s g)), .int .i64 (sumC (ownOf xs s g)), .slice ac5 (ownOf xs s g).length cc5] 81)) := (Below.refl _ _).alloc (Nat.le_refl _) _
          have hL9 : VB (w8.alloc (.cells #[.int .i64 ((h : Int) + 1), .int .i64 (winZ xs s g 0), .int .i64 (winZ xs s g 1), .int .i64 (sumC (ownOf xs s g)), .int .i64 (sumC (ownOf xs s g)), .slice ac5 (ownOf xs s g).length cc5] 81)) w8.heap.size (.int .i64 ((h : Int) + 1)) (.int .i64 (winZ xs s g 0)) (.int .i64 (winZ xs s g 1)) (.int .i64 (sumC (ownOf xs s g))) (.int .i64 (sumC (ownOf xs s g))) (.slice ac5 (ownOf xs s g).length cc5) ∧ OwnRec CoinD.l 143 6 (w8.alloc (.cells #[.int .i64 ((h : Int) + 1), .int .i64 (winZ xs s g 0), .int .i64 (winZ xs s g 1), .int .i64 (sumC (ownOf xs s g)), .int .i64 (sumC (ownOf xs s g)), .slice ac5 (ownOf xs s g).length cc5] 81)) 0 (.slice ac5 (ownOf xs s g).length cc5) (ownOf xs s g) := ⟨VB.new _ _ _ _ _ _ _ _, owns_lower (ho8.grown hbA) (Nat.zero_le _)⟩
          have hL9b := (HL7.out.grown hb8).grown hbA
          have hb9 := below_blk hb8 hbA
          go_upto_region 23 with fail
          generalize w8.alloc (.cells #[.int .i64 ((h : Int) + 1), .int .i64 (winZ xs s g 0), .int .i64 (winZ xs s g 1), .int .i64 (sumC (ownOf xs s g)), .int .i64 (sumC (ownOf xs s g)), .slice ac5 (ownOf xs s g).length cc5] 81) = w9 at *
          have hFIN : ∀ w10, Below w9.heap.size w9 w10 → ∃ v', PAt w10 B0 s g v' K xs ∧ LookIn w10 s g K xs w3.heap.size ac cc ∧ ¬ chE B0 v' w3.heap.size ∧ (∀ q, (Value.slice ac (ownOf xs s g).length cc).ownBlock = some q → ¬ chE B0 v' q) ∧ Below B0 w w10 := fun w10 h10 => by
            have hb10 := below_blk hb9 h10
            have hKe := HKI.out
            refine ⟨v7, ?_, HL7.out.grown hb10, fun e => by rcases HC7.out _ e with e' | e' <;> omega, fun q hq e => by have := (HCB.out q hq); rcases HC7.out _ e with e' | e' <;> omega, HB7.out.trans (hb10.mono (by omega))⟩
            rw [← hKe]
            push_cast
            exact HP7.out.grown hb10
          have HFIN : Hid _ := hFIN
          obtain ⟨ca, cca, ea, hata⟩ := OwnRec.at coin6 hL9b.ow
          injection ea with ea1 _ _
          subst ea1
          obtain ⟨cb2, ccb, eb, hatb⟩ := OwnRec.at coin6 hL9.2
          injection eb with eb1 _ _
          subst eb1
          have HTA : Hid (RecAt CoinD.l w9 ac (ownOf xs s g)) := hata
          have HTB2 : Hid (RecAt CoinD.l w9 ac5 (ownOf xs s g)) := hatb
          have HOL : Hid ((ownOf xs s g).length ≤ 10000) := by show _ ≤ _; have := ownOf_len xs s g; have := HL.out; omega
          obtain ⟨p0, p1, p2, p3, p4, p5, _⟩ := hL9b.vb
          obtain ⟨q0, q1, q2, q3, q4, q5, _⟩ := hL9.1
          clear hFIN hL9 hL9b hb8 hbA hb9 ho8 hata hatb
          have HK1 : Hid ((K : Int) + 0 = (h : Int) + 1) := by show _ = _; have := HKI.out; omega
          have HK2 : Hid (0 ≤ (K : Int) ∧ (K : Int) ≤ 100) := by show _ ∧ _; have := HKI.out; omega
          go_wp2_with (go_at_call 42; refine (alike_any (K : Int) ((h : Int) + 1) 0 (winZ xs s g 0 : Int) (winZ xs s g 1 : Int) (sumC (ownOf xs s g)) (sumC (ownOf xs s g)) ac ac5 (ownOf xs s g).length _ _ (ownOf xs s g) _ HTA.out HTB2.out rfl HOL.out HK1.out HK2.out (by omega)).mono ?_; rintro e w10 ⟨rfl, hb10⟩)
          go_meet
          exact HFIN.out w10 hb10
      case rest =>
        obtain ⟨v5, hp5, hl5, hn1, hn2, hb5⟩ := hcut
        have HP5 : Hid (PAt wc B0 s g v5 h xs) := hp5
        have HL5 : Hid (LookIn wc s g h xs w3.heap.size ac cc) := hl5
        have HB5 : Hid (Below B0 w wc) := hb5
        have HPB5 : Hid (∀ q, chE B0 v5 q → B0 ≤ q ∧ q < wc.heap.size) := hp5.blk
        have hBc : B0 < wc.heap.size := cell_lt hp5.c0
        have HEM : Hid (BlkAt (fun _ => False) wc none []) := ⟨Or.inl rfl, fun h => absurd rfl h, fun x hx => by simp at hx⟩
        clear hp5 hl5 hb5 t0
        go_wp2_with fail
        refine (pConnect_any B0 s g v5 h xs (fun _ => False) none 0 0 [] _ HP5.out (by have := HL.out; omega) HV.out (by omega) HEM.out rfl (fun _ h => h.elim) (by omega)).mono ?_
        rintro e w6 ⟨rfl, v6, hp6, hst6⟩
        have HL6 : Hid (LookIn w6 s g h xs w3.heap.size ac cc) := HL5.out.fr hst6.fr hn1 hn2
        have HB6 : Hid (Below B0 w w6) := HB5.out.trans (hst6.fr.toBelow B0 (by omega) (fun q hq => (HPB5.out q hq).1))
        have hBz6 : B0 ≤ w6.heap.size := by have := hst6.fr.size; omega
        clear hst6 hn1 hn2 HL5 HB5 HPB5 HP5 HEM
        by_cases h40 : 40 ≤ h
        · have HC : Hid (connZ h xs [] = (3, 0, (h : Int), xs)) := by show _ = _; unfold connZ; rw [if_pos (by omega)]
          rw [HC.out] at hp6 ⊢
          simp only at hp6 ⊢
          have HP6 : Hid (PAt w6 B0 s g v6 h xs) := hp6
          clear hp6 HC
          have g40 : decide ((40 : Int) ≤ (h : Int)) = true := by rw [decide_eq_true_iff]; omega
          go_wp2_with fail
          refine (pLooked_any B0 s g v6 h xs _ hs hg1 hg2 HP6.out (by have := HL.out; omega) HV.out).mono ?_
          rintro e w7 ⟨ac5, cc5, rfl, ho7, hb7⟩
          have hbA : Below w7.heap.size w7 (w7.alloc (.cells #[.int .i64 h, .int .i64 (winZ xs s g 0), .int .i64 (winZ xs s g 1), .int .i64 (sumC (ownOf xs s g)), .int .i64 (sumC (ownOf xs s g)), .slice ac5 (ownOf xs s g).length cc5] 81)) := (Below.refl _ _).alloc (Nat.le_refl _) _
          have hL8 : VB (w7.alloc (.cells #[.int .i64 h, .int .i64 (winZ xs s g 0), .int .i64 (winZ xs s g 1), .int .i64 (sumC (ownOf xs s g)), .int .i64 (sumC (ownOf xs s g)), .slice ac5 (ownOf xs s g).length cc5] 81)) w7.heap.size (.int .i64 h) (.int .i64 (winZ xs s g 0)) (.int .i64 (winZ xs s g 1)) (.int .i64 (sumC (ownOf xs s g))) (.int .i64 (sumC (ownOf xs s g))) (.slice ac5 (ownOf xs s g).length cc5) ∧ OwnRec CoinD.l 143 6 (w7.alloc (.cells #[.int .i64 h, .int .i64 (winZ xs s g 0), .int .i64 (winZ xs s g 1), .int .i64 (sumC (ownOf xs s g)), .int .i64 (sumC (ownOf xs s g)), .slice ac5 (ownOf xs s g).length cc5] 81)) 0 (.slice ac5 (ownOf xs s g).length cc5) (ownOf xs s g) := ⟨VB.new _ _ _ _ _ _ _ _, owns_lower (ho7.grown hbA) (Nat.zero_le _)⟩
          have hL8b := (HL6.out.grown hb7).grown hbA
          have hb8 := below_blk hb7 hbA
          go_upto_region 28 with fail
          generalize w7.alloc (.cells #[.int .i64 h, .int .i64 (winZ xs s g 0), .int .i64 (winZ xs s g 1), .int .i64 (sumC (ownOf xs s g)), .int .i64 (sumC (ownOf xs s g)), .slice ac5 (ownOf xs s g).length cc5] 81) = w8 at *
          obtain ⟨ca, cca, ea, hata⟩ := OwnRec.at coin6 hL8b.ow
          injection ea with ea1 _ _
          subst ea1
          obtain ⟨cb2, ccb, eb, hatb⟩ := OwnRec.at coin6 hL8.2
          injection eb with eb1 _ _
          subst eb1
          have HTA : Hid (RecAt CoinD.l w8 ac (ownOf xs s g)) := hata
          have HTB : Hid (RecAt CoinD.l w8 ac5 (ownOf xs s g)) := hatb
          have HOL : Hid ((ownOf xs s g).length ≤ 10000) := by show _ ≤ _; have := ownOf_len xs s g; have := HL.out; omega
          obtain ⟨p0, p1, p2, p3, p4, p5, _⟩ := hL8b.vb
          obtain ⟨q0, q1, q2, q3, q4, q5, _⟩ := hL8.1
          have HFIN : Hid (∀ w9, Below w8.heap.size w8 w9 → Below B0 w w9) := fun w9 h9 => HB6.out.trans ((below_blk hb8 h9).mono (by omega))
          clear hL8 hL8b hb7 hbA hb8 ho7 hata hatb
          generalize w7.heap.size = L2 at *
          generalize w3.heap.size = L1 at *
          clear HU4 HL4 HB4 HPB HCB HL6 HU HV HL HB6 HP6
          generalize sumC (ownOf xs s g) = SC at *
          generalize winZ xs s g 0 = W0 at *
          generalize winZ xs s g 1 = W1 at *
          generalize ownOf xs s g = oc at *
          generalize hol : oc.length = ol at *
          have HOE : Hid (oc.length = ol) := hol
          have HOM : Hid (ol ≤ 10000) := HOL.out
          clear hol HOL
          go_wp2_with (go_at_call 42; refine (alike_any (h : Int) (h : Int) 0 (W0 : Int) (W1 : Int) SC SC ac ac5 ol _ _ oc _ HTA.out HTB.out HOE.out HOM.out (by omega) (by omega) (by omega)).mono ?_; rintro e w9 ⟨rfl, hb9⟩)
          go_ret
          exact ⟨rfl, by rw [HB0.out]; exact HFIN.out _ hb9⟩
        · have HC : Hid (connZ h xs [] = (0, 0, (h : Int) + 1, xs)) := by show _ = _; unfold connZ; rw [if_neg (by omega), if_neg (by simp)]; rfl
          rw [HC.out] at hp6 ⊢
          simp only at hp6 ⊢
          have HP6 : Hid (PAt w6 B0 s g v6 ((h : Int) + 1) xs) := hp6
          clear hp6 HC
          have g40 : decide ((40 : Int) ≤ (h : Int)) = false := by rw [decide_eq_false_iff_not]; omega
          go_wp2_with fail
          refine (pLooked_any B0 s g v6 ((h : Int) + 1) xs _ hs hg1 hg2 HP6.out (by have := HL.out; omega) HV.out).mono ?_
          rintro e w7 ⟨ac5, cc5, rfl, ho7, hb7⟩
          have hbA : Below w7.heap.size w7 (w7.alloc (.cells #[.int .i64 ((h : Int) + 1), .int .i64 (winZ xs s g 0), .int .i64 (winZ xs s g 1), .int .i64 (sumC (ownOf xs s g)), .int .i64 (sumC (ownOf xs s g)), .slice ac5 (ownOf xs s g).length cc5] 81)) := (Below.refl _ _).alloc (Nat.le_refl _) _
          have hL8 : VB (w7.alloc (.cells #[.int .i64 ((h : Int) + 1), .int .i64 (winZ xs s g 0), .int .i64 (winZ xs s g 1), .int .i64 (sumC (ownOf xs s g)), .int .i64 (sumC (ownOf xs s g)), .slice ac5 (ownOf xs s g).length cc5] 81)) w7.heap.size (.int .i64 ((h : Int) + 1)) (.int .i64 (winZ xs s g 0)) (.int .i64 (winZ xs s g 1)) (.int .i64 (sumC (ownOf xs s g))) (.int .i64 (sumC (ownOf xs s g))) (.slice ac5 (ownOf xs s g).length cc5) ∧ OwnRec CoinD.l 143 6 (w7.alloc (.cells #[.int .i64 ((h : Int) + 1), .int .i64 (winZ xs s g 0), .int .i64 (winZ xs s g 1), .int .i64 (sumC (ownOf xs s g)), .int .i64 (sumC (ownOf xs s g)), .slice ac5 (ownOf xs s g).length cc5] 81)) 0 (.slice ac5 (ownOf xs s g).length cc5) (ownOf xs s g) := ⟨VB.new _ _ _ _ _ _ _ _, owns_lower (ho7.grown hbA) (Nat.zero_le _)⟩
          have hL8b := (HL6.out.grown hb7).grown hbA
          have hb8 := below_blk hb7 hbA
          go_upto_region 28 with fail
          generalize w7.alloc (.cells #[.int .i64 ((h : Int) + 1), .int .i64 (winZ xs s g 0), .int .i64 (winZ xs s g 1), .int .i64 (sumC (ownOf xs s g)), .int .i64 (sumC (ownOf xs s g)), .slice ac5 (ownOf xs s g).length cc5] 81) = w8 at *
          obtain ⟨ca, cca, ea, hata⟩ := OwnRec.at coin6 hL8b.ow
          injection ea with ea1 _ _
          subst ea1
          obtain ⟨cb2, ccb, eb, hatb⟩ := OwnRec.at coin6 hL8.2
          injection eb with eb1 _ _
          subst eb1
          have HTA : Hid (RecAt CoinD.l w8 ac (ownOf xs s g)) := hata
          have HTB : Hid (RecAt CoinD.l w8 ac5 (ownOf xs s g)) := hatb
          have HOL : Hid ((ownOf xs s g).length ≤ 10000) := by show _ ≤ _; have := ownOf_len xs s g; have := HL.out; omega
          obtain ⟨p0, p1, p2, p3, p4, p5, _⟩ := hL8b.vb
          obtain ⟨q0, q1, q2, q3, q4, q5, _⟩ := hL8.1
          have HFIN : Hid (∀ w9, Below w8.heap.size w8 w9 → Below B0 w w9) := fun w9 h9 => HB6.out.trans ((below_blk hb8 h9).mono (by omega))
          clear hL8 hL8b hb7 hbA hb8 ho7 hata hatb
          generalize w7.heap.size = L2 at *
          generalize w3.heap.size = L1 at *
          clear HU4 HL4 HB4 HPB HCB HL6 HU HV HL HB6 HP6
          generalize sumC (ownOf xs s g) = SC at *
          generalize winZ xs s g 0 = W0 at *
          generalize winZ xs s g 1 = W1 at *
          generalize ownOf xs s g = oc at *
          generalize hol : oc.length = ol at *
          have HOE : Hid (oc.length = ol) := hol
          have HOM : Hid (ol ≤ 10000) := HOL.out
          clear hol HOL
          go_wp2_with (go_at_call 42; refine (alike_any (h : Int) ((h : Int) + 1) 1 (W0 : Int) (W1 : Int) SC SC ac ac5 ol _ _ oc _ HTA.out HTB.out HOE.out HOM.out rfl (by omega) (by omega)).mono ?_; rintro e w9 ⟨rfl, hb9⟩)
          go_ret
          exact ⟨rfl, by rw [HB0.out]; exact HFIN.out _ hb9⟩

end Go.Proofs.Ytffgpepngcnjeaa
