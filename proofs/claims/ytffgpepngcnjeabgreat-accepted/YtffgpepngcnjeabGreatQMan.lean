/-
  Found: a block with one coin more.
  Found: the indices, and a list without one of its numbers.
  Found: what the window comes to is found.
  Found: the beginning; what the deposits are.
  Funds: the deposits.
  Package payments: Add, walked.
-/
import Derived.Test.YtffgpepngcnjeabGreatQMam
import Derived.Test.YtffgpepngcnjeabGreatQMab
import Derived.Test.YtffgpepngcnjeabGreatQMaj
import Derived.Deep.RegionLaw
namespace Go.Proofs.YtffgpepngcnjeabGreatQ
open Go.RowKit
theorem outs_one (w : World) (b : Nat) (x y : Int) (h0 : w.cell? ⟨b, 0, none⟩ = some (.int .i64 x)) (h1 : w.cell? ⟨b, 1, none⟩ = some (.int .i64 y)) : OutsAt w (some ⟨b, 0, none⟩) [(x, y)] := by
  refine Or.inr ⟨b, 0, rfl, fun j hj => ?_⟩
  have e : j = 0 := by simp at hj; exact hj
  subst e
  exact ⟨h0, h1⟩
theorem idZ_mark (t : Int) (xs : List InD) (ys : List (Int × Int)) : Mk.isM (idZ t xs ys) = true := by
  unfold idZ
  split
  · exact (Mk.isM_iff _).2 (Mk.mixL_bd _ _ (by decide) (by decide))
  · decide
theorem keep4 {E : Nat → Prop} {w w' : World} {S T : Nat} {a0 b0 b1 b2 : Value} (hf : Fr E w w') (h : w.cell? ⟨S, 0, none⟩ = some a0 ∧ w.cell? ⟨T, 0, none⟩ = some b0 ∧ w.cell? ⟨T, 1, none⟩ = some b1 ∧ w.cell? ⟨T, 2, none⟩ = some b2) (hS : ¬ E S) (hT : ¬ E T) :
    w'.cell? ⟨S, 0, none⟩ = some a0 ∧ w'.cell? ⟨T, 0, none⟩ = some b0 ∧ w'.cell? ⟨T, 1, none⟩ = some b1 ∧ w'.cell? ⟨T, 2, none⟩ = some b2 :=
  ⟨hf.cell h.1 hS, hf.cell h.2.1 hT, hf.cell h.2.2.1 hT, hf.cell h.2.2.2 hT⟩
set_option maxRecDepth 100000 in
set_option maxHeartbeats 4000000 in
theorem mint_any (S P : Nat) (s : Int) (g h : Nat) (v vi vc : Value) (xs : List Cel) (ids : List Int) (cs : List CoinD) (ta val : Int) (w : World) (u : Sc S P s g h v vi vc xs ids cs w) (hids : ids = xs.map Cel.id) (hh : h < 40) (hl : xs.length ≤ 100) (hcl : cs.length ≤ 100) (hV : Vals xs) (hto : Mk.isM ta = true) (hval : 10 ≤ val ∧ val ≤ 1099511627776) :
    Calls Tryz.prog 33 #[.pointer (some ⟨S, 0, none⟩), .int .i64 ta, .int .i64 val] w fun e w' => e = .returned (.bool true) ∧ ∃ id v' vi' vc', Sc S P s g (h + 1) v' vi' vc' (xs ++ [⟨id, 0, ta, val, h, -1⟩]) (ids ++ [id]) (cs ++ [⟨id, 0, ta, val, 0, 0⟩]) w' ∧ ScStep P S v vi vc v' vi' vc' w w' ∧ id ∉ ids ∧ Mk.isM id = true := by
  have HU : Hid (Sc S P s g h v vi vc xs ids cs w) := u
  have HI : Hid (ids = xs.map Cel.id) := hids
  have HV : Hid (Vals xs) := hV
  have HTO : Hid (Mk.isM ta = true) := hto
  have HIL : Hid (ids.length ≤ 100) := by show _ ≤ _; rw [hids, List.length_map]; exact hl
  have HXL : Hid (xs.length ≤ 100) := hl
  have HCL : Hid (cs.length ≤ 100) := hcl
  have hil : ids.length ≤ 100 := HIL.out
  have hSl := u.big.1
  clear u hids hV hto hl hcl
  obtain ⟨ao, ci, evi, hat⟩ := OwnRec.at iv1 HU.out.oi
  subst evi
  have HIA : Hid (RecAt iV w ao ids) := hat
  clear hat
  generalize hnl : ids.length = n at *
  have HNL : Hid (ids.length = n) := hnl
  clear hnl
  go_enter Tryz.func33, Tryz.ntmps33
  go_wp2
  go_loopw [7] (fun i wr => ∃ k : Nat, k ≤ n + 1 ∧ i = .int .i64 k ∧ Hid (∀ j : Nat, j < k → depId (j : Int) ta val ∈ ids) ∧ Below w.heap.size w wr) (fun i _ => n + 1 - (intOf i).toNat)
  case atStart => exact ⟨0, Nat.zero_le _, rfl, fun j hj => by omega, Below.refl _ _⟩
  case round =>
    obtain ⟨k, hk, rfl, hold, hbl⟩ := hrel
    have hsz := hbl.size
    have HUr : Hid (Sc S P s g h v (.slice ao n ci) vc xs ids cs wr) := HU.out.grown hbl
    have s3 := HUr.out.c3
    by_cases hlt : k ≤ n
    · have hkI : (k : Int) ≤ (n : Int) := by omega
      have bA : Below wr.heap.size wr ((wr.alloc (.cells #[.int .i64 ta, .int .i64 val] 93)).alloc (.cells #[.int .i64 (k : Int), .slice none 0 0, .slice (some ⟨wr.heap.size, 0, none⟩) 1 1] 35)) := ((Below.refl _ _).alloc (Nat.le_refl _) _).alloc (by simp) _
      have o0 : ((wr.alloc (.cells #[.int .i64 ta, .int .i64 val] 93)).alloc (.cells #[.int .i64 (k : Int), .slice none 0 0, .slice (some ⟨wr.heap.size, 0, none⟩) 1 1] 35)).cell? ⟨wr.heap.size, 0, none⟩ = some (.int .i64 ta) := by go_simp
      have o1 : ((wr.alloc (.cells #[.int .i64 ta, .int .i64 val] 93)).alloc (.cells #[.int .i64 (k : Int), .slice none 0 0, .slice (some ⟨wr.heap.size, 0, none⟩) 1 1] 35)).cell? ⟨wr.heap.size, 1, none⟩ = some (.int .i64 val) := by go_simp
      have t0 : ((wr.alloc (.cells #[.int .i64 ta, .int .i64 val] 93)).alloc (.cells #[.int .i64 (k : Int), .slice none 0 0, .slice (some ⟨wr.heap.size, 0, none⟩) 1 1] 35)).cell? ⟨wr.heap.size + 1, 0, none⟩ = some (.int .i64 (k : Int)) := by go_simp
      have t1 : ((wr.alloc (.cells #[.int .i64 ta, .int .i64 val] 93)).alloc (.cells #[.int .i64 (k : Int), .slice none 0 0, .slice (some ⟨wr.heap.size, 0, none⟩) 1 1] 35)).cell? ⟨wr.heap.size + 1, 1, none⟩ = some (.slice none 0 0) := by go_simp
      have t2 : ((wr.alloc (.cells #[.int .i64 ta, .int .i64 val] 93)).alloc (.cells #[.int .i64 (k : Int), .slice none 0 0, .slice (some ⟨wr.heap.size, 0, none⟩) 1 1] 35)).cell? ⟨wr.heap.size + 1, 2, none⟩ = some (.slice (some ⟨wr.heap.size, 0, none⟩) 1 1) := by go_simp
      go_upto_region 5 with fail
      generalize ((wr.alloc (.cells #[.int .i64 ta, .int .i64 val] 93)).alloc (.cells #[.int .i64 (k : Int), .slice none 0 0, .slice (some ⟨wr.heap.size, 0, none⟩) 1 1] 35)) = w1 at *
      have hOl : wr.heap.size < w1.heap.size := cell_lt o0
      have hTl : wr.heap.size + 1 < w1.heap.size := cell_lt t0
      have hwO : w.heap.size ≤ wr.heap.size := hsz
      have HU1 : Hid (Sc S P s g h v (.slice ao n ci) vc xs ids cs w1) := HUr.out.grown bA
      have hb1 : Below w.heap.size w w1 := hbl.trans (bA.mono hsz)
      clear bA HUr s3
      generalize wr.heap.size = OB at *
      have HOU : Hid (OutsAt w1 (some ⟨OB, 0, none⟩) [(ta, val)]) := outs_one w1 OB ta val o0 o1
      go_wp2_with fail
      refine (pId_any (k : Int) none 0 0 (some ⟨OB, 0, none⟩) 1 1 [] [(ta, val)] _ (Or.inl rfl) rfl HOU.out rfl).mono ?_
      rintro e w2 ⟨rfl, hb2⟩
      have hz2 := hb2.size
      have HU2 : Hid (Sc S P s g h v (.slice ao n ci) vc xs ids cs w2) := HU1.out.grown hb2
      have hb02 : Below w.heap.size w w2 := hb1.trans (hb2.mono (by omega))
      have HOU2 : Hid (OutsAt w2 (some ⟨OB, 0, none⟩) [(ta, val)]) := HOU.out.grown hb2
      have p0 := (hb2.cell (p := ⟨OB + 1, 0, none⟩) hTl).trans t0
      have p1 := (hb2.cell (p := ⟨OB + 1, 1, none⟩) hTl).trans t1
      have p2 := (hb2.cell (p := ⟨OB + 1, 2, none⟩) hTl).trans t2
      have hTl2 : OB + 1 < w2.heap.size := by omega
      clear o0 o1 t0 t1 t2 HOU HU1 hb1 hb2
      have HID : Hid (depId (k : Int) ta val = idZ (k : Int) [] [(ta, val)]) := rfl
      have HIM : Hid (Mk.isM (idZ (k : Int) [] [(ta, val)]) = true) := idZ_mark _ _ _
      generalize idZ (k : Int) [] [(ta, val)] = id at *
      have s3 := HU2.out.c3
      have HIA2 : Hid (RecAt iV w2 ao ids) := HIA.out.grown hb02
      go_wp2_with fail
      refine (among_any ao n ci ids id _ HIA2.out HNL.out (by omega)).mono ?_
      rintro e w3 ⟨rfl, hb3⟩
      have hz3 := hb3.size
      have HU3 : Hid (Sc S P s g h v (.slice ao n ci) vc xs ids cs w3) := HU2.out.grown hb3
      have hb03 : Below w.heap.size w w3 := hb02.trans (hb3.mono (by omega))
      have HOU3 : Hid (OutsAt w3 (some ⟨OB, 0, none⟩) [(ta, val)]) := HOU2.out.grown hb3
      have q0 := (hb3.cell (p := ⟨OB + 1, 0, none⟩) hTl2).trans p0
      have q1 := (hb3.cell (p := ⟨OB + 1, 1, none⟩) hTl2).trans p1
      have q2 := (hb3.cell (p := ⟨OB + 1, 2, none⟩) hTl2).trans p2
      clear p0 p1 p2 HOU2 HU2 hb02 hb3 s3 HIA2
      have HMEM : Hid ((ids.any fun y => y == id) = true ↔ id ∈ ids) := by
        show _ ↔ _
        rw [List.any_eq_true]
        constructor
        · rintro ⟨y, hy, e⟩
          rw [← (by simpa using e : y = id)]
          exact hy
        · intro hm
          exact ⟨id, hm, by simp⟩
      generalize (ids.any fun y => y == id) = bo at *
      cases bo
      · have HNEW : Hid (id ∉ xs.map Cel.id) := by
          show ¬ _
          rw [← HI.out]
          intro hm
          have := HMEM.out.2 hm
          cases this
        have s0 := HU3.out.c0
        have hSl3 : S < w3.heap.size := cell_lt s0
        have hOl3 : OB < w3.heap.size := by omega
        have hTl3 : OB + 1 < w3.heap.size := by omega
        have HPB : Hid (∀ k, chE P v k → P ≤ k ∧ k < w3.heap.size) := HU3.out.pat.blk
        have HCE : Hid (∀ k, chE P v k → k < w.heap.size) := fun k hk => (HU.out.pat.blk k hk).2
        have bB : Below w3.heap.size w3 (w3.alloc (.cells #[.int .i64 (k : Int), .slice none 0 0, .slice (some ⟨OB, 0, none⟩) 1 1] 35)) := (Below.refl _ _).alloc (Nat.le_refl _) _
        have HPW : Hid (PAt ((w3.alloc (.cells #[.int .i64 (k : Int), .slice none 0 0, .slice (some ⟨OB, 0, none⟩) 1 1] 35)).drew) P s g v h xs) := (HU3.out.pat.grown bB).drew
        have HSW : Hid (Sc S P s g h v (.slice ao n ci) vc xs ids cs ((w3.alloc (.cells #[.int .i64 (k : Int), .slice none 0 0, .slice (some ⟨OB, 0, none⟩) 1 1] 35)).drew)) := HU3.out.grown bB.drew
        have HBK : Hid (BlkAt (fun q => q = OB ∨ q = w3.heap.size) ((w3.alloc (.cells #[.int .i64 (k : Int), .slice none 0 0, .slice (some ⟨OB, 0, none⟩) 1 1] 35)).drew) (some ⟨w3.heap.size, 0, none⟩) [⟨k, none, 0, 0, some ⟨OB, 0, none⟩, 1, 1, [], [(ta, val)]⟩]) := by
          refine ⟨Or.inr ⟨w3.heap.size, 0, rfl, ?_⟩, fun _ a ha => ?_, fun x hx => ?_⟩
          · exact VRow.drew (vrow_new w3 _ _)
          · injection ha with ha; subst ha; exact Or.inr rfl
          · rw [List.mem_singleton.1 hx]
            exact ⟨Or.inl rfl, rfl, HOU3.out.grown bB.drew, rfl, fun e => absurd rfl e, fun _ a ha => by injection ha with ha; subst ha; exact Or.inl rfl, fun i hi => by cases hi⟩
        have HNB : Hid (∀ q, (q = OB ∨ q = w3.heap.size) → q < ((w3.alloc (.cells #[.int .i64 (k : Int), .slice none 0 0, .slice (some ⟨OB, 0, none⟩) 1 1] 35)).drew).heap.size ∧ ¬ chE P v q) := fun q hq => by
          refine ⟨?_, fun e => ?_⟩
          · rw [World.size_drew, World.size_alloc]
            rcases hq with rfl | rfl <;> omega
          · have := HCE.out q e
            rcases hq with rfl | rfl <;> omega
        have HCN : Hid (connZ (h : Int) xs [⟨k, none, 0, 0, some ⟨OB, 0, none⟩, 1, 1, [], [(ta, val)]⟩] = (0, 0, (h : Int) + 1, xs ++ [⟨id, 0, ta, val, h, -1⟩])) := by
          show _ = _
          rw [dep_conn h xs (k : Int) ta val hh ⟨by omega, by omega⟩ HTO.out hval (by rw [HID.out]; exact HNEW.out) _ rfl rfl rfl, HID.out]
        have hnS : ¬ chE P v S := fun e => (HU3.out.d1 S e).1 rfl
        have hnT : ¬ chE P v (OB + 1) := fun e => by have := HCE.out _ e; omega
        have HKW : Hid (((w3.alloc (.cells #[.int .i64 (k : Int), .slice none 0 0, .slice (some ⟨OB, 0, none⟩) 1 1] 35)).drew).cell? ⟨S, 0, none⟩ = some (.pointer (some ⟨P, 0, none⟩)) ∧ ((w3.alloc (.cells #[.int .i64 (k : Int), .slice none 0 0, .slice (some ⟨OB, 0, none⟩) 1 1] 35)).drew).cell? ⟨OB + 1, 0, none⟩ = some (.int .i64 (k : Int)) ∧ ((w3.alloc (.cells #[.int .i64 (k : Int), .slice none 0 0, .slice (some ⟨OB, 0, none⟩) 1 1] 35)).drew).cell? ⟨OB + 1, 1, none⟩ = some (.slice none 0 0) ∧ ((w3.alloc (.cells #[.int .i64 (k : Int), .slice none 0 0, .slice (some ⟨OB, 0, none⟩) 1 1] 35)).drew).cell? ⟨OB + 1, 2, none⟩ = some (.slice (some ⟨OB, 0, none⟩) 1 1)) :=
          ⟨(bB.cell (p := ⟨S, 0, none⟩) hSl3).trans s0, (bB.cell (p := ⟨OB + 1, 0, none⟩) hTl3).trans q0, (bB.cell (p := ⟨OB + 1, 1, none⟩) hTl3).trans q1, (bB.cell (p := ⟨OB + 1, 2, none⟩) hTl3).trans q2⟩
        have hbD : Below w.heap.size w ((w3.alloc (.cells #[.int .i64 (k : Int), .slice none 0 0, .slice (some ⟨OB, 0, none⟩) 1 1] 35)).drew) := hb03.trans (bB.drew.mono (by omega))
        go_upto_region 8 with fail
        go_region_held3 (fun w' => w'.cell? ⟨S, 0, none⟩ = some (.pointer (some ⟨P, 0, none⟩)) ∧ w'.cell? ⟨OB + 1, 0, none⟩ = some (.int .i64 (k : Int)) ∧ w'.cell? ⟨OB + 1, 1, none⟩ = some (.slice none 0 0) ∧ w'.cell? ⟨OB + 1, 2, none⟩ = some (.slice (some ⟨OB, 0, none⟩) 1 1)) (first | assumption | go_keep | exact keep4 hst4.fr HKW.out hnS hnT) ((go_at_call 43; refine (pConnect_any P s g v h xs (fun q => q = OB ∨ q = w3.heap.size) (some ⟨w3.heap.size, 0, none⟩) 1 1 [⟨k, none, 0, 0, some ⟨OB, 0, none⟩, 1, 1, [], [(ta, val)]⟩] _ HPW.out (by have := HXL.out; omega) HV.out (by omega) HBK.out rfl HNB.out (by omega)).mono ?_; rintro e w4 ⟨rfl, v4, hp4, hst4⟩; rw [HCN.out] at hp4 ⊢))
        have hp4' : PAt w4 P s g v4 ((h + 1 : Nat) : Int) (xs ++ [⟨id, 0, ta, val, h, -1⟩]) := by push_cast; exact hp4
        obtain ⟨hsc4, hss4⟩ := HSW.out.chain hp4' hst4
        have HS4 : Hid (Sc S P s g (h + 1) v4 (.slice ao n ci) vc (xs ++ [⟨id, 0, ta, val, h, -1⟩]) ids cs w4) := hsc4
        have HT4 : Hid (ScStep P S v (.slice ao n ci) vc v4 (.slice ao n ci) vc w w4) := (ScStep.of_below hbD).trans hss4
        clear hp4 hp4' hst4 hsc4 hss4 HKW HPW HSW HBK HNB hbD bB q0 q1 q2 s0 hnS hnT hb03 HOU3 HPB HCE HU3
        have s3 := HS4.out.c3
        have f3 := HS4.out.f3
        have hSl4 : S < w4.heap.size := cell_lt s3
        have hviS : some S ≠ (Value.slice ao n ci).ownBlock := fun e => by have := (HS4.out.oi.blk S e.symm).1; omega
        have bC : Below w4.heap.size w4 (w4.alloc (.cells #[.int .i64 id] 3)) := (Below.refl _ _).alloc (Nat.le_refl _) _
        have HS5 : Hid (Sc S P s g (h + 1) v4 (.slice ao n ci) vc (xs ++ [⟨id, 0, ta, val, h, -1⟩]) ids cs (w4.alloc (.cells #[.int .i64 id] 3))) := HS4.out.grown bC
        have HT5 : Hid (ScStep P S v (.slice ao n ci) vc v4 (.slice ao n ci) vc w (w4.alloc (.cells #[.int .i64 id] 3))) := HT4.out.trans (ScStep.of_below bC)
        go_upto_region 12 with (at_builtin; refine wpList_appR 44 8 _ Tryz.underlying44 info3 rfl (by decide) iv1 iv_one (w4.alloc (.cells #[.int .i64 id] 3)) rfl _ _ rfl (S + 1) w4.heap.size 1 (.slice ao n ci) ids id (by rfl) (by rfl) HS5.out.oi (vrow_new _ _ _) (by simp; omega) (by rw [HNL.out]; unfold maxLen; omega) (by rw [HNL.out]; omega) ?_; intro gb capb w8 hown8 hg8 hl8 hlt8; have k0 := gb_cell hg8 HS5.out.c3 hviS; have k1 := (gb_frozen hg8 (cell_lt HS5.out.c3) hviS).trans HS5.out.f3)
        obtain ⟨hsc9, hss9⟩ := HS5.out.pushI hown8 hg8 hl8
        have HS9 : Hid _ := hsc9
        have HT9 : Hid _ := HT5.out.trans hss9
        clear hsc9 hss9 hown8 hg8 hl8 hlt8 k0 k1 HS5 HT5 HS4 HT4 bC s3 f3 hviS
        generalize w8.setCell ⟨S, 3, none⟩ (.slice (some ⟨gb, 0, none⟩) (ids.length + 1) capb) = w9 at *
        generalize (Value.slice (some ⟨gb, 0, none⟩) (ids.length + 1) capb) = vi9 at *
        have s4 := HS9.out.c4
        have f4 := HS9.out.f4
        have hSl9 : S < w9.heap.size := cell_lt s4
        have hvcS : some S ≠ vc.ownBlock := fun e => by have := (HS9.out.oc.blk S e.symm).1; omega
        have bD : Below w9.heap.size w9 (w9.alloc (.cells #[.int .i64 id, .int .i64 0, .int .i64 ta, .int .i64 val, .int .i64 0, .int .i64 0] 107)) := (Below.refl _ _).alloc (Nat.le_refl _) _
        have HS10 : Hid (Sc S P s g (h + 1) v4 vi9 vc (xs ++ [⟨id, 0, ta, val, h, -1⟩]) (ids ++ [id]) cs (w9.alloc (.cells #[.int .i64 id, .int .i64 0, .int .i64 ta, .int .i64 val, .int .i64 0, .int .i64 0] 107))) := HS9.out.grown bD
        have HT10 : Hid (ScStep P S v (.slice ao n ci) vc v4 vi9 vc w (w9.alloc (.cells #[.int .i64 id, .int .i64 0, .int .i64 ta, .int .i64 val, .int .i64 0, .int .i64 0] 107))) := HT9.out.trans (ScStep.of_below bD)
        go_upto_region 13 with (at_builtin; refine wpList_appR 45 48 _ Tryz.underlying45 info107 rfl (by decide) coin6 coin_one (w9.alloc (.cells #[.int .i64 id, .int .i64 0, .int .i64 ta, .int .i64 val, .int .i64 0, .int .i64 0] 107)) rfl _ _ rfl (S + 1) w9.heap.size 1 vc cs ⟨id, 0, ta, val, 0, 0⟩ (by rfl) (by rfl) HS10.out.oc (vrow_new _ _ _) (by simp; omega) (by have := HCL.out; unfold maxLen; omega) (by have := HCL.out; omega) ?_; intro gd capd w11 hown11 hg11 hl11 hlt11; have k0 := gb_cell hg11 HS10.out.c4 hvcS; have k1 := (gb_frozen hg11 (cell_lt HS10.out.c4) hvcS).trans HS10.out.f4)
        obtain ⟨hsc12, hss12⟩ := HS10.out.pushC hown11 hg11 hl11
        have HS12 : Hid _ := hsc12
        have HT12 : Hid _ := HT10.out.trans hss12
        clear hsc12 hss12 hown11 hg11 hl11 hlt11 k0 k1 HS10 HT10
        go_wp2
        go_ret
        exact ⟨rfl, id, v4, vi9, _, HS12.out, HT12.out, by rw [HI.out]; exact HNEW.out, HIM.out⟩
      · go_wp2
        go_roundw
        case rel => exact ⟨k + 1, by omega, by go_num, fun j hj => by
          by_cases e : j = k
          · subst e; rw [HID.out]; exact HMEM.out.1 (by first | rfl | trivial)
          · exact hold.out j (by omega), hb03⟩
        case measure => simp [intOf]; omega
    · exfalso
      exact dep_some ids ta val (by rw [HNL.out]; omega) HTO.out hval (fun i hi => hold.out i (by rw [HNL.out] at hi; omega))
end Go.Proofs.YtffgpepngcnjeabGreatQ

namespace Go.Proofs.YtffgpepngcnjeabGreatQ
open Go.RowKit
/-- keys each at most a gap further on than one ahead of it -/
structure Chain (g : Nat) (A : List Nat) : Prop where
  lt : ∀ i ∈ A, i < 100
  step : ∀ j, j < A.length → A.getD j 0 < g ∨ ∃ i, i < j ∧ A.getD j 0 ≤ A.getD i 0 + g
theorem Chain.nil (g : Nat) : Chain g [] := ⟨fun i hi => (by cases hi), fun j hj => (by cases hj)⟩
theorem get_left {α : Type} (l r : List α) (d : α) (i : Nat) (h : i < l.length) : (l ++ r).getD i d = l.getD i d := by
  simp only [List.getD]
  rw [List.getElem?_append_left h]
theorem get_last {α : Type} (l : List α) (x d : α) : (l ++ [x]).getD l.length d = x := by
  simp [List.getD]
theorem Chain.snoc {g : Nat} {A : List Nat} (h : Chain g A) (x : Nat) (hx : x < 100) (hs : x < g ∨ ∃ i, i < A.length ∧ x ≤ A.getD i 0 + g) : Chain g (A ++ [x]) := by
  refine ⟨fun i hi => ?_, fun j hj => ?_⟩
  · rcases List.mem_append.1 hi with hi | hi
    · exact h.lt i hi
    · rw [List.mem_singleton.1 hi]; exact hx
  · rw [List.length_append, List.length_singleton] at hj
    by_cases e : j < A.length
    · rw [get_left _ _ _ _ e]
      rcases h.step j e with h1 | ⟨i, h1, h2⟩
      · exact Or.inl h1
      · exact Or.inr ⟨i, h1, by rw [get_left _ _ _ _ (by omega)]; exact h2⟩
    · have e : j = A.length := by omega
      subst e
      rw [get_last]
      rcases hs with h1 | ⟨i, h1, h2⟩
      · exact Or.inl h1
      · exact Or.inr ⟨i, h1, by rw [get_left _ _ _ _ h1]; exact h2⟩
/-- a window that is as wide as what is paid in it wants comes to all of them -/
theorem Chain.all {g V : Nat} {A : List Nat} (h : Chain g A) (hV : g ≤ V) (hA : ∀ i ∈ A, i < V → min 100 (i + 1 + g) ≤ V) : ∀ i ∈ A, i < V := by
  have key : ∀ n j, j < n → j < A.length → A.getD j 0 < V := by
    intro n
    induction n with
    | zero => intro j hj; omega
    | succ n ih =>
      intro j hj hl
      have hlt := h.lt _ (getD_mem A 0 j hl)
      rcases h.step j hl with h1 | ⟨i, h1, h2⟩
      · omega
      · have h3 := ih i (by omega) (by omega)
        have h4 := hA _ (getD_mem A 0 i (by omega)) h3
        omega
  intro i hi
  obtain ⟨j, hj, rfl⟩ := mem_getD 0 hi
  exact key (j + 1) j (by omega) hj
end Go.Proofs.YtffgpepngcnjeabGreatQ

namespace Go.Proofs.YtffgpepngcnjeabGreatQ
open Go.RowKit
/-- the deposits at these indices stand in the chain, and as the scene keeps them -/
structure Dep (s br : Int) (A : List Nat) (xs : List Cel) (cs : List CoinD) : Prop where
  lt : ∀ i ∈ A, i < 100
  len : A.length ≤ cs.length
  at_ : ∀ i, i < A.length → ∃ x ∈ xs, x.spent = -1 ∧ x.to = Mk.adr s br ((A.getD i 0 : Nat) : Int) ∧ cs.getD i dN = x.kept
theorem Dep.hit {s br : Int} {A : List Nat} {xs : List Cel} {cs : List CoinD} (h : Dep s br A xs cs) {i : Nat} (hi : i ∈ A) : hitAt xs s br i = true := by
  obtain ⟨j, hj, rfl⟩ := mem_getD 0 hi
  obtain ⟨x, hx, _, e, _⟩ := h.at_ j hj
  unfold hitAt paidTo
  rw [List.any_eq_true]
  exact ⟨x, hx, by rw [e]; simp⟩
theorem Dep.has {s br : Int} {A : List Nat} {xs : List Cel} {cs : List CoinD} (h : Dep s br A xs cs) (hb : br = 0 ∨ br = 1) {g j : Nat} (hj : j < A.length) (hlt : A.getD j 0 < winZ xs s g br) : hasZ (ownOf xs s g) (cs.getD j dN) = true := by
  obtain ⟨x, hx, hs, e, ec⟩ := h.at_ j hj
  rw [ec]
  exact own_has hx hs (by rw [e]; exact key_mem hb hlt)
end Go.Proofs.YtffgpepngcnjeabGreatQ

namespace Go.Proofs.YtffgpepngcnjeabGreatQ
open Go.RowKit
set_option maxRecDepth 100000 in
set_option maxHeartbeats 400000 in
theorem fSeeded_any (a b : Int) (w : World) (a1 : -9223372036854775808 ≤ a) (a2 : a ≤ 9223372036854775807) (b1 : -9223372036854775808 ≤ b) (b2 : b ≤ 9223372036854775807) :
    Calls Tryz.prog 49 #[.int .i64 a, .int .i64 b] w fun e w' => e = .returned (.tuple #[.int .i64 (Mk.pk a 99991), .int .i64 (1 + Mk.pk b 20)]) ∧ w = w' := by
  have hb := Mk.pk_bd b 20 (by decide)
  have hw : IntKind.i64.wrap (1 + Mk.pk b 20) = 1 + Mk.pk b 20 := IntWalk.i64_in _ ⟨by omega, by omega⟩
  go_enter Tryz.func49, Tryz.ntmps49
  go_wp2_with fail
  refine (pick_any a 99991 _ (by omega) (by omega) a1 a2).mono ?_
  rintro e w' ⟨rfl, rfl⟩
  go_wp2_with fail
  refine (pick_any b 20 _ (by omega) (by omega) b1 b2).mono ?_
  rintro e w' ⟨rfl, rfl⟩
  go_wp2
  go_ret2
  exact ⟨rfl, rfl⟩
set_option maxRecDepth 100000 in
set_option maxHeartbeats 400000 in
theorem fOpened_yes (s g : Int) (w : World) (hs : Mk.isM s = true) (h1 : 1 ≤ g) (h2 : g ≤ 20) :
    Calls Tryz.prog 50 #[.int .i64 s, .int .i64 g] w fun e w' => e = .returned (.pointer (some ⟨w.heap.size, 0, none⟩)) ∧ w.alloc (.cells #[.int .i64 s, .int .i64 g, .slice none 0 0, .int .i64 0, .slice none 0 0, .slice none 0 0, .int .i64 0, .int .i64 0] 102) = w' := by
  go_enter Tryz.func50, Tryz.ntmps50
  go_wp2_with fail
  refine (new_yes s g _ hs h1 h2).mono ?_
  rintro e w1 ⟨rfl, rfl⟩
  go_wp2
  go_ret
  exact ⟨rfl, rfl⟩
theorem sc_new (w : World) (s : Int) (g : Nat) :
    Sc (w.heap.size + 1) w.heap.size s g 0 (.slice none 0 0) (.slice none 0 0) (.slice none 0 0) [] [] [] ((w.alloc (.cells #[.int .i64 s, .int .i64 (g : Int), .slice none 0 0, .int .i64 0, .slice none 0 0, .slice none 0 0, .int .i64 0, .int .i64 0] 102)).alloc (.cells #[.pointer (some ⟨w.heap.size, 0, none⟩), .int .i64 s, .int .i64 (g : Int), .slice none 0 0, .slice none 0 0] 47)) := by
  have hp : PAt (w.alloc (.cells #[.int .i64 s, .int .i64 (g : Int), .slice none 0 0, .int .i64 0, .slice none 0 0, .slice none 0 0, .int .i64 0, .int .i64 0] 102)) w.heap.size s g (.slice none 0 0) 0 [] := by
    refine ⟨?_, ?_, World.frozen?_alloc_at _ _ _ _ rfl, fun j => World.frozen?_alloc_at _ _ _ _ rfl, OwnRec.nil _ _ _ _ _, fun q hq => ?_⟩
    · rw [World.cell?_alloc_new]; rfl
    · rw [World.cell?_alloc_new]; rfl
    · simp at hq
      rcases hq with rfl | rfl | rfl | rfl | rfl | rfl
      · exact ⟨by simp, by simp, by rw [World.cell?_alloc_new]; rfl⟩
      · exact ⟨by simp, by simp, by rw [World.cell?_alloc_new]; rfl⟩
      · exact ⟨by simp, by simp, by rw [World.cell?_alloc_new]; rfl⟩
      · exact ⟨by simp, by simp, by rw [World.cell?_alloc_new]; rfl⟩
      · exact ⟨by simp, by simp, by rw [World.cell?_alloc_new]; rfl⟩
      · exact ⟨by simp, by simp, by rw [World.cell?_alloc_new]; rfl⟩
  have hz : (w.alloc (.cells #[.int .i64 s, .int .i64 (g : Int), .slice none 0 0, .int .i64 0, .slice none 0 0, .slice none 0 0, .int .i64 0, .int .i64 0] 102)).heap.size = w.heap.size + 1 := by simp
  generalize w.alloc (.cells #[.int .i64 s, .int .i64 (g : Int), .slice none 0 0, .int .i64 0, .slice none 0 0, .slice none 0 0, .int .i64 0, .int .i64 0] 102) = w1 at *
  have hv := vrow_new w1 [.pointer (some ⟨w.heap.size, 0, none⟩), .int .i64 s, .int .i64 (g : Int), .slice none 0 0, .slice none 0 0] 47
  have hf : ∀ j, (w1.alloc (.cells #[.pointer (some ⟨w.heap.size, 0, none⟩), .int .i64 s, .int .i64 (g : Int), .slice none 0 0, .slice none 0 0] 47)).frozen? ⟨w1.heap.size, j, none⟩ = false := fun j => World.frozen?_alloc_at _ _ _ _ rfl
  rw [hz] at hv hf
  refine ⟨hp.grown ((Below.refl _ _).alloc (Nat.le_refl _) _), hv 0 (by simp), hv 1 (by simp), hv 2 (by simp), hv 3 (by simp), hv 4 (by simp), hf 3, hf 4, OwnRec.nil _ _ _ _ _, OwnRec.nil _ _ _ _ _, by omega, fun k hk => ?_, fun k hk => by cases hk⟩
  rcases hk with e | e
  · exact ⟨by omega, fun e => (by cases e), fun e => (by cases e)⟩
  · cases e
set_option maxRecDepth 100000 in
set_option maxHeartbeats 1000000 in
theorem begun_any (a b : Int) (g : Nat) (w : World) (a1 : -9223372036854775808 ≤ a) (a2 : a ≤ 9223372036854775807) (b1 : -9223372036854775808 ≤ b) (b2 : b ≤ 9223372036854775807) (hg : (g : Int) = 1 + Mk.pk b 20) :
    Calls Tryz.prog 30 #[.int .i64 a, .int .i64 b] w fun e w' => e = .returned (.pointer (some ⟨w.heap.size + 1, 0, none⟩)) ∧ Sc (w.heap.size + 1) w.heap.size (Mk.pk a 99991) g 0 (.slice none 0 0) (.slice none 0 0) (.slice none 0 0) [] [] [] w' ∧ Below w.heap.size w w' := by
  have hpa := Mk.pk_bd a 99991 (by decide)
  have hpb := Mk.pk_bd b 20 (by decide)
  have HS : Hid (Mk.isM (Mk.pk a 99991) = true) := (Mk.isM_iff _).2 hpa
  have HN : Hid _ := sc_new w (Mk.pk a 99991) g
  have HBL : Hid (∀ p q : Obj, Below w.heap.size w ((w.alloc p).alloc q)) := fun p q => ((Below.refl _ _).alloc (Nat.le_refl _) _).alloc (by simp) _
  go_enter Tryz.func30, Tryz.ntmps30
  go_wp2_with fail
  refine (fSeeded_any a b _ a1 a2 b1 b2).mono ?_
  rintro e w' ⟨rfl, rfl⟩
  rw [← hg]
  have hg1 : (1 : Int) ≤ (g : Int) := by omega
  have hg2 : (g : Int) ≤ 20 := by omega
  clear hg hpb
  go_wp2_with fail
  refine (fOpened_yes (Mk.pk a 99991) (g : Int) _ HS.out hg1 hg2).mono ?_
  rintro e w1 ⟨rfl, hw1⟩
  subst hw1
  go_wp2
  go_ret
  exact ⟨rfl, HN.out, HBL.out _ _⟩
/-- the deposits so far: a block each -/
structure Fu (s br : Int) (A : List Nat) (xs : List Cel) : Prop where
  len : xs.length = A.length
  at_ : ∀ j, j < A.length → (xs.getD j dC).spent = -1 ∧ (xs.getD j dC).to = Mk.adr s br ((A.getD j 0 : Nat) : Int) ∧ (xs.getD j dC).val = 10 + j ∧ (xs.getD j dC).made = j
theorem Fu.nil (s br : Int) : Fu s br [] [] := ⟨rfl, fun j hj => by cases hj⟩
theorem Fu.snoc {s br : Int} {A : List Nat} {xs : List Cel} (h : Fu s br A xs) (z : Nat) (x : Cel) (h1 : x.spent = -1) (h2 : x.to = Mk.adr s br (z : Int)) (h3 : x.val = 10 + A.length) (h4 : x.made = A.length) : Fu s br (A ++ [z]) (xs ++ [x]) := by
  refine ⟨by rw [List.length_append, List.length_append, h.len]; rfl, fun j hj => ?_⟩
  rw [List.length_append, List.length_singleton] at hj
  by_cases e : j < A.length
  · rw [get_left _ _ _ _ e, get_left _ _ _ _ (by rw [h.len]; exact e)]
    exact h.at_ j e
  · have e : j = A.length := by omega
    subst e
    rw [get_last, ← h.len, get_last]
    rw [h.len]
    exact ⟨h1, h2, h3, h4⟩
theorem getD_take {α : Type} (l : List α) (d : α) (q j : Nat) (h : j < q) : (l.take q).getD j d = l.getD j d := by
  simp only [List.getD]
  rw [List.getElem?_take_of_lt h]
theorem Fu.take {s br : Int} {A : List Nat} {xs : List Cel} (h : Fu s br A xs) (q : Nat) : Fu s br (A.take q) (xs.take q) := by
  refine ⟨by rw [List.length_take, List.length_take, h.len], fun j hj => ?_⟩
  rw [List.length_take] at hj
  rw [getD_take _ _ _ _ (by omega), getD_take _ _ _ _ (by omega)]
  exact h.at_ j (by omega)
theorem Fu.mem {s br : Int} {A : List Nat} {xs : List Cel} (h : Fu s br A xs) {x : Cel} (hx : x ∈ xs) : ∃ j, j < A.length ∧ x = xs.getD j dC := by
  obtain ⟨j, hj, e⟩ := mem_getD dC hx
  exact ⟨j, by rw [← h.len]; exact hj, e⟩
theorem Fu.vals {s br : Int} {A : List Nat} {xs : List Cel} (h : Fu s br A xs) (hl : A.length ≤ 100) : Vals xs := by
  intro x hx
  obtain ⟨j, hj, rfl⟩ := h.mem hx
  have := (h.at_ j hj).2.2.1
  omega
theorem Fu.dep {s br : Int} {A : List Nat} {xs : List Cel} (h : Fu s br A xs) (hA : ∀ i ∈ A, i < 100) {cs : List CoinD} (hl : A.length ≤ cs.length) (hc : ∀ j, j < A.length → cs.getD j dN = (xs.getD j dC).kept) : Dep s br A xs cs :=
  ⟨hA, hl, fun i hi => ⟨xs.getD i dC, getD_mem xs dC i (by rw [h.len]; exact hi), (h.at_ i hi).1, (h.at_ i hi).2.1, hc i hi⟩⟩
theorem kept_get (xs : List Cel) (j : Nat) (h : j < xs.length) : (xs.map Cel.kept).getD j dN = (xs.getD j dC).kept := by
  simp [List.getD, h]
theorem Fu.back {s br : Int} {A : List Nat} {xs : List Cel} (h : Fu s br A xs) (q : Nat) (hq : q < A.length) : tbZ (q : Int) (xs.take (q + 1)) = xs.take q := by
  have hql : q < xs.length := by rw [h.len]; exact hq
  have e : xs.take (q + 1) = xs.take q ++ [xs.getD q dC] := by
    rw [List.take_succ_eq_append_getElem hql]
    simp [List.getD, hql]
  rw [e]
  refine dep_back _ _ _ (h.at_ q hq).2.2.2 (fun y hy => ?_)
  obtain ⟨j, hj, rfl⟩ := mem_getD dC hy
  rw [List.length_take] at hj
  rw [getD_take _ _ _ _ (by omega)]
  have := h.at_ j (by omega)
  exact ⟨by rw [this.2.2.2]; omega, by rw [this.1]; omega⟩
/-- all are found in the end -/
theorem Fu.all {s br : Int} {A : List Nat} {xs : List Cel} (h : Fu s br A xs) (hb : br = 0 ∨ br = 1) {g : Nat} (hg2 : g ≤ 20) {L : List Nat} (hL : Chain g L) (h1 : ∀ i ∈ L, i ∈ A) (h2 : ∀ i ∈ A, i ∈ L) : (ownOf xs s g).length = A.length ∧ sumC (ownOf xs s g) = sumC (xs.map Cel.kept) := by
  have hd : Dep s br A xs (xs.map Cel.kept) := h.dep (fun i hi => hL.lt i (h2 i hi)) (by rw [List.length_map, h.len]; exact Nat.le_refl _) (fun j hj => kept_get xs j (by rw [h.len]; exact hj))
  have hw := win_spec xs s g br hg2
  have hall : ∀ i ∈ L, i < winZ xs s g br := hL.all hw.1 (fun i hi hlt => hw.2 i hlt (hd.hit (h1 i hi)))
  have := own_all (xs := xs) (s := s) (g := g) (fun x hx => by
    obtain ⟨j, hj, rfl⟩ := h.mem hx
    exact (h.at_ j hj).1) (fun x hx => by
    obtain ⟨j, hj, rfl⟩ := h.mem hx
    rw [(h.at_ j hj).2.1]
    exact key_mem hb (hall _ (h2 _ (getD_mem A 0 j hj))))
  rw [h.len] at this
  exact this
end Go.Proofs.YtffgpepngcnjeabGreatQ

namespace Go.Proofs.YtffgpepngcnjeabGreatQ
open Go.RowKit
/-- a deposit as it is asked for: branch, index, value, raw -/
structure DepR where
  br : Int
  ix : Int
  val : Int
def dDR : DepR := ⟨0, 0, 0⟩
def DepR.l (x : DepR) : List Value := [.int .i64 x.br, .int .i64 x.ix, .int .i64 x.val]
theorem depR3 (x : DepR) : x.l.length = 3 := rfl
/-- the outputs of a scene: a deposit each -/
structure Dp (s : Int) (g : Nat) (xs : List Cel) : Prop where
  sp : ∀ x ∈ xs, x.spent = -1
  po : ∀ x ∈ xs, x.pos = 0
  tw : ∀ x ∈ xs, ∃ (br : Int) (i : Nat), (br = 0 ∨ br = 1) ∧ i < g ∧ x.to = Mk.adr s br (i : Int)
  va : ∀ x ∈ xs, 10 ≤ x.val ∧ x.val ≤ 1099511627776
  nd : (xs.map Cel.id).Nodup
  im : ∀ x ∈ xs, Mk.isM x.id = true
  ma : ∀ x ∈ xs, x.made < (xs.length : Int)
theorem Dp.nil (s : Int) (g : Nat) : Dp s g [] := ⟨fun _ h => (by cases h), fun _ h => (by cases h), fun _ h => (by cases h), fun _ h => (by cases h), List.nodup_nil, fun _ h => (by cases h), fun _ h => (by cases h)⟩
theorem Dp.vals {s : Int} {g : Nat} {xs : List Cel} (h : Dp s g xs) : Vals xs := fun x hx => ⟨by have := (h.va x hx).1; omega, (h.va x hx).2⟩
theorem Dp.snoc {s : Int} {g : Nat} {xs : List Cel} (h : Dp s g xs) {id br val md : Int} {i : Nat} (hb : br = 0 ∨ br = 1) (hi : i < g) (hv : 10 ≤ val ∧ val ≤ 1099511627776) (hn : id ∉ xs.map Cel.id) (him : Mk.isM id = true) (hmd : md = (xs.length : Int)) : Dp s g (xs ++ [⟨id, 0, Mk.adr s br (i : Int), val, md, -1⟩]) := by
  have mem : ∀ {p : Cel → Prop}, (∀ x ∈ xs, p x) → p ⟨id, 0, Mk.adr s br (i : Int), val, md, -1⟩ → ∀ x ∈ xs ++ [⟨id, 0, Mk.adr s br (i : Int), val, md, -1⟩], p x := fun h1 h2 x hx => by
    rcases List.mem_append.1 hx with e | e
    · exact h1 x e
    · rw [List.mem_singleton.1 e]; exact h2
  refine ⟨mem h.sp rfl, mem h.po rfl, mem h.tw ⟨br, i, hb, hi, rfl⟩, mem h.va hv, ?_, mem h.im him, mem (fun x hx => ?_) ?_⟩
  · rw [List.map_append, List.nodup_append]
    refine ⟨h.nd, by simp, fun a ha b hb e => ?_⟩
    simp at hb
    subst hb
    subst e
    exact hn ha
  · have := h.ma x hx
    rw [List.length_append, List.length_singleton]
    push_cast
    omega
  · show md < _
    rw [List.length_append, List.length_singleton]
    push_cast
    omega
set_option maxRecDepth 100000 in
set_option maxHeartbeats 4000000 in
theorem deposited_any (a b : Int) (al : Option Addr) (n c : Nat) (ds : List DepR) (g : Nat) (w : World) (a1 : -9223372036854775808 ≤ a) (a2 : a ≤ 9223372036854775807) (b1 : -9223372036854775808 ≤ b) (b2 : b ≤ 9223372036854775807) (hg : (g : Int) = 1 + Mk.pk b 20) (hd : RecAt DepR.l w al ds) (hdn : ds.length = n) (hdr : ∀ x ∈ ds, (-9223372036854775808 ≤ x.br ∧ x.br ≤ 9223372036854775807) ∧ (-9223372036854775808 ≤ x.ix ∧ x.ix ≤ 9223372036854775807) ∧ (-9223372036854775808 ≤ x.val ∧ x.val ≤ 9223372036854775807)) :
    Calls Tryz.prog 9 #[.int .i64 a, .int .i64 b, .slice al n c] w fun e w' => e = .returned (.pointer (some ⟨w.heap.size + 1, 0, none⟩)) ∧ ∃ (v vi vc : Value) (xs : List Cel), xs.length ≤ 24 ∧ Sc (w.heap.size + 1) w.heap.size (Mk.pk a 99991) g xs.length v vi vc xs (xs.map Cel.id) (xs.map Cel.kept) w' ∧ Dp (Mk.pk a 99991) g xs ∧ Below w.heap.size w w' := by
  have hpb := Mk.pk_bd b 20 (by decide)
  have hg1 : 1 ≤ g := by omega
  have hg2 : g ≤ 20 := by omega
  have HSM : Hid (Mk.isM (Mk.pk a 99991) = true) := (Mk.isM_iff _).2 (Mk.pk_bd a 99991 (by decide))
  have HD : Hid (RecAt DepR.l w al ds) := hd
  have HDN : Hid (ds.length = n) := hdn
  have HDR : Hid (∀ x ∈ ds, (-9223372036854775808 ≤ x.br ∧ x.br ≤ 9223372036854775807) ∧ (-9223372036854775808 ≤ x.ix ∧ x.ix ≤ 9223372036854775807) ∧ (-9223372036854775808 ≤ x.val ∧ x.val ≤ 9223372036854775807)) := hdr
  clear hd hdn hdr hpb
  go_enter Tryz.func9, Tryz.ntmps9
  go_wp2_with fail
  refine (begun_any a b g _ a1 a2 b1 b2 hg).mono ?_
  rintro e w1 ⟨rfl, hsc1, hb1⟩
  clear hg a1 a2 b1 b2
  generalize hsE : Mk.pk a 99991 = s at *
  have HSS : Hid (Mk.pk a 99991 = s) := hsE
  clear hsE
  generalize hP : w.heap.size = P at *
  have HP : Hid (w.heap.size = P) := hP
  clear hP
  have HSC1 : Hid (Sc (P + 1) P s g 0 (.slice none 0 0) (.slice none 0 0) (.slice none 0 0) [] [] [] w1) := hsc1
  have HB1 : Hid (Below P w w1) := hb1
  clear hsc1 hb1
  generalize hSe : P + 1 = S at *
  have HSE : Hid (P + 1 = S) := hSe
  clear hSe
  go_wp2
  go_loopw [8] (fun i wr => ∃ (q : Nat) (v vi vc : Value) (xs : List Cel), q ≤ 24 ∧ q ≤ n ∧ i = .int .i64 q ∧ Hid (xs.length = q) ∧ Hid (Sc S P s g q v vi vc xs (xs.map Cel.id) (xs.map Cel.kept) wr) ∧ Hid (Dp s g xs) ∧ Hid (Below P w wr)) (fun i _ => 24 - (intOf i).toNat)
  case atStart => exact ⟨0, _, _, _, [], by omega, by omega, rfl, rfl, HSC1.out, Dp.nil _ _, HB1.out⟩
  case round =>
    obtain ⟨q, v, vi, vc, xs, hq, hqn, rfl, hxl, hsc, hdp, hbl⟩ := hrel
    by_cases hlt : q < n ∧ q < 24
    · obtain ⟨hl1, hl2⟩ := hlt
      have hPr : P ≤ wr.heap.size := by have := hsc.out.big; omega
      have hkl : q < ds.length := by rw [HDN.out]; exact hl1
      rcases HD.out.grown (by rw [HP.out]; exact hbl.out) with hnil | ⟨gd, od, rfl, hrow⟩
      · rw [hnil] at hkl; simp at hkl
      have c0 : wr.cell? ⟨gd, od + q * 3, none⟩ = some (.int .i64 (ds.getD q dDR).br) := rcell depR3 dDR hrow q hkl 0 (by omega)
      have c1 : wr.cell? ⟨gd, od + q * 3 + 1, none⟩ = some (.int .i64 (ds.getD q dDR).ix) := rcell depR3 dDR hrow q hkl 1 (by omega)
      have c2 : wr.cell? ⟨gd, od + q * 3 + 2, none⟩ = some (.int .i64 (ds.getD q dDR).val) := rcell depR3 dDR hrow q hkl 2 (by omega)
      obtain ⟨⟨r1, r2⟩, ⟨r3, r4⟩, r5, r6⟩ := HDR.out _ (getD_mem ds dDR q hkl)
      clear hrow
      generalize (ds.getD q dDR).br = y0 at *
      generalize (ds.getD q dDR).ix = y1 at *
      generalize (ds.getD q dDR).val = y2 at *
      have s1 := hsc.out.c1
      have s2 := hsc.out.c2
      have hqI : (q : Int) < (n : Int) := by omega
      have hqI2 : (q : Int) < 24 := by omega
      have hq0 : (0 : Int) ≤ (q : Int) := by omega
      have p0 := Mk.pk_bd y0 2 (by decide)
      have p1 := Mk.pk_bd y1 (g : Int) (by omega)
      have p2 := Mk.pk_bd y2 1099511627767 (by decide)
      go_upto_region 8 with (go_at_call 11; refine (pick_any y0 2 _ (by omega) (by omega) r1 r2).mono ?_; rintro e w' ⟨rfl, rfl⟩)
      go_region_held3 (fun w' => w'.cell? ⟨gd, od + q * 3 + 1, none⟩ = some (.int .i64 y1) ∧ w'.cell? ⟨S, 2, none⟩ = some (.int .i64 (g : Int))) (first | assumption | go_keep) ((go_at_call 11; refine (pick_any y1 (g : Int) _ (by omega) (by omega) r3 r4).mono ?_; rintro e w' ⟨rfl, rfl⟩))
      generalize hbr : Mk.pk y0 2 = br at *
      obtain ⟨ix, hix⟩ : ∃ ix : Nat, Mk.pk y1 (g : Int) = (ix : Int) := ⟨(Mk.pk y1 (g : Int)).toNat, by omega⟩
      rw [hix] at p1 ⊢
      clear hbr hix
      have hixg : ix < g := by omega
      have HBR : Hid (br = 0 ∨ br = 1) := by show _ ∨ _; omega
      have HKY : Hid (Mk.isK s br (ix : Int) = true) := key_ok HSM.out HBR.out (by omega) (by omega)
      have HAM : Hid (Mk.isM (Mk.adr s br (ix : Int)) = true) := (Mk.isM_iff _).2 (Mk.adr_bd s br (ix : Int))
      generalize hae : Mk.adr s br (ix : Int) = ad at *
      have HAD : Hid (Mk.adr s br (ix : Int) = ad) := hae
      clear hae
      have bD : Below wr.heap.size wr wr.drew := (Below.refl _ _).drew
      have HSD : Hid (Sc S P s g q v vi vc xs (xs.map Cel.id) (xs.map Cel.kept) wr.drew) := hsc.out.grown bD
      have HBD : Hid (Below P w wr.drew) := hbl.out.trans (bD.mono hPr)
      have d2 : wr.drew.cell? ⟨gd, od + q * 3 + 2, none⟩ = some (.int .i64 y2) := c2
      have t1 : wr.drew.cell? ⟨S, 1, none⟩ = some (.int .i64 s) := s1
      clear c0 c1 c2 s1 s2 bD
      generalize wr.drew = wd at *
      go_upto_region 10 with (go_at_call 31; refine (valued_any y2 _ r5 r6).mono ?_; rintro e w' ⟨rfl, rfl⟩)
      generalize hvv : 10 + Mk.pk y2 1099511627767 = vv at *
      have hv10 : 10 ≤ vv ∧ vv ≤ 1099511627776 := by omega
      clear hvv d2
      go_wp2_with fail
      refine (pAddress_yes s br (ix : Int) _ HKY.out).mono ?_
      rw [HAD.out]
      rintro e w3 ⟨rfl, hb3⟩
      have HS3 : Hid (Sc S P s g q v vi vc xs (xs.map Cel.id) (xs.map Cel.kept) w3) := HSD.out.grown hb3
      have hPd : P ≤ wd.heap.size := by have := HSD.out.big; omega
      have HB3 : Hid (Below P w w3) := HBD.out.trans (hb3.mono hPd)
      clear hb3 HSD HBD t1
      go_wp2_with fail
      refine (mint_any S P s g q v vi vc xs (xs.map Cel.id) (xs.map Cel.kept) ad vv _ HS3.out rfl (by omega) (by rw [hxl.out]; omega) (by rw [List.length_map, hxl.out]; omega) hdp.out.vals HAM.out hv10).mono ?_
      rintro e w4 ⟨rfl, id, v4, vi4, vc4, hsc4, hst4, hnew, him⟩
      have ek : xs.map Cel.kept ++ [CoinD.mk id 0 ad vv 0 0] = (xs ++ [Cel.mk id 0 ad vv (q : Int) (-1)]).map Cel.kept := by rw [List.map_append]; rfl
      have ei : xs.map Cel.id ++ [id] = (xs ++ [Cel.mk id 0 ad vv (q : Int) (-1)]).map Cel.id := by rw [List.map_append]; rfl
      rw [ek, ei] at hsc4
      have HS4 : Hid (Sc S P s g (q + 1) v4 vi4 vc4 (xs ++ [Cel.mk id 0 ad vv (q : Int) (-1)]) ((xs ++ [Cel.mk id 0 ad vv (q : Int) (-1)]).map Cel.id) ((xs ++ [Cel.mk id 0 ad vv (q : Int) (-1)]).map Cel.kept) w4) := hsc4
      have HD4 : Hid (Dp s g (xs ++ [Cel.mk id 0 ad vv (q : Int) (-1)])) := by
        have := hdp.out.snoc (md := (q : Int)) HBR.out hixg hv10 hnew him (by rw [hxl.out])
        rw [HAD.out] at this
        exact this
      have HB4 : Hid (Below P w w4) := HB3.out.trans (hst4.fr.toBelow P (by have := HS3.out.big; omega) (fun k hk => (HS3.out.blk k hk).1))
      have HL4 : Hid ((xs ++ [Cel.mk id 0 ad vv (q : Int) (-1)]).length = q + 1) := by show _ = _; rw [List.length_append, hxl.out]; rfl
      clear hsc4 hst4 hnew him ek ei
      go_wp2
      go_roundw
      case rel => exact ⟨q + 1, v4, vi4, vc4, _, by omega, by omega, by go_num, HL4.out, HS4.out, HD4.out, HB4.out⟩
      case measure => simp [intOf]; omega
    · by_cases hl1 : q < n
      · have hqI : (q : Int) < (n : Int) := by omega
        have hqI2 : ¬ (q : Int) < 24 := by omega
        go_wp2
        go_ret
        exact ⟨by rw [HP.out, HSE.out]; rfl, v, vi, vc, xs, by rw [hxl.out]; exact hq, by rw [HP.out, HSE.out, HSS.out, hxl.out]; exact hsc.out, by rw [HSS.out]; exact hdp.out, by rw [HP.out]; exact hbl.out⟩
      · have hqI : ¬ (q : Int) < (n : Int) := by omega
        go_wp2
        go_ret
        exact ⟨by rw [HP.out, HSE.out]; rfl, v, vi, vc, xs, by rw [hxl.out]; exact hq, by rw [HP.out, HSE.out, HSS.out, hxl.out]; exact hsc.out, by rw [HSS.out]; exact hdp.out, by rw [HP.out]; exact hbl.out⟩
end Go.Proofs.YtffgpepngcnjeabGreatQ

namespace Go.Proofs.YtffgpepngcnjeabGreatQ
open Go.RowKit
/-- five cells -/
structure P5 (w : World) (T : Nat) (a0 a1 a2 a3 a4 : Value) : Prop where
  c0 : w.cell? ⟨T, 0, none⟩ = some a0
  c1 : w.cell? ⟨T, 1, none⟩ = some a1
  c2 : w.cell? ⟨T, 2, none⟩ = some a2
  c3 : w.cell? ⟨T, 3, none⟩ = some a3
  c4 : w.cell? ⟨T, 4, none⟩ = some a4
  fz : ∀ j, w.frozen? ⟨T, j, none⟩ = false
theorem P5.fr {E : Nat → Prop} {w w' : World} (hf : Fr E w w') {T : Nat} {a0 a1 a2 a3 a4 : Value} (h : P5 w T a0 a1 a2 a3 a4) (he : ¬ E T) : P5 w' T a0 a1 a2 a3 a4 :=
  ⟨hf.cell h.c0 he, hf.cell h.c1 he, hf.cell h.c2 he, hf.cell h.c3 he, hf.cell h.c4 he, fun j => (hf.frozen (cell_lt h.c0) he).trans (h.fz j)⟩
theorem P5.grown {w w' : World} (hb : Below w.heap.size w w') {T : Nat} {a0 a1 a2 a3 a4 : Value} (h : P5 w T a0 a1 a2 a3 a4) : P5 w' T a0 a1 a2 a3 a4 := h.fr (Fr.of_below hb (fun _ => False)) (fun h => h)
theorem P5.new (w : World) (a0 a1 a2 a3 a4 : Value) (t : TypeId) : P5 (w.alloc (.cells #[a0, a1, a2, a3, a4] t)) w.heap.size a0 a1 a2 a3 a4 := by
  have hv := vrow_new w [a0, a1, a2, a3, a4] t
  exact ⟨hv 0 (by simp), hv 1 (by simp), hv 2 (by simp), hv 3 (by simp), hv 4 (by simp), fun j => World.frozen?_alloc_at _ _ _ _ rfl⟩
theorem P5.s1 {w : World} {T : Nat} {a0 a1 a2 a3 a4 : Value} (h : P5 w T a0 a1 a2 a3 a4) (u : Value) : P5 (w.setCell ⟨T, 1, none⟩ u) T a0 u a2 a3 a4 :=
  ⟨so h.c0 (by decide), ss h.c1, so h.c2 (by decide), so h.c3 (by decide), so h.c4 (by decide), fun j => by rw [World.frozen?_setCell]; exact h.fz j⟩
theorem P5.s2 {w : World} {T : Nat} {a0 a1 a2 a3 a4 : Value} (h : P5 w T a0 a1 a2 a3 a4) (u : Value) : P5 (w.setCell ⟨T, 2, none⟩ u) T a0 a1 u a3 a4 :=
  ⟨so h.c0 (by decide), so h.c1 (by decide), ss h.c2, so h.c3 (by decide), so h.c4 (by decide), fun j => by rw [World.frozen?_setCell]; exact h.fz j⟩
theorem rec_lt' {α : Type} {f : α → List Value} {q : Nat} (hq : ∀ x, (f x).length = q) (hq0 : 0 < q) {w : World} {ao : Option Addr} {l : List α} (h : RecAt f w ao l) (hl : 0 < l.length) : ∃ g off, ao = some ⟨g, off, none⟩ ∧ VRow w g off (l.flatMap f) ∧ g < w.heap.size := by
  rcases h with h | ⟨g, off, e, hr⟩
  · rw [h] at hl; simp at hl
  · refine ⟨g, off, e, hr, hr.lt (fun e3 => ?_)⟩
    have h3 := rec_len f q hq l
    rw [e3] at h3
    simp only [List.length_nil] at h3
    rcases Nat.mul_eq_zero.1 h3.symm with h4 | h4 <;> omega
theorem own_atS {α : Type} {f : α → List Value} {e k : Nat} (hf : ∀ x, (f x).length = k) {w : World} {base n c : Nat} {ao : Option Addr} {xs : List α} (h : OwnRec f e k w base (.slice ao n c) xs) : RecAt f w ao xs := by
  obtain ⟨a2, c2, e2, hat⟩ := OwnRec.at hf h
  injection e2 with e2 _ _
  subst e2
  exact hat
theorem cell_oth (w : World) (L i j : Nat) (u : Value) (hne : i ≠ j) : (w.setCell ⟨L, i, none⟩ u).cell? ⟨L, j, none⟩ = w.cell? ⟨L, j, none⟩ :=
  World.cell?_setCell_other _ _ _ _ (by intro e; have := congrArg Addr.off e; simp only at this; exact hne this)
/-- what Add leaves -/
def AddOk (N : Nat → Prop) (b o base : Nat) (vl vs : Value) (md nx : Int) (ps : List PayD) (ks : List (Int × Int)) (n : Nat) (cs : List CoinD) (m : Nat) (ys : List (Int × Int)) (tag ch : Int) (w w' : World) : Prop :=
  ∃ vl' gc cc go co, LsAt (fun k => N k ∨ k = gc ∨ k = go) w' b o base vl' vs (md + 1) (if nx ≤ ch then ch + 1 else nx) (ps ++ [⟨md, some ⟨gc, 0, none⟩, n, cc, some ⟨go, 0, none⟩, m, co, tag, false, cs, ys⟩]) ks ∧ Fr (fun k => k = b ∨ vl.ownBlock = some k) w w' ∧ w.heap.size ≤ gc ∧ w.heap.size ≤ go ∧ (∀ k, vl'.ownBlock = some k → vl.ownBlock = some k ∨ w.heap.size ≤ k) ∧ (∀ j, j < o → w'.cell? ⟨b, j, none⟩ = w.cell? ⟨b, j, none⟩)
set_option maxRecDepth 100000 in
set_option maxHeartbeats 4000000 in
theorem payAdd_any (N : Nat → Prop) (b o base : Nat) (vl vs : Value) (md nx : Int) (ps : List PayD) (ks : List (Int × Int)) (ac : Option Addr) (n c : Nat) (cs : List CoinD) (ap : Option Addr) (m d : Nat) (ys : List (Int × Int)) (tag ch : Int) (w : World) (hL : LsAt N w b o base vl vs md nx ps ks) (hbs : base ≤ w.heap.size)
    (hx : RecAt CoinD.l w ac cs) (hn : cs.length = n) (h0n : 0 < n) (hn10 : n ≤ 10) (hy : OutsAt w ap ys) (hyn : ys.length = m) (hy0 : 0 < m) (hy8 : m ≤ 8) (hmd : 0 ≤ md ∧ md ≤ 4611686018427387904) (hpl : ps.length ≤ 1000000000000) (hch : -1 ≤ ch ∧ ch ≤ 100) :
    Calls Tryz.prog 87 #[.pointer (some ⟨b, o, none⟩), .slice ac n c, .slice ap m d, .int .i64 tag, .int .i64 ch] w fun e w' => e = .returned (.int .i64 md) ∧ AddOk N b o base vl vs md nx ps ks n cs m ys tag ch w w' := by
  obtain ⟨gx, ox, eac, hxr, hxl⟩ := rec_lt' coin6 (by omega) hx (by omega)
  obtain ⟨gy, oy, eap, hyr, hyl⟩ := rec_lt' kv2 (by omega) (outs_rec hy) (by omega)
  subst eac
  subst eap
  have HN : Hid (cs.length = n) := hn
  have HYN : Hid (ys.length = m) := hyn
  have HL : Hid (LsAt N w b o base vl vs md nx ps ks) := hL
  have l2 := hL.c2
  have hbl : b < w.heap.size := cell_lt l2
  have HBK : Hid (∀ k, lsE b vl vs k → k < w.heap.size) := hL.blk
  have HNB : Hid (∀ k, N k → k < w.heap.size) := fun k hk => (hL.nN k hk).1
  have HXR : Hid (VRow w gx ox (cs.flatMap CoinD.l)) := hxr
  have HYR : Hid (VRow w gy oy (ys.flatMap kV)) := hyr
  clear hx hn hy hyn hxr hyr hL
  have hbA : Below w.heap.size w (w.alloc (.cells #[.int .i64 md, .slice none 0 0, .slice none 0 0, .int .i64 tag, .bool false] 159)) := (Below.refl _ _).alloc (Nat.le_refl _) _
  have HT1 : Hid (P5 (w.alloc (.cells #[.int .i64 md, .slice none 0 0, .slice none 0 0, .int .i64 tag, .bool false] 159)) w.heap.size (.int .i64 md) (.slice none 0 0) (.slice none 0 0) (.int .i64 tag) (.bool false)) := P5.new w _ _ _ _ _ 159
  go_enter Tryz.func87, Tryz.ntmps87
  go_upto_region 2 with fail
  have HL1 : Hid (LsAt N (w.alloc (.cells #[.int .i64 md, .slice none 0 0, .slice none 0 0, .int .i64 tag, .bool false] 159)) b o base vl vs md nx ps ks) := HL.out.grown hbA
  have HXR1 : Hid (VRow (w.alloc (.cells #[.int .i64 md, .slice none 0 0, .slice none 0 0, .int .i64 tag, .bool false] 159)) gx ox (cs.flatMap CoinD.l)) := HXR.out.grown hbA
  have HYR1 : Hid (VRow (w.alloc (.cells #[.int .i64 md, .slice none 0 0, .slice none 0 0, .int .i64 tag, .bool false] 159)) gy oy (ys.flatMap kV)) := HYR.out.grown hbA
  have hz1 : w.heap.size < (w.alloc (.cells #[.int .i64 md, .slice none 0 0, .slice none 0 0, .int .i64 tag, .bool false] 159)).heap.size := by simp
  have HFA : Hid (Fr (fun _ => False) w (w.alloc (.cells #[.int .i64 md, .slice none 0 0, .slice none 0 0, .int .i64 tag, .bool false] 159))) := Fr.of_below hbA _
  generalize w.alloc (.cells #[.int .i64 md, .slice none 0 0, .slice none 0 0, .int .i64 tag, .bool false] 159) = w1 at *
  generalize hT : w.heap.size = T at *
  have HTe : Hid (w.heap.size = T) := hT
  clear hT hbA HXR HYR l2
  have t1 := HT1.out.c1
  have tf1 := HT1.out.fz 1
  go_upto_region 3 with (at_builtin; refine wpList_appN 45 48 _ Tryz.underlying45 info107 rfl (by decide) coin6 coin_one w1 rfl _ _ rfl (T + 1) gx ox n c (.slice none 0 0) [] cs (by rfl) (by rfl) HN.out h0n (OwnRec.nil _ _ _ _ _) HXR1.out (by omega) (by unfold maxLen; simp; omega) (by simp; omega) ?_; intro gc cc w3 hown3 hg3 hl3 hlt3; simp only [List.length_nil, Nat.zero_add, List.nil_append] at hown3 ⊢; have k2 := gb_cell hg3 t1 (by simp [Value.ownBlock]); have kf := (gb_frozen hg3 (by exact hz1) (by simp [Value.ownBlock])).trans tf1)
  have b3 : Below w1.heap.size w1 w3 := gb_to_below hg3 (Nat.le_refl _) (fun r hr => by simp [Value.ownBlock] at hr)
  have hgc : w1.heap.size ≤ gc := hl3.resolve_left (by simp [Value.ownBlock])
  have hz3 := b3.size
  have HOC4 : Hid (OwnRec CoinD.l 107 6 (w3.setCell ⟨T, 1, none⟩ (.slice (some ⟨gc, 0, none⟩) n cc)) (T + 1) (.slice (some ⟨gc, 0, none⟩) n cc) cs) := own_set hown3 _ _ _ (fun e => by simp [Value.ownBlock] at e; omega)
  have HT4 : Hid (P5 (w3.setCell ⟨T, 1, none⟩ (.slice (some ⟨gc, 0, none⟩) n cc)) T (.int .i64 md) (.slice (some ⟨gc, 0, none⟩) n cc) (.slice none 0 0) (.int .i64 tag) (.bool false)) := (HT1.out.grown b3).s1 _
  have hf34 : Fr (fun k => k = T) w1 (w3.setCell ⟨T, 1, none⟩ (.slice (some ⟨gc, 0, none⟩) n cc)) := (Fr.of_below b3 _).set T 1 _ (fun _ => rfl)
  have HL4 : Hid (LsAt N (w3.setCell ⟨T, 1, none⟩ (.slice (some ⟨gc, 0, none⟩) n cc)) b o base vl vs md nx ps ks) := HL1.out.fr hf34 (fun k hk e => by have := HBK.out k hk; omega) (fun k hk e => by have := HNB.out k hk; omega)
  have HYR4 : Hid (VRow (w3.setCell ⟨T, 1, none⟩ (.slice (some ⟨gc, 0, none⟩) n cc)) gy oy (ys.flatMap kV)) := hf34.vrow HYR1.out (by omega)
  have HF4 : Hid (Fr (fun k => k = T) w1 (w3.setCell ⟨T, 1, none⟩ (.slice (some ⟨gc, 0, none⟩) n cc))) := hf34
  have hz4 : w3.heap.size = (w3.setCell ⟨T, 1, none⟩ (.slice (some ⟨gc, 0, none⟩) n cc)).heap.size := by simp
  clear hown3 hg3 hl3 k2 kf b3 hf34 HL1 HYR1 HXR1 HT1 t1 tf1
  generalize w3.setCell ⟨T, 1, none⟩ (.slice (some ⟨gc, 0, none⟩) n cc) = w4 at *
  have t2 := HT4.out.c2
  have tf2 := HT4.out.fz 2
  have hTl4 : T < w4.heap.size := by omega
  go_upto_region 4 with (at_builtin; refine wpList_appN 28 16 _ Tryz.underlying28 info93 rfl (by decide) kv2 kv_one w4 rfl _ _ rfl (T + 1) gy oy m d (.slice none 0 0) [] ys (by rfl) (by rfl) HYN.out hy0 (OwnRec.nil _ _ _ _ _) HYR4.out (by omega) (by unfold maxLen; simp; omega) (by simp; omega) ?_; intro go co w5 hown5 hg5 hl5 hlt5; simp only [List.length_nil, Nat.zero_add, List.nil_append] at hown5 ⊢; have k2 := gb_cell hg5 t2 (by simp [Value.ownBlock]); have kf := (gb_frozen hg5 (by exact hTl4) (by simp [Value.ownBlock])).trans tf2)
  have b5 : Below w4.heap.size w4 w5 := gb_to_below hg5 (Nat.le_refl _) (fun r hr => by simp [Value.ownBlock] at hr)
  have hgo : w4.heap.size ≤ go := hl5.resolve_left (by simp [Value.ownBlock])
  have hz5 := b5.size
  have hf56 : Fr (fun k => k = T) w4 (w5.setCell ⟨T, 2, none⟩ (.slice (some ⟨go, 0, none⟩) m co)) := (Fr.of_below b5 _).set T 2 _ (fun _ => rfl)
  have HOO6 : Hid (OwnRec kV 93 2 (w5.setCell ⟨T, 2, none⟩ (.slice (some ⟨go, 0, none⟩) m co)) (T + 1) (.slice (some ⟨go, 0, none⟩) m co) ys) := own_set hown5 _ _ _ (fun e => by simp [Value.ownBlock] at e; omega)
  have HOC6 : Hid (OwnRec CoinD.l 107 6 (w5.setCell ⟨T, 2, none⟩ (.slice (some ⟨go, 0, none⟩) m co)) (T + 1) (.slice (some ⟨gc, 0, none⟩) n cc) cs) := hf56.own HOC4.out (fun k hk e => by simp [Value.ownBlock] at hk; omega)
  have HT6 : Hid (P5 (w5.setCell ⟨T, 2, none⟩ (.slice (some ⟨go, 0, none⟩) m co)) T (.int .i64 md) (.slice (some ⟨gc, 0, none⟩) n cc) (.slice (some ⟨go, 0, none⟩) m co) (.int .i64 tag) (.bool false)) := (HT4.out.grown b5).s2 _
  have HL6 : Hid (LsAt N (w5.setCell ⟨T, 2, none⟩ (.slice (some ⟨go, 0, none⟩) m co)) b o base vl vs md nx ps ks) := HL4.out.fr hf56 (fun k hk e => by have := HBK.out k hk; omega) (fun k hk e => by have := HNB.out k hk; omega)
  have HF6 : Hid (Fr (fun _ => False) w (w5.setCell ⟨T, 2, none⟩ (.slice (some ⟨go, 0, none⟩) m co))) := by
    have h1 := HF4.out.trans hf56
    exact ⟨h1.os.trans HFA.out.os, h1.tape.trans HFA.out.tape, h1.output.trans HFA.out.output, Nat.le_trans HFA.out.size h1.size, fun k hk he => (h1.block k (Nat.lt_of_lt_of_le hk HFA.out.size) (fun e => by have := HTe.out; omega)).trans (HFA.out.block k hk he)⟩
  have hz6 : w5.heap.size = (w5.setCell ⟨T, 2, none⟩ (.slice (some ⟨go, 0, none⟩) m co)).heap.size := by simp
  clear hown5 hg5 hl5 k2 kf b5 hf56 HL4 HYR4 HT4 HOC4 HF4 HFA t2 tf2
  generalize w5.setCell ⟨T, 2, none⟩ (.slice (some ⟨go, 0, none⟩) m co) = w6 at *
  have l0 := HL6.out.c0
  have lf := HL6.out.fz o
  have hvlb : some b ≠ vl.ownBlock := fun e => by have := (HL6.out.ol.blk b e.symm).1; have := HL6.out.nb; omega
  have hb6 : b < w6.heap.size := by omega
  obtain ⟨t0, t1, t2, t3, t4, tz⟩ := HT6.out
  have hT6 : T < w6.heap.size := cell_lt t0
  clear tz
  go_region_law (refine step_appR 98 72 _ Tryz.underlying98 info159 rfl (by decide) pay5 pay_one _ ?_ (.tmp 32) (.tmp 34) ?_ base w6.heap.size 1 vl ps ⟨md, some ⟨gc, 0, none⟩, n, cc, some ⟨go, 0, none⟩, m, co, tag, false, cs, ys⟩ ?_ ?_ ?_ ?_ ?_ ?_ ?_ ?_; rfl; rfl; rfl; rfl; exact OwnRec.drew (HL6.out.ol.alloc _); exact VRow.drew (vrow_new w6 _ _); (rw [World.size_drew, World.size_alloc]; omega); (unfold maxLen; omega); (omega); intro gl capl w10 hown10 hg10 hl10 hlt10; have k0 := keepO hg10 l0 hvlb; have k1 := keepF hg10 lf hb6 hvlb)
  all_goals
    have bW : Below w6.heap.size w6 ((w6.alloc (.cells #[.int .i64 md, .slice (some ⟨gc, 0, none⟩) n cc, .slice (some ⟨go, 0, none⟩) m co, .int .i64 tag, .bool false] 159)).drew) := ((Below.refl _ _).alloc (Nat.le_refl _) _).drew
    have hzW : ((w6.alloc (.cells #[.int .i64 md, .slice (some ⟨gc, 0, none⟩) n cc, .slice (some ⟨go, 0, none⟩) m co, .int .i64 tag, .bool false] 159)).drew).heap.size = w6.heap.size + 1 := by rw [World.size_drew, World.size_alloc]
    have hLM : LsAt (fun k => N k ∨ k = gc ∨ k = go) ((w6.alloc (.cells #[.int .i64 md, .slice (some ⟨gc, 0, none⟩) n cc, .slice (some ⟨go, 0, none⟩) m co, .int .i64 tag, .bool false] 159)).drew) b o base vl vs md nx ps ks := (HL6.out.grown bW).more (fun k hk => Or.inl hk) (fun k hk => by
      rcases hk with hk | hk | hk
      · exact (HL6.out.grown bW).nN k hk
      · subst hk
        exact ⟨by omega, by omega, fun e => by have := HBK.out _ (Or.inr (Or.inl e)); omega, fun e => by have := HBK.out _ (Or.inr (Or.inr e)); omega⟩
      · subst hk
        exact ⟨by omega, by omega, fun e => by have := HBK.out _ (Or.inr (Or.inl e)); omega, fun e => by have := HBK.out _ (Or.inr (Or.inr e)); omega⟩)
    have hPX : PayOk (fun k => N k ∨ k = gc ∨ k = go) ((w6.alloc (.cells #[.int .i64 md, .slice (some ⟨gc, 0, none⟩) n cc, .slice (some ⟨go, 0, none⟩) m co, .int .i64 tag, .bool false] 159)).drew) ⟨md, some ⟨gc, 0, none⟩, n, cc, some ⟨go, 0, none⟩, m, co, tag, false, cs, ys⟩ := ⟨own_atS coin6 (HOC6.out.grown bW), HN.out, rec_outs (own_atS kv2 (HOO6.out.grown bW)), HYN.out, fun _ a ha => by injection ha with ha; subst ha; exact Or.inr (Or.inl rfl), fun _ a ha => by injection ha with ha; subst ha; exact Or.inr (Or.inr rfl), hn10, hy8⟩
    obtain ⟨hL11, hf11⟩ := hLM.push hown10 hg10 hl10 hPX
    have HL11 : Hid _ := hL11
    have HF11 : Hid (Fr (fun k => k = b ∨ vl.ownBlock = some k) w (w10.setCell ⟨b, o, none⟩ (.slice (some ⟨gl, 0, none⟩) (ps.length + 1) capl))) := (HF6.out.weak (fun _ _ e => e.elim)).trans ((Fr.of_below bW _).trans hf11)
    have hnT : ¬ (T = b ∨ vl.ownBlock = some T) := fun e => by
      rcases e with e | e
      · omega
      · have := HBK.out _ (Or.inr (Or.inl e)); omega
    have x0 := hf11.cell ((bW.cell (p := ⟨T, 0, none⟩) hT6).trans t0) hnT
    have HVL : Hid (∀ k, (Value.slice (some ⟨gl, 0, none⟩) (ps.length + 1) capl).ownBlock = some k → vl.ownBlock = some k ∨ T ≤ k) := fun k hk => by
      simp [Value.ownBlock] at hk
      subst hk
      exact hl10.imp id (fun h => by omega)
    have HCJ : Hid (∀ j, j < o → (w10.setCell ⟨b, o, none⟩ (.slice (some ⟨gl, 0, none⟩) (ps.length + 1) capl)).cell? ⟨b, j, none⟩ = w.cell? ⟨b, j, none⟩) := fun j hj => by
      rw [cell_oth _ _ _ _ _ (by omega), World.cell?_of_block (hg10.block b (by omega) hvlb), World.cell?_of_block (bW.block b hb6), World.cell?_of_block (HF6.out.block b (by rw [HTe.out]; exact hbl) (fun h => h))]
    clear hown10 hg10 hl10 hlt10 k0 k1 hL11 hf11 hLM hPX bW hzW t0 t1 t2 t3 t4 l0 lf
    generalize w10.setCell ⟨b, o, none⟩ (.slice (some ⟨gl, 0, none⟩) (ps.length + 1) capl) = w11 at *
    have y2 := HL11.out.c2
    have g2 := HL11.out.fz (o + 2)
    have y3 := HL11.out.c3
    have g3 := HL11.out.fz (o + 3)
    have hw1 : IntKind.i64.wrap (md + 1) = md + 1 := IntWalk.i64_in _ ⟨by omega, by omega⟩
    have hw2 : IntKind.i64.wrap (ch + 1) = ch + 1 := IntWalk.i64_in _ ⟨by omega, by omega⟩
    have HL12 : Hid _ := HL11.out.set2 (md + 1)
    have HF12 : Hid (Fr (fun k => k = b ∨ vl.ownBlock = some k) w (w11.setCell ⟨b, o + 2, none⟩ (.int .i64 (md + 1)))) := HF11.out.set b (o + 2) _ (fun _ => Or.inl rfl)
    have z0 := sob (K := b) (i := o + 2) (u := .int .i64 (md + 1)) x0 (by omega)
    have z3 := so (i := o + 2) (u := .int .i64 (md + 1)) y3 (by omega)
    have h3 := HL12.out.fz (o + 3)
    by_cases hnc : nx ≤ ch
    · have HL13 : Hid _ := HL12.out.set3 (ch + 1)
      have HF13 : Hid (Fr (fun k => k = b ∨ vl.ownBlock = some k) w ((w11.setCell ⟨b, o + 2, none⟩ (.int .i64 (md + 1))).setCell ⟨b, o + 3, none⟩ (.int .i64 (ch + 1)))) := HF12.out.set b (o + 3) _ (fun _ => Or.inl rfl)
      have q0 := sob (K := b) (i := o + 3) (u := .int .i64 (ch + 1)) z0 (by omega)
      go_wp2
      go_ret
      refine ⟨rfl, ?_⟩
      unfold AddOk
      rw [HTe.out, if_pos (show nx ≤ ch by omega)]
      exact ⟨_, gc, cc, go, co, HL13.out, HF13.out, by omega, by omega, HVL.out, fun j hj => by rw [cell_oth _ _ _ _ _ (by omega), cell_oth _ _ _ _ _ (by omega)]; exact HCJ.out j hj⟩
    · have hnd : decide (nx ≤ ch) = false := decide_eq_false hnc
      go_wp2
      go_ret
      refine ⟨rfl, ?_⟩
      unfold AddOk
      rw [HTe.out, if_neg (show ¬ nx ≤ ch by omega)]
      exact ⟨_, gc, cc, go, co, HL12.out, HF12.out, by omega, by omega, HVL.out, fun j hj => by rw [cell_oth _ _ _ _ _ (by omega)]; exact HCJ.out j hj⟩
end Go.Proofs.YtffgpepngcnjeabGreatQ
