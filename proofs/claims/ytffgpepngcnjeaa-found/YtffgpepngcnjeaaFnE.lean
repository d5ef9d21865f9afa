/-
  Found: a block with one coin more.
-/
import Derived.Test.YtffgpepngcnjeaaFnD
namespace Go.Proofs.Ytffgpepngcnjeaa
open Go.RowKit

theorem outs_one (w : World) (b : Nat) (x y : Int) (h0 : w.cell? ⟨b, 0, none⟩ = some (.int .i64 x)) (h1 : w.cell? ⟨b, 1, none⟩ = some (.int .i64 y)) : OutsAt w (some ⟨b, 0, none⟩) [(x, y)] := by
  refine Or.inr ⟨b, 0, rfl, fun j hj => ?_⟩
  have e : j = 0 := by simp at hj; exact hj
  subst e
  exact ⟨h0, h1⟩

theorem keep4 {E : Nat → Prop} {w w' : World} {S T : Nat} {a0 b0 b1 b2 : Value} (hf : Fr E w w') (h : w.cell? ⟨S, 0, none⟩ = some a0 ∧ w.cell? ⟨T, 0, none⟩ = some b0 ∧ w.cell? ⟨T, 1, none⟩ = some b1 ∧ w.cell? ⟨T, 2, none⟩ = some b2) (hS : ¬ E S) (hT : ¬ E T) :
    w'.cell? ⟨S, 0, none⟩ = some a0 ∧ w'.cell? ⟨T, 0, none⟩ = some b0 ∧ w'.cell? ⟨T, 1, none⟩ = some b1 ∧ w'.cell? ⟨T, 2, none⟩ = some b2 :=
  ⟨hf.cell h.1 hS, hf.cell h.2.1 hT, hf.cell h.2.2.1 hT, hf.cell h.2.2.2 hT⟩

set_option maxRecDepth 100000 in
set_option maxHeartbeats 4000000 in
theorem mint_any (S P : Nat) (s : Int) (g h : Nat) (v vi vc : Value) (xs : List Cel) (ids : List Int) (cs : List CoinD) (ta val : Int) (w : World) (u : Sc S P s g h v vi vc xs ids cs w) (hids : ids = xs.map Cel.id) (hh : h < 40) (hl : xs.length ≤ 100) (hcl : cs.length ≤ 100) (hV : Vals xs) (hto : Mk.isM ta = true) (hval : 10 ≤ val ∧ val ≤ 1099511627776) :
    Calls Try.prog 45 #[.pointer (some ⟨S, 0, none⟩), .int .i64 ta, .int .i64 val] w fun e w' => e = .returned (.bool true) ∧ ∃ id v' vi' vc', Sc S P s g (h + 1) v' vi' vc' (xs ++ [⟨id, 0, ta, val, h, -1⟩]) (ids ++ [id]) (cs ++ [⟨id, 0, ta, val, 0, 0⟩]) w' ∧ ScStep P S v vi vc v' vi' vc' w w' := by
  have HU : Hid (Sc S P s g h v vi vc xs ids cs w) := u
  have HI : Hid (ids = xs.map Cel.id) := hids
  have HV : Hid (Vals xs) := hV
  have HTO : Hid (Mk.isM ta = true) := hto
  have HIL : Hid (ids.length ≤ 100) := by show _ ≤ _; rw [hids, List.length_map]; exact hl
  have HXL : Hid (xs.length ≤ 100) := hl
  have HCL : Hid (cs.length ≤ 100) := hcl
  have hil : ids.length ≤ 100 := HIL.out
  have hSl := u.big.1
  clear u hids hV hto hl hcl
  obtain ⟨ao, ci, evi, hat⟩ := OwnRec.at iv1 HU.out.oi
  subst evi
  have HIA : Hid (RecAt iV w ao ids) := hat
  clear hat
  generalize hnl : ids.length = n at *
  have HNL : Hid (ids.length = n) := hnl
  clear hnl
  go_enter Try.func45, Try.ntmps45
  go_wp2
  go_loopw [7] (fun i wr => ∃ k : Nat, k ≤ n + 1 ∧ i = .int .i64 k ∧ Hid (∀ j : Nat, j < k → depId (j : Int) ta val ∈ ids) ∧ Below w.heap.size w wr) (fun i _ => n + 1 - (intOf i).toNat)
  case atStart => exact ⟨0, Nat.zero_le _, rfl, fun j hj => by omega, Below.refl _ _⟩
  case round =>
    obtain ⟨k, hk, rfl, hold, hbl⟩ := hrel
    have hsz := hbl.size
    have HUr : Hid (Sc S P s g h v (.slice ao n ci) vc xs ids cs wr) := HU.out.grown hbl
    have s3 := HUr.out.c3
    by_cases hlt : k ≤ n
    · have hkI : (k : Int) ≤ (n : Int) := by omega
      have bA : Below wr.heap.size wr ((wr.alloc (.cells #[.int .i64 ta, .int .i64 val] 111)).alloc (.cells #[.int .i64 (k : Int), .slice none 0 0, .slice (some ⟨wr.heap.size, 0, none⟩) 1 1] 25)) := ((Below.refl _ _).alloc (Nat.le_refl _) _).alloc (by simp) _
      have o0 : ((wr.alloc (.cells #[.int .i64 ta, .int .i64 val] 111)).alloc (.cells #[.int .i64 (k : Int), .slice none 0 0, .slice (some ⟨wr.heap.size, 0, none⟩) 1 1] 25)).cell? ⟨wr.heap.size, 0, none⟩ = some (.int .i64 ta) := by go_simp
      have o1 : ((wr.alloc (.cells #[.int .i64 ta, .int .i64 val] 111)).alloc (.cells #[.int .i64 (k : Int), .slice none 0 0, .slice (some ⟨wr.heap.size, 0, none⟩) 1 1] 25)).cell? ⟨wr.heap.size, 1, none⟩ = some (.int .i64 val) := by go_simp
      have t0 : ((wr.alloc (.cells #[.int .i64 ta, .int .i64 val] 111)).alloc (.cells #[.int .i64 (k : Int), .slice none 0 0, .slice (some ⟨wr.heap.size, 0, none⟩) 1 1] 25)).cell? ⟨wr.heap.size + 1, 0, none⟩ = some (.int .i64 (k : Int)) := by go_simp
      have t1 : ((wr.alloc (.cells #[.int .i64 ta, .int .i64 val] 111)).alloc (.cells #[.int .i64 (k : Int), .slice none 0 0, .slice (some ⟨wr.heap.size, 0, none⟩) 1 1] 25)).cell? ⟨wr.heap.size + 1, 1, none⟩ = some (.slice none 0 0) := by go_simp
      have t2 : ((wr.alloc (.cells #[.int .i64 ta, .int .i64 val] 111)).alloc (.cells #[.int .i64 (k : Int), .slice none 0 0, .slice (some ⟨wr.heap.size, 0, none⟩) 1 1] 25)).cell? ⟨wr.heap.size + 1, 2, none⟩ = some (.slice (some ⟨wr.heap.size, 0, none⟩) 1 1) := by go_simp
      go_upto_region 5 with fail
      generalize ((wr.alloc (.cells #[.int .i64 ta, .int .i64 val] 111)).alloc (.cells #[.int .i64 (k : Int), .slice none 0 0, .slice (some ⟨wr.heap.size, 0, none⟩) 1 1] 25)) = w1 at *
      have hOl : wr.heap.size < w1.heap.size := cell_lt o0
      have hTl : wr.heap.size + 1 < w1.heap.size := cell_lt t0
      have hwO : w.heap.size ≤ wr.heap.size := hsz
      have HU1 : Hid (Sc S P s g h v (.slice ao n ci) vc xs ids cs w1) := HUr.out.grown bA
      have hb1 : Below w.heap.size w w1 := hbl.trans (bA.mono hsz)
      clear bA HUr s3
      generalize wr.heap.size = OB at *
      have HOU : Hid (OutsAt w1 (some ⟨OB, 0, none⟩) [(ta, val)]) := outs_one w1 OB ta val o0 o1
      go_wp2_with fail
      refine (pId_any (k : Int) none 0 0 (some ⟨OB, 0, none⟩) 1 1 [] [(ta, val)] _ (Or.inl rfl) rfl HOU.out rfl).mono ?_
      rintro e w2 ⟨rfl, hb2⟩
      have hz2 := hb2.size
      have HU2 : Hid (Sc S P s g h v (.slice ao n ci) vc xs ids cs w2) := HU1.out.grown hb2
      have hb02 : Below w.heap.size w w2 := hb1.trans (hb2.mono (by omega))
      have HOU2 : Hid (OutsAt w2 (some ⟨OB, 0, none⟩) [(ta, val)]) := HOU.out.grown hb2
      have p0 := (hb2.cell (p := ⟨OB + 1, 0, none⟩) hTl).trans t0
      have p1 := (hb2.cell (p := ⟨OB + 1, 1, none⟩) hTl).trans t1
      have p2 := (hb2.cell (p := ⟨OB + 1, 2, none⟩) hTl).trans t2
      have hTl2 : OB + 1 < w2.heap.size := by omega
      clear o0 o1 t0 t1 t2 HOU HU1 hb1 hb2
      have HID : Hid (depId (k : Int) ta val = idZ (k : Int) [] [(ta, val)]) := rfl
      generalize idZ (k : Int) [] [(ta, val)] = id at *
      have s3 := HU2.out.c3
      have HIA2 : Hid (RecAt iV w2 ao ids) := HIA.out.grown hb02
      go_wp2_with fail
      refine (among_any ao n ci ids id _ HIA2.out HNL.out (by omega)).mono ?_
      rintro e w3 ⟨rfl, hb3⟩
      have hz3 := hb3.size
      have HU3 : Hid (Sc S P s g h v (.slice ao n ci) vc xs ids cs w3) := HU2.out.grown hb3
      have hb03 : Below w.heap.size w w3 := hb02.trans (hb3.mono (by omega))
      have HOU3 : Hid (OutsAt w3 (some ⟨OB, 0, none⟩) [(ta, val)]) := HOU2.out.grown hb3
      have q0 := (hb3.cell (p := ⟨OB + 1, 0, none⟩) hTl2).trans p0
      have q1 := (hb3.cell (p := ⟨OB + 1, 1, none⟩) hTl2).trans p1
      have q2 := (hb3.cell (p := ⟨OB + 1, 2, none⟩) hTl2).trans p2
      clear p0 p1 p2 HOU2 HU2 hb02 hb3 s3 HIA2
      have HMEM : Hid ((ids.any fun y => y == id) = true ↔ id ∈ ids) := by
        show _ ↔ _
        rw [List.any_eq_true]
        constructor
        · rintro ⟨y, hy, e⟩
          rw [← (by simpa using e : y = id)]
          exact hy
        · intro hm
          exact ⟨id, hm, by simp⟩
      generalize (ids.any fun y => y == id) = bo at *
      cases bo
      · have HNEW : Hid (id ∉ xs.map Cel.id) := by
          show ¬ _
          rw [← HI.out]
          intro hm
          have := HMEM.out.2 hm
          cases this
        have s0 := HU3.out.c0
        have hSl3 : S < w3.heap.size := cell_lt s0
        have hOl3 : OB < w3.heap.size := by omega
        have hTl3 : OB + 1 < w3.heap.size := by omega
        have HPB : Hid (∀ k, chE P v k → P ≤ k ∧ k < w3.heap.size) := HU3.out.pat.blk
        have HCE : Hid (∀ k, chE P v k → k < w.heap.size) := fun k hk => (HU.out.pat.blk k hk).2
        have bB : Below w3.heap.size w3 (w3.alloc (.cells #[.int .i64 (k : Int), .slice none 0 0, .slice (some ⟨OB, 0, none⟩) 1 1] 25)) := (Below.refl _ _).alloc (Nat.le_refl _) _
        have HPW : Hid (PAt ((w3.alloc (.cells #[.int .i64 (k : Int), .slice none 0 0, .slice (some ⟨OB, 0, none⟩) 1 1] 25)).drew) P s g v h xs) := (HU3.out.pat.grown bB).drew
        have HSW : Hid (Sc S P s g h v (.slice ao n ci) vc xs ids cs ((w3.alloc (.cells #[.int .i64 (k : Int), .slice none 0 0, .slice (some ⟨OB, 0, none⟩) 1 1] 25)).drew)) := HU3.out.grown bB.drew
        have HBK : Hid (BlkAt (fun q => q = OB ∨ q = w3.heap.size) ((w3.alloc (.cells #[.int .i64 (k : Int), .slice none 0 0, .slice (some ⟨OB, 0, none⟩) 1 1] 25)).drew) (some ⟨w3.heap.size, 0, none⟩) [⟨k, none, 0, 0, some ⟨OB, 0, none⟩, 1, 1, [], [(ta, val)]⟩]) := by
          refine ⟨Or.inr ⟨w3.heap.size, 0, rfl, ?_⟩, fun _ a ha => ?_, fun x hx => ?_⟩
          · exact VRow.drew (vrow_new w3 _ _)
          · injection ha with ha; subst ha; exact Or.inr rfl
          · rw [List.mem_singleton.1 hx]
            exact ⟨Or.inl rfl, rfl, HOU3.out.grown bB.drew, rfl, fun e => absurd rfl e, fun _ a ha => by injection ha with ha; subst ha; exact Or.inl rfl, fun i hi => by cases hi⟩
        have HNB : Hid (∀ q, (q = OB ∨ q = w3.heap.size) → q < ((w3.alloc (.cells #[.int .i64 (k : Int), .slice none 0 0, .slice (some ⟨OB, 0, none⟩) 1 1] 25)).drew).heap.size ∧ ¬ chE P v q) := fun q hq => by
          refine ⟨?_, fun e => ?_⟩
          · rw [World.size_drew, World.size_alloc]
            rcases hq with rfl | rfl <;> omega
          · have := HCE.out q e
            rcases hq with rfl | rfl <;> omega
        have HCN : Hid (connZ (h : Int) xs [⟨k, none, 0, 0, some ⟨OB, 0, none⟩, 1, 1, [], [(ta, val)]⟩] = (0, 0, (h : Int) + 1, xs ++ [⟨id, 0, ta, val, h, -1⟩])) := by
          show _ = _
          rw [dep_conn h xs (k : Int) ta val hh ⟨by omega, by omega⟩ HTO.out hval (by rw [HID.out]; exact HNEW.out) _ rfl rfl rfl, HID.out]
        have hnS : ¬ chE P v S := fun e => (HU3.out.d1 S e).1 rfl
        have hnT : ¬ chE P v (OB + 1) := fun e => by have := HCE.out _ e; omega
        have HKW : Hid (((w3.alloc (.cells #[.int .i64 (k : Int), .slice none 0 0, .slice (some ⟨OB, 0, none⟩) 1 1] 25)).drew).cell? ⟨S, 0, none⟩ = some (.pointer (some ⟨P, 0, none⟩)) ∧ ((w3.alloc (.cells #[.int .i64 (k : Int), .slice none 0 0, .slice (some ⟨OB, 0, none⟩) 1 1] 25)).drew).cell? ⟨OB + 1, 0, none⟩ = some (.int .i64 (k : Int)) ∧ ((w3.alloc (.cells #[.int .i64 (k : Int), .slice none 0 0, .slice (some ⟨OB, 0, none⟩) 1 1] 25)).drew).cell? ⟨OB + 1, 1, none⟩ = some (.slice none 0 0) ∧ ((w3.alloc (.cells #[.int .i64 (k : Int), .slice none 0 0, .slice (some ⟨OB, 0, none⟩) 1 1] 25)).drew).cell? ⟨OB + 1, 2, none⟩ = some (.slice (some ⟨OB, 0, none⟩) 1 1)) :=
          ⟨(bB.cell (p := ⟨S, 0, none⟩) hSl3).trans s0, (bB.cell (p := ⟨OB + 1, 0, none⟩) hTl3).trans q0, (bB.cell (p := ⟨OB + 1, 1, none⟩) hTl3).trans q1, (bB.cell (p := ⟨OB + 1, 2, none⟩) hTl3).trans q2⟩
        have hbD : Below w.heap.size w ((w3.alloc (.cells #[.int .i64 (k : Int), .slice none 0 0, .slice (some ⟨OB, 0, none⟩) 1 1] 25)).drew) := hb03.trans (bB.drew.mono (by omega))
        go_upto_region 8 with fail
        go_region_held3 (fun w' => w'.cell? ⟨S, 0, none⟩ = some (.pointer (some ⟨P, 0, none⟩)) ∧ w'.cell? ⟨OB + 1, 0, none⟩ = some (.int .i64 (k : Int)) ∧ w'.cell? ⟨OB + 1, 1, none⟩ = some (.slice none 0 0) ∧ w'.cell? ⟨OB + 1, 2, none⟩ = some (.slice (some ⟨OB, 0, none⟩) 1 1)) (first | assumption | go_keep | exact keep4 hst4.fr HKW.out hnS hnT) ((go_at_call 41; refine (pConnect_any P s g v h xs (fun q => q = OB ∨ q = w3.heap.size) (some ⟨w3.heap.size, 0, none⟩) 1 1 [⟨k, none, 0, 0, some ⟨OB, 0, none⟩, 1, 1, [], [(ta, val)]⟩] _ HPW.out (by have := HXL.out; omega) HV.out (by omega) HBK.out rfl HNB.out (by omega)).mono ?_; rintro e w4 ⟨rfl, v4, hp4, hst4⟩; rw [HCN.out] at hp4 ⊢))
        have hp4' : PAt w4 P s g v4 ((h + 1 : Nat) : Int) (xs ++ [⟨id, 0, ta, val, h, -1⟩]) := by push_cast; exact hp4
        obtain ⟨hsc4, hss4⟩ := HSW.out.chain hp4' hst4
        have HS4 : Hid (Sc S P s g (h + 1) v4 (.slice ao n ci) vc (xs ++ [⟨id, 0, ta, val, h, -1⟩]) ids cs w4) := hsc4
        have HT4 : Hid (ScStep P S v (.slice ao n ci) vc v4 (.slice ao n ci) vc w w4) := (ScStep.of_below hbD).trans hss4
        clear hp4 hp4' hst4 hsc4 hss4 HKW HPW HSW HBK HNB hbD bB q0 q1 q2 s0 hnS hnT hb03 HOU3 HPB HCE HU3
        have s3 := HS4.out.c3
        have f3 := HS4.out.f3
        have hSl4 : S < w4.heap.size := cell_lt s3
        have hviS : some S ≠ (Value.slice ao n ci).ownBlock := fun e => by have := (HS4.out.oi.blk S e.symm).1; omega
        have bC : Below w4.heap.size w4 (w4.alloc (.cells #[.int .i64 id] 3)) := (Below.refl _ _).alloc (Nat.le_refl _) _
        have HS5 : Hid (Sc S P s g (h + 1) v4 (.slice ao n ci) vc (xs ++ [⟨id, 0, ta, val, h, -1⟩]) ids cs (w4.alloc (.cells #[.int .i64 id] 3))) := HS4.out.grown bC
        have HT5 : Hid (ScStep P S v (.slice ao n ci) vc v4 (.slice ao n ci) vc w (w4.alloc (.cells #[.int .i64 id] 3))) := HT4.out.trans (ScStep.of_below bC)
        go_upto_region 12 with (at_builtin; refine wpList_appR 30 8 _ Try.underlying30 info3 rfl (by decide) iv1 iv_one (w4.alloc (.cells #[.int .i64 id] 3)) rfl _ _ rfl (S + 1) w4.heap.size 1 (.slice ao n ci) ids id (by rfl) (by rfl) HS5.out.oi (vrow_new _ _ _) (by simp; omega) (by rw [HNL.out]; unfold maxLen; omega) (by rw [HNL.out]; omega) ?_; intro gb capb w8 hown8 hg8 hl8 hlt8; have k0 := gb_cell hg8 HS5.out.c3 hviS; have k1 := (gb_frozen hg8 (cell_lt HS5.out.c3) hviS).trans HS5.out.f3)
        obtain ⟨hsc9, hss9⟩ := HS5.out.pushI hown8 hg8 hl8
        have HS9 : Hid _ := hsc9
        have HT9 : Hid _ := HT5.out.trans hss9
        clear hsc9 hss9 hown8 hg8 hl8 hlt8 k0 k1 HS5 HT5 HS4 HT4 bC s3 f3 hviS
        generalize w8.setCell ⟨S, 3, none⟩ (.slice (some ⟨gb, 0, none⟩) (ids.length + 1) capb) = w9 at *
        generalize (Value.slice (some ⟨gb, 0, none⟩) (ids.length + 1) capb) = vi9 at *
        have s4 := HS9.out.c4
        have f4 := HS9.out.f4
        have hSl9 : S < w9.heap.size := cell_lt s4
        have hvcS : some S ≠ vc.ownBlock := fun e => by have := (HS9.out.oc.blk S e.symm).1; omega
        have bD : Below w9.heap.size w9 (w9.alloc (.cells #[.int .i64 id, .int .i64 0, .int .i64 ta, .int .i64 val, .int .i64 0, .int .i64 0] 143)) := (Below.refl _ _).alloc (Nat.le_refl _) _
        have HS10 : Hid (Sc S P s g (h + 1) v4 vi9 vc (xs ++ [⟨id, 0, ta, val, h, -1⟩]) (ids ++ [id]) cs (w9.alloc (.cells #[.int .i64 id, .int .i64 0, .int .i64 ta, .int .i64 val, .int .i64 0, .int .i64 0] 143))) := HS9.out.grown bD
        have HT10 : Hid (ScStep P S v (.slice ao n ci) vc v4 vi9 vc w (w9.alloc (.cells #[.int .i64 id, .int .i64 0, .int .i64 ta, .int .i64 val, .int .i64 0, .int .i64 0] 143))) := HT9.out.trans (ScStep.of_below bD)
        go_upto_region 13 with (at_builtin; refine wpList_appR 63 48 _ Try.underlying63 info143 rfl (by decide) coin6 coin_one (w9.alloc (.cells #[.int .i64 id, .int .i64 0, .int .i64 ta, .int .i64 val, .int .i64 0, .int .i64 0] 143)) rfl _ _ rfl (S + 1) w9.heap.size 1 vc cs ⟨id, 0, ta, val, 0, 0⟩ (by rfl) (by rfl) HS10.out.oc (vrow_new _ _ _) (by simp; omega) (by have := HCL.out; unfold maxLen; omega) (by have := HCL.out; omega) ?_; intro gd capd w11 hown11 hg11 hl11 hlt11; have k0 := gb_cell hg11 HS10.out.c4 hvcS; have k1 := (gb_frozen hg11 (cell_lt HS10.out.c4) hvcS).trans HS10.out.f4)
        obtain ⟨hsc12, hss12⟩ := HS10.out.pushC hown11 hg11 hl11
        have HS12 : Hid _ := hsc12
        have HT12 : Hid _ := HT10.out.trans hss12
        clear hsc12 hss12 hown11 hg11 hl11 hlt11 k0 k1 HS10 HT10
        go_wp2
        go_ret
        exact ⟨rfl, id, v4, vi9, _, HS12.out, HT12.out⟩
      · go_wp2
        go_roundw
        case rel => exact ⟨k + 1, by omega, by go_num, fun j hj => by
          by_cases e : j = k
          · subst e; rw [HID.out]; exact HMEM.out.1 (by first | rfl | trivial)
          · exact hold.out j (by omega), hb03⟩
        case measure => simp [intOf]; omega
    · exfalso
      exact dep_some ids ta val (by rw [HNL.out]; omega) HTO.out hval (fun i hi => hold.out i (by rw [HNL.out] at hi; omega))

end Go.Proofs.Ytffgpepngcnjeaa
