/-
  Found: a block with one coin more.
  Found: the indices, and a list without one of its numbers.
  Found: what the window comes to is found.
  Found: the beginning; what the deposits are.
  Funds: the deposits.
  Package choice: its small functions.
  Package choice: sums and sets of candidates.
-/
import Derived.Test.YtffgpepngcnjeabMai
import Derived.Test.YtffgpepngcnjeabMab
import Derived.Test.YtffgpepngcnjeabMaf
import Derived.Laws.BitsLemmas
namespace Go.Proofs.Ytffgpepngcnjeab
open Go.RowKit
theorem outs_one (w : World) (b : Nat) (x y : Int) (h0 : w.cell? ⟨b, 0, none⟩ = some (.int .i64 x)) (h1 : w.cell? ⟨b, 1, none⟩ = some (.int .i64 y)) : OutsAt w (some ⟨b, 0, none⟩) [(x, y)] := by
  refine Or.inr ⟨b, 0, rfl, fun j hj => ?_⟩
  have e : j = 0 := by simp at hj; exact hj
  subst e
  exact ⟨h0, h1⟩
theorem idZ_mark (t : Int) (xs : List InD) (ys : List (Int × Int)) : Mk.isM (idZ t xs ys) = true := by
  unfold idZ
  split
  · exact (Mk.isM_iff _).2 (Mk.mixL_bd _ _ (by decide) (by decide))
  · decide
theorem keep4 {E : Nat → Prop} {w w' : World} {S T : Nat} {a0 b0 b1 b2 : Value} (hf : Fr E w w') (h : w.cell? ⟨S, 0, none⟩ = some a0 ∧ w.cell? ⟨T, 0, none⟩ = some b0 ∧ w.cell? ⟨T, 1, none⟩ = some b1 ∧ w.cell? ⟨T, 2, none⟩ = some b2) (hS : ¬ E S) (hT : ¬ E T) :
    w'.cell? ⟨S, 0, none⟩ = some a0 ∧ w'.cell? ⟨T, 0, none⟩ = some b0 ∧ w'.cell? ⟨T, 1, none⟩ = some b1 ∧ w'.cell? ⟨T, 2, none⟩ = some b2 :=
  ⟨hf.cell h.1 hS, hf.cell h.2.1 hT, hf.cell h.2.2.1 hT, hf.cell h.2.2.2 hT⟩
set_option maxRecDepth 100000 in
set_option maxHeartbeats 4000000 in
theorem mint_any (S P : Nat) (s : Int) (g h : Nat) (v vi vc : Value) (xs : List Cel) (ids : List Int) (cs : List CoinD) (ta val : Int) (w : World) (u : Sc S P s g h v vi vc xs ids cs w) (hids : ids = xs.map Cel.id) (hh : h < 40) (hl : xs.length ≤ 100) (hcl : cs.length ≤ 100) (hV : Vals xs) (hto : Mk.isM ta = true) (hval : 10 ≤ val ∧ val ≤ 1099511627776) :
    Calls Try.prog 23 #[.pointer (some ⟨S, 0, none⟩), .int .i64 ta, .int .i64 val] w fun e w' => e = .returned (.bool true) ∧ ∃ id v' vi' vc', Sc S P s g (h + 1) v' vi' vc' (xs ++ [⟨id, 0, ta, val, h, -1⟩]) (ids ++ [id]) (cs ++ [⟨id, 0, ta, val, 0, 0⟩]) w' ∧ ScStep P S v vi vc v' vi' vc' w w' ∧ id ∉ ids ∧ Mk.isM id = true := by
  have HU : Hid (Sc S P s g h v vi vc xs ids cs w) := u
  have HI : Hid (ids = xs.map Cel.id) := hids
  have HV : Hid (Vals xs) := hV
  have HTO : Hid (Mk.isM ta = true) := hto
  have HIL : Hid (ids.length ≤ 100) := by show _ ≤ _; rw [hids, List.length_map]; exact hl
  have HXL : Hid (xs.length ≤ 100) := hl
  have HCL : Hid (cs.length ≤ 100) := hcl
  have hil : ids.length ≤ 100 := HIL.out
  have hSl := u.big.1
  clear u hids hV hto hl hcl
  obtain ⟨ao, ci, evi, hat⟩ := OwnRec.at iv1 HU.out.oi
  subst evi
  have HIA : Hid (RecAt iV w ao ids) := hat
  clear hat
  generalize hnl : ids.length = n at *
  have HNL : Hid (ids.length = n) := hnl
  clear hnl
  go_enter Try.func23, Try.ntmps23
  go_wp2
  go_loopw [7] (fun i wr => ∃ k : Nat, k ≤ n + 1 ∧ i = .int .i64 k ∧ Hid (∀ j : Nat, j < k → depId (j : Int) ta val ∈ ids) ∧ Below w.heap.size w wr) (fun i _ => n + 1 - (intOf i).toNat)
  case atStart => exact ⟨0, Nat.zero_le _, rfl, fun j hj => by omega, Below.refl _ _⟩
  case round =>
    obtain ⟨k, hk, rfl, hold, hbl⟩ := hrel
    have hsz := hbl.size
    have HUr : Hid (Sc S P s g h v (.slice ao n ci) vc xs ids cs wr) := HU.out.grown hbl
    have s3 := HUr.out.c3
    by_cases hlt : k ≤ n
    · have hkI : (k : Int) ≤ (n : Int) := by omega
      have bA : Below wr.heap.size wr ((wr.alloc (.cells #[.int .i64 ta, .int .i64 val] 68)).alloc (.cells #[.int .i64 (k : Int), .slice none 0 0, .slice (some ⟨wr.heap.size, 0, none⟩) 1 1] 31)) := ((Below.refl _ _).alloc (Nat.le_refl _) _).alloc (by simp) _
      have o0 : ((wr.alloc (.cells #[.int .i64 ta, .int .i64 val] 68)).alloc (.cells #[.int .i64 (k : Int), .slice none 0 0, .slice (some ⟨wr.heap.size, 0, none⟩) 1 1] 31)).cell? ⟨wr.heap.size, 0, none⟩ = some (.int .i64 ta) := by go_simp
      have o1 : ((wr.alloc (.cells #[.int .i64 ta, .int .i64 val] 68)).alloc (.cells #[.int .i64 (k : Int), .slice none 0 0, .slice (some ⟨wr.heap.size, 0, none⟩) 1 1] 31)).cell? ⟨wr.heap.size, 1, none⟩ = some (.int .i64 val) := by go_simp
      have t0 : ((wr.alloc (.cells #[.int .i64 ta, .int .i64 val] 68)).alloc (.cells #[.int .i64 (k : Int), .slice none 0 0, .slice (some ⟨wr.heap.size, 0, none⟩) 1 1] 31)).cell? ⟨wr.heap.size + 1, 0, none⟩ = some (.int .i64 (k : Int)) := by go_simp
      have t1 : ((wr.alloc (.cells #[.int .i64 ta, .int .i64 val] 68)).alloc (.cells #[.int .i64 (k : Int), .slice none 0 0, .slice (some ⟨wr.heap.size, 0, none⟩) 1 1] 31)).cell? ⟨wr.heap.size + 1, 1, none⟩ = some (.slice none 0 0) := by go_simp
      have t2 : ((wr.alloc (.cells #[.int .i64 ta, .int .i64 val] 68)).alloc (.cells #[.int .i64 (k : Int), .slice none 0 0, .slice (some ⟨wr.heap.size, 0, none⟩) 1 1] 31)).cell? ⟨wr.heap.size + 1, 2, none⟩ = some (.slice (some ⟨wr.heap.size, 0, none⟩) 1 1) := by go_simp
      go_upto_region 5 with fail
      generalize ((wr.alloc (.cells #[.int .i64 ta, .int .i64 val] 68)).alloc (.cells #[.int .i64 (k : Int), .slice none 0 0, .slice (some ⟨wr.heap.size, 0, none⟩) 1 1] 31)) = w1 at *
      have hOl : wr.heap.size < w1.heap.size := cell_lt o0
      have hTl : wr.heap.size + 1 < w1.heap.size := cell_lt t0
      have hwO : w.heap.size ≤ wr.heap.size := hsz
      have HU1 : Hid (Sc S P s g h v (.slice ao n ci) vc xs ids cs w1) := HUr.out.grown bA
      have hb1 : Below w.heap.size w w1 := hbl.trans (bA.mono hsz)
      clear bA HUr s3
      generalize wr.heap.size = OB at *
      have HOU : Hid (OutsAt w1 (some ⟨OB, 0, none⟩) [(ta, val)]) := outs_one w1 OB ta val o0 o1
      go_wp2_with fail
      refine (pId_any (k : Int) none 0 0 (some ⟨OB, 0, none⟩) 1 1 [] [(ta, val)] _ (Or.inl rfl) rfl HOU.out rfl).mono ?_
      rintro e w2 ⟨rfl, hb2⟩
      have hz2 := hb2.size
      have HU2 : Hid (Sc S P s g h v (.slice ao n ci) vc xs ids cs w2) := HU1.out.grown hb2
      have hb02 : Below w.heap.size w w2 := hb1.trans (hb2.mono (by omega))
      have HOU2 : Hid (OutsAt w2 (some ⟨OB, 0, none⟩) [(ta, val)]) := HOU.out.grown hb2
      have p0 := (hb2.cell (p := ⟨OB + 1, 0, none⟩) hTl).trans t0
      have p1 := (hb2.cell (p := ⟨OB + 1, 1, none⟩) hTl).trans t1
      have p2 := (hb2.cell (p := ⟨OB + 1, 2, none⟩) hTl).trans t2
      have hTl2 : OB + 1 < w2.heap.size := by omega
      clear o0 o1 t0 t1 t2 HOU HU1 hb1 hb2
      have HID : Hid (depId (k : Int) ta val = idZ (k : Int) [] [(ta, val)]) := rfl
      have HIM : Hid (Mk.isM (idZ (k : Int) [] [(ta, val)]) = true) := idZ_mark _ _ _
      generalize idZ (k : Int) [] [(ta, val)] = id at *
      have s3 := HU2.out.c3
      have HIA2 : Hid (RecAt iV w2 ao ids) := HIA.out.grown hb02
      go_wp2_with fail
      refine (among_any ao n ci ids id _ HIA2.out HNL.out (by omega)).mono ?_
      rintro e w3 ⟨rfl, hb3⟩
      have hz3 := hb3.size
      have HU3 : Hid (Sc S P s g h v (.slice ao n ci) vc xs ids cs w3) := HU2.out.grown hb3
      have hb03 : Below w.heap.size w w3 := hb02.trans (hb3.mono (by omega))
      have HOU3 : Hid (OutsAt w3 (some ⟨OB, 0, none⟩) [(ta, val)]) := HOU2.out.grown hb3
      have q0 := (hb3.cell (p := ⟨OB + 1, 0, none⟩) hTl2).trans p0
      have q1 := (hb3.cell (p := ⟨OB + 1, 1, none⟩) hTl2).trans p1
      have q2 := (hb3.cell (p := ⟨OB + 1, 2, none⟩) hTl2).trans p2
      clear p0 p1 p2 HOU2 HU2 hb02 hb3 s3 HIA2
      have HMEM : Hid ((ids.any fun y => y == id) = true ↔ id ∈ ids) := by
        show _ ↔ _
        rw [List.any_eq_true]
        constructor
        · rintro ⟨y, hy, e⟩
          rw [← (by simpa using e : y = id)]
          exact hy
        · intro hm
          exact ⟨id, hm, by simp⟩
      generalize (ids.any fun y => y == id) = bo at *
      cases bo
      · have HNEW : Hid (id ∉ xs.map Cel.id) := by
          show ¬ _
          rw [← HI.out]
          intro hm
          have := HMEM.out.2 hm
          cases this
        have s0 := HU3.out.c0
        have hSl3 : S < w3.heap.size := cell_lt s0
        have hOl3 : OB < w3.heap.size := by omega
        have hTl3 : OB + 1 < w3.heap.size := by omega
        have HPB : Hid (∀ k, chE P v k → P ≤ k ∧ k < w3.heap.size) := HU3.out.pat.blk
        have HCE : Hid (∀ k, chE P v k → k < w.heap.size) := fun k hk => (HU.out.pat.blk k hk).2
        have bB : Below w3.heap.size w3 (w3.alloc (.cells #[.int .i64 (k : Int), .slice none 0 0, .slice (some ⟨OB, 0, none⟩) 1 1] 31)) := (Below.refl _ _).alloc (Nat.le_refl _) _
        have HPW : Hid (PAt ((w3.alloc (.cells #[.int .i64 (k : Int), .slice none 0 0, .slice (some ⟨OB, 0, none⟩) 1 1] 31)).drew) P s g v h xs) := (HU3.out.pat.grown bB).drew
        have HSW : Hid (Sc S P s g h v (.slice ao n ci) vc xs ids cs ((w3.alloc (.cells #[.int .i64 (k : Int), .slice none 0 0, .slice (some ⟨OB, 0, none⟩) 1 1] 31)).drew)) := HU3.out.grown bB.drew
        have HBK : Hid (BlkAt (fun q => q = OB ∨ q = w3.heap.size) ((w3.alloc (.cells #[.int .i64 (k : Int), .slice none 0 0, .slice (some ⟨OB, 0, none⟩) 1 1] 31)).drew) (some ⟨w3.heap.size, 0, none⟩) [⟨k, none, 0, 0, some ⟨OB, 0, none⟩, 1, 1, [], [(ta, val)]⟩]) := by
          refine ⟨Or.inr ⟨w3.heap.size, 0, rfl, ?_⟩, fun _ a ha => ?_, fun x hx => ?_⟩
          · exact VRow.drew (vrow_new w3 _ _)
          · injection ha with ha; subst ha; exact Or.inr rfl
          · rw [List.mem_singleton.1 hx]
            exact ⟨Or.inl rfl, rfl, HOU3.out.grown bB.drew, rfl, fun e => absurd rfl e, fun _ a ha => by injection ha with ha; subst ha; exact Or.inl rfl, fun i hi => by cases hi⟩
        have HNB : Hid (∀ q, (q = OB ∨ q = w3.heap.size) → q < ((w3.alloc (.cells #[.int .i64 (k : Int), .slice none 0 0, .slice (some ⟨OB, 0, none⟩) 1 1] 31)).drew).heap.size ∧ ¬ chE P v q) := fun q hq => by
          refine ⟨?_, fun e => ?_⟩
          · rw [World.size_drew, World.size_alloc]
            rcases hq with rfl | rfl <;> omega
          · have := HCE.out q e
            rcases hq with rfl | rfl <;> omega
        have HCN : Hid (connZ (h : Int) xs [⟨k, none, 0, 0, some ⟨OB, 0, none⟩, 1, 1, [], [(ta, val)]⟩] = (0, 0, (h : Int) + 1, xs ++ [⟨id, 0, ta, val, h, -1⟩])) := by
          show _ = _
          rw [dep_conn h xs (k : Int) ta val hh ⟨by omega, by omega⟩ HTO.out hval (by rw [HID.out]; exact HNEW.out) _ rfl rfl rfl, HID.out]
        have hnS : ¬ chE P v S := fun e => (HU3.out.d1 S e).1 rfl
        have hnT : ¬ chE P v (OB + 1) := fun e => by have := HCE.out _ e; omega
        have HKW : Hid (((w3.alloc (.cells #[.int .i64 (k : Int), .slice none 0 0, .slice (some ⟨OB, 0, none⟩) 1 1] 31)).drew).cell? ⟨S, 0, none⟩ = some (.pointer (some ⟨P, 0, none⟩)) ∧ ((w3.alloc (.cells #[.int .i64 (k : Int), .slice none 0 0, .slice (some ⟨OB, 0, none⟩) 1 1] 31)).drew).cell? ⟨OB + 1, 0, none⟩ = some (.int .i64 (k : Int)) ∧ ((w3.alloc (.cells #[.int .i64 (k : Int), .slice none 0 0, .slice (some ⟨OB, 0, none⟩) 1 1] 31)).drew).cell? ⟨OB + 1, 1, none⟩ = some (.slice none 0 0) ∧ ((w3.alloc (.cells #[.int .i64 (k : Int), .slice none 0 0, .slice (some ⟨OB, 0, none⟩) 1 1] 31)).drew).cell? ⟨OB + 1, 2, none⟩ = some (.slice (some ⟨OB, 0, none⟩) 1 1)) :=
          ⟨(bB.cell (p := ⟨S, 0, none⟩) hSl3).trans s0, (bB.cell (p := ⟨OB + 1, 0, none⟩) hTl3).trans q0, (bB.cell (p := ⟨OB + 1, 1, none⟩) hTl3).trans q1, (bB.cell (p := ⟨OB + 1, 2, none⟩) hTl3).trans q2⟩
        have hbD : Below w.heap.size w ((w3.alloc (.cells #[.int .i64 (k : Int), .slice none 0 0, .slice (some ⟨OB, 0, none⟩) 1 1] 31)).drew) := hb03.trans (bB.drew.mono (by omega))
        go_upto_region 8 with fail
        go_region_held3 (fun w' => w'.cell? ⟨S, 0, none⟩ = some (.pointer (some ⟨P, 0, none⟩)) ∧ w'.cell? ⟨OB + 1, 0, none⟩ = some (.int .i64 (k : Int)) ∧ w'.cell? ⟨OB + 1, 1, none⟩ = some (.slice none 0 0) ∧ w'.cell? ⟨OB + 1, 2, none⟩ = some (.slice (some ⟨OB, 0, none⟩) 1 1)) (first | assumption | go_keep | exact keep4 hst4.fr HKW.out hnS hnT) ((go_at_call 41; refine (pConnect_any P s g v h xs (fun q => q = OB ∨ q = w3.heap.size) (some ⟨w3.heap.size, 0, none⟩) 1 1 [⟨k, none, 0, 0, some ⟨OB, 0, none⟩, 1, 1, [], [(ta, val)]⟩] _ HPW.out (by have := HXL.out; omega) HV.out (by omega) HBK.out rfl HNB.out (by omega)).mono ?_; rintro e w4 ⟨rfl, v4, hp4, hst4⟩; rw [HCN.out] at hp4 ⊢))
        have hp4' : PAt w4 P s g v4 ((h + 1 : Nat) : Int) (xs ++ [⟨id, 0, ta, val, h, -1⟩]) := by push_cast; exact hp4
        obtain ⟨hsc4, hss4⟩ := HSW.out.chain hp4' hst4
        have HS4 : Hid (Sc S P s g (h + 1) v4 (.slice ao n ci) vc (xs ++ [⟨id, 0, ta, val, h, -1⟩]) ids cs w4) := hsc4
        have HT4 : Hid (ScStep P S v (.slice ao n ci) vc v4 (.slice ao n ci) vc w w4) := (ScStep.of_below hbD).trans hss4
        clear hp4 hp4' hst4 hsc4 hss4 HKW HPW HSW HBK HNB hbD bB q0 q1 q2 s0 hnS hnT hb03 HOU3 HPB HCE HU3
        have s3 := HS4.out.c3
        have f3 := HS4.out.f3
        have hSl4 : S < w4.heap.size := cell_lt s3
        have hviS : some S ≠ (Value.slice ao n ci).ownBlock := fun e => by have := (HS4.out.oi.blk S e.symm).1; omega
        have bC : Below w4.heap.size w4 (w4.alloc (.cells #[.int .i64 id] 3)) := (Below.refl _ _).alloc (Nat.le_refl _) _
        have HS5 : Hid (Sc S P s g (h + 1) v4 (.slice ao n ci) vc (xs ++ [⟨id, 0, ta, val, h, -1⟩]) ids cs (w4.alloc (.cells #[.int .i64 id] 3))) := HS4.out.grown bC
        have HT5 : Hid (ScStep P S v (.slice ao n ci) vc v4 (.slice ao n ci) vc w (w4.alloc (.cells #[.int .i64 id] 3))) := HT4.out.trans (ScStep.of_below bC)
        go_upto_region 12 with (at_builtin; refine wpList_appR 39 8 _ Try.underlying39 info3 rfl (by decide) iv1 iv_one (w4.alloc (.cells #[.int .i64 id] 3)) rfl _ _ rfl (S + 1) w4.heap.size 1 (.slice ao n ci) ids id (by rfl) (by rfl) HS5.out.oi (vrow_new _ _ _) (by simp; omega) (by rw [HNL.out]; unfold maxLen; omega) (by rw [HNL.out]; omega) ?_; intro gb capb w8 hown8 hg8 hl8 hlt8; have k0 := gb_cell hg8 HS5.out.c3 hviS; have k1 := (gb_frozen hg8 (cell_lt HS5.out.c3) hviS).trans HS5.out.f3)
        obtain ⟨hsc9, hss9⟩ := HS5.out.pushI hown8 hg8 hl8
        have HS9 : Hid _ := hsc9
        have HT9 : Hid _ := HT5.out.trans hss9
        clear hsc9 hss9 hown8 hg8 hl8 hlt8 k0 k1 HS5 HT5 HS4 HT4 bC s3 f3 hviS
        generalize w8.setCell ⟨S, 3, none⟩ (.slice (some ⟨gb, 0, none⟩) (ids.length + 1) capb) = w9 at *
        generalize (Value.slice (some ⟨gb, 0, none⟩) (ids.length + 1) capb) = vi9 at *
        have s4 := HS9.out.c4
        have f4 := HS9.out.f4
        have hSl9 : S < w9.heap.size := cell_lt s4
        have hvcS : some S ≠ vc.ownBlock := fun e => by have := (HS9.out.oc.blk S e.symm).1; omega
        have bD : Below w9.heap.size w9 (w9.alloc (.cells #[.int .i64 id, .int .i64 0, .int .i64 ta, .int .i64 val, .int .i64 0, .int .i64 0] 70)) := (Below.refl _ _).alloc (Nat.le_refl _) _
        have HS10 : Hid (Sc S P s g (h + 1) v4 vi9 vc (xs ++ [⟨id, 0, ta, val, h, -1⟩]) (ids ++ [id]) cs (w9.alloc (.cells #[.int .i64 id, .int .i64 0, .int .i64 ta, .int .i64 val, .int .i64 0, .int .i64 0] 70))) := HS9.out.grown bD
        have HT10 : Hid (ScStep P S v (.slice ao n ci) vc v4 vi9 vc w (w9.alloc (.cells #[.int .i64 id, .int .i64 0, .int .i64 ta, .int .i64 val, .int .i64 0, .int .i64 0] 70))) := HT9.out.trans (ScStep.of_below bD)
        go_upto_region 13 with (at_builtin; refine wpList_appR 40 48 _ Try.underlying40 info70 rfl (by decide) coin6 coin_one (w9.alloc (.cells #[.int .i64 id, .int .i64 0, .int .i64 ta, .int .i64 val, .int .i64 0, .int .i64 0] 70)) rfl _ _ rfl (S + 1) w9.heap.size 1 vc cs ⟨id, 0, ta, val, 0, 0⟩ (by rfl) (by rfl) HS10.out.oc (vrow_new _ _ _) (by simp; omega) (by have := HCL.out; unfold maxLen; omega) (by have := HCL.out; omega) ?_; intro gd capd w11 hown11 hg11 hl11 hlt11; have k0 := gb_cell hg11 HS10.out.c4 hvcS; have k1 := (gb_frozen hg11 (cell_lt HS10.out.c4) hvcS).trans HS10.out.f4)
        obtain ⟨hsc12, hss12⟩ := HS10.out.pushC hown11 hg11 hl11
        have HS12 : Hid _ := hsc12
        have HT12 : Hid _ := HT10.out.trans hss12
        clear hsc12 hss12 hown11 hg11 hl11 hlt11 k0 k1 HS10 HT10
        go_wp2
        go_ret
        exact ⟨rfl, id, v4, vi9, _, HS12.out, HT12.out, by rw [HI.out]; exact HNEW.out, HIM.out⟩
      · go_wp2
        go_roundw
        case rel => exact ⟨k + 1, by omega, by go_num, fun j hj => by
          by_cases e : j = k
          · subst e; rw [HID.out]; exact HMEM.out.1 (by first | rfl | trivial)
          · exact hold.out j (by omega), hb03⟩
        case measure => simp [intOf]; omega
    · exfalso
      exact dep_some ids ta val (by rw [HNL.out]; omega) HTO.out hval (fun i hi => hold.out i (by rw [HNL.out] at hi; omega))
end Go.Proofs.Ytffgpepngcnjeab

namespace Go.Proofs.Ytffgpepngcnjeab
open Go.RowKit
/-- keys each at most a gap further on than one ahead of it -/
structure Chain (g : Nat) (A : List Nat) : Prop where
  lt : ∀ i ∈ A, i < 100
  step : ∀ j, j < A.length → A.getD j 0 < g ∨ ∃ i, i < j ∧ A.getD j 0 ≤ A.getD i 0 + g
theorem Chain.nil (g : Nat) : Chain g [] := ⟨fun i hi => (by cases hi), fun j hj => (by cases hj)⟩
theorem get_left {α : Type} (l r : List α) (d : α) (i : Nat) (h : i < l.length) : (l ++ r).getD i d = l.getD i d := by
  simp only [List.getD]
  rw [List.getElem?_append_left h]
theorem get_last {α : Type} (l : List α) (x d : α) : (l ++ [x]).getD l.length d = x := by
  simp [List.getD]
theorem Chain.snoc {g : Nat} {A : List Nat} (h : Chain g A) (x : Nat) (hx : x < 100) (hs : x < g ∨ ∃ i, i < A.length ∧ x ≤ A.getD i 0 + g) : Chain g (A ++ [x]) := by
  refine ⟨fun i hi => ?_, fun j hj => ?_⟩
  · rcases List.mem_append.1 hi with hi | hi
    · exact h.lt i hi
    · rw [List.mem_singleton.1 hi]; exact hx
  · rw [List.length_append, List.length_singleton] at hj
    by_cases e : j < A.length
    · rw [get_left _ _ _ _ e]
      rcases h.step j e with h1 | ⟨i, h1, h2⟩
      · exact Or.inl h1
      · exact Or.inr ⟨i, h1, by rw [get_left _ _ _ _ (by omega)]; exact h2⟩
    · have e : j = A.length := by omega
      subst e
      rw [get_last]
      rcases hs with h1 | ⟨i, h1, h2⟩
      · exact Or.inl h1
      · exact Or.inr ⟨i, h1, by rw [get_left _ _ _ _ h1]; exact h2⟩
/-- a window that is as wide as what is paid in it wants comes to all of them -/
theorem Chain.all {g V : Nat} {A : List Nat} (h : Chain g A) (hV : g ≤ V) (hA : ∀ i ∈ A, i < V → min 100 (i + 1 + g) ≤ V) : ∀ i ∈ A, i < V := by
  have key : ∀ n j, j < n → j < A.length → A.getD j 0 < V := by
    intro n
    induction n with
    | zero => intro j hj; omega
    | succ n ih =>
      intro j hj hl
      have hlt := h.lt _ (getD_mem A 0 j hl)
      rcases h.step j hl with h1 | ⟨i, h1, h2⟩
      · omega
      · have h3 := ih i (by omega) (by omega)
        have h4 := hA _ (getD_mem A 0 i (by omega)) h3
        omega
  intro i hi
  obtain ⟨j, hj, rfl⟩ := mem_getD 0 hi
  exact key (j + 1) j (by omega) hj
end Go.Proofs.Ytffgpepngcnjeab

namespace Go.Proofs.Ytffgpepngcnjeab
open Go.RowKit
/-- the deposits at these indices stand in the chain, and as the scene keeps them -/
structure Dep (s br : Int) (A : List Nat) (xs : List Cel) (cs : List CoinD) : Prop where
  lt : ∀ i ∈ A, i < 100
  len : A.length ≤ cs.length
  at_ : ∀ i, i < A.length → ∃ x ∈ xs, x.spent = -1 ∧ x.to = Mk.adr s br ((A.getD i 0 : Nat) : Int) ∧ cs.getD i dN = x.kept
theorem Dep.hit {s br : Int} {A : List Nat} {xs : List Cel} {cs : List CoinD} (h : Dep s br A xs cs) {i : Nat} (hi : i ∈ A) : hitAt xs s br i = true := by
  obtain ⟨j, hj, rfl⟩ := mem_getD 0 hi
  obtain ⟨x, hx, _, e, _⟩ := h.at_ j hj
  unfold hitAt paidTo
  rw [List.any_eq_true]
  exact ⟨x, hx, by rw [e]; simp⟩
theorem Dep.has {s br : Int} {A : List Nat} {xs : List Cel} {cs : List CoinD} (h : Dep s br A xs cs) (hb : br = 0 ∨ br = 1) {g j : Nat} (hj : j < A.length) (hlt : A.getD j 0 < winZ xs s g br) : hasZ (ownOf xs s g) (cs.getD j dN) = true := by
  obtain ⟨x, hx, hs, e, ec⟩ := h.at_ j hj
  rw [ec]
  exact own_has hx hs (by rw [e]; exact key_mem hb hlt)
end Go.Proofs.Ytffgpepngcnjeab

namespace Go.Proofs.Ytffgpepngcnjeab
open Go.RowKit
set_option maxRecDepth 100000 in
set_option maxHeartbeats 400000 in
theorem fSeeded_any (a b : Int) (w : World) (a1 : -9223372036854775808 ≤ a) (a2 : a ≤ 9223372036854775807) (b1 : -9223372036854775808 ≤ b) (b2 : b ≤ 9223372036854775807) :
    Calls Try.prog 31 #[.int .i64 a, .int .i64 b] w fun e w' => e = .returned (.tuple #[.int .i64 (Mk.pk a 99991), .int .i64 (1 + Mk.pk b 20)]) ∧ w = w' := by
  have hb := Mk.pk_bd b 20 (by decide)
  have hw : IntKind.i64.wrap (1 + Mk.pk b 20) = 1 + Mk.pk b 20 := IntWalk.i64_in _ ⟨by omega, by omega⟩
  go_enter Try.func31, Try.ntmps31
  go_wp2_with fail
  refine (pick_any a 99991 _ (by omega) (by omega) a1 a2).mono ?_
  rintro e w' ⟨rfl, rfl⟩
  go_wp2_with fail
  refine (pick_any b 20 _ (by omega) (by omega) b1 b2).mono ?_
  rintro e w' ⟨rfl, rfl⟩
  go_wp2
  go_ret2
  exact ⟨rfl, rfl⟩
set_option maxRecDepth 100000 in
set_option maxHeartbeats 400000 in
theorem fOpened_yes (s g : Int) (w : World) (hs : Mk.isM s = true) (h1 : 1 ≤ g) (h2 : g ≤ 20) :
    Calls Try.prog 32 #[.int .i64 s, .int .i64 g] w fun e w' => e = .returned (.pointer (some ⟨w.heap.size, 0, none⟩)) ∧ w.alloc (.cells #[.int .i64 s, .int .i64 g, .slice none 0 0, .int .i64 0, .slice none 0 0, .slice none 0 0, .int .i64 0, .int .i64 0] 79) = w' := by
  go_enter Try.func32, Try.ntmps32
  go_wp2_with fail
  refine (new_yes s g _ hs h1 h2).mono ?_
  rintro e w1 ⟨rfl, rfl⟩
  go_wp2
  go_ret
  exact ⟨rfl, rfl⟩
theorem sc_new (w : World) (s : Int) (g : Nat) :
    Sc (w.heap.size + 1) w.heap.size s g 0 (.slice none 0 0) (.slice none 0 0) (.slice none 0 0) [] [] [] ((w.alloc (.cells #[.int .i64 s, .int .i64 (g : Int), .slice none 0 0, .int .i64 0, .slice none 0 0, .slice none 0 0, .int .i64 0, .int .i64 0] 79)).alloc (.cells #[.pointer (some ⟨w.heap.size, 0, none⟩), .int .i64 s, .int .i64 (g : Int), .slice none 0 0, .slice none 0 0] 42)) := by
  have hp : PAt (w.alloc (.cells #[.int .i64 s, .int .i64 (g : Int), .slice none 0 0, .int .i64 0, .slice none 0 0, .slice none 0 0, .int .i64 0, .int .i64 0] 79)) w.heap.size s g (.slice none 0 0) 0 [] := by
    refine ⟨?_, ?_, World.frozen?_alloc_at _ _ _ _ rfl, fun j => World.frozen?_alloc_at _ _ _ _ rfl, OwnRec.nil _ _ _ _ _, fun q hq => ?_⟩
    · rw [World.cell?_alloc_new]; rfl
    · rw [World.cell?_alloc_new]; rfl
    · simp at hq
      rcases hq with rfl | rfl | rfl | rfl | rfl | rfl
      · exact ⟨by simp, by simp, by rw [World.cell?_alloc_new]; rfl⟩
      · exact ⟨by simp, by simp, by rw [World.cell?_alloc_new]; rfl⟩
      · exact ⟨by simp, by simp, by rw [World.cell?_alloc_new]; rfl⟩
      · exact ⟨by simp, by simp, by rw [World.cell?_alloc_new]; rfl⟩
      · exact ⟨by simp, by simp, by rw [World.cell?_alloc_new]; rfl⟩
      · exact ⟨by simp, by simp, by rw [World.cell?_alloc_new]; rfl⟩
  have hz : (w.alloc (.cells #[.int .i64 s, .int .i64 (g : Int), .slice none 0 0, .int .i64 0, .slice none 0 0, .slice none 0 0, .int .i64 0, .int .i64 0] 79)).heap.size = w.heap.size + 1 := by simp
  generalize w.alloc (.cells #[.int .i64 s, .int .i64 (g : Int), .slice none 0 0, .int .i64 0, .slice none 0 0, .slice none 0 0, .int .i64 0, .int .i64 0] 79) = w1 at *
  have hv := vrow_new w1 [.pointer (some ⟨w.heap.size, 0, none⟩), .int .i64 s, .int .i64 (g : Int), .slice none 0 0, .slice none 0 0] 42
  have hf : ∀ j, (w1.alloc (.cells #[.pointer (some ⟨w.heap.size, 0, none⟩), .int .i64 s, .int .i64 (g : Int), .slice none 0 0, .slice none 0 0] 42)).frozen? ⟨w1.heap.size, j, none⟩ = false := fun j => World.frozen?_alloc_at _ _ _ _ rfl
  rw [hz] at hv hf
  refine ⟨hp.grown ((Below.refl _ _).alloc (Nat.le_refl _) _), hv 0 (by simp), hv 1 (by simp), hv 2 (by simp), hv 3 (by simp), hv 4 (by simp), hf 3, hf 4, OwnRec.nil _ _ _ _ _, OwnRec.nil _ _ _ _ _, by omega, fun k hk => ?_, fun k hk => by cases hk⟩
  rcases hk with e | e
  · exact ⟨by omega, fun e => (by cases e), fun e => (by cases e)⟩
  · cases e
set_option maxRecDepth 100000 in
set_option maxHeartbeats 1000000 in
theorem begun_any (a b : Int) (g : Nat) (w : World) (a1 : -9223372036854775808 ≤ a) (a2 : a ≤ 9223372036854775807) (b1 : -9223372036854775808 ≤ b) (b2 : b ≤ 9223372036854775807) (hg : (g : Int) = 1 + Mk.pk b 20) :
    Calls Try.prog 20 #[.int .i64 a, .int .i64 b] w fun e w' => e = .returned (.pointer (some ⟨w.heap.size + 1, 0, none⟩)) ∧ Sc (w.heap.size + 1) w.heap.size (Mk.pk a 99991) g 0 (.slice none 0 0) (.slice none 0 0) (.slice none 0 0) [] [] [] w' ∧ Below w.heap.size w w' := by
  have hpa := Mk.pk_bd a 99991 (by decide)
  have hpb := Mk.pk_bd b 20 (by decide)
  have HS : Hid (Mk.isM (Mk.pk a 99991) = true) := (Mk.isM_iff _).2 hpa
  have HN : Hid _ := sc_new w (Mk.pk a 99991) g
  have HBL : Hid (∀ p q : Obj, Below w.heap.size w ((w.alloc p).alloc q)) := fun p q => ((Below.refl _ _).alloc (Nat.le_refl _) _).alloc (by simp) _
  go_enter Try.func20, Try.ntmps20
  go_wp2_with fail
  refine (fSeeded_any a b _ a1 a2 b1 b2).mono ?_
  rintro e w' ⟨rfl, rfl⟩
  rw [← hg]
  have hg1 : (1 : Int) ≤ (g : Int) := by omega
  have hg2 : (g : Int) ≤ 20 := by omega
  clear hg hpb
  go_wp2_with fail
  refine (fOpened_yes (Mk.pk a 99991) (g : Int) _ HS.out hg1 hg2).mono ?_
  rintro e w1 ⟨rfl, hw1⟩
  subst hw1
  go_wp2
  go_ret
  exact ⟨rfl, HN.out, HBL.out _ _⟩
/-- the deposits so far: a block each -/
structure Fu (s br : Int) (A : List Nat) (xs : List Cel) : Prop where
  len : xs.length = A.length
  at_ : ∀ j, j < A.length → (xs.getD j dC).spent = -1 ∧ (xs.getD j dC).to = Mk.adr s br ((A.getD j 0 : Nat) : Int) ∧ (xs.getD j dC).val = 10 + j ∧ (xs.getD j dC).made = j
theorem Fu.nil (s br : Int) : Fu s br [] [] := ⟨rfl, fun j hj => by cases hj⟩
theorem Fu.snoc {s br : Int} {A : List Nat} {xs : List Cel} (h : Fu s br A xs) (z : Nat) (x : Cel) (h1 : x.spent = -1) (h2 : x.to = Mk.adr s br (z : Int)) (h3 : x.val = 10 + A.length) (h4 : x.made = A.length) : Fu s br (A ++ [z]) (xs ++ [x]) := by
  refine ⟨by rw [List.length_append, List.length_append, h.len]; rfl, fun j hj => ?_⟩
  rw [List.length_append, List.length_singleton] at hj
  by_cases e : j < A.length
  · rw [get_left _ _ _ _ e, get_left _ _ _ _ (by rw [h.len]; exact e)]
    exact h.at_ j e
  · have e : j = A.length := by omega
    subst e
    rw [get_last, ← h.len, get_last]
    rw [h.len]
    exact ⟨h1, h2, h3, h4⟩
theorem getD_take {α : Type} (l : List α) (d : α) (q j : Nat) (h : j < q) : (l.take q).getD j d = l.getD j d := by
  simp only [List.getD]
  rw [List.getElem?_take_of_lt h]
theorem Fu.take {s br : Int} {A : List Nat} {xs : List Cel} (h : Fu s br A xs) (q : Nat) : Fu s br (A.take q) (xs.take q) := by
  refine ⟨by rw [List.length_take, List.length_take, h.len], fun j hj => ?_⟩
  rw [List.length_take] at hj
  rw [getD_take _ _ _ _ (by omega), getD_take _ _ _ _ (by omega)]
  exact h.at_ j (by omega)
theorem Fu.mem {s br : Int} {A : List Nat} {xs : List Cel} (h : Fu s br A xs) {x : Cel} (hx : x ∈ xs) : ∃ j, j < A.length ∧ x = xs.getD j dC := by
  obtain ⟨j, hj, e⟩ := mem_getD dC hx
  exact ⟨j, by rw [← h.len]; exact hj, e⟩
theorem Fu.vals {s br : Int} {A : List Nat} {xs : List Cel} (h : Fu s br A xs) (hl : A.length ≤ 100) : Vals xs := by
  intro x hx
  obtain ⟨j, hj, rfl⟩ := h.mem hx
  have := (h.at_ j hj).2.2.1
  omega
theorem Fu.dep {s br : Int} {A : List Nat} {xs : List Cel} (h : Fu s br A xs) (hA : ∀ i ∈ A, i < 100) {cs : List CoinD} (hl : A.length ≤ cs.length) (hc : ∀ j, j < A.length → cs.getD j dN = (xs.getD j dC).kept) : Dep s br A xs cs :=
  ⟨hA, hl, fun i hi => ⟨xs.getD i dC, getD_mem xs dC i (by rw [h.len]; exact hi), (h.at_ i hi).1, (h.at_ i hi).2.1, hc i hi⟩⟩
theorem kept_get (xs : List Cel) (j : Nat) (h : j < xs.length) : (xs.map Cel.kept).getD j dN = (xs.getD j dC).kept := by
  simp [List.getD, h]
theorem Fu.back {s br : Int} {A : List Nat} {xs : List Cel} (h : Fu s br A xs) (q : Nat) (hq : q < A.length) : tbZ (q : Int) (xs.take (q + 1)) = xs.take q := by
  have hql : q < xs.length := by rw [h.len]; exact hq
  have e : xs.take (q + 1) = xs.take q ++ [xs.getD q dC] := by
    rw [List.take_succ_eq_append_getElem hql]
    simp [List.getD, hql]
  rw [e]
  refine dep_back _ _ _ (h.at_ q hq).2.2.2 (fun y hy => ?_)
  obtain ⟨j, hj, rfl⟩ := mem_getD dC hy
  rw [List.length_take] at hj
  rw [getD_take _ _ _ _ (by omega)]
  have := h.at_ j (by omega)
  exact ⟨by rw [this.2.2.2]; omega, by rw [this.1]; omega⟩
/-- all are found in the end -/
theorem Fu.all {s br : Int} {A : List Nat} {xs : List Cel} (h : Fu s br A xs) (hb : br = 0 ∨ br = 1) {g : Nat} (hg2 : g ≤ 20) {L : List Nat} (hL : Chain g L) (h1 : ∀ i ∈ L, i ∈ A) (h2 : ∀ i ∈ A, i ∈ L) : (ownOf xs s g).length = A.length ∧ sumC (ownOf xs s g) = sumC (xs.map Cel.kept) := by
  have hd : Dep s br A xs (xs.map Cel.kept) := h.dep (fun i hi => hL.lt i (h2 i hi)) (by rw [List.length_map, h.len]; exact Nat.le_refl _) (fun j hj => kept_get xs j (by rw [h.len]; exact hj))
  have hw := win_spec xs s g br hg2
  have hall : ∀ i ∈ L, i < winZ xs s g br := hL.all hw.1 (fun i hi hlt => hw.2 i hlt (hd.hit (h1 i hi)))
  have := own_all (xs := xs) (s := s) (g := g) (fun x hx => by
    obtain ⟨j, hj, rfl⟩ := h.mem hx
    exact (h.at_ j hj).1) (fun x hx => by
    obtain ⟨j, hj, rfl⟩ := h.mem hx
    rw [(h.at_ j hj).2.1]
    exact key_mem hb (hall _ (h2 _ (getD_mem A 0 j hj))))
  rw [h.len] at this
  exact this
end Go.Proofs.Ytffgpepngcnjeab

namespace Go.Proofs.Ytffgpepngcnjeab
open Go.RowKit
/-- a deposit as it is asked for: branch, index, value, raw -/
structure DepR where
  br : Int
  ix : Int
  val : Int
def dDR : DepR := ⟨0, 0, 0⟩
def DepR.l (x : DepR) : List Value := [.int .i64 x.br, .int .i64 x.ix, .int .i64 x.val]
theorem depR3 (x : DepR) : x.l.length = 3 := rfl
/-- the outputs of a scene: a deposit each -/
structure Dp (s : Int) (g : Nat) (xs : List Cel) : Prop where
  sp : ∀ x ∈ xs, x.spent = -1
  po : ∀ x ∈ xs, x.pos = 0
  tw : ∀ x ∈ xs, ∃ (br : Int) (i : Nat), (br = 0 ∨ br = 1) ∧ i < g ∧ x.to = Mk.adr s br (i : Int)
  va : ∀ x ∈ xs, 10 ≤ x.val ∧ x.val ≤ 1099511627776
  nd : (xs.map Cel.id).Nodup
  im : ∀ x ∈ xs, Mk.isM x.id = true
theorem Dp.nil (s : Int) (g : Nat) : Dp s g [] := ⟨fun _ h => (by cases h), fun _ h => (by cases h), fun _ h => (by cases h), fun _ h => (by cases h), List.nodup_nil, fun _ h => (by cases h)⟩
theorem Dp.vals {s : Int} {g : Nat} {xs : List Cel} (h : Dp s g xs) : Vals xs := fun x hx => ⟨by have := (h.va x hx).1; omega, (h.va x hx).2⟩
theorem Dp.snoc {s : Int} {g : Nat} {xs : List Cel} (h : Dp s g xs) {id br val md : Int} {i : Nat} (hb : br = 0 ∨ br = 1) (hi : i < g) (hv : 10 ≤ val ∧ val ≤ 1099511627776) (hn : id ∉ xs.map Cel.id) (him : Mk.isM id = true) : Dp s g (xs ++ [⟨id, 0, Mk.adr s br (i : Int), val, md, -1⟩]) := by
  have mem : ∀ {p : Cel → Prop}, (∀ x ∈ xs, p x) → p ⟨id, 0, Mk.adr s br (i : Int), val, md, -1⟩ → ∀ x ∈ xs ++ [⟨id, 0, Mk.adr s br (i : Int), val, md, -1⟩], p x := fun h1 h2 x hx => by
    rcases List.mem_append.1 hx with e | e
    · exact h1 x e
    · rw [List.mem_singleton.1 e]; exact h2
  refine ⟨mem h.sp rfl, mem h.po rfl, mem h.tw ⟨br, i, hb, hi, rfl⟩, mem h.va hv, ?_, mem h.im him⟩
  rw [List.map_append, List.nodup_append]
  refine ⟨h.nd, by simp, fun a ha b hb e => ?_⟩
  simp at hb
  subst hb
  subst e
  exact hn ha
set_option maxRecDepth 100000 in
set_option maxHeartbeats 4000000 in
theorem deposited_any (a b : Int) (al : Option Addr) (n c : Nat) (ds : List DepR) (g : Nat) (w : World) (a1 : -9223372036854775808 ≤ a) (a2 : a ≤ 9223372036854775807) (b1 : -9223372036854775808 ≤ b) (b2 : b ≤ 9223372036854775807) (hg : (g : Int) = 1 + Mk.pk b 20) (hd : RecAt DepR.l w al ds) (hdn : ds.length = n) (hdr : ∀ x ∈ ds, (-9223372036854775808 ≤ x.br ∧ x.br ≤ 9223372036854775807) ∧ (-9223372036854775808 ≤ x.ix ∧ x.ix ≤ 9223372036854775807) ∧ (-9223372036854775808 ≤ x.val ∧ x.val ≤ 9223372036854775807)) :
    Calls Try.prog 5 #[.int .i64 a, .int .i64 b, .slice al n c] w fun e w' => e = .returned (.pointer (some ⟨w.heap.size + 1, 0, none⟩)) ∧ ∃ (v vi vc : Value) (xs : List Cel), xs.length ≤ 24 ∧ Sc (w.heap.size + 1) w.heap.size (Mk.pk a 99991) g xs.length v vi vc xs (xs.map Cel.id) (xs.map Cel.kept) w' ∧ Dp (Mk.pk a 99991) g xs ∧ Below w.heap.size w w' := by
  have hpb := Mk.pk_bd b 20 (by decide)
  have hg1 : 1 ≤ g := by omega
  have hg2 : g ≤ 20 := by omega
  have HSM : Hid (Mk.isM (Mk.pk a 99991) = true) := (Mk.isM_iff _).2 (Mk.pk_bd a 99991 (by decide))
  have HD : Hid (RecAt DepR.l w al ds) := hd
  have HDN : Hid (ds.length = n) := hdn
  have HDR : Hid (∀ x ∈ ds, (-9223372036854775808 ≤ x.br ∧ x.br ≤ 9223372036854775807) ∧ (-9223372036854775808 ≤ x.ix ∧ x.ix ≤ 9223372036854775807) ∧ (-9223372036854775808 ≤ x.val ∧ x.val ≤ 9223372036854775807)) := hdr
  clear hd hdn hdr hpb
  go_enter Try.func5, Try.ntmps5
  go_wp2_with fail
  refine (begun_any a b g _ a1 a2 b1 b2 hg).mono ?_
  rintro e w1 ⟨rfl, hsc1, hb1⟩
  clear hg a1 a2 b1 b2
  generalize hsE : Mk.pk a 99991 = s at *
  have HSS : Hid (Mk.pk a 99991 = s) := hsE
  clear hsE
  generalize hP : w.heap.size = P at *
  have HP : Hid (w.heap.size = P) := hP
  clear hP
  have HSC1 : Hid (Sc (P + 1) P s g 0 (.slice none 0 0) (.slice none 0 0) (.slice none 0 0) [] [] [] w1) := hsc1
  have HB1 : Hid (Below P w w1) := hb1
  clear hsc1 hb1
  generalize hSe : P + 1 = S at *
  have HSE : Hid (P + 1 = S) := hSe
  clear hSe
  go_wp2
  go_loopw [8] (fun i wr => ∃ (q : Nat) (v vi vc : Value) (xs : List Cel), q ≤ 24 ∧ q ≤ n ∧ i = .int .i64 q ∧ Hid (xs.length = q) ∧ Hid (Sc S P s g q v vi vc xs (xs.map Cel.id) (xs.map Cel.kept) wr) ∧ Hid (Dp s g xs) ∧ Hid (Below P w wr)) (fun i _ => 24 - (intOf i).toNat)
  case atStart => exact ⟨0, _, _, _, [], by omega, by omega, rfl, rfl, HSC1.out, Dp.nil _ _, HB1.out⟩
  case round =>
    obtain ⟨q, v, vi, vc, xs, hq, hqn, rfl, hxl, hsc, hdp, hbl⟩ := hrel
    by_cases hlt : q < n ∧ q < 24
    · obtain ⟨hl1, hl2⟩ := hlt
      have hPr : P ≤ wr.heap.size := by have := hsc.out.big; omega
      have hkl : q < ds.length := by rw [HDN.out]; exact hl1
      rcases HD.out.grown (by rw [HP.out]; exact hbl.out) with hnil | ⟨gd, od, rfl, hrow⟩
      · rw [hnil] at hkl; simp at hkl
      have c0 : wr.cell? ⟨gd, od + q * 3, none⟩ = some (.int .i64 (ds.getD q dDR).br) := rcell depR3 dDR hrow q hkl 0 (by omega)
      have c1 : wr.cell? ⟨gd, od + q * 3 + 1, none⟩ = some (.int .i64 (ds.getD q dDR).ix) := rcell depR3 dDR hrow q hkl 1 (by omega)
      have c2 : wr.cell? ⟨gd, od + q * 3 + 2, none⟩ = some (.int .i64 (ds.getD q dDR).val) := rcell depR3 dDR hrow q hkl 2 (by omega)
      obtain ⟨⟨r1, r2⟩, ⟨r3, r4⟩, r5, r6⟩ := HDR.out _ (getD_mem ds dDR q hkl)
      clear hrow
      generalize (ds.getD q dDR).br = y0 at *
      generalize (ds.getD q dDR).ix = y1 at *
      generalize (ds.getD q dDR).val = y2 at *
      have s1 := hsc.out.c1
      have s2 := hsc.out.c2
      have hqI : (q : Int) < (n : Int) := by omega
      have hqI2 : (q : Int) < 24 := by omega
      have hq0 : (0 : Int) ≤ (q : Int) := by omega
      have p0 := Mk.pk_bd y0 2 (by decide)
      have p1 := Mk.pk_bd y1 (g : Int) (by omega)
      have p2 := Mk.pk_bd y2 1099511627767 (by decide)
      go_upto_region 8 with (go_at_call 7; refine (pick_any y0 2 _ (by omega) (by omega) r1 r2).mono ?_; rintro e w' ⟨rfl, rfl⟩)
      go_region_held3 (fun w' => w'.cell? ⟨gd, od + q * 3 + 1, none⟩ = some (.int .i64 y1) ∧ w'.cell? ⟨S, 2, none⟩ = some (.int .i64 (g : Int))) (first | assumption | go_keep) ((go_at_call 7; refine (pick_any y1 (g : Int) _ (by omega) (by omega) r3 r4).mono ?_; rintro e w' ⟨rfl, rfl⟩))
      generalize hbr : Mk.pk y0 2 = br at *
      obtain ⟨ix, hix⟩ : ∃ ix : Nat, Mk.pk y1 (g : Int) = (ix : Int) := ⟨(Mk.pk y1 (g : Int)).toNat, by omega⟩
      rw [hix] at p1 ⊢
      clear hbr hix
      have hixg : ix < g := by omega
      have HBR : Hid (br = 0 ∨ br = 1) := by show _ ∨ _; omega
      have HKY : Hid (Mk.isK s br (ix : Int) = true) := key_ok HSM.out HBR.out (by omega) (by omega)
      have HAM : Hid (Mk.isM (Mk.adr s br (ix : Int)) = true) := (Mk.isM_iff _).2 (Mk.adr_bd s br (ix : Int))
      generalize hae : Mk.adr s br (ix : Int) = ad at *
      have HAD : Hid (Mk.adr s br (ix : Int) = ad) := hae
      clear hae
      have bD : Below wr.heap.size wr wr.drew := (Below.refl _ _).drew
      have HSD : Hid (Sc S P s g q v vi vc xs (xs.map Cel.id) (xs.map Cel.kept) wr.drew) := hsc.out.grown bD
      have HBD : Hid (Below P w wr.drew) := hbl.out.trans (bD.mono hPr)
      have d2 : wr.drew.cell? ⟨gd, od + q * 3 + 2, none⟩ = some (.int .i64 y2) := c2
      have t1 : wr.drew.cell? ⟨S, 1, none⟩ = some (.int .i64 s) := s1
      clear c0 c1 c2 s1 s2 bD
      generalize wr.drew = wd at *
      go_upto_region 10 with (go_at_call 21; refine (valued_any y2 _ r5 r6).mono ?_; rintro e w' ⟨rfl, rfl⟩)
      generalize hvv : 10 + Mk.pk y2 1099511627767 = vv at *
      have hv10 : 10 ≤ vv ∧ vv ≤ 1099511627776 := by omega
      clear hvv d2
      go_wp2_with fail
      refine (pAddress_yes s br (ix : Int) _ HKY.out).mono ?_
      rw [HAD.out]
      rintro e w3 ⟨rfl, hb3⟩
      have HS3 : Hid (Sc S P s g q v vi vc xs (xs.map Cel.id) (xs.map Cel.kept) w3) := HSD.out.grown hb3
      have hPd : P ≤ wd.heap.size := by have := HSD.out.big; omega
      have HB3 : Hid (Below P w w3) := HBD.out.trans (hb3.mono hPd)
      clear hb3 HSD HBD t1
      go_wp2_with fail
      refine (mint_any S P s g q v vi vc xs (xs.map Cel.id) (xs.map Cel.kept) ad vv _ HS3.out rfl (by omega) (by rw [hxl.out]; omega) (by rw [List.length_map, hxl.out]; omega) hdp.out.vals HAM.out hv10).mono ?_
      rintro e w4 ⟨rfl, id, v4, vi4, vc4, hsc4, hst4, hnew, him⟩
      have ek : xs.map Cel.kept ++ [CoinD.mk id 0 ad vv 0 0] = (xs ++ [Cel.mk id 0 ad vv (q : Int) (-1)]).map Cel.kept := by rw [List.map_append]; rfl
      have ei : xs.map Cel.id ++ [id] = (xs ++ [Cel.mk id 0 ad vv (q : Int) (-1)]).map Cel.id := by rw [List.map_append]; rfl
      rw [ek, ei] at hsc4
      have HS4 : Hid (Sc S P s g (q + 1) v4 vi4 vc4 (xs ++ [Cel.mk id 0 ad vv (q : Int) (-1)]) ((xs ++ [Cel.mk id 0 ad vv (q : Int) (-1)]).map Cel.id) ((xs ++ [Cel.mk id 0 ad vv (q : Int) (-1)]).map Cel.kept) w4) := hsc4
      have HD4 : Hid (Dp s g (xs ++ [Cel.mk id 0 ad vv (q : Int) (-1)])) := by
        have := hdp.out.snoc (md := (q : Int)) HBR.out hixg hv10 hnew him
        rw [HAD.out] at this
        exact this
      have HB4 : Hid (Below P w w4) := HB3.out.trans (hst4.fr.toBelow P (by have := HS3.out.big; omega) (fun k hk => (HS3.out.blk k hk).1))
      have HL4 : Hid ((xs ++ [Cel.mk id 0 ad vv (q : Int) (-1)]).length = q + 1) := by show _ = _; rw [List.length_append, hxl.out]; rfl
      clear hsc4 hst4 hnew him ek ei
      go_wp2
      go_roundw
      case rel => exact ⟨q + 1, v4, vi4, vc4, _, by omega, by omega, by go_num, HL4.out, HS4.out, HD4.out, HB4.out⟩
      case measure => simp [intOf]; omega
    · by_cases hl1 : q < n
      · have hqI : (q : Int) < (n : Int) := by omega
        have hqI2 : ¬ (q : Int) < 24 := by omega
        go_wp2
        go_ret
        exact ⟨by rw [HP.out, HSE.out]; rfl, v, vi, vc, xs, by rw [hxl.out]; exact hq, by rw [HP.out, HSE.out, HSS.out, hxl.out]; exact hsc.out, by rw [HSS.out]; exact hdp.out, by rw [HP.out]; exact hbl.out⟩
      · have hqI : ¬ (q : Int) < (n : Int) := by omega
        go_wp2
        go_ret
        exact ⟨by rw [HP.out, HSE.out]; rfl, v, vi, vc, xs, by rw [hxl.out]; exact hq, by rw [HP.out, HSE.out, HSS.out, hxl.out]; exact hsc.out, by rw [HSS.out]; exact hdp.out, by rw [HP.out]; exact hbl.out⟩
end Go.Proofs.Ytffgpepngcnjeab

namespace Go.Proofs.Ytffgpepngcnjeab
open Go.RowKit
set_option maxRecDepth 100000 in
set_option maxHeartbeats 400000 in
theorem worth_any (x : CoinD) (r : Int) (w : World) (hr : 0 ≤ r ∧ r ≤ 1000) (hx : 0 ≤ x.val ∧ x.val ≤ 1099511627776) :
    Calls Try.prog 92 #[coinV x, .int .i64 r] w fun e w' => e = .returned (.int .i64 (worthZ r x)) ∧ Below w.heap.size w w' := by
  obtain ⟨x0, x1, x2, x3, x4, x5⟩ := x
  simp only at hx
  have hw1 : IntKind.i64.wrap (7 * r) = 7 * r := IntWalk.i64_in _ ⟨by omega, by omega⟩
  have hw2 : IntKind.i64.wrap (x3 - 7 * r) = x3 - 7 * r := IntWalk.i64_in _ ⟨by omega, by omega⟩
  go_enter Try.func92, Try.ntmps92
  go_wp2
  go_ret
  exact ⟨rfl, (Below.refl _ _).alloc (Nat.le_refl _) _⟩
set_option maxRecDepth 100000 in
set_option maxHeartbeats 400000 in
theorem slack_any (r : Int) (w : World) (hr : 0 ≤ r ∧ r ≤ 1000) :
    Calls Try.prog 70 #[.int .i64 r] w fun e w' => e = .returned (.int .i64 (slackZ r)) ∧ w = w' := by
  have hw1 : IntKind.i64.wrap (2 * r) = 2 * r := IntWalk.i64_in _ ⟨by omega, by omega⟩
  have hw2 : IntKind.i64.wrap (2 * r + 10) = 2 * r + 10 := IntWalk.i64_in _ ⟨by omega, by omega⟩
  have hw3 : IntKind.i64.wrap (2 * r + 10 - 1) = 2 * r + 10 - 1 := IntWalk.i64_in _ ⟨by omega, by omega⟩
  go_enter Try.func70, Try.ntmps70
  go_wp2
  go_ret
  exact ⟨ret_int (by unfold slackZ; omega), rfl⟩
set_option maxRecDepth 100000 in
set_option maxHeartbeats 400000 in
theorem change_any (l r : Int) (w : World) (hr : 0 ≤ r ∧ r ≤ 1000) (hl : 0 ≤ l ∧ l ≤ 1000000000000000000) :
    Calls Try.prog 74 #[.int .i64 l, .int .i64 r] w fun e w' => e = .returned (.int .i64 (if l ≤ slackZ r then 0 else l - 2 * r)) ∧ w = w' := by
  have hw1 : IntKind.i64.wrap (2 * r) = 2 * r := IntWalk.i64_in _ ⟨by omega, by omega⟩
  have hw2 : IntKind.i64.wrap (l - 2 * r) = l - 2 * r := IntWalk.i64_in _ ⟨by omega, by omega⟩
  by_cases h : l ≤ slackZ r
  · rw [if_pos h]
    go_enter Try.func74, Try.ntmps74
    go_wp2_with (go_at_call 70; refine (slack_any r _ hr).mono ?_; rintro e w' ⟨rfl, rfl⟩)
    go_ret
    exact ⟨rfl, rfl⟩
  · rw [if_neg h]
    go_enter Try.func74, Try.ntmps74
    go_wp2_with (go_at_call 70; refine (slack_any r _ hr).mono ?_; rintro e w' ⟨rfl, rfl⟩)
    go_ret
    exact ⟨rfl, rfl⟩
def targetZ (ys : List (Int × Int)) (r : Int) : Int := r * (3 + 2 * ys.length) + sumOu ys
set_option maxRecDepth 100000 in
set_option maxHeartbeats 1000000 in
theorem target_any (ao : Option Addr) (n c : Nat) (ys : List (Int × Int)) (r : Int) (w : World) (hx : OutsAt w ao ys) (hn : ys.length = n) (hm : n ≤ 100) (hr : 0 ≤ r ∧ r ≤ 1000) (hb : ∀ y ∈ ys, 0 ≤ y.2 ∧ y.2 ≤ 1099511627776) :
    Calls Try.prog 69 #[.slice ao n c, .int .i64 r] w fun e w' => e = .returned (.int .i64 (targetZ ys r)) ∧ Below w.heap.size w w' := by
  have HX : Hid (OutsAt w ao ys) := hx
  have HN : Hid (ys.length = n) := hn
  have HB : Hid (∀ y ∈ ys, 0 ≤ y.2 ∧ y.2 ≤ 1099511627776) := hb
  clear hx hn hb
  have hrn : 0 ≤ r * (3 + 2 * (n : Int)) ∧ r * (3 + 2 * (n : Int)) ≤ 203000 := ⟨Int.mul_nonneg hr.1 (by omega), by
    have h1 : r * (3 + 2 * (n : Int)) ≤ 1000 * (3 + 2 * (n : Int)) := Int.mul_le_mul_of_nonneg_right hr.2 (by omega)
    omega⟩
  have hw1 : IntKind.i64.wrap (2 * (n : Int)) = 2 * (n : Int) := IntWalk.i64_in _ ⟨by omega, by omega⟩
  have hw2 : IntKind.i64.wrap (3 + 2 * (n : Int)) = 3 + 2 * (n : Int) := IntWalk.i64_in _ ⟨by omega, by omega⟩
  have hw3 : IntKind.i64.wrap (r * (3 + 2 * (n : Int))) = r * (3 + 2 * (n : Int)) := IntWalk.i64_in _ ⟨by omega, by omega⟩
  have HT : Hid (targetZ ys r = r * (3 + 2 * (n : Int)) + sumOu ys) := by show _ = _; unfold targetZ; rw [HN.out]
  go_enter Try.func69, Try.ntmps69
  go_wp2
  generalize r * (3 + 2 * (n : Int)) = F at *
  go_loopw [5, 16] (fun v i wr => ∃ (k : Nat) (T : Int), k ≤ n ∧ i = .int .i64 k ∧ v = .int .i64 T ∧ Hid (F + ((ys.take k).map Prod.snd).sum = T) ∧ Below w.heap.size w wr) (fun _ i _ => n - (intOf i).toNat)
  case atStart => exact ⟨0, F, Nat.zero_le _, rfl, rfl, by show F + _ = F; simp, Below.refl _ _⟩
  case round =>
    obtain ⟨k, T, hk, rfl, rfl, hT, hbl⟩ := hrel
    have hsz := hbl.size
    by_cases hlt : k < n
    · rcases HX.out with hnil | ⟨gg, off, rfl, hrow⟩
      · have := HN.out; rw [hnil] at this; simp at this; omega
      obtain ⟨c0, c1⟩ := (hrow.grown hbl) k (by rw [HN.out]; exact hlt)
      have HS : Hid _ := sum_snoc Prod.snd ys (0, 0) k (by rw [HN.out]; exact hlt)
      have hSb := sum_bd Prod.snd 1099511627776 (ys.take k) (fun x hx => HB.out x (List.mem_of_mem_take hx))
      have hyb := HB.out (ys.getD k (0, 0)) (getD_mem ys (0, 0) k (by rw [HN.out]; exact hlt))
      have hl2 : (ys.take k).length ≤ 100 := by rw [List.length_take]; omega
      have hT2 : 0 ≤ T ∧ T ≤ 120000000000000 := by have := hT.out; omega
      clear hrow hSb hl2
      generalize ys.getD k (0, 0) = y at c0 c1 HS hyb
      obtain ⟨y0, y1⟩ := y
      simp only at c0 c1 hyb
      go_wp2
      go_roundw
      case rel => exact ⟨k + 1, T + y1, by omega, by go_num, rfl, by show _ = _; rw [HS.out, ← Int.add_assoc, hT.out], hbl.alloc hsz _⟩
      case measure => simp [intOf]; omega
    · have HSe : Hid (targetZ ys r = T) := by show _ = _; rw [HT.out, ← hT.out, List.take_of_length_le (by rw [HN.out]; omega)]; rfl
      go_wp2
      go_ret
      exact ⟨ret_int HSe.out.symm, hbl⟩
/-- the candidates in block b: their list, the rate -/
structure Cand (w : World) (b : Nat) (ao : Option Addr) (c : Nat) (cs : List CoinD) (r : Int) : Prop where
  c0 : w.cell? ⟨b, 0, none⟩ = some (.slice ao cs.length c)
  c1 : w.cell? ⟨b, 1, none⟩ = some (.int .i64 r)
  at_ : RecAt CoinD.l w ao cs
theorem Cand.grown {w w' : World} {b : Nat} {ao : Option Addr} {c : Nat} {cs : List CoinD} {r : Int} (h : Cand w b ao c cs r) (hb : Below w.heap.size w w') : Cand w' b ao c cs r :=
  ⟨(hb.cell (p := ⟨b, 0, none⟩) (cell_lt h.c0)).trans h.c0, (hb.cell (p := ⟨b, 1, none⟩) (cell_lt h.c1)).trans h.c1, h.at_.grown hb⟩
theorem i64_and1 (n : Int) : bits .and .i64 n 1 = n % 2 := by
  have h1 : (BitVec.ofInt 64 1).toNat = 2 ^ 1 - 1 := by decide
  have key : (BitVec.ofInt 64 n &&& BitVec.ofInt 64 1).toNat = (n % ((2 ^ 64 : Nat) : Int)).toNat % 2 ^ 1 := by
    rw [BitVec.toNat_and, BitVec.toNat_ofInt, h1, Nat.and_two_pow_sub_one_eq_mod]
  show IntKind.i64.wrap ((BitVec.ofInt 64 n &&& BitVec.ofInt 64 1).toNat : Nat) = n % 2
  rw [key, IntKind.wrap_i64]
  omega
set_option maxRecDepth 100000 in
set_option maxHeartbeats 1000000 in
theorem cHas_any (b : Nat) (ao : Option Addr) (c : Nat) (cs : List CoinD) (r : Int) (m i : Nat) (w : World) (hc : Cand w b ao c cs r) (hi : i < 8) :
    Calls Try.prog 94 #[.pointer (some ⟨b, 0, none⟩), .int .i64 (m : Int), .int .i64 (i : Int)] w fun e w' => e = .returned (.bool (decide (i < cs.length) && bitN m 8 i)) ∧ w = w' := by
  have c0 := hc.c0
  clear hc
  generalize hl : cs.length = n at *
  clear hl
  by_cases h : i < n
  · have hw1 : IntKind.i64.wrap (7 - (i : Int)) = 7 - (i : Int) := IntWalk.i64_in _ ⟨by omega, by omega⟩
    have h7 : (0 : Int) ≤ 7 - (i : Int) := by omega
    go_enter Try.func94, Try.ntmps94
    go_wp2
    go_ret
    refine ⟨ret_bool ?_, rfl⟩
    have e : (m : Int) / 2 ^ (7 - i) % 2 = ((m / 2 ^ (7 - i) % 2 : Nat) : Int) := by push_cast; rfl
    rw [i64_and1, e, decide_eq_true h]
    unfold bitN
    rw [show 8 - 1 - i = 7 - i by omega]
    generalize m / 2 ^ (7 - i) % 2 = t
    by_cases ht : t = 1
    · subst ht; rfl
    · have h1 : ((t : Int) == 1) = false := by rw [beq_eq_false_iff_ne]; omega
      have h2 : (t == 1) = false := by rw [beq_eq_false_iff_ne]; exact ht
      rw [h1, h2]; rfl
  · go_enter Try.func94, Try.ntmps94
    go_wp2
    go_ret
    exact ⟨ret_bool (by rw [decide_eq_false h]; rfl), rfl⟩
end Go.Proofs.Ytffgpepngcnjeab

namespace Go.Proofs.Ytffgpepngcnjeab
open Go.RowKit
theorem rangeM_snoc {α : Type} (f : Nat → α) (k : Nat) : (List.range (k + 1)).map f = (List.range k).map f ++ [f k] := by
  rw [List.range_succ, List.map_append]; rfl
theorem keep8 {w w' : World} {b T o : Nat} {p q a0 a1 a2 a3 a4 a5 : Value} (hb : Below w.heap.size w w') (h : w.cell? ⟨b, 0, none⟩ = some p ∧ w.cell? ⟨b, 1, none⟩ = some q ∧ w.cell? ⟨T, o, none⟩ = some a0 ∧ w.cell? ⟨T, o + 1, none⟩ = some a1 ∧ w.cell? ⟨T, o + 2, none⟩ = some a2 ∧ w.cell? ⟨T, o + 3, none⟩ = some a3 ∧ w.cell? ⟨T, o + 4, none⟩ = some a4 ∧ w.cell? ⟨T, o + 5, none⟩ = some a5) :
    w'.cell? ⟨b, 0, none⟩ = some p ∧ w'.cell? ⟨b, 1, none⟩ = some q ∧ w'.cell? ⟨T, o, none⟩ = some a0 ∧ w'.cell? ⟨T, o + 1, none⟩ = some a1 ∧ w'.cell? ⟨T, o + 2, none⟩ = some a2 ∧ w'.cell? ⟨T, o + 3, none⟩ = some a3 ∧ w'.cell? ⟨T, o + 4, none⟩ = some a4 ∧ w'.cell? ⟨T, o + 5, none⟩ = some a5 := by
  obtain ⟨hp, hq, h0, h1, h2, h3, h4, h5⟩ := h
  have hl := cell_lt h0
  have hl2 := cell_lt hp
  exact ⟨(hb.cell (p := ⟨b, 0, none⟩) hl2).trans hp, (hb.cell (p := ⟨b, 1, none⟩) hl2).trans hq, (hb.cell (p := ⟨T, o, none⟩) hl).trans h0, (hb.cell (p := ⟨T, o + 1, none⟩) hl).trans h1, (hb.cell (p := ⟨T, o + 2, none⟩) hl).trans h2, (hb.cell (p := ⟨T, o + 3, none⟩) hl).trans h3, (hb.cell (p := ⟨T, o + 4, none⟩) hl).trans h4, (hb.cell (p := ⟨T, o + 5, none⟩) hl).trans h5⟩
abbrev CVals (cs : List CoinD) : Prop := ∀ x ∈ cs, 0 ≤ x.val ∧ x.val ≤ 1099511627776
set_option maxRecDepth 100000 in
set_option maxHeartbeats 2000000 in
theorem cSum_any (b : Nat) (ao : Option Addr) (c : Nat) (cs : List CoinD) (r : Int) (m : Nat) (w : World) (hc : Cand w b ao c cs r) (hr : 0 ≤ r ∧ r ≤ 1000) (hv : CVals cs) :
    Calls Try.prog 93 #[.pointer (some ⟨b, 0, none⟩), .int .i64 (m : Int)] w fun e w' => (∃ T, e = .returned (.int .i64 T) ∧ T = sumP r cs m ∧ -56000 ≤ T ∧ T ≤ 8796093022208) ∧ Below w.heap.size w w' := by
  have HC : Hid (Cand w b ao c cs r) := hc
  have HV : Hid (CVals cs) := hv
  clear hc hv
  go_enter Try.func93, Try.ntmps93
  go_wp2
  go_loopw [5, 6] (fun v i wr => ∃ (k : Nat) (T : Int), k ≤ 8 ∧ i = .int .i64 k ∧ v = .int .i64 T ∧ Hid (((List.range k).map fun i => if decide (i < cs.length) && bitN m 8 i then worthZ r (cs.getD i dN) else 0).sum = T) ∧ -(7000 * (k : Int)) ≤ T ∧ T ≤ 1099511627776 * (k : Int) ∧ Below w.heap.size w wr) (fun _ i _ => 8 - (intOf i).toNat)
  case atStart => exact ⟨0, 0, Nat.zero_le _, rfl, rfl, rfl, by simp, by simp, Below.refl _ _⟩
  case round =>
    obtain ⟨k, T, hk, rfl, rfl, hT, hT1, hT2, hbl⟩ := hrel
    have hsz := hbl.size
    have HCr : Hid (Cand wr b ao c cs r) := HC.out.grown hbl
    by_cases hlt : k < 8
    · have HS : Hid _ := rangeM_snoc (fun i => if decide (i < cs.length) && bitN m 8 i then worthZ r (cs.getD i dN) else 0) k
      cases hb : (decide (k < cs.length) && bitN m 8 k)
      · go_wp2_with (go_at_call 94; refine (cHas_any b ao c cs r m k _ HCr.out hlt).mono ?_; rintro e w' ⟨rfl, rfl⟩; rw [hb])
        go_roundw
        case rel => exact ⟨k + 1, T, by omega, by go_num, rfl, by show _ = _; rw [HS.out, List.sum_append, hT.out, hb]; simp, by push_cast; omega, by push_cast; omega, hbl⟩
        case measure => simp [intOf]; omega
      · have hkl : k < cs.length := by
          rw [Bool.and_eq_true, decide_eq_true_iff] at hb
          exact hb.1
        have hvk := HV.out (cs.getD k dN) (getD_mem cs dN k hkl)
        rcases HCr.out.at_ with hnil | ⟨gc, oc, rfl, hrow⟩
        · rw [hnil] at hkl; simp at hkl
        obtain ⟨e0, e1, e2, e3, e4, e5⟩ := coinCells hrow k hkl
        have p0 := HCr.out.c0
        have p1 := HCr.out.c1
        have hkI : (k : Int) < (cs.length : Int) := by omega
        have hk0 : (0 : Int) ≤ (k : Int) := by omega
        clear hrow
        generalize cs.getD k dN = y at *
        obtain ⟨y0, y1, y2, y3, y4, y5⟩ := y
        simp only at e0 e1 e2 e3 e4 e5 hvk
        have hwd : worthZ r ⟨y0, y1, y2, y3, y4, y5⟩ = y3 - 7 * r := rfl
        have HWD : Hid (worthZ r ⟨y0, y1, y2, y3, y4, y5⟩ = y3 - 7 * r) := hwd
        have hw : IntKind.i64.wrap (T + (y3 - 7 * r)) = T + (y3 - 7 * r) := IntWalk.i64_in _ ⟨by omega, by omega⟩
        have HKX : Hid (wr.cell? ⟨b, 0, none⟩ = some (.slice (some ⟨gc, oc, none⟩) cs.length c) ∧ wr.cell? ⟨b, 1, none⟩ = some (.int .i64 r) ∧ wr.cell? ⟨gc, oc + k * 6, none⟩ = some (.int .i64 y0) ∧ wr.cell? ⟨gc, oc + k * 6 + 1, none⟩ = some (.int .i64 y1) ∧ wr.cell? ⟨gc, oc + k * 6 + 2, none⟩ = some (.int .i64 y2) ∧ wr.cell? ⟨gc, oc + k * 6 + 3, none⟩ = some (.int .i64 y3) ∧ wr.cell? ⟨gc, oc + k * 6 + 4, none⟩ = some (.int .i64 y4) ∧ wr.cell? ⟨gc, oc + k * 6 + 5, none⟩ = some (.int .i64 y5)) := ⟨p0, p1, e0, e1, e2, e3, e4, e5⟩
        clear hwd
        go_upto_region 6 with (go_at_call 94; refine (cHas_any b (some ⟨gc, oc, none⟩) c cs r m k _ HCr.out hlt).mono ?_; rintro e w' ⟨rfl, rfl⟩; rw [hb])
        go_region_held3 (fun w' => w'.cell? ⟨b, 0, none⟩ = some (.slice (some ⟨gc, oc, none⟩) cs.length c) ∧ w'.cell? ⟨b, 1, none⟩ = some (.int .i64 r) ∧ w'.cell? ⟨gc, oc + k * 6, none⟩ = some (.int .i64 y0) ∧ w'.cell? ⟨gc, oc + k * 6 + 1, none⟩ = some (.int .i64 y1) ∧ w'.cell? ⟨gc, oc + k * 6 + 2, none⟩ = some (.int .i64 y2) ∧ w'.cell? ⟨gc, oc + k * 6 + 3, none⟩ = some (.int .i64 y3) ∧ w'.cell? ⟨gc, oc + k * 6 + 4, none⟩ = some (.int .i64 y4) ∧ w'.cell? ⟨gc, oc + k * 6 + 5, none⟩ = some (.int .i64 y5)) (first | assumption | go_keep | exact keep8 hb7 HKX.out) ((go_at_call 92; refine (worth_any ⟨y0, y1, y2, y3, y4, y5⟩ r _ hr hvk).mono ?_; rintro e w7 ⟨rfl, hb7⟩; rw [HWD.out]))
        have hb07 : Below w.heap.size w w7 := hbl.drew.trans (hb7.mono hsz)
        clear HKX e0 e1 e2 e3 e4 e5 p0 p1
        go_wp2
        go_roundw
        case rel => exact ⟨k + 1, T + (y3 - 7 * r), by omega, by go_num, rfl, by show _ = _; rw [HS.out, List.sum_append, hT.out, if_pos hb, HWD.out]; simp, by push_cast; omega, by push_cast; omega, hb07⟩
        case measure => simp [intOf]; omega
    · have hk8 : k = 8 := by omega
      subst hk8
      go_wp2
      go_ret
      exact ⟨⟨T, rfl, hT.out.symm, by omega, by omega⟩, hbl⟩
set_option maxRecDepth 100000 in
set_option maxHeartbeats 2000000 in
theorem cNearest_any (b : Nat) (ao : Option Addr) (c : Nat) (cs : List CoinD) (r lo hi : Int) (w : World) (hc : Cand w b ao c cs r) (hr : 0 ≤ r ∧ r ≤ 1000) (hv : CVals cs) (hh : 0 ≤ hi ∧ hi ≤ 1000000000000000000) :
    Calls Try.prog 71 #[.pointer (some ⟨b, 0, none⟩), .int .i64 lo, .int .i64 hi] w fun e w' => e = .returned (.int .i64 (bestP r cs lo hi : Nat)) ∧ bestP r cs lo hi ≤ 255 ∧ Below w.heap.size w w' := by
  have HC : Hid (Cand w b ao c cs r) := hc
  have HV : Hid (CVals cs) := hv
  clear hc hv
  have hw : IntKind.i64.wrap (hi + 1) = hi + 1 := IntWalk.i64_in _ ⟨by omega, by omega⟩
  go_enter Try.func71, Try.ntmps71
  go_wp2
  go_loopw [7, 8, 9] (fun bv lv i wr => ∃ (k q : Nat) (l : Int), k ≤ 255 ∧ q ≤ 255 ∧ i = .int .i64 k ∧ bv = .int .i64 q ∧ lv = .int .i64 l ∧ Hid ((nearZ (sumP r cs) lo k (q, l)).1 = bestP r cs lo hi) ∧ Below w.heap.size w wr) (fun _ _ i _ => (intOf i).toNat)
  case atStart => exact ⟨255, 0, hi + 1, Nat.le_refl _, Nat.zero_le _, rfl, rfl, rfl, rfl, Below.refl _ _⟩
  case round =>
    obtain ⟨k, q, l, hk, hq, rfl, rfl, rfl, hz, hbl⟩ := hrel
    have hsz := hbl.size
    have HCr : Hid (Cand wr b ao c cs r) := HC.out.grown hbl
    cases k with
    | zero =>
      have hz' : q = bestP r cs lo hi := hz.out
      have HZ : Hid (q = bestP r cs lo hi) := hz'
      clear hz'
      go_wp2
      go_ret
      rw [← HZ.out]
      exact ⟨rfl, hq, hbl⟩
    | succ k =>
      have hz' := hz.out
      rw [nearZ] at hz'
      have HZ : Hid ((nearZ (sumP r cs) lo k (if lo ≤ sumP r cs (k + 1) ∧ sumP r cs (k + 1) < l then (k + 1, sumP r cs (k + 1)) else (q, l))).1 = bestP r cs lo hi) := hz'
      clear hz' hz
      generalize hK : k + 1 = K at *
      have hK0 : 0 < K := by omega
      have hkK : k < K := by omega
      have hk255 : k ≤ 255 := by omega
      have hd0 : decide ((0 : Int) < (K : Int)) = true := by rw [decide_eq_true_iff]; omega
      have hKm : ((K : Int) - 1) = (k : Int) := by omega
      have hw1 : IntKind.i64.wrap ((K : Int) - 1) = (k : Int) := by rw [hKm]; exact IntWalk.i64_in _ ⟨by omega, by omega⟩
      clear hKm hK
      go_wp2_with fail
      refine (cSum_any b ao c cs r K _ HCr.out hr HV.out).mono ?_
      rintro e w5 ⟨⟨T, rfl, hT, t1, t2⟩, hb5⟩
      rw [← hT] at HZ
      clear hT
      have hb05 : Below w.heap.size w w5 := hbl.trans (hb5.mono hsz)
      by_cases h1 : lo ≤ T
      · by_cases h2 : T < l
        · rw [if_pos ⟨h1, h2⟩] at HZ
          go_wp2
          go_roundw
          case rel => exact ⟨k, K, T, by omega, hk, rfl, rfl, rfl, HZ.out, hb05⟩
          case measure => simp [intOf]; omega
        · rw [if_neg (fun h => h2 h.2)] at HZ
          go_wp2
          go_roundw
          case rel => exact ⟨k, q, l, by omega, hq, rfl, rfl, rfl, HZ.out, hb05⟩
          case measure => simp [intOf]; omega
      · rw [if_neg (fun h => h1 h.1)] at HZ
        go_wp2
        go_roundw
        case rel => exact ⟨k, q, l, by omega, hq, rfl, rfl, rfl, HZ.out, hb05⟩
        case measure => simp [intOf]; omega
end Go.Proofs.Ytffgpepngcnjeab
