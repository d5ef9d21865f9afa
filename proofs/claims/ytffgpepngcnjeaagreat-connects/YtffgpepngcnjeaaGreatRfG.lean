/-
  The document's answer: Cells walked.
-/
import Derived.Test.YtffgpepngcnjeaaGreatRfF
namespace Go.Proofs.YtffgpepngcnjeaaGreat
open Go.RowKit

def SmallB (bl : List TxD) : Prop := bl.length ≤ 1000 ∧ ∀ t ∈ bl, t.ys.length ≤ 1000 ∧ t.ins.length ≤ 1000
theorem insR_take (l : List RCel) (ins : List InD) (k : Nat) (h : k < ins.length) : insR l (ins.take (k + 1)) = markI (insR l (ins.take k)) (ins.getD k dIn) := foldl_take markI l ins dIn k h
theorem blkR_take (l : List RCel) (bl : List TxD) (k : Nat) (h : k < bl.length) : blkR l (bl.take (k + 1)) = txR (blkR l (bl.take k)) (bl.getD k dT) := foldl_take txR l bl dT k h
theorem cellsR_take (bls : List (List TxD)) (k : Nat) (h : k < bls.length) : cellsR (bls.take (k + 1)) = blkR (cellsR (bls.take k)) (bls.getD k []) := foldl_take blkR [] bls [] k h

set_option maxRecDepth 100000 in
set_option maxHeartbeats 8000000 in
theorem cells_any (N : Nat → Prop) (ao : Option Addr) (n c : Nat) (cs : List CbD) (bls : List (List TxD)) (w : World) (hx : ChnAt N w ao cs bls) (hn : bls.length = n) (hm : n ≤ 1000) (hs : ∀ i, i < n → SmallB (bls.getD i [])) :
    Calls Tryz.prog 95 #[.slice ao n c] w fun e w' => ∃ v, e = .returned v ∧ OwnR w' w.heap.size v (cellsR bls) ∧ Below w.heap.size w w' := by
  have HN : Hid (bls.length = n) := hn
  have HX : Hid (ChnAt N w ao cs bls) := hx
  have HSm : Hid (∀ i, i < n → SmallB (bls.getD i [])) := hs
  clear hn hx hs
  generalize hB : w.heap.size = B
  have HB : Hid (w.heap.size = B) := hB
  clear hB
  go_enter Tryz.func95, Tryz.ntmps95
  go_wp2
  go_loopw [3, 4] (fun v i wr => ∃ k : Nat, k ≤ n ∧ i = .int .i64 k ∧ Hid ((cellsR (bls.take k)).length ≤ k * 1000000) ∧ OwnR wr B v (cellsR (bls.take k)) ∧ Below B w wr) (fun _ i _ => n - (intOf i).toNat)
  case atStart => exact ⟨0, Nat.zero_le _, rfl, by show List.length _ ≤ _; simp [cellsR], OwnRec.nil _ _ _ _ _, Below.refl _ _⟩
  case round =>
    obtain ⟨k, hk, rfl, hlen, hown, hbl⟩ := hrel
    have hsz := hbl.size
    rw [HB.out] at hsz
    by_cases hlt : k < n
    · have hch := HX.out.grown (by rw [HB.out]; exact hbl)
      rcases hch.row with hnil | ⟨g, off, rfl, hrow⟩
      · have h1 := hch.len; rw [HN.out, hnil] at h1; simp at h1; omega
      have c0 := cb_cell hrow k (by rw [hch.len, HN.out]; exact hlt)
      have hcB : g < B := by
        rcases HX.out.row with hnil | ⟨g', off', e', hrow'⟩
        · have h1 := HX.out.len; rw [HN.out, hnil] at h1; simp at h1; omega
        · cases e'
          have := cell_lt (cb_cell hrow' k (by rw [HX.out.len, HN.out]; exact hlt))
          rw [HB.out] at this
          exact this
      obtain ⟨hblk, hble⟩ := HX.out.blk k (by rw [HN.out]; exact hlt)
      obtain ⟨hs1, hs2⟩ := HSm.out k hlt
      have HR : Hid _ := cellsR_take bls k (by rw [HN.out]; exact hlt)
      clear hrow hch
      generalize bls.getD k [] = bl at *
      generalize cs.getD k dCb = cb at *
      generalize cellsR (bls.take k) = l0 at *
      obtain ⟨ca, cn, cc⟩ := cb
      simp only at c0 hblk hble
      have HBK : Hid (BlkAt N w ca bl) := hblk
      have HBL : Hid (bl.length = cn) := hble
      have HS2 : Hid (∀ t ∈ bl, t.ys.length ≤ 1000 ∧ t.ins.length ≤ 1000) := hs2
      rw [hble] at hs1
      clear hblk hble hs2
      have c0' : w.cell? ⟨g, off + k, none⟩ = some (.slice ca cn cc) := by rw [← hbl.cell (p := ⟨g, off + k, none⟩) hcB]; exact c0
      have HC0 : Hid (w.cell? ⟨g, off + k, none⟩ = some (.slice ca cn cc)) := c0'
      clear c0'
      have e1 : (0 : Int) ≤ (k : Int) := by omega
      have e2 : (k : Int) < (n : Int) := by omega
      obtain ⟨wo, rfl⟩ : ∃ wo : World, wo = wr := ⟨_, rfl⟩
      go_wp2
      go_loopw [3, 5] (fun v i wr => ∃ j : Nat, j ≤ cn ∧ i = .int .i64 j ∧ Hid ((blkR l0 (bl.take j)).length ≤ k * 1000000 + j * 1000) ∧ OwnR wr B v (blkR l0 (bl.take j)) ∧ Below B w wr) (fun _ i _ => cn - (intOf i).toNat)
      case atStart => exact ⟨0, Nat.zero_le _, rfl, by show List.length _ ≤ _; simpa [blkR] using hlen.out, hown, hbl⟩
      case round =>
        clear hown hbl hsz c0
        obtain ⟨j, hj, rfl, hlen2, hown, hbl⟩ := hrel
        have hsz := hbl.size
        rw [HB.out] at hsz
        have c0 := (hbl.cell (p := ⟨g, off + k, none⟩) hcB).trans HC0.out
        by_cases hjt : j < cn
        · have hblk2 := HBK.out.fr (Fr.of_below (by rw [HB.out]; exact hbl) (fun _ => False)) (fun _ _ h => h)
          rcases hblk2.row with hnil | ⟨g2, off2, rfl, hrow2⟩
          · have h1 := HBL.out; rw [hnil] at h1; simp at h1; omega
          obtain ⟨t0, t1, t2⟩ := txCells hrow2 j (by rw [HBL.out]; exact hjt)
          have hok := HBK.out.ok _ (getD_mem bl dT j (by rw [HBL.out]; exact hjt))
          obtain ⟨hyl, hzl⟩ := HS2.out _ (getD_mem bl dT j (by rw [HBL.out]; exact hjt))
          have HR2 : Hid _ := blkR_take l0 bl j (by rw [HBL.out]; exact hjt)
          clear hrow2 hblk2
          generalize bl.getD j dT = y at t0 t1 t2 hok HR2 hyl hzl
          generalize blkR l0 (bl.take j) = l1 at *
          obtain ⟨yt, yai, yn, yc, yap, ym, yd, yins, yys⟩ := y
          simp only [txR, TxD.id] at t0 t1 t2 HR2 hyl hzl
          have HOK : Hid (TxOk N w ⟨yt, yai, yn, yc, yap, ym, yd, yins, yys⟩) := hok
          have HYL : Hid (yys.length = ym) := hok.ol
          have HIL : Hid (yins.length = yn) := hok.il
          rw [hok.ol] at hyl
          rw [hok.il] at hzl
          clear hok
          have e3 : (0 : Int) ≤ (j : Int) := by omega
          have e4 : (j : Int) < (cn : Int) := by omega
          have hb4 := hbl.alloc hsz (.cells #[.int .i64 yt, .slice yai yn yc, .slice yap ym yd] 89)
          have ho4 := hown.alloc (.cells #[.int .i64 yt, .slice yai yn yc, .slice yap ym yd] 89)
          have x1 : (wr.alloc (.cells #[.int .i64 yt, .slice yai yn yc, .slice yap ym yd] 89)).cell? ⟨wr.heap.size, 1, none⟩ = some (.slice yai yn yc) := by rw [World.cell?_alloc_new]; rfl
          have x2 : (wr.alloc (.cells #[.int .i64 yt, .slice yai yn yc, .slice yap ym yd] 89)).cell? ⟨wr.heap.size, 2, none⟩ = some (.slice yap ym yd) := by rw [World.cell?_alloc_new]; rfl
          have hne : ∀ q, u3.ownBlock = some q → q ≠ wr.heap.size := fun q hq e => by have := (hown.blk q hq).2; omega
          go_wp2_with fail
          generalize wr.alloc (.cells #[.int .i64 yt, .slice yai yn yc, .slice yap ym yd] 89) = w4 at *
          generalize hTe : wr.heap.size = T at *
          have hci : CI w B T (.slice yai yn yc) (.slice yap ym yd) u3 l1 w4 := ⟨ho4, hb4, x1, x2, hne, hsz⟩
          clear hTe t0 t1 t2 c0 hown hbl ho4 hb4 x1 x2 hne hsz
          have hokw := HOK.out.fr (Fr.of_below (by rw [HB.out]; exact hci.bel) (fun _ => False)) (fun _ _ h => h)
          refine (rId_any yt yai yn yc yap ym yd yins yys _ hokw.ins hokw.il hokw.outs hokw.ol).mono ?_
          rintro e w5 ⟨rfl, hb5⟩
          generalize idZ yt yins yys = zid at *
          have HCI : Hid (CI w B T (.slice yai yn yc) (.slice yap ym yd) u3 l1 w5) := ⟨hci.own.grown hb5, hci.bel.trans (hb5.mono (Nat.le_trans hci.bt (Nat.le_of_lt (cell_lt hci.t1)))), (hb5.cell (p := ⟨T, 1, none⟩) (cell_lt hci.t1)).trans hci.t1, (hb5.cell (p := ⟨T, 2, none⟩) (cell_lt hci.t2)).trans hci.t2, hci.ne, hci.bt⟩
          clear hci hb5 hokw
          obtain ⟨av, cv, rfl, _⟩ := OwnRec.at rc5 HCI.out.own
          have hl1 := hlen2.out
          have HLL : Hid (∀ q, (insR l1 q).length = l1.length) := fun q => insR_len q l1
          generalize l1.length = ln at *
          go_wp2
          go_loopw [8] (fun i wr => ∃ q : Nat, q ≤ yn ∧ i = .int .i64 q ∧ CI w B T (.slice yai yn yc) (.slice yap ym yd) (.slice av ln cv) (insR l1 (yins.take q)) wr) (fun i _ => yn - (intOf i).toNat)
          case atStart => exact ⟨0, Nat.zero_le _, rfl, HCI.out⟩
          case round =>
            obtain ⟨q, hq, rfl, hci⟩ := hrel
            have x1 := hci.t1
            have x2 := hci.t2
            by_cases hqt : q < yn
            · rcases HOK.out.ins with hnil | ⟨gi, oi, hai, hirow⟩
              · have h1 := HIL.out; simp only at hnil; rw [hnil] at h1; simp at h1; omega
              simp only at hai hirow
              subst hai
              obtain ⟨⟨i0, i1, _⟩, _⟩ := hirow q (by rw [HIL.out]; exact hqt)
              have j0 := (hci.bel.cell (p := ⟨gi, oi + q * 3, none⟩) (by rw [← HB.out]; exact cell_lt i0)).trans i0
              have j1 := (hci.bel.cell (p := ⟨gi, oi + q * 3 + 1, none⟩) (by rw [← HB.out]; exact cell_lt i1)).trans i1
              have HR3 : Hid _ := insR_take l1 yins q (by rw [HIL.out]; exact hqt)
              have HL2 : Hid ((insR l1 (yins.take q)).length = ln) := HLL.out _
              clear i0 i1 hirow
              generalize yins.getD q dIn = z at j0 j1 HR3
              generalize insR l1 (yins.take q) = l2 at *
              obtain ⟨aid, apos, aao, an, ac, al⟩ := z
              simp only at j0 j1
              obtain ⟨av', cv', ev, hat⟩ := OwnRec.at rc5 hci.own
              injection ev with ev1 ev2 ev3
              subst ev1
              clear ev2 ev3
              have HAT : Hid (RecAt RCel.v wr.drew av l2) := hat
              have HCI2 : Hid (CI w B T (.slice (some ⟨gi, oi, none⟩) yn yc) (.slice yap ym yd) (.slice av ln cv) l2 wr) := hci
              clear hat hci
              have e5 : (0 : Int) ≤ (q : Int) := by omega
              have e6 : (q : Int) < (yn : Int) := by omega
              go_wp2
              go_region_held3 (fun w' => w'.cell? ⟨T, 1, none⟩ = some (.slice (some ⟨gi, oi, none⟩) yn yc) ∧ w'.cell? ⟨gi, oi + q * 3, none⟩ = some (.int .i64 aid) ∧ w'.cell? ⟨gi, oi + q * 3 + 1, none⟩ = some (.int .i64 apos)) (first | assumption | go_keep) ((go_at_call 137; refine (rfind_any av ln cv l2 aid apos _ HAT.out HL2.out (by omega)).mono ?_; rintro e w7 ⟨rfl, rfl⟩))
              have HCI3 : Hid (CI w B T (.slice (some ⟨gi, oi, none⟩) yn yc) (.slice yap ym yd) (.slice av ln cv) l2 wr.drew) := HCI2.out.drew
              clear HCI2 HAT x1 x2 j0 j1
              rcases rfindZ_cases l2 aid apos with hf | ⟨pl, hpl, hf, _⟩
              · rw [hf]
                have HR4 : Hid (insR l1 (yins.take (q + 1)) = l2) := by
                  show _ = _
                  rw [HR3.out, markI]
                  simp only
                  rw [hf, if_pos (by omega)]
                clear HR3 hf
                go_wp2
                go_roundw
                case rel => exact ⟨q + 1, by omega, by go_num, by rw [HR4.out]; exact HCI3.out⟩
                case measure => simp [intOf]; omega
              · rw [hf]
                have HR4 : Hid (insR l1 (yins.take (q + 1)) = l2.set pl ((l2.getD pl dR).mark)) := by
                  show _ = _
                  rw [HR3.out, markI]
                  simp only
                  rw [hf, if_neg (by omega), show ((pl : Int)).toNat = pl from Int.toNat_natCast pl]
                have hpl2 : pl < ln := by rw [← HL2.out]; exact hpl
                obtain ⟨gl, hgl, _, _, hlrow, hlfz⟩ := own_some rc5 HCI3.out.own HL2.out (by omega)
                subst hgl
                obtain ⟨_, _, _, _, m4⟩ := rcCells hlrow pl hpl
                have mf := hlfz (pl * 5 + 4)
                rw [Nat.zero_add] at m4
                generalize (l2.getD pl dR).sp = msp at m4
                clear HR3 hf hpl hlrow hlfz
                have e7 : (0 : Int) ≤ (pl : Int) := by omega
                have e8 : (pl : Int) < (ln : Int) := by omega
                have e9 : decide ((0 : Int) ≤ (pl : Int)) = true := by rw [decide_eq_true_iff]; exact e7
                go_wp2
                go_roundw
                case rel => exact ⟨q + 1, by omega, by go_num, by rw [HR4.out]; exact HCI3.out.mark HL2.out pl hpl2⟩
                case measure => simp [intOf]; omega
            · have hqn : q = yn := by omega
              subst hqn
              rw [List.take_of_length_le (by rw [HIL.out]; omega)] at hci
              have HL3 : Hid ((insR l1 yins).length = ln) := HLL.out _
              have HR5 : Hid (blkR l0 (bl.take (j + 1)) = insR l1 yins ++ outR zid yys ym) := by show _ = _; rw [HR2.out, HYL.out]
              clear HR2 HLL hqt
              generalize insR l1 yins = l3 at *
              have HCI2 : Hid (CI w B T (.slice yai q yc) (.slice yap ym yd) (.slice av ln cv) l3 wr) := hci
              clear hci
              go_wp2
              go_loopw [3, 10] (fun v i wr => ∃ r : Nat, r ≤ ym ∧ i = .int .i64 r ∧ CI w B T (.slice yai q yc) (.slice yap ym yd) v (l3 ++ outR zid yys r) wr) (fun _ i _ => ym - (intOf i).toNat)
              case atStart => exact ⟨0, Nat.zero_le _, rfl, by simpa [outR] using HCI2.out⟩
              case round =>
                clear HCI2 x2 x1
                obtain ⟨r, hr, rfl, hci⟩ := hrel
                have x2 := hci.t2
                by_cases hrt : r < ym
                · rcases HOK.out.outs with hnil | ⟨go, oo, hao, horow⟩
                  · have h1 := HYL.out; simp only at hnil; rw [hnil] at h1; simp at h1; omega
                  simp only at hao horow
                  subst hao
                  obtain ⟨o0, o1⟩ := horow r (by rw [HYL.out]; exact hrt)
                  have j0 := (hci.bel.cell (p := ⟨go, oo + r * 2, none⟩) (by rw [← HB.out]; exact cell_lt o0)).trans o0
                  have j1 := (hci.bel.cell (p := ⟨go, oo + r * 2 + 1, none⟩) (by rw [← HB.out]; exact cell_lt o1)).trans o1
                  have HAP : Hid (l3 ++ outR zid yys (r + 1) = (l3 ++ outR zid yys r) ++ [⟨zid, r, (yys.getD r (0, 0)).1, (yys.getD r (0, 0)).2, false⟩]) := by show _ = _; rw [outR_snoc, List.append_assoc]
                  have HLN : Hid ((l3 ++ outR zid yys r).length ≤ 2000000000) := by show _ ≤ _; rw [List.length_append, outR_len, HL3.out]; omega
                  clear o0 o1 horow
                  generalize yys.getD r (0, 0) = z at j0 j1 HAP
                  generalize l3 ++ outR zid yys r = l4 at *
                  obtain ⟨za, zv⟩ := z
                  simp only at j0 j1 HAP
                  have e5 : (0 : Int) ≤ (r : Int) := by omega
                  have e6 : (r : Int) < (ym : Int) := by omega
                  have hBs : B ≤ wr.heap.size := Nat.le_trans hci.bt (Nat.le_of_lt (cell_lt hci.t2))
                  have HCI3 : Hid (CI w B T (.slice yai q yc) (.slice (some ⟨go, oo, none⟩) ym yd) u3 l4 wr) := hci
                  clear hci
                  go_upto_region 19 with fail
                  go_region_law (refine step_appR 151 40 _ Tryz.underlying151 info160 rfl (by decide) rc5 rc_one _ ?_ (.tmp 69) (.tmp 85) ?_ B wr.heap.size 1 u3 l4 ⟨zid, r, za, zv, false⟩ ?_ ?_ ?_ ?_ ?_ ?_ ?_ ?_; rfl; rfl; rfl; rfl; exact OwnRec.drew (HCI3.out.own.alloc _); exact VRow.drew (vrow_new wr _ _); (rw [World.size_drew, World.size_alloc]; omega); (have := HLN.out; unfold maxLen; omega); (have := HLN.out; omega); intro g4 cap w8 hown8 hg8 hl8 hlt8)
                  all_goals
                    go_wp2
                    go_roundw
                    case rel => exact ⟨r + 1, by omega, by go_num, by rw [HAP.out]; exact HCI3.out.push hown8 hg8 hl8⟩
                    case measure => simp [intOf]; omega
                · have hrm : r = ym := by omega
                  subst hrm
                  have HCI3 : Hid (CI w B T (.slice yai q yc) (.slice yap r yd) u3 (l3 ++ outR zid yys r) wr) := hci
                  have HLN : Hid ((l3 ++ outR zid yys r).length ≤ k * 1000000 + (j + 1) * 1000) := by show _ ≤ _; rw [List.length_append, outR_len, HL3.out]; omega
                  clear hci
                  go_wp2
                  go_roundw
                  case rel => exact ⟨j + 1, by omega, by go_num, by rw [HR5.out]; exact HLN, by rw [HR5.out]; exact HCI3.out.own, HCI3.out.bel⟩
                  case measure => simp [intOf]; omega
        · have HE : Hid (blkR l0 (bl.take j) = blkR l0 bl) := by show _ = _; rw [List.take_of_length_le (by rw [HBL.out]; omega)]
          rw [HE.out, ← HR.out] at hown hlen2
          go_wp2
          go_roundw
          case rel => exact ⟨k + 1, by omega, by go_num, by show _ ≤ _; have := hlen2.out; omega, hown, hbl⟩
          case measure => simp [intOf]; omega
    · have HE : Hid (cellsR (bls.take k) = cellsR bls) := by show _ = _; rw [List.take_of_length_le (by rw [HN.out]; omega)]
      rw [HE.out] at hown
      go_wp2
      go_ret
      exact ⟨_, rfl, hown, hbl⟩

end Go.Proofs.YtffgpepngcnjeaaGreat
