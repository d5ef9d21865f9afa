/-
  Tags, walked.
-/
import Derived.Test.YtffgpepngcnjeaaTagJ
import Derived.Test.YtffgpepngcnjeaaTagH
import Derived.Test.YtffgpepngcnjeaaTagC
namespace Go.Proofs.Ytffgpepngcnjeaa
open Go.RowKit

def OtherSaid : Prop := ∀ (t : Int) (ai : Option Addr) (n c : Nat) (ap : Option Addr) (m d : Nat) (xs : List InD) (ys : List (Int × Int)) (wh pl b' : Int) (w : World), InsAt w ai xs → xs.length = n → OutsAt w ap ys → ys.length = m → rTx t xs ys = true → (ap = none → d = 0) →
    -9223372036854775808 ≤ wh → wh ≤ 9223372036854775807 → -9223372036854775808 ≤ pl → pl ≤ 9223372036854775807 → -9223372036854775808 ≤ b' → b' ≤ 9223372036854775807 →
    Calls Try.prog 26 #[.agg #[.int .i64 t, .slice ai n c, .slice ap m d], .int .i64 wh, .int .i64 pl, .int .i64 b'] w (OtherPost t xs ys w)

theorem bare_rIn {x : InD} (h : rIn x = true) : rIn ⟨x.id, x.pos, none, 0, 0, []⟩ = true := by
  simp only [rIn, Bool.and_eq_true, decide_eq_true_iff] at h ⊢
  exact ⟨h.1, h.2.1, rfl⟩
theorem full_rIn {x : InD} (h : rIn x = true) (ao : Option Addr) (p : Int) (hp : 0 ≤ p ∧ p < 99991) : rIn ⟨x.id, x.pos, ao, 5, 5, [0, 1, 2, 3, p]⟩ = true := by
  simp only [rIn, Bool.and_eq_true, decide_eq_true_iff] at h ⊢
  refine ⟨h.1, h.2.1, ?_⟩
  have hm := (Mk.isM_iff p).2 hp
  have h0 : Mk.isM 0 = true := by decide
  have h1 : Mk.isM 1 = true := by decide
  have h2 : Mk.isM 2 = true := by decide
  have h3 : Mk.isM 3 = true := by decide
  simp [isS, allM, hm, h0, h1, h2, h3]
theorem row5 (w : World) (a b c d e : Int) : Row (w.alloc (.cells #[.int .i64 a, .int .i64 b, .int .i64 c, .int .i64 d, .int .i64 e] 3)) w.heap.size 0 [a, b, c, d, e] := row_new w a b c d e 3

theorem bare_ok (w : World) (a b : Int) : InOk w ⟨a, b, none, 0, 0, []⟩ := ⟨Or.inl rfl, rfl, Nat.zero_le _, fun _ => rfl⟩
theorem off3_none (a b c : Nat) : Off3 none a b c := ⟨(fun _ hx => nomatch hx), (fun _ hx => nomatch hx), (fun _ hx => nomatch hx)⟩
/-- a seal in a new block: the store into the input's cell stands ahead of the block in the walk's spelling -/
theorem XInv.fresh {w0 w3 : World} {B lo gi XB YB : Nat} {zs : List InD} {us : List (Int × Int)} {apo : Option Addr} {T : Int} {vi vo : Value} {t2 : Int} {vi2 vo2 : Value} {zs' : List InD} {wr : World}
    (h : XInv w0 w3 B lo gi XB YB zs us apo T vi vo t2 vi2 vo2 zs' wr) (hB : B ≤ wr.heap.size) (i : Nat) (hi : i < zs.length) (p : Int) (hp : 0 ≤ p ∧ p < 99991) (g1 : gi < XB) (g2 : XB < YB) (g3 : gi < lo) (g4 : B ≤ gi) :
    XInv w0 w3 B lo gi XB YB zs us apo T vi vo t2 vi2 vo2 (zs'.set i ⟨(zs'.getD i dIn).id, (zs'.getD i dIn).pos, some ⟨wr.heap.size, 0, none⟩, 5, 5, [0, 1, 2, 3, p]⟩)
      ((wr.setCell ⟨gi, i * 3 + 2, none⟩ (.slice (some ⟨wr.heap.size, 0, none⟩) 5 5)).alloc (.cells #[.int .i64 0, .int .i64 1, .int .i64 2, .int .i64 3, .int .i64 p] 3)).drew := by
  have hlt := h.lt
  have hc := cell_lt (h.cells i hi).1.c0
  have hg := h.grow ((Below.refl wr.heap.size wr).alloc (Nat.le_refl _) (.cells #[.int .i64 0, .int .i64 1, .int .i64 2, .int .i64 3, .int .i64 p] 3)) hB
  have hs := hg.seal i hi ⟨(zs'.getD i dIn).id, (zs'.getD i dIn).pos, some ⟨wr.heap.size, 0, none⟩, 5, 5, [0, 1, 2, 3, p]⟩ rfl rfl (full_rIn (h.num i hi).2.2 _ p hp)
    ⟨Or.inr ⟨_, _, rfl, row5 wr 0 1 2 3 p⟩, rfl, by simp only; omega, fun e => by cases e⟩
    ⟨fun a ha e => by injection ha with ha; subst ha; simp only at e; injection e with e; omega, fun a ha e => by injection ha with ha; subst ha; simp only at e; injection e with e; omega, fun a ha e => by injection ha with ha; subst ha; simp only at e; injection e with e; omega⟩ g1 g2 g3 g4
  simp only at hc
  rw [World.setCell_alloc_past _ _ _ _ (by omega)] at hs
  exact hs.grow (Below.refl _ _).drew (by have := hs.bel.size; have := hs.lt; omega)

set_option maxRecDepth 100000 in
set_option maxHeartbeats 4000000 in
theorem tags_walk (HO : OtherSaid) (t : Int) (ai : Option Addr) (n c : Nat) (ap : Option Addr) (m d : Nat) (xs : List InD) (ys : List (Int × Int)) (wh pl b' : Int) (w : World) (bt : I64 t) (hx : InsAt w ai xs) (hn : xs.length = n) (hy : OutsAt w ap ys) (hm : ys.length = m)
    (n1 : n ≤ 3518437208883) (m1 : m ≤ 8796093022208) (hx64 : ∀ j, j < n → In64 (xs.getD j dIn)) (hy64 : ∀ j, j < m → I64 (ys.getD j (0, 0)).1 ∧ I64 (ys.getD j (0, 0)).2)
    (a1 : -9223372036854775808 ≤ wh) (a2 : wh ≤ 9223372036854775807) (p1 : -9223372036854775808 ≤ pl) (p2 : pl ≤ 9223372036854775807) (b1 : -9223372036854775808 ≤ b') (b2 : b' ≤ 9223372036854775807) :
    Calls Try.prog 5 #[.agg #[.int .i64 t, .slice ai n c, .slice ap m d], .int .i64 wh, .int .i64 pl, .int .i64 b'] w fun e w' => e = .returned (.bool true) ∧ Below w.heap.size w w' := by
  have HN : Hid (xs.length = n) := hn
  have HM : Hid (ys.length = m) := hm
  have HX : Hid (InsAt w ai xs) := hx
  have HY : Hid (OutsAt w ap ys) := hy
  have HX64 : Hid _ := hx64
  have HY64 : Hid _ := hy64
  have BT : Hid (I64 t) := bt
  clear hn hm hx hy hx64 hy64 bt
  have bl : ∀ o, Below w.heap.size w (w.alloc o) := fun o => (Below.refl _ _).alloc (Nat.le_refl _) _
  have HB : Hid _ := bl
  clear bl
  go_enter Try.func5, Try.ntmps5
  go_wp2_with fail
  refine (shaped_any _ _ _ _ _ _ _ xs ys _ BT.out (HX.out.grown (HB.out _)) HN.out (HY.out.grown (HB.out _)) HM.out n1 m1 HX64.out HY64.out).mono ?_
  rintro e w1 ⟨T, vi, vo, zs, us, rfl, hfr, hrt, hb1⟩
  obtain ⟨aio, ci, apo, dd, rfl, rfl, hia, hoa, hnil1, hnil2⟩ := hfr.reads
  obtain ⟨gi, hgi, hg0⟩ : ∃ gi, (0 < zs.length → aio = some ⟨gi, 0, none⟩) ∧ (zs.length = 0 → gi = w1.heap.size) := by
    rcases hfr.ins.cells with ⟨_, h2⟩ | ⟨g, c', h1, _⟩
    · exact ⟨w1.heap.size, fun h => by rw [h2] at h; simp at h, fun _ => rfl⟩
    · by_cases h0 : zs.length = 0
      · exact ⟨w1.heap.size, fun h => by omega, fun _ => rfl⟩
      · injection h1 with e1 _ _
        exact ⟨g, fun _ => e1, fun h => by omega⟩
  have hpart := rTx_parts hrt
  have hbA : Below w1.heap.size w1 (w1.alloc (.cells #[.int .i64 T, .slice aio zs.length ci, .slice apo us.length dd] 25)) := (Below.refl _ _).alloc (Nat.le_refl _) _
  have HFR : Hid (Fresh w1 (w.alloc (.cells #[.int .i64 t, .slice ai n c, .slice ap m d] 25)).heap.size (.slice aio zs.length ci) (.slice apo us.length dd) (fun _ x => rIn x = true) zs us) := hfr
  have HRT : Hid (rTx T zs us = true) := hrt
  have HIA : Hid (InsAt w1 aio zs) := hia
  have HOA : Hid (OutsAt w1 apo us) := hoa
  have HBA : Hid (Below w1.heap.size w1 (w1.alloc (.cells #[.int .i64 T, .slice aio zs.length ci, .slice apo us.length dd] 25))) := hbA
  have HGI : Hid _ := hgi
  have HG0 : Hid _ := hg0
  have HPART : Hid _ := hpart
  have HNIL2 : Hid _ := hnil2
  have HB1 : Hid _ := hb1
  clear hfr hrt hia hoa hbA hgi hg0 hpart hnil1 hnil2 hb1
  go_wp2_with fail
  refine (pId_any T aio _ _ apo _ _ zs us _ (HIA.out.grown HBA.out) rfl (HOA.out.grown HBA.out) rfl).mono ?_
  rintro e w2 ⟨rfl, hb2⟩
  rw [id_true HRT.out]
  obtain ⟨x0, x1, x2⟩ := box3 hb2
  have HB2 : Hid _ := hb2
  have h12 := HBA.out.trans (hb2.mono (by rw [World.size_alloc]; omega))
  have HH12 : Hid (Below w1.heap.size w1 w2) := h12
  clear hb2 h12
  go_wp2_with fail
  refine (HO T aio _ _ apo _ _ zs us wh pl b' _ (HIA.out.grown HH12.out) rfl (HOA.out.grown HH12.out) rfl HRT.out HNIL2.out a1 a2 p1 p2 b1 b2).mono ?_
  rintro e w3 ⟨t2, ai2, c2, ap2, d2, xs2, ys2, rfl, htu, hb3⟩
  have hbC : Below w3.heap.size w3 (w3.alloc (.cells #[.int .i64 t2, .slice ai2 zs.length c2, .slice ap2 us.length d2] 25)) := (Below.refl _ _).alloc (Nat.le_refl _) _
  have HTU : Hid (Turned w3 w2.heap.size T zs us t2 ai2 xs2 ap2 ys2) := htu
  have HB3 : Hid (Below w2.heap.size w2 w3) := hb3
  have HBC : Hid (Below w3.heap.size w3 (w3.alloc (.cells #[.int .i64 t2, .slice ai2 zs.length c2, .slice ap2 us.length d2] 25))) := hbC
  clear htu hb3 hbC x0 x1 x2
  go_wp2_with fail
  refine (pId_any t2 ai2 _ _ ap2 _ _ xs2 ys2 _ (HTU.out.reads.insAt.grown HBC.out) HTU.out.nl (HTU.out.reads.outsAt.grown HBC.out) HTU.out.ml).mono ?_
  rintro e w4 ⟨rfl, hb4⟩
  rw [id_true HTU.out.right]
  have hxi := XInv.start HFR.out HPART.out.2.2.2.1.1 HGI.out HG0.out HB1.out (by have := HB1.out.size; exact this) HB2.out HB3.out hb4
  have hgl : 0 < zs.length → gi < w1.heap.size ∧ (w.alloc (.cells #[.int .i64 t, .slice ai n c, .slice ap m d] 25)).heap.size ≤ gi := by
    intro hp
    have := owns_blk HFR.out.ins gi (by rw [HGI.out hp]; rfl)
    exact ⟨this.2, this.1⟩
  have s12 := HB2.out.size
  have s23 := HB3.out.size
  have s1 := HB1.out.size
  rw [World.size_alloc] at s12
  obtain ⟨XB, hXB⟩ : ∃ XB, w1.heap.size = XB := ⟨_, rfl⟩
  obtain ⟨YB, hYB⟩ : ∃ YB, w3.heap.size = YB := ⟨_, rfl⟩
  obtain ⟨lo, hlo⟩ : ∃ lo, w2.heap.size = lo := ⟨_, rfl⟩
  obtain ⟨W0, hW0⟩ : ∃ W0, w.alloc (.cells #[.int .i64 t, .slice ai n c, .slice ap m d] 25) = W0 := ⟨_, rfl⟩
  have hW0b : Below w.heap.size w W0 ∧ w.heap.size ≤ W0.heap.size := by
    rw [← hW0]
    exact ⟨HB.out _, by rw [World.size_alloc]; omega⟩
  obtain ⟨B, hB⟩ : ∃ B, W0.heap.size = B := ⟨_, rfl⟩
  rw [hW0, hB] at hgl s1
  rw [hXB] at hgl s1 s12
  rw [hlo] at s12 s23
  rw [hYB] at s23
  rw [hW0, hB, hlo, hXB, hYB] at hxi
  rw [hB] at hW0b
  rw [hXB, hYB]
  have HXI : Hid (XInv W0 w3 B lo gi XB YB zs us apo T (.slice aio zs.length ci) (.slice apo us.length dd) t2 (.slice ai2 zs.length c2) (.slice ap2 us.length d2) zs w4) := hxi
  have hrd : ∀ w', Mid lo YB w3 w' → InsAt w' ai2 xs2 := by
    intro w' hw'
    have h := HTU.out.reads
    rw [hlo] at h
    exact (h.mid (by rw [hYB]; exact hw')).1
  have hnl2 := HTU.out.nl
  have hne : (Mk.mixL 1 (idL T zs us) == Mk.mixL 1 (idL t2 xs2 ys2)) = false := beq_false_of_ne (fun e => HTU.out.ne e.symm)
  obtain ⟨hM1, hM2⟩ := Mk.mixL_bd 1 (idL T zs us) (by decide) (by decide)
  obtain ⟨hN1, hN2⟩ := Mk.mixL_bd 1 (idL t2 xs2 ys2) (by decide) (by decide)
  have HRD : Hid _ := hrd
  have HNL2 : Hid (xs2.length = zs.length) := hnl2
  have HWB : Hid _ := hW0b
  have hid : ∀ (zs' : List InD) (wr : World), XInv W0 w3 B lo gi XB YB zs us apo T (.slice aio zs.length ci) (.slice apo us.length dd) t2 (.slice ai2 zs.length c2) (.slice ap2 us.length d2) zs' wr → idZ T zs' us = Mk.mixL 1 (idL T zs us) := fun zs' wr h => h.id HRT.out
  have HID : Hid _ := hid
  clear hid
  have hz10 := HPART.out.2.1
  clear hxi hrd hnl2 hW0b HTU HB3 HBC hb4 HB2 HH12 HBA HB1 HFR HIA HOA hW0
  generalize Mk.mixL 1 (idL T zs us) = M at *
  generalize Mk.mixL 1 (idL t2 xs2 ys2) = M2 at *
  go_wp2_with fail
  go_loopw [13] (fun i wr => ∃ (k : Nat) (zs' : List InD), k ≤ zs.length ∧ i = .int .i64 k ∧ XInv W0 w3 B lo gi XB YB zs us apo T (.slice aio zs.length ci) (.slice apo us.length dd) t2 (.slice ai2 zs.length c2) (.slice ap2 us.length d2) zs' wr) (fun i _ => zs.length - (intOf i).toNat)
  case atStart => exact ⟨0, zs, Nat.zero_le _, rfl, HXI.out⟩
  case round =>
    obtain ⟨k, zs', hk, rfl, hxi⟩ := hrel
    have x1 := hxi.tx.c1
    have HX1 : Hid (XInv W0 w3 B lo gi XB YB zs us apo T (.slice aio zs.length ci) (.slice apo us.length dd) t2 (.slice ai2 zs.length c2) (.slice ap2 us.length d2) zs' wr) := hxi
    by_cases hlt : k < zs.length
    · have hai := HGI.out (by omega)
      obtain ⟨g1, g2⟩ := hgl (by omega)
      have fz := hxi.fro (by omega) (k * 3 + 2)
      have cz := (hxi.cells k hlt).1.c2
      subst hai
      clear hxi
      have e1 : (k : Int) < (zs.length : Int) := by omega
      have e2 : (0 : Int) ≤ (k : Int) := by omega
      have hstep := HX1.out.seal k hlt ⟨(zs'.getD k dIn).id, (zs'.getD k dIn).pos, none, 0, 0, []⟩ rfl rfl (bare_rIn (HX1.out.num k hlt).2.2) (bare_ok _ _ _) (off3_none _ _ _) g1 (by omega) (by omega) g2
      have HST : Hid _ := hstep
      clear hstep
      go_wp2
      go_roundw
      case rel => exact ⟨k + 1, _, by omega, by go_num, HST.out⟩
      case measure => simp [intOf]; omega
    · have hk2 : k = zs.length := by omega
      subst hk2
      have x0 := hxi.tx.c0
      have x2 := hxi.tx.c2
      have hBs : B ≤ wr.heap.size := by have := hxi.lt; omega
      clear hxi
      go_wp2_with fail
      refine (pId_any T aio _ _ apo _ _ zs' us _ (HX1.out.insAt HGI.out) HX1.out.len HX1.out.outs.1 rfl).mono ?_
      rintro e w5 ⟨rfl, hb5⟩
      rw [HID.out _ _ HX1.out]
      have hx5 := HX1.out.grow hb5 hBs
      clear HX1 x0 x1 x2 hb5 hBs
      have HX5 : Hid (XInv W0 w3 B lo gi XB YB zs us apo T (.slice aio zs.length ci) (.slice apo us.length dd) t2 (.slice ai2 zs.length c2) (.slice ap2 us.length d2) zs' w5) := hx5
      clear hx5
      go_wp2_with fail
      obtain ⟨wo, rfl⟩ : ∃ wo, wo = wr := ⟨_, rfl⟩
      obtain ⟨zso, rfl⟩ : ∃ zso, zso = zs' := ⟨_, rfl⟩
      go_loopw [15] (fun i wr => ∃ (k : Nat) (zs' : List InD), k ≤ zs.length ∧ i = .int .i64 k ∧ XInv W0 w3 B lo gi XB YB zs us apo T (.slice aio zs.length ci) (.slice apo us.length dd) t2 (.slice ai2 zs.length c2) (.slice ap2 us.length d2) zs' wr) (fun i _ => zs.length - (intOf i).toNat)
      case atStart => exact ⟨0, _, Nat.zero_le _, rfl, HX5.out⟩
      case round =>
        obtain ⟨k, zs', hk, rfl, hxi⟩ := hrel
        have x1 := hxi.tx.c1
        have hBs : B ≤ wr.heap.size := by have := hxi.lt; omega
        have HX1 : Hid (XInv W0 w3 B lo gi XB YB zs us apo T (.slice aio zs.length ci) (.slice apo us.length dd) t2 (.slice ai2 zs.length c2) (.slice ap2 us.length d2) zs' wr) := hxi
        by_cases hlt : k < zs.length
        · have hai := HGI.out (by omega)
          obtain ⟨g1, g2⟩ := hgl (by omega)
          have fz := hxi.fro (by omega) (k * 3 + 2)
          have cz := (hxi.cells k hlt).1.c2
          subst hai
          clear hxi
          have e1 : (k : Int) < (zs.length : Int) := by omega
          have e2 : (0 : Int) ≤ (k : Int) := by omega
          have ne1 := World.new_ne wr ⟨XB, 1, none⟩ x1
          have ne2 := World.new_ne wr ⟨gi, k * 3 + 2, none⟩ cz
          have nb1 : gi ≠ XB := by omega
          have nb2 : gi < wr.heap.size := cell_lt cz
          have nb3 : XB < wr.heap.size := cell_lt x1
          have hstep := HX1.out.fresh hBs k hlt (Mk.pk b' 99991) (Mk.pk_bd b' 99991 (by decide)) g1 (by omega) (by omega) g2
          have HST : Hid _ := hstep
          clear hstep
          go_wp2
          go_region_held3 (fun w' => w'.cell? ⟨XB, 1, none⟩ = some (.slice (some ⟨gi, 0, none⟩) zs.length ci)) (go_keep) ((go_at_call 27; refine (pick_any _ _ _ (by omega) (by omega) b1 b2).mono ?_; rintro e w' ⟨rfl, rfl⟩))
          all_goals
            go_wp2
            go_roundw
            case rel => exact ⟨k + 1, _, by omega, by go_num, HST.out⟩
            case measure => simp [intOf]; omega
        · have hk2 : k = zs.length := by omega
          subst hk2
          have x0 := hxi.tx.c0
          have x2 := hxi.tx.c2
          clear hxi
          go_wp2_with fail
          refine (pId_any T aio _ _ apo _ _ zs' us _ (HX1.out.insAt HGI.out) HX1.out.len HX1.out.outs.1 rfl).mono ?_
          rintro e w6 ⟨rfl, hb6⟩
          rw [HID.out _ _ HX1.out]
          have hx6 := HX1.out.grow hb6 hBs
          clear HX1 x0 x1 x2 hb6 hBs
          obtain ⟨x0, x1, x2, f0, f1, f2⟩ := hx6.tx
          have hl6 := HGI.out
          have hls := hx6.lists hl6 XB 0 (Or.inl rfl) (fun h => (hgl h).1) (by omega) (.int .i64 (-1))
          have hlen := hx6.len
          have hty := hx6.ty.gb (gb_set w6 XB 0 (.int .i64 (-1))) (fun e => by injection e with e; omega)
          have hmid : Mid lo YB w3 (w6.setCell ⟨XB, 0, none⟩ (.int .i64 (-1))) := fun q h1 h2 => by
            rw [Below.heap_setCell w6 ⟨XB, 0, none⟩ _ q (by simp only; omega)]
            exact hx6.mid q h1 h2
          have hbel : Below B W0 (w6.setCell ⟨XB, 0, none⟩ (.int .i64 (-1))) := hx6.bel.setCell s1 _
          have hlt6 : YB < (w6.setCell ⟨XB, 0, none⟩ (.int .i64 (-1))).heap.size := by rw [World.size_setCell]; exact hx6.lt
          have HLS : Hid _ := hls
          have HLEN : Hid (zs'.length = zs.length) := hlen
          have HTY : Hid (Tx3 (w6.setCell ⟨XB, 0, none⟩ (.int .i64 (-1))) YB (.int .i64 t2) (.slice ai2 zs.length c2) (.slice ap2 us.length d2)) := hty
          have HMID : Hid (Mid lo YB w3 (w6.setCell ⟨XB, 0, none⟩ (.int .i64 (-1)))) := hmid
          have HBEL : Hid (Below B W0 (w6.setCell ⟨XB, 0, none⟩ (.int .i64 (-1)))) := hbel
          have HLT6 : Hid _ := hlt6
          clear hls hlen hty hmid hbel hlt6 hx6 hl6
          go_wp2_with fail
          generalize w6.setCell ⟨XB, 0, none⟩ (.int .i64 (-1)) = w7 at *
          refine (pId_any (-1) aio _ _ apo _ _ zs' us _ HLS.out.1 HLEN.out HLS.out.2 rfl).mono ?_
          rintro e w8 ⟨rfl, hb8⟩
          rw [id_tagless]
          have hty8 := HTY.out.grown hb8
          obtain ⟨y0, y1, y2, k0, k1, k2⟩ := hty8
          have s8 := hb8.size
          have hl6 := HLT6.out
          have hmid : Mid lo YB w3 (w8.setCell ⟨YB, 2, none⟩ (.slice none 0 0)) := fun q h1 h2 => by
            rw [Below.heap_setCell w8 ⟨YB, 2, none⟩ _ q (by simp only; omega), hb8.block q (by omega)]
            exact HMID.out q h1 h2
          have hins := HRD.out _ hmid
          have hbel : Below B W0 (w8.setCell ⟨YB, 2, none⟩ (.slice none 0 0)) := (HBEL.out.trans (hb8.mono (by omega))).setCell (show B ≤ YB by omega) _
          have HINS : Hid (InsAt (w8.setCell ⟨YB, 2, none⟩ (.slice none 0 0)) ai2 xs2) := hins
          have HBEL2 : Hid (Below B W0 (w8.setCell ⟨YB, 2, none⟩ (.slice none 0 0))) := hbel
          have hl9 : YB < (w8.setCell ⟨YB, 2, none⟩ (.slice none 0 0)).heap.size := by rw [World.size_setCell]; omega
          have HL9 : Hid _ := hl9
          clear hins hmid hbel HLS HTY HMID HBEL HLT6 hb8 hl9
          go_wp2_with fail
          generalize w8.setCell ⟨YB, 2, none⟩ (.slice none 0 0) = w9 at *
          refine (pId_any t2 ai2 _ _ none _ _ xs2 [] _ HINS.out HNL2.out (Or.inl rfl) rfl).mono ?_
          rintro e w10 ⟨rfl, hb10⟩
          rw [id_outless]
          have hl9 := HL9.out
          have hfin : Below w.heap.size w w10 := HWB.out.1.trans ((HBEL2.out.trans (hb10.mono (by omega))).mono HWB.out.2)
          have HF : Hid (Below w.heap.size w w10) := hfin
          clear hb10 hfin HBEL2
          go_wp2
          go_ret
          exact ⟨rfl, HF.out⟩

end Go.Proofs.Ytffgpepngcnjeaa
