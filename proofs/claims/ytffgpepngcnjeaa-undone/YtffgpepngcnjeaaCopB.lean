/-
  copyBlock: a block in lists of its own.
-/
import Derived.Test.YtffgpepngcnjeaaConZ
namespace Go.Proofs.Ytffgpepngcnjeaa
open Go.RowKit

/-- no list is too great for a copy -/
structure TxSm (x : TxD) : Prop where
  n : x.n ≤ 3518437208883
  m : x.m ≤ 8796093022208
  d : x.ap = none → x.d = 0

theorem tx_one (x : TxD) : ∀ u ∈ x.v, u.oneCell' = true := by
  intro u hu
  simp [TxD.v] at hu
  rcases hu with rfl | rfl | rfl <;> rfl
theorem info25 : (Try.prog.info? 25).map (fun i => (i.zero, i.size, i.bytes)) = some (some (.agg #[.int .i64 0, .slice none 0 0, .slice none 0 0]), 3, 56) := by kernel_rfl
abbrev OwnTxs (w : World) (base : Nat) (v : Value) (xs : List TxD) : Prop := OwnRec TxD.v 25 3 w base v xs

/-- blocks from B on that are there, but for one row -/
def NB (B : Nat) (w : World) (v : Value) (q : Nat) : Prop := B ≤ q ∧ q < w.heap.size ∧ v.ownBlock ≠ some q

theorem TxOk.weak {N M : Nat → Prop} {w : World} {x : TxD} (h : TxOk N w x) (hm : ∀ k, N k → M k) : TxOk M w x :=
  ⟨h.ins, h.il, h.outs, h.ol, fun e a ha => hm _ (h.na e a ha), fun e a ha => hm _ (h.np e a ha), fun i hi e a ha => hm _ (h.ns i hi e a ha)⟩

theorem fresh_tx {w : World} {B n c m d : Nat} {ai ap : Option Addr} {Q : Nat → InD → Prop} {xs : List InD} {ys : List (Int × Int)} (hf : Fresh w B (.slice ai n c) (.slice ap m d) Q xs ys) (t : Int) : n = xs.length → m = ys.length → TxOk (fun q => B ≤ q ∧ q < w.heap.size) w ⟨t, ai, n, c, ap, m, d, xs, ys⟩ := by
  intro hn hm
  have hr := hf.reads'
  refine ⟨hr.insAt, hn.symm, hr.outsAt, hm.symm, fun _ a ha => ?_, fun _ a ha => ?_, fun i hi _ a ha => ?_⟩
  · exact owns_blk hf.ins a.block (by show (Value.slice ai n c).ownBlock = _; simp only at ha; rw [ha]; rfl)
  · exact owns_blk hf.outs a.block (by show (Value.slice ap m d).ownBlock = _; simp only at ha; rw [ha]; rfl)
  · obtain ⟨j, hj, e⟩ := mem_getD dIn hi
    have := (hf.ok j hj).2.2 a (by rw [← e]; exact ha)
    exact ⟨this.1, this.2.1⟩
theorem fresh_slices {w : World} {B : Nat} {vi vo : Value} {Q : Nat → InD → Prop} {xs : List InD} {ys : List (Int × Int)} (hf : Fresh w B vi vo Q xs ys) : ∃ ai c ap d, vi = .slice ai xs.length c ∧ vo = .slice ap ys.length d := by
  rcases hf.ins.cells with ⟨h1, h2⟩ | ⟨g, c, h1, _⟩
  · rcases hf.outs.cells with ⟨k1, k2⟩ | ⟨g', c', k1, _⟩
    · exact ⟨none, 0, none, 0, by rw [h1, h2]; rfl, by rw [k1, k2]; rfl⟩
    · exact ⟨none, 0, _, c', by rw [h1, h2]; rfl, k1⟩
  · rcases hf.outs.cells with ⟨k1, k2⟩ | ⟨g', c', k1, _⟩
    · exact ⟨_, c, none, 0, h1, by rw [k1, k2]; rfl⟩
    · exact ⟨_, c, _, c', h1, k1⟩

set_option maxRecDepth 100000 in
set_option maxHeartbeats 4000000 in
theorem copyBlock_any (N : Nat → Prop) (ao : Option Addr) (n c : Nat) (bl : List TxD) (w : World) (hb : BlkAt N w ao bl) (hn : bl.length = n) (hsm : ∀ x ∈ bl, TxSm x) (hn2 : n ≤ 2513169434916) (hN : ∀ k, N k → k < w.heap.size) :
    Calls Try.prog 40 #[.slice ao n c] w fun e w' => ∃ ao' c' bl', e = .returned (.slice ao' n c') ∧ bl'.length = n ∧ bl'.map TxD.k = bl.map TxD.k ∧ BlkAt (fun q => w.heap.size ≤ q ∧ q < w'.heap.size) w' ao' bl' ∧ Below w.heap.size w w' := by
  have HB : Hid (BlkAt N w ao bl) := hb
  have HN : Hid (bl.length = n) := hn
  have HSM : Hid (∀ x ∈ bl, TxSm x) := hsm
  have HNK : Hid (∀ k, N k → k < w.heap.size) := hN
  clear hb hn hsm hN
  generalize hBe : w.heap.size = B
  have HBe : Hid (w.heap.size = B) := hBe
  clear hBe
  go_enter Try.func40, Try.ntmps40
  go_wp2
  go_loopw [3, 4] (fun v i wr => ∃ (k : Nat) (bk : List TxD), k ≤ n ∧ i = .int .i64 k ∧ Hid (bk.length = k) ∧ Hid (bk.map TxD.k = (bl.take k).map TxD.k) ∧ OwnTxs wr B v bk ∧ Hid (∀ x ∈ bk, TxOk (NB B wr v) wr x) ∧ Below B w wr) (fun _ i _ => n - (intOf i).toNat)
  case atStart => exact ⟨0, [], Nat.zero_le _, rfl, rfl, rfl, OwnRec.nil _ _ _ _ _, (fun x hx => by simp at hx), Below.refl _ _⟩
  case round =>
    obtain ⟨k, bk, hk, rfl, hbk, hsame, hown, hoks, hbl⟩ := hrel
    have hsz := hbl.size
    rw [HBe.out] at hsz
    by_cases hlt : k < n
    · have hblk := HB.out.fr (Fr.of_below (by rw [HBe.out]; exact hbl) (fun _ => False)) (fun _ _ h => h)
      rcases hblk.row with hnil | ⟨g, off, rfl, hrow⟩
      · have := HN.out; rw [hnil] at this; simp at this; omega
      obtain ⟨t0, t1, t2⟩ := txCells hrow k (by rw [HN.out]; exact hlt)
      have hmem := getD_mem bl dT k (by rw [HN.out]; exact hlt)
      have hok := hblk.ok _ hmem
      have hsm := HSM.out _ hmem
      have HTK : Hid ((bl.take (k + 1)).map TxD.k = (bl.take k).map TxD.k ++ [(bl.getD k dT).k]) := by
        show _ = _
        have h' : k < bl.length := by rw [HN.out]; exact hlt
        rw [List.take_succ_eq_append_getElem h', List.map_append]
        simp only [List.getD, List.getElem?_eq_getElem h', Option.getD_some, List.map_cons, List.map_nil]
      clear hrow hblk hmem
      generalize bl.getD k dT = y at t0 t1 t2 hok hsm HTK
      obtain ⟨yt, yai, yn, yc, yap, ym, yd, yins, yys⟩ := y
      simp only at t0 t1 t2
      have HOK : Hid _ := hok
      have HSy : Hid _ := hsm
      clear hok hsm
      go_wp2_with fail
      refine (copyTx_any yt yai yn yc yap ym yd yins yys _ HOK.out.ins HOK.out.il HOK.out.outs HOK.out.ol HSy.out.n HSy.out.m HSy.out.d).mono ?_
      rintro e w1 ⟨vi, vo, xs', rfl, hfr, hxl, hb1⟩
      obtain ⟨ai', ci, ap', di, rfl, rfl⟩ := fresh_slices hfr
      have htx := fresh_tx hfr yt rfl rfl
      have hK : TxD.k ⟨yt, ai', xs'.length, ci, ap', yys.length, di, xs', yys⟩ = TxD.k ⟨yt, yai, yn, yc, yap, ym, yd, yins, yys⟩ := by
        simp only [TxD.k]
        rw [same_st (by rw [hxl]; exact HOK.out.il.symm) (fun j hj => ((hfr.ok j (by rw [hxl]; have := HOK.out.il; simp only at this; omega)).2.1))]
      have HK : Hid _ := hK
      have HTX : Hid (TxOk (fun q => wr.heap.size ≤ q ∧ q < w1.heap.size) w1 ⟨yt, ai', xs'.length, ci, ap', yys.length, di, xs', yys⟩) := htx
      have hown1 := OwnRec.grown hown hb1
      have hbl1 := hbl.trans (hb1.mono hsz)
      have hsz1 := Nat.le_trans hsz hb1.size
      have hvb := hown.blk
      clear hxl
      generalize xs'.length = n' at *
      generalize yys.length = m' at *
      have HVB : Hid _ := hvb
      have HO1 : Hid (∀ x ∈ bk, TxOk (NB B wr u3) w1 x) := fun x hx => (hoks.out x hx).fr (Fr.of_below hb1 (fun _ => False)) (fun _ _ h => h)
      have hown2 := hown1.alloc (.cells #[.int .i64 yt, .slice ai' n' ci, .slice ap' m' di] 25)
      have hbl2 := hbl1.alloc hsz1 (.cells #[.int .i64 yt, .slice ai' n' ci, .slice ap' m' di] 25)
      have hz1 := hb1.size
      clear hown hbl hb1 hown1 hoks t0 t1 t2 hvb htx hK hfr
      go_wp2_with (at_builtin; (refine wpList_appR 75 56 _ Try.underlying75 info25 rfl (by decide) tx3 tx_one ((w1.alloc (.cells #[.int .i64 yt, .slice ai' n' ci, .slice ap' m' di] 25)).alloc (.cells #[.int .i64 yt, .slice ai' n' ci, .slice ap' m' di] 25)) rfl _ _ rfl B (w1.alloc (.cells #[.int .i64 yt, .slice ai' n' ci, .slice ap' m' di] 25)).heap.size 1 _ bk ⟨yt, ai', n', ci, ap', m', di, xs', yys⟩ (by rfl) (by simp [World.size_alloc]; rfl) (hown2.alloc _) (vrow_new _ _ _) (by simp; omega) (by rw [hbk.out]; unfold maxLen; omega) (by rw [hbk.out]; omega) ?_; intro g' cap w3 hown3 hg3 hl3 hlt3))
      have hfr3 : Fr (fun q => u3.ownBlock = some q) w1 w3 := (((Fr.refl _ w1).alloc (.cells #[.int .i64 yt, .slice ai' n' ci, .slice ap' m' di] 25)).alloc (.cells #[.int .i64 yt, .slice ai' n' ci, .slice ap' m' di] 25)).trans (Fr.of_gb hg3 (fun q hq _ => hq))
      have hl3' : u3.ownBlock = some g' ∨ w1.heap.size ≤ g' := hl3.imp id (fun h => by rw [World.size_alloc, World.size_alloc] at h; omega)
      have hz3 := hfr3.size
      have HN3 : Hid (∀ x ∈ bk ++ [⟨yt, ai', n', ci, ap', m', di, xs', yys⟩], TxOk (NB B w3 (.slice (some ⟨g', 0, none⟩) (bk.length + 1) cap)) w3 x) := by
        intro x hx
        rcases List.mem_append.1 hx with hx | hx
        · refine ((HO1.out x hx).fr hfr3 (fun q hq e => hq.2.2 e)).weak (fun q hq => ⟨hq.1, by have := hq.2.1; omega, fun e => ?_⟩)
          simp [Value.ownBlock] at e
          rcases hl3' with h | h
          · exact hq.2.2 (by rw [h, e])
          · have := hq.2.1; omega
        · rw [List.mem_singleton] at hx
          subst hx
          refine (HTX.out.fr hfr3 (fun q hq e => by have := (HVB.out q e).2; omega)).weak (fun q hq => ⟨by omega, by omega, fun e => ?_⟩)
          simp [Value.ownBlock] at e
          rcases hl3' with h | h
          · have := (HVB.out g' h).2; omega
          · omega
      go_roundw
      case rel => exact ⟨k + 1, bk ++ [⟨yt, ai', n', ci, ap', m', di, xs', yys⟩], by omega, by go_num, by show _ = _; rw [List.length_append, hbk.out]; rfl, by show _ = _; rw [HTK.out, List.map_append, hsame.out, List.map_cons, List.map_nil, HK.out], hown3, HN3, hbl2.trans (gb_to_below (gb_trans (gb_alloc _ _ _) hg3) (by simp; omega) (fun q hq => (hown2.blk q hq).1))⟩
      case measure => simp [intOf]; omega
    · have hkn : k = n := by omega
      subst hkn
      have hs2 := hsame.out
      rw [List.take_of_length_le (by rw [HN.out]; omega)] at hs2
      have HS2 : Hid (bk.map TxD.k = bl.map TxD.k) := hs2
      clear hs2
      obtain ⟨ak, ck, hvk, hat⟩ := OwnRec.at tx3 hown
      subst hvk
      have hbb := hown.blk
      rw [hbk.out]
      go_wp2
      go_ret
      refine ⟨ak, ck, bk, rfl, hbk.out, HS2.out, ⟨hat, fun _ a ha => ?_, fun x hx => (hoks.out x hx).weak (fun q hq => ⟨hq.1, hq.2.1⟩)⟩, hbl⟩
      exact hbb a.block (by rw [ha]; rfl)

end Go.Proofs.Ytffgpepngcnjeaa
