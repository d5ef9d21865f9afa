/-
  The drawer: coins that came out, written over by their owner.
  The drawer: keepCoins walked.
-/
import Derived.Test.YtffgpepngcnjeaaGreatHdZ
import Derived.Test.YtffgpepngcnjeaaGreatRfZ
import Derived.Test.YtffgpepngcnjeaaGreatWatZ
import Derived.Deep.RegionLaw
namespace Go.Proofs.YtffgpepngcnjeaaGreat
open Go.RowKit

def iV (x : Int) : List Value := [.int .i64 x]
theorem iv1 (x : Int) : (iV x).length = 1 := rfl
theorem iv_one (x : Int) : ∀ u ∈ iV x, u.oneCell' = true := by
  intro u hu
  simp [iV] at hu
  subst hu
  rfl
theorem cbv_one (x : CbD) : ∀ u ∈ x.v, u.oneCell' = true := by
  intro u hu
  simp [CbD.v] at hu
  subst hu
  rfl
theorem info62 : (Tryz.prog.info? 62).map (fun i => (i.zero, i.size, i.bytes)) = some (some (.slice none 0 0), 1, 24) := by kernel_rfl

/-- a row with its spare room -/
theorem own_room {α : Type} {f : α → List Value} {e k : Nat} {w : World} {base g n c : Nat} {xs : List α} (h : OwnRec f e k w base (.slice (some ⟨g, 0, none⟩) n c) xs) : Room w g (c * k) ∧ n ≤ c := by
  obtain ⟨_, h | ⟨g', cap, cur, e1, _, hg, hn, _, hs, _⟩⟩ := h
  · obtain ⟨h, _⟩ := h
    cases h
  · injection e1 with e1 e2 e3
    injection e1 with e1
    injection e1 with e1
    subst e1
    subst e3
    refine ⟨⟨fun j hj => ?_, fun j hj => by simp [World.frozen?, hg]⟩, by omega⟩
    have hj' : j < cur.size := by omega
    exact ⟨cur[j], by simp [World.cell?, hg, hj']⟩

/-- the drawer's fields that a list of coins goes into -/
structure DrI (w : World) (Dr B : Nat) (vc vn : Value) (q : Nat) : Prop where
  n0 : ∃ k, w.cell? ⟨Dr, 0, none⟩ = some (.int .i64 k)
  f0 : w.frozen? ⟨Dr, 0, none⟩ = false
  c5 : w.cell? ⟨Dr, 5, none⟩ = some vc
  f5 : w.frozen? ⟨Dr, 5, none⟩ = false
  c10 : w.cell? ⟨Dr, 10, none⟩ = some vn
  f10 : w.frozen? ⟨Dr, 10, none⟩ = false
  oc : ∃ cs : List CbD, OwnRec CbD.v 62 1 w B vc cs ∧ cs.length ≤ q
  on : ∃ ns : List Int, OwnRec iV 3 1 w B vn ns ∧ ns.length ≤ q
  ne : ∀ k, vc.ownBlock = some k → vn.ownBlock ≠ some k
  lt : Dr < B

/-- the blocks of the drawer -/
def drE (Dr : Nat) (vc vn : Value) (k : Nat) : Prop := k = Dr ∨ vc.ownBlock = some k ∨ vn.ownBlock = some k
theorem DrI.fr {F : Nat → Prop} {w w' : World} (hf : Fr F w w') {Dr B : Nat} {vc vn : Value} {q : Nat} (h : DrI w Dr B vc vn q) (he : ∀ k, drE Dr vc vn k → ¬ F k) : DrI w' Dr B vc vn q := by
  have hD := he Dr (Or.inl rfl)
  obtain ⟨k, n0⟩ := h.n0
  obtain ⟨cs, oc, lc⟩ := h.oc
  obtain ⟨ns, on, ln⟩ := h.on
  have hl : Dr < w.heap.size := cell_lt n0
  exact ⟨⟨k, hf.cell n0 hD⟩, (hf.frozen hl hD).trans h.f0, hf.cell h.c5 hD, (hf.frozen hl hD).trans h.f5, hf.cell h.c10 hD, (hf.frozen hl hD).trans h.f10, ⟨cs, hf.own oc (fun k hk => he k (Or.inr (Or.inl hk))), lc⟩, ⟨ns, hf.own on (fun k hk => he k (Or.inr (Or.inr hk))), ln⟩, h.ne, h.lt⟩
theorem DrI.grown {w w' : World} {Dr B : Nat} {vc vn : Value} {q : Nat} (h : DrI w Dr B vc vn q) (hb : Below w.heap.size w w') : DrI w' Dr B vc vn q := h.fr (Fr.of_below hb (fun _ => False)) (fun _ _ h => h)
theorem DrI.blk {w : World} {Dr B : Nat} {vc vn : Value} {q : Nat} (h : DrI w Dr B vc vn q) : ∀ k, drE Dr vc vn k → k < w.heap.size := by
  intro k hk
  obtain ⟨cs, oc, _⟩ := h.oc
  obtain ⟨ns, on, _⟩ := h.on
  obtain ⟨z, n0⟩ := h.n0
  rcases hk with rfl | hk | hk
  · exact cell_lt n0
  · exact (oc.blk k hk).2
  · exact (on.blk k hk).2

end Go.Proofs.YtffgpepngcnjeaaGreat
namespace Go.Proofs.YtffgpepngcnjeaaGreat
open Go.RowKit

theorem own_cap {α : Type} {f : α → List Value} {e k : Nat} {w : World} {base g n c : Nat} {xs : List α} (h : OwnRec f e k w base (.slice (some ⟨g, 0, none⟩) n c) xs) : c ≤ 9223372036854775807 := by
  obtain ⟨_, h | ⟨g', cap, cur, e1, _, hg, hn, hm, hs, _⟩⟩ := h
  · obtain ⟨h, _⟩ := h
    cases h
  · injection e1 with e1 e2 e3
    subst e3
    unfold maxLen at hm
    omega

theorem Wrote.drew {E : Nat → Prop} {w w' : World} (h : Wrote E w w') : Wrote E w w'.drew := ⟨h.fr.drew, fun b n hr => (h.room b n hr).drew⟩

theorem dr_six {wr w5 : World} {Dr B q : Nat} {vc vn V5 : Value} {z1 : Int} {ob5 : Obj} {g5 n5 cap5 : Nat} {cs5 : List CbD} (hD : DrI wr Dr B vc vn q) (hz : wr.cell? ⟨Dr, 0, none⟩ = some (.int .i64 z1)) (hV5 : V5 = .slice (some ⟨g5, 0, none⟩) n5 cap5) (h5 : OwnRec CbD.v 62 1 w5 B V5 cs5) (hg5 : (wr.alloc ob5).grownBy w5 vc.ownBlock) (hl5 : vc.ownBlock = some g5 ∨ (wr.alloc ob5).heap.size ≤ g5) :
    w5.cell? ⟨Dr, 5, none⟩ = some vc ∧ w5.frozen? ⟨Dr, 5, none⟩ = false ∧
    (w5.setCell ⟨Dr, 5, none⟩ V5).cell? ⟨Dr, 0, none⟩ = some (.int .i64 z1) ∧ (w5.setCell ⟨Dr, 5, none⟩ V5).frozen? ⟨Dr, 0, none⟩ = false ∧ (w5.setCell ⟨Dr, 5, none⟩ V5).cell? ⟨Dr, 5, none⟩ = some V5 ∧ (w5.setCell ⟨Dr, 5, none⟩ V5).cell? ⟨Dr, 10, none⟩ = some vn ∧ (w5.setCell ⟨Dr, 5, none⟩ V5).frozen? ⟨Dr, 10, none⟩ = false ∧ (w5.setCell ⟨Dr, 5, none⟩ V5).frozen? ⟨Dr, 5, none⟩ = false ∧
    OwnRec CbD.v 62 1 (w5.setCell ⟨Dr, 5, none⟩ V5) B V5 cs5 ∧ (∃ ns, OwnRec iV 3 1 (w5.setCell ⟨Dr, 5, none⟩ V5) B vn ns ∧ ns.length ≤ q) ∧ Fr (drE Dr vc vn) wr (w5.setCell ⟨Dr, 5, none⟩ V5) ∧ vn.ownBlock ≠ some g5 ∧ g5 < w5.heap.size ∧ (drE Dr vc vn g5 ∨ wr.heap.size ≤ g5) := by
  subst hV5
  have hbl : Below wr.heap.size wr (wr.alloc ob5) := (Below.refl _ _).alloc (Nat.le_refl _) _
  have h1 := hD.grown hbl
  obtain ⟨cs, oc, _⟩ := hD.oc
  obtain ⟨ns, on, ln⟩ := h1.on
  have hlt := hD.lt
  have hDc : some Dr ≠ vc.ownBlock := fun e => by have := (oc.blk _ e.symm).1; omega
  have hDn : ∀ k, vn.ownBlock = some k → B ≤ k ∧ k < (wr.alloc ob5).heap.size := fun k hk => on.blk k hk
  have hDl : Dr < (wr.alloc ob5).heap.size := cell_lt h1.c5
  have hz1 := (hbl.cell (p := ⟨Dr, 0, none⟩) (cell_lt hz)).trans hz
  have hgB : B ≤ g5 := (h5.blk g5 rfl).1
  have hnc : ∀ k, vn.ownBlock = some k → some k ≠ vc.ownBlock := fun k hk e => hD.ne k e.symm hk
  have f1 := (gb_frozen hg5 (b := Dr) (o := 5) hDl hDc).trans h1.f5
  have c5 := gb_cell hg5 h1.c5 hDc
  refine ⟨c5, f1, (World.cell?_setCell_other _ _ _ _ (by simp)).trans (gb_cell hg5 hz1 hDc), by rw [World.frozen?_setCell]; exact (gb_frozen hg5 (b := Dr) (o := 0) hDl hDc).trans h1.f0, World.cell?_setCell_same _ _ _ c5, (World.cell?_setCell_other _ _ _ _ (by simp)).trans (gb_cell hg5 h1.c10 hDc), by rw [World.frozen?_setCell]; exact (gb_frozen hg5 (b := Dr) (o := 10) hDl hDc).trans h1.f10, by rw [World.frozen?_setCell]; exact f1, ?_, ⟨ns, ?_, ln⟩, ?_, fun e => ?_, (h5.blk g5 rfl).2, ?_⟩
  · exact h5.gb (gb_set w5 Dr 5 _) (fun k hk e => by simp [Value.ownBlock] at hk; injection e with e; omega)
  · exact (on.gb hg5 (fun k hk => hnc k hk)).gb (gb_set w5 Dr 5 _) (fun k hk e => by injection e with e; have := (hDn k hk).1; omega)
  · exact (((Fr.refl (drE Dr vc vn) wr).alloc ob5).trans (Fr.of_gb hg5 (fun k hk _ => Or.inr (Or.inl hk)))).set Dr 5 _ (fun _ => Or.inl rfl)
  · rcases hl5 with hl5 | hl5
    · exact hD.ne g5 hl5 e
    · have := (hDn g5 e).2; omega
  · rcases hl5 with hl5 | hl5
    · exact Or.inl (Or.inr (Or.inl hl5))
    · rw [World.size_alloc] at hl5; exact Or.inr (by omega)

theorem dr_fin {wr w6 w7 : World} {Dr B q : Nat} {vc vn V5 V7 : Value} {z1 : Int} {ob7 : Obj} {g5 n5 cap5 g7 n7 cap7 : Nat} {cs5 : List CbD} {ns7 : List Int} (hlt : Dr < B) (x0 : w6.cell? ⟨Dr, 0, none⟩ = some (.int .i64 z1)) (xf0 : w6.frozen? ⟨Dr, 0, none⟩ = false) (x5 : w6.cell? ⟨Dr, 5, none⟩ = some V5) (xf5 : w6.frozen? ⟨Dr, 5, none⟩ = false) (x10 : w6.cell? ⟨Dr, 10, none⟩ = some vn) (xf10 : w6.frozen? ⟨Dr, 10, none⟩ = false) (hV5 : V5 = .slice (some ⟨g5, 0, none⟩) n5 cap5) (hV7 : V7 = .slice (some ⟨g7, 0, none⟩) n7 cap7)
    (o5 : OwnRec CbD.v 62 1 w6 B V5 cs5) (l5 : cs5.length ≤ q + 1) (hnd : ∀ k, vn.ownBlock = some k → B ≤ k ∧ k < w6.heap.size) (hfr : Fr (drE Dr vc vn) wr w6) (hn5 : vn.ownBlock ≠ some g5) (hg5 : drE Dr vc vn g5 ∨ wr.heap.size ≤ g5)
    (h7 : OwnRec iV 3 1 w7 B V7 ns7) (l7 : ns7.length ≤ q + 1) (hg7 : ((w6.alloc ob7).drew).grownBy w7 vn.ownBlock) (hl7 : vn.ownBlock = some g7 ∨ ((w6.alloc ob7).drew).heap.size ≤ g7) :
    DrI (w7.setCell ⟨Dr, 10, none⟩ V7) Dr B V5 V7 (q + 1) ∧ Fr (drE Dr vc vn) wr (w7.setCell ⟨Dr, 10, none⟩ V7) ∧ (∀ k, drE Dr V5 V7 k → drE Dr vc vn k ∨ wr.heap.size ≤ k) := by
  subst hV5
  subst hV7
  have hDn : some Dr ≠ vn.ownBlock := fun e => by have := (hnd _ e.symm).1; omega
  have hDl : Dr < w6.heap.size := cell_lt x0
  have hg5l : g5 < w6.heap.size := (o5.blk g5 rfl).2
  have hg5B : B ≤ g5 := (o5.blk g5 rfl).1
  have hg7B : B ≤ g7 := (h7.blk g7 rfl).1
  have o5d : OwnRec CbD.v 62 1 ((w6.alloc ob7).drew) B (.slice (some ⟨g5, 0, none⟩) n5 cap5) cs5 := OwnRec.drew (o5.alloc _)
  refine ⟨⟨⟨z1, (World.cell?_setCell_other _ _ _ _ (by simp)).trans (keepO hg7 x0 hDn)⟩, by rw [World.frozen?_setCell]; exact keepF hg7 xf0 hDl hDn, (World.cell?_setCell_other _ _ _ _ (by simp)).trans (keepO hg7 x5 hDn), by rw [World.frozen?_setCell]; exact keepF hg7 xf5 hDl hDn, World.cell?_setCell_same _ _ _ (keepO hg7 x10 hDn), by rw [World.frozen?_setCell]; exact keepF hg7 xf10 hDl hDn, ⟨cs5, ?_, l5⟩, ⟨ns7, ?_, l7⟩, ?_, hlt⟩, ?_, ?_⟩
  · exact (o5d.gb hg7 (fun k hk e => by simp [Value.ownBlock] at hk; subst hk; exact hn5 e.symm)).gb (gb_set w7 Dr 10 _) (fun k hk e => by simp [Value.ownBlock] at hk; injection e with e; omega)
  · exact h7.gb (gb_set w7 Dr 10 _) (fun k hk e => by simp [Value.ownBlock] at hk; injection e with e; omega)
  · intro k hk e
    simp [Value.ownBlock] at hk e
    subst hk
    subst e
    rcases hl7 with hl7 | hl7
    · exact hn5 hl7
    · rw [World.size_drew, World.size_alloc] at hl7; omega
  · exact (((hfr.alloc ob7).drew).trans (Fr.of_gb hg7 (fun k hk _ => Or.inr (Or.inr hk)))).set Dr 10 _ (fun _ => Or.inl rfl)
  · intro k hk
    rcases hk with hk | hk | hk
    · exact Or.inl (Or.inl hk)
    · simp [Value.ownBlock] at hk
      subst hk
      exact hg5
    · simp [Value.ownBlock] at hk
      subst hk
      rcases hl7 with hl7 | hl7
      · exact Or.inl (Or.inr (Or.inr hl7))
      · rw [World.size_drew, World.size_alloc] at hl7
        have := hfr.size
        exact Or.inr (by omega)

set_option maxRecDepth 100000 in
set_option maxHeartbeats 8000000 in
theorem keepCoins_some (Dr B : Nat) (vc vn : Value) (q : Nat) (g n cc B2 : Nat) (cs : List CoinD) (w : World) (hd : DrI w Dr B vc vn q) (hv : OwnRec CoinD.l 64 6 w B2 (.slice (some ⟨g, 0, none⟩) n cc) cs) (hB2 : ∀ k, drE Dr vc vn k → k < B2) (hq : q ≤ 1759218604390) (hcc : cc ≤ 9223372036854775807) (hBw : B ≤ w.heap.size) :
    Calls Tryz.prog 55 #[.pointer (some ⟨Dr, 0, none⟩), .slice (some ⟨g, 0, none⟩) n cc] w fun e w' => e = .returned (.tuple #[]) ∧ ∃ vc' vn', DrI w' Dr B vc' vn' (q + 1) ∧ Fr (fun k => drE Dr vc vn k ∨ B2 ≤ k) w w' ∧ (∀ k, drE Dr vc' vn' k → drE Dr vc vn k ∨ w.heap.size ≤ k) := by
  obtain ⟨hroom, hnc⟩ := own_room hv
  have hg2 : B2 ≤ g := (hv.blk g rfl).1
  have hgw : g < w.heap.size := (hv.blk g rfl).2
  obtain ⟨z, n0⟩ := hd.n0
  have f0 := hd.f0
  have HD : Hid (DrI w Dr B vc vn q) := hd
  have HB2 : Hid (∀ k, drE Dr vc vn k → k < B2) := hB2
  have hDg : Dr ≠ g := by have := hB2 Dr (Or.inl rfl); omega
  have hDl : Dr < w.heap.size := cell_lt n0
  have HR : Hid (Room w g (cc * 6)) := hroom
  clear hd hB2 hroom hv
  have e0 : (0 : Int) ≤ (cc : Int) := by omega
  have e1 : (cc : Int) ≤ (cc : Int) := by omega
  obtain ⟨z1, hz⟩ : ∃ z1, IntKind.i64.wrap (z + 1) = z1 := ⟨_, rfl⟩
  have hW1 : Wrote (fun k => k = g ∨ k = Dr) w (w.setCell ⟨Dr, 0, none⟩ (.int .i64 z1)) := (Wrote.refl _ w).set Dr 0 _ (Or.inr rfl)
  have hz1 : (w.setCell ⟨Dr, 0, none⟩ (.int .i64 z1)).cell? ⟨Dr, 0, none⟩ = some (.int .i64 z1) := World.cell?_setCell_same _ _ _ n0
  have HD1 : Hid (DrI (w.setCell ⟨Dr, 0, none⟩ (.int .i64 z1)) Dr B vc vn q) := by
    obtain ⟨cs', oc, lc⟩ := HD.out.oc
    obtain ⟨ns', on, ln⟩ := HD.out.on
    refine ⟨⟨_, hz1⟩, by rw [World.frozen?_setCell]; exact HD.out.f0, (World.cell?_setCell_other _ _ _ _ (by simp)).trans HD.out.c5, by rw [World.frozen?_setCell]; exact HD.out.f5, (World.cell?_setCell_other _ _ _ _ (by simp)).trans HD.out.c10, by rw [World.frozen?_setCell]; exact HD.out.f10, ⟨cs', ?_, lc⟩, ⟨ns', ?_, ln⟩, HD.out.ne, HD.out.lt⟩
    · exact oc.gb (gb_set w Dr 0 _) (fun k hk e => by injection e with e; have := (oc.blk k hk).1; have := HD.out.lt; omega)
    · exact on.gb (gb_set w Dr 0 _) (fun k hk e => by injection e with e; have := (on.blk k hk).1; have := HD.out.lt; omega)
  go_enter Tryz.func55, Tryz.ntmps55
  go_wp2
  clear hz
  have HW1 : Hid _ := hW1
  have hs1 : (w.setCell ⟨Dr, 0, none⟩ (.int .i64 z1)).heap.size = w.heap.size := by simp
  generalize w.setCell ⟨Dr, 0, none⟩ (.int .i64 z1) = w1 at *
  clear n0 f0 hW1
  go_loopw [5] (fun i wr => ∃ j : Nat, j ≤ cc ∧ i = .int .i64 j ∧ Wrote (fun k => k = g) w1 wr) (fun i _ => cc - (intOf i).toNat)
  case atStart => exact ⟨0, Nat.zero_le _, rfl, Wrote.refl _ _⟩
  case round =>
    obtain ⟨j, hj, rfl, hw⟩ := hrel
    have m0 := hw.fr.cell hz1 hDg
    by_cases hjt : j < cc
    · have hro := (HW1.out.trans (hw.weak (fun k _ e => Or.inl e))).room _ _ HR.out
      obtain ⟨v0, c0⟩ := hro.here (j * 6) (by omega)
      obtain ⟨v1, c1⟩ := hro.here (j * 6 + 1) (by omega)
      obtain ⟨v2, c2⟩ := hro.here (j * 6 + 2) (by omega)
      obtain ⟨v3, c3⟩ := hro.here (j * 6 + 3) (by omega)
      obtain ⟨v4, c4⟩ := hro.here (j * 6 + 4) (by omega)
      obtain ⟨v5, c5⟩ := hro.here (j * 6 + 5) (by omega)
      have f0 := hro.free (j * 6) (by omega)
      have f1 := hro.free (j * 6 + 1) (by omega)
      have f2 := hro.free (j * 6 + 2) (by omega)
      have f3 := hro.free (j * 6 + 3) (by omega)
      have f4 := hro.free (j * 6 + 4) (by omega)
      have f5 := hro.free (j * 6 + 5) (by omega)
      have e2 : (0 : Int) ≤ (j : Int) := by omega
      have e3 : (j : Int) < (cc : Int) := by omega
      have hgD : g ≠ Dr := fun e => hDg e.symm
      have HW : Hid (Wrote (fun k => k = g) w1 wr) := hw
      clear hro hw
      go_wp2
      go_region
      all_goals
        go_wp2
        go_roundw
        case rel => exact ⟨j + 1, by omega, by go_num, ((((((HW.out.set g (j * 6) _ rfl).set g (j * 6 + 1) _ rfl).set g (j * 6 + 2) _ rfl).set g (j * 6 + 3) _ rfl).set g (j * 6 + 4) _ rfl).set g (j * 6 + 5) _ rfl).drew⟩
        case measure => simp [intOf]; omega
    · have hdr : ∀ k, drE Dr vc vn k → ¬ (k = g) := fun k hk e => by have := HB2.out k hk; omega
      have hD2 := HD1.out.fr hw.fr hdr
      obtain ⟨cs', oc, lc⟩ := hD2.oc
      obtain ⟨ns', on, ln⟩ := hD2.on
      have m5 := hD2.c5
      have mf5 := hD2.f5
      have m10 := hD2.c10
      have mf10 := hD2.f10
      have hwz := hw.fr.size
      have HD2 : Hid (DrI wr Dr B vc vn q) := hD2
      have HOC : Hid (OwnRec CbD.v 62 1 wr B vc cs') := oc
      have HLC : Hid (cs'.length ≤ q) := lc
      have hBr : B ≤ wr.heap.size := by omega
      have HFW : Hid (Fr (fun k => drE Dr vc vn k ∨ B2 ≤ k) w wr) := (HW1.out.fr.weak (fun k _ e => e.elim (fun e => Or.inr (by omega)) (fun e => Or.inl (Or.inl e)))).trans (hw.fr.weak (fun k _ e => Or.inr (by omega)))
      clear hD2 oc lc on ln hw mf10 m10
      go_upto_region 7 with (at_builtin; refine wpList_appR 51 24 _ Tryz.underlying51 info62 rfl (by decide) cb1 cbv_one (wr.alloc (.cells #[.slice (some ⟨g, 0, none⟩) cc cc] 62)) rfl _ _ rfl B wr.heap.size 1 vc cs' ⟨some ⟨g, 0, none⟩, cc, cc⟩ (by rfl) (by rfl) (HOC.out.alloc _) (vrow_new _ _ _) (by simp; omega) (by have := HLC.out; unfold maxLen; omega) (by have := HLC.out; omega) ?_; intro g5 cap5 w5 hown5 hg5 hl5 hlt5; have h6 := dr_six HD2.out m0 rfl hown5 hg5 hl5; have k5 := h6.1; have kf5 := h6.2.1; have H6 : Hid _ := h6; clear h6)
      obtain ⟨_, _, x0, xf0, x5, x10, xf10, xf5, o5, ⟨ns7, on7, ln7⟩, fr6, hn5, _, hge5⟩ := H6.out
      clear k5 kf5 H6 m0 m5 mf5 hown5 hg5 hl5 hlt5
      have HL5 : Hid ((cs' ++ [(⟨some ⟨g, 0, none⟩, cc, cc⟩ : CbD)]).length ≤ q + 1) := by show _ ≤ _; have := HLC.out; simp only [List.length_append, List.length_cons, List.length_nil]; omega
      generalize cs' ++ [(⟨some ⟨g, 0, none⟩, cc, cc⟩ : CbD)] = cs5 at *
      generalize hV5 : Value.slice (some ⟨g5, 0, none⟩) (cs'.length + 1) cap5 = V5 at *
      generalize w5.setCell ⟨Dr, 5, none⟩ V5 = w6 at *
      have HO5 : Hid (OwnRec CbD.v 62 1 w6 B V5 cs5) := o5
      have HON : Hid (OwnRec iV 3 1 w6 B vn ns7) := on7
      have HFR6 : Hid (Fr (drE Dr vc vn) wr w6) := fr6
      have HN5 : Hid (vn.ownBlock ≠ some g5) := hn5
      have HGE5 : Hid (drE Dr vc vn g5 ∨ wr.heap.size ≤ g5) := hge5
      have HV5 : Hid (Value.slice (some ⟨g5, 0, none⟩) (cs'.length + 1) cap5 = V5) := hV5
      have HX5 : Hid (w6.cell? ⟨Dr, 5, none⟩ = some V5 ∧ w6.frozen? ⟨Dr, 5, none⟩ = false) := ⟨x5, xf5⟩
      have HX0 : Hid (w6.cell? ⟨Dr, 0, none⟩ = some (.int .i64 z1) ∧ w6.frozen? ⟨Dr, 0, none⟩ = false) := ⟨x0, xf0⟩
      have HX10 : Hid (w6.cell? ⟨Dr, 10, none⟩ = some vn ∧ w6.frozen? ⟨Dr, 10, none⟩ = false) := ⟨x10, xf10⟩
      have hbv : some Dr ≠ vn.ownBlock := fun e => by have := (on7.blk _ e.symm).1; have := HD.out.lt; omega
      have hD6 : Dr < w6.heap.size := cell_lt x0
      have hB6 : B ≤ w6.heap.size := by have := fr6.size; omega
      have HLN7 : Hid (ns7.length ≤ q) := ln7
      clear o5 on7 fr6 hn5 hge5 x5 xf5 hV5 ln7 xf0
      go_region_law (refine step_appR 52 8 _ Tryz.underlying52 info3 rfl (by decide) iv1 iv_one _ ?_ (.tmp 65) (.tmp 70) ?_ B w6.heap.size 1 vn ns7 z1 ?_ ?_ ?_ ?_ ?_ ?_ ?_ ?_; rfl; rfl; rfl; rfl; exact OwnRec.drew (HON.out.alloc _); exact VRow.drew (vrow_new w6 _ _); (rw [World.size_drew, World.size_alloc]; omega); (have := HLN7.out; unfold maxLen; omega); (have := HLN7.out; omega); intro g7 cap7 w7 hown7 hg7 hl7 hlt7; have k0 := keepO hg7 x10 hbv; have k1 := keepF hg7 xf10 hD6 hbv)
      all_goals
        go_wp2
        go_end0
        have hfin := dr_fin (wr := wr) (q := q) HD.out.lt HX0.out.1 HX0.out.2 HX5.out.1 HX5.out.2 HX10.out.1 HX10.out.2 HV5.out.symm rfl HO5.out HL5.out (fun k hk => HON.out.blk k hk) HFR6.out HN5.out HGE5.out hown7 (by have := HLN7.out; simp only [List.length_append, List.length_cons, List.length_nil]; omega) hg7 hl7
        refine ⟨rfl, _, _, hfin.1, HFW.out.trans (hfin.2.1.weak (fun k _ e => Or.inl e)), fun k hk => (hfin.2.2 k hk).imp (fun h => h) (fun h => by have := HFW.out.size; omega)⟩

set_option maxRecDepth 100000 in
set_option maxHeartbeats 8000000 in
theorem keepCoins_none (Dr B : Nat) (vc vn : Value) (q : Nat) (B2 : Nat) (w : World) (hd : DrI w Dr B vc vn q) (hB2 : ∀ k, drE Dr vc vn k → k < B2) (hq : q ≤ 1759218604390) (hBw : B ≤ w.heap.size) :
    Calls Tryz.prog 55 #[.pointer (some ⟨Dr, 0, none⟩), .slice none 0 0] w fun e w' => e = .returned (.tuple #[]) ∧ ∃ vc' vn', DrI w' Dr B vc' vn' (q + 1) ∧ Fr (fun k => drE Dr vc vn k ∨ B2 ≤ k) w w' ∧ (∀ k, drE Dr vc' vn' k → drE Dr vc vn k ∨ w.heap.size ≤ k) := by
  obtain ⟨z, n0⟩ := hd.n0
  have f0 := hd.f0
  have HD : Hid (DrI w Dr B vc vn q) := hd
  have HB2 : Hid (∀ k, drE Dr vc vn k → k < B2) := hB2
  have hDl : Dr < w.heap.size := cell_lt n0
  clear hd hB2
  obtain ⟨z1, hz⟩ : ∃ z1, IntKind.i64.wrap (z + 1) = z1 := ⟨_, rfl⟩
  have hW1 : Wrote (fun k => k = Dr) w (w.setCell ⟨Dr, 0, none⟩ (.int .i64 z1)) := (Wrote.refl _ w).set Dr 0 _ rfl
  have hz1 : (w.setCell ⟨Dr, 0, none⟩ (.int .i64 z1)).cell? ⟨Dr, 0, none⟩ = some (.int .i64 z1) := World.cell?_setCell_same _ _ _ n0
  have HD1 : Hid (DrI (w.setCell ⟨Dr, 0, none⟩ (.int .i64 z1)) Dr B vc vn q) := by
    obtain ⟨cs', oc, lc⟩ := HD.out.oc
    obtain ⟨ns', on, ln⟩ := HD.out.on
    refine ⟨⟨_, hz1⟩, by rw [World.frozen?_setCell]; exact HD.out.f0, (World.cell?_setCell_other _ _ _ _ (by simp)).trans HD.out.c5, by rw [World.frozen?_setCell]; exact HD.out.f5, (World.cell?_setCell_other _ _ _ _ (by simp)).trans HD.out.c10, by rw [World.frozen?_setCell]; exact HD.out.f10, ⟨cs', ?_, lc⟩, ⟨ns', ?_, ln⟩, HD.out.ne, HD.out.lt⟩
    · exact oc.gb (gb_set w Dr 0 _) (fun k hk e => by injection e with e; have := (oc.blk k hk).1; have := HD.out.lt; omega)
    · exact on.gb (gb_set w Dr 0 _) (fun k hk e => by injection e with e; have := (on.blk k hk).1; have := HD.out.lt; omega)
  go_enter Tryz.func55, Tryz.ntmps55
  go_wp2
  clear hz
  have HW1 : Hid _ := hW1
  have hs1 : (w.setCell ⟨Dr, 0, none⟩ (.int .i64 z1)).heap.size = w.heap.size := by simp
  generalize w.setCell ⟨Dr, 0, none⟩ (.int .i64 z1) = w1 at *
  clear n0 f0 hW1
  refine wp_loop_rounds 1 ?_
  rw [rounds_succ]
  have hD2 := HD1.out
  have m0 := hz1
  have m5 := hD2.c5
  have mf5 := hD2.f5
  obtain ⟨cs', oc, lc⟩ := hD2.oc
  obtain ⟨wr, rfl⟩ : ∃ wr : World, wr = w1 := ⟨_, rfl⟩
  have HD2 : Hid (DrI wr Dr B vc vn q) := hD2
  have HOC : Hid (OwnRec CbD.v 62 1 wr B vc cs') := oc
  have HLC : Hid (cs'.length ≤ q) := lc
  have hBr : B ≤ wr.heap.size := by omega
  have HFW : Hid (Fr (fun k => drE Dr vc vn k ∨ B2 ≤ k) w wr) := HW1.out.fr.weak (fun k _ e => Or.inl (Or.inl e))
  clear hD2 oc lc hs1
  go_upto_region 7 with (at_builtin; refine wpList_appR 51 24 _ Tryz.underlying51 info62 rfl (by decide) cb1 cbv_one (wr.alloc (.cells #[.slice none 0 0] 62)) rfl _ _ rfl B wr.heap.size 1 vc cs' ⟨none, 0, 0⟩ (by rfl) (by rfl) (HOC.out.alloc _) (vrow_new _ _ _) (by simp; omega) (by have := HLC.out; unfold maxLen; omega) (by have := HLC.out; omega) ?_; intro g5 cap5 w5 hown5 hg5 hl5 hlt5; have h6 := dr_six HD2.out m0 rfl hown5 hg5 hl5; have k5 := h6.1; have kf5 := h6.2.1; have H6 : Hid _ := h6; clear h6)
  obtain ⟨_, _, x0, xf0, x5, x10, xf10, xf5, o5, ⟨ns7, on7, ln7⟩, fr6, hn5, _, hge5⟩ := H6.out
  clear k5 kf5 H6 m0 m5 mf5 hown5 hg5 hl5 hlt5
  have HL5 : Hid ((cs' ++ [(⟨none, 0, 0⟩ : CbD)]).length ≤ q + 1) := by show _ ≤ _; have := HLC.out; simp only [List.length_append, List.length_cons, List.length_nil]; omega
  generalize cs' ++ [(⟨none, 0, 0⟩ : CbD)] = cs5 at *
  generalize hV5 : Value.slice (some ⟨g5, 0, none⟩) (cs'.length + 1) cap5 = V5 at *
  generalize w5.setCell ⟨Dr, 5, none⟩ V5 = w6 at *
  have HO5 : Hid (OwnRec CbD.v 62 1 w6 B V5 cs5) := o5
  have HON : Hid (OwnRec iV 3 1 w6 B vn ns7) := on7
  have HFR6 : Hid (Fr (drE Dr vc vn) wr w6) := fr6
  have HN5 : Hid (vn.ownBlock ≠ some g5) := hn5
  have HGE5 : Hid (drE Dr vc vn g5 ∨ wr.heap.size ≤ g5) := hge5
  have HV5 : Hid (Value.slice (some ⟨g5, 0, none⟩) (cs'.length + 1) cap5 = V5) := hV5
  have HX5 : Hid (w6.cell? ⟨Dr, 5, none⟩ = some V5 ∧ w6.frozen? ⟨Dr, 5, none⟩ = false) := ⟨x5, xf5⟩
  have HX0 : Hid (w6.cell? ⟨Dr, 0, none⟩ = some (.int .i64 z1) ∧ w6.frozen? ⟨Dr, 0, none⟩ = false) := ⟨x0, xf0⟩
  have HX10 : Hid (w6.cell? ⟨Dr, 10, none⟩ = some vn ∧ w6.frozen? ⟨Dr, 10, none⟩ = false) := ⟨x10, xf10⟩
  have hbv : some Dr ≠ vn.ownBlock := fun e => by have := (on7.blk _ e.symm).1; have := HD.out.lt; omega
  have hD6 : Dr < w6.heap.size := cell_lt x0
  have hB6 : B ≤ w6.heap.size := by have := fr6.size; omega
  have HLN7 : Hid (ns7.length ≤ q) := ln7
  clear o5 on7 fr6 hn5 hge5 x5 xf5 hV5 ln7 xf0
  go_region_law (refine step_appR 52 8 _ Tryz.underlying52 info3 rfl (by decide) iv1 iv_one _ ?_ (.tmp 65) (.tmp 70) ?_ B w6.heap.size 1 vn ns7 z1 ?_ ?_ ?_ ?_ ?_ ?_ ?_ ?_; rfl; rfl; rfl; rfl; exact OwnRec.drew (HON.out.alloc _); exact VRow.drew (vrow_new w6 _ _); (rw [World.size_drew, World.size_alloc]; omega); (have := HLN7.out; unfold maxLen; omega); (have := HLN7.out; omega); intro g7 cap7 w7 hown7 hg7 hl7 hlt7; have k0 := keepO hg7 x10 hbv; have k1 := keepF hg7 xf10 hD6 hbv)
  all_goals
    go_wp2
    go_end0
    have hfin := dr_fin (wr := wr) (q := q) HD.out.lt HX0.out.1 HX0.out.2 HX5.out.1 HX5.out.2 HX10.out.1 HX10.out.2 HV5.out.symm rfl HO5.out HL5.out (fun k hk => HON.out.blk k hk) HFR6.out HN5.out HGE5.out hown7 (by have := HLN7.out; simp only [List.length_append, List.length_cons, List.length_nil]; omega) hg7 hl7
    refine ⟨rfl, _, _, hfin.1, HFW.out.trans (hfin.2.1.weak (fun k _ e => Or.inl e)), fun k hk => (hfin.2.2 k hk).imp (fun h => h) (fun h => by have := HFW.out.size; omega)⟩

theorem keepCoins_any (Dr B : Nat) (vc vn : Value) (q : Nat) (v : Value) (B2 : Nat) (cs : List CoinD) (w : World) (hd : DrI w Dr B vc vn q) (hv : OwnRec CoinD.l 64 6 w B2 v cs) (hB2 : ∀ k, drE Dr vc vn k → k < B2) (hq : q ≤ 1759218604390) (hBw : B ≤ w.heap.size) :
    Calls Tryz.prog 55 #[.pointer (some ⟨Dr, 0, none⟩), v] w fun e w' => e = .returned (.tuple #[]) ∧ ∃ vc' vn', DrI w' Dr B vc' vn' (q + 1) ∧ Fr (fun k => drE Dr vc vn k ∨ B2 ≤ k) w w' ∧ (∀ k, drE Dr vc' vn' k → drE Dr vc vn k ∨ w.heap.size ≤ k) := by
  rcases hv.slice coin6 with ⟨rfl, _⟩ | ⟨g, c, rfl, _, _, _, _⟩
  · exact keepCoins_none Dr B vc vn q B2 w hd hB2 hq hBw
  · exact keepCoins_some Dr B vc vn q g cs.length c B2 cs w hd hv hB2 hq (own_cap hv) hBw

end Go.Proofs.YtffgpepngcnjeaaGreat
