/-
  A book of payments: pays.
  Back: sameNames; a payment given up; what a payment is, whatever was paid ahead of it.
  A book of payments: live, gives.
  copyBlock: a block in lists of its own.
-/
import Derived.Test.YtffgpepngcnjeabMao
import Derived.Deep.RegionLaw
import Derived.Deep.DeepCutAuto
import Derived.BigQuiet
import Derived.Test.YtffgpepngcnjeabMam
namespace Go.Proofs.Ytffgpepngcnjeab
open Go.RowKit
theorem info98 : (Try.prog.info? 98).map (fun i => (i.zero, i.size, i.bytes)) = some (some (.agg #[.int .i64 0, .int .i64 0, .slice none 0 0, .slice none 0 0, .slice none 0 0, .int .i64 0, .int .i64 0, .slice none 0 0, .slice none 0 0, .bool false, .bool false]), 11, 160) := by kernel_rfl
variable {NP ND : Nat → Prop} {w : World} {B P : Nat} {s : Int} {g : Nat} {v : Value} {h : Int} {xs : List Cel} {vl vs : Value} {md nx : Int} {ps : List PayD} {ks : List (Int × Int)} {vd : Value} {ds : List DeedD}
theorem keepA3 {w : World} {G X K : Nat} {x y u : Value} {i j : Nat} (v0 v1 v2 v3 v4 v5 : Value) (h1 : G ≠ K) (h2 : X ≠ K) (h : w.cell? ⟨G, 0, none⟩ = some x ∧ w.cell? ⟨X, i, none⟩ = some y ∧ w.cell? ⟨X, j, none⟩ = some u) :
    ((((((w.setCell ⟨K, 0, none⟩ v0).setCell ⟨K, 1, none⟩ v1).setCell ⟨K, 2, none⟩ v2).setCell ⟨K, 3, none⟩ v3).setCell ⟨K, 4, none⟩ v4).setCell ⟨K, 5, none⟩ v5).cell? ⟨G, 0, none⟩ = some x ∧ ((((((w.setCell ⟨K, 0, none⟩ v0).setCell ⟨K, 1, none⟩ v1).setCell ⟨K, 2, none⟩ v2).setCell ⟨K, 3, none⟩ v3).setCell ⟨K, 4, none⟩ v4).setCell ⟨K, 5, none⟩ v5).cell? ⟨X, i, none⟩ = some y ∧ ((((((w.setCell ⟨K, 0, none⟩ v0).setCell ⟨K, 1, none⟩ v1).setCell ⟨K, 2, none⟩ v2).setCell ⟨K, 3, none⟩ v3).setCell ⟨K, 4, none⟩ v4).setCell ⟨K, 5, none⟩ v5).cell? ⟨X, j, none⟩ = some u := by
  have hf := fr6K w K v0 v1 v2 v3 v4 v5
  exact ⟨hf.cell h.1 h1, hf.cell h.2.1 h2, hf.cell h.2.2 h2⟩
/-- the book, as it lies behind a payment and before it is booked -/
structure BkM (ND : Nat → Prop) (w : World) (B P : Nat) (vd : Value) (ds : List DeedD) : Prop where
  b0 : w.cell? ⟨B, 0, none⟩ = some (.pointer (some ⟨P, 0, none⟩))
  b2 : w.cell? ⟨B, 2, none⟩ = some vd
  fb : ∀ j, w.frozen? ⟨B, j, none⟩ = false
  od : OwnRec DeedD.v 98 11 w (B + 1) vd ds
  ok : ∀ d ∈ ds, DeedOk ND w d
theorem Bk.notE (u : Bk NP ND w B P s g v h xs vl vs md nx ps ks vd ds) {k : Nat} (e : k = P ∨ vl.ownBlock = some k) : k ≠ B ∧ vd.ownBlock ≠ some k ∧ ¬ ND k := by
  rcases e with e | e
  · exact u.dj k (Or.inl (Or.inl e))
  · exact u.dj k (Or.inr (Or.inl (Or.inr (Or.inl e))))
theorem Bk.mid (u : Bk NP ND w B P s g v h xs vl vs md nx ps ks vd ds) {wx : World} (hf : Fr (fun k => k = P ∨ vl.ownBlock = some k) w wx) : BkM ND wx B P vd ds := by
  have hB : ¬ (B = P ∨ vl.ownBlock = some B) := fun e => (u.notE e).1 rfl
  exact ⟨hf.cell u.b0 hB, hf.cell u.b2 hB, fun j => (hf.frozen (cell_lt u.b0) hB).trans (u.fb j), hf.own u.od (fun k hk e => (u.notE e).2.1 hk), fun d hd => (u.ok d hd).fr hf (fun k hk e => (u.notE e).2.2 hk)⟩
theorem BkM.grown {w' : World} (u : BkM ND w B P vd ds) (hb : Below w.heap.size w w') : BkM ND w' B P vd ds :=
  ⟨(hb.cell (p := ⟨B, 0, none⟩) (cell_lt u.b0)).trans u.b0, (hb.cell (p := ⟨B, 2, none⟩) (cell_lt u.b2)).trans u.b2, fun j => (hb.frozen (p := ⟨B, j, none⟩) (show B < w.heap.size from cell_lt u.b0)).trans (u.fb j), u.od.grown hb, fun d hd => (u.ok d hd).grown hb⟩
theorem outs_pre {w : World} {ao : Option Addr} {zs ys : List (Int × Int)} {n : Nat} (h : OutsAt w ao zs) (hn : ys.length = n) (hz : zs.take ys.length = ys) : OutsAt w ao ys := by
  rcases h with h | ⟨b, off, e, hr⟩
  · subst h
    rw [List.take_nil] at hz
    exact Or.inl hz.symm
  · refine Or.inr ⟨b, off, e, fun j hj => ?_⟩
    have hj2 : j < zs.length := by
      have := congrArg List.length hz
      rw [List.length_take] at this
      omega
    have := hr j hj2
    have e2 : zs.getD j (0, 0) = ys.getD j (0, 0) := by
      have e3 := congrArg (fun l => l.getD j (0, 0)) hz
      simpa [List.getD, List.getElem?_take, hj] using e3
    have e4 : zs[j] = ys[j] := by simpa [List.getD, hj, hj2] using e2
    simpa [List.getD, hj, hj2, e4] using this
theorem outs_frQ {E : Nat → Prop} {w w' : World} (hf : Fr E w w') {ao : Option Addr} {ys : List (Int × Int)} (h : OutsAt w ao ys) (hn : ys ≠ [] → ∀ x, ao = some x → ¬ E x.block) : OutsAt w' ao ys := by
  by_cases e : ys = []
  · exact Or.inl e
  · rcases h with h | ⟨b, off, rfl, hr⟩
    · exact absurd h e
    · exact Or.inr ⟨b, off, rfl, fun j hj => ⟨hf.cell (hr j hj).1 (hn e _ rfl), hf.cell (hr j hj).2 (hn e _ rfl)⟩⟩
theorem own_len {α : Type} {f : α → List Value} {e k : Nat} (hf : ∀ x, (f x).length = k) {w : World} {base n c : Nat} {ao : Option Addr} {l : List α} (h : OwnRec f e k w base (.slice ao n c) l) : l.length = n := by
  obtain ⟨a', c', e', _⟩ := OwnRec.at hf h
  injection e' with _ e' _
  exact e'.symm
set_option maxRecDepth 100000 in
set_option maxHeartbeats 4000000 in
theorem bPays_any {base : Nat} (w : World) (u : Bk NP ND w B P s g v h xs vl vs (ds.length : Nat) nx ps ks vd ds) (hlk : LkB ps ks ds) (hba : ∀ k, (chE P v k ∨ lsE P vl vs k ∨ NP k ∨ k = B ∨ vd.ownBlock = some k ∨ ND k) → base ≤ k) (hs : Mk.isM s = true) (hg : 1 ≤ g) (hg2 : g ≤ 20) (hxl : xs.length ≤ 5000) (hV : Vals xs) (hnm : (xs.map Cel.nm).Nodup) (hdl : ds.length ≤ 1000000000) (hkl : ks.length ≤ 1000000000)
    (kd a b : Int) (ab : Option Addr) (m d : Nat) (oa : Option Addr) (om od : Nat) (ys : List (Int × Int)) (hy : OutsAt w oa ys) (hyl : ys.length = om) (hom : om ≤ 8796093022208) (h0 : oa = none → od = 0) (hyo : ys ≠ [] → ∀ x, oa = some x → x.block < base) :
    Calls Try.prog 17 #[.pointer (some ⟨B, 0, none⟩), .agg #[.int .i64 kd, .int .i64 a, .int .i64 b, .slice ab m d, .slice oa om od]] w fun e w' => e = .returned (.bool true) ∧ Fr (fun k => base ≤ k) w w' ∧ ∃ ds', BkQ base w' B P s g h xs ks ds' ∧ ds'.length ≤ ds.length + 1 := by
  have HU : Hid (Bk NP ND w B P s g v h xs vl vs (ds.length : Nat) nx ps ks vd ds) := u
  have HLK : Hid (LkB ps ks ds) := hlk
  have HBA : Hid (∀ k, (chE P v k ∨ lsE P vl vs k ∨ NP k ∨ k = B ∨ vd.ownBlock = some k ∨ ND k) → base ≤ k) := hba
  have HV : Hid (Vals xs) := hV
  have HNM : Hid ((xs.map Cel.nm).Nodup) := hnm
  have HYL : Hid (ys.length = om) := hyl
  have HYO : Hid (ys ≠ [] → ∀ x, oa = some x → x.block < base) := hyo
  have HPL : Hid (ps.length ≤ 1000000000) := Nat.le_trans hlk.len hdl
  obtain ⟨av, cv, ev, hatv⟩ := u.pp.pu.at
  obtain ⟨ad, cd, ed, _⟩ := OwnRec.at deed11 u.od
  subst ed
  have HR : Hid (PRow4 w P s g (.slice av xs.length cv) h) := by have := paq_row u.pp.pu; rw [ev] at this; exact this
  have HX : Hid (CelsAt w av xs) := hatv
  have HOL : Hid ((ownOf xs s g).length ≤ 5000) := by show _ ≤ _; have := Nat.le_trans (ownZ_len (keysZ xs s g) (coinsC xs)) (coinsC_len xs); unfold ownOf; omega
  have bA : Below w.heap.size w (w.alloc (.cells #[.int .i64 kd, .int .i64 a, .int .i64 b, .slice ab m d, .slice oa om od] 55)) := (Below.refl _ _).alloc (Nat.le_refl _) _
  have x1 : (w.alloc (.cells #[.int .i64 kd, .int .i64 a, .int .i64 b, .slice ab m d, .slice oa om od] 55)).cell? ⟨w.heap.size, 1, none⟩ = some (.int .i64 a) := by go_simp
  have x2 : (w.alloc (.cells #[.int .i64 kd, .int .i64 a, .int .i64 b, .slice ab m d, .slice oa om od] 55)).cell? ⟨w.heap.size, 2, none⟩ = some (.int .i64 b) := by go_simp
  have x4 : (w.alloc (.cells #[.int .i64 kd, .int .i64 a, .int .i64 b, .slice ab m d, .slice oa om od] 55)).cell? ⟨w.heap.size, 4, none⟩ = some (.slice oa om od) := by go_simp
  have HB0 : Hid (Below w.heap.size w (w.alloc (.cells #[.int .i64 kd, .int .i64 a, .int .i64 b, .slice ab m d, .slice oa om od] 55))) := bA
  have HY0 : Hid (OutsAt (w.alloc (.cells #[.int .i64 kd, .int .i64 a, .int .i64 b, .slice ab m d, .slice oa om od] 55)) oa ys) := hy.grown bA
  have HR0 : Hid (PRow4 (w.alloc (.cells #[.int .i64 kd, .int .i64 a, .int .i64 b, .slice ab m d, .slice oa om od] 55)) P s g (.slice av xs.length cv) h) := VRow.grown HR.out bA
  have HX0 : Hid (CelsAt (w.alloc (.cells #[.int .i64 kd, .int .i64 a, .int .i64 b, .slice ab m d, .slice oa om od] 55)) av xs) := HX.out.grown bA
  have b0 : (w.alloc (.cells #[.int .i64 kd, .int .i64 a, .int .i64 b, .slice ab m d, .slice oa om od] 55)).cell? ⟨B, 0, none⟩ = some (.pointer (some ⟨P, 0, none⟩)) := (bA.cell (p := ⟨B, 0, none⟩) (cell_lt u.b0)).trans u.b0
  have hBw : B < w.heap.size := cell_lt u.b0
  clear u hlk hba hV hnm hyl hyo hatv ev HR HX bA hy
  go_enter Try.func17, Try.ntmps17
  go_upto_region 1 with fail
  generalize w.alloc (.cells #[.int .i64 kd, .int .i64 a, .int .i64 b, .slice ab m d, .slice oa om od] 55) = w0 at *
  generalize hX : w.heap.size = X at *
  have HXe : Hid (w.heap.size = X) := hX
  clear hX
  have hXl0 : X < w0.heap.size := cell_lt x1
  go_wp2_with fail
  refine (pCoins4 P s g av xs.length cv h xs _ hs hg hg2 HR0.out HX0.out rfl (by omega)).mono ?_
  rintro e w1 ⟨v1, rfl, hown, hb1⟩
  obtain ⟨al, cl, rfl, _⟩ := OwnRec.at coin6 hown
  have HOW1 : Hid (OwnRec CoinD.l 70 6 w1 w0.heap.size (.slice al (ownOf xs s g).length cl) (ownOf xs s g)) := hown
  have HY1 : Hid (OutsAt w1 oa ys) := HY0.out.grown hb1
  have y1 := (hb1.cell (p := ⟨X, 1, none⟩) hXl0).trans x1
  have y2 := (hb1.cell (p := ⟨X, 2, none⟩) hXl0).trans x2
  have y4 := (hb1.cell (p := ⟨X, 4, none⟩) hXl0).trans x4
  have c0 := (hb1.cell (p := ⟨B, 0, none⟩) (cell_lt b0)).trans b0
  have HB1 : Hid (Below X w w1) := HB0.out.trans (hb1.mono (by omega))
  have hs1 := hb1.size
  clear hown hb1 x1 x2 x4 b0 HY0 HR0 HX0 HB0
  have hmk := make_outsN om (by omega)
  obtain ⟨w2, hrun, hout, hb2⟩ := copy_outsQ oa om od ys w1 HY1.out HYL.out hom h0
  have y4m : (w1.alloc (.cells (Go.madeCells #[.int .i64 0, .int .i64 0] (om * 2)) 68)).cell? ⟨X, 4, none⟩ = some (.slice oa om od) := (((Below.refl w1.heap.size w1).alloc (Nat.le_refl _) (.cells (Go.madeCells #[.int .i64 0, .int .i64 0] (om * 2)) 68)).cell (p := ⟨X, 4, none⟩) (cell_lt y4)).trans y4
  go_upto_region 4 with fail
  clear hrun hmk y4m
  have HOW2 : Hid (OwnRec CoinD.l 70 6 w2 w0.heap.size (.slice al (ownOf xs s g).length cl) (ownOf xs s g)) := HOW1.out.grown hb2
  have HY2 : Hid (OutsAt w2 oa ys) := HY1.out.grown hb2
  have HYN : Hid (OutsAt w2 (some ⟨w1.heap.size, 0, none⟩) ys) := hout
  have z1 := (hb2.cell (p := ⟨X, 1, none⟩) (cell_lt y1)).trans y1
  have z2 := (hb2.cell (p := ⟨X, 2, none⟩) (cell_lt y2)).trans y2
  have z4 := (hb2.cell (p := ⟨X, 4, none⟩) (cell_lt y4)).trans y4
  have d0 := (hb2.cell (p := ⟨B, 0, none⟩) (cell_lt c0)).trans c0
  have HB2 : Hid (Below w.heap.size w w2) := by rw [HXe.out]; exact HB1.out.trans (hb2.mono (by omega))
  have hs2 := hb2.size
  have hon : (ownZ (keysZ xs s g) (coinsC xs)).length = (ownOf xs s g).length := rfl
  rw [hon]
  clear hon hb2 y1 y2 y4 c0 HY1 HOW1 HB1 hout
  generalize w1.heap.size = K2 at *
  generalize (ownOf xs s g).length = nl at *
  -- the call of Pay
  have bA : Below w2.heap.size w2 w2.drew := (Below.refl _ _).drew
  have bB : Below w2.heap.size w2 ((w2.alloc Z34).drew) := ((Below.refl _ _).alloc (Nat.le_refl _) _).drew
  have HUA : Hid (PP NP w2.drew P s g v h xs vl vs (ds.length : Nat) nx ps ks) := HU.out.pp.grown (below_blk HB2.out bA)
  have HUB : Hid (PP NP ((w2.alloc Z34).drew) P s g v h xs vl vs (ds.length : Nat) nx ps ks) := HU.out.pp.grown (below_blk HB2.out bB)
  have HYA : Hid (OutsAt w2.drew (some ⟨K2, 0, none⟩) ys) := HYN.out.grown bA
  have HYB : Hid (OutsAt ((w2.alloc Z34).drew) (some ⟨K2, 0, none⟩) ys) := HYN.out.grown bB
  have hBP : ¬ (B = P ∨ vl.ownBlock = some B) := fun e => (HU.out.notE e).1 rfl
  have hXP : ¬ (X = P ∨ vl.ownBlock = some X) := fun e => by
    have := HXe.out
    rcases e with e | e
    · have : P < w.heap.size := cell_lt HU.out.pp.pu.c0
      omega
    · have := (HU.out.pp.ls.ol.blk X e).2
      omega
  have HKA : Hid (∀ (w3 : World), Fr (fun k => k = P ∨ vl.ownBlock = some k) w2.drew w3 → w3.cell? ⟨B, 0, none⟩ = some (.pointer (some ⟨P, 0, none⟩)) ∧ w3.cell? ⟨X, 1, none⟩ = some (.int .i64 a) ∧ w3.cell? ⟨X, 2, none⟩ = some (.int .i64 b)) := fun w3 hf => ⟨hf.cell d0 hBP, hf.cell z1 hXP, hf.cell z2 hXP⟩
  have HSB : Hid (((w2.alloc Z34).drew).cell? ⟨B, 0, none⟩ = some (.pointer (some ⟨P, 0, none⟩)) ∧ ((w2.alloc Z34).drew).cell? ⟨X, 1, none⟩ = some (.int .i64 a) ∧ ((w2.alloc Z34).drew).cell? ⟨X, 2, none⟩ = some (.int .i64 b)) := ⟨(bB.cell (p := ⟨B, 0, none⟩) (cell_lt d0)).trans d0, (bB.cell (p := ⟨X, 1, none⟩) (cell_lt z1)).trans z1, (bB.cell (p := ⟨X, 2, none⟩) (cell_lt z2)).trans z2⟩
  have HKB : Hid (∀ (w3 : World), Fr (fun k => k = P ∨ vl.ownBlock = some k) ((w2.alloc Z34).drew) w3 → w3.cell? ⟨B, 0, none⟩ = some (.pointer (some ⟨P, 0, none⟩)) ∧ w3.cell? ⟨X, 1, none⟩ = some (.int .i64 a) ∧ w3.cell? ⟨X, 2, none⟩ = some (.int .i64 b)) := fun w3 hf => ⟨hf.cell HSB.out.1 hBP, hf.cell HSB.out.2.1 hXP, hf.cell HSB.out.2.2 hXP⟩
  obtain ⟨K0, hK0⟩ : ∃ K0, w2.heap.size = K0 := ⟨_, rfl⟩
  have HK0 : Hid (w2.heap.size = K0) := hK0
  have hX2l : X < K0 := by omega
  have hB2l : B < K0 := by omega
  have hXn : X ≠ K0 := by omega
  have hBn : B ≠ K0 := by omega
  have HQ1 : Hid (∀ (w3 : World) v0 v1 v2 v3 v4 v5 er, PayOkR NP P s g v h xs vl vs (ds.length : Nat) nx ps ks ys a b v0 v1 v2 v3 v4 v5 er w2.drew w3 → PQ NP P s g v h xs vl vs (ds.length : Nat) nx ps ks ys a b v0 v1 v2 v3 v4 v5 er w3.heap.size w w2 (w3.alloc (.cells #[v0, v1, v2, v3, v4, v5] 34))) := fun w3 v0 v1 v2 v3 v4 v5 er hr => PQ.one (X := X) HU.out.pp HB2.out (by rw [HXe.out]; exact Nat.le_refl _) (by omega) hr
  have HQ2 : Hid (∀ (w3 : World) v0 v1 v2 v3 v4 v5 er, PayOkR NP P s g v h xs vl vs (ds.length : Nat) nx ps ks ys a b v0 v1 v2 v3 v4 v5 er ((w2.alloc Z34).drew) w3 → VB w3 K0 (.int .i64 0) (.int .i64 0) (.slice none 0 0) (.slice none 0 0) (.slice none 0 0) (.int .i64 0) ∧ PQ NP P s g v h xs vl vs (ds.length : Nat) nx ps ks ys a b v0 v1 v2 v3 v4 v5 er K0 w w2 ((((((w3.setCell ⟨K0, 0, none⟩ v0).setCell ⟨K0, 1, none⟩ v1).setCell ⟨K0, 2, none⟩ v2).setCell ⟨K0, 3, none⟩ v3).setCell ⟨K0, 4, none⟩ v4).setCell ⟨K0, 5, none⟩ v5)) := fun w3 v0 v1 v2 v3 v4 v5 er hr => PQ.two HU.out.pp HB2.out HK0.out hr
  have hmd : (0 : Int) ≤ (ds.length : Nat) ∧ ((ds.length : Nat) : Int) ≤ 4611686018427387904 := by omega
  have HPL2 : Hid (ps.length ≤ 1000000000000) := Nat.le_trans HPL.out (by omega)
  have HKL2 : Hid (ks.length ≤ 1000000000000) := Nat.le_trans hkl (by omega)
  go_cut [7, 8] (fun uk uf wx => ∃ (K : Nat) (n0 t : Int) (ai : Option Addr) (ni ci : Nat) (ap : Option Addr) (np cp : Nat) (ak : Option Addr) (nk ck : Nat) (ch er : Int), uk = .pointer (some ⟨K, 0, none⟩) ∧ uf = .int .i64 er ∧ Hid (PQ NP P s g v h xs vl vs (ds.length : Nat) nx ps ks ys a b (.int .i64 n0) (.int .i64 t) (.slice ai ni ci) (.slice ap np cp) (.slice ak nk ck) (.int .i64 ch) er K w w2 wx))
  case first =>
    clear bA bB z4 HOW2 HY2 HYN HLK HBA HNM HYO HOL hXl0 hs1 hs2
    go_region_held3 (fun w' => w'.cell? ⟨B, 0, none⟩ = some (.pointer (some ⟨P, 0, none⟩)) ∧ w'.cell? ⟨X, 1, none⟩ = some (.int .i64 a) ∧ w'.cell? ⟨X, 2, none⟩ = some (.int .i64 b)) (first | go_keep | exact keepA3 _ _ _ _ _ _ hBn hXn ⟨s1, s2, s3⟩) (first | (go_at_call 24; (with_reducible refine (pay_any NP P s g v h xs vl vs (ds.length : Nat) nx ps ks (some ⟨K2, 0, none⟩) om om ys a b w2.drew hs hg hg2 HUA.out hxl HV.out HYA.out HYL.out hmd HPL2.out HKL2.out).mono ?_); rintro e w3 ⟨v0, v1, v2, v3, v4, v5, er, rfl, hpayA⟩; obtain ⟨n0, t, ai, ni, ci, ap, np, cp, ak, nk, ck, ch, rfl, rfl, rfl, rfl, rfl, rfl⟩ := payOkR_vals hpayA; have hS9 := HKA.out _ (payOkR_fr hpayA); obtain ⟨s1, s2, s3⟩ := hS9; have hBw : B < w3.heap.size := cell_lt s1; have hXw : X < w3.heap.size := cell_lt s2; have HPA : Hid (PayOkR NP P s g v h xs vl vs (ds.length : Nat) nx ps ks ys a b (.int .i64 n0) (.int .i64 t) (.slice ai ni ci) (.slice ap np cp) (.slice ak nk ck) (.int .i64 ch) er w2.drew w3) := hpayA; clear hpayA) | (go_at_call 24; (with_reducible refine (pay_any NP P s g v h xs vl vs (ds.length : Nat) nx ps ks (some ⟨K2, 0, none⟩) om om ys a b ((w2.alloc Z34).drew) hs hg hg2 HUB.out hxl HV.out HYB.out HYL.out hmd HPL2.out HKL2.out).mono ?_); rintro e w3 ⟨v0, v1, v2, v3, v4, v5, er, rfl, hpayB⟩; obtain ⟨n0, t, ai, ni, ci, ap, np, cp, ak, nk, ck, ch, rfl, rfl, rfl, rfl, rfl, rfl⟩ := payOkR_vals hpayB; have hS9 := HKB.out _ (payOkR_fr hpayB); obtain ⟨s1, s2, s3⟩ := hS9; obtain ⟨k0, k1, k2, k3, k4, k5, kz⟩ := (HQ2.out _ _ _ _ _ _ _ _ hpayB).1; have kf0 := kz 0; have kf1 := kz 1; have kf2 := kz 2; have kf3 := kz 3; have kf4 := kz 4; have kf5 := kz 5; have HPB : Hid (PayOkR NP P s g v h xs vl vs (ds.length : Nat) nx ps ks ys a b (.int .i64 n0) (.int .i64 t) (.slice ai ni ci) (.slice ap np cp) (.slice ak nk ck) (.int .i64 ch) er ((w2.alloc Z34).drew) w3) := hpayB; clear kz hpayB))
    all_goals first
      | (have HYA : Hid _ := HQ1.out _ _ _ _ _ _ _ _ HPA.out
         go_wp2_with fail
         go_meet
         exact ⟨w3.heap.size, n0, t, ai, ni, ci, ap, np, cp, ak, nk, ck, ch, er, rfl, rfl, HYA.out⟩)
      | (have HYA : Hid _ := (HQ2.out _ _ _ _ _ _ _ _ HPB.out).2
         go_wp2_with fail
         go_meet
         exact ⟨K0, n0, t, ai, ni, ci, ap, np, cp, ak, nk, ck, ch, er, rfl, rfl, HYA.out⟩)
  case rest =>
    obtain ⟨K, n0, t, ai, ni, ci, ap, np, cp, ak, nk, ck, ch, er, rfl, rfl, hya⟩ := hcut
    have HQ : Hid (PQ NP P s g v h xs vl vs (ds.length : Nat) nx ps ks ys a b (.int .i64 n0) (.int .i64 t) (.slice ai ni ci) (.slice ap np cp) (.slice ak nk ck) (.int .i64 ch) er K w w2 wc) := hya.out
    clear hya HUA HUB HYA HYB HKA HSB HKB HQ1 HQ2 hK0 HK0 hX2l hB2l hXn hBn bA bB d0
    obtain ⟨k0, k1, k2, k3, k4, k5, _⟩ := HQ.out.vb
    have q2 := HQ.out.fr.cell z2 hXP
    have q4 := HQ.out.fr.cell z4 hXP
    have HYC : Hid (OutsAt wc oa ys) := outs_frQ HQ.out.fr HY2.out (fun e x hx e2 => by
      have h1 := HYO.out e x hx
      have h2 : base ≤ x.block := by
        rcases e2 with e2 | e2
        · exact HBA.out _ (Or.inl (Or.inl e2))
        · exact HBA.out _ (Or.inr (Or.inl (Or.inr (Or.inl e2))))
      omega)
    have HOWC : Hid (OwnRec CoinD.l 70 6 wc w0.heap.size (.slice al nl cl) (ownOf xs s g)) := HQ.out.fr.own HOW2.out (fun k hk e => by
      have h1 := (HOW2.out.blk k hk).1
      have h2 : k < w.heap.size := by
        rcases e with e | e
        · rw [e]; exact cell_lt HU.out.pp.pu.c0
        · exact (HU.out.pp.ls.ol.blk k e).2
      have := HXe.out
      omega)
    have HM : Hid (BkM ND wc B P (.slice ad ds.length cd) ds) := HU.out.mid (payOkR_fr HQ.out.pay)
    clear HY2 HOW2 z1 z2 z4 HYN
    rcases HQ.out.pay with ⟨x, hz, he, e0, e1, e2, e3, e4, e5, hbl⟩ | ⟨cs, zs, ch2, hz, he, e0, e1, e5, hgo⟩
    · have hx0 := payZ_err hz
      rw [← he] at hx0
      have hx1 : (er == 0) = false := by simpa using hx0
      cases e0
      cases e1
      cases e2
      cases e3
      cases e4
      cases e5
      have HBL : Hid (Below w.heap.size w wc) := hbl
      clear hbl hz
      go_wp2_with fail
      refine (nothing_zero _).mono ?_
      rintro e w5 ⟨rfl, hb5⟩
      have HF : Hid (Below w.heap.size w w5) := below_blk HBL.out hb5
      go_wp2
      go_ret
      exact ⟨rfl, Fr.of_below HF.out _, ds, ⟨_, _, _, _, _, _, _, _, HU.out.grown HF.out, HLK.out, HBA.out⟩, by omega⟩
    · cases e0
      cases e1
      cases e5
      subst he
      have HPF : Hid (PayF xs s g ps ks ys cs zs) := pay_facts hz HNM.out
      have HGO : Hid (PayGo NP P s g v h xs vl vs (ds.length : Nat) nx ps ks b cs zs ch (.slice ai ni ci) (.slice ap np cp) (.slice ak nk ck) w wc) := hgo
      obtain ⟨vl', gc, cc, go, co, _, hpd, _, _⟩ := hgo
      have hni := own_len inC3 hpd.oi
      have hnk := own_len kC2 hpd.ok
      have hnp := own_len kv2 hpd.oo
      have hcap := own_cap hpd.oo
      have HI : Hid (RecAt inC wc ai cs) := own_atS inC3 hpd.oi
      have HK : Hid (RecAt kC wc ak cs) := own_atS kC2 hpd.ok
      have HZ : Hid (OutsAt wc ap zs) := rec_outs (own_atS kv2 hpd.oo)
      have hl0 := HPF.out.l0
      have hl10 := HPF.out.l10
      have hzl := HPF.out.zl
      have hy1 := HYL.out
      have hnln := own_len coin6 HOWC.out
      have HNL : Hid ((ownOf xs s g).length = nl) := hnln
      have HOC : Hid (RecAt CoinD.l wc al (ownOf xs s g)) := own_atS coin6 HOWC.out
      have hnl5 : nl ≤ 5000 := HOL.out
      have hkk : nk = ni := by omega
      subst hkk
      have homp : om ≤ np := by omega
      have homc : om ≤ cp := by omega
      have HCN : Hid (cs.length = nk) := hni
      have HFR : Hid (∀ y ∈ cs, y ∈ ownOf xs s g ∧ takenD ds y.id y.pos = false ∧ sealD ds y.br y.ix = false) := fun y hy => by
        have h1 := HPF.out.own y hy
        have h2 := h1.2
        rw [HLK.out.free, Bool.and_eq_true] at h2
        exact ⟨h1.1, by simpa using h2.1, by simpa using h2.2⟩
      have hn0 : 0 < nk := by omega
      have hn10 : nk ≤ 10 := by omega
      clear hpd hz hni hnk hnp hcap hl0 hl10 hzl hy1 hnln HOWC
      go_wp2_with fail
      refine (apart_any ND B ad cd ds (ds.length : Nat) b ch ai nk ci ap np cp ak ck cs al nl cl (ownOf xs s g) _ HM.out.b2 (own_atS deed11 HM.out.od) HM.out.ok hdl HI.out HK.out HCN.out hn0 hn10 HOC.out HNL.out hnl5 HFR.out (nm_uq (own_nm xs s g HNM.out)) HPF.out.nd).mono ?_
      rintro e w4 ⟨rfl, hb4⟩
      have HB4 : Hid (Below wc.heap.size wc w4) := hb4
      have HM4 : Hid (BkM ND w4 B P (.slice ad ds.length cd) ds) := HM.out.grown hb4
      have HZ4 : Hid (OutsAt w4 ap zs) := HZ.out.grown hb4
      have HY4 : Hid (OutsAt w4 oa ys) := HYC.out.grown hb4
      have r0 := (hb4.cell (p := ⟨K, 0, none⟩) (cell_lt k0)).trans k0
      have r1 := (hb4.cell (p := ⟨K, 1, none⟩) (cell_lt k1)).trans k1
      have r2 := (hb4.cell (p := ⟨K, 2, none⟩) (cell_lt k2)).trans k2
      have r3 := (hb4.cell (p := ⟨K, 3, none⟩) (cell_lt k3)).trans k3
      have r4 := (hb4.cell (p := ⟨K, 4, none⟩) (cell_lt k4)).trans k4
      have r5 := (hb4.cell (p := ⟨K, 5, none⟩) (cell_lt k5)).trans k5
      have t2 := (hb4.cell (p := ⟨X, 2, none⟩) (cell_lt q2)).trans q2
      have t4 := (hb4.cell (p := ⟨X, 4, none⟩) (cell_lt q4)).trans q4
      have c2 := HM4.out.b2
      clear hb4 k0 k1 k2 k3 k4 k5 q2 q4 HM HZ HYC HI HK HOC
      have hompI : ¬ ((np : Int) < (om : Int)) := by omega
      go_wp2
      go_quiet (fail)
      go_upto_region 11 with fail
      have b5 : Below w4.heap.size w4 (w4.drewN nq) := below_drewN (Below.refl _ _) nq
      have HB5 : Hid (Below wc.heap.size wc (w4.drewN nq)) := below_blk HB4.out b5
      have HM5 : Hid (BkM ND (w4.drewN nq) B P (.slice ad ds.length cd) ds) := HM4.out.grown b5
      have HZ5 : Hid (OutsAt (w4.drewN nq) ap ys) := outs_pre (HZ4.out.grown b5) HYL.out HPF.out.zt
      have HY5 : Hid (OutsAt (w4.drewN nq) oa ys) := HY4.out.grown b5
      have HVB5 : Hid (VB (w4.drewN nq) K (.int .i64 (ds.length : Nat)) (.int .i64 b) (.slice ai nk ci) (.slice ap np cp) (.slice ak nk ck) (.int .i64 ch)) := (HQ.out.vb.grown HB4.out).grown b5
      have u4 := (b5.cell (p := ⟨X, 4, none⟩) (cell_lt t4)).trans t4
      clear HB4 HM4 HZ4 HY4 r0 r1 r2 r3 r4 r5 t2 t4 c2 b5
      generalize w4.drewN nq = w5 at *
      have b5d : Below w5.heap.size w5 w5.drew := (Below.refl _ _).drew
      have HZd : Hid (OutsAt w5.drew ap ys) := HZ5.out.grown b5d
      have HYd : Hid (OutsAt w5.drew oa ys) := HY5.out.grown b5d
      have HKX : Hid (w5.drew.cell? ⟨K, 3, none⟩ = some (.slice ap np cp) ∧ w5.drew.cell? ⟨X, 4, none⟩ = some (.slice oa om od)) := ⟨HVB5.out.c3, u4⟩
      have HB5d : Hid (Below wc.heap.size wc w5.drew) := below_blk HB5.out b5d
      have HM5d : Hid (BkM ND w5.drew B P (.slice ad ds.length cd) ds) := HM5.out.grown b5d
      have HV5d : Hid (VB w5.drew K (.int .i64 (ds.length : Nat)) (.int .i64 b) (.slice ai nk ci) (.slice ap np cp) (.slice ak nk ck) (.int .i64 ch)) := HVB5.out.grown b5d
      have v3 := HVB5.out.c3
      clear b5d HZ5 HY5 HM5 HVB5 HB5
      have homI : (om : Int) ≤ (cp : Int) := by omega
      have homI0 : (0 : Int) ≤ (om : Int) := by omega
      go_region_held3 (fun w' => w'.cell? ⟨K, 3, none⟩ = some (.slice ap np cp) ∧ w'.cell? ⟨X, 4, none⟩ = some (.slice oa om od)) (first | go_keep | with_reducible exact HKX.out | exact keepB2' hb6 HKX.out) ((go_at_call 38; (with_reducible refine (kOuts_any ap oa om cp od ys w5.drew HZd.out HYd.out HYL.out (by omega)).mono ?_); rintro e w6 ⟨rfl, hb6⟩))
      have HB6 : Hid (Below wc.heap.size wc w6) := below_blk HB5d.out hb6
      have HM6 : Hid (BkM ND w6 B P (.slice ad ds.length cd) ds) := HM5d.out.grown hb6
      have HV6 : Hid (VB w6 K (.int .i64 (ds.length : Nat)) (.int .i64 b) (.slice ai nk ci) (.slice ap np cp) (.slice ak nk ck) (.int .i64 ch)) := HV5d.out.grown hb6
      clear HB5d HM5d HV5d HKX HZd HYd hb6 v3 u4
      obtain ⟨k0, k1, k2, k3, k4, k5, _⟩ := HV6.out
      have c2 := HM6.out.b2
      have f2 := HM6.out.fb 2
      have hBl6 : B < w6.heap.size := cell_lt c2
      have n2 := World.new_ne w6 ⟨B, 2, none⟩ c2
      have hvb : some B ≠ (Value.slice ad ds.length cd).ownBlock := fun e => by have := (HM6.out.od.blk B e.symm).1; omega
      have HOD : Hid (OwnRec DeedD.v 98 11 w6 (B + 1) (.slice ad ds.length cd) ds) := HM6.out.od
      have HFI : Hid (∀ (w1 : World) (gl capl : Nat), OwnRec DeedD.v 98 11 w1 (B + 1) (.slice (some ⟨gl, 0, none⟩) (ds.length + 1) capl) (ds ++ [⟨(ds.length : Nat), b, ai, nk, ci, ap, np, cp, ak, nk, ck, ch, 0, none, 0, 0, none, 0, 0, true, false, cs⟩]) → ((w6.alloc (.cells #[.int .i64 (ds.length : Nat), .int .i64 b, .slice ai nk ci, .slice ap np cp, .slice ak nk ck, .int .i64 ch, .int .i64 0, .slice none 0 0, .slice none 0 0, .bool true, .bool false] 98)).drew).grownBy w1 (Value.slice ad ds.length cd).ownBlock → ((Value.slice ad ds.length cd).ownBlock = some gl ∨ ((w6.alloc (.cells #[.int .i64 (ds.length : Nat), .int .i64 b, .slice ai nk ci, .slice ap np cp, .slice ak nk ck, .int .i64 ch, .int .i64 0, .slice none 0 0, .slice none 0 0, .bool true, .bool false] 98)).drew).heap.size ≤ gl) → BkQ base (w1.setCell ⟨B, 2, none⟩ (.slice (some ⟨gl, 0, none⟩) (ds.length + 1) capl)) B P s g h xs ks (ds ++ [⟨(ds.length : Nat), b, ai, nk, ci, ap, np, cp, ak, nk, ck, ch, 0, none, 0, 0, none, 0, 0, true, false, cs⟩]) ∧ Fr (fun k => base ≤ k) w (w1.setCell ⟨B, 2, none⟩ (.slice (some ⟨gl, 0, none⟩) (ds.length + 1) capl))) := fun w1 gl capl h1 h2 h3 => HU.out.push HLK.out HBA.out HGO.out (below_blk HB6.out (((Below.refl _ _).alloc (Nat.le_refl _) _).drew)) h1 h2 h3 rfl rfl rfl rfl rfl rfl rfl rfl HPF.out.l10
      clear HM6 HV6 HGO HQ
      go_upto_region 12 with fail
      go_region_law (refine step_appR 88 160 _ Try.underlying88 info98 rfl (by decide) deed11 deed_one _ ?_ (.tmp 88) (.tmp 91) ?_ (B + 1) w6.heap.size 1 (.slice ad ds.length cd) ds ⟨(ds.length : Nat), b, ai, nk, ci, ap, np, cp, ak, nk, ck, ch, 0, none, 0, 0, none, 0, 0, true, false, cs⟩ ?_ ?_ ?_ ?_ ?_ ?_ ?_ ?_; rfl; rfl; rfl; rfl; exact OwnRec.drew (HOD.out.alloc _); exact VRow.drew (vrow_new w6 _ _); (rw [World.size_drew, World.size_alloc]; omega); (unfold maxLen; omega); omega; intro gl capl w1 hown1 hg1 hl1 hlt1; have r0 := keepO hg1 c2 hvb; have r1 := keepF hg1 f2 hBl6 hvb)
      all_goals
        have HF9 : Hid _ := HFI.out w1 gl capl hown1 hg1 hl1
        go_wp2
        go_ret
        exact ⟨rfl, HF9.out.2, _, HF9.out.1, by simp⟩
end Go.Proofs.Ytffgpepngcnjeab

namespace Go.Proofs.Ytffgpepngcnjeab
open Go.RowKit
/-- the purse behind Abandon -/
theorem PP.given {N : Nat → Prop} {w w' : World} {P : Nat} {s : Int} {g : Nat} {v : Value} {h : Int} {xs : List Cel} {vl vs vl' : Value} {md nx : Int} {ps qs : List PayD} {ks : List (Int × Int)} (u : PP N w P s g v h xs vl vs md nx ps ks) (hl : LsAt N w' P 4 (P + 1) vl' vs md nx qs ks) (hf : Fr (fun q => q = P) w w') (hnew : ∀ q, vl'.ownBlock = some q → w.heap.size ≤ q) (hc : ∀ j, j ≠ 4 → w'.cell? ⟨P, j, none⟩ = w.cell? ⟨P, j, none⟩) : PP N w' P s g v h xs vl' vs md nx qs ks := by
  refine ⟨⟨(hc 2 (by omega)).trans u.pu.c0, (hc 3 (by omega)).trans u.pu.c1, hl.fz 2, hl.fz, hf.own u.pu.own (fun k hk e => ?_), fun q hq => ⟨(u.pu.ext q hq).1, (u.pu.ext q hq).2.1, ?_⟩⟩, hl, fun k hk => ⟨fun e => ?_, (u.dj k hk).2⟩⟩
  · have := (u.pu.own.blk k hk).1; omega
  · have hq2 : q.1 ≠ 4 := by
      simp only [List.mem_cons, List.not_mem_nil, or_false] at hq
      rcases hq with rfl | rfl
      · show (0 : Nat) ≠ 4; omega
      · show (1 : Nat) ≠ 4; omega
    exact (hc q.1 hq2).trans (u.pu.ext q hq).2.2
  · have h1 := hnew k e
    have h2 := (u.pu.own.blk k hk).2
    omega
/-- what pay answers, whatever was paid and given up ahead of it -/
def PGen (N : Nat → Prop) (P : Nat) (s : Int) (g : Nat) (v : Value) (h : Int) (xs : List Cel) (vl vs : Value) (md nx : Int) (ys : List (Int × Int)) (r : Int) (can : Bool) (n0 : Int) (v2 v3 v4 : Value) (ch er : Int) (w w' : World) : Prop :=
  (can = false ∧ er = 9 ∧ Below w.heap.size w w') ∨
  (can = true ∧ er = 10 ∧ unpZ xs s g nx = none ∧ (∃ L c, chooseZ r (orderZ r (ownOf xs s g)) (targetZ ys r) = some (L, c) ∧ 0 < c) ∧ Below w.heap.size w w') ∨
  (can = true ∧ er = 0 ∧ n0 = md ∧ ∃ L ex tag, Paid1 s g xs nx ys r L ex ch ∧ PayGo N P s g v h xs vl vs md nx [] [] tag L (ys ++ ex) ch v2 v3 v4 w w')
end Go.Proofs.Ytffgpepngcnjeab

namespace Go.Proofs.Ytffgpepngcnjeab
open Go.RowKit
def DeedD.off (a : DeedD) : DeedD := { a with lv := false }
def offD (ms : List DeedD) (n : Nat) : List DeedD := ms.set n (ms.getD n dDD).off
theorem live_num {ps : List PayD} {ks : List (Int × Int)} {ms : List DeedD} (h : LkB ps ks ms) (k : Int) : (∃ p ∈ ps, p.num = k) ↔ ∃ i : Nat, k = (i : Int) ∧ i < ms.length ∧ (ms.getD i dDD).lv = true := by
  constructor
  · rintro ⟨p, hp, rfl⟩
    have h1 : p.b ∈ ps.map PayD.b := List.mem_map_of_mem hp
    rw [h.live] at h1
    obtain ⟨a, ha, e⟩ := List.mem_map.1 h1
    obtain ⟨ha1, ha2⟩ := List.mem_filter.1 ha
    obtain ⟨i, hi, rfl⟩ := List.mem_iff_getElem.1 ha1
    refine ⟨i, ?_, hi, ?_⟩
    · have h2 : (ms[i]).num = p.num := congrArg Prod.fst e
      have h3 := h.num i hi
      simp [List.getD, hi] at h3
      rw [← h2, h3]
    · simpa [List.getD, hi] using ha2
  · rintro ⟨i, rfl, hi, hl⟩
    have h1 : ms[i] ∈ ms.filter DeedD.lv := List.mem_filter.2 ⟨List.getElem_mem hi, by simpa [List.getD, hi] using hl⟩
    have h2 : (ms[i]).b ∈ (ms.filter DeedD.lv).map DeedD.b := List.mem_map_of_mem h1
    rw [← h.live] at h2
    obtain ⟨p, hp, e⟩ := List.mem_map.1 h2
    refine ⟨p, hp, ?_⟩
    have h3 := h.num i hi
    simp [List.getD, hi] at h3
    have h4 : p.num = (ms[i]).num := congrArg Prod.fst e
    rw [h4, h3]
theorem left_same (ps : List PayD) (k : Int) : (leftZ ps k).length = ps.length ↔ ¬ ∃ p ∈ ps, p.num = k := by
  unfold leftZ
  rw [List.length_filter_eq_length_iff]
  constructor
  · rintro h ⟨p, hp, e⟩
    have := h p hp
    simp [e] at this
  · intro h p hp
    simp
    exact fun e => h ⟨p, hp, e⟩
theorem filter_off (ms : List DeedD) (f : DeedD → Int) (k : Int) : ∀ (off : Nat), (∀ i, i < ms.length → f (ms.getD i dDD) = ((off + i : Nat) : Int)) → ∀ n, n < ms.length → k = ((off + n : Nat) : Int) → (ms.filter fun a => a.lv && f a != k) = (offD ms n).filter DeedD.lv := by
  induction ms with
  | nil => intro off _ n hn; exact absurd hn (Nat.not_lt_zero _)
  | cons a r ih =>
    intro off h n hn hk
    have h0 : f a = ((off : Nat) : Int) := by simpa using h 0 (by simp)
    have hr : ∀ i, i < r.length → f (r.getD i dDD) = ((off + 1 + i : Nat) : Int) := fun i hi => by
      have := h (i + 1) (by simp; omega)
      rw [show off + (i + 1) = off + 1 + i by omega] at this
      simpa using this
    cases n with
    | zero =>
      have e1 : offD (a :: r) 0 = a.off :: r := rfl
      rw [e1, List.filter_cons, List.filter_cons]
      rw [if_neg (by simp [h0, hk]), if_neg (by simp [DeedD.off])]
      refine List.filter_congr (fun b hb => ?_)
      obtain ⟨i, hi, rfl⟩ := List.mem_iff_getElem.1 hb
      have h1 := hr i hi
      simp [List.getD, hi] at h1
      have : f r[i] ≠ k := by rw [h1, hk]; omega
      simp [this]
    | succ n =>
      have e1 : offD (a :: r) (n + 1) = a :: offD r n := rfl
      have hne : f a ≠ k := by rw [h0, hk]; omega
      have := ih (off + 1) hr n (by simpa using hn) (by rw [hk]; congr 1; omega)
      rw [e1, List.filter_cons, List.filter_cons, this]
      simp [hne]
theorem offD_len (ms : List DeedD) (n : Nat) : (offD ms n).length = ms.length := by simp [offD]
theorem offD_get (ms : List DeedD) (n i : Nat) : (offD ms n).getD i dDD = if i = n ∧ n < ms.length then (ms.getD n dDD).off else ms.getD i dDD := by
  unfold offD
  rw [List.getD, List.getElem?_set]
  split
  · rename_i e
    subst e
    split
    · rename_i h; rw [if_pos ⟨rfl, h⟩]; rfl
    · rename_i h
      rw [if_neg (fun e => h e.2)]
      simp [List.getD, h]
  · rename_i e
    rw [if_neg (fun h => e h.1.symm)]
    rfl
theorem any_set {α : Type} (f : α → Bool) (l : List α) (d : α) (n : Nat) (x : α) (hx : n < l.length → f x = f (l.getD n d)) : (l.set n x).any f = l.any f := by
  induction l generalizing n with
  | nil => rfl
  | cons a r ih =>
    cases n with
    | zero =>
      have := hx (by simp)
      simp at this
      simp [this]
    | succ n =>
      have := ih n (fun h => by simpa using hx (by simpa using h))
      simp [this]
theorem LkB.off {ps : List PayD} {ks : List (Int × Int)} {ms : List DeedD} (h : LkB ps ks ms) {n : Nat} (hn : n < ms.length) : LkB (leftZ ps (n : Nat)) ks (offD ms n) := by
  refine ⟨?_, fun i hi => ?_, fun b i => ?_⟩
  · have e1 : (leftZ ps (n : Nat)).map PayD.b = (ps.map PayD.b).filter fun t => t.1 != ((n : Nat) : Int) := by
      unfold leftZ
      rw [List.filter_map]
      rfl
    rw [e1, h.live, List.filter_map, List.filter_filter]
    congr 1
    rw [← filter_off ms DeedD.num (n : Nat) 0 (fun i hi => by rw [Nat.zero_add]; exact h.num i hi) n hn (by rw [Nat.zero_add])]
    refine List.filter_congr (fun a _ => ?_)
    show ((a.num != (n : Nat)) && a.lv) = _
    rw [Bool.and_comm]
  · rw [offD_len] at hi
    rw [offD_get]
    split
    · rename_i e
      obtain ⟨rfl, _⟩ := e
      exact h.num _ hn
    · exact h.num i hi
  · rw [h.used]
    unfold sealD offD
    exact (any_set (fun a : DeedD => a.cs.any fun x => a.sg && (x.br == b && x.ix == i)) ms dDD n (ms.getD n dDD).off (fun _ => rfl)).symm
variable {NP ND : Nat → Prop} {w : World} {B P : Nat} {s : Int} {g : Nat} {v : Value} {h : Int} {xs : List Cel} {vl vs : Value} {md nx : Int} {ps : List PayD} {ks : List (Int × Int)} {vd : Value} {ds : List DeedD}
theorem Bk.give {w' : World} {vl' : Value} {qs : List PayD} (u : Bk NP ND w B P s g v h xs vl vs md nx ps ks vd ds) (hl : LsAt NP w' P 4 (P + 1) vl' vs md nx qs ks) (hf : Fr (fun q => q = P) w w') (hnew : ∀ q, vl'.ownBlock = some q → w.heap.size ≤ q) (hc : ∀ j, j ≠ 4 → w'.cell? ⟨P, j, none⟩ = w.cell? ⟨P, j, none⟩) : Bk NP ND w' B P s g v h xs vl' vs md nx qs ks vd ds := by
  have hBP : ¬ B = P := fun e => (u.dj P (Or.inl (Or.inl rfl))).1 e.symm
  have hBl : B < w.heap.size := cell_lt u.b0
  refine ⟨u.pp.given hl hf hnew hc, hf.cell u.b0 hBP, hf.cell u.b1 hBP, hf.cell u.b2 hBP, fun j => (hf.frozen hBl hBP).trans (u.fb j), hf.own u.od (fun k hk e => ?_), fun d hd => (u.ok d hd).fr hf (fun k hk e => ?_), fun k hk => ?_, fun k hk => ⟨Nat.lt_of_lt_of_le (u.nd k hk).1 hf.size, (u.nd k hk).2⟩⟩
  · exact (u.dj k (Or.inl (Or.inl e))).2.1 hk
  · exact (u.dj k (Or.inl (Or.inl e))).2.2 hk
  · rcases hk with hk | hk | hk
    · exact u.dj k (Or.inl hk)
    · rcases hk with hk | hk | hk
      · exact u.dj k (Or.inr (Or.inl (Or.inl hk)))
      · have h1 := hnew k hk
        refine ⟨by omega, fun e => ?_, fun e => ?_⟩
        · have := (u.od.blk k e).2; omega
        · have := (u.nd k e).1; omega
      · exact u.dj k (Or.inr (Or.inl (Or.inr (Or.inr hk))))
    · exact u.dj k (Or.inr (Or.inr hk))
theorem Bk.offd {gd cd : Nat} (u : Bk NP ND w B P s g v h xs vl vs md nx ps ks (.slice (some ⟨gd, 0, none⟩) ds.length cd) ds) (n : Nat) (hn : n < ds.length) : Bk NP ND (w.setCell ⟨gd, n * 11 + 9, none⟩ (.bool false)) B P s g v h xs vl vs md nx ps ks (.slice (some ⟨gd, 0, none⟩) ds.length cd) (offD ds n) ∧ Fr (fun k => k = gd) w (w.setCell ⟨gd, n * 11 + 9, none⟩ (.bool false)) := by
  have hf : Fr (fun k => k = gd) w (w.setCell ⟨gd, n * 11 + 9, none⟩ (.bool false)) := (Fr.refl _ w).set gd (n * 11 + 9) _ (fun _ => rfl)
  have hgb := u.od.blk gd rfl
  have hB : ¬ B = gd := by omega
  have hx : ∀ k, (chE P v k ∨ lsE P vl vs k ∨ NP k) → ¬ k = gd := fun k hk e => (u.dj k hk).2.1 (by rw [e]; rfl)
  have hnd : ∀ k, ND k → ¬ k = gd := fun k hk e => (u.nd k hk).2.2 (by rw [e]; rfl)
  have hput := u.od.put deed11 n 9 hn (by omega) (.bool false) (ds.getD n dDD).off (by simp [List.getD, hn, DeedD.v, DeedD.off])
  refine ⟨⟨u.pp.fr hf (fun k hk => hx k (Or.inl hk)) (fun k hk => hx k (Or.inr (Or.inl hk))) (fun k hk => hx k (Or.inr (Or.inr hk))), hf.cell u.b0 hB, hf.cell u.b1 hB, hf.cell u.b2 hB, fun j => (hf.frozen (cell_lt u.b0) hB).trans (u.fb j), hput, fun d hd => ?_, u.dj, fun k hk => ⟨Nat.lt_of_lt_of_le (u.nd k hk).1 hf.size, (u.nd k hk).2⟩⟩, hf⟩
  have hd2 : d ∈ ds ∨ d = (ds.getD n dDD).off := List.mem_or_eq_of_mem_set hd
  rcases hd2 with hd2 | hd2
  · exact (u.ok d hd2).fr hf hnd
  · have h1 := (u.ok _ (getD_mem ds dDD n hn)).fr hf hnd
    rw [hd2]
    exact ⟨h1.ri, h1.rk, h1.ln, h1.lq, h1.b1, h1.ni, h1.nk⟩
def liveD (ds : List DeedD) (n : Int) : Bool := decide (0 ≤ n ∧ n < (ds.length : Nat)) && (ds.getD n.toNat dDD).lv
theorem LkB.alive (hl : LkB ps ks ds) (n : Int) : (leftZ ps n).length = ps.length ↔ liveD ds n = false := by
  rw [left_same, live_num hl]
  unfold liveD
  constructor
  · intro h1
    cases e : (decide (0 ≤ n ∧ n < (ds.length : Nat)) && (ds.getD n.toNat dDD).lv)
    · rfl
    · rw [Bool.and_eq_true, decide_eq_true_iff] at e
      exact absurd ⟨n.toNat, by omega, by omega, e.2⟩ h1
  · rintro h1 ⟨i, rfl, hi, hv⟩
    have e1 : ((i : Nat) : Int).toNat = i := by omega
    rw [e1, hv, Bool.and_true, decide_eq_false_iff_not] at h1
    omega
set_option maxRecDepth 100000 in
set_option maxHeartbeats 1000000 in
theorem bLive_any (D : Nat) (ao : Option Addr) (c : Nat) (ds : List DeedD) (n : Int) (w : World) (hp : w.cell? ⟨D, 2, none⟩ = some (.slice ao ds.length c)) (hx : RecAt DeedD.v w ao ds) :
    Calls Try.prog 39 #[.pointer (some ⟨D, 0, none⟩), .int .i64 n] w fun e w' => e = .returned (.bool (liveD ds n)) ∧ Below w.heap.size w w' := by
  have HX : Hid (RecAt DeedD.v w ao ds) := hx
  clear hx
  by_cases h0 : 0 ≤ n
  · by_cases h1 : n < (ds.length : Nat)
    · obtain ⟨k, rfl⟩ : ∃ k : Nat, n = k := ⟨n.toNat, by omega⟩
      have hk : k < ds.length := by omega
      rcases HX.out with hnil | ⟨gg, off, rfl, hrow⟩
      · rw [hnil] at hk; simp at hk
      have m9 := (deedCells hrow k hk).c9
      have HE : Hid (liveD ds (k : Nat) = (ds.getD k dDD).lv) := by
        show _ = _
        unfold liveD
        rw [decide_eq_true (by omega : 0 ≤ ((k : Nat) : Int) ∧ ((k : Nat) : Int) < (ds.length : Nat)), Bool.true_and]
        rfl
      generalize (ds.getD k dDD).lv = lv at *
      have h0' : (0 : Int) ≤ (k : Int) := h0
      clear hrow
      go_enter Try.func39, Try.ntmps39
      cases lv
      · go_wp2
        go_ret
        exact ⟨ret_bool HE.out.symm, Below.refl _ _⟩
      · go_wp2
        go_ret
        exact ⟨ret_bool HE.out.symm, Below.refl _ _⟩
    · have HE : Hid (liveD ds n = false) := by
        show _ = _
        unfold liveD
        rw [decide_eq_false (by omega), Bool.false_and]
      go_enter Try.func39, Try.ntmps39
      go_wp2
      go_ret
      exact ⟨ret_bool HE.out.symm, Below.refl _ _⟩
  · have HE : Hid (liveD ds n = false) := by
      show _ = _
      unfold liveD
      rw [decide_eq_false (by omega), Bool.false_and]
    have h2 : ¬ n ≥ 0 := by omega
    go_enter Try.func39, Try.ntmps39
    go_wp2
    go_ret
    exact ⟨ret_bool HE.out.symm, Below.refl _ _⟩
set_option maxRecDepth 100000 in
set_option maxHeartbeats 1000000 in
theorem bGives_any {base : Nat} (w : World) (u : Bk NP ND w B P s g v h xs vl vs (ds.length : Nat) nx ps ks vd ds) (hlk : LkB ps ks ds) (hba : ∀ k, (chE P v k ∨ lsE P vl vs k ∨ NP k ∨ k = B ∨ vd.ownBlock = some k ∨ ND k) → base ≤ k) (hdl : ds.length ≤ 1000000000) (n : Int) :
    Calls Try.prog 18 #[.pointer (some ⟨B, 0, none⟩), .int .i64 n] w fun e w' => e = .returned (.bool true) ∧ Fr (fun k => base ≤ k) w w' ∧ ∃ ds', BkQ base w' B P s g h xs ks ds' ∧ ds'.length ≤ ds.length := by
  have HU : Hid (Bk NP ND w B P s g v h xs vl vs (ds.length : Nat) nx ps ks vd ds) := u
  have HLK : Hid (LkB ps ks ds) := hlk
  have HBA : Hid (∀ k, (chE P v k ∨ lsE P vl vs k ∨ NP k ∨ k = B ∨ vd.ownBlock = some k ∨ ND k) → base ≤ k) := hba
  have HPL : Hid (ps.length ≤ 1000000000000) := Nat.le_trans hlk.len (by omega)
  obtain ⟨ad, cd, ed, hatd⟩ := OwnRec.at deed11 u.od
  subst ed
  have b2 := u.b2
  have HAD : Hid (RecAt DeedD.v w ad ds) := hatd
  have hbw : base ≤ w.heap.size := by have := hba B (Or.inr (Or.inr (Or.inr (Or.inl rfl)))); have : B < w.heap.size := cell_lt b2; omega
  clear u hlk hba hatd
  go_enter Try.func18, Try.ntmps18
  go_wp2_with fail
  refine (bLive_any B ad cd ds n _ b2 HAD.out).mono ?_
  rintro e w1 ⟨rfl, hb1⟩
  have HU1 : Hid (Bk NP ND w1 B P s g v h xs vl vs (ds.length : Nat) nx ps ks (.slice ad ds.length cd) ds) := HU.out.grown hb1
  have HF1 : Hid (Fr (fun k => base ≤ k) w w1) := Fr.of_below hb1 _
  have hs1 := hb1.size
  clear hb1 b2 HAD HU
  have b0 := HU1.out.b0
  go_wp2_with fail
  refine (pAbandon_any NP P s g v h xs vl vs (ds.length : Nat) nx ps ks n _ HU1.out.pp HPL.out).mono ?_
  rintro e w2 ⟨er, rfl, hab⟩
  rcases hab with ⟨h1, rfl, hb2⟩ | ⟨h1, rfl, vl', hls, hf2, hnew, hcc⟩
  · have hE : liveD ds n = false := (HLK.out.alive n).1 h1
    have HF : Hid (Fr (fun k => base ≤ k) w w2 ∧ BkQ base w2 B P s g h xs ks ds) := ⟨HF1.out.trans (Fr.of_below hb2 _), ⟨_, _, _, _, _, _, _, _, HU1.out.grown hb2, HLK.out, HBA.out⟩⟩
    clear b0 hb2 h1
    rw [hE]
    clear hE
    go_wp2
    go_ret
    exact ⟨rfl, HF.out.1, ds, HF.out.2, Nat.le_refl _⟩
  · have hE : liveD ds n = true := by
      cases e : liveD ds n
      · exact absurd ((HLK.out.alive n).2 e) h1
      · rfl
    have hE2 := hE
    unfold liveD at hE2
    rw [Bool.and_eq_true, decide_eq_true_iff] at hE2
    obtain ⟨⟨hn0, hn1⟩, hlv⟩ := hE2
    obtain ⟨k, rfl⟩ : ∃ k : Nat, n = k := ⟨n.toNat, by omega⟩
    have hk : k < ds.length := by omega
    rw [show ((k : Nat) : Int).toNat = k by omega] at hlv
    have HU2 : Hid (Bk NP ND w2 B P s g v h xs vl' vs (ds.length : Nat) nx (leftZ ps (k : Nat)) ks (.slice ad ds.length cd) ds) := HU1.out.give hls hf2 hnew hcc
    have HBA2 : Hid (∀ q, (chE P v q ∨ lsE P vl' vs q ∨ NP q ∨ q = B ∨ (Value.slice ad ds.length cd).ownBlock = some q ∨ ND q) → base ≤ q) := fun q hq => by
      rcases hq with hq | hq | hq
      · exact HBA.out q (Or.inl hq)
      · rcases hq with hq | hq | hq
        · exact HBA.out q (Or.inr (Or.inl (Or.inl hq)))
        · have := hnew q hq; omega
        · exact HBA.out q (Or.inr (Or.inl (Or.inr (Or.inr hq))))
      · exact HBA.out q (Or.inr (Or.inr hq))
    have HF2 : Hid (Fr (fun q => base ≤ q) w w2) := HF1.out.trans (hf2.weak (fun q _ e => HBA.out q (Or.inl (Or.inl e))))
    clear hls hf2 hnew hcc b0 h1 HU1 HF1
    rcases HU2.out.od.slice deed11 with ⟨_, hnil⟩ | ⟨gd, cd2, e, _, _, hrow, hfz⟩
    · rw [hnil] at hk; simp at hk
    injection e with e1 _ e3
    subst e1
    subst e3
    have b2 := HU2.out.b2
    have m9 := (deedCells hrow k hk).c9
    rw [hlv, Nat.zero_add] at m9
    have f9 := hfz (k * 11 + 9)
    have HFI : Hid (BkQ base (w2.setCell ⟨gd, k * 11 + 9, none⟩ (.bool false)) B P s g h xs ks (offD ds k) ∧ Fr (fun q => base ≤ q) w (w2.setCell ⟨gd, k * 11 + 9, none⟩ (.bool false))) := by
      obtain ⟨h1, h2⟩ := HU2.out.offd k hk
      have h3 : BkQ base (w2.setCell ⟨gd, k * 11 + 9, none⟩ (.bool false)) B P s g h xs ks (offD ds k) := by
        refine ⟨NP, ND, v, vl', vs, nx, leftZ ps (k : Nat), .slice (some ⟨gd, 0, none⟩) ds.length cd, ?_, HLK.out.off hk, HBA2.out⟩
        rw [offD_len]
        exact h1
      exact ⟨h3, HF2.out.trans (h2.weak (fun q _ e => by rw [e]; exact HBA2.out gd (Or.inr (Or.inr (Or.inr (Or.inr (Or.inl rfl)))))))⟩
    have hkI : (k : Int) < (ds.length : Int) := by omega
    have hk0 : (0 : Int) ≤ (k : Int) := by omega
    clear HU2 HBA2 HF2 hrow hfz hlv
    rw [hE]
    clear hE
    go_wp2
    go_ret
    exact ⟨rfl, HFI.out.2, _, HFI.out.1, by rw [offD_len]; exact Nat.le_refl _⟩
end Go.Proofs.Ytffgpepngcnjeab

namespace Go.Proofs.Ytffgpepngcnjeab
open Go.RowKit
/-- no list is too great for a copy -/
structure TxSm (x : TxD) : Prop where
  n : x.n ≤ 3518437208883
  m : x.m ≤ 8796093022208
  d : x.ap = none → x.d = 0
theorem tx_one (x : TxD) : ∀ u ∈ x.v, u.oneCell' = true := by
  intro u hu
  simp [TxD.v] at hu
  rcases hu with rfl | rfl | rfl <;> rfl
theorem info31 : (Try.prog.info? 31).map (fun i => (i.zero, i.size, i.bytes)) = some (some (.agg #[.int .i64 0, .slice none 0 0, .slice none 0 0]), 3, 56) := by kernel_rfl
abbrev OwnTxs (w : World) (base : Nat) (v : Value) (xs : List TxD) : Prop := OwnRec TxD.v 31 3 w base v xs
/-- blocks from B on that are there, but for one row -/
def NB (B : Nat) (w : World) (v : Value) (q : Nat) : Prop := B ≤ q ∧ q < w.heap.size ∧ v.ownBlock ≠ some q
theorem TxOk.weak {N M : Nat → Prop} {w : World} {x : TxD} (h : TxOk N w x) (hm : ∀ k, N k → M k) : TxOk M w x :=
  ⟨h.ins, h.il, h.outs, h.ol, fun e a ha => hm _ (h.na e a ha), fun e a ha => hm _ (h.np e a ha), fun i hi e a ha => hm _ (h.ns i hi e a ha)⟩
theorem fresh_tx {w : World} {B n c m d : Nat} {ai ap : Option Addr} {Q : Nat → InD → Prop} {xs : List InD} {ys : List (Int × Int)} (hf : Fresh w B (.slice ai n c) (.slice ap m d) Q xs ys) (t : Int) : n = xs.length → m = ys.length → TxOk (fun q => B ≤ q ∧ q < w.heap.size) w ⟨t, ai, n, c, ap, m, d, xs, ys⟩ := by
  intro hn hm
  have hr := hf.reads'
  refine ⟨hr.insAt, hn.symm, hr.outsAt, hm.symm, fun _ a ha => ?_, fun _ a ha => ?_, fun i hi _ a ha => ?_⟩
  · exact owns_blk hf.ins a.block (by show (Value.slice ai n c).ownBlock = _; simp only at ha; rw [ha]; rfl)
  · exact owns_blk hf.outs a.block (by show (Value.slice ap m d).ownBlock = _; simp only at ha; rw [ha]; rfl)
  · obtain ⟨j, hj, e⟩ := mem_getD dIn hi
    have := (hf.ok j hj).2.2 a (by rw [← e]; exact ha)
    exact ⟨this.1, this.2.1⟩
theorem fresh_slices {w : World} {B : Nat} {vi vo : Value} {Q : Nat → InD → Prop} {xs : List InD} {ys : List (Int × Int)} (hf : Fresh w B vi vo Q xs ys) : ∃ ai c ap d, vi = .slice ai xs.length c ∧ vo = .slice ap ys.length d := by
  rcases hf.ins.cells with ⟨h1, h2⟩ | ⟨g, c, h1, _⟩
  · rcases hf.outs.cells with ⟨k1, k2⟩ | ⟨g', c', k1, _⟩
    · exact ⟨none, 0, none, 0, by rw [h1, h2]; rfl, by rw [k1, k2]; rfl⟩
    · exact ⟨none, 0, _, c', by rw [h1, h2]; rfl, k1⟩
  · rcases hf.outs.cells with ⟨k1, k2⟩ | ⟨g', c', k1, _⟩
    · exact ⟨_, c, none, 0, h1, by rw [k1, k2]; rfl⟩
    · exact ⟨_, c, _, c', h1, k1⟩
set_option maxRecDepth 100000 in
set_option maxHeartbeats 4000000 in
theorem copyBlock_any (N : Nat → Prop) (ao : Option Addr) (n c : Nat) (bl : List TxD) (w : World) (hb : BlkAt N w ao bl) (hn : bl.length = n) (hsm : ∀ x ∈ bl, TxSm x) (hn2 : n ≤ 2513169434916) (hN : ∀ k, N k → k < w.heap.size) :
    Calls Try.prog 40 #[.slice ao n c] w fun e w' => ∃ ao' c' bl', e = .returned (.slice ao' n c') ∧ bl'.length = n ∧ bl'.map TxD.k = bl.map TxD.k ∧ BlkAt (fun q => w.heap.size ≤ q ∧ q < w'.heap.size) w' ao' bl' ∧ Below w.heap.size w w' := by
  have HB : Hid (BlkAt N w ao bl) := hb
  have HN : Hid (bl.length = n) := hn
  have HSM : Hid (∀ x ∈ bl, TxSm x) := hsm
  have HNK : Hid (∀ k, N k → k < w.heap.size) := hN
  clear hb hn hsm hN
  generalize hBe : w.heap.size = B
  have HBe : Hid (w.heap.size = B) := hBe
  clear hBe
  go_enter Try.func40, Try.ntmps40
  go_wp2
  go_loopw [3, 4] (fun v i wr => ∃ (k : Nat) (bk : List TxD), k ≤ n ∧ i = .int .i64 k ∧ Hid (bk.length = k) ∧ Hid (bk.map TxD.k = (bl.take k).map TxD.k) ∧ OwnTxs wr B v bk ∧ Hid (∀ x ∈ bk, TxOk (NB B wr v) wr x) ∧ Below B w wr) (fun _ i _ => n - (intOf i).toNat)
  case atStart => exact ⟨0, [], Nat.zero_le _, rfl, rfl, rfl, OwnRec.nil _ _ _ _ _, (fun x hx => by simp at hx), Below.refl _ _⟩
  case round =>
    obtain ⟨k, bk, hk, rfl, hbk, hsame, hown, hoks, hbl⟩ := hrel
    have hsz := hbl.size
    rw [HBe.out] at hsz
    by_cases hlt : k < n
    · have hblk := HB.out.fr (Fr.of_below (by rw [HBe.out]; exact hbl) (fun _ => False)) (fun _ _ h => h)
      rcases hblk.row with hnil | ⟨g, off, rfl, hrow⟩
      · have := HN.out; rw [hnil] at this; simp at this; omega
      obtain ⟨t0, t1, t2⟩ := txCells hrow k (by rw [HN.out]; exact hlt)
      have hmem := getD_mem bl dT k (by rw [HN.out]; exact hlt)
      have hok := hblk.ok _ hmem
      have hsm := HSM.out _ hmem
      have HTK : Hid ((bl.take (k + 1)).map TxD.k = (bl.take k).map TxD.k ++ [(bl.getD k dT).k]) := by
        show _ = _
        have h' : k < bl.length := by rw [HN.out]; exact hlt
        rw [List.take_succ_eq_append_getElem h', List.map_append]
        simp only [List.getD, List.getElem?_eq_getElem h', Option.getD_some, List.map_cons, List.map_nil]
      clear hrow hblk hmem
      generalize bl.getD k dT = y at t0 t1 t2 hok hsm HTK
      obtain ⟨yt, yai, yn, yc, yap, ym, yd, yins, yys⟩ := y
      simp only at t0 t1 t2
      have HOK : Hid _ := hok
      have HSy : Hid _ := hsm
      clear hok hsm
      go_wp2_with fail
      refine (copyTx_any yt yai yn yc yap ym yd yins yys _ HOK.out.ins HOK.out.il HOK.out.outs HOK.out.ol HSy.out.n HSy.out.m HSy.out.d).mono ?_
      rintro e w1 ⟨vi, vo, xs', rfl, hfr, hxl, hb1⟩
      obtain ⟨ai', ci, ap', di, rfl, rfl⟩ := fresh_slices hfr
      have htx := fresh_tx hfr yt rfl rfl
      have hK : TxD.k ⟨yt, ai', xs'.length, ci, ap', yys.length, di, xs', yys⟩ = TxD.k ⟨yt, yai, yn, yc, yap, ym, yd, yins, yys⟩ := by
        simp only [TxD.k]
        rw [same_st (by rw [hxl]; exact HOK.out.il.symm) (fun j hj => ((hfr.ok j (by rw [hxl]; have := HOK.out.il; simp only at this; omega)).2.1))]
      have HK : Hid _ := hK
      have HTX : Hid (TxOk (fun q => wr.heap.size ≤ q ∧ q < w1.heap.size) w1 ⟨yt, ai', xs'.length, ci, ap', yys.length, di, xs', yys⟩) := htx
      have hown1 := OwnRec.grown hown hb1
      have hbl1 := hbl.trans (hb1.mono hsz)
      have hsz1 := Nat.le_trans hsz hb1.size
      have hvb := hown.blk
      clear hxl
      generalize xs'.length = n' at *
      generalize yys.length = m' at *
      have HVB : Hid _ := hvb
      have HO1 : Hid (∀ x ∈ bk, TxOk (NB B wr u3) w1 x) := fun x hx => (hoks.out x hx).fr (Fr.of_below hb1 (fun _ => False)) (fun _ _ h => h)
      have hown2 := hown1.alloc (.cells #[.int .i64 yt, .slice ai' n' ci, .slice ap' m' di] 31)
      have hbl2 := hbl1.alloc hsz1 (.cells #[.int .i64 yt, .slice ai' n' ci, .slice ap' m' di] 31)
      have hz1 := hb1.size
      clear hown hbl hb1 hown1 hoks t0 t1 t2 hvb htx hK hfr
      go_wp2_with (at_builtin; (refine wpList_appR 53 56 _ Try.underlying53 info31 rfl (by decide) tx3 tx_one ((w1.alloc (.cells #[.int .i64 yt, .slice ai' n' ci, .slice ap' m' di] 31)).alloc (.cells #[.int .i64 yt, .slice ai' n' ci, .slice ap' m' di] 31)) rfl _ _ rfl B (w1.alloc (.cells #[.int .i64 yt, .slice ai' n' ci, .slice ap' m' di] 31)).heap.size 1 _ bk ⟨yt, ai', n', ci, ap', m', di, xs', yys⟩ (by rfl) (by simp [World.size_alloc]; rfl) (hown2.alloc _) (vrow_new _ _ _) (by simp; omega) (by rw [hbk.out]; unfold maxLen; omega) (by rw [hbk.out]; omega) ?_; intro g' cap w3 hown3 hg3 hl3 hlt3))
      have hfr3 : Fr (fun q => u3.ownBlock = some q) w1 w3 := (((Fr.refl _ w1).alloc (.cells #[.int .i64 yt, .slice ai' n' ci, .slice ap' m' di] 31)).alloc (.cells #[.int .i64 yt, .slice ai' n' ci, .slice ap' m' di] 31)).trans (Fr.of_gb hg3 (fun q hq _ => hq))
      have hl3' : u3.ownBlock = some g' ∨ w1.heap.size ≤ g' := hl3.imp id (fun h => by rw [World.size_alloc, World.size_alloc] at h; omega)
      have hz3 := hfr3.size
      have HN3 : Hid (∀ x ∈ bk ++ [⟨yt, ai', n', ci, ap', m', di, xs', yys⟩], TxOk (NB B w3 (.slice (some ⟨g', 0, none⟩) (bk.length + 1) cap)) w3 x) := by
        intro x hx
        rcases List.mem_append.1 hx with hx | hx
        · refine ((HO1.out x hx).fr hfr3 (fun q hq e => hq.2.2 e)).weak (fun q hq => ⟨hq.1, by have := hq.2.1; omega, fun e => ?_⟩)
          simp [Value.ownBlock] at e
          rcases hl3' with h | h
          · exact hq.2.2 (by rw [h, e])
          · have := hq.2.1; omega
        · rw [List.mem_singleton] at hx
          subst hx
          refine (HTX.out.fr hfr3 (fun q hq e => by have := (HVB.out q e).2; omega)).weak (fun q hq => ⟨by omega, by omega, fun e => ?_⟩)
          simp [Value.ownBlock] at e
          rcases hl3' with h | h
          · have := (HVB.out g' h).2; omega
          · omega
      go_roundw
      case rel => exact ⟨k + 1, bk ++ [⟨yt, ai', n', ci, ap', m', di, xs', yys⟩], by omega, by go_num, by show _ = _; rw [List.length_append, hbk.out]; rfl, by show _ = _; rw [HTK.out, List.map_append, hsame.out, List.map_cons, List.map_nil, HK.out], hown3, HN3, hbl2.trans (gb_to_below (gb_trans (gb_alloc _ _ _) hg3) (by simp; omega) (fun q hq => (hown2.blk q hq).1))⟩
      case measure => simp [intOf]; omega
    · have hkn : k = n := by omega
      subst hkn
      have hs2 := hsame.out
      rw [List.take_of_length_le (by rw [HN.out]; omega)] at hs2
      have HS2 : Hid (bk.map TxD.k = bl.map TxD.k) := hs2
      clear hs2
      obtain ⟨ak, ck, hvk, hat⟩ := OwnRec.at tx3 hown
      subst hvk
      have hbb := hown.blk
      rw [hbk.out]
      go_wp2
      go_ret
      refine ⟨ak, ck, bk, rfl, hbk.out, HS2.out, ⟨hat, fun _ a ha => ?_, fun x hx => (hoks.out x hx).weak (fun q hq => ⟨hq.1, hq.2.1⟩)⟩, hbl⟩
      exact hbb a.block (by rw [ha]; rfl)
end Go.Proofs.Ytffgpepngcnjeab
