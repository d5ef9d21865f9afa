/-
  A book of payments: live, gives.
  A purse with its further cells: Connect, Disconnect; a purse behind a signature.
  A book of payments: moves.
  A book of payments: booked, Apart.
  Package pursekeep: has; one transaction as a block.
  Package pursekeep: mined.
  What a purse shows, and whether two show the same.
-/
import Derived.Test.YtffgpepngcnjeabGreatQNas
import Derived.Test.YtffgpepngcnjeabGreatQNaq
import Derived.Test.YtffgpepngcnjeabGreatQNap
import Derived.Test.YtffgpepngcnjeabGreatQNak
import Derived.Test.YtffgpepngcnjeabGreatQNad
import Derived.BigQuiet
import Derived.Deep.RegionHeld3
namespace Go.Proofs.YtffgpepngcnjeabGreatQ
open Go.RowKit
def DeedD.off (a : DeedD) : DeedD := { a with lv := false }
def offD (ms : List DeedD) (n : Nat) : List DeedD := ms.set n (ms.getD n dDD).off
theorem live_num {s : Int} {ps : List PayD} {ks : List (Int × Int)} {ms : List DeedD} (h : LkB s ps ks ms) (k : Int) : (∃ p ∈ ps, p.num = k) ↔ ∃ i : Nat, k = (i : Int) ∧ i < ms.length ∧ (ms.getD i dDD).lv = true := by
  constructor
  · rintro ⟨p, hp, rfl⟩
    have h1 : p.b ∈ ps.map PayD.b := List.mem_map_of_mem hp
    rw [h.live] at h1
    obtain ⟨a, ha, e⟩ := List.mem_map.1 h1
    obtain ⟨ha1, ha2⟩ := List.mem_filter.1 ha
    obtain ⟨i, hi, rfl⟩ := List.mem_iff_getElem.1 ha1
    refine ⟨i, ?_, hi, ?_⟩
    · have h2 : (ms[i]).num = p.num := congrArg Prod.fst e
      have h3 := h.num i hi
      simp [List.getD, hi] at h3
      rw [← h2, h3]
    · simpa [List.getD, hi] using ha2
  · rintro ⟨i, rfl, hi, hl⟩
    have h1 : ms[i] ∈ ms.filter DeedD.lv := List.mem_filter.2 ⟨List.getElem_mem hi, by simpa [List.getD, hi] using hl⟩
    have h2 : (ms[i]).b ∈ (ms.filter DeedD.lv).map DeedD.b := List.mem_map_of_mem h1
    rw [← h.live] at h2
    obtain ⟨p, hp, e⟩ := List.mem_map.1 h2
    refine ⟨p, hp, ?_⟩
    have h3 := h.num i hi
    simp [List.getD, hi] at h3
    have h4 : p.num = (ms[i]).num := congrArg Prod.fst e
    rw [h4, h3]
theorem left_same (ps : List PayD) (k : Int) : (leftZ ps k).length = ps.length ↔ ¬ ∃ p ∈ ps, p.num = k := by
  unfold leftZ
  rw [List.length_filter_eq_length_iff]
  constructor
  · rintro h ⟨p, hp, e⟩
    have := h p hp
    simp [e] at this
  · intro h p hp
    simp
    exact fun e => h ⟨p, hp, e⟩
theorem filter_off (ms : List DeedD) (f : DeedD → Int) (k : Int) : ∀ (off : Nat), (∀ i, i < ms.length → f (ms.getD i dDD) = ((off + i : Nat) : Int)) → ∀ n, n < ms.length → k = ((off + n : Nat) : Int) → (ms.filter fun a => a.lv && f a != k) = (offD ms n).filter DeedD.lv := by
  induction ms with
  | nil => intro off _ n hn; exact absurd hn (Nat.not_lt_zero _)
  | cons a r ih =>
    intro off h n hn hk
    have h0 : f a = ((off : Nat) : Int) := by simpa using h 0 (by simp)
    have hr : ∀ i, i < r.length → f (r.getD i dDD) = ((off + 1 + i : Nat) : Int) := fun i hi => by
      have := h (i + 1) (by simp; omega)
      rw [show off + (i + 1) = off + 1 + i by omega] at this
      simpa using this
    cases n with
    | zero =>
      have e1 : offD (a :: r) 0 = a.off :: r := rfl
      rw [e1, List.filter_cons, List.filter_cons]
      rw [if_neg (by simp [h0, hk]), if_neg (by simp [DeedD.off])]
      refine List.filter_congr (fun b hb => ?_)
      obtain ⟨i, hi, rfl⟩ := List.mem_iff_getElem.1 hb
      have h1 := hr i hi
      simp [List.getD, hi] at h1
      have : f r[i] ≠ k := by rw [h1, hk]; omega
      simp [this]
    | succ n =>
      have e1 : offD (a :: r) (n + 1) = a :: offD r n := rfl
      have hne : f a ≠ k := by rw [h0, hk]; omega
      have := ih (off + 1) hr n (by simpa using hn) (by rw [hk]; congr 1; omega)
      rw [e1, List.filter_cons, List.filter_cons, this]
      simp [hne]
theorem offD_len (ms : List DeedD) (n : Nat) : (offD ms n).length = ms.length := by simp [offD]
theorem offD_get (ms : List DeedD) (n i : Nat) : (offD ms n).getD i dDD = if i = n ∧ n < ms.length then (ms.getD n dDD).off else ms.getD i dDD := by
  unfold offD
  rw [List.getD, List.getElem?_set]
  split
  · rename_i e
    subst e
    split
    · rename_i h; rw [if_pos ⟨rfl, h⟩]; rfl
    · rename_i h
      rw [if_neg (fun e => h e.2)]
      simp [List.getD, h]
  · rename_i e
    rw [if_neg (fun h => e h.1.symm)]
    rfl
theorem any_set {α : Type} (f : α → Bool) (l : List α) (d : α) (n : Nat) (x : α) (hx : n < l.length → f x = f (l.getD n d)) : (l.set n x).any f = l.any f := by
  induction l generalizing n with
  | nil => rfl
  | cons a r ih =>
    cases n with
    | zero =>
      have := hx (by simp)
      simp at this
      simp [this]
    | succ n =>
      have := ih n (fun h => by simpa using hx (by simpa using h))
      simp [this]
theorem LkB.off {s : Int} {ps : List PayD} {ks : List (Int × Int)} {ms : List DeedD} (h : LkB s ps ks ms) {n : Nat} (hn : n < ms.length) : LkB s (leftZ ps (n : Nat)) ks (offD ms n) := by
  refine ⟨?_, fun i hi => ?_, fun b i => ?_, fun q hq => h.py q (List.mem_filter.1 hq).1, fun d hd e => ?_⟩
  · have e1 : (leftZ ps (n : Nat)).map PayD.b = (ps.map PayD.b).filter fun t => t.1 != ((n : Nat) : Int) := by
      unfold leftZ
      rw [List.filter_map]
      rfl
    rw [e1, h.live, List.filter_map, List.filter_filter]
    congr 1
    rw [← filter_off ms DeedD.num (n : Nat) 0 (fun i hi => by rw [Nat.zero_add]; exact h.num i hi) n hn (by rw [Nat.zero_add])]
    refine List.filter_congr (fun a _ => ?_)
    show ((a.num != (n : Nat)) && a.lv) = _
    rw [Bool.and_comm]
  · rw [offD_len] at hi
    rw [offD_get]
    split
    · rename_i e
      obtain ⟨rfl, _⟩ := e
      exact h.num _ hn
    · exact h.num i hi
  · rw [h.used]
    unfold sealD offD
    exact (any_set (fun a : DeedD => a.cs.any fun x => a.sg && (x.br == b && x.ix == i)) ms dDD n (ms.getD n dDD).off (fun _ => rfl)).symm
  · have hd2 : d ∈ ms ∨ d = (ms.getD n dDD).off := List.mem_or_eq_of_mem_set hd
    rcases hd2 with hd2 | hd2
    · exact h.sd d hd2 e
    · subst hd2
      exact h.sd (ms.getD n dDD) (getD_mem ms dDD n hn) e
variable {NP ND : Nat → Prop} {w : World} {B P : Nat} {s : Int} {g : Nat} {v : Value} {h : Int} {xs : List Cel} {vl vs : Value} {md nx : Int} {ps : List PayD} {ks : List (Int × Int)} {vd : Value} {ds : List DeedD}
theorem Bk.give {w' : World} {vl' : Value} {qs : List PayD} (u : Bk NP ND w B P s g v h xs vl vs md nx ps ks vd ds) (hl : LsAt NP w' P 4 (P + 1) vl' vs md nx qs ks) (hf : Fr (fun q => q = P) w w') (hnew : ∀ q, vl'.ownBlock = some q → w.heap.size ≤ q) (hc : ∀ j, j ≠ 4 → w'.cell? ⟨P, j, none⟩ = w.cell? ⟨P, j, none⟩) : Bk NP ND w' B P s g v h xs vl' vs md nx qs ks vd ds := by
  have hBP : ¬ B = P := fun e => (u.dj P (Or.inl (Or.inl rfl))).1 e.symm
  have hBl : B < w.heap.size := cell_lt u.b0
  refine ⟨u.pp.given hl hf hnew hc, hf.cell u.b0 hBP, hf.cell u.b1 hBP, hf.cell u.b2 hBP, fun j => (hf.frozen hBl hBP).trans (u.fb j), hf.own u.od (fun k hk e => ?_), fun d hd => (u.ok d hd).fr hf (fun k hk e => ?_), fun k hk => ?_, fun k hk => ⟨Nat.lt_of_lt_of_le (u.nd k hk).1 hf.size, (u.nd k hk).2⟩⟩
  · exact (u.dj k (Or.inl (Or.inl e))).2.1 hk
  · exact (u.dj k (Or.inl (Or.inl e))).2.2 hk
  · rcases hk with hk | hk | hk
    · exact u.dj k (Or.inl hk)
    · rcases hk with hk | hk | hk
      · exact u.dj k (Or.inr (Or.inl (Or.inl hk)))
      · have h1 := hnew k hk
        refine ⟨by omega, fun e => ?_, fun e => ?_⟩
        · have := (u.od.blk k e).2; omega
        · have := (u.nd k e).1; omega
      · exact u.dj k (Or.inr (Or.inl (Or.inr (Or.inr hk))))
    · exact u.dj k (Or.inr (Or.inr hk))
theorem Bk.offd {gd cd : Nat} (u : Bk NP ND w B P s g v h xs vl vs md nx ps ks (.slice (some ⟨gd, 0, none⟩) ds.length cd) ds) (n : Nat) (hn : n < ds.length) : Bk NP ND (w.setCell ⟨gd, n * 11 + 9, none⟩ (.bool false)) B P s g v h xs vl vs md nx ps ks (.slice (some ⟨gd, 0, none⟩) ds.length cd) (offD ds n) ∧ Fr (fun k => k = gd) w (w.setCell ⟨gd, n * 11 + 9, none⟩ (.bool false)) := by
  have hf : Fr (fun k => k = gd) w (w.setCell ⟨gd, n * 11 + 9, none⟩ (.bool false)) := (Fr.refl _ w).set gd (n * 11 + 9) _ (fun _ => rfl)
  have hgb := u.od.blk gd rfl
  have hB : ¬ B = gd := by omega
  have hx : ∀ k, (chE P v k ∨ lsE P vl vs k ∨ NP k) → ¬ k = gd := fun k hk e => (u.dj k hk).2.1 (by rw [e]; rfl)
  have hnd : ∀ k, ND k → ¬ k = gd := fun k hk e => (u.nd k hk).2.2 (by rw [e]; rfl)
  have hput := u.od.put deed11 n 9 hn (by omega) (.bool false) (ds.getD n dDD).off (by simp [List.getD, hn, DeedD.v, DeedD.off])
  refine ⟨⟨u.pp.fr hf (fun k hk => hx k (Or.inl hk)) (fun k hk => hx k (Or.inr (Or.inl hk))) (fun k hk => hx k (Or.inr (Or.inr hk))), hf.cell u.b0 hB, hf.cell u.b1 hB, hf.cell u.b2 hB, fun j => (hf.frozen (cell_lt u.b0) hB).trans (u.fb j), hput, fun d hd => ?_, u.dj, fun k hk => ⟨Nat.lt_of_lt_of_le (u.nd k hk).1 hf.size, (u.nd k hk).2⟩⟩, hf⟩
  have hd2 : d ∈ ds ∨ d = (ds.getD n dDD).off := List.mem_or_eq_of_mem_set hd
  rcases hd2 with hd2 | hd2
  · exact (u.ok d hd2).fr hf hnd
  · have h1 := (u.ok _ (getD_mem ds dDD n hn)).fr hf hnd
    rw [hd2]
    exact ⟨h1.ri, h1.rk, h1.ln, h1.lq, h1.b1, h1.ni, h1.nk, h1.ro, h1.lm, h1.b2, h1.no, h1.tx⟩
def liveD (ds : List DeedD) (n : Int) : Bool := decide (0 ≤ n ∧ n < (ds.length : Nat)) && (ds.getD n.toNat dDD).lv
theorem LkB.alive (hl : LkB s ps ks ds) (n : Int) : (leftZ ps n).length = ps.length ↔ liveD ds n = false := by
  rw [left_same, live_num hl]
  unfold liveD
  constructor
  · intro h1
    cases e : (decide (0 ≤ n ∧ n < (ds.length : Nat)) && (ds.getD n.toNat dDD).lv)
    · rfl
    · rw [Bool.and_eq_true, decide_eq_true_iff] at e
      exact absurd ⟨n.toNat, by omega, by omega, e.2⟩ h1
  · rintro h1 ⟨i, rfl, hi, hv⟩
    have e1 : ((i : Nat) : Int).toNat = i := by omega
    rw [e1, hv, Bool.and_true, decide_eq_false_iff_not] at h1
    omega
set_option maxRecDepth 100000 in
set_option maxHeartbeats 1000000 in
theorem bLive_any (D : Nat) (ao : Option Addr) (c : Nat) (ds : List DeedD) (n : Int) (w : World) (hp : w.cell? ⟨D, 2, none⟩ = some (.slice ao ds.length c)) (hx : RecAt DeedD.v w ao ds) :
    Calls Tryz.prog 57 #[.pointer (some ⟨D, 0, none⟩), .int .i64 n] w fun e w' => e = .returned (.bool (liveD ds n)) ∧ Below w.heap.size w w' := by
  have HX : Hid (RecAt DeedD.v w ao ds) := hx
  clear hx
  by_cases h0 : 0 ≤ n
  · by_cases h1 : n < (ds.length : Nat)
    · obtain ⟨k, rfl⟩ : ∃ k : Nat, n = k := ⟨n.toNat, by omega⟩
      have hk : k < ds.length := by omega
      rcases HX.out with hnil | ⟨gg, off, rfl, hrow⟩
      · rw [hnil] at hk; simp at hk
      have m9 := (deedCells hrow k hk).c9
      have HE : Hid (liveD ds (k : Nat) = (ds.getD k dDD).lv) := by
        show _ = _
        unfold liveD
        rw [decide_eq_true (by omega : 0 ≤ ((k : Nat) : Int) ∧ ((k : Nat) : Int) < (ds.length : Nat)), Bool.true_and]
        rfl
      generalize (ds.getD k dDD).lv = lv at *
      have h0' : (0 : Int) ≤ (k : Int) := h0
      clear hrow
      go_enter Tryz.func57, Tryz.ntmps57
      cases lv
      · go_wp2
        go_ret
        exact ⟨ret_bool HE.out.symm, Below.refl _ _⟩
      · go_wp2
        go_ret
        exact ⟨ret_bool HE.out.symm, Below.refl _ _⟩
    · have HE : Hid (liveD ds n = false) := by
        show _ = _
        unfold liveD
        rw [decide_eq_false (by omega), Bool.false_and]
      go_enter Tryz.func57, Tryz.ntmps57
      go_wp2
      go_ret
      exact ⟨ret_bool HE.out.symm, Below.refl _ _⟩
  · have HE : Hid (liveD ds n = false) := by
      show _ = _
      unfold liveD
      rw [decide_eq_false (by omega), Bool.false_and]
    have h2 : ¬ n ≥ 0 := by omega
    go_enter Tryz.func57, Tryz.ntmps57
    go_wp2
    go_ret
    exact ⟨ret_bool HE.out.symm, Below.refl _ _⟩
set_option maxRecDepth 100000 in
set_option maxHeartbeats 1000000 in
theorem bGives_any {base : Nat} (w : World) (u : Bk NP ND w B P s g v h xs vl vs (ds.length : Nat) nx ps ks vd ds) (hlk : LkB s ps ks ds) (hba : ∀ k, (chE P v k ∨ lsE P vl vs k ∨ NP k ∨ k = B ∨ vd.ownBlock = some k ∨ ND k) → base ≤ k) (hdl : ds.length ≤ 1000000000) (n : Int) :
    Calls Tryz.prog 24 #[.pointer (some ⟨B, 0, none⟩), .int .i64 n] w fun e w' => e = .returned (.bool true) ∧ Fr (fun k => base ≤ k) w w' ∧ ∃ ds', BkQ base w' B P s g h xs ks ds' ∧ ds'.length ≤ ds.length := by
  have HU : Hid (Bk NP ND w B P s g v h xs vl vs (ds.length : Nat) nx ps ks vd ds) := u
  have HLK : Hid (LkB s ps ks ds) := hlk
  have HBA : Hid (∀ k, (chE P v k ∨ lsE P vl vs k ∨ NP k ∨ k = B ∨ vd.ownBlock = some k ∨ ND k) → base ≤ k) := hba
  have HPL : Hid (ps.length ≤ 1000000000000) := Nat.le_trans hlk.len (by omega)
  obtain ⟨ad, cd, ed, hatd⟩ := OwnRec.at deed11 u.od
  subst ed
  have b2 := u.b2
  have HAD : Hid (RecAt DeedD.v w ad ds) := hatd
  have hbw : base ≤ w.heap.size := by have := hba B (Or.inr (Or.inr (Or.inr (Or.inl rfl)))); have : B < w.heap.size := cell_lt b2; omega
  clear u hlk hba hatd
  go_enter Tryz.func24, Tryz.ntmps24
  go_wp2_with fail
  refine (bLive_any B ad cd ds n _ b2 HAD.out).mono ?_
  rintro e w1 ⟨rfl, hb1⟩
  have HU1 : Hid (Bk NP ND w1 B P s g v h xs vl vs (ds.length : Nat) nx ps ks (.slice ad ds.length cd) ds) := HU.out.grown hb1
  have HF1 : Hid (Fr (fun k => base ≤ k) w w1) := Fr.of_below hb1 _
  have hs1 := hb1.size
  clear hb1 b2 HAD HU
  have b0 := HU1.out.b0
  go_wp2_with fail
  refine (pAbandon_any NP P s g v h xs vl vs (ds.length : Nat) nx ps ks n _ HU1.out.pp HPL.out).mono ?_
  rintro e w2 ⟨er, rfl, hab⟩
  rcases hab with ⟨h1, rfl, hb2⟩ | ⟨h1, rfl, vl', hls, hf2, hnew, hcc⟩
  · have hE : liveD ds n = false := (HLK.out.alive n).1 h1
    have HF : Hid (Fr (fun k => base ≤ k) w w2 ∧ BkQ base w2 B P s g h xs ks ds) := ⟨HF1.out.trans (Fr.of_below hb2 _), ⟨_, _, _, _, _, _, _, _, HU1.out.grown hb2, HLK.out, HBA.out⟩⟩
    clear b0 hb2 h1
    rw [hE]
    clear hE
    go_wp2
    go_ret
    exact ⟨rfl, HF.out.1, ds, HF.out.2, Nat.le_refl _⟩
  · have hE : liveD ds n = true := by
      cases e : liveD ds n
      · exact absurd ((HLK.out.alive n).2 e) h1
      · rfl
    have hE2 := hE
    unfold liveD at hE2
    rw [Bool.and_eq_true, decide_eq_true_iff] at hE2
    obtain ⟨⟨hn0, hn1⟩, hlv⟩ := hE2
    obtain ⟨k, rfl⟩ : ∃ k : Nat, n = k := ⟨n.toNat, by omega⟩
    have hk : k < ds.length := by omega
    rw [show ((k : Nat) : Int).toNat = k by omega] at hlv
    have HU2 : Hid (Bk NP ND w2 B P s g v h xs vl' vs (ds.length : Nat) nx (leftZ ps (k : Nat)) ks (.slice ad ds.length cd) ds) := HU1.out.give hls hf2 hnew hcc
    have HBA2 : Hid (∀ q, (chE P v q ∨ lsE P vl' vs q ∨ NP q ∨ q = B ∨ (Value.slice ad ds.length cd).ownBlock = some q ∨ ND q) → base ≤ q) := fun q hq => by
      rcases hq with hq | hq | hq
      · exact HBA.out q (Or.inl hq)
      · rcases hq with hq | hq | hq
        · exact HBA.out q (Or.inr (Or.inl (Or.inl hq)))
        · have := hnew q hq; omega
        · exact HBA.out q (Or.inr (Or.inl (Or.inr (Or.inr hq))))
      · exact HBA.out q (Or.inr (Or.inr hq))
    have HF2 : Hid (Fr (fun q => base ≤ q) w w2) := HF1.out.trans (hf2.weak (fun q _ e => HBA.out q (Or.inl (Or.inl e))))
    clear hls hf2 hnew hcc b0 h1 HU1 HF1
    rcases HU2.out.od.slice deed11 with ⟨_, hnil⟩ | ⟨gd, cd2, e, _, _, hrow, hfz⟩
    · rw [hnil] at hk; simp at hk
    injection e with e1 _ e3
    subst e1
    subst e3
    have b2 := HU2.out.b2
    have m9 := (deedCells hrow k hk).c9
    rw [hlv, Nat.zero_add] at m9
    have f9 := hfz (k * 11 + 9)
    have HFI : Hid (BkQ base (w2.setCell ⟨gd, k * 11 + 9, none⟩ (.bool false)) B P s g h xs ks (offD ds k) ∧ Fr (fun q => base ≤ q) w (w2.setCell ⟨gd, k * 11 + 9, none⟩ (.bool false))) := by
      obtain ⟨h1, h2⟩ := HU2.out.offd k hk
      have h3 : BkQ base (w2.setCell ⟨gd, k * 11 + 9, none⟩ (.bool false)) B P s g h xs ks (offD ds k) := by
        refine ⟨NP, ND, v, vl', vs, nx, leftZ ps (k : Nat), .slice (some ⟨gd, 0, none⟩) ds.length cd, ?_, HLK.out.off hk, HBA2.out⟩
        rw [offD_len]
        exact h1
      exact ⟨h3, HF2.out.trans (h2.weak (fun q _ e => by rw [e]; exact HBA2.out gd (Or.inr (Or.inr (Or.inr (Or.inr (Or.inl rfl)))))))⟩
    have hkI : (k : Int) < (ds.length : Int) := by omega
    have hk0 : (0 : Int) ≤ (k : Int) := by omega
    clear HU2 HBA2 HF2 hrow hfz hlv
    rw [hE]
    clear hE
    go_wp2
    go_ret
    exact ⟨rfl, HFI.out.2, _, HFI.out.1, by rw [offD_len]; exact Nat.le_refl _⟩
end Go.Proofs.YtffgpepngcnjeabGreatQ

namespace Go.Proofs.YtffgpepngcnjeabGreatQ
open Go.RowKit
/-- a purse with its further cells -/
abbrev PAe (w : World) (P : Nat) (s : Int) (g : Nat) (v : Value) (h : Int) (xs : List Cel) (vl vs : Value) (md nx : Int) : Prop := ChOwn [(0, .int .i64 s), (1, .int .i64 (g : Int)), (4, vl), (5, vs), (6, .int .i64 md), (7, .int .i64 nx)] w P 2 v h xs
theorem PP.toE {N : Nat → Prop} {w : World} {P : Nat} {s : Int} {g : Nat} {v : Value} {h : Int} {xs : List Cel} {vl vs : Value} {md nx : Int} {ps : List PayD} {ks : List (Int × Int)} (u : PP N w P s g v h xs vl vs md nx ps ks) : PAe w P s g v h xs vl vs md nx := by
  refine ⟨u.pu.c0, u.pu.c1, u.pu.f0, u.pu.f1, u.pu.own, fun q hq => ?_⟩
  simp only [List.mem_cons, List.not_mem_nil, or_false] at hq
  rcases hq with rfl | rfl | rfl | rfl | rfl | rfl
  · exact u.pu.ext _ (by simp)
  · exact u.pu.ext _ (by simp)
  · exact ⟨by simp, by simp, u.ls.c0⟩
  · exact ⟨by simp, by simp, u.ls.c1⟩
  · exact ⟨by simp, by simp, u.ls.c2⟩
  · exact ⟨by simp, by simp, u.ls.c3⟩
theorem PP.ofE {F N : Nat → Prop} {w w' : World} {P : Nat} {s : Int} {g : Nat} {v v' : Value} {h h' : Int} {xs xs' : List Cel} {vl vs : Value} {md nx : Int} {ps : List PayD} {ks : List (Int × Int)} (u : PP N w P s g v h xs vl vs md nx ps ks) (hp : PAe w' P s g v' h' xs' vl vs md nx) (hf : Fr F w w') (h1 : ∀ k, vl.ownBlock = some k → ¬ F k) (h2 : ∀ k, vs.ownBlock = some k → ¬ F k) (h3 : ∀ k, N k → ¬ F k) (hd : ∀ k, v'.ownBlock = some k → vl.ownBlock ≠ some k ∧ vs.ownBlock ≠ some k ∧ ¬ N k) : PP N w' P s g v' h' xs' vl vs md nx ps ks := by
  refine ⟨⟨hp.c0, hp.c1, hp.f0, hp.f1, hp.own, fun q hq => hp.ext q ?_⟩, ⟨(hp.ext (4, vl) (by simp)).2.2, (hp.ext (5, vs) (by simp)).2.2, (hp.ext (6, .int .i64 md) (by simp)).2.2, (hp.ext (7, .int .i64 nx) (by simp)).2.2, hp.f1, hf.own u.ls.ol h1, hf.own u.ls.os h2, fun p hp => (u.ls.ok p hp).fr hf h3, u.ls.nb, u.ls.nl, fun k hk => ⟨Nat.lt_of_lt_of_le (u.ls.nN k hk).1 hf.size, (u.ls.nN k hk).2⟩⟩, hd⟩
  simp only [List.mem_cons, List.not_mem_nil, or_false] at hq ⊢
  rcases hq with rfl | rfl <;> simp
set_option maxRecDepth 100000 in
set_option maxHeartbeats 400000 in
theorem pConnectE (P : Nat) (s : Int) (g : Nat) (v : Value) (h : Int) (xs : List Cel) (vl vs : Value) (md nx : Int) (N : Nat → Prop) (ao : Option Addr) (n c : Nat) (bl : List TxD) (w : World)
    (hp : PAe w P s g v h xs vl vs md nx) (hl : xs.length ≤ 5000) (hv : Vals xs) (hh : 0 ≤ h ∧ h ≤ 100) (hb : BlkAt N w ao bl) (hn : bl.length = n) (hN : ∀ k, N k → k < w.heap.size ∧ ¬ chE P v k) (hn2 : n ≤ 9223372036854775807) :
    Calls Tryz.prog 43 #[.pointer (some ⟨P, 0, none⟩), .slice ao n c] w fun e w' => e = .returned (.tuple #[.int .i64 (connZ h xs bl).1, .int .i64 (connZ h xs bl).2.1]) ∧ ∃ v', PAe w' P s g v' (connZ h xs bl).2.2.1 (connZ h xs bl).2.2.2 vl vs md nx ∧ ChStep P v v' w w' := by
  go_enter Tryz.func43, Tryz.ntmps43
  go_wp2_with fail
  refine (connect_any P 2 v h xs N ao n c bl _ hp hl hv hh hb hn hN hn2).mono ?_
  rintro e w1 ⟨rfl, v', h1, h2⟩
  go_wp2
  go_ret2
  exact ⟨rfl, v', h1, h2⟩
set_option maxRecDepth 100000 in
set_option maxHeartbeats 400000 in
theorem pDisE (P : Nat) (s : Int) (g : Nat) (v : Value) (h : Int) (xs : List Cel) (vl vs : Value) (md nx : Int) (w : World) (hp : PAe w P s g v h xs vl vs md nx) (hl : xs.length ≤ 20000) (hh : 0 < h) (hh2 : h ≤ 100) :
    Calls Tryz.prog 61 #[.pointer (some ⟨P, 0, none⟩)] w fun e w' => e = .returned (.int .i64 0) ∧ ∃ v', PAe w' P s g v' (h - 1) (tbZ (h - 1) xs) vl vs md nx ∧ ChStep P v v' w w' := by
  go_enter Tryz.func61, Tryz.ntmps61
  go_wp2_with fail
  refine (chDis_any P 2 v h xs _ hp hl hh hh2).mono ?_
  rintro e w1 ⟨rfl, v', h1, h2⟩
  go_wp2
  go_ret
  exact ⟨rfl, v', h1, h2⟩
set_option maxRecDepth 100000 in
set_option maxHeartbeats 400000 in
theorem pDisE_none (P : Nat) (s : Int) (g : Nat) (v : Value) (xs : List Cel) (vl vs : Value) (md nx : Int) (w : World) (hp : PAe w P s g v 0 xs vl vs md nx) :
    Calls Tryz.prog 61 #[.pointer (some ⟨P, 0, none⟩)] w fun e w' => e = .returned (.int .i64 8) ∧ w = w' := by
  have c1 := hp.c1
  clear hp
  go_enter Tryz.func61, Tryz.ntmps61
  go_wp2_with (go_at_call 103; refine (chDis_none P 2 _ c1).mono ?_; rintro e w' ⟨rfl, rfl⟩)
  go_ret
  exact ⟨rfl, rfl⟩
/-- the purse behind a signature -/
theorem PP.signed {N New : Nat → Prop} {w w' : World} {P : Nat} {s : Int} {g : Nat} {v : Value} {h : Int} {xs : List Cel} {vl vs vs' : Value} {md nx : Int} {ps ps' : List PayD} {ks ks' : List (Int × Int)} (u : PP N w P s g v h xs vl vs md nx ps ks) (hg : SgL N P 4 (P + 1) vl vs vs' md nx ps ps' ks ks' w w' New) : PP N w' P s g v h xs vl vs' md nx ps' ks' := by
  refine ⟨⟨hg.cl 2 _ (by omega) u.pu.c0, hg.cl 3 _ (by omega) u.pu.c1, hg.ls.fz 2, hg.ls.fz, hg.fr.own u.pu.own (fun k hk e => ?_), fun q hq => ⟨(u.pu.ext q hq).1, (u.pu.ext q hq).2.1, hg.cl q.1 _ ?_ (u.pu.ext q hq).2.2⟩⟩, hg.ls, fun k hk => ⟨(u.dj k hk).1, fun e => ?_, (u.dj k hk).2.2⟩⟩
  · rcases e with e | e | e
    · have := (u.pu.own.blk k hk).1; omega
    · exact (u.dj k hk).1 e
    · exact (u.dj k hk).2.1 e
  · simp only [List.mem_cons, List.not_mem_nil, or_false] at hq
    rcases hq with rfl | rfl
    · show (0 : Nat) ≠ 5; omega
    · show (1 : Nat) ≠ 5; omega
  · rcases hg.nw k e with e | e
    · exact (u.dj k hk).2.1 e
    · have := (u.pu.own.blk k hk).2; omega
/-- the purse behind a step of the chain -/
theorem PP.chain {N : Nat → Prop} {w w' : World} {P : Nat} {s : Int} {g : Nat} {v v' : Value} {h h' : Int} {xs xs' : List Cel} {vl vs : Value} {md nx : Int} {ps : List PayD} {ks : List (Int × Int)} (u : PP N w P s g v h xs vl vs md nx ps ks) (hp : PAe w' P s g v' h' xs' vl vs md nx) (hst : ChStep P v v' w w') : PP N w' P s g v' h' xs' vl vs md nx ps ks := by
  have hnb := u.ls.nb
  refine u.ofE hp hst.fr (fun k hk e => ?_) (fun k hk e => ?_) (fun k hk e => ?_) (fun k hk => ?_)
  · rcases e with e | e
    · have := (u.ls.ol.blk k hk).1; omega
    · exact (u.dj k e).1 hk
  · rcases e with e | e
    · have := (u.ls.os.blk k hk).1; omega
    · exact (u.dj k e).2.1 hk
  · rcases e with e | e
    · exact (u.ls.nN k hk).2.1 e
    · exact (u.dj k e).2.2 hk
  · rcases hst.own k hk with e | e
    · exact u.dj k e
    · refine ⟨fun e2 => ?_, fun e2 => ?_, fun e2 => ?_⟩
      · have := (u.ls.ol.blk k e2).2; omega
      · have := (u.ls.os.blk k e2).2; omega
      · have := (u.ls.nN k e2).1; omega
end Go.Proofs.YtffgpepngcnjeabGreatQ

namespace Go.Proofs.YtffgpepngcnjeabGreatQ
open Go.RowKit
variable {NP ND : Nat → Prop} {w : World} {B P : Nat} {s : Int} {g : Nat} {v : Value} {h : Int} {xs : List Cel} {vl vs : Value} {md nx : Int} {ps : List PayD} {ks : List (Int × Int)} {vd : Value} {ds : List DeedD}
theorem Bk.chain {w' : World} {v' : Value} {h' : Int} {xs' : List Cel} (u : Bk NP ND w B P s g v h xs vl vs md nx ps ks vd ds) (hp : PAe w' P s g v' h' xs' vl vs md nx) (hst : ChStep P v v' w w') : Bk NP ND w' B P s g v' h' xs' vl vs md nx ps ks vd ds := by
  have hf := hst.fr
  have hB : ¬ chE P v B := fun e => (u.dj B (Or.inl e)).1 rfl
  have hvd : ∀ k, vd.ownBlock = some k → ¬ chE P v k := fun k hk e => (u.dj k (Or.inl e)).2.1 hk
  have hnd : ∀ k, ND k → ¬ chE P v k := fun k hk e => (u.dj k (Or.inl e)).2.2 hk
  have hnb := u.pp.ls.nb
  have hl : ∀ k, vl.ownBlock = some k → ¬ chE P v k := fun k hk e => by
    rcases e with e | e
    · have := (u.pp.ls.ol.blk k hk).1; omega
    · exact (u.pp.dj k e).1 hk
  have hs : ∀ k, vs.ownBlock = some k → ¬ chE P v k := fun k hk e => by
    rcases e with e | e
    · have := (u.pp.ls.os.blk k hk).1; omega
    · exact (u.pp.dj k e).2.1 hk
  have hn : ∀ k, NP k → ¬ chE P v k := fun k hk e => by
    rcases e with e | e
    · exact (u.pp.ls.nN k hk).2.1 e
    · exact (u.pp.dj k e).2.2 hk
  refine ⟨u.pp.ofE hp hf hl hs hn (fun k hk => ?_), hf.cell u.b0 hB, hf.cell u.b1 hB, hf.cell u.b2 hB, fun j => (hf.frozen (cell_lt u.b0) hB).trans (u.fb j), hf.own u.od hvd, fun d hd => (u.ok d hd).fr hf hnd, fun k hk => ?_, fun k hk => ⟨Nat.lt_of_lt_of_le (u.nd k hk).1 hf.size, (u.nd k hk).2⟩⟩
  · rcases hst.own k hk with e | e
    · exact u.pp.dj k e
    · refine ⟨fun e2 => ?_, fun e2 => ?_, fun e2 => ?_⟩
      · have := (u.pp.ls.ol.blk k e2).2; omega
      · have := (u.pp.ls.os.blk k e2).2; omega
      · have := (u.pp.ls.nN k e2).1; omega
  · rcases hk with hk | hk
    · rcases hk with hk | hk
      · exact u.dj k (Or.inl (Or.inl hk))
      · rcases hst.own k hk with e | e
        · exact u.dj k (Or.inl (Or.inr e))
        · refine ⟨fun e2 => ?_, fun e2 => ?_, fun e2 => ?_⟩
          · have : B < w.heap.size := cell_lt u.b0
            omega
          · have := (u.od.blk k e2).2; omega
          · have := (u.nd k e2).1; omega
    · exact u.dj k (Or.inr hk)
theorem Bk.chainQ {base : Nat} {w' : World} {v' : Value} {h' : Int} {xs' : List Cel} (u : Bk NP ND w B P s g v h xs vl vs (ds.length : Nat) nx ps ks vd ds) (hlk : LkB s ps ks ds) (hba : ∀ k, (chE P v k ∨ lsE P vl vs k ∨ NP k ∨ k = B ∨ vd.ownBlock = some k ∨ ND k) → base ≤ k) (hp : PAe w' P s g v' h' xs' vl vs (ds.length : Nat) nx) (hst : ChStep P v v' w w') : BkQ base w' B P s g h' xs' ks ds ∧ Fr (fun k => base ≤ k) w w' := by
  have hbw : base ≤ w.heap.size := by have := hba B (Or.inr (Or.inr (Or.inr (Or.inl rfl)))); have : B < w.heap.size := cell_lt u.b0; omega
  refine ⟨⟨_, _, _, _, _, _, _, _, u.chain hp hst, hlk, fun k hk => ?_⟩, hst.fr.weak (fun k _ e => hba k (Or.inl e))⟩
  rcases hk with hk | hk
  · rcases hk with hk | hk
    · exact hba k (Or.inl (Or.inl hk))
    · rcases hst.own k hk with e | e
      · exact hba k (Or.inl (Or.inr e))
      · omega
  · exact hba k (Or.inr hk)
set_option maxRecDepth 100000 in
set_option maxHeartbeats 1000000 in
theorem bMoves_any {base hN : Nat} (w : World) (u : Bk NP ND w B P s g v (hN : Nat) xs vl vs (ds.length : Nat) nx ps ks vd ds) (hlk : LkB s ps ks ds) (hba : ∀ k, (chE P v k ∨ lsE P vl vs k ∨ NP k ∨ k = B ∨ vd.ownBlock = some k ∨ ND k) → base ≤ k) (hc : Chn hN xs)
    (kd a b : Int) (ab : Option Addr) (m d : Nat) (bl : List TxD) (N : Nat → Prop) (va : Value) (hb : BlkAt N w ab bl) (hm : bl.length = m) (hsm : ∀ x ∈ bl, TxSm x) (hm2 : m ≤ 2513169434916) (hNb : ∀ k, N k → k < base) (oa : Option Addr) (om od : Nat) (hva : va = .slice oa om od) :
    Calls Tryz.prog 26 #[.pointer (some ⟨B, 0, none⟩), .agg #[.int .i64 kd, .int .i64 a, .int .i64 b, .slice ab m d, va]] w fun e w' => e = .returned (.tuple #[]) ∧ Fr (fun k => base ≤ k) w w' ∧ ∃ (h' : Nat) (xs' : List Cel), Chn h' xs' ∧ BkQ base w' B P s g (h' : Nat) xs' ks ds := by
  subst hva
  have HU : Hid (Bk NP ND w B P s g v (hN : Nat) xs vl vs (ds.length : Nat) nx ps ks vd ds) := u
  have HLK : Hid (LkB s ps ks ds) := hlk
  have HBA : Hid (∀ k, (chE P v k ∨ lsE P vl vs k ∨ NP k ∨ k = B ∨ vd.ownBlock = some k ∨ ND k) → base ≤ k) := hba
  have HC : Hid (Chn hN xs) := hc
  have HBL : Hid (BlkAt N w ab bl) := hb
  have HBM : Hid (bl.length = m) := hm
  have HSM : Hid (∀ x ∈ bl, TxSm x) := hsm
  obtain ⟨hV, hx1, hh1, _⟩ := hc.facts
  have HV : Hid (Vals xs) := hV
  have hbw : base ≤ w.heap.size := by have := hba B (Or.inr (Or.inr (Or.inr (Or.inl rfl)))); have : B < w.heap.size := cell_lt u.b0; omega
  have HNB : Hid (∀ k, N k → k < base) := hNb
  have bA : Below w.heap.size w (w.alloc (.cells #[.int .i64 kd, .int .i64 a, .int .i64 b, .slice ab m d, .slice oa om od] 62)) := (Below.refl _ _).alloc (Nat.le_refl _) _
  have HB0 : Hid (Below w.heap.size w (w.alloc (.cells #[.int .i64 kd, .int .i64 a, .int .i64 b, .slice ab m d, .slice oa om od] 62))) := bA
  have x0 : (w.alloc (.cells #[.int .i64 kd, .int .i64 a, .int .i64 b, .slice ab m d, .slice oa om od] 62)).cell? ⟨w.heap.size, 0, none⟩ = some (.int .i64 kd) := by go_simp
  have x3 : (w.alloc (.cells #[.int .i64 kd, .int .i64 a, .int .i64 b, .slice ab m d, .slice oa om od] 62)).cell? ⟨w.heap.size, 3, none⟩ = some (.slice ab m d) := by go_simp
  have b0 : (w.alloc (.cells #[.int .i64 kd, .int .i64 a, .int .i64 b, .slice ab m d, .slice oa om od] 62)).cell? ⟨B, 0, none⟩ = some (.pointer (some ⟨P, 0, none⟩)) := (bA.cell (p := ⟨B, 0, none⟩) (cell_lt u.b0)).trans u.b0
  clear u hlk hba hc hb hm hsm hV bA hNb
  go_enter Tryz.func26, Tryz.ntmps26
  go_upto_region 1 with fail
  generalize w.alloc (.cells #[.int .i64 kd, .int .i64 a, .int .i64 b, .slice ab m d, .slice oa om od] 62) = w0 at *
  have HU0 : Hid (Bk NP ND w0 B P s g v (hN : Nat) xs vl vs (ds.length : Nat) nx ps ks vd ds) := HU.out.grown HB0.out
  have HBL0 : Hid (BlkAt N w0 ab bl) := HBL.out.fr (Fr.of_below HB0.out (fun _ => False)) (fun _ _ h => h)
  have HF0 : Hid (Fr (fun k => base ≤ k) w w0) := Fr.of_below HB0.out _
  have hs0 := HB0.out.size
  clear HU HBL HB0
  generalize w.heap.size = X at *
  by_cases h1 : kd = 1
  · subst h1
    go_wp2_with fail
    refine (copyBlock_any N ab m d bl _ HBL0.out HBM.out HSM.out hm2 (fun k hk => by have := HNB.out k hk; omega)).mono ?_
    rintro e w1 ⟨ao', c', bl', rfl, hl', _, hblk, hb1⟩
    have HU1 : Hid (Bk NP ND w1 B P s g v (hN : Nat) xs vl vs (ds.length : Nat) nx ps ks vd ds) := HU0.out.grown hb1
    have HF1 : Hid (Fr (fun k => base ≤ k) w w1) := HF0.out.trans (Fr.of_below hb1 _)
    have HBK : Hid (BlkAt (fun q => w0.heap.size ≤ q ∧ q < w1.heap.size) w1 ao' bl') := hblk
    have HBN : Hid (bl'.length = m) := hl'
    have HNQ : Hid (∀ k, (w0.heap.size ≤ k ∧ k < w1.heap.size) → k < w1.heap.size ∧ ¬ chE P v k) := fun k hk => ⟨hk.2, fun e => by have := (HU0.out.pp.pu.blk k e).2; omega⟩
    clear hb1 hblk hl' x0 x3 b0 HU0 HF0 HBL0 HBM HSM
    have b0 := HU1.out.b0
    go_wp2_with fail
    refine (pConnectE P s g v (hN : Nat) xs vl vs (ds.length : Nat) nx _ ao' m c' bl' _ HU1.out.pp.toE (by omega) HV.out (by omega) HBK.out HBN.out HNQ.out (by omega)).mono ?_
    rintro e w2 ⟨rfl, v', hp, hst⟩
    obtain ⟨h', eh, hch⟩ := HC.out.conn bl'
    rw [eh] at hp
    have HFI : Hid (BkQ base w2 B P s g (h' : Nat) (connZ (hN : Nat) xs bl').2.2.2 ks ds ∧ Fr (fun k => base ≤ k) w1 w2) := HU1.out.chainQ HLK.out HBA.out hp hst
    have HCH : Hid (Chn h' (connZ (hN : Nat) xs bl').2.2.2) := hch
    clear hp hst hch eh b0
    go_wp2
    go_returns
    exact ⟨rfl, HF1.out.trans HFI.out.2, h', _, HCH.out, HFI.out.1⟩
  · have e1 : (kd == 1) = false := by simpa using h1
    by_cases h2 : kd = 2
    · subst h2
      cases hN with
      | zero =>
        go_wp2_with fail
        refine (pDisE_none P s g v xs vl vs (ds.length : Nat) nx _ HU0.out.pp.toE).mono ?_
        rintro e w2 ⟨rfl, rfl⟩
        go_wp2
        go_returns
        exact ⟨rfl, HF0.out, 0, xs, HC.out, ⟨_, _, _, _, _, _, _, _, HU0.out, HLK.out, HBA.out⟩⟩
      | succ n =>
        have hn1 : (((n + 1 : Nat) : Int)) - 1 = (n : Nat) := by omega
        go_wp2_with fail
        refine (pDisE P s g v ((n + 1 : Nat) : Int) xs vl vs (ds.length : Nat) nx _ HU0.out.pp.toE (by omega) (by omega) (by omega)).mono ?_
        rintro e w2 ⟨rfl, v', hp, hst⟩
        rw [hn1] at hp
        have HFI : Hid (BkQ base w2 B P s g (n : Nat) (tbZ (n : Nat) xs) ks ds ∧ Fr (fun k => base ≤ k) w0 w2) := HU0.out.chainQ HLK.out HBA.out hp hst
        have HCH : Hid (Chn n (tbZ (n : Nat) xs)) := HC.out.dis
        clear hp hst x0 x3 b0
        go_wp2
        go_returns
        exact ⟨rfl, HF0.out.trans HFI.out.2, n, _, HCH.out, HFI.out.1⟩
    · have e2 : (kd == 2) = false := by simpa using h2
      go_wp2
      go_returns
      exact ⟨rfl, HF0.out, hN, xs, HC.out, ⟨_, _, _, _, _, _, _, _, HU0.out, HLK.out, HBA.out⟩⟩
end Go.Proofs.YtffgpepngcnjeabGreatQ

namespace Go.Proofs.YtffgpepngcnjeabGreatQ
open Go.RowKit
/-- a step of a script -/
structure StD where
  k : Int
  a : Int
  b : Int
  bo : Option Addr
  bn : Nat
  bc : Nat
  oo : Option Addr
  on : Nat
  oc : Nat
  bl : List TxD
  ys : List (Int × Int)
def dSt : StD := ⟨0, 0, 0, none, 0, 0, none, 0, 0, [], []⟩
def StD.v (x : StD) : List Value := [.int .i64 x.k, .int .i64 x.a, .int .i64 x.b, .slice x.bo x.bn x.bc, .slice x.oo x.on x.oc]
theorem st5 (x : StD) : x.v.length = 5 := rfl
structure StOk (B0 : Nat) (w : World) (x : StD) : Prop where
  bk : BlkAt (fun q => q < B0) w x.bo x.bl
  bn : x.bl.length = x.bn
  sm : ∀ t ∈ x.bl, TxSm t
  b2 : x.bn ≤ 2513169434916
  ou : OutsAt w x.oo x.ys
  ol : x.ys.length = x.on
  o2 : x.on ≤ 8796093022208
  o0 : x.oo = none → x.oc = 0
  np : x.ys ≠ [] → ∀ a, x.oo = some a → a.block < B0
theorem StOk.fr {B0 : Nat} {w w' : World} {x : StD} (h : StOk B0 w x) (hf : Fr (fun k => B0 ≤ k) w w') : StOk B0 w' x :=
  ⟨h.bk.fr hf (fun k hk e => by omega), h.bn, h.sm, h.b2, outs_frQ hf h.ou (fun e a ha e2 => by have := h.np e a ha; omega), h.ol, h.o2, h.o0, h.np⟩
/-- a script that came in -/
structure ScriptAt (B0 : Nat) (w : World) (ao : Option Addr) (sc : List StD) : Prop where
  row : RecAt StD.v w ao sc
  na : sc ≠ [] → ∀ a, ao = some a → a.block < B0
  ok : ∀ x ∈ sc, StOk B0 w x
theorem ScriptAt.fr {B0 : Nat} {w w' : World} {ao : Option Addr} {sc : List StD} (h : ScriptAt B0 w ao sc) (hf : Fr (fun k => B0 ≤ k) w w') : ScriptAt B0 w' ao sc :=
  ⟨rec_fr hf h.row (fun e a ha e2 => by have := h.na e a ha; omega), h.na, fun x hx => (h.ok x hx).fr hf⟩
theorem pat_new (w : World) (s : Int) (g : Nat) : PAt (w.alloc (.cells #[.int .i64 s, .int .i64 (g : Int), .slice none 0 0, .int .i64 0, .slice none 0 0, .slice none 0 0, .int .i64 0, .int .i64 0] 102)) w.heap.size s g (.slice none 0 0) 0 [] := by
  refine ⟨?_, ?_, World.frozen?_alloc_at _ _ _ _ rfl, fun j => World.frozen?_alloc_at _ _ _ _ rfl, OwnRec.nil _ _ _ _ _, fun q hq => ?_⟩
  · rw [World.cell?_alloc_new]; rfl
  · rw [World.cell?_alloc_new]; rfl
  · simp at hq
    rcases hq with rfl | rfl | rfl | rfl | rfl | rfl
    · exact ⟨by simp, by simp, by rw [World.cell?_alloc_new]; rfl⟩
    · exact ⟨by simp, by simp, by rw [World.cell?_alloc_new]; rfl⟩
    · exact ⟨by simp, by simp, by rw [World.cell?_alloc_new]; rfl⟩
    · exact ⟨by simp, by simp, by rw [World.cell?_alloc_new]; rfl⟩
    · exact ⟨by simp, by simp, by rw [World.cell?_alloc_new]; rfl⟩
    · exact ⟨by simp, by simp, by rw [World.cell?_alloc_new]; rfl⟩
theorem bk_new (w : World) (s : Int) (g : Nat) :
    BkQ w.heap.size ((w.alloc (.cells #[.int .i64 s, .int .i64 (g : Int), .slice none 0 0, .int .i64 0, .slice none 0 0, .slice none 0 0, .int .i64 0, .int .i64 0] 102)).alloc (.cells #[.pointer (some ⟨w.heap.size, 0, none⟩), .int .i64 s, .slice none 0 0] 129)) (w.heap.size + 1) w.heap.size s g ((0 : Nat) : Int) [] [] [] := by
  have hp := pat_new w s g
  have hz : (w.alloc (.cells #[.int .i64 s, .int .i64 (g : Int), .slice none 0 0, .int .i64 0, .slice none 0 0, .slice none 0 0, .int .i64 0, .int .i64 0] 102)).heap.size = w.heap.size + 1 := by simp
  generalize w.alloc (.cells #[.int .i64 s, .int .i64 (g : Int), .slice none 0 0, .int .i64 0, .slice none 0 0, .slice none 0 0, .int .i64 0, .int .i64 0] 102) = w1 at *
  have hv := vrow_new w1 [.pointer (some ⟨w.heap.size, 0, none⟩), .int .i64 s, .slice none 0 0] 129
  have hf : ∀ j, (w1.alloc (.cells #[.pointer (some ⟨w.heap.size, 0, none⟩), .int .i64 s, .slice none 0 0] 129)).frozen? ⟨w1.heap.size, j, none⟩ = false := fun j => World.frozen?_alloc_at _ _ _ _ rfl
  rw [hz] at hv hf
  refine ⟨fun _ => False, fun _ => False, .slice none 0 0, .slice none 0 0, .slice none 0 0, 0, [], .slice none 0 0, ⟨pp_none (hp.grown ((Below.refl _ _).alloc (Nat.le_refl _) _)), hv 0 (by simp), hv 1 (by simp), hv 2 (by simp), hf, OwnRec.nil _ _ _ _ _, fun d hd => (by cases hd), fun k hk => ?_, fun k hk => hk.elim⟩, LkB.nil _, fun k hk => ?_⟩
  · refine ⟨?_, fun e => (by cases e), fun e => e⟩
    rcases hk with hk | hk | hk
    · rcases hk with e | e
      · omega
      · cases e
    · rcases hk with e | e | e
      · omega
      · cases e
      · cases e
    · exact hk.elim
  · rcases hk with hk | hk | hk | hk | hk | hk
    · rcases hk with e | e
      · omega
      · cases e
    · rcases hk with e | e | e
      · omega
      · cases e
      · cases e
    · exact hk.elim
    · omega
    · cases hk
    · exact hk.elim
set_option maxRecDepth 100000 in
set_option maxHeartbeats 1000000 in
theorem booked_any (a b : Int) (g : Nat) (w : World) (a1 : -9223372036854775808 ≤ a) (a2 : a ≤ 9223372036854775807) (b1 : -9223372036854775808 ≤ b) (b2 : b ≤ 9223372036854775807) (hg : (g : Int) = 1 + Mk.pk b 20) :
    Calls Tryz.prog 21 #[.int .i64 a, .int .i64 b] w fun e w' => e = .returned (.pointer (some ⟨w.heap.size + 1, 0, none⟩)) ∧ BkQ w.heap.size w' (w.heap.size + 1) w.heap.size (Mk.pk a 99991) g ((0 : Nat) : Int) [] [] [] ∧ Below w.heap.size w w' := by
  have hpa := Mk.pk_bd a 99991 (by decide)
  have hpb := Mk.pk_bd b 20 (by decide)
  have HS : Hid (Mk.isM (Mk.pk a 99991) = true) := (Mk.isM_iff _).2 hpa
  have HN : Hid _ := bk_new w (Mk.pk a 99991) g
  have HBL : Hid (∀ p q : Obj, Below w.heap.size w ((w.alloc p).alloc q)) := fun p q => ((Below.refl _ _).alloc (Nat.le_refl _) _).alloc (by simp) _
  go_enter Tryz.func21, Tryz.ntmps21
  go_wp2_with fail
  refine (fSeeded_any a b _ a1 a2 b1 b2).mono ?_
  rintro e w' ⟨rfl, rfl⟩
  rw [← hg]
  have hg1 : (1 : Int) ≤ (g : Int) := by omega
  have hg2 : (g : Int) ≤ 20 := by omega
  clear hg hpb
  go_wp2_with fail
  refine (fOpened_yes (Mk.pk a 99991) (g : Int) _ HS.out hg1 hg2).mono ?_
  rintro e w1 ⟨rfl, hw1⟩
  subst hw1
  go_wp2
  go_ret
  exact ⟨rfl, HN.out, HBL.out _ _⟩
end Go.Proofs.YtffgpepngcnjeabGreatQ

namespace Go.Proofs.YtffgpepngcnjeabGreatQ
open Go.RowKit
/-- what stays behind a step of the chain -/
theorem nE_step {N : Nat → Prop} {P : Nat} {v v' : Value} {w w' : World} (hst : ChStep P v v' w w') (hN : ∀ k, N k → k < w.heap.size ∧ ¬ chE P v k) : ∀ k, N k → k < w'.heap.size ∧ ¬ chE P v' k := fun k hk => by
  refine ⟨Nat.lt_of_lt_of_le (hN k hk).1 hst.fr.size, fun e => ?_⟩
  rcases e with e | e
  · exact (hN k hk).2 (Or.inl e)
  · rcases hst.own k e with e | e
    · exact (hN k hk).2 (Or.inr e)
    · have := (hN k hk).1; omega
/-- a copy of a transaction, in lists of its own -/
theorem copyTxOk (N : Nat → Prop) (x : TxD) (w : World) (hx : TxOk N w x) (hsm : TxSm x) :
    Calls Tryz.prog 42 #[.agg #[.int .i64 x.t, .slice x.ai x.n x.c, .slice x.ap x.m x.d]] w fun e w' => ∃ y : TxD, e = .returned (.agg #[.int .i64 y.t, .slice y.ai y.n y.c, .slice y.ap y.m y.d]) ∧ y.t = x.t ∧ y.ins.map InD.st = x.ins.map InD.st ∧ y.ys = x.ys ∧ TxOk (fun q => w.heap.size ≤ q ∧ q < w'.heap.size) w' y ∧ Below w.heap.size w w' := by
  refine (copyTx_any x.t x.ai x.n x.c x.ap x.m x.d x.ins x.ys w hx.ins hx.il hx.outs hx.ol hsm.n hsm.m hsm.d).mono ?_
  rintro e w1 ⟨vi, vo, xs', rfl, hfr, hxl, hb1⟩
  obtain ⟨ai', ci, ap', di, rfl, rfl⟩ := fresh_slices hfr
  refine ⟨⟨x.t, ai', xs'.length, ci, ap', x.ys.length, di, xs', x.ys⟩, rfl, rfl, ?_, rfl, fresh_tx hfr x.t rfl rfl, hb1⟩
  exact same_st (by rw [hxl]; exact hx.il.symm) (fun j hj => ((hfr.ok j (by rw [hxl]; have := hx.il; omega)).2.1))
end Go.Proofs.YtffgpepngcnjeabGreatQ

namespace Go.Proofs.YtffgpepngcnjeabGreatQ
open Go.RowKit
theorem keepM4 {E : Nat → Prop} {w w' : World} {S T : Nat} {a0 b0 b1 b2 : Value} (hf : Fr E w w') (h : w.cell? ⟨S, 0, none⟩ = some a0 ∧ w.cell? ⟨T, 0, none⟩ = some b0 ∧ w.cell? ⟨T, 1, none⟩ = some b1 ∧ w.cell? ⟨T, 2, none⟩ = some b2) (hS : ¬ E S) (hT : ¬ E T) :
    w'.cell? ⟨S, 0, none⟩ = some a0 ∧ w'.cell? ⟨T, 0, none⟩ = some b0 ∧ w'.cell? ⟨T, 1, none⟩ = some b1 ∧ w'.cell? ⟨T, 2, none⟩ = some b2 :=
  ⟨hf.cell h.1 hS, hf.cell h.2.1 hT, hf.cell h.2.2.1 hT, hf.cell h.2.2.2 hT⟩
/-- the memory of mined: the scene's first cell, the two transactions that came in -/
structure MnI (S P X Y : Nat) (N : Nat → Prop) (x y : TxD) (n0 ch : Int) (vk : Value) (v : Value) (w : World) : Prop where
  c0 : w.cell? ⟨S, 0, none⟩ = some (.pointer (some ⟨P, 0, none⟩))
  nS : S < w.heap.size ∧ ¬ chE P v S
  vx : VB w X (.int .i64 n0) (.int .i64 x.t) (.slice x.ai x.n x.c) (.slice x.ap x.m x.d) vk (.int .i64 ch)
  vy : V3 w Y (.int .i64 y.t) (.slice y.ai y.n y.c) (.slice y.ap y.m y.d)
  nX : ¬ chE P v X
  nY : ¬ chE P v Y
  tx : TxOk N w x
  ty : TxOk N w y
  hN : ∀ k, N k → k < w.heap.size ∧ ¬ chE P v k
theorem MnI.grown {S P X Y : Nat} {N : Nat → Prop} {x y : TxD} {n0 ch : Int} {vk v : Value} {w w' : World} (u : MnI S P X Y N x y n0 ch vk v w) (hb : Below w.heap.size w w') : MnI S P X Y N x y n0 ch vk v w' :=
  ⟨(hb.cell (p := ⟨S, 0, none⟩) u.nS.1).trans u.c0, ⟨Nat.lt_of_lt_of_le u.nS.1 hb.size, u.nS.2⟩, u.vx.grown hb, u.vy.grown hb, u.nX, u.nY, u.tx.fr (Fr.of_below hb (fun _ => False)) (fun _ _ h => h), u.ty.fr (Fr.of_below hb (fun _ => False)) (fun _ _ h => h), fun k hk => ⟨Nat.lt_of_lt_of_le (u.hN k hk).1 hb.size, (u.hN k hk).2⟩⟩
theorem nE_one {P k : Nat} {v v' : Value} {w w' : World} (hst : ChStep P v v' w w') (hk : k < w.heap.size) (hn : ¬ chE P v k) : ¬ chE P v' k := (nE_step (N := fun q => q = k) hst (fun q hq => by subst hq; exact ⟨hk, hn⟩) k rfl).2
theorem MnI.step {S P X Y : Nat} {N : Nat → Prop} {x y : TxD} {n0 ch : Int} {vk v v' : Value} {w w' : World} (u : MnI S P X Y N x y n0 ch vk v w) (hst : ChStep P v v' w w') : MnI S P X Y N x y n0 ch vk v' w' :=
  ⟨hst.fr.cell u.c0 u.nS.2, ⟨Nat.lt_of_lt_of_le u.nS.1 hst.fr.size, nE_one hst u.nS.1 u.nS.2⟩, u.vx.fr hst.fr u.nX, u.vy.fr hst.fr u.nY, nE_one hst (cell_lt u.vx.c0) u.nX, nE_one hst (cell_lt u.vy.c0) u.nY, u.tx.fr hst.fr (fun k hk => (u.hN k hk).2), u.ty.fr hst.fr (fun k hk => (u.hN k hk).2), nE_step hst u.hN⟩
end Go.Proofs.YtffgpepngcnjeabGreatQ

namespace Go.Proofs.YtffgpepngcnjeabGreatQ
open Go.RowKit
set_option maxRecDepth 100000 in
set_option maxHeartbeats 400000 in
theorem chHeight_any (b o : Nat) (h : Int) (w : World) (hp : w.cell? ⟨b, o + 1, none⟩ = some (.int .i64 h)) :
    Calls Tryz.prog 100 #[.pointer (some ⟨b, o, none⟩)] w fun e w' => e = .returned (.int .i64 h) ∧ w = w' := by
  go_enter Tryz.func100, Tryz.ntmps100
  go_wp2
  go_ret
  exact ⟨rfl, rfl⟩
set_option maxRecDepth 100000 in
set_option maxHeartbeats 400000 in
theorem pHeight4 (P : Nat) (s g : Int) (v : Value) (h : Int) (w : World) (hp : PRow4 w P s g v h) :
    Calls Tryz.prog 58 #[.pointer (some ⟨P, 0, none⟩)] w fun e w' => e = .returned (.int .i64 h) ∧ w = w' := by
  go_enter Tryz.func58, Tryz.ntmps58
  go_wp2_with (go_at_call 100; refine (chHeight_any P 2 h _ hp.c3).mono ?_; rintro e w' ⟨rfl, rfl⟩)
  go_ret
  exact ⟨rfl, rfl⟩
set_option maxRecDepth 100000 in
set_option maxHeartbeats 2000000 in
theorem looked_any (N : Nat → Prop) (ps : List PayD) (ks : List (Int × Int)) (P : Nat) (s : Int) (g : Nat) (ao : Option Addr) (n c : Nat) (h : Int) (xs : List Cel) (w : World) (hs : Mk.isM s = true) (hg : 1 ≤ g) (hg2 : g ≤ 20) (hp : PRow4 w P s g (.slice ao n c) h) (hlp : PayM N w P 4 ps ks) (hx : CelsAt w ao xs) (hn : xs.length = n) (hm : n ≤ 10000) (hv : ∀ x ∈ xs, 0 ≤ x.val ∧ x.val ≤ 1099511627776) :
    Calls Tryz.prog 101 #[.pointer (some ⟨P, 0, none⟩)] w fun e w' => ∃ ac cc, e = .returned (.agg #[.int .i64 h, .int .i64 (winZ xs s g 0), .int .i64 (winZ xs s g 1), .int .i64 (sumC (ownOf xs s g)), .int .i64 (sumC ((ownOf xs s g).filter (freeB ps ks))), .slice ac (ownOf xs s g).length cc]) ∧ OwnRec CoinD.l 107 6 w' w.heap.size (.slice ac (ownOf xs s g).length cc) (ownOf xs s g) ∧ Below w.heap.size w w' := by
  have HV : Hid (∀ x ∈ ownZ (keysZ xs s g) (coinsC xs), 0 ≤ x.val ∧ x.val ≤ 1099511627776) := ownZ_val _ (fun z => 0 ≤ z ∧ z ≤ 1099511627776) _ (coinsC_val (fun z => 0 ≤ z ∧ z ≤ 1099511627776) xs hv)
  have HP : Hid (PRow4 w P s g (.slice ao n c) h) := hp
  have HLP : Hid (PayM N w P 4 ps ks) := hlp
  have HX : Hid (CelsAt w ao xs) := hx
  have HN : Hid (xs.length = n) := hn
  clear hv hp hx hn hlp
  generalize hR : w.heap.size = R
  have HR : Hid (w.heap.size = R) := hR
  clear hR
  go_enter Tryz.func101, Tryz.ntmps101
  go_wp2_with fail
  have vr := VB.new w (.int .i64 0) (.int .i64 0) (.int .i64 0) (.int .i64 0) (.int .i64 0) (.slice none 0 0) 169
  have b1 : Below w.heap.size w (w.alloc (.cells #[.int .i64 0, .int .i64 0, .int .i64 0, .int .i64 0, .int .i64 0, .slice none 0 0] 169)) := (Below.refl _ _).alloc (Nat.le_refl _) _
  have vl := VB.new (w.alloc (.cells #[.int .i64 0, .int .i64 0, .int .i64 0, .int .i64 0, .int .i64 0, .slice none 0 0] 169)) (.int .i64 0) (.int .i64 0) (.int .i64 0) (.int .i64 0) (.int .i64 0) (.slice none 0 0) 169
  have b2 := b1.alloc (by simp) (.cells #[.int .i64 0, .int .i64 0, .int .i64 0, .int .i64 0, .int .i64 0, .slice none 0 0] 169)
  have vr := vr.grown ((Below.refl _ _).alloc (Nat.le_refl _) (.cells #[.int .i64 0, .int .i64 0, .int .i64 0, .int .i64 0, .int .i64 0, .slice none 0 0] 169))
  have hz : ((w.alloc (.cells #[.int .i64 0, .int .i64 0, .int .i64 0, .int .i64 0, .int .i64 0, .slice none 0 0] 169)).alloc (.cells #[.int .i64 0, .int .i64 0, .int .i64 0, .int .i64 0, .int .i64 0, .slice none 0 0] 169)).heap.size = R + 2 := by rw [World.size_alloc, World.size_alloc, HR.out]
  rw [World.size_alloc] at vl
  generalize (w.alloc (.cells #[.int .i64 0, .int .i64 0, .int .i64 0, .int .i64 0, .int .i64 0, .slice none 0 0] 169)).alloc (.cells #[.int .i64 0, .int .i64 0, .int .i64 0, .int .i64 0, .int .i64 0, .slice none 0 0] 169) = w0 at *
  rw [HR.out] at vr vl b2 ⊢
  have HP0 : Hid (PRow4 w0 P s g (.slice ao n c) h) := VRow.grown HP.out (by rw [HR.out]; exact b2)
  have HX0 : Hid (CelsAt w0 ao xs) := HX.out.grown (by rw [HR.out]; exact b2)
  clear b1
  have l0 := vl.c0
  have lf := vl.fz
  have lf0 := lf 0
  -- the step of a store into the block R + 1, behind which all old blocks read the same
  have hbs : ∀ (wq : World) (i : Nat) (u : Value), Below R w wq → R ≤ wq.heap.size → Below R w (wq.setCell ⟨R + 1, i, none⟩ u) := fun wq i u hb _ => hb.setCell (by simp) _
  have HBS : Hid _ := hbs
  clear hbs
  go_wp2_with (go_at_call 58; refine (pHeight4 P s g _ h _ HP0.out).mono ?_; rintro e w' ⟨rfl, rfl⟩)
  have vl1 := vl.s0 (.int .i64 h)
  have vr1 := vr.oth (K := R + 1) (i := 0) (.int .i64 h) (by omega)
  have b3 := b2.setCell (p := ⟨R + 1, 0, none⟩) (by simp) (.int .i64 h)
  have hz1 : (w0.setCell ⟨R + 1, 0, none⟩ (.int .i64 h)).heap.size = R + 2 := by simpa using hz
  have HP1 : Hid (PRow4 (w0.setCell ⟨R + 1, 0, none⟩ (.int .i64 h)) P s g (.slice ao n c) h) := VRow.grown HP.out (by rw [HR.out]; exact b3)
  have HX1 : Hid (CelsAt (w0.setCell ⟨R + 1, 0, none⟩ (.int .i64 h)) ao xs) := HX.out.grown (by rw [HR.out]; exact b3)
  generalize w0.setCell ⟨R + 1, 0, none⟩ (.int .i64 h) = w1 at *
  clear HP0 HX0 vl vr b2 l0 lf lf0 hz
  refine (pWindows4 P s g ao n c h xs _ hs hg hg2 HP1.out HX1.out HN.out (by omega)).mono ?_
  rintro e w2 ⟨rfl, hb2⟩
  have vl2 := vl1.grown hb2
  have vr2 := vr1.grown hb2
  have b4 := b3.trans (hb2.mono (by omega))
  have hz2 := hb2.size
  clear vl1 vr1 b3 HP1 HX1 hb2
  have l1 := vl2.c1
  have l2 := vl2.c2
  have lf1 := vl2.fz 1
  have lf2 := vl2.fz 2
  generalize hW0 : winZ xs s g 0 = W0 at *
  generalize hW1 : winZ xs s g 1 = W1 at *
  have HW0 : Hid (winZ xs s g 0 = W0) := hW0
  have HW1 : Hid (winZ xs s g 1 = W1) := hW1
  clear hW0 hW1
  go_wp2_with fail
  have vl3 := (vl2.s1 (.int .i64 W0)).s2 (.int .i64 W1)
  have vr3 := (vr2.oth (K := R + 1) (i := 1) (.int .i64 W0) (by omega)).oth (K := R + 1) (i := 2) (.int .i64 W1) (by omega)
  have b5 := (b4.setCell (p := ⟨R + 1, 1, none⟩) (by simp) (.int .i64 W0)).setCell (p := ⟨R + 1, 2, none⟩) (by simp) (.int .i64 W1)
  have hz3 : ((w2.setCell ⟨R + 1, 1, none⟩ (.int .i64 W0)).setCell ⟨R + 1, 2, none⟩ (.int .i64 W1)).heap.size = w2.heap.size := by simp
  generalize (w2.setCell ⟨R + 1, 1, none⟩ (.int .i64 W0)).setCell ⟨R + 1, 2, none⟩ (.int .i64 W1) = w3 at *
  clear vl2 vr2 b4 l1 l2 lf1 lf2
  have HL3 : Hid (PayM N w3 P 4 ps ks) := HLP.out.grown (by rw [HR.out]; exact b5)
  have HP3 : Hid (PRow4 w3 P s g (.slice ao n c) h) := VRow.grown HP.out (by rw [HR.out]; exact b5)
  have HX3 : Hid (CelsAt w3 ao xs) := HX.out.grown (by rw [HR.out]; exact b5)
  have hz3' : R + 2 ≤ w3.heap.size := by omega
  clear hz1 hz2 hz3
  refine (pBalance4 N ps ks P s g ao n c h xs _ hs hg hg2 HP3.out HL3.out HX3.out HN.out hm HV.out).mono ?_
  rintro e w4 ⟨rfl, hb4⟩
  have vl4 := vl3.grown hb4
  have vr4 := vr3.grown hb4
  have b6 := b5.trans (hb4.mono (by omega))
  have hz4 : R + 2 ≤ w4.heap.size := Nat.le_trans hz3' hb4.size
  clear vl3 vr3 b5 HP3 HL3 HX3 hb4 hz3'
  have l3 := vl4.c3
  have l4 := vl4.c4
  have lf3 := vl4.fz 3
  have lf4 := vl4.fz 4
  generalize hOc : ownZ (keysZ xs s g) (coinsC xs) = oc at *
  have HOC : Hid (ownOf xs s g = oc) := hOc
  generalize hSC : sumC oc = SC at *
  have HSC : Hid (sumC oc = SC) := hSC
  clear hSC
  generalize hFC : sumC (oc.filter (freeB ps ks)) = FC at *
  have HFC : Hid (sumC (oc.filter (freeB ps ks)) = FC) := hFC
  clear hFC
  go_wp2_with fail
  have vl5 := (vl4.s3 (.int .i64 SC)).s4 (.int .i64 FC)
  have vr5 := (vr4.oth (K := R + 1) (i := 3) (.int .i64 SC) (by omega)).oth (K := R + 1) (i := 4) (.int .i64 FC) (by omega)
  have b7 := (b6.setCell (p := ⟨R + 1, 3, none⟩) (by simp) (.int .i64 SC)).setCell (p := ⟨R + 1, 4, none⟩) (by simp) (.int .i64 FC)
  have hz5 : ((w4.setCell ⟨R + 1, 3, none⟩ (.int .i64 SC)).setCell ⟨R + 1, 4, none⟩ (.int .i64 FC)).heap.size = w4.heap.size := by simp
  generalize (w4.setCell ⟨R + 1, 3, none⟩ (.int .i64 SC)).setCell ⟨R + 1, 4, none⟩ (.int .i64 FC) = w5 at *
  clear vl4 vr4 b6 l3 l4 lf3 lf4
  have HP5 : Hid (PRow4 w5 P s g (.slice ao n c) h) := VRow.grown HP.out (by rw [HR.out]; exact b7)
  have HX5 : Hid (CelsAt w5 ao xs) := HX.out.grown (by rw [HR.out]; exact b7)
  refine (pCoins4 P s g ao n c h xs _ hs hg hg2 HP5.out HX5.out HN.out hm).mono ?_
  rintro e w6 ⟨v, rfl, ho, hb6⟩
  rw [hOc] at ho
  obtain ⟨ac, cc, rfl, _⟩ := OwnRec.at coin6 ho
  have vl6 := vl5.grown hb6
  have vr6 := vr5.grown hb6
  have b8 := b7.trans (hb6.mono (by omega))
  have hz6 : R + 2 ≤ w6.heap.size := by have := hb6.size; omega
  have HOW : Hid (OwnRec CoinD.l 107 6 w6 w5.heap.size (.slice ac oc.length cc) oc) := ho
  have hz56 : R + 2 ≤ w5.heap.size := by omega
  clear vl5 vr5 b7 HP5 HX5 hb6 ho hOc hz4 hz5
  obtain ⟨l0, l1, l2, l3, l4, l5, lf⟩ := vl6
  have HVR : Hid _ := vr6
  obtain ⟨r0, r1, r2, r3, r4, r5, rf⟩ := vr6
  have lf5 := lf 5
  have rf0 := rf 0
  have rf1 := rf 1
  have rf2 := rf 2
  have rf3 := rf 3
  have rf4 := rf 4
  have rf5 := rf 5
  go_wp2
  have vF := ((((((HVR.out.oth (K := R + 1) (i := 5) (.slice ac oc.length cc) (by omega)).s0 (.int .i64 h)).s1 (.int .i64 W0)).s2 (.int .i64 W1)).s3 (.int .i64 SC)).s4 (.int .i64 FC)).s5 (.slice ac oc.length cc)
  have bF := ((((((b8.setCell (p := ⟨R + 1, 5, none⟩) (by simp) (.slice ac oc.length cc)).setCell (p := ⟨R, 0, none⟩) (Nat.le_refl _) (.int .i64 h)).setCell (p := ⟨R, 1, none⟩) (Nat.le_refl _) (.int .i64 W0)).setCell (p := ⟨R, 2, none⟩) (Nat.le_refl _) (.int .i64 W1)).setCell (p := ⟨R, 3, none⟩) (Nat.le_refl _) (.int .i64 SC)).setCell (p := ⟨R, 4, none⟩) (Nat.le_refl _) (.int .i64 FC)).setCell (p := ⟨R, 5, none⟩) (Nat.le_refl _) (.slice ac oc.length cc)
  have oF : OwnRec CoinD.l 107 6 (((((((w6.setCell ⟨R + 1, 5, none⟩ (.slice ac oc.length cc)).setCell ⟨R, 0, none⟩ (.int .i64 h)).setCell ⟨R, 1, none⟩ (.int .i64 W0)).setCell ⟨R, 2, none⟩ (.int .i64 W1)).setCell ⟨R, 3, none⟩ (.int .i64 SC)).setCell ⟨R, 4, none⟩ (.int .i64 FC)).setCell ⟨R, 5, none⟩ (.slice ac oc.length cc)) R (.slice ac oc.length cc) oc := by
    have h1 : OwnRec CoinD.l 107 6 w6 (R + 2) (.slice ac oc.length cc) oc := owns_lower HOW.out hz56
    have h2 := ownsRow_setCell_below h1 (a := ⟨R + 1, 5, none⟩) (by show R + 1 < R + 2; omega) (.slice ac oc.length cc)
    have h3 := ownsRow_setCell_below h2 (a := ⟨R, 0, none⟩) (by show R < R + 2; omega) (.int .i64 h)
    have h4 := ownsRow_setCell_below h3 (a := ⟨R, 1, none⟩) (by show R < R + 2; omega) (.int .i64 W0)
    have h5 := ownsRow_setCell_below h4 (a := ⟨R, 2, none⟩) (by show R < R + 2; omega) (.int .i64 W1)
    have h6 := ownsRow_setCell_below h5 (a := ⟨R, 3, none⟩) (by show R < R + 2; omega) (.int .i64 SC)
    have h7 := ownsRow_setCell_below h6 (a := ⟨R, 4, none⟩) (by show R < R + 2; omega) (.int .i64 FC)
    have h8 := ownsRow_setCell_below h7 (a := ⟨R, 5, none⟩) (by show R < R + 2; omega) (.slice ac oc.length cc)
    exact owns_lower h8 (by omega)
  obtain ⟨q0, q1, q2, q3, q4, q5, _⟩ := vF
  refine bodyPost_ret (v := .agg #[.int .i64 h, .int .i64 W0, .int .i64 W1, .int .i64 SC, .int .i64 FC, .slice ac oc.length cc]) ?_ rfl ?_
  · simp [results, Tryz.results101, go_sem, q0, q1, q2, q3, q4, q5]
  · rw [HW0.out, HW1.out, HOC.out]
    exact ⟨ac, cc, by rw [HSC.out, HFC.out], oF, bF⟩
set_option maxRecDepth 100000 in
set_option maxHeartbeats 2000000 in
theorem alike_any (h1 h2 more r c a f : Int) (ao bo : Option Addr) (n cp dp : Nat) (cs : List CoinD) (w : World) (ha : RecAt CoinD.l w ao cs) (hb : RecAt CoinD.l w bo cs) (hn : cs.length = n) (hm : n ≤ 10000) (hh : h1 + more = h2) (h1b : 0 ≤ h1 ∧ h1 ≤ 100) (hmb : 0 ≤ more ∧ more ≤ 1) :
    Calls Tryz.prog 102 #[.agg #[.int .i64 h1, .int .i64 r, .int .i64 c, .int .i64 a, .int .i64 f, .slice ao n cp], .agg #[.int .i64 h2, .int .i64 r, .int .i64 c, .int .i64 a, .int .i64 f, .slice bo n dp], .int .i64 more] w fun e w' => e = .returned (.bool true) ∧ Below w.heap.size w w' := by
  have HA : Hid (RecAt CoinD.l w ao cs) := ha
  have HB : Hid (RecAt CoinD.l w bo cs) := hb
  have HN : Hid (cs.length = n) := hn
  clear ha hb hn
  have hw : IntKind.i64.wrap (h1 + more) = h2 := by rw [hh]; exact IntWalk.i64_in _ ⟨by omega, by omega⟩
  have hbn : (h2 != h2) = false := by simp
  have b2 : ∀ o o', Below w.heap.size w ((w.alloc o).alloc o') := fun o o' => ((Below.refl _ _).alloc (Nat.le_refl _) _).alloc (by simp) _
  have HB2 : Hid _ := b2
  clear b2
  have va := VB.new w (.int .i64 h1) (.int .i64 r) (.int .i64 c) (.int .i64 a) (.int .i64 f) (.slice ao n cp) 169
  have vb := VB.new (w.alloc (.cells #[.int .i64 h1, .int .i64 r, .int .i64 c, .int .i64 a, .int .i64 f, .slice ao n cp] 169)) (.int .i64 h2) (.int .i64 r) (.int .i64 c) (.int .i64 a) (.int .i64 f) (.slice bo n dp) 169
  have va := va.grown ((Below.refl _ _).alloc (Nat.le_refl _) (.cells #[.int .i64 h2, .int .i64 r, .int .i64 c, .int .i64 a, .int .i64 f, .slice bo n dp] 169))
  rw [World.size_alloc] at vb
  have b2 := HB2.out (.cells #[.int .i64 h1, .int .i64 r, .int .i64 c, .int .i64 a, .int .i64 f, .slice ao n cp] 169) (.cells #[.int .i64 h2, .int .i64 r, .int .i64 c, .int .i64 a, .int .i64 f, .slice bo n dp] 169)
  have HVA : Hid _ := va
  have HVB : Hid _ := vb
  have HBW : Hid _ := b2
  clear va vb b2 HB2
  go_enter Tryz.func102, Tryz.ntmps102
  go_wp2
  generalize (w.alloc (.cells #[.int .i64 h1, .int .i64 r, .int .i64 c, .int .i64 a, .int .i64 f, .slice ao n cp] 169)).alloc (.cells #[.int .i64 h2, .int .i64 r, .int .i64 c, .int .i64 a, .int .i64 f, .slice bo n dp] 169) = w0 at *
  have HA0 : Hid (RecAt CoinD.l w0 ao cs) := HA.out.grown HBW.out
  have HB0 : Hid (RecAt CoinD.l w0 bo cs) := HB.out.grown HBW.out
  go_loopw [7] (fun i wr => ∃ k : Nat, k ≤ n ∧ i = .int .i64 k ∧ Below w0.heap.size w0 wr) (fun i _ => n - (intOf i).toNat)
  case atStart => exact ⟨0, Nat.zero_le _, rfl, Below.refl _ _⟩
  case round =>
    obtain ⟨k, hk, rfl, hbl⟩ := hrel
    have hsz := hbl.size
    have a5 := (HVA.out.grown hbl).c5
    have b5 := (HVB.out.grown hbl).c5
    have hla : w.heap.size < wr.heap.size := cell_lt a5
    have hlb : w.heap.size + 1 < wr.heap.size := cell_lt b5
    by_cases hlt : k < n
    · rcases HA0.out with hnil | ⟨ga, oa, rfl, hra⟩
      · have := HN.out; rw [hnil] at this; simp at this; omega
      rcases HB0.out with hnil | ⟨gb, ob, rfl, hrb⟩
      · have := HN.out; rw [hnil] at this; simp at this; omega
      obtain ⟨x0, x1, x2, x3, x4, x5⟩ := coinCells (hra.grown hbl) k (by rw [HN.out]; exact hlt)
      obtain ⟨y0, y1, y2, y3, y4, y5⟩ := coinCells (hrb.grown hbl) k (by rw [HN.out]; exact hlt)
      clear hra hrb
      generalize cs.getD k dN = z at x0 x1 x2 x3 x4 x5 y0 y1 y2 y3 y4 y5
      obtain ⟨z0, z1, z2, z3, z4, z5⟩ := z
      simp only at x0 x1 x2 x3 x4 x5 y0 y1 y2 y3 y4 y5
      have bA : Below wr.heap.size wr (wr.alloc (.cells #[.int .i64 z0, .int .i64 z1, .int .i64 z2, .int .i64 z3, .int .i64 z4, .int .i64 z5] 107)) := (Below.refl _ _).alloc (Nat.le_refl _) _
      have hgb : gb < wr.heap.size := cell_lt y0
      have y0' := (bA.cell (p := ⟨gb, ob + k * 6, none⟩) hgb).trans y0
      have y1' := (bA.cell (p := ⟨gb, ob + k * 6 + 1, none⟩) hgb).trans y1
      have y2' := (bA.cell (p := ⟨gb, ob + k * 6 + 2, none⟩) hgb).trans y2
      have y3' := (bA.cell (p := ⟨gb, ob + k * 6 + 3, none⟩) hgb).trans y3
      have y4' := (bA.cell (p := ⟨gb, ob + k * 6 + 4, none⟩) hgb).trans y4
      have y5' := (bA.cell (p := ⟨gb, ob + k * 6 + 5, none⟩) hgb).trans y5
      have b5' := (bA.cell (p := ⟨w.heap.size + 1, 5, none⟩) hlb).trans b5
      clear bA
      go_wp2
      go_roundw
      case rel => exact ⟨k + 1, by omega, by go_num, (hbl.alloc hsz _).alloc (by simp; omega) _⟩
      case measure => simp [intOf]; omega
    · go_wp2
      go_ret
      exact ⟨rfl, below_blk HBW.out hbl⟩
end Go.Proofs.YtffgpepngcnjeabGreatQ
