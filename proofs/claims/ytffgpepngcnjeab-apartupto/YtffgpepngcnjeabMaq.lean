/-
  A book of payments: moves.
  A book of payments: booked, Apart.
  Apart: the walk.
  A transaction that came in as data: what lies in memory.
  A script that came in as data: what lies in memory.
-/
import Derived.Test.YtffgpepngcnjeabMap
import Derived.Test.YtffgpepngcnjeabMad
import Derived.Test.YtffgpepngcnjeabMab
import Derived.ProofKit
import Derived.OpenShut
import Derived.Deep.Slices
import Derived.Deep.Strs
import Derived.Lib.SmallJoins
import Derived.SizedLaws
namespace Go.Proofs.Ytffgpepngcnjeab
open Go.RowKit
/-- a purse with its further cells -/
abbrev PAe (w : World) (P : Nat) (s : Int) (g : Nat) (v : Value) (h : Int) (xs : List Cel) (vl vs : Value) (md nx : Int) : Prop := ChOwn [(0, .int .i64 s), (1, .int .i64 (g : Int)), (4, vl), (5, vs), (6, .int .i64 md), (7, .int .i64 nx)] w P 2 v h xs
theorem PP.toE {N : Nat → Prop} {w : World} {P : Nat} {s : Int} {g : Nat} {v : Value} {h : Int} {xs : List Cel} {vl vs : Value} {md nx : Int} {ps : List PayD} {ks : List (Int × Int)} (u : PP N w P s g v h xs vl vs md nx ps ks) : PAe w P s g v h xs vl vs md nx := by
  refine ⟨u.pu.c0, u.pu.c1, u.pu.f0, u.pu.f1, u.pu.own, fun q hq => ?_⟩
  simp only [List.mem_cons, List.not_mem_nil, or_false] at hq
  rcases hq with rfl | rfl | rfl | rfl | rfl | rfl
  · exact u.pu.ext _ (by simp)
  · exact u.pu.ext _ (by simp)
  · exact ⟨by simp, by simp, u.ls.c0⟩
  · exact ⟨by simp, by simp, u.ls.c1⟩
  · exact ⟨by simp, by simp, u.ls.c2⟩
  · exact ⟨by simp, by simp, u.ls.c3⟩
theorem PP.ofE {F N : Nat → Prop} {w w' : World} {P : Nat} {s : Int} {g : Nat} {v v' : Value} {h h' : Int} {xs xs' : List Cel} {vl vs : Value} {md nx : Int} {ps : List PayD} {ks : List (Int × Int)} (u : PP N w P s g v h xs vl vs md nx ps ks) (hp : PAe w' P s g v' h' xs' vl vs md nx) (hf : Fr F w w') (h1 : ∀ k, vl.ownBlock = some k → ¬ F k) (h2 : ∀ k, vs.ownBlock = some k → ¬ F k) (h3 : ∀ k, N k → ¬ F k) (hd : ∀ k, v'.ownBlock = some k → vl.ownBlock ≠ some k ∧ vs.ownBlock ≠ some k ∧ ¬ N k) : PP N w' P s g v' h' xs' vl vs md nx ps ks := by
  refine ⟨⟨hp.c0, hp.c1, hp.f0, hp.f1, hp.own, fun q hq => hp.ext q ?_⟩, ⟨(hp.ext (4, vl) (by simp)).2.2, (hp.ext (5, vs) (by simp)).2.2, (hp.ext (6, .int .i64 md) (by simp)).2.2, (hp.ext (7, .int .i64 nx) (by simp)).2.2, hp.f1, hf.own u.ls.ol h1, hf.own u.ls.os h2, fun p hp => (u.ls.ok p hp).fr hf h3, u.ls.nb, u.ls.nl, fun k hk => ⟨Nat.lt_of_lt_of_le (u.ls.nN k hk).1 hf.size, (u.ls.nN k hk).2⟩⟩, hd⟩
  simp only [List.mem_cons, List.not_mem_nil, or_false] at hq ⊢
  rcases hq with rfl | rfl <;> simp
set_option maxRecDepth 100000 in
set_option maxHeartbeats 400000 in
theorem pConnectE (P : Nat) (s : Int) (g : Nat) (v : Value) (h : Int) (xs : List Cel) (vl vs : Value) (md nx : Int) (N : Nat → Prop) (ao : Option Addr) (n c : Nat) (bl : List TxD) (w : World)
    (hp : PAe w P s g v h xs vl vs md nx) (hl : xs.length ≤ 5000) (hv : Vals xs) (hh : 0 ≤ h ∧ h ≤ 100) (hb : BlkAt N w ao bl) (hn : bl.length = n) (hN : ∀ k, N k → k < w.heap.size ∧ ¬ chE P v k) (hn2 : n ≤ 9223372036854775807) :
    Calls Try.prog 41 #[.pointer (some ⟨P, 0, none⟩), .slice ao n c] w fun e w' => e = .returned (.tuple #[.int .i64 (connZ h xs bl).1, .int .i64 (connZ h xs bl).2.1]) ∧ ∃ v', PAe w' P s g v' (connZ h xs bl).2.2.1 (connZ h xs bl).2.2.2 vl vs md nx ∧ ChStep P v v' w w' := by
  go_enter Try.func41, Try.ntmps41
  go_wp2_with fail
  refine (connect_any P 2 v h xs N ao n c bl _ hp hl hv hh hb hn hN hn2).mono ?_
  rintro e w1 ⟨rfl, v', h1, h2⟩
  go_wp2
  go_ret2
  exact ⟨rfl, v', h1, h2⟩
set_option maxRecDepth 100000 in
set_option maxHeartbeats 400000 in
theorem pDisE (P : Nat) (s : Int) (g : Nat) (v : Value) (h : Int) (xs : List Cel) (vl vs : Value) (md nx : Int) (w : World) (hp : PAe w P s g v h xs vl vs md nx) (hl : xs.length ≤ 20000) (hh : 0 < h) (hh2 : h ≤ 100) :
    Calls Try.prog 42 #[.pointer (some ⟨P, 0, none⟩)] w fun e w' => e = .returned (.int .i64 0) ∧ ∃ v', PAe w' P s g v' (h - 1) (tbZ (h - 1) xs) vl vs md nx ∧ ChStep P v v' w w' := by
  go_enter Try.func42, Try.ntmps42
  go_wp2_with fail
  refine (chDis_any P 2 v h xs _ hp hl hh hh2).mono ?_
  rintro e w1 ⟨rfl, v', h1, h2⟩
  go_wp2
  go_ret
  exact ⟨rfl, v', h1, h2⟩
set_option maxRecDepth 100000 in
set_option maxHeartbeats 400000 in
theorem pDisE_none (P : Nat) (s : Int) (g : Nat) (v : Value) (xs : List Cel) (vl vs : Value) (md nx : Int) (w : World) (hp : PAe w P s g v 0 xs vl vs md nx) :
    Calls Try.prog 42 #[.pointer (some ⟨P, 0, none⟩)] w fun e w' => e = .returned (.int .i64 8) ∧ w = w' := by
  have c1 := hp.c1
  clear hp
  go_enter Try.func42, Try.ntmps42
  go_wp2_with (go_at_call 62; refine (chDis_none P 2 _ c1).mono ?_; rintro e w' ⟨rfl, rfl⟩)
  go_ret
  exact ⟨rfl, rfl⟩
variable {NP ND : Nat → Prop} {w : World} {B P : Nat} {s : Int} {g : Nat} {v : Value} {h : Int} {xs : List Cel} {vl vs : Value} {md nx : Int} {ps : List PayD} {ks : List (Int × Int)} {vd : Value} {ds : List DeedD}
theorem Bk.chain {w' : World} {v' : Value} {h' : Int} {xs' : List Cel} (u : Bk NP ND w B P s g v h xs vl vs md nx ps ks vd ds) (hp : PAe w' P s g v' h' xs' vl vs md nx) (hst : ChStep P v v' w w') : Bk NP ND w' B P s g v' h' xs' vl vs md nx ps ks vd ds := by
  have hf := hst.fr
  have hB : ¬ chE P v B := fun e => (u.dj B (Or.inl e)).1 rfl
  have hvd : ∀ k, vd.ownBlock = some k → ¬ chE P v k := fun k hk e => (u.dj k (Or.inl e)).2.1 hk
  have hnd : ∀ k, ND k → ¬ chE P v k := fun k hk e => (u.dj k (Or.inl e)).2.2 hk
  have hnb := u.pp.ls.nb
  have hl : ∀ k, vl.ownBlock = some k → ¬ chE P v k := fun k hk e => by
    rcases e with e | e
    · have := (u.pp.ls.ol.blk k hk).1; omega
    · exact (u.pp.dj k e).1 hk
  have hs : ∀ k, vs.ownBlock = some k → ¬ chE P v k := fun k hk e => by
    rcases e with e | e
    · have := (u.pp.ls.os.blk k hk).1; omega
    · exact (u.pp.dj k e).2.1 hk
  have hn : ∀ k, NP k → ¬ chE P v k := fun k hk e => by
    rcases e with e | e
    · exact (u.pp.ls.nN k hk).2.1 e
    · exact (u.pp.dj k e).2.2 hk
  refine ⟨u.pp.ofE hp hf hl hs hn (fun k hk => ?_), hf.cell u.b0 hB, hf.cell u.b1 hB, hf.cell u.b2 hB, fun j => (hf.frozen (cell_lt u.b0) hB).trans (u.fb j), hf.own u.od hvd, fun d hd => (u.ok d hd).fr hf hnd, fun k hk => ?_, fun k hk => ⟨Nat.lt_of_lt_of_le (u.nd k hk).1 hf.size, (u.nd k hk).2⟩⟩
  · rcases hst.own k hk with e | e
    · exact u.pp.dj k e
    · refine ⟨fun e2 => ?_, fun e2 => ?_, fun e2 => ?_⟩
      · have := (u.pp.ls.ol.blk k e2).2; omega
      · have := (u.pp.ls.os.blk k e2).2; omega
      · have := (u.pp.ls.nN k e2).1; omega
  · rcases hk with hk | hk
    · rcases hk with hk | hk
      · exact u.dj k (Or.inl (Or.inl hk))
      · rcases hst.own k hk with e | e
        · exact u.dj k (Or.inl (Or.inr e))
        · refine ⟨fun e2 => ?_, fun e2 => ?_, fun e2 => ?_⟩
          · have : B < w.heap.size := cell_lt u.b0
            omega
          · have := (u.od.blk k e2).2; omega
          · have := (u.nd k e2).1; omega
    · exact u.dj k (Or.inr hk)
theorem Bk.chainQ {base : Nat} {w' : World} {v' : Value} {h' : Int} {xs' : List Cel} (u : Bk NP ND w B P s g v h xs vl vs (ds.length : Nat) nx ps ks vd ds) (hlk : LkB ps ks ds) (hba : ∀ k, (chE P v k ∨ lsE P vl vs k ∨ NP k ∨ k = B ∨ vd.ownBlock = some k ∨ ND k) → base ≤ k) (hp : PAe w' P s g v' h' xs' vl vs (ds.length : Nat) nx) (hst : ChStep P v v' w w') : BkQ base w' B P s g h' xs' ks ds ∧ Fr (fun k => base ≤ k) w w' := by
  have hbw : base ≤ w.heap.size := by have := hba B (Or.inr (Or.inr (Or.inr (Or.inl rfl)))); have : B < w.heap.size := cell_lt u.b0; omega
  refine ⟨⟨_, _, _, _, _, _, _, _, u.chain hp hst, hlk, fun k hk => ?_⟩, hst.fr.weak (fun k _ e => hba k (Or.inl e))⟩
  rcases hk with hk | hk
  · rcases hk with hk | hk
    · exact hba k (Or.inl (Or.inl hk))
    · rcases hst.own k hk with e | e
      · exact hba k (Or.inl (Or.inr e))
      · omega
  · exact hba k (Or.inr hk)
set_option maxRecDepth 100000 in
set_option maxHeartbeats 1000000 in
theorem bMoves_any {base hN : Nat} (w : World) (u : Bk NP ND w B P s g v (hN : Nat) xs vl vs (ds.length : Nat) nx ps ks vd ds) (hlk : LkB ps ks ds) (hba : ∀ k, (chE P v k ∨ lsE P vl vs k ∨ NP k ∨ k = B ∨ vd.ownBlock = some k ∨ ND k) → base ≤ k) (hc : Chn hN xs)
    (kd a b : Int) (ab : Option Addr) (m d : Nat) (bl : List TxD) (N : Nat → Prop) (va : Value) (hb : BlkAt N w ab bl) (hm : bl.length = m) (hsm : ∀ x ∈ bl, TxSm x) (hm2 : m ≤ 2513169434916) (hNb : ∀ k, N k → k < base) (oa : Option Addr) (om od : Nat) (hva : va = .slice oa om od) :
    Calls Try.prog 19 #[.pointer (some ⟨B, 0, none⟩), .agg #[.int .i64 kd, .int .i64 a, .int .i64 b, .slice ab m d, va]] w fun e w' => e = .returned (.tuple #[]) ∧ Fr (fun k => base ≤ k) w w' ∧ ∃ (h' : Nat) (xs' : List Cel), Chn h' xs' ∧ BkQ base w' B P s g (h' : Nat) xs' ks ds := by
  subst hva
  have HU : Hid (Bk NP ND w B P s g v (hN : Nat) xs vl vs (ds.length : Nat) nx ps ks vd ds) := u
  have HLK : Hid (LkB ps ks ds) := hlk
  have HBA : Hid (∀ k, (chE P v k ∨ lsE P vl vs k ∨ NP k ∨ k = B ∨ vd.ownBlock = some k ∨ ND k) → base ≤ k) := hba
  have HC : Hid (Chn hN xs) := hc
  have HBL : Hid (BlkAt N w ab bl) := hb
  have HBM : Hid (bl.length = m) := hm
  have HSM : Hid (∀ x ∈ bl, TxSm x) := hsm
  obtain ⟨hV, hx1, hh1, _⟩ := hc.facts
  have HV : Hid (Vals xs) := hV
  have hbw : base ≤ w.heap.size := by have := hba B (Or.inr (Or.inr (Or.inr (Or.inl rfl)))); have : B < w.heap.size := cell_lt u.b0; omega
  have HNB : Hid (∀ k, N k → k < base) := hNb
  have bA : Below w.heap.size w (w.alloc (.cells #[.int .i64 kd, .int .i64 a, .int .i64 b, .slice ab m d, .slice oa om od] 55)) := (Below.refl _ _).alloc (Nat.le_refl _) _
  have HB0 : Hid (Below w.heap.size w (w.alloc (.cells #[.int .i64 kd, .int .i64 a, .int .i64 b, .slice ab m d, .slice oa om od] 55))) := bA
  have x0 : (w.alloc (.cells #[.int .i64 kd, .int .i64 a, .int .i64 b, .slice ab m d, .slice oa om od] 55)).cell? ⟨w.heap.size, 0, none⟩ = some (.int .i64 kd) := by go_simp
  have x3 : (w.alloc (.cells #[.int .i64 kd, .int .i64 a, .int .i64 b, .slice ab m d, .slice oa om od] 55)).cell? ⟨w.heap.size, 3, none⟩ = some (.slice ab m d) := by go_simp
  have b0 : (w.alloc (.cells #[.int .i64 kd, .int .i64 a, .int .i64 b, .slice ab m d, .slice oa om od] 55)).cell? ⟨B, 0, none⟩ = some (.pointer (some ⟨P, 0, none⟩)) := (bA.cell (p := ⟨B, 0, none⟩) (cell_lt u.b0)).trans u.b0
  clear u hlk hba hc hb hm hsm hV bA hNb
  go_enter Try.func19, Try.ntmps19
  go_upto_region 1 with fail
  generalize w.alloc (.cells #[.int .i64 kd, .int .i64 a, .int .i64 b, .slice ab m d, .slice oa om od] 55) = w0 at *
  have HU0 : Hid (Bk NP ND w0 B P s g v (hN : Nat) xs vl vs (ds.length : Nat) nx ps ks vd ds) := HU.out.grown HB0.out
  have HBL0 : Hid (BlkAt N w0 ab bl) := HBL.out.fr (Fr.of_below HB0.out (fun _ => False)) (fun _ _ h => h)
  have HF0 : Hid (Fr (fun k => base ≤ k) w w0) := Fr.of_below HB0.out _
  have hs0 := HB0.out.size
  clear HU HBL HB0
  generalize w.heap.size = X at *
  by_cases h1 : kd = 1
  · subst h1
    go_wp2_with fail
    refine (copyBlock_any N ab m d bl _ HBL0.out HBM.out HSM.out hm2 (fun k hk => by have := HNB.out k hk; omega)).mono ?_
    rintro e w1 ⟨ao', c', bl', rfl, hl', _, hblk, hb1⟩
    have HU1 : Hid (Bk NP ND w1 B P s g v (hN : Nat) xs vl vs (ds.length : Nat) nx ps ks vd ds) := HU0.out.grown hb1
    have HF1 : Hid (Fr (fun k => base ≤ k) w w1) := HF0.out.trans (Fr.of_below hb1 _)
    have HBK : Hid (BlkAt (fun q => w0.heap.size ≤ q ∧ q < w1.heap.size) w1 ao' bl') := hblk
    have HBN : Hid (bl'.length = m) := hl'
    have HNQ : Hid (∀ k, (w0.heap.size ≤ k ∧ k < w1.heap.size) → k < w1.heap.size ∧ ¬ chE P v k) := fun k hk => ⟨hk.2, fun e => by have := (HU0.out.pp.pu.blk k e).2; omega⟩
    clear hb1 hblk hl' x0 x3 b0 HU0 HF0 HBL0 HBM HSM
    have b0 := HU1.out.b0
    go_wp2_with fail
    refine (pConnectE P s g v (hN : Nat) xs vl vs (ds.length : Nat) nx _ ao' m c' bl' _ HU1.out.pp.toE (by omega) HV.out (by omega) HBK.out HBN.out HNQ.out (by omega)).mono ?_
    rintro e w2 ⟨rfl, v', hp, hst⟩
    obtain ⟨h', eh, hch⟩ := HC.out.conn bl'
    rw [eh] at hp
    have HFI : Hid (BkQ base w2 B P s g (h' : Nat) (connZ (hN : Nat) xs bl').2.2.2 ks ds ∧ Fr (fun k => base ≤ k) w1 w2) := HU1.out.chainQ HLK.out HBA.out hp hst
    have HCH : Hid (Chn h' (connZ (hN : Nat) xs bl').2.2.2) := hch
    clear hp hst hch eh b0
    go_wp2
    go_returns
    exact ⟨rfl, HF1.out.trans HFI.out.2, h', _, HCH.out, HFI.out.1⟩
  · have e1 : (kd == 1) = false := by simpa using h1
    by_cases h2 : kd = 2
    · subst h2
      cases hN with
      | zero =>
        go_wp2_with fail
        refine (pDisE_none P s g v xs vl vs (ds.length : Nat) nx _ HU0.out.pp.toE).mono ?_
        rintro e w2 ⟨rfl, rfl⟩
        go_wp2
        go_returns
        exact ⟨rfl, HF0.out, 0, xs, HC.out, ⟨_, _, _, _, _, _, _, _, HU0.out, HLK.out, HBA.out⟩⟩
      | succ n =>
        have hn1 : (((n + 1 : Nat) : Int)) - 1 = (n : Nat) := by omega
        go_wp2_with fail
        refine (pDisE P s g v ((n + 1 : Nat) : Int) xs vl vs (ds.length : Nat) nx _ HU0.out.pp.toE (by omega) (by omega) (by omega)).mono ?_
        rintro e w2 ⟨rfl, v', hp, hst⟩
        rw [hn1] at hp
        have HFI : Hid (BkQ base w2 B P s g (n : Nat) (tbZ (n : Nat) xs) ks ds ∧ Fr (fun k => base ≤ k) w0 w2) := HU0.out.chainQ HLK.out HBA.out hp hst
        have HCH : Hid (Chn n (tbZ (n : Nat) xs)) := HC.out.dis
        clear hp hst x0 x3 b0
        go_wp2
        go_returns
        exact ⟨rfl, HF0.out.trans HFI.out.2, n, _, HCH.out, HFI.out.1⟩
    · have e2 : (kd == 2) = false := by simpa using h2
      go_wp2
      go_returns
      exact ⟨rfl, HF0.out, hN, xs, HC.out, ⟨_, _, _, _, _, _, _, _, HU0.out, HLK.out, HBA.out⟩⟩
end Go.Proofs.Ytffgpepngcnjeab

namespace Go.Proofs.Ytffgpepngcnjeab
open Go.RowKit
/-- a step of a script -/
structure StD where
  k : Int
  a : Int
  b : Int
  bo : Option Addr
  bn : Nat
  bc : Nat
  oo : Option Addr
  on : Nat
  oc : Nat
  bl : List TxD
  ys : List (Int × Int)
def dSt : StD := ⟨0, 0, 0, none, 0, 0, none, 0, 0, [], []⟩
def StD.v (x : StD) : List Value := [.int .i64 x.k, .int .i64 x.a, .int .i64 x.b, .slice x.bo x.bn x.bc, .slice x.oo x.on x.oc]
theorem st5 (x : StD) : x.v.length = 5 := rfl
structure StOk (B0 : Nat) (w : World) (x : StD) : Prop where
  bk : BlkAt (fun q => q < B0) w x.bo x.bl
  bn : x.bl.length = x.bn
  sm : ∀ t ∈ x.bl, TxSm t
  b2 : x.bn ≤ 2513169434916
  ou : OutsAt w x.oo x.ys
  ol : x.ys.length = x.on
  o2 : x.on ≤ 8796093022208
  o0 : x.oo = none → x.oc = 0
  np : x.ys ≠ [] → ∀ a, x.oo = some a → a.block < B0
theorem StOk.fr {B0 : Nat} {w w' : World} {x : StD} (h : StOk B0 w x) (hf : Fr (fun k => B0 ≤ k) w w') : StOk B0 w' x :=
  ⟨h.bk.fr hf (fun k hk e => by omega), h.bn, h.sm, h.b2, outs_frQ hf h.ou (fun e a ha e2 => by have := h.np e a ha; omega), h.ol, h.o2, h.o0, h.np⟩
/-- a script that came in -/
structure ScriptAt (B0 : Nat) (w : World) (ao : Option Addr) (sc : List StD) : Prop where
  row : RecAt StD.v w ao sc
  na : sc ≠ [] → ∀ a, ao = some a → a.block < B0
  ok : ∀ x ∈ sc, StOk B0 w x
theorem ScriptAt.fr {B0 : Nat} {w w' : World} {ao : Option Addr} {sc : List StD} (h : ScriptAt B0 w ao sc) (hf : Fr (fun k => B0 ≤ k) w w') : ScriptAt B0 w' ao sc :=
  ⟨rec_fr hf h.row (fun e a ha e2 => by have := h.na e a ha; omega), h.na, fun x hx => (h.ok x hx).fr hf⟩
theorem pat_new (w : World) (s : Int) (g : Nat) : PAt (w.alloc (.cells #[.int .i64 s, .int .i64 (g : Int), .slice none 0 0, .int .i64 0, .slice none 0 0, .slice none 0 0, .int .i64 0, .int .i64 0] 79)) w.heap.size s g (.slice none 0 0) 0 [] := by
  refine ⟨?_, ?_, World.frozen?_alloc_at _ _ _ _ rfl, fun j => World.frozen?_alloc_at _ _ _ _ rfl, OwnRec.nil _ _ _ _ _, fun q hq => ?_⟩
  · rw [World.cell?_alloc_new]; rfl
  · rw [World.cell?_alloc_new]; rfl
  · simp at hq
    rcases hq with rfl | rfl | rfl | rfl | rfl | rfl
    · exact ⟨by simp, by simp, by rw [World.cell?_alloc_new]; rfl⟩
    · exact ⟨by simp, by simp, by rw [World.cell?_alloc_new]; rfl⟩
    · exact ⟨by simp, by simp, by rw [World.cell?_alloc_new]; rfl⟩
    · exact ⟨by simp, by simp, by rw [World.cell?_alloc_new]; rfl⟩
    · exact ⟨by simp, by simp, by rw [World.cell?_alloc_new]; rfl⟩
    · exact ⟨by simp, by simp, by rw [World.cell?_alloc_new]; rfl⟩
theorem bk_new (w : World) (s : Int) (g : Nat) :
    BkQ w.heap.size ((w.alloc (.cells #[.int .i64 s, .int .i64 (g : Int), .slice none 0 0, .int .i64 0, .slice none 0 0, .slice none 0 0, .int .i64 0, .int .i64 0] 79)).alloc (.cells #[.pointer (some ⟨w.heap.size, 0, none⟩), .int .i64 s, .slice none 0 0] 90)) (w.heap.size + 1) w.heap.size s g ((0 : Nat) : Int) [] [] [] := by
  have hp := pat_new w s g
  have hz : (w.alloc (.cells #[.int .i64 s, .int .i64 (g : Int), .slice none 0 0, .int .i64 0, .slice none 0 0, .slice none 0 0, .int .i64 0, .int .i64 0] 79)).heap.size = w.heap.size + 1 := by simp
  generalize w.alloc (.cells #[.int .i64 s, .int .i64 (g : Int), .slice none 0 0, .int .i64 0, .slice none 0 0, .slice none 0 0, .int .i64 0, .int .i64 0] 79) = w1 at *
  have hv := vrow_new w1 [.pointer (some ⟨w.heap.size, 0, none⟩), .int .i64 s, .slice none 0 0] 90
  have hf : ∀ j, (w1.alloc (.cells #[.pointer (some ⟨w.heap.size, 0, none⟩), .int .i64 s, .slice none 0 0] 90)).frozen? ⟨w1.heap.size, j, none⟩ = false := fun j => World.frozen?_alloc_at _ _ _ _ rfl
  rw [hz] at hv hf
  refine ⟨fun _ => False, fun _ => False, .slice none 0 0, .slice none 0 0, .slice none 0 0, 0, [], .slice none 0 0, ⟨pp_none (hp.grown ((Below.refl _ _).alloc (Nat.le_refl _) _)), hv 0 (by simp), hv 1 (by simp), hv 2 (by simp), hf, OwnRec.nil _ _ _ _ _, fun d hd => (by cases hd), fun k hk => ?_, fun k hk => hk.elim⟩, LkB.nil, fun k hk => ?_⟩
  · refine ⟨?_, fun e => (by cases e), fun e => e⟩
    rcases hk with hk | hk | hk
    · rcases hk with e | e
      · omega
      · cases e
    · rcases hk with e | e | e
      · omega
      · cases e
      · cases e
    · exact hk.elim
  · rcases hk with hk | hk | hk | hk | hk | hk
    · rcases hk with e | e
      · omega
      · cases e
    · rcases hk with e | e | e
      · omega
      · cases e
      · cases e
    · exact hk.elim
    · omega
    · cases hk
    · exact hk.elim
set_option maxRecDepth 100000 in
set_option maxHeartbeats 1000000 in
theorem booked_any (a b : Int) (g : Nat) (w : World) (a1 : -9223372036854775808 ≤ a) (a2 : a ≤ 9223372036854775807) (b1 : -9223372036854775808 ≤ b) (b2 : b ≤ 9223372036854775807) (hg : (g : Int) = 1 + Mk.pk b 20) :
    Calls Try.prog 15 #[.int .i64 a, .int .i64 b] w fun e w' => e = .returned (.pointer (some ⟨w.heap.size + 1, 0, none⟩)) ∧ BkQ w.heap.size w' (w.heap.size + 1) w.heap.size (Mk.pk a 99991) g ((0 : Nat) : Int) [] [] [] ∧ Below w.heap.size w w' := by
  have hpa := Mk.pk_bd a 99991 (by decide)
  have hpb := Mk.pk_bd b 20 (by decide)
  have HS : Hid (Mk.isM (Mk.pk a 99991) = true) := (Mk.isM_iff _).2 hpa
  have HN : Hid _ := bk_new w (Mk.pk a 99991) g
  have HBL : Hid (∀ p q : Obj, Below w.heap.size w ((w.alloc p).alloc q)) := fun p q => ((Below.refl _ _).alloc (Nat.le_refl _) _).alloc (by simp) _
  go_enter Try.func15, Try.ntmps15
  go_wp2_with fail
  refine (fSeeded_any a b _ a1 a2 b1 b2).mono ?_
  rintro e w' ⟨rfl, rfl⟩
  rw [← hg]
  have hg1 : (1 : Int) ≤ (g : Int) := by omega
  have hg2 : (g : Int) ≤ 20 := by omega
  clear hg hpb
  go_wp2_with fail
  refine (fOpened_yes (Mk.pk a 99991) (g : Int) _ HS.out hg1 hg2).mono ?_
  rintro e w1 ⟨rfl, hw1⟩
  subst hw1
  go_wp2
  go_ret
  exact ⟨rfl, HN.out, HBL.out _ _⟩
end Go.Proofs.Ytffgpepngcnjeab

namespace Go.Proofs.Ytffgpepngcnjeab
open Go.RowKit
structure StCells (w : World) (b off : Nat) (x : StD) : Prop where
  c0 : w.cell? ⟨b, off, none⟩ = some (.int .i64 x.k)
  c1 : w.cell? ⟨b, off + 1, none⟩ = some (.int .i64 x.a)
  c2 : w.cell? ⟨b, off + 2, none⟩ = some (.int .i64 x.b)
  c3 : w.cell? ⟨b, off + 3, none⟩ = some (.slice x.bo x.bn x.bc)
  c4 : w.cell? ⟨b, off + 4, none⟩ = some (.slice x.oo x.on x.oc)
theorem stCells {w : World} {b off : Nat} {xs : List StD} (h : VRow w b off (xs.flatMap StD.v)) (j : Nat) (hj : j < xs.length) : StCells w b (off + j * 5) (xs.getD j dSt) :=
  ⟨rcell st5 dSt h j hj 0 (by omega), rcell st5 dSt h j hj 1 (by omega), rcell st5 dSt h j hj 2 (by omega), rcell st5 dSt h j hj 3 (by omega), rcell st5 dSt h j hj 4 (by omega)⟩
theorem BkQ.grown {base : Nat} {w w' : World} {B P : Nat} {s : Int} {g : Nat} {h : Int} {xs : List Cel} {ks : List (Int × Int)} {ds : List DeedD} (u : BkQ base w B P s g h xs ks ds) (hb : Below w.heap.size w w') : BkQ base w' B P s g h xs ks ds := by
  obtain ⟨NP, ND, v, vl, vs, nx, ps, vd, h1, h2, h3⟩ := u
  exact ⟨NP, ND, v, vl, vs, nx, ps, vd, h1.grown hb, h2, h3⟩
/-- the book after k steps -/
def ApQ (base : Nat) (B P : Nat) (s : Int) (g : Nat) (k : Nat) (w : World) : Prop := ∃ (h : Nat) (xs : List Cel) (ds : List DeedD), Chn h xs ∧ BkQ base w B P s g (h : Nat) xs [] ds ∧ ds.length ≤ k
theorem ApQ.grown {base B P : Nat} {s : Int} {g k : Nat} {w w' : World} (u : ApQ base B P s g k w) (hb : Below w.heap.size w w') : ApQ base B P s g k w' := by
  obtain ⟨h, xs, ds, h1, h2, h3⟩ := u
  exact ⟨h, xs, ds, h1, h2.grown hb, h3⟩
theorem ApQ.more {base B P : Nat} {s : Int} {g k k' : Nat} {w : World} (u : ApQ base B P s g k w) (hk : k ≤ k') : ApQ base B P s g k' w := by
  obtain ⟨h, xs, ds, h1, h2, h3⟩ := u
  exact ⟨h, xs, ds, h1, h2, by omega⟩
theorem qFree {base B P : Nat} {s : Int} {g k : Nat} (w : World) (u : ApQ base B P s g k w) (hs : Mk.isM s = true) (hg : 1 ≤ g) (hg2 : g ≤ 20) (hk : k ≤ 1048576) :
    Calls Try.prog 16 #[.pointer (some ⟨B, 0, none⟩)] w fun e w' => e = .returned (.bool true) ∧ Below w.heap.size w w' := by
  obtain ⟨h, xs, ds, hc, ⟨NP, ND, v, vl, vs, nx, ps, vd, h1, h2, h3⟩, hd⟩ := u
  obtain ⟨hV, hx1, hh1, hnm⟩ := hc.facts
  exact bFree_any w h1 h2 hs hg hg2 (by omega) hV (by omega) (by simp)
theorem qPays {base B P : Nat} {s : Int} {g k : Nat} (w : World) (u : ApQ base B P s g k w) (hs : Mk.isM s = true) (hg : 1 ≤ g) (hg2 : g ≤ 20) (hk : k ≤ 1048576) (x : StD) (hx : StOk base w x) :
    Calls Try.prog 17 #[.pointer (some ⟨B, 0, none⟩), .agg #[.int .i64 x.k, .int .i64 x.a, .int .i64 x.b, .slice x.bo x.bn x.bc, .slice x.oo x.on x.oc]] w fun e w' => e = .returned (.bool true) ∧ Fr (fun q => base ≤ q) w w' ∧ ApQ base B P s g (k + 1) w' := by
  obtain ⟨h, xs, ds, hc, ⟨NP, ND, v, vl, vs, nx, ps, vd, h1, h2, h3⟩, hd⟩ := u
  obtain ⟨hV, hx1, hh1, hnm⟩ := hc.facts
  refine (bPays_any w h1 h2 h3 hs hg hg2 (by omega) hV hnm (by omega) (by simp) x.k x.a x.b x.bo x.bn x.bc x.oo x.on x.oc x.ys hx.ou hx.ol hx.o2 hx.o0 hx.np).mono ?_
  rintro e w' ⟨rfl, hf, ds', hq, hl⟩
  exact ⟨rfl, hf, h, xs, ds', hc, hq, by omega⟩
theorem qGives {base B P : Nat} {s : Int} {g k : Nat} (w : World) (u : ApQ base B P s g k w) (hk : k ≤ 1048576) (n : Int) :
    Calls Try.prog 18 #[.pointer (some ⟨B, 0, none⟩), .int .i64 n] w fun e w' => e = .returned (.bool true) ∧ Fr (fun q => base ≤ q) w w' ∧ ApQ base B P s g (k + 1) w' := by
  obtain ⟨h, xs, ds, hc, ⟨NP, ND, v, vl, vs, nx, ps, vd, h1, h2, h3⟩, hd⟩ := u
  refine (bGives_any w h1 h2 h3 (by omega) n).mono ?_
  rintro e w' ⟨rfl, hf, ds', hq, hl⟩
  exact ⟨rfl, hf, h, xs, ds', hc, hq, by omega⟩
theorem qMoves {base B P : Nat} {s : Int} {g k : Nat} (w : World) (u : ApQ base B P s g k w) (x : StD) (hx : StOk base w x) :
    Calls Try.prog 19 #[.pointer (some ⟨B, 0, none⟩), .agg #[.int .i64 x.k, .int .i64 x.a, .int .i64 x.b, .slice x.bo x.bn x.bc, .slice x.oo x.on x.oc]] w fun e w' => e = .returned (.tuple #[]) ∧ Fr (fun q => base ≤ q) w w' ∧ ApQ base B P s g (k + 1) w' := by
  obtain ⟨h, xs, ds, hc, ⟨NP, ND, v, vl, vs, nx, ps, vd, h1, h2, h3⟩, hd⟩ := u
  refine (bMoves_any w h1 h2 h3 hc x.k x.a x.b x.bo x.bn x.bc x.bl (fun q => q < base) _ hx.bk hx.bn hx.sm hx.b2 (fun _ h => h) x.oo x.on x.oc rfl).mono ?_
  rintro e w' ⟨rfl, hf, h', xs', hc', hq⟩
  exact ⟨rfl, hf, h', xs', ds, hc', hq, by omega⟩
set_option maxRecDepth 100000 in
set_option maxHeartbeats 4000000 in
theorem apart_law (a b : Int) (ao : Option Addr) (n c : Nat) (sc : List StD) (w : World) (hsc : ScriptAt w.heap.size w ao sc) (hn : sc.length = n) (hmax : n ≤ 1048576) (a1 : -9223372036854775808 ≤ a) (a2 : a ≤ 9223372036854775807) (b1 : -9223372036854775808 ≤ b) (b2 : b ≤ 9223372036854775807) :
    Calls Try.prog 4 #[.int .i64 a, .int .i64 b, .slice ao n c] w fun e w' => e = .returned (.bool true) ∧ Below w.heap.size w w' := by
  obtain ⟨g, hg⟩ : ∃ g : Nat, (g : Int) = 1 + Mk.pk b 20 := ⟨(1 + Mk.pk b 20).toNat, by have := Mk.pk_bd b 20 (by decide); omega⟩
  have hpb := Mk.pk_bd b 20 (by decide)
  have hg1 : 1 ≤ g := by omega
  have hg2 : g ≤ 20 := by omega
  have HS : Hid (Mk.isM (Mk.pk a 99991) = true) := (Mk.isM_iff _).2 (Mk.pk_bd a 99991 (by decide))
  have HSC : Hid (ScriptAt w.heap.size w ao sc) := hsc
  have HN : Hid (sc.length = n) := hn
  clear hsc hn hpb
  go_enter Try.func4, Try.ntmps4
  go_wp2_with fail
  refine (booked_any a b g _ a1 a2 b1 b2 hg).mono ?_
  rintro e w1 ⟨rfl, hq, hb1⟩
  have HQ1 : Hid (ApQ w.heap.size (w.heap.size + 1) w.heap.size (Mk.pk a 99991) g 0 w1) := ⟨0, [], [], Chn.zero, hq, Nat.le_refl _⟩
  have HF1 : Hid (Fr (fun q => w.heap.size ≤ q) w w1) := Fr.of_below hb1 _
  clear hq hb1 hg
  generalize Mk.pk a 99991 = s at *
  generalize hbase : w.heap.size = base at *
  have HBE : Hid (w.heap.size = base) := hbase
  clear hbase
  obtain ⟨B, hB⟩ : ∃ B, base + 1 = B := ⟨_, rfl⟩
  rw [hB] at HQ1 ⊢
  clear hB
  go_wp2_with fail
  refine (qFree _ HQ1.out HS.out hg1 hg2 (by omega)).mono ?_
  rintro e w2 ⟨rfl, hb2⟩
  have HQ2 : Hid (ApQ base B base s g 0 w2) := HQ1.out.grown hb2
  have HF2 : Hid (Fr (fun q => base ≤ q) w w2) := HF1.out.trans (Fr.of_below hb2 _)
  clear hb2 HQ1 HF1
  go_wp2
  go_loopw [8, 9] (fun o i wr => ∃ k : Nat, k ≤ n ∧ i = .int .i64 k ∧ o = .bool true ∧ Hid (ApQ base B base s g k wr) ∧ Hid (Fr (fun q => base ≤ q) w wr)) (fun _ i _ => n - (intOf i).toNat)
  case atStart => exact ⟨0, Nat.zero_le _, rfl, rfl, HQ2.out, HF2.out⟩
  case round =>
    obtain ⟨k, hk, rfl, rfl, hq, hf⟩ := hrel
    by_cases hlt : k < n
    · have hkl : k < sc.length := by rw [HN.out]; exact hlt
      have hsc := HSC.out.fr hf.out
      rcases hsc.row with hnil | ⟨gs, off, rfl, hrow⟩
      · rw [hnil] at hkl; simp at hkl
      obtain ⟨c0, c1, c2, c3, c4⟩ := stCells hrow k hkl
      have HOK : Hid (StOk base wr (sc.getD k dSt)) := hsc.ok _ (getD_mem sc dSt k hkl)
      clear hrow hsc
      generalize sc.getD k dSt = y at *
      obtain ⟨kd, ya, yb, bo, bn, bc, oo, on, oc, bl, ys⟩ := y
      simp only at c0 c1 c2 c3 c4
      have hkI : (k : Int) < (n : Int) := by omega
      have hk0 : (0 : Int) ≤ (k : Int) := by omega
      have bA : Below wr.heap.size wr (wr.alloc (.cells #[.int .i64 kd, .int .i64 ya, .int .i64 yb, .slice bo bn bc, .slice oo on oc] 55)) := (Below.refl _ _).alloc (Nat.le_refl _) _
      have HQ3 : Hid (ApQ base B base s g k (wr.alloc (.cells #[.int .i64 kd, .int .i64 ya, .int .i64 yb, .slice bo bn bc, .slice oo on oc] 55))) := hq.out.grown bA
      have HF3 : Hid (Fr (fun q => base ≤ q) w (wr.alloc (.cells #[.int .i64 kd, .int .i64 ya, .int .i64 yb, .slice bo bn bc, .slice oo on oc] 55))) := hf.out.trans (Fr.of_below bA _)
      have HOK3 : Hid (StOk base (wr.alloc (.cells #[.int .i64 kd, .int .i64 ya, .int .i64 yb, .slice bo bn bc, .slice oo on oc] 55)) ⟨kd, ya, yb, bo, bn, bc, oo, on, oc, bl, ys⟩) := HOK.out.fr (Fr.of_below bA _)
      have x0 : (wr.alloc (.cells #[.int .i64 kd, .int .i64 ya, .int .i64 yb, .slice bo bn bc, .slice oo on oc] 55)).cell? ⟨wr.heap.size, 0, none⟩ = some (.int .i64 kd) := by go_simp
      have x1 : (wr.alloc (.cells #[.int .i64 kd, .int .i64 ya, .int .i64 yb, .slice bo bn bc, .slice oo on oc] 55)).cell? ⟨wr.heap.size, 1, none⟩ = some (.int .i64 ya) := by go_simp
      have x2 : (wr.alloc (.cells #[.int .i64 kd, .int .i64 ya, .int .i64 yb, .slice bo bn bc, .slice oo on oc] 55)).cell? ⟨wr.heap.size, 2, none⟩ = some (.int .i64 yb) := by go_simp
      have x3 : (wr.alloc (.cells #[.int .i64 kd, .int .i64 ya, .int .i64 yb, .slice bo bn bc, .slice oo on oc] 55)).cell? ⟨wr.heap.size, 3, none⟩ = some (.slice bo bn bc) := by go_simp
      have x4 : (wr.alloc (.cells #[.int .i64 kd, .int .i64 ya, .int .i64 yb, .slice bo bn bc, .slice oo on oc] 55)).cell? ⟨wr.heap.size, 4, none⟩ = some (.slice oo on oc) := by go_simp
      go_upto_region 9 with fail
      clear bA HOK c0 c1 c2 c3 c4 hq hf
      generalize wr.alloc (.cells #[.int .i64 kd, .int .i64 ya, .int .i64 yb, .slice bo bn bc, .slice oo on oc] 55) = w3 at *
      generalize wr.heap.size = X at *
      by_cases h3 : kd = 3
      · subst h3
        go_wp2_with fail
        refine (qPays _ HQ3.out HS.out hg1 hg2 (by omega) _ HOK3.out).mono ?_
        rintro e w4 ⟨rfl, hf4, hq4⟩
        have HQ4 : Hid (ApQ base B base s g (k + 1) w4 ∧ Fr (fun q => base ≤ q) w w4) := ⟨hq4, HF3.out.trans hf4⟩
        clear hf4 hq4 x0 x1 x2 x3 x4
        go_wp2
        go_roundw
        case rel => exact ⟨k + 1, by omega, by go_num, rfl, HQ4.out.1, HQ4.out.2⟩
        case measure => simp [intOf]; omega
      · have e3 : (kd == 3) = false := by simpa using h3
        by_cases h4 : kd = 4
        · subst h4
          go_wp2_with fail
          refine (qGives _ HQ3.out (by omega) ya).mono ?_
          rintro e w4 ⟨rfl, hf4, hq4⟩
          have HQ4 : Hid (ApQ base B base s g (k + 1) w4 ∧ Fr (fun q => base ≤ q) w w4) := ⟨hq4, HF3.out.trans hf4⟩
          clear hf4 hq4 x0 x1 x2 x3 x4
          go_wp2
          go_roundw
          case rel => exact ⟨k + 1, by omega, by go_num, rfl, HQ4.out.1, HQ4.out.2⟩
          case measure => simp [intOf]; omega
        · have e4 : (kd == 4) = false := by simpa using h4
          by_cases h9 : kd = 9
          · subst h9
            go_wp2_with fail
            refine (qFree _ HQ3.out HS.out hg1 hg2 (by omega)).mono ?_
            rintro e w4 ⟨rfl, hb4⟩
            have HQ4 : Hid (ApQ base B base s g (k + 1) w4 ∧ Fr (fun q => base ≤ q) w w4) := ⟨(HQ3.out.grown hb4).more (by omega), HF3.out.trans (Fr.of_below hb4 _)⟩
            clear hb4 x0 x1 x2 x3 x4
            go_wp2
            go_roundw
            case rel => exact ⟨k + 1, by omega, by go_num, rfl, HQ4.out.1, HQ4.out.2⟩
            case measure => simp [intOf]; omega
          · have e9 : (kd == 9) = false := by simpa using h9
            go_wp2_with fail
            refine (qMoves _ HQ3.out _ HOK3.out).mono ?_
            rintro e w4 ⟨rfl, hf4, hq4⟩
            have HQ4 : Hid (ApQ base B base s g (k + 1) w4 ∧ Fr (fun q => base ≤ q) w w4) := ⟨hq4, HF3.out.trans hf4⟩
            clear hf4 hq4 x0 x1 x2 x3 x4
            go_wp2
            go_roundw
            case rel => exact ⟨k + 1, by omega, by go_num, rfl, HQ4.out.1, HQ4.out.2⟩
            case measure => simp [intOf]; omega
    · have hkI : ¬ (k : Int) < (n : Int) := by omega
      go_wp2
      go_ret
      exact ⟨rfl, by rw [HBE.out]; exact hf.out.toBelow base (by rw [HBE.out]; exact Nat.le_refl _) (fun q e => e)⟩
end Go.Proofs.Ytffgpepngcnjeab

namespace Go.Proofs.Ytffgpepngcnjeab
open Go.ChangeShapes Go.WideShapes Go.ChangeAt Go.RowKit
def I64 (x : Int) : Prop := -9223372036854775808 ≤ x ∧ x ≤ 9223372036854775807
theorem tCells3 : Try.prog.cellsOf 3 = 1 := by kernel_rfl
theorem tCells39 : Try.prog.cellsOf 39 = 1 := by kernel_rfl
theorem tCells29 : Try.prog.cellsOf 29 = 1 := by kernel_rfl
theorem tCells23 : Try.prog.cellsOf 23 = 1 := by kernel_rfl
theorem tCells31 : Try.prog.cellsOf 31 = 3 := by kernel_rfl
theorem tCells85 : Try.prog.cellsOf 85 = 3 := by kernel_rfl
theorem tCells68 : Try.prog.cellsOf 68 = 2 := by kernel_rfl
theorem tBytes3 : Try.prog.bytesOf 3 = 8 := by kernel_rfl
theorem tBytes85 : Try.prog.bytesOf 85 = 40 := by kernel_rfl
theorem tBytes68 : Try.prog.bytesOf 68 = 16 := by kernel_rfl
theorem row_take {w : World} {b off : Nat} {l : List Int} (h : Row w b off l) (n : Nat) : Row w b off (l.take n) := by
  intro j hj
  rw [List.length_take] at hj
  rw [h j (by omega)]
  simp only [List.getD]
  rw [List.getElem?_take_of_lt (by omega)]
theorem len3 {cs : List Value} (h : cs.length = 3) : ∃ a b c, cs = [a, b, c] := by
  match cs, h with
  | [a, b, c], _ => exact ⟨a, b, c, rfl⟩
theorem len2c {cs : List Value} (h : cs.length = 2) : ∃ a b, cs = [a, b] := by
  match cs, h with
  | [a, b], _ => exact ⟨a, b, rfl⟩
section
variable {H : Type} {enc : TypeId × Value → H} {W : World} {fuel : Nat} {cs : List Value} {x : DataW H × List MemPlace}
theorem open_num (h : DataW.trod enc Try.prog W 0 (fun _ => true) true fuel 3 cs = some x) : ∃ n : Int, cs = [.int .i64 n] ∧ I64 n := by
  obtain ⟨n, hcs, _, hw⟩ := DataW.trod_int Try.underlying3 h
  exact ⟨n, hcs, bounds_i64 hw⟩
theorem open_seal (h : DataW.trod enc Try.prog W 0 (fun _ => true) true fuel 39 cs = some x) (hw : ∀ k ∈ x.1.weights Try.prog 39, k ≤ reachBytes) :
    ∃ ao n c l, cs = [.slice ao n c] ∧ IntsAt W ao l ∧ l.length = n ∧ n ≤ 17592186044416 ∧ (ao = none → c = 0) ∧ ∀ z ∈ l, I64 z := by
  rcases open_ints Try.underlying39 Try.underlying3 tCells3 h with ⟨hcs, _⟩ | ⟨a, len, cap, zs, hcs, _, hl, hm, hz, hx, hcell, hwz⟩
  · exact ⟨none, 0, 0, [], hcs, Or.inl rfl, rfl, by omega, fun _ => rfl, fun z hz => by cases hz⟩
  · have hz' : zs.length = cap := by simpa using hz
    have hr : (zs.take len).length * 8 + (zs.drop len).length * 8 ≤ reachBytes := by
      have := hw (((zs.take len).length + (zs.drop len).length) * 8) (by
        rw [hx]
        simp only [DataW.weights, Try.underlying39, tBytes3, lits, List.length_map]
        exact List.mem_cons_self)
      omega
    rw [List.length_take, List.length_drop] at hr
    simp only [reachBytes] at hr
    refine ⟨some a, len, cap, zs.take len, hcs, ?_, by rw [List.length_take]; omega, by omega, fun h => (by cases h), fun z hz => bounds_i64 (hwz z (List.mem_of_mem_take hz))⟩
    by_cases h0 : zs.length = 0
    · have : zs = [] := List.length_eq_zero_iff.1 h0
      subst this
      exact Or.inl (by simp)
    · obtain ⟨b, off, rfl, hc⟩ := ints_at hcell (by omega)
      exact Or.inr ⟨b, off, rfl, row_take hc _⟩
structure In64 (x : InD) : Prop where
  id : I64 x.id
  pos : I64 x.pos
  l : ∀ z ∈ x.l, I64 z
theorem open_in (h : DataW.trod enc Try.prog W 0 (fun _ => true) true fuel 85 cs = some x) (hw : ∀ k ∈ x.1.weights Try.prog 85, k ≤ reachBytes) :
    ∃ y : InD, cs = [.int .i64 y.id, .int .i64 y.pos, .slice y.ao y.n y.c] ∧ InOk W y ∧ In64 y := by
  obtain ⟨y0, y1, y2, n, hx, hlen, h0, h1, h2⟩ := Go.Deep.trod_struct3 Try.underlying85 h
  rw [tCells85] at hlen
  obtain ⟨a, b, c, rfl⟩ := len3 hlen
  simp only [tCells3, tCells39, List.drop, List.take] at h0 h1 h2
  obtain ⟨i, hi, bi⟩ := open_num h0
  obtain ⟨p, hp, bp⟩ := open_num h1
  obtain ⟨ao, m, cp, l, hs, hat, hl, hm, hnil, bl⟩ := open_seal h2 (fun k hk => hw k (by
    rw [hx]
    simp only [DataW.weights, Try.underlying85, List.map, DataW.weightsEach, List.append_nil]
    exact List.mem_append_right _ (List.mem_append_right _ hk)))
  cases hi
  cases hp
  cases hs
  exact ⟨⟨i, p, ao, m, cp, l⟩, rfl, ⟨hat, hl, hm, hnil⟩, ⟨bi, bp, bl⟩⟩
theorem open_out (h : DataW.trod enc Try.prog W 0 (fun _ => true) true fuel 68 cs = some x) : ∃ y : Int × Int, cs = [.int .i64 y.1, .int .i64 y.2] ∧ I64 y.1 ∧ I64 y.2 := by
  obtain ⟨y0, y1, n, _, hlen, h0, h1⟩ := trod_struct2 Try.underlying68 h
  rw [tCells68] at hlen
  obtain ⟨a, b, rfl⟩ := len2c hlen
  simp only [tCells3, List.drop, List.take] at h0 h1
  obtain ⟨i, hi, bi⟩ := open_num h0
  obtain ⟨p, hp, bp⟩ := open_num h1
  cases hi
  cases hp
  exact ⟨(i, p), rfl, bi, bp⟩
end
theorem choose_upto {α : Type} (d : α) {n : Nat} {p : Nat → α → Prop} (h : ∀ i, i < n → ∃ x, p i x) : ∃ l : List α, l.length = n ∧ ∀ i, i < n → p i (l.getD i d) := by
  refine ⟨(List.range n).map fun i => if hi : i < n then Classical.choose (h i hi) else d, by simp, fun i hi => ?_⟩
  have e : ((List.range n).map fun i => if hi : i < n then Classical.choose (h i hi) else d).getD i d = Classical.choose (h i hi) := by
    simp [List.getD, hi]
  rw [e]
  exact Classical.choose_spec (h i hi)
theorem weights_in {H : Type} {P : Program} {e : TypeId} {l : List (DataW H)} {d : DataW H} (h : d ∈ l) : ∀ k ∈ d.weights P e, k ∈ DataW.weightsAll P e l := by
  induction l with
  | nil => cases h
  | cons y r ih =>
    intro k hk
    simp only [DataW.weightsAll]
    rcases List.mem_cons.1 h with e' | e'
    · subst e'; exact List.mem_append_left _ hk
    · exact List.mem_append_right _ (ih e' k hk)
/-- cells of a plain address -/
theorem cells_at {W : World} {a : Addr} {n : Nat} {cs : List Value} (h : W.cells? 0 a n = some cs) (hn : 0 < n) : a.spot = none ∧ ∀ i, i < n → W.cell? ⟨a.block, a.off + i, none⟩ = cs[i]? := by
  obtain ⟨_, hl, hc⟩ := World.cells?_some h
  obtain ⟨b, off, spot⟩ := a
  have hs : spot = none := by
    have h0 := hc 0 hn
    have : (W.cell? ((⟨b, off, spot⟩ : Addr).add 0)) = some (cs[0]'(by omega)) := by rw [h0]; exact List.getElem?_eq_getElem _
    simpa [Addr.add] using World.cell?_spot this
  subst hs
  exact ⟨rfl, fun i hi => by have := hc i hi; rw [add_plain] at this; exact this⟩
section
variable {H : Type} {enc : TypeId × Value → H} {W : World} {fuel : Nat} {cs : List Value} {x : DataW H × List MemPlace}
theorem open_insL (h : DataW.trod enc Try.prog W 0 (fun _ => true) true fuel 29 cs = some x) (hw : ∀ k ∈ x.1.weights Try.prog 29, k ≤ reachBytes) :
    ∃ ao n c xs, cs = [.slice ao n c] ∧ InsAt W ao xs ∧ xs.length = n ∧ n ≤ 3518437208883 ∧ (ao = none → c = 0) ∧ ∀ j, j < n → In64 (xs.getD j dIn) := by
  rcases Go.Deep.open_slice Try.underlying29 h with ⟨hcs, _⟩ | ⟨a, len, cap, m, n, D, Pl, hcs, _, hl, hm, hmm, hx, hel⟩
  · exact ⟨none, 0, 0, [], hcs, Or.inl rfl, rfl, by omega, fun _ => rfl, fun j hj => by omega⟩
  · have hmm' : m = cap := by simpa using hmm
    have hr : len * 40 ≤ reachBytes := by
      have := hw ((((List.range len).map D).length + ((List.range (m - len)).map fun j => D (len + j)).length) * 40) (by
        rw [hx]
        simp only [DataW.weights, Try.underlying29, tBytes85]
        exact List.mem_cons_self)
      simp only [List.length_map, List.length_range] at this
      omega
    simp only [reachBytes] at hr
    rw [tCells85] at hel
    have each : ∀ i, i < len → ∃ y : InD, (W.cells? 0 (a.add (i * 3)) 3 = some [.int .i64 y.id, .int .i64 y.pos, .slice y.ao y.n y.c]) ∧ InOk W y ∧ In64 y := by
      intro i hi
      obtain ⟨cs', hc, ht⟩ := hel i (by omega)
      obtain ⟨y, rfl, hok, h64⟩ := open_in ht (fun k hk => hw k (by
        rw [hx]
        simp only [DataW.weights, Try.underlying29]
        exact List.mem_cons_of_mem _ (List.mem_append_left _ (weights_in (List.mem_map.2 ⟨i, List.mem_range.2 hi, rfl⟩) k hk))))
      exact ⟨y, hc, hok, h64⟩
    obtain ⟨xs, hxl, hxs⟩ := choose_upto dIn each
    refine ⟨some a, len, cap, xs, hcs, ?_, hxl, by omega, fun h => (by cases h), fun j hj => (hxs j hj).2.2⟩
    by_cases h0 : len = 0
    · exact Or.inl (List.length_eq_zero_iff.1 (by omega))
    · have ha : a.spot = none := by
        have := (cells_at (hxs 0 (by omega)).1 (by omega)).1
        simpa [Addr.add] using this
      obtain ⟨b, off, spot⟩ := a
      simp only at ha
      subst ha
      refine Or.inr ⟨b, off, rfl, fun j hj => ?_⟩
      obtain ⟨hc, hok, _⟩ := hxs j (by omega)
      obtain ⟨_, hcc⟩ := cells_at hc (by omega)
      rw [add_plain] at hcc
      simp only at hcc
      exact ⟨⟨by simpa using hcc 0 (by omega), by simpa using hcc 1 (by omega), by simpa using hcc 2 (by omega)⟩, hok⟩
theorem open_outsL (h : DataW.trod enc Try.prog W 0 (fun _ => true) true fuel 23 cs = some x) (hw : ∀ k ∈ x.1.weights Try.prog 23, k ≤ reachBytes) :
    ∃ ao n c ys, cs = [.slice ao n c] ∧ OutsAt W ao ys ∧ ys.length = n ∧ n ≤ 8796093022208 ∧ (ao = none → c = 0) ∧ ∀ j, j < n → I64 (ys.getD j (0, 0)).1 ∧ I64 (ys.getD j (0, 0)).2 := by
  rcases Go.Deep.open_slice Try.underlying23 h with ⟨hcs, _⟩ | ⟨a, len, cap, m, n, D, Pl, hcs, _, hl, hm, hmm, hx, hel⟩
  · exact ⟨none, 0, 0, [], hcs, Or.inl rfl, rfl, by omega, fun _ => rfl, fun j hj => by omega⟩
  · have hmm' : m = cap := by simpa using hmm
    have hr : len * 16 ≤ reachBytes := by
      have := hw ((((List.range len).map D).length + ((List.range (m - len)).map fun j => D (len + j)).length) * 16) (by
        rw [hx]
        simp only [DataW.weights, Try.underlying23, tBytes68]
        exact List.mem_cons_self)
      simp only [List.length_map, List.length_range] at this
      omega
    simp only [reachBytes] at hr
    rw [tCells68] at hel
    have each : ∀ i, i < len → ∃ y : Int × Int, (W.cells? 0 (a.add (i * 2)) 2 = some [.int .i64 y.1, .int .i64 y.2]) ∧ I64 y.1 ∧ I64 y.2 := by
      intro i hi
      obtain ⟨cs', hc, ht⟩ := hel i (by omega)
      obtain ⟨y, rfl, h64⟩ := open_out ht
      exact ⟨y, hc, h64⟩
    obtain ⟨ys, hyl, hys⟩ := choose_upto (0, 0) each
    refine ⟨some a, len, cap, ys, hcs, ?_, hyl, by omega, fun h => (by cases h), fun j hj => (hys j hj).2⟩
    by_cases h0 : len = 0
    · exact Or.inl (List.length_eq_zero_iff.1 (by omega))
    · have ha : a.spot = none := by
        have := (cells_at (hys 0 (by omega)).1 (by omega)).1
        simpa [Addr.add] using this
      obtain ⟨b, off, spot⟩ := a
      simp only at ha
      subst ha
      refine Or.inr ⟨b, off, rfl, fun j hj => ?_⟩
      obtain ⟨hc, _⟩ := hys j (by omega)
      obtain ⟨_, hcc⟩ := cells_at hc (by omega)
      rw [add_plain] at hcc
      simp only at hcc
      exact ⟨by simpa using hcc 0 (by omega), by simpa using hcc 1 (by omega)⟩
end
end Go.Proofs.Ytffgpepngcnjeab

namespace Go.Proofs.Ytffgpepngcnjeab
open Go.ChangeShapes Go.WideShapes Go.ChangeAt Go.RowKit
theorem tCells53 : Try.prog.cellsOf 53 = 1 := by kernel_rfl
theorem tCells55 : Try.prog.cellsOf 55 = 5 := by kernel_rfl
theorem tBytes31 : Try.prog.bytesOf 31 = 56 := by kernel_rfl
theorem tBytes55 : Try.prog.bytesOf 55 = 72 := by kernel_rfl
theorem len5 {cs : List Value} (h : cs.length = 5) : ∃ a b c d e, cs = [a, b, c, d, e] := by
  match cs, h with
  | [a, b, c, d, e], _ => exact ⟨a, b, c, d, e, rfl⟩
/-- what lies below a world's size, as an allowed place -/
abbrev inW (W : World) (q : Nat) : Prop := q < W.heap.size
section
variable {H : Type} {enc : TypeId × Value → H} {W : World} {fuel : Nat} {cs : List Value} {x : DataW H × List MemPlace}
theorem tx_places {t : Int} {ai : Option Addr} {n c : Nat} {ap : Option Addr} {m d : Nat} {xs : List InD} {ys : List (Int × Int)} (hx : InsAt W ai xs) (hxl : xs.length = n) (hy : OutsAt W ap ys) (hyl : ys.length = m) : TxOk (inW W) W ⟨t, ai, n, c, ap, m, d, xs, ys⟩ := by
  refine ⟨hx, hxl, hy, hyl, fun he a ha => ?_, fun he a ha => ?_, fun i hi he a ha => ?_⟩
  · rcases hx with h | ⟨b, off, e, hr⟩
    · exact absurd h he
    · simp only at ha
      rw [ha] at e
      cases e
      exact cell_lt (hr 0 (List.length_pos_iff.2 he)).1.c0
  · rcases hy with h | ⟨b, off, e, hr⟩
    · exact absurd h he
    · simp only at ha
      rw [ha] at e
      cases e
      exact cell_lt (hr 0 (List.length_pos_iff.2 he)).1
  · rcases hx with h | ⟨b, off, e, hr⟩
    · simp only at hi
      rw [h] at hi
      simp at hi
    · obtain ⟨j, hj, e2⟩ := mem_getD dIn hi
      have hok := (hr j hj).2
      rw [← e2] at hok
      rcases hok.lies with h | ⟨b2, off2, e3, hr2⟩
      · exact absurd h he
      · rw [ha] at e3
        cases e3
        exact hr2.lt he
theorem open_txc (h : DataW.trod enc Try.prog W 0 (fun _ => true) true fuel 31 cs = some x) (hw : ∀ k ∈ x.1.weights Try.prog 31, k ≤ reachBytes) :
    ∃ y : TxD, cs = y.v ∧ TxOk (inW W) W y ∧ TxSm y := by
  obtain ⟨y0, y1, y2, n, hx, hlen, h0, h1, h2⟩ := Go.Deep.trod_struct3 Try.underlying31 h
  rw [tCells31] at hlen
  obtain ⟨a, b, c, rfl⟩ := len3 hlen
  simp only [tCells3, tCells29, tCells23, List.drop, List.take] at h0 h1 h2
  obtain ⟨t, ht, _⟩ := open_num h0
  obtain ⟨ai, ni, ci, xs, hi, hxa, hxl, hxs, _, _⟩ := open_insL h1 (fun k hk => hw k (by
    rw [hx]
    simp only [DataW.weights, Try.underlying31, List.map, DataW.weightsEach, List.append_nil]
    exact List.mem_append_right _ (List.mem_append_left _ hk)))
  obtain ⟨ap, m, e, ys, ho, hya, hyl, hys, hnil, _⟩ := open_outsL h2 (fun k hk => hw k (by
    rw [hx]
    simp only [DataW.weights, Try.underlying31, List.map, DataW.weightsEach, List.append_nil]
    exact List.mem_append_right _ (List.mem_append_right _ hk)))
  cases ht
  cases hi
  cases ho
  exact ⟨⟨t, ai, ni, ci, ap, m, e, xs, ys⟩, rfl, tx_places hxa hxl hya hyl, ⟨hxs, hys, hnil⟩⟩
theorem open_blk (h : DataW.trod enc Try.prog W 0 (fun _ => true) true fuel 53 cs = some x) (hw : ∀ k ∈ x.1.weights Try.prog 53, k ≤ reachBytes) :
    ∃ (bo : Option Addr) (bn bc : Nat) (bl : List TxD), cs = [.slice bo bn bc] ∧ BlkAt (inW W) W bo bl ∧ bl.length = bn ∧ (∀ t ∈ bl, TxSm t) ∧ bn ≤ 2513169434916 := by
  rcases Go.Deep.open_slice Try.underlying53 h with ⟨hcs, _⟩ | ⟨a, len, cap, m, n, D, Pl, hcs, _, hl, hm, hmm, hx, hel⟩
  · exact ⟨none, 0, 0, [], hcs, ⟨Or.inl rfl, fun h => absurd rfl h, fun t ht => by simp at ht⟩, rfl, fun t ht => by simp at ht, by omega⟩
  · have hmm' : m = cap := by simpa using hmm
    have hr : len * 56 ≤ reachBytes := by
      have := hw ((((List.range len).map D).length + ((List.range (m - len)).map fun j => D (len + j)).length) * 56) (by
        rw [hx]
        simp only [DataW.weights, Try.underlying53, tBytes31]
        exact List.mem_cons_self)
      simp only [List.length_map, List.length_range] at this
      omega
    simp only [reachBytes] at hr
    rw [tCells31] at hel
    have each : ∀ i, i < len → ∃ y : TxD, (W.cells? 0 (a.add (i * 3)) 3 = some y.v) ∧ TxOk (inW W) W y ∧ TxSm y := by
      intro i hi
      obtain ⟨cs', hc, ht⟩ := hel i (by omega)
      obtain ⟨y, rfl, hok, hsm⟩ := open_txc ht (fun k hk => hw k (by
        rw [hx]
        simp only [DataW.weights, Try.underlying53]
        exact List.mem_cons_of_mem _ (List.mem_append_left _ (weights_in (List.mem_map.2 ⟨i, List.mem_range.2 hi, rfl⟩) k hk))))
      exact ⟨y, hc, hok, hsm⟩
    obtain ⟨xs, hxl, hxs⟩ := choose_upto dT each
    have hrow : RecAt TxD.v W (some a) xs := by
      by_cases h0 : len = 0
      · exact Or.inl (List.length_eq_zero_iff.1 (by omega))
      · have ha : a.spot = none := by
          have := (cells_at (hxs 0 (by omega)).1 (by omega)).1
          simpa [Addr.add] using this
        obtain ⟨b, off, spot⟩ := a
        simp only at ha
        subst ha
        refine Or.inr ⟨b, off, rfl, fun j hj => ?_⟩
        rw [rec_len TxD.v 3 tx3] at hj
        have hq : j / 3 < xs.length := by omega
        have hj3 : j = j / 3 * 3 + j % 3 := by omega
        obtain ⟨hc, _⟩ := hxs (j / 3) (by omega)
        obtain ⟨_, hcc⟩ := cells_at hc (by omega)
        rw [add_plain] at hcc
        simp only at hcc
        have h9 := hcc (j % 3) (by omega)
        have e9 := rec_get TxD.v 3 tx3 dT xs (j / 3) (j % 3) hq (by omega)
        rw [← hj3] at e9
        rw [e9, show off + j = off + j / 3 * 3 + j % 3 by omega, h9]
        have hl9 : j % 3 < (xs.getD (j / 3) dT).v.length := by rw [tx3]; omega
        simp only [List.getD]
        simp only [List.getD] at hl9
        rw [List.getElem?_eq_getElem hl9, Option.getD_some]
    refine ⟨some a, len, cap, xs, hcs, ⟨hrow, fun he a' ha' => ?_, fun t ht => ?_⟩, hxl, fun t ht => ?_, by omega⟩
    · rcases hrow with h0 | ⟨b, off, e, hr'⟩
      · exact absurd h0 he
      · rw [ha'] at e
        cases e
        refine hr'.lt (fun e0 => he ?_)
        have := rec_len TxD.v 3 tx3 xs
        rw [e0] at this
        exact List.length_eq_zero_iff.1 (by simp at this; omega)
    · obtain ⟨j, hj, e⟩ := mem_getD dT ht
      rw [e]
      exact (hxs j (by omega)).2.1
    · obtain ⟨j, hj, e⟩ := mem_getD dT ht
      rw [e]
      exact (hxs j (by omega)).2.2
theorem struct5 {P : Program} {w : World} {base : Nat} {spare : Bool} {held : Nat → Bool} {t : TypeId} {f0 f1 f2 f3 f4 : Field} {cs : List Value} (ht : P.underlying t = some (.struct #[f0, f1, f2, f3, f4])) (h : DataW.trod enc P w base held spare fuel t cs = some x) :
    ∃ y0 y1 y2 y3 y4 n, x = (.agg [y0.1, y1.1, y2.1, y3.1, y4.1], y0.2 ++ (y1.2 ++ (y2.2 ++ (y3.2 ++ y4.2)))) ∧ cs.length = P.cellsOf t ∧ DataW.trod enc P w base held spare n f0.type ((cs.drop f0.offset).take (P.cellsOf f0.type)) = some y0 ∧
      DataW.trod enc P w base held spare n f1.type ((cs.drop f1.offset).take (P.cellsOf f1.type)) = some y1 ∧ DataW.trod enc P w base held spare n f2.type ((cs.drop f2.offset).take (P.cellsOf f2.type)) = some y2 ∧
      DataW.trod enc P w base held spare n f3.type ((cs.drop f3.offset).take (P.cellsOf f3.type)) = some y3 ∧ DataW.trod enc P w base held spare n f4.type ((cs.drop f4.offset).take (P.cellsOf f4.type)) = some y4 := by
  obtain ⟨xs, n, _, rfl, hl, hlen, hf⟩ := DataW.trod_struct ht h
  match xs, hlen with
  | [y0, y1, y2, y3, y4], _ => exact ⟨y0, y1, y2, y3, y4, n, by simp, hl, by simpa using hf 0 f0 rfl, by simpa using hf 1 f1 rfl, by simpa using hf 2 f2 rfl, by simpa using hf 3 f3 rfl, by simpa using hf 4 f4 rfl⟩
theorem open_step (h : DataW.trod enc Try.prog W 0 (fun _ => true) true fuel 55 cs = some x) (hw : ∀ k ∈ x.1.weights Try.prog 55, k ≤ reachBytes) :
    ∃ y : StD, cs = y.v ∧ StOk W.heap.size W y := by
  obtain ⟨y0, y1, y2, y3, y4, n, hx, hlen, h0, h1, h2, h3, h4⟩ := struct5 Try.underlying55 h
  rw [tCells55] at hlen
  obtain ⟨a, b, c, d, e, rfl⟩ := len5 hlen
  simp only [tCells3, tCells53, tCells23, List.drop, List.take] at h0 h1 h2 h3 h4
  obtain ⟨k0, e0, _⟩ := open_num h0
  obtain ⟨k1, e1, _⟩ := open_num h1
  obtain ⟨k2, e2, _⟩ := open_num h2
  obtain ⟨bo, bn, bc, bl, e3, hb1, hb2, hb3, hb4⟩ := open_blk h3 (fun k hk => hw k (by
    rw [hx]
    simp only [DataW.weights, Try.underlying55, List.map, DataW.weightsEach, List.append_nil]
    exact List.mem_append_right _ (List.mem_append_right _ (List.mem_append_right _ (List.mem_append_left _ hk)))))
  obtain ⟨ap, m, dd, ys, e4, ho1, ho2, ho3, ho4, _⟩ := open_outsL h4 (fun k hk => hw k (by
    rw [hx]
    simp only [DataW.weights, Try.underlying55, List.map, DataW.weightsEach, List.append_nil]
    exact List.mem_append_right _ (List.mem_append_right _ (List.mem_append_right _ (List.mem_append_right _ hk)))))
  cases e0
  cases e1
  cases e2
  cases e3
  cases e4
  refine ⟨⟨k0, k1, k2, bo, bn, bc, ap, m, dd, bl, ys⟩, rfl, hb1, hb2, hb3, hb4, ho1, ho2, ho3, ho4, fun he a ha => ?_⟩
  rcases ho1 with h | ⟨b, off, e, hr⟩
  · exact absurd h he
  · simp only at ha
    rw [ha] at e
    cases e
    exact cell_lt (hr 0 (List.length_pos_iff.2 he)).1
theorem open_script (h : DataW.trod enc Try.prog W 0 (fun _ => true) true fuel 50 cs = some x) (hw : ∀ k ∈ x.1.weights Try.prog 50, k ≤ reachBytes) :
    ∃ ao n c sc, cs = [.slice ao n c] ∧ ScriptAt W.heap.size W ao sc ∧ sc.length = n ∧ n ≤ 9000000000000000000 := by
  rcases Go.Deep.open_slice Try.underlying50 h with ⟨hcs, _⟩ | ⟨a, len, cap, m, n, D, Pl, hcs, _, hl, hm, hmm, hx, hel⟩
  · exact ⟨none, 0, 0, [], hcs, ⟨Or.inl rfl, fun h => absurd rfl h, fun t ht => by simp at ht⟩, rfl, by omega⟩
  · have hmm' : m = cap := by simpa using hmm
    have hr : len * 72 ≤ reachBytes := by
      have := hw ((((List.range len).map D).length + ((List.range (m - len)).map fun j => D (len + j)).length) * 72) (by
        rw [hx]
        simp only [DataW.weights, Try.underlying50, tBytes55]
        exact List.mem_cons_self)
      simp only [List.length_map, List.length_range] at this
      omega
    simp only [reachBytes] at hr
    rw [tCells55] at hel
    have each : ∀ i, i < len → ∃ y : StD, (W.cells? 0 (a.add (i * 5)) 5 = some y.v) ∧ StOk W.heap.size W y := by
      intro i hi
      obtain ⟨cs', hc, ht⟩ := hel i (by omega)
      obtain ⟨y, rfl, hok⟩ := open_step ht (fun k hk => hw k (by
        rw [hx]
        simp only [DataW.weights, Try.underlying50]
        exact List.mem_cons_of_mem _ (List.mem_append_left _ (weights_in (List.mem_map.2 ⟨i, List.mem_range.2 hi, rfl⟩) k hk))))
      exact ⟨y, hc, hok⟩
    obtain ⟨xs, hxl, hxs⟩ := choose_upto dSt each
    have hrow : RecAt StD.v W (some a) xs := by
      by_cases h0 : len = 0
      · exact Or.inl (List.length_eq_zero_iff.1 (by omega))
      · have ha : a.spot = none := by
          have := (cells_at (hxs 0 (by omega)).1 (by omega)).1
          simpa [Addr.add] using this
        obtain ⟨b, off, spot⟩ := a
        simp only at ha
        subst ha
        refine Or.inr ⟨b, off, rfl, fun j hj => ?_⟩
        rw [rec_len StD.v 5 st5] at hj
        have hq : j / 5 < xs.length := by omega
        have hj3 : j = j / 5 * 5 + j % 5 := by omega
        obtain ⟨hc, _⟩ := hxs (j / 5) (by omega)
        obtain ⟨_, hcc⟩ := cells_at hc (by omega)
        rw [add_plain] at hcc
        simp only at hcc
        have h9 := hcc (j % 5) (by omega)
        have e9 := rec_get StD.v 5 st5 dSt xs (j / 5) (j % 5) hq (by omega)
        rw [← hj3] at e9
        rw [e9, show off + j = off + j / 5 * 5 + j % 5 by omega, h9]
        have hl9 : j % 5 < (xs.getD (j / 5) dSt).v.length := by rw [st5]; omega
        simp only [List.getD]
        simp only [List.getD] at hl9
        rw [List.getElem?_eq_getElem hl9, Option.getD_some]
    refine ⟨some a, len, cap, xs, hcs, ⟨hrow, fun he a' ha' => ?_, fun t ht => ?_⟩, hxl, by omega⟩
    · rcases hrow with h0 | ⟨b, off, e, hr'⟩
      · exact absurd h0 he
      · rw [ha'] at e
        cases e
        refine hr'.lt (fun e0 => he ?_)
        have := rec_len StD.v 5 st5 xs
        rw [e0] at this
        exact List.length_eq_zero_iff.1 (by simp at this; omega)
    · obtain ⟨j, hj, e⟩ := mem_getD dSt ht
      rw [e]
      exact (hxs j (by omega)).2
end
end Go.Proofs.Ytffgpepngcnjeab
