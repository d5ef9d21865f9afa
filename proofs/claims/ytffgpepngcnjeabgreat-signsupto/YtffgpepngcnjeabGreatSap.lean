import Derived.Test.YtffgpepngcnjeabGreatSao
namespace Go.Proofs.YtffgpepngcnjeabGreat
set_option maxRecDepth 100000
set_option maxHeartbeats 2000000
section
open Go.RowKit
variable {cs : List CoinD} {x y : CoinD} {n b off o T c : Nat} {f : Nat → Int} {w w' : World} {E N : NPr} {ao : OAd} {l xs ks : LII} {a0 a1 a2 a3 a4 a5 q : Value} {p : CoinD → Bool} {r : Int}
theorem insI_cons (m : CoinD) (acc : List CoinD) (y : CoinD) (h : aheadG true y m = false) : ∀ k, insI true (m :: acc) y (k + 1) = insI true acc y k + 1 := by
 intro k
 induction k with
 | zero => rw [insI_succ]; simp only [List.getD_cons_zero]; rw [h]; rfl
 | succ k ih =>
  rw [insI_succ true (m :: acc), insI_succ true acc, List.getD_cons_succ]
  split
  ·exact ih
  ·rfl
theorem insZ_cons (m : CoinD) (acc : List CoinD) (y : CoinD) (h : aheadG true y m = false) : insZ true (m :: acc) y = m :: insZ true acc y := by
 unfold insZ
 rw [List.length_cons, insI_cons m acc y h]
 rfl
theorem insI_front (acc : List CoinD) (m : CoinD) (h : ∀ y ∈ acc, aheadG true m y = true) : ∀ k, k ≤ acc.length → insI true acc m k = 0 := by
 intro k
 induction k with
 | zero => intro _; rfl
 | succ k ih =>
  intro hk
  have hm : acc.getD k dN ∈ acc := by
   rw [List.getD, List.getElem?_eq_getElem (by omega)]
   exact List.getElem_mem _
  rw [insI_succ, h _ hm, if_pos rfl]
  exact ih (by omega)
theorem insZ_front (acc : List CoinD) (m : CoinD) (h : ∀ y ∈ acc, aheadG true m y = true) : insZ true acc m = m :: acc := by
 unfold insZ
 rw [insI_front acc m h _ leR]
 rfl
theorem insG_mem (h : y ∈ insZ true cs x) : y = x ∨ y ∈ cs := by
 unfold insZ insAt at h
 simp only [List.mem_append, List.mem_cons] at h
 rcases h with h | h | h
 ·exact Or.inr (List.mem_of_mem_take h)
 ·exact Or.inl h
 ·exact Or.inr (List.mem_of_mem_drop h)
theorem insF_mem : ∀ (l acc : List CoinD) {y : CoinD}, y ∈ l.foldl (insZ true) acc → y ∈ l ∨ y ∈ acc := by
 intro l
 induction l with
 | nil => intro acc y h; exact Or.inr h
 | cons x r ih =>
  intro acc y h
  rw [List.foldl_cons] at h
  rcases ih _ h with h | h
  ·exact Or.inl (List.mem_cons_of_mem _ h)
  ·rcases insG_mem h with h | h
   ·exact Or.inl (h ▸ List.mem_cons_self)
   ·exact Or.inr h
theorem insF_cons (m : CoinD) : ∀ (l acc : List CoinD), (∀ y ∈ l, aheadG true y m = false) → l.foldl (insZ true) (m :: acc) = m :: l.foldl (insZ true) acc := by
 intro l
 induction l with
 | nil => intro acc _; rfl
 | cons x r ih =>
  intro acc h
  rw [List.foldl_cons, List.foldl_cons, insZ_cons m acc x (h x List.mem_cons_self)]
  exact ih _ (fun y hy => h y (List.mem_cons_of_mem _ hy))
theorem ins_head (R1 R2 : List CoinD) (m : CoinD) (h1 : ∀ y ∈ R1, y.val < m.val) (h2 : ∀ y ∈ R2, y.val < m.val ∨ (y.val = m.val ∧ aaZ y m = false)) : (R1 ++ m :: R2).foldl (insZ true) [] = m :: (R1 ++ R2).foldl (insZ true) [] := by
 rw [List.foldl_append, List.foldl_append, List.foldl_cons]
 rw [insZ_front _ m (fun y hy => ?_)]
 ·refine insF_cons m R2 _ (fun y hy => ?_)
  unfold aheadG
  rcases h2 y hy with h | ⟨h, h'⟩
  ·rw [if_pos ⟨rfl, by omega⟩]
   exact decide_eq_false (by omega)
  ·rw [if_neg (by simp [h])]
   exact h'
 ·rcases insF_mem R1 [] hy with h | h
  ·have := h1 y h
   unfold aheadG
   rw [if_pos ⟨rfl, by omega⟩]
   exact decide_eq_true (by omega)
  ·cases h
theorem orderZ_filter (r : Int) (l : List CoinD) : oeZ r l = (l.filter fun c => decide (1 ≤ wtZ r c)).foldl (insZ true) [] := by
 unfold oeZ
 have : ∀ (l acc : List CoinD), l.foldl (ordStep r) acc = (l.filter fun c => decide (1 ≤ wtZ r c)).foldl (insZ true) acc := by
  intro l
  induction l with
  | nil => intro acc; rfl
  | cons x t ih =>
   intro acc
   rw [List.foldl_cons, ih]
   unfold ordStep
   by_cases h : 1 ≤ wtZ r x
   ·rw [if_pos h, List.filter_cons_of_pos (by simp [h]), List.foldl_cons]
   ·rw [if_neg h, List.filter_cons_of_neg (by simp [h])]
 exact this l []
def enZ (r want : Int) : List CoinD → Nat → Int → Nat × Int
 | [], _, _ => (0, 0)
 | c :: t, i, s => if want ≤ s + wtZ r c then (i + 1, s + wtZ r c) else enZ r want t (i + 1) (s + wtZ r c)
def seD (r : Int) : List CoinD → List CoinD → Int → Option (List CoinD × Int)
 | [], _, _ => none
 | c :: t, out, left => if 0 ≤ left + wtZ r c then some (out ++ [c], left + wtZ r c) else seD r t (out ++ [c]) (left + wtZ r c)
theorem enZ_ge (r want : Int) : ∀ (t : List CoinD) (i : Nat) (s : Int), (enZ r want t i s).1 = 0 ∨ (i < (enZ r want t i s).1 ∧ (enZ r want t i s).1 ≤ i + t.length) := by
 intro t
 induction t with
 | nil => intro i s; exact Or.inl rfl
 | cons c t ih =>
  intro i s
  rw [enZ]
  split
  ·right
   simp only [List.length_cons]
   omega
  ·rcases ih (i + 1) (s + wtZ r c) with h | h
   ·exact Or.inl h
   ·right
    simp only [List.length_cons]
    omega
theorem en_se (r want : Int) : ∀ (t pre : List CoinD) (s : Int), pre.length ≤ 10 → seD r (t.take (10 - pre.length)) pre (s - want) =
 if (enZ r want t pre.length s).1 = 0 ∨ 10 < (enZ r want t pre.length s).1 then none else some ((pre ++ t).take (enZ r want t pre.length s).1, (enZ r want t pre.length s).2 - want) := by
 intro t
 induction t with
 | nil =>
  intro pre s _
  rw [List.take_nil, seD, enZ, if_pos (Or.inl rfl)]
 | cons c t ih =>
  intro pre s hp
  by_cases h10 : pre.length = 10
  ·rw [h10, Nat.sub_self, List.take_zero, seD]
   rcases enZ_ge r want (c :: t) 10 s with h | h
   ·rw [if_pos (Or.inl h)]
   ·rw [if_pos (Or.inr h.1)]
  ·rw [show 10 - pre.length = (10 - (pre.length + 1)) + 1 by omega, List.take_succ_cons, seD, enZ]
   by_cases hw : want ≤ s + wtZ r c
   ·rw [if_pos (by omega), if_pos hw, if_neg (by simp only; omega)]
    simp only
    congr 2
    ·rw [List.take_append, List.take_of_length_le (by omega), show pre.length + 1 - pre.length = 1 by omega]
     rfl
    ·omega
   ·rw [if_neg (by omega), if_neg hw]
    have := ih (pre ++ [c]) (s + wtZ r c) (by simp; omega)
    rw [List.length_append, List.length_singleton, List.append_assoc, List.singleton_append] at this
    rw [← this]
    congr 1
    omega
def scZ (r : Int) : Int := 2 * r + 9
def coZ (r : Int) (cs : List CoinD) (want : Int) : Option (List CoinD × Int) :=
 if bestP r cs want (want + scZ r) ≠ 0 then some (memP cs (bestP r cs want (want + scZ r)), 0)
 else if (enZ r want cs 0 0).1 = 0 ∨ 10 < (enZ r want cs 0 0).1 then none
 else some (cs.take (enZ r want cs 0 0).1, if (enZ r want cs 0 0).2 - want ≤ scZ r then 0 else (enZ r want cs 0 0).2 - want - 2 * r)
def csD (r : Int) (cs : List CoinD) (want : Int) : List CoinD × Int :=
 if 0 < bestD r cs (min 8 cs.length) want (want + 2 * r + 10 - 1) then (memD cs (min 8 cs.length) (bestD r cs (min 8 cs.length) want (want + 2 * r + 10 - 1)), 0)
 else match seD r (cs.take 10) [] (-want) with
  | none => ([], 0)
  | some (out, left) => (out, if 10 ≤ left - 2 * r then left - 2 * r else 0)
theorem sum_none {b : Nat → Bool} (h : (List.range n).filter b = []) : ((List.range n).map fun i => if b i then f i else 0).sum = 0 := by
 refine sum_zero (fun i hi => ?_)
 have := List.filter_eq_nil_iff.1 h i hi
 rw [if_neg (by simpa using this)]
theorem choose_same (r : Int) (cs : List CoinD) (want : Int) (hw : 0 < want) : (coZ r cs want = none ∧ csD r cs want = ([], 0)) ∨ ∃ l c, coZ r cs want = some (l, c) ∧ csD r cs want = (l, c) ∧ l ≠ [] ∧ 0 ≤ c ∧ (0 < c → 10 ≤ c) := by
 have hs : want + 2 * r + 10 - 1 = want + scZ r := by unfold scZ; omega
 obtain ⟨b1, b2⟩ := best_same r cs (min 8 cs.length) rfl want (want + scZ r) hw
 unfold coZ csD
 rw [hs]
 have hD : Best (sumD r cs (min 8 cs.length)) want (want + scZ r) (2 ^ (min 8 cs.length) - 1) (bestD r cs (min 8 cs.length) want (want + scZ r)) := fit_best _ _ _ (2 ^ (min 8 cs.length) - 1) (2 ^ (min 8 cs.length) - 1) (0, 0) leR (fun _ => fun m h1 h2 => by omega) (fun h => absurd rfl h)
 by_cases e : bestP r cs want (want + scZ r) = 0
 ·have e2 := b2.1 e
  rw [e, e2, if_neg (fun h => h rfl), if_neg (Nat.lt_irrefl 0)]
  have h := en_se r want cs [] 0 (by simp)
  simp only [List.length_nil, Nat.sub_zero, List.nil_append] at h
  rw [show (0 : Int) - want = -want by omega] at h
  rw [h]
  by_cases hc : (enZ r want cs 0 0).1 = 0 ∨ 10 < (enZ r want cs 0 0).1
  ·rw [if_pos hc, if_pos hc]
   exact Or.inl ⟨rfl, rfl⟩
  ·rw [if_neg hc, if_neg hc]
   refine Or.inr ⟨_, _, rfl, ?_, ?_, ?_, ?_⟩
   ·simp only
    congr 1
    unfold scZ
    split <;> split <;> omega
   ·intro hn
    rcases enZ_ge r want cs 0 0 with h | h
    ·exact hc (Or.inl h)
    ·have := congrArg List.length hn
     rw [List.length_take, List.length_nil] at this
     omega
   ·unfold scZ
    split <;> omega
   ·unfold scZ
    split <;> omega
 ·have e2 : bestD r cs (min 8 cs.length) want (want + scZ r) ≠ 0 := fun h => e (b2.2 h)
  rw [if_pos e, if_pos (Nat.pos_of_ne_zero e2)]
  refine Or.inr ⟨_, _, rfl, ?_, ?_, Int.le_refl _, fun h => absurd h (by simp)⟩
  ·rw [memP_D cs (min 8 cs.length) rfl, b1]
  ·rw [memP_D cs (min 8 cs.length) rfl, b1]
   intro hn
   have h0 : (List.range (min 8 cs.length)).filter (fun i => bitN (bestD r cs (min 8 cs.length) want (want + scZ r)) (min 8 cs.length) i) = [] := by
    unfold memD at hn
    exact List.map_eq_nil_iff.1 hn
   have h1 := (hD.yes e2).2.1
   unfold sumD at h1
   rw [sum_none h0] at h1
   omega
structure PayD where
 num : Int
 ac : OAd
 nc : Nat
 cc : Nat
 ap : OAd
 m : Nat
 d : Nat
 tag : Int
 sg : Bool
 cs : List CoinD
 ys : LII
def dP : PayD := ⟨0, none, 0, 0, none, 0, 0, 0, false, [], []⟩
def PayD.v (x : PayD) : List Value := [.int .i64 x.num, .slice x.ac x.nc x.cc, .slice x.ap x.m x.d, .int .i64 x.tag, .bool x.sg]
theorem pay5 (x : PayD) : x.v.length = 5 := rfl
theorem pay_one (x : PayD) : ∀ u ∈ x.v, u.oneCell' = true := by
 intro u hu
 simp only [PayD.v, List.mem_cons, List.not_mem_nil, or_false] at hu
 rcases hu with rfl | rfl | rfl | rfl | rfl <;> rfl
structure PayCells (w : World) (b off : Nat) (x : PayD) : Prop where
 c0 : w.cell? ⟨b, off, none⟩ = some (.int .i64 x.num)
 c1 : w.cell? ⟨b, off + 1, none⟩ = some (.slice x.ac x.nc x.cc)
 c2 : w.cell? ⟨b, off + 2, none⟩ = some (.slice x.ap x.m x.d)
 c3 : w.cell? ⟨b, off + 3, none⟩ = some (.int .i64 x.tag)
 c4 : w.cell? ⟨b, off + 4, none⟩ = some (.bool x.sg)
theorem payCells {xs : List PayD} (h : VRow w b off (xs.flatMap PayD.v)) (j : Nat) (hj : j < xs.length) : PayCells w b (off + j * 5) (xs.getD j dP) :=
 ⟨reL pay5 dP h j hj 0 (by omega), reL pay5 dP h j hj 1 (by omega), reL pay5 dP h j hj 2 (by omega), reL pay5 dP h j hj 3 (by omega), reL pay5 dP h j hj 4 (by omega)⟩
structure PayOk (N : NPr) (w : World) (x : PayD) : Prop where
 co : RcT CoinD.l w x.ac x.cs
 cl : x.cs.length = x.nc
 ou : OsT w x.ap x.ys
 ol : x.ys.length = x.m
 nc : x.cs ≠ [] → ∀ a, x.ac = some a → N a.block
 np : x.ys ≠ [] → ∀ a, x.ap = some a → N a.block
 b1 : x.nc ≤ 10
 b2 : x.m ≤ 8
theorem rec_fr {α : Type} {f : α → List Value} (hf : Fr E w w') {l : List α} (h : RcT f w ao l) (hn : l ≠ [] → ∀ a, ao = some a → ¬ E a.block) : RcT f w' ao l := by
 by_cases he : l = []
 ·exact Or.inl he
 ·rcases h with h | ⟨b, off, rfl, hr⟩
  ·exact Or.inl h
  ·exact Or.inr ⟨b, off, rfl, hf.vrow hr (hn he _ rfl)⟩
theorem outsAt_fr (hf : Fr E w w') (h : OsT w ao l) (hn : l ≠ [] → ∀ a, ao = some a → ¬ E a.block) : OsT w' ao l := by
 by_cases he : l = []
 ·exact Or.inl he
 ·rcases h with h | ⟨b, off, rfl, hr⟩
  ·exact Or.inl h
  ·exact Or.inr ⟨b, off, rfl, fun j hj => ⟨hf.cell (hr j hj).1 (hn he _ rfl), hf.cell (hr j hj).2 (hn he _ rfl)⟩⟩
theorem PayOk.fr (hf : Fr E w w') {x : PayD} (h : PayOk N w x) (hn : ∀ k, N k → ¬ E k) : PayOk N w' x :=
 ⟨rec_fr hf h.co (fun e a ha => hn _ (h.nc e a ha)), h.cl, outsAt_fr hf h.ou (fun e a ha => hn _ (h.np e a ha)), h.ol, h.nc, h.np, h.b1, h.b2⟩
theorem PayOk.grown {x : PayD} (h : PayOk N w x) (hb : Below w.heap.size w w') : PayOk N w' x := h.fr (Fr.of_below hb (fun _ => False)) (fun _ _ h => h)
def kV (k : Int × Int) : List Value := [.int .i64 k.1, .int .i64 k.2]
theorem kv2 (k : Int × Int) : (kV k).length = 2 := rfl
theorem kv_one (k : Int × Int) : ∀ u ∈ kV k, u.oneCell' = true := by
 intro u hu
 simp only [kV, List.mem_cons, List.not_mem_nil, or_false] at hu
 rcases hu with rfl | rfl <;> rfl
def KvCells (w : World) (b off : Nat) (k : Int × Int) : Prop := w.cell? ⟨b, off, none⟩ = some (.int .i64 k.1) ∧ w.cell? ⟨b, off + 1, none⟩ = some (.int .i64 k.2)
theorem kvCells (h : VRow w b off (xs.flatMap kV)) (j : Nat) (hj : j < xs.length) : KvCells w b (off + j * 2) (xs.getD j (0, 0)) :=
 ⟨reL kv2 (0, 0) h j hj 0 (by omega), reL kv2 (0, 0) h j hj 1 (by omega)⟩
def heldB (ps : List PayD) (id pos : Int) : Bool := ps.any fun p => p.cs.any fun x => x.id == id && x.pos == pos
def usedB (ks : LII) (k : Int × Int) : Bool := ks.any fun x => x.1 == k.1 && x.2 == k.2
def freeB (ps : List PayD) (ks : LII) (x : CoinD) : Bool := !heldB ps x.id x.pos && !usedB ks (x.br, x.ix)
theorem holds_any (N : NPr) (b o : Nat) (ao : OAd) (n c : Nat) (ps : List PayD) (id pos : Int) (w : World) (hp : w.cell? ⟨b, o, none⟩ = some (.slice ao n c)) (hx : RcT PayD.v w ao ps) (hn : ps.length = n) (hm : n ≤ 9007199254740992) (hok : ∀ p ∈ ps, PayOk N w p) :
 Calls Tryz.prog 185 #[.pointer (some ⟨b, o, none⟩), .int .i64 id, .int .i64 pos] w fun e w' => e = .returned (.bool (heldB ps id pos)) ∧ Below w.heap.size w w' := by
 have HN := hiD hn
 have HX := hiD hx
 have HO := hiD hok
 clear hn hx hok
 go_enter Tryz.func185, Tryz.ntmps185
 go_wp2
 go_loopw [16] (fun i wr => ∃ k : Nat, k ≤ n ∧ i = .int .i64 k ∧ Hid ((ps.take k).any (fun p => p.cs.any fun x => x.id == id && x.pos == pos) = false) ∧ Below w.heap.size w wr) (fun i _ => n - (intOf i).toNat)
 case atStart => exact ⟨0, Nat.zero_le _, rfl, by show List.any _ _ = false; simp, Below.refl _ _⟩
 case round =>
  obtain ⟨k, hk, rfl, hany, hbl⟩ := hrel
  have hsz := hbl.size
  by_cases hlt : k < n
  ·rcases HX.out with hnil | ⟨g, off, rfl, hrow⟩
   ·have := HN.out; rw [hnil] at this; simp at this; omega
   obtain ⟨c0, c1, c2, c3, c4⟩ := payCells (hrow.grown hbl) k (by rw [HN.out]; exact hlt)
   have HS : Hid _ := any_no (fun p : PayD => p.cs.any fun x => x.id == id && x.pos == pos) ps dP k (by rw [HN.out]; exact hlt) hany.out
   have HZ : Hid _ := ayS (fun p : PayD => p.cs.any fun x => x.id == id && x.pos == pos) ps dP k (by rw [HN.out]; exact hlt)
   have hk0 := HO.out (ps.getD k dP) (gDM ps dP k (by rw [HN.out]; exact hlt))
   have HCO : Hid _ := hk0.co
   have HCL : Hid _ := hk0.cl
   have hb1 := hk0.b1
   clear hrow hk0
   generalize ps.getD k dP = y at c0 c1 c2 c3 c4 HS HZ HCO HCL hb1
   obtain ⟨ynum, yac, ync, ycc, yap, ym, yd, ytag, ysg, ycs, yys⟩ := y
   simp only at c0 c1 c2 c3 c4 hb1
   have HA := hiD HCO.out
   have HL := hiD HCL.out
   clear HCO HCL
   obtain ⟨wo, rfl⟩ : ∃ wo : World, wo = wr := ⟨_, rfl⟩
   go_wp2
   go_loopw [23] (fun i wr => ∃ j : Nat, j ≤ ync ∧ i = .int .i64 j ∧ Hid ((ycs.take j).any (fun x => x.id == id && x.pos == pos) = false) ∧ Below w.heap.size w wr ∧ Below wo.heap.size wo wr) (fun i _ => ync - (intOf i).toNat)
   case atStart => exact ⟨0, Nat.zero_le _, rfl, by show List.any _ _ = false; simp, hbl.alloc hsz _, (Below.refl _ _).alloc leR _⟩
   case round =>
    obtain ⟨j, hj, rfl, hany2, hbl2, hbo⟩ := hrel
    have hsz2 := hbl2.size
    have hszo := hbo.size
    by_cases hlt2 : j < ync
    ·rcases HA.out with hnil | ⟨g2, off2, rfl, hrow⟩
     ·have := HL.out; rw [hnil] at this; simp at this; omega
     obtain ⟨d0, d1, d2, d3, d4, d5⟩ := cCS (hrow.grown hbl2) j (by rw [HL.out]; exact hlt2)
     have HS2 : Hid _ := any_no (fun x : CoinD => x.id == id && x.pos == pos) ycs dN j (by rw [HL.out]; exact hlt2) hany2.out
     have HZ2 : Hid _ := ayS (fun x : CoinD => x.id == id && x.pos == pos) ycs dN j (by rw [HL.out]; exact hlt2)
     clear hrow
     generalize ycs.getD j dN = z at d0 d1 d2 d3 d4 d5 HS2 HZ2
     obtain ⟨z0, z1, z2, z3, z4, z5⟩ := z
     simp only at d0 d1 d2 d3 d4 d5
     cases h1 : (z0 == id)
     ·go_wp2
      go_roundw
      case rel => exact ⟨j + 1, by omega, by go_num, HS2 (by simp [h1]), hbl2.alloc hsz2 _, hbo.alloc hszo _⟩
      case measure => simp [intOf]; omega
     ·cases h2 : (z1 == pos)
      ·go_wp2
       go_roundw
       case rel => exact ⟨j + 1, by omega, by go_num, HS2 (by simp [h2]), hbl2.alloc hsz2 _, hbo.alloc hszo _⟩
       case measure => simp [intOf]; omega
      ·go_wp2
       go_ret
       exact ⟨rbL (HZ (HZ2 (by show (z0 == id && z1 == pos) = true; rw [h1, h2]; rfl))).symm, hbl2.alloc hsz2 _⟩
    ·have HE : Hid _ := adE (fun x : CoinD => x.id == id && x.pos == pos) ycs ync HL.out j (by omega) hany2.out
     go_wp2
     go_roundw
     case rel => exact ⟨k + 1, by omega, by go_num, HS HE.out.symm, hbl2⟩
     case measure => simp [intOf]; omega
  ·go_wp2
   go_ret
   exact ⟨rbL (adE _ ps n HN k (by omega) hany.out), hbl⟩
theorem hasSealed_any (b o : Nat) (ao : OAd) (n c : Nat) (ks : LII) (kb ki : Int) (w : World) (hp : w.cell? ⟨b, o + 1, none⟩ = some (.slice ao n c)) (hx : RcT kV w ao ks) (hn : ks.length = n) (hm : n ≤ 9007199254740992) :
 Calls Tryz.prog 146 #[.pointer (some ⟨b, o, none⟩), .agg #[.int .i64 kb, .int .i64 ki]] w fun e w' => e = .returned (.bool (usedB ks (kb, ki))) ∧ Below w.heap.size w w' := by
 have HN := hiD hn
 have HX := hiD hx
 clear hn hx
 have hblt := clT hp
 simp only at hblt
 go_enter Tryz.func146, Tryz.ntmps146
 go_wp2
 go_loopw [12] (fun i wr => ∃ k : Nat, k ≤ n ∧ i = .int .i64 k ∧ Hid ((ks.take k).any (fun x => x.1 == kb && x.2 == ki) = false) ∧ wr.cell? ⟨w.heap.size, 0, none⟩ = some (.int .i64 kb) ∧ wr.cell? ⟨w.heap.size, 1, none⟩ = some (.int .i64 ki) ∧ w.heap.size < wr.heap.size ∧ Below w.heap.size w wr) (fun i _ => n - (intOf i).toNat)
 case atStart => exact ⟨0, Nat.zero_le _, rfl, by show List.any _ _ = false; simp, by go_simp, by go_simp, by simp, (Below.refl _ _).alloc leR _⟩
 case round =>
  obtain ⟨k, hk, rfl, hany, e0, e1, hlt0, hbl⟩ := hrel
  have hsz := hbl.size
  by_cases hlt : k < n
  ·rcases HX.out with hnil | ⟨g, off, rfl, hrow⟩
   ·have := HN.out; rw [hnil] at this; simp at this; omega
   obtain ⟨c0, c1⟩ := kvCells (hrow.grown hbl) k (by rw [HN.out]; exact hlt)
   have HS : Hid _ := any_no (fun x : Int × Int => x.1 == kb && x.2 == ki) ks (0, 0) k (by rw [HN.out]; exact hlt) hany.out
   have HZ : Hid _ := ayS (fun x : Int × Int => x.1 == kb && x.2 == ki) ks (0, 0) k (by rw [HN.out]; exact hlt)
   clear hrow
   generalize ks.getD k (0, 0) = y at c0 c1 HS HZ
   obtain ⟨y0, y1⟩ := y
   simp only at c0 c1
   cases h1 : (y0 == kb)
   ·go_wp2
    go_roundw
    case rel => exact ⟨k + 1, by omega, by go_num, HS (by simp [h1]), by go_simp, by go_simp, by simp; omega, hbl.alloc hsz _⟩
    case measure => simp [intOf]; omega
   ·cases h2 : (y1 == ki)
    ·go_wp2
     go_roundw
     case rel => exact ⟨k + 1, by omega, by go_num, HS (by simp [h2]), by go_simp, by go_simp, by simp; omega, hbl.alloc hsz _⟩
     case measure => simp [intOf]; omega
    ·go_wp2
     go_ret
     exact ⟨rbL (HZ (by show (y0 == kb && y1 == ki) = true; rw [h1, h2]; rfl)).symm, hbl.alloc hsz _⟩
  ·go_wp2
   go_ret
   exact ⟨rbL (adE _ ks n HN k (by omega) hany.out), hbl⟩
theorem keyOf_any (x : CoinD) (w : World) : Calls Tryz.prog 145 #[coinV x] w fun e w' => e = .returned (.agg #[.int .i64 x.br, .int .i64 x.ix]) ∧ Below w.heap.size w w' := by
 obtain ⟨x0, x1, x2, x3, x4, x5⟩ := x
 go_enter Tryz.func145, Tryz.ntmps145
 go_wp2
 refine bodyPost_ret (v := .agg #[.int .i64 x4, .int .i64 x5]) ?_ rfl ⟨rfl, ?_⟩
 ·simp [results, Tryz.results145, go_sem]
 ·have hbn : ∀ p q : Obj, Below w.heap.size w ((w.alloc p).alloc q) := fun p q => (bAl _ _).alloc (by simp) _
  exact hbn _ _
structure PayM (N : NPr) (w : World) (b o : Nat) (ps : List PayD) (ks : LII) : Prop where
 h0 : ∃ ao c, w.cell? ⟨b, o, none⟩ = some (.slice ao ps.length c) ∧ RcT PayD.v w ao ps
 h1 : ∃ ao c, w.cell? ⟨b, o + 1, none⟩ = some (.slice ao ks.length c) ∧ RcT kV w ao ks
 ok : ∀ p ∈ ps, PayOk N w p
 b0 : ps.length ≤ 9007199254740992
 b1 : ks.length ≤ 9007199254740992
theorem PayM.grown {ps : List PayD} (h : PayM N w b o ps ks) (hb : Below w.heap.size w w') : PayM N w' b o ps ks := by
 obtain ⟨ao, c, h0, r0⟩ := h.h0
 obtain ⟨ao1, c1, h1, r1⟩ := h.h1
 exact ⟨⟨ao, c, (hb.cell (p := ⟨b, o, none⟩) (clT h0)).trans h0, r0.grown hb⟩, ⟨ao1, c1, (hb.cell (p := ⟨b, o + 1, none⟩) (clT h1)).trans h1, r1.grown hb⟩, fun p hp => (h.ok p hp).grown hb, h.b0, h.b1⟩
theorem PayM.lt {ps : List PayD} (h : PayM N w b o ps ks) : b < w.heap.size := by
 obtain ⟨ao, c, h0, _⟩ := h.h0
 exact clT h0
theorem isFree_any (N : NPr) (b o : Nat) (ps : List PayD) (ks : LII) (x : CoinD) (w : World) (hm : PayM N w b o ps ks) :
 Calls Tryz.prog 131 #[.pointer (some ⟨b, o, none⟩), coinV x] w fun e w' => e = .returned (.bool (freeB ps ks x)) ∧ Below w.heap.size w w' := by
 have HM := hiD hm
 clear hm
 obtain ⟨x0, x1, x2, x3, x4, x5⟩ := x
 go_enter Tryz.func131, Tryz.ntmps131
 go_wp2_with fail
 refine (keyOf_any ⟨x0, x1, x2, x3, x4, x5⟩ _).mono ?_
 rintro e w1 ⟨rfl, hb1⟩
 simp only
 have hb0 : Below w.heap.size w (w.alloc (.cells #[.int .i64 x0, .int .i64 x1, .int .i64 x2, .int .i64 x3, .int .i64 x4, .int .i64 x5] 107)) := (Below.refl _ _).alloc leR _
 have hz0 : (w.alloc (.cells #[.int .i64 x0, .int .i64 x1, .int .i64 x2, .int .i64 x3, .int .i64 x4, .int .i64 x5] 107)).heap.size = w.heap.size + 1 := by simp
 have hbW := hb0.trans (hb1.mono (by omega))
 obtain ⟨d0, d1, d2, d3, d4, d5⟩ := xrow ((vwW w [.int .i64 x0, .int .i64 x1, .int .i64 x2, .int .i64 x3, .int .i64 x4, .int .i64 x5] 107).grown hb1)
 have hs1 := hb1.size
 rw [hz0] at hs1
 have HM1 : Hid (PayM N (w1.alloc (.cells #[.int .i64 x4, .int .i64 x5] 117)) b o ps ks) := (HM.out.grown hbW).grown (bAl _ _)
 have hbW2 := hbW.alloc hbW.size (.cells #[.int .i64 x4, .int .i64 x5] 117)
 clear hb0 hz0 hb1 hbW
 go_upto_region 2 with fail
 have bA : Below w1.heap.size w1 (w1.alloc (.cells #[.int .i64 x4, .int .i64 x5] 117)) := (Below.refl _ _).alloc leR _
 have e0 := (bA.cell (p := ⟨w.heap.size, 0, none⟩) (clT d0)).trans d0
 have e1 := (bA.cell (p := ⟨w.heap.size, 1, none⟩) (clT d1)).trans d1
 clear bA
 have k0 : (w1.alloc (.cells #[.int .i64 x4, .int .i64 x5] 117)).cell? ⟨w1.heap.size, 0, none⟩ = some (.int .i64 x4) := by go_simp
 have k1 : (w1.alloc (.cells #[.int .i64 x4, .int .i64 x5] 117)).cell? ⟨w1.heap.size, 1, none⟩ = some (.int .i64 x5) := by go_simp
 clear d0 d1 d2 d3 d4 d5
 generalize w1.alloc (.cells #[.int .i64 x4, .int .i64 x5] 117) = w2 at *
 generalize w1.heap.size = K at *
 obtain ⟨ao, c, p0, r0⟩ := HM1.out.h0
 obtain ⟨ao1, c1, p1, r1⟩ := HM1.out.h1
 have HR0 := hiD r0
 have HR1 := hiD r1
 have HP0 := hiD p0
 have HP1 := hiD p1
 clear r0 r1 p0 p1
 have hKl := clT k0
 go_wp2_with fail
 refine (holds_any N b o ao ps.length c ps x0 x1 _ HP0 HR0 rfl HM1.out.b0 HM1.out.ok).mono ?_
 rintro e w3 ⟨rfl, hb3⟩
 have hbW3 := hbW2.trans (hb3.mono hbW2.size)
 have q0 := (hb3.cell (p := ⟨K, 0, none⟩) hKl).trans k0
 have q1 := (hb3.cell (p := ⟨K, 1, none⟩) hKl).trans k1
 have HQ1 : Hid (w3.cell? ⟨b, o + 1, none⟩ = some (.slice ao1 ks.length c1)) := (hb3.cell (p := ⟨b, o + 1, none⟩) (clT HP1.out)).trans HP1.out
 have HRR := hiD (HR1.out.grown hb3)
 clear e0 e1 k0 k1 hb3
 have HF : Hid (freeB ps ks ⟨x0, x1, x2, x3, x4, x5⟩ = (!heldB ps x0 x1 && !usedB ks (x4, x5))) := rfl
 generalize hh : heldB ps x0 x1 = H at *
 cases H
 ·go_wp2_with fail
  refine (hasSealed_any b o ao1 ks.length c1 ks x4 x5 _ HQ1 HRR rfl HM1.out.b1).mono ?_
  rintro e w4 ⟨rfl, hb4⟩
  have hbW4 := hbW3.trans (hb4.mono hbW3.size)
  generalize usedB ks (x4, x5) = U at *
  cases U
  ·go_wp2
   go_ret
   exact ⟨rbL HF.out.symm, hbW4⟩
  ·go_wp2
   go_ret
   exact ⟨rbL HF.out.symm, hbW4⟩
 ·go_wp2
  go_ret
  exact ⟨rbL (by rw [HF.out]; rfl), hbW3⟩
theorem keep6 (hb : Below w.heap.size w w') (h : w.cell? ⟨T, 0, none⟩ = some a0 ∧ w.cell? ⟨T, 1, none⟩ = some a1 ∧ w.cell? ⟨T, 2, none⟩ = some a2 ∧ w.cell? ⟨T, 3, none⟩ = some a3 ∧ w.cell? ⟨T, 4, none⟩ = some a4 ∧ w.cell? ⟨T, 5, none⟩ = some a5) :
 w'.cell? ⟨T, 0, none⟩ = some a0 ∧ w'.cell? ⟨T, 1, none⟩ = some a1 ∧ w'.cell? ⟨T, 2, none⟩ = some a2 ∧ w'.cell? ⟨T, 3, none⟩ = some a3 ∧ w'.cell? ⟨T, 4, none⟩ = some a4 ∧ w'.cell? ⟨T, 5, none⟩ = some a5 := by
 have hl := clT h.1
 obtain ⟨h0, h1, h2, h3, h4, h5⟩ := h
 exact ⟨(hb.cell (p := ⟨T, 0, none⟩) hl).trans h0, (hb.cell (p := ⟨T, 1, none⟩) hl).trans h1, (hb.cell (p := ⟨T, 2, none⟩) hl).trans h2, (hb.cell (p := ⟨T, 3, none⟩) hl).trans h3, (hb.cell (p := ⟨T, 4, none⟩) hl).trans h4, (hb.cell (p := ⟨T, 5, none⟩) hl).trans h5⟩
theorem filter_snoc {α : Type} (p : α → Bool) (l : List α) (d : α) (k : Nat) (h : k < l.length) : (l.take (k + 1)).filter p = (l.take k).filter p ++ if p (l.getD k d) = true then [l.getD k d] else [] := by
 rw [List.take_succ_eq_append_getElem h, List.filter_append]
 simp only [List.getD, List.getElem?_eq_getElem h, Option.getD_some]
 congr 1
 cases hp : p l[k] <;> simp [hp]
theorem free_any (N : NPr) (P : Nat) (ps : List PayD) (ks : LII) (ao : OAd) (n c : Nat) (cs : List CoinD) (w : World) (hp : PayM N w P 4 ps ks) (hx : RcT CoinD.l w ao cs) (hn : cs.length = n) (hm : n ≤ 100000) :
 Calls Tryz.prog 80 #[.pointer (some ⟨P, 0, none⟩), .slice ao n c] w fun e w' => ∃ v, e = .returned v ∧ ORC CoinD.l 107 6 w' w.heap.size v (cs.filter (freeB ps ks)) ∧ Below w.heap.size w w' := by
 have HA := hiD hx
 have HM := hiD hn
 have HP := hiD hp
 have hPl := hp.lt
 clear hx hn hp
 generalize hB : w.heap.size = B at hPl
 have HB := hiD hB
 clear hB
 go_enter Tryz.func80, Tryz.ntmps80
 go_wp2
 go_loopw [5, 10] (fun v i wr => ∃ k : Nat, k ≤ n ∧ i = .int .i64 k ∧ ORC CoinD.l 107 6 wr B v ((cs.take k).filter (freeB ps ks)) ∧ Below B w wr) (fun _ i _ => n - (intOf i).toNat)
 case atStart => exact ⟨0, Nat.zero_le _, rfl, ORC.nil _ _ _ _ _, Below.refl _ _⟩
 case round =>
  obtain ⟨k, hk, rfl, hown, hbl⟩ := hrel
  have hsz := hbl.size
  rw [HB.out] at hsz
  by_cases hlt : k < n
  ·rcases HA.out with hnil | ⟨gg, off, rfl, hrow⟩
   ·have := HM.out; rw [hnil] at this; simp at this; omega
   obtain ⟨c0, c1, c2, c3, c4, c5⟩ := cCS (hrow.grown (by rw [HB.out]; exact hbl)) k (by rw [HM.out]; exact hlt)
   have HS : Hid _ := filter_snoc (freeB ps ks) cs dN k (by rw [HM.out]; exact hlt)
   have HLN : Hid (((cs.take k).filter (freeB ps ks)).length ≤ 100000) := by show _ ≤ _; have := List.length_filter_le (freeB ps ks) (cs.take k); rw [List.length_take] at this; omega
   clear hrow
   generalize cs.getD k dN = y at c0 c1 c2 c3 c4 c5 HS
   generalize (cs.take k).filter (freeB ps ks) = acc at *
   obtain ⟨y0, y1, y2, y3, y4, y5⟩ := y
   simp only at c0 c1 c2 c3 c4 c5
   have hbx : Below wr.heap.size wr (wr.alloc (.cells #[.int .i64 y0, .int .i64 y1, .int .i64 y2, .int .i64 y3, .int .i64 y4, .int .i64 y5] 107)) := (Below.refl _ _).alloc leR _
   have hv := vwW wr [.int .i64 y0, .int .i64 y1, .int .i64 y2, .int .i64 y3, .int .i64 y4, .int .i64 y5] 107
   obtain ⟨x0, x1, x2, x3, x4, x5⟩ := xrow hv
   have hown1 := hown.alloc (.cells #[.int .i64 y0, .int .i64 y1, .int .i64 y2, .int .i64 y3, .int .i64 y4, .int .i64 y5] 107)
   have hbl1 := hbl.alloc hsz (.cells #[.int .i64 y0, .int .i64 y1, .int .i64 y2, .int .i64 y3, .int .i64 y4, .int .i64 y5] 107)
   go_upto_region 5 with fail
   generalize wr.alloc (.cells #[.int .i64 y0, .int .i64 y1, .int .i64 y2, .int .i64 y3, .int .i64 y4, .int .i64 y5] 107) = w1 at *
   generalize hTe : wr.heap.size = T at *
   have hsz1 : B ≤ w1.heap.size := by have := hbx.size; omega
   have HP1 : Hid (PayM N w1.drew P 4 ps ks) := HP.out.grown (by rw [HB.out]; exact hbl1.drew)
   have HKX : Hid (w1.cell? ⟨T, 0, none⟩ = some (.int .i64 y0) ∧ w1.cell? ⟨T, 1, none⟩ = some (.int .i64 y1) ∧ w1.cell? ⟨T, 2, none⟩ = some (.int .i64 y2) ∧ w1.cell? ⟨T, 3, none⟩ = some (.int .i64 y3) ∧ w1.cell? ⟨T, 4, none⟩ = some (.int .i64 y4) ∧ w1.cell? ⟨T, 5, none⟩ = some (.int .i64 y5)) := ⟨x0, x1, x2, x3, x4, x5⟩
   have hTl : T < w1.heap.size := clT x0
   clear hbx hv hown hbl hTe c0 c1 c2 c3 c4 c5
   go_wp2
   go_region_held3 (fun w' => w'.cell? ⟨T, 0, none⟩ = some (.int .i64 y0) ∧ w'.cell? ⟨T, 1, none⟩ = some (.int .i64 y1) ∧ w'.cell? ⟨T, 2, none⟩ = some (.int .i64 y2) ∧ w'.cell? ⟨T, 3, none⟩ = some (.int .i64 y3) ∧ w'.cell? ⟨T, 4, none⟩ = some (.int .i64 y4) ∧ w'.cell? ⟨T, 5, none⟩ = some (.int .i64 y5)) (first | assumption | go_keep | exact keep6 hb7 HKX) ((go_at_call 131; refine (isFree_any N P 4 ps ks ⟨y0, y1, y2, y3, y4, y5⟩ _ HP1).mono ?_; rintro e w7 ⟨rfl, hb7⟩))
   obtain ⟨d0, d1, d2, d3, d4, d5⟩ := keep6 hb7 HKX.out
   have HOW : Hid (ORC CoinD.l 107 6 w7 B u5 acc) := (ORC.drew hown1).grown hb7
   have hbld : Below B w w7 := hbl1.drew.trans (hb7.mono hsz1)
   have hszd : B ≤ w7.heap.size := leT hsz1 hb7.size
   clear x0 x1 x2 x3 x4 x5 hown1 hbl1 hsz1 HP1 HKX hb7 hTl
   generalize w1.drew = w1d at *
   cases hfr : freeB ps ks ⟨y0, y1, y2, y3, y4, y5⟩
   ·rw [hfr] at HS
    go_wp2
    go_roundw
    case rel => exact ⟨k + 1, by omega, by go_num, by rw [HS.out, if_neg (by simp), List.append_nil]; exact HOW, hbld⟩
    case measure => simp [intOf]; omega
   ·rw [hfr] at HS
    go_wp2_with (at_builtin; refine wtR 45 48 _ Tryz.underlying45 info107 rfl (by decide) ci6 cnE (w7.alloc (.cells #[.int .i64 y0, .int .i64 y1, .int .i64 y2, .int .i64 y3, .int .i64 y4, .int .i64 y5] 107)) rfl _ _ rfl B w7.heap.size 1 u5 acc ⟨y0, y1, y2, y3, y4, y5⟩ (by rfl) (by rfl) (HOW.out.alloc _) (vwW _ _ _) (by simp; omega) (by have := HLN.out; unfold maxLen; omega) (by have := HLN.out; omega) ?_; intro g' cap w5 hown5 hg5 _ _)
    go_roundw
    case rel => exact ⟨k + 1, by omega, by go_num, by rw [HS.out, if_pos rfl]; exact hown5, hbld.trans (gbW (grS (glC _ _ _) hg5) (by omega) (fun r hr => (HOW.out.blk r hr).1))⟩
    case measure => simp [intOf]; omega
  ·have HE : Hid (cs.take k = cs) := by show _ = _; rw [List.take_of_length_le (by rw [HM.out]; omega)]
   rw [HE.out] at hown
   go_wp2
   go_ret
   exact ⟨_, rfl, hown, hbl⟩
theorem sumF_val (hv : ∀ x ∈ cs, 0 ≤ x.val ∧ x.val ≤ 1099511627776) : ∀ x ∈ cs.filter p, 0 ≤ x.val ∧ x.val ≤ 1099511627776 := fun x hx => hv x (List.mem_filter.1 hx).1
theorem pBalance_any (N : NPr) (ps : List PayD) (ks : LII) (P : Nat) (s : Int) (g : Nat) (ao : OAd) (n c : Nat) (h : Int) (xs : List Cel) (w : World) (hs : Mk.isM s = true) (hg : 1 ≤ g) (hg2 : g ≤ 20) (hp : PeW w P s g (.slice ao n c) h) (hl : PayM N w P 4 ps ks) (hx : CsT w ao xs) (hn : xs.length = n) (hm : n ≤ 10000) (hv : ∀ x ∈ ownZ (kyZ xs s g) (cnC xs), 0 ≤ x.val ∧ x.val ≤ 1099511627776) :
 Calls Tryz.prog 51 #[.pointer (some ⟨P, 0, none⟩)] w fun e w' => e = .returned (.tuple #[.int .i64 (sumC (ownZ (kyZ xs s g) (cnC xs))), .int .i64 (sumC ((ownZ (kyZ xs s g) (cnC xs)).filter (freeB ps ks)))]) ∧ Below w.heap.size w w' := by
 have HV := hiD hv
 have HP := hiD hp
 have HX := hiD hx
 have HN := hiD hn
 have HL4 := hiD hl
 have hl0 : (ownZ (kyZ xs s g) (cnC xs)).length ≤ 10000 := by
  have h1 := ownZ_len (kyZ xs s g) (cnC xs)
  have h2 := coinsC_len xs
  omega
 have HL := hiD hl0
 clear hv hp hx hn hl0 hl
 go_enter Tryz.func51, Tryz.ntmps51
 go_wp2_with fail
 refine (pCoins_any P s g ao n c h xs _ hs hg hg2 HP HX HN hm).mono ?_
 rintro e w1 ⟨v, rfl, ho1, hb1⟩
 generalize hcs : ownZ (kyZ xs s g) (cnC xs) = cs at *
 have HCS := hiD hcs
 clear hcs
 obtain ⟨ac, cc, rfl, hat⟩ := ORC.at ci6 ho1
 have HA := hiD hat
 have HL1 := hiD (HL4.out.grown hb1)
 clear hat ho1
 generalize hm2 : cs.length = m at *
 have HM := hiD hm2
 have hml : m ≤ 10000 := HL.out
 clear hm2
 go_wp2_with fail
 refine (free_any N P ps ks ac m cc cs _ HL1 HA HM (by omega)).mono ?_
 rintro e w2 ⟨v2, rfl, ho2, hb2⟩
 obtain ⟨ad, cd, rfl, had⟩ := ORC.at ci6 ho2
 have HVF : Hid (∀ x ∈ cs.filter (freeB ps ks), 0 ≤ x.val ∧ x.val ≤ 1099511627776) := sumF_val HV.out
 have HFL : Hid ((cs.filter (freeB ps ks)).length ≤ 10000) := by show _ ≤ _; have := List.length_filter_le (freeB ps ks) cs; rw [HM.out] at this; omega
 have HA2 := hiD (HA.out.grown hb2)
 have HD2 := hiD had
 have hb02 := bwK hb1 hb2
 clear had ho2 HA hb1 hb2
 generalize hfs : cs.filter (freeB ps ks) = fs at *
 have HFS := hiD hfs
 clear hfs
 generalize hfm : fs.length = fm at *
 have HFM := hiD hfm
 have hfl : fm ≤ 10000 := HFL.out
 clear hfm HFL
 go_wp2_with fail
 refine (sum_any ac m cc cs _ HA2 HM (by omega) HV).mono ?_
 rintro e w3 ⟨rfl, hb3⟩
 have HD3 := hiD (HD2.out.grown hb3)
 have hb03 := bwK hb02 hb3
 go_wp2_with fail
 refine (sum_any ad fm cd fs _ HD3 HFM (by omega) HVF).mono ?_
 rintro e w4 ⟨rfl, hb4⟩
 have hb04 := bwK hb03 hb4
 go_wp2
 go_ret2
 rw [HCS.out, HFS.out]
 exact ⟨rfl, hb04⟩
theorem worth_any (x : CoinD) (r : Int) (w : World) (hr : 0 ≤ r ∧ r ≤ 1000) (hx : 0 ≤ x.val ∧ x.val ≤ 1099511627776) :
 Calls Tryz.prog 186 #[coinV x, .int .i64 r] w fun e w' => e = .returned (.int .i64 (wtZ r x)) ∧ Below w.heap.size w w' := by
 obtain ⟨x0, x1, x2, x3, x4, x5⟩ := x
 simp only at hx
 have hw1 : IntKind.i64.wrap (7 * r) = 7 * r := IntWalk.i64_in _ ⟨by omega, by omega⟩
 have hw2 : IntKind.i64.wrap (x3 - 7 * r) = x3 - 7 * r := IntWalk.i64_in _ ⟨by omega, by omega⟩
 go_enter Tryz.func186, Tryz.ntmps186
 go_wp2
 go_ret
 exact ⟨rfl, (Below.refl _ _).alloc leR _⟩
theorem slack_any (r : Int) (w : World) (hr : 0 ≤ r ∧ r ≤ 1000) :
 Calls Tryz.prog 134 #[.int .i64 r] w fun e w' => e = .returned (.int .i64 (scZ r)) ∧ w = w' := by
 have hw1 : IntKind.i64.wrap (2 * r) = 2 * r := IntWalk.i64_in _ ⟨by omega, by omega⟩
 have hw2 : IntKind.i64.wrap (2 * r + 10) = 2 * r + 10 := IntWalk.i64_in _ ⟨by omega, by omega⟩
 have hw3 : IntKind.i64.wrap (2 * r + 10 - 1) = 2 * r + 10 - 1 := IntWalk.i64_in _ ⟨by omega, by omega⟩
 go_enter Tryz.func134, Tryz.ntmps134
 go_wp2
 go_ret
 exact ⟨riT (by unfold scZ; omega), rfl⟩
theorem change_any (l r : Int) (w : World) (hr : 0 ≤ r ∧ r ≤ 1000) (hl : 0 ≤ l ∧ l ≤ 1000000000000000000) :
 Calls Tryz.prog 138 #[.int .i64 l, .int .i64 r] w fun e w' => e = .returned (.int .i64 (if l ≤ scZ r then 0 else l - 2 * r)) ∧ w = w' := by
 have hw1 : IntKind.i64.wrap (2 * r) = 2 * r := IntWalk.i64_in _ ⟨by omega, by omega⟩
 have hw2 : IntKind.i64.wrap (l - 2 * r) = l - 2 * r := IntWalk.i64_in _ ⟨by omega, by omega⟩
 by_cases h : l ≤ scZ r
 ·rw [if_pos h]
  go_enter Tryz.func138, Tryz.ntmps138
  go_wp2_with (go_at_call 134; refine (slack_any r _ hr).mono ?_; rintro e w' ⟨rfl, rfl⟩)
  go_ret
  exact ⟨rfl, rfl⟩
 ·rw [if_neg h]
  go_enter Tryz.func138, Tryz.ntmps138
  go_wp2_with (go_at_call 134; refine (slack_any r _ hr).mono ?_; rintro e w' ⟨rfl, rfl⟩)
  go_ret
  exact ⟨rfl, rfl⟩
def tgZ (ys : LII) (r : Int) : Int := r * (3 + 2 * ys.length) + smU ys
theorem target_any (ao : OAd) (n c : Nat) (ys : LII) (r : Int) (w : World) (hx : OsT w ao ys) (hn : ys.length = n) (hm : n ≤ 100) (hr : 0 ≤ r ∧ r ≤ 1000) (hb : ∀ y ∈ ys, 0 ≤ y.2 ∧ y.2 ≤ 1099511627776) :
 Calls Tryz.prog 133 #[.slice ao n c, .int .i64 r] w fun e w' => e = .returned (.int .i64 (tgZ ys r)) ∧ Below w.heap.size w w' := by
 have HX := hiD hx
 have HN := hiD hn
 have HB := hiD hb
 clear hx hn hb
 have hrn : 0 ≤ r * (3 + 2 * (n : Int)) ∧ r * (3 + 2 * (n : Int)) ≤ 203000 := ⟨Int.mul_nonneg hr.1 (by omega), by
  have h1 : r * (3 + 2 * (n : Int)) ≤ 1000 * (3 + 2 * (n : Int)) := Int.mul_le_mul_of_nonneg_right hr.2 (by omega)
  omega⟩
 have hw1 : IntKind.i64.wrap (2 * (n : Int)) = 2 * (n : Int) := IntWalk.i64_in _ ⟨by omega, by omega⟩
 have hw2 : IntKind.i64.wrap (3 + 2 * (n : Int)) = 3 + 2 * (n : Int) := IntWalk.i64_in _ ⟨by omega, by omega⟩
 have hw3 : IntKind.i64.wrap (r * (3 + 2 * (n : Int))) = r * (3 + 2 * (n : Int)) := IntWalk.i64_in _ ⟨by omega, by omega⟩
 have HT : Hid (tgZ ys r = r * (3 + 2 * (n : Int)) + smU ys) := by show _ = _; unfold tgZ; rw [HN.out]
 go_enter Tryz.func133, Tryz.ntmps133
 go_wp2
 generalize r * (3 + 2 * (n : Int)) = F at *
 go_loopw [5, 16] (fun v i wr => ∃ (k : Nat) (T : Int), k ≤ n ∧ i = .int .i64 k ∧ v = .int .i64 T ∧ Hid (F + ((ys.take k).map Prod.snd).sum = T) ∧ Below w.heap.size w wr) (fun _ i _ => n - (intOf i).toNat)
 case atStart => exact ⟨0, F, Nat.zero_le _, rfl, rfl, by show F + _ = F; simp, Below.refl _ _⟩
 case round =>
  obtain ⟨k, T, hk, rfl, rfl, hT, hbl⟩ := hrel
  have hsz := hbl.size
  by_cases hlt : k < n
  ·rcases HX.out with hnil | ⟨gg, off, rfl, hrow⟩
   ·have := HN.out; rw [hnil] at this; simp at this; omega
   obtain ⟨c0, c1⟩ := (hrow.grown hbl) k (by rw [HN.out]; exact hlt)
   have HS : Hid _ := sum_snoc Prod.snd ys (0, 0) k (by rw [HN.out]; exact hlt)
   have hSb := sum_bd Prod.snd 1099511627776 (ys.take k) (fun x hx => HB.out x (List.mem_of_mem_take hx))
   have hyb := HB.out (ys.getD k (0, 0)) (gDM ys (0, 0) k (by rw [HN.out]; exact hlt))
   have hl2 : (ys.take k).length ≤ 100 := by rw [List.length_take]; omega
   have hT2 : 0 ≤ T ∧ T ≤ 120000000000000 := by have := hT.out; omega
   clear hrow hSb hl2
   generalize ys.getD k (0, 0) = y at c0 c1 HS hyb
   obtain ⟨y0, y1⟩ := y
   simp only at c0 c1 hyb
   go_wp2
   go_roundw
   case rel => exact ⟨k + 1, T + y1, by omega, by go_num, rfl, by show _ = _; rw [HS.out, ← Int.add_assoc, hT.out], hbl.alloc hsz _⟩
   case measure => simp [intOf]; omega
  ·have HSe : Hid (tgZ ys r = T) := by show _ = _; rw [HT.out, ← hT.out, List.take_of_length_le (by rw [HN.out]; omega)]; rfl
   go_wp2
   go_ret
   exact ⟨riT HSe.out.symm, hbl⟩
structure Cand (w : World) (b : Nat) (ao : OAd) (c : Nat) (cs : List CoinD) (r : Int) : Prop where
 c0 : w.cell? ⟨b, 0, none⟩ = some (.slice ao cs.length c)
 c1 : w.cell? ⟨b, 1, none⟩ = some (.int .i64 r)
 at_ : RcT CoinD.l w ao cs
theorem Cand.grown (h : Cand w b ao c cs r) (hb : Below w.heap.size w w') : Cand w' b ao c cs r :=
 ⟨(hb.cell (p := ⟨b, 0, none⟩) (clT h.c0)).trans h.c0, (hb.cell (p := ⟨b, 1, none⟩) (clT h.c1)).trans h.c1, h.at_.grown hb⟩
theorem i64_and1 (n : Int) : bits .and .i64 n 1 = n % 2 := by
 have h1 : (BitVec.ofInt 64 1).toNat = 2 ^ 1 - 1 := by decide
 have key : (BitVec.ofInt 64 n &&& BitVec.ofInt 64 1).toNat = (n % ((2 ^ 64 : Nat) : Int)).toNat % 2 ^ 1 := by
  rw [BitVec.toNat_and, BitVec.toNat_ofInt, h1, Nat.and_two_pow_sub_one_eq_mod]
 show IntKind.i64.wrap ((BitVec.ofInt 64 n &&& BitVec.ofInt 64 1).toNat : Nat) = n % 2
 rw [key, IntKind.wrap_i64]
 omega
theorem cHas_any (b : Nat) (ao : OAd) (c : Nat) (cs : List CoinD) (r : Int) (m i : Nat) (w : World) (hc : Cand w b ao c cs r) (hi : i < 8) :
 Calls Tryz.prog 188 #[.pointer (some ⟨b, 0, none⟩), .int .i64 (m : Int), .int .i64 (i : Int)] w fun e w' => e = .returned (.bool (decide (i < cs.length) && bitN m 8 i)) ∧ w = w' := by
 have c0 := hc.c0
 clear hc
 generalize hl : cs.length = n at *
 clear hl
 by_cases h : i < n
 ·have hw1 : IntKind.i64.wrap (7 - (i : Int)) = 7 - (i : Int) := IntWalk.i64_in _ ⟨by omega, by omega⟩
  have h7 : (0 : Int) ≤ 7 - (i : Int) := by omega
  go_enter Tryz.func188, Tryz.ntmps188
  go_wp2
  go_ret
  refine ⟨rbL ?_, rfl⟩
  have e : (m : Int) / 2 ^ (7 - i) % 2 = ((m / 2 ^ (7 - i) % 2 : Nat) : Int) := by push_cast; rfl
  rw [i64_and1, e, decide_eq_true h]
  unfold bitN
  rw [show 8 - 1 - i = 7 - i by omega]
  generalize m / 2 ^ (7 - i) % 2 = t
  by_cases ht : t = 1
  ·subst ht; rfl
  ·have h1 : ((t : Int) == 1) = false := by rw [beq_eq_false_iff_ne]; omega
   have h2 : (t == 1) = false := by rw [beq_eq_false_iff_ne]; exact ht
   rw [h1, h2]; rfl
 ·go_enter Tryz.func188, Tryz.ntmps188
  go_wp2
  go_ret
  exact ⟨rbL (by rw [decide_eq_false h]; rfl), rfl⟩
theorem rangeM_snoc {α : Type} (f : Nat → α) (k : Nat) : (List.range (k + 1)).map f = (List.range k).map f ++ [f k] := by
 rw [List.range_succ, List.map_append]; rfl
theorem keep8 {p : Value} (hb : Below w.heap.size w w') (h : w.cell? ⟨b, 0, none⟩ = some p ∧ w.cell? ⟨b, 1, none⟩ = some q ∧ w.cell? ⟨T, o, none⟩ = some a0 ∧ w.cell? ⟨T, o + 1, none⟩ = some a1 ∧ w.cell? ⟨T, o + 2, none⟩ = some a2 ∧ w.cell? ⟨T, o + 3, none⟩ = some a3 ∧ w.cell? ⟨T, o + 4, none⟩ = some a4 ∧ w.cell? ⟨T, o + 5, none⟩ = some a5) :
 w'.cell? ⟨b, 0, none⟩ = some p ∧ w'.cell? ⟨b, 1, none⟩ = some q ∧ w'.cell? ⟨T, o, none⟩ = some a0 ∧ w'.cell? ⟨T, o + 1, none⟩ = some a1 ∧ w'.cell? ⟨T, o + 2, none⟩ = some a2 ∧ w'.cell? ⟨T, o + 3, none⟩ = some a3 ∧ w'.cell? ⟨T, o + 4, none⟩ = some a4 ∧ w'.cell? ⟨T, o + 5, none⟩ = some a5 := by
 obtain ⟨hp, hq, h0, h1, h2, h3, h4, h5⟩ := h
 have hl := clT h0
 have hl2 := clT hp
 exact ⟨(hb.cell (p := ⟨b, 0, none⟩) hl2).trans hp, (hb.cell (p := ⟨b, 1, none⟩) hl2).trans hq, (hb.cell (p := ⟨T, o, none⟩) hl).trans h0, (hb.cell (p := ⟨T, o + 1, none⟩) hl).trans h1, (hb.cell (p := ⟨T, o + 2, none⟩) hl).trans h2, (hb.cell (p := ⟨T, o + 3, none⟩) hl).trans h3, (hb.cell (p := ⟨T, o + 4, none⟩) hl).trans h4, (hb.cell (p := ⟨T, o + 5, none⟩) hl).trans h5⟩
abbrev CVals (cs : List CoinD) : Prop := ∀ x ∈ cs, 0 ≤ x.val ∧ x.val ≤ 1099511627776
theorem cSum_any (b : Nat) (ao : OAd) (c : Nat) (cs : List CoinD) (r : Int) (m : Nat) (w : World) (hc : Cand w b ao c cs r) (hr : 0 ≤ r ∧ r ≤ 1000) (hv : CVals cs) :
 Calls Tryz.prog 187 #[.pointer (some ⟨b, 0, none⟩), .int .i64 (m : Int)] w fun e w' => (∃ T, e = .returned (.int .i64 T) ∧ T = sumP r cs m ∧ -56000 ≤ T ∧ T ≤ 8796093022208) ∧ Below w.heap.size w w' := by
 have HC := hiD hc
 have HV := hiD hv
 clear hc hv
 go_enter Tryz.func187, Tryz.ntmps187
 go_wp2
 go_loopw [5, 6] (fun v i wr => ∃ (k : Nat) (T : Int), k ≤ 8 ∧ i = .int .i64 k ∧ v = .int .i64 T ∧ Hid (((List.range k).map fun i => if decide (i < cs.length) && bitN m 8 i then wtZ r (cs.getD i dN) else 0).sum = T) ∧ -(7000 * (k : Int)) ≤ T ∧ T ≤ 1099511627776 * (k : Int) ∧ Below w.heap.size w wr) (fun _ i _ => 8 - (intOf i).toNat)
 case atStart => exact ⟨0, 0, Nat.zero_le _, rfl, rfl, rfl, by simp, by simp, Below.refl _ _⟩
 case round =>
  obtain ⟨k, T, hk, rfl, rfl, hT, hT1, hT2, hbl⟩ := hrel
  have hsz := hbl.size
  have HCr := hiD (HC.out.grown hbl)
  by_cases hlt : k < 8
  ·have HS : Hid _ := rangeM_snoc (fun i => if decide (i < cs.length) && bitN m 8 i then wtZ r (cs.getD i dN) else 0) k
   cases hb : (decide (k < cs.length) && bitN m 8 k)
   ·go_wp2_with (go_at_call 188; refine (cHas_any b ao c cs r m k _ HCr hlt).mono ?_; rintro e w' ⟨rfl, rfl⟩; rw [hb])
    go_roundw
    case rel => exact ⟨k + 1, T, by omega, by go_num, rfl, by show _ = _; rw [HS.out, List.sum_append, hT.out, hb]; simp, by push_cast; omega, by push_cast; omega, hbl⟩
    case measure => simp [intOf]; omega
   ·have hkl : k < cs.length := by
     rw [Bool.and_eq_true, decide_eq_true_iff] at hb
     exact hb.1
    have hvk := HV.out (cs.getD k dN) (gDM cs dN k hkl)
    rcases HCr.out.at_ with hnil | ⟨gc, oc, rfl, hrow⟩
    ·rw [hnil] at hkl; simp at hkl
    obtain ⟨e0, e1, e2, e3, e4, e5⟩ := cCS hrow k hkl
    have p0 := HCr.out.c0
    have p1 := HCr.out.c1
    have hkI : (k : Int) < (cs.length : Int) := by omega
    have hk0 : (0 : Int) ≤ (k : Int) := by omega
    clear hrow
    generalize cs.getD k dN = y at *
    obtain ⟨y0, y1, y2, y3, y4, y5⟩ := y
    simp only at e0 e1 e2 e3 e4 e5 hvk
    have hwd : wtZ r ⟨y0, y1, y2, y3, y4, y5⟩ = y3 - 7 * r := rfl
    have HWD := hiD hwd
    have hw : IntKind.i64.wrap (T + (y3 - 7 * r)) = T + (y3 - 7 * r) := IntWalk.i64_in _ ⟨by omega, by omega⟩
    have HKX : Hid (wr.cell? ⟨b, 0, none⟩ = some (.slice (some ⟨gc, oc, none⟩) cs.length c) ∧ wr.cell? ⟨b, 1, none⟩ = some (.int .i64 r) ∧ wr.cell? ⟨gc, oc + k * 6, none⟩ = some (.int .i64 y0) ∧ wr.cell? ⟨gc, oc + k * 6 + 1, none⟩ = some (.int .i64 y1) ∧ wr.cell? ⟨gc, oc + k * 6 + 2, none⟩ = some (.int .i64 y2) ∧ wr.cell? ⟨gc, oc + k * 6 + 3, none⟩ = some (.int .i64 y3) ∧ wr.cell? ⟨gc, oc + k * 6 + 4, none⟩ = some (.int .i64 y4) ∧ wr.cell? ⟨gc, oc + k * 6 + 5, none⟩ = some (.int .i64 y5)) := ⟨p0, p1, e0, e1, e2, e3, e4, e5⟩
    clear hwd
    go_upto_region 6 with (go_at_call 188; refine (cHas_any b (some ⟨gc, oc, none⟩) c cs r m k _ HCr hlt).mono ?_; rintro e w' ⟨rfl, rfl⟩; rw [hb])
    go_region_held3 (fun w' => w'.cell? ⟨b, 0, none⟩ = some (.slice (some ⟨gc, oc, none⟩) cs.length c) ∧ w'.cell? ⟨b, 1, none⟩ = some (.int .i64 r) ∧ w'.cell? ⟨gc, oc + k * 6, none⟩ = some (.int .i64 y0) ∧ w'.cell? ⟨gc, oc + k * 6 + 1, none⟩ = some (.int .i64 y1) ∧ w'.cell? ⟨gc, oc + k * 6 + 2, none⟩ = some (.int .i64 y2) ∧ w'.cell? ⟨gc, oc + k * 6 + 3, none⟩ = some (.int .i64 y3) ∧ w'.cell? ⟨gc, oc + k * 6 + 4, none⟩ = some (.int .i64 y4) ∧ w'.cell? ⟨gc, oc + k * 6 + 5, none⟩ = some (.int .i64 y5)) (first | assumption | go_keep | exact keep8 hb7 HKX) ((go_at_call 186; refine (worth_any ⟨y0, y1, y2, y3, y4, y5⟩ r _ hr hvk).mono ?_; rintro e w7 ⟨rfl, hb7⟩; rw [HWD.out]))
    have hb07 : Below w.heap.size w w7 := hbl.drew.trans (hb7.mono hsz)
    clear HKX e0 e1 e2 e3 e4 e5 p0 p1
    go_wp2
    go_roundw
    case rel => exact ⟨k + 1, T + (y3 - 7 * r), by omega, by go_num, rfl, by show _ = _; rw [HS.out, List.sum_append, hT.out, if_pos hb, HWD.out]; simp, by push_cast; omega, by push_cast; omega, hb07⟩
    case measure => simp [intOf]; omega
  ·have hk8 : k = 8 := by omega
   subst hk8
   go_wp2
   go_ret
   exact ⟨⟨T, rfl, hT.out.symm, by omega, by omega⟩, hbl⟩
theorem cNearest_any (b : Nat) (ao : OAd) (c : Nat) (cs : List CoinD) (r lo hi : Int) (w : World) (hc : Cand w b ao c cs r) (hr : 0 ≤ r ∧ r ≤ 1000) (hv : CVals cs) (hh : 0 ≤ hi ∧ hi ≤ 1000000000000000000) :
 Calls Tryz.prog 135 #[.pointer (some ⟨b, 0, none⟩), .int .i64 lo, .int .i64 hi] w fun e w' => e = .returned (.int .i64 (bestP r cs lo hi : Nat)) ∧ bestP r cs lo hi ≤ 255 ∧ Below w.heap.size w w' := by
 have HC := hiD hc
 have HV := hiD hv
 clear hc hv
 have hw : IntKind.i64.wrap (hi + 1) = hi + 1 := IntWalk.i64_in _ ⟨by omega, by omega⟩
 go_enter Tryz.func135, Tryz.ntmps135
 go_wp2
 go_loopw [7, 8, 9] (fun bv lv i wr => ∃ (k q : Nat) (l : Int), k ≤ 255 ∧ q ≤ 255 ∧ i = .int .i64 k ∧ bv = .int .i64 q ∧ lv = .int .i64 l ∧ Hid ((nearZ (sumP r cs) lo k (q, l)).1 = bestP r cs lo hi) ∧ Below w.heap.size w wr) (fun _ _ i _ => (intOf i).toNat)
 case atStart => exact ⟨255, 0, hi + 1, leR, Nat.zero_le _, rfl, rfl, rfl, rfl, Below.refl _ _⟩
 case round =>
  obtain ⟨k, q, l, hk, hq, rfl, rfl, rfl, hz, hbl⟩ := hrel
  have hsz := hbl.size
  have HCr := hiD (HC.out.grown hbl)
  cases k with
  | zero =>
   have hz' : q = bestP r cs lo hi := hz.out
   have HZ := hiD hz'
   clear hz'
   go_wp2
   go_ret
   rw [← HZ.out]
   exact ⟨rfl, hq, hbl⟩
  | succ k =>
   have hz' := hz.out
   rw [nearZ] at hz'
   have HZ := hiD hz'
   clear hz' hz
   generalize hK : k + 1 = K at *
   have hK0 : 0 < K := by omega
   have hkK : k < K := by omega
   have hk255 : k ≤ 255 := by omega
   have hd0 : decide ((0 : Int) < (K : Int)) = true := by rw [decide_eq_true_iff]; omega
   have hKm : ((K : Int) - 1) = (k : Int) := by omega
   have hw1 : IntKind.i64.wrap ((K : Int) - 1) = (k : Int) := by rw [hKm]; exact IntWalk.i64_in _ ⟨by omega, by omega⟩
   clear hKm hK
   go_wp2_with fail
   refine (cSum_any b ao c cs r K _ HCr hr HV).mono ?_
   rintro e w5 ⟨⟨T, rfl, hT, t1, t2⟩, hb5⟩
   rw [← hT] at HZ
   clear hT
   have hb05 : Below w.heap.size w w5 := hbl.trans (hb5.mono hsz)
   by_cases h1 : lo ≤ T
   ·by_cases h2 : T < l
    ·rw [if_pos ⟨h1, h2⟩] at HZ
     go_wp2
     go_roundw
     case rel => exact ⟨k, K, T, by omega, hk, rfl, rfl, rfl, HZ, hb05⟩
     case measure => simp [intOf]; omega
    ·rw [if_neg (fun h => h2 h.2)] at HZ
     go_wp2
     go_roundw
     case rel => exact ⟨k, q, l, by omega, hq, rfl, rfl, rfl, HZ, hb05⟩
     case measure => simp [intOf]; omega
   ·rw [if_neg (fun h => h1 h.1)] at HZ
    go_wp2
    go_roundw
    case rel => exact ⟨k, q, l, by omega, hq, rfl, rfl, rfl, HZ, hb05⟩
    case measure => simp [intOf]; omega
end
end Go.Proofs.YtffgpepngcnjeabGreat
