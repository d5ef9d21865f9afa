/-
  The chain takes a signed payment, once; refuses it without its seals.
  A signed payment as a transaction; what the chain answers to it.
  Package payments: Abandon.
  Back: sameNames; a payment given up; what a payment is, whatever was paid ahead of it.
  Accepted: what is paid, and what the chain says to it.
  The names of the chain's outputs are right ones; what a payment is, whatever comes.
  copyBlock: a block in lists of its own.
-/
import Derived.Test.YtffgpepngcnjeabGreatQNan
import Derived.Test.YtffgpepngcnjeabGreatQNao
import Derived.Test.YtffgpepngcnjeabGreatQNap
import Derived.Test.YtffgpepngcnjeabGreatQNal
import Derived.Test.YtffgpepngcnjeabGreatQNak
namespace Go.Proofs.YtffgpepngcnjeabGreatQ
open Go.RowKit
/-- the coin that an input names, as the chain looks it up -/
def spOf (xs : List Cel) (i : InD) : SpD := ⟨findZ xs i.id i.pos, (xs.getD (findZ xs i.id i.pos).toNat dC).to, (xs.getD (findZ xs i.id i.pos).toNat dC).val, i.ao, i.n, i.c, i.l⟩
theorem spZ_map (xs : List Cel) : ∀ (ins : List InD) (acc : List SpD), (∀ i ∈ ins, ¬ findZ xs i.id i.pos < 0) → (ins.map fun i => findZ xs i.id i.pos).Nodup → (∀ i ∈ ins, isSp acc (findZ xs i.id i.pos) = false) → spZ xs ins acc = some (acc ++ ins.map (spOf xs)) := by
  intro ins
  induction ins with
  | nil => intro acc _ _ _; simp [spZ]
  | cons i r ih =>
    intro acc h1 h2 h3
    have hi := h3 i List.mem_cons_self
    have hf := h1 i List.mem_cons_self
    rw [List.map_cons, List.nodup_cons] at h2
    rw [spZ, if_neg (by rw [hi]; rintro (e | e); exact hf e; cases e)]
    have he : (⟨findZ xs i.id i.pos, (xs.getD (findZ xs i.id i.pos).toNat dC).to, (xs.getD (findZ xs i.id i.pos).toNat dC).val, i.ao, i.n, i.c, i.l⟩ : SpD) = spOf xs i := rfl
    rw [he, ih (acc ++ [spOf xs i]) (fun j hj => h1 j (List.mem_cons_of_mem _ hj)) h2.2 (fun j hj => ?_), List.map_cons, List.append_assoc]
    · rfl
    · unfold isSp
      rw [List.any_append, Bool.or_eq_false_iff]
      refine ⟨h3 j (List.mem_cons_of_mem _ hj), ?_⟩
      rw [List.any_cons, List.any_nil, Bool.or_false]
      show (findZ xs i.id i.pos == findZ xs j.id j.pos) = false
      rw [beq_eq_false_iff_ne]
      intro e
      exact h2.1 (List.mem_map.2 ⟨j, hj, e.symm⟩)
theorem find_name {xs : List Cel} {a b c d : Int} (h : ¬ findZ xs a b < 0) (e : findZ xs a b = findZ xs c d) : a = c ∧ b = d := by
  rcases findZ_cases xs a b with h1 | ⟨j, _, h2, h3⟩
  · rw [h1] at h; exact absurd (by decide) h
  · rcases findZ_cases xs c d with k1 | ⟨k, _, k2, k3⟩
    · rw [e, k1] at h; exact absurd (by decide) h
    · have hjk : j = k := by omega
      subst hjk
      unfold isCoin at h3 k3
      simp only [Bool.and_eq_true, beq_iff_eq] at h3 k3
      omega
/-- the inputs name coins that stand in the chain, each once -/
structure Stand (xs : List Cel) (ins : List InD) : Prop where
  fd : ∀ i ∈ ins, ¬ findZ xs i.id i.pos < 0
  nd : (ins.map fun i => (i.id, i.pos)).Nodup
theorem Stand.places {xs : List Cel} {ins : List InD} (h : Stand xs ins) : (ins.map fun i => findZ xs i.id i.pos).Nodup := by
  have h1 := h.fd
  have h2 := h.nd
  clear h
  induction ins with
  | nil => exact List.nodup_nil
  | cons i r ih =>
    rw [List.map_cons, List.nodup_cons] at h2 ⊢
    refine ⟨fun e => h2.1 ?_, ih (fun j hj => h1 j (List.mem_cons_of_mem _ hj)) h2.2⟩
    obtain ⟨j, hj, e⟩ := List.mem_map.1 e
    obtain ⟨e1, e2⟩ := find_name (h1 j (List.mem_cons_of_mem _ hj)) e
    exact List.mem_map.2 ⟨j, hj, by rw [e1, e2]⟩
theorem Stand.sp {xs : List Cel} {ins : List InD} (h : Stand xs ins) : spZ xs ins [] = some (ins.map (spOf xs)) := by
  have := spZ_map xs ins [] h.fd h.places (fun _ _ => rfl)
  rwa [List.nil_append] at this
theorem conn_one (h : Int) (xs : List Cel) (x : TxD) (hh : ¬ 40 ≤ h) : connZ h xs [x] = if (addZ xs h x.t x.ins x.ys true).1 ≠ 0 then ((addZ xs h x.t x.ins x.ys true).1, 0, h, tbZ h (addZ xs h x.t x.ins x.ys true).2) else (0, 0, h + 1, (addZ xs h x.t x.ins x.ys true).2) := by
  have hg : connGo h xs [x] 0 = if (addZ xs h x.t x.ins x.ys true).1 ≠ 0 then ((addZ xs h x.t x.ins x.ys true).1, 0, tbZ h (addZ xs h x.t x.ins x.ys true).2) else (0, 0, (addZ xs h x.t x.ins x.ys true).2) := rfl
  unfold connZ
  rw [if_neg hh, if_neg (by show ¬ 6 < 1; omega), hg]
  by_cases e : (addZ xs h x.t x.ins x.ys true).1 ≠ 0
  · rw [if_pos e]
    exact (if_pos e).trans (if_pos e).symm
  · rw [if_neg e]
    exact (if_neg (fun h => h rfl)).trans (if_neg e).symm
theorem und_back {h : Int} {xs : List Cel} (hu : Und h xs) : tbZ h xs = xs := tb_over (over_refl hu.ne)
/-- without seals it is refused -/
theorem conn_raw {h : Int} {xs : List Cel} {x : TxD} (hh : ¬ 40 ≤ h) (hu : Und h xs) (hr : rTx x.t x.ins x.ys = true) (hi : x.ins ≠ []) (hn : hasId xs (idZ x.t x.ins x.ys) = false) (hs : Stand xs x.ins) (hl : ∀ i ∈ x.ins, i.l = []) : connZ h xs [x] = (6, 0, h, xs) := by
  have hop : (x.ins.map (spOf xs)).all (opens (idZ x.t x.ins x.ys)) = false := by
    cases hx : x.ins with
    | nil => exact absurd hx hi
    | cons i r =>
      rw [List.map_cons, List.all_cons, Bool.and_eq_false_iff]
      left
      unfold opens
      rw [show (spOf xs i).l = [] from hl i (by rw [hx]; exact List.mem_cons_self)]
      rfl
  have ha : addZ xs h x.t x.ins x.ys true = (6, xs) := by
    unfold addZ
    rw [if_neg (by rw [hr]; simp), if_neg (by rw [hn]; simp), hs.sp]
    simp only [hop, if_true]
  rw [conn_one h xs x hh, ha, if_pos (by show (6 : Int) ≠ 0; decide), und_back hu]
/-- with them it is taken -/
theorem conn_sealed {h : Int} {xs : List Cel} {x : TxD} (hh : ¬ 40 ≤ h) (hr : rTx x.t x.ins x.ys = true) (hn : hasId xs (idZ x.t x.ins x.ys) = false) (hs : Stand xs x.ins) (ho : ∀ i ∈ x.ins, opens (idZ x.t x.ins x.ys) (spOf xs i) = true) (hv : sumOu x.ys ≤ sumSp (x.ins.map (spOf xs))) : connZ h xs [x] = (0, 0, h + 1, markZ h xs (x.ins.map (spOf xs)) ++ newC (idZ x.t x.ins x.ys) h x.ys x.ys.length) := by
  have hop : (x.ins.map (spOf xs)).all (opens (idZ x.t x.ins x.ys)) = true := by
    rw [List.all_eq_true]
    intro y hy
    obtain ⟨i, hi, rfl⟩ := List.mem_map.1 hy
    exact ho i hi
  have ha : addZ xs h x.t x.ins x.ys true = (0, markZ h xs (x.ins.map (spOf xs)) ++ newC (idZ x.t x.ins x.ys) h x.ys x.ys.length) := by
    unfold addZ
    rw [if_neg (by rw [hr]; simp), if_neg (by rw [hn]; simp), hs.sp]
    simp only [hop]
    rw [if_neg (by simp), if_neg (by rintro ⟨_, e⟩; omega)]
  rw [conn_one h xs x hh, ha, if_neg (fun h => h rfl)]
/-- the outputs behind it -/
def takenC (h id : Int) (xs : List Cel) (ins : List InD) (ys : List (Int × Int)) : List Cel := markZ h xs (ins.map (spOf xs)) ++ newC id h ys ys.length
/-- marks change what is spent alone -/
theorem mark_get (h : Int) : ∀ (ss : List SpD) (xs : List Cel) (k : Nat), ((markZ h xs ss).getD k dC = xs.getD k dC ∧ ∀ s ∈ ss, s.pl.toNat ≠ k) ∨ (k < xs.length ∧ (markZ h xs ss).getD k dC = (xs.getD k dC).sp h) ∨ (xs.length ≤ k) := by
  intro ss
  induction ss with
  | nil => intro xs k; exact Or.inl ⟨rfl, fun s hs => (by cases hs)⟩
  | cons s r ih =>
    intro xs k
    by_cases hk : xs.length ≤ k
    · exact Or.inr (Or.inr hk)
    · have hk' : k < xs.length := by omega
      rw [markZ]
      have hset : (xs.set s.pl.toNat ((xs.getD s.pl.toNat dC).sp h)).getD k dC = if s.pl.toNat = k then (xs.getD k dC).sp h else xs.getD k dC := by
        by_cases e : s.pl.toNat = k
        · rw [if_pos e, e, List.getD_eq_getElem?_getD, List.getElem?_set_self hk']; rfl
        · rw [if_neg e, List.getD_eq_getElem?_getD, List.getElem?_set_ne e, ← List.getD_eq_getElem?_getD]
      rcases ih (xs.set s.pl.toNat ((xs.getD s.pl.toNat dC).sp h)) k with ⟨h1, h2⟩ | ⟨h1, h2⟩ | h1
      · rw [hset] at h1
        by_cases e : s.pl.toNat = k
        · rw [if_pos e] at h1
          exact Or.inr (Or.inl ⟨hk', h1⟩)
        · rw [if_neg e] at h1
          refine Or.inl ⟨h1, fun t ht => ?_⟩
          rcases List.mem_cons.1 ht with rfl | ht
          · exact e
          · exact h2 t ht
      · refine Or.inr (Or.inl ⟨hk', ?_⟩)
        rw [h2, hset]
        by_cases e : s.pl.toNat = k
        · rw [if_pos e]; rfl
        · rw [if_neg e]
      · rw [List.length_set] at h1; omega
/-- no two coins of one name -/
def Uq (xs : List Cel) : Prop := ∀ (a b : Int) (j k : Nat), j < xs.length → k < xs.length → isCoin a b (xs.getD j dC) = true → isCoin a b (xs.getD k dC) = true → j = k
theorem own_cel {xs : List Cel} {s : Int} {g : Nat} {y : CoinD} (hy : y ∈ ownOf xs s g) : ∃ x ∈ xs, x.spent = -1 ∧ y.id = x.id ∧ y.pos = x.pos := by
  rcases own_src (keysZ xs s g) (coinsC xs) [] y hy with e | ⟨c, hc, k, hk, _, rfl⟩
  · cases e
  · obtain ⟨x, hx, rfl⟩ := List.mem_map.1 hc
    have := (List.mem_filter.1 hx).2
    rw [beq_iff_eq] at this
    exact ⟨x, (List.mem_filter.1 hx).1, this, rfl, rfl⟩
theorem taken_gone {h id s : Int} {g : Nat} {xs : List Cel} {ins : List InD} {ys : List (Int × Int)} (hh : h ≠ -1) (hs : Stand xs ins) (hq : Uq xs) (hn : hasId xs id = false) : (!(ins.any fun i => namedB (ownOf (takenC h id xs ins ys) s g) i.id i.pos)) = true := by
  rw [Bool.not_eq_true', List.any_eq_false]
  intro i hi e
  unfold namedB at e
  rw [List.any_eq_true] at e
  obtain ⟨y, hy, e⟩ := e
  rw [Bool.and_eq_true, beq_iff_eq, beq_iff_eq] at e
  obtain ⟨x, hx, hsp, e1, e2⟩ := own_cel hy
  have hfi := hs.fd i hi
  rcases findZ_cases xs i.id i.pos with f1 | ⟨j, hj, f2, f3⟩
  · rw [f1] at hfi; exact hfi (by decide)
  · unfold takenC at hx
    rcases List.mem_append.1 hx with hx | hx
    · obtain ⟨k, hk, rfl⟩ := mem_getD dC hx
      rw [markZ_len] at hk
      rcases mark_get h (ins.map (spOf xs)) xs k with ⟨m1, m2⟩ | ⟨_, m1⟩ | m1
      · rw [m1] at hsp e1 e2
        have hc : isCoin i.id i.pos (xs.getD k dC) = true := by
          unfold isCoin
          rw [hsp, ← e1, ← e2, e.1, e.2]
          simp
        have hjk := hq _ _ j k hj hk f3 hc
        have := m2 (spOf xs i) (List.mem_map.2 ⟨i, hi, rfl⟩)
        apply this
        show (findZ xs i.id i.pos).toNat = k
        omega
      · rw [m1] at hsp
        exact hh hsp
      · omega
    · unfold newC at hx
      obtain ⟨k, _, rfl⟩ := List.mem_map.1 hx
      have hid : id = i.id := by rw [← e.1, e1]
      unfold isCoin at f3
      rw [Bool.and_eq_true, beq_iff_eq] at f3
      unfold hasId at hn
      rw [List.any_eq_false] at hn
      have := hn _ (getD_mem xs dC j hj)
      rw [f3.1, hid] at this
      exact this (by simp)
/-- the coins of a payment that stands, by its inputs -/
theorem stand_of {xs : List Cel} {cs : List CoinD} {ins : List InD} (hall : hasAllZ xs cs = true) (hnd : (cs.map fun x => (x.id, x.pos)).Nodup) (he : (ins.map fun i => (i.id, i.pos)) = cs.map fun x => (x.id, x.pos)) : Stand xs ins := by
  refine ⟨fun i hi => ?_, by rw [he]; exact hnd⟩
  have hm : (i.id, i.pos) ∈ cs.map fun x => (x.id, x.pos) := by rw [← he]; exact List.mem_map.2 ⟨i, hi, rfl⟩
  obtain ⟨x, hx, e⟩ := List.mem_map.1 hm
  unfold hasAllZ at hall
  rw [Bool.not_eq_true', List.any_eq_false] at hall
  have := hall x hx
  rw [Bool.not_eq_true', Bool.not_eq_false] at this
  unfold hasCoinZ at this
  injection e with e1 e2
  rw [e1, e2] at this
  intro hlt
  rw [if_pos hlt] at this
  cases this
theorem stand_coin {xs : List Cel} {cs : List CoinD} (hall : hasAllZ xs cs = true) {x : CoinD} (hx : x ∈ cs) : (xs.getD (findZ xs x.id x.pos).toNat dC).to = x.tt ∧ (xs.getD (findZ xs x.id x.pos).toNat dC).val = x.val := by
  unfold hasAllZ at hall
  rw [Bool.not_eq_true', List.any_eq_false] at hall
  have := hall x hx
  rw [Bool.not_eq_true', Bool.not_eq_false] at this
  unfold hasCoinZ at this
  by_cases hlt : findZ xs x.id x.pos < 0
  · rw [if_pos hlt] at this; cases this
  · rw [if_neg hlt, Bool.and_eq_true, beq_iff_eq, beq_iff_eq] at this
    exact this
end Go.Proofs.YtffgpepngcnjeabGreatQ

namespace Go.Proofs.YtffgpepngcnjeabGreatQ
open Go.RowKit
/-- a sealed input -/
def sgIn (s id : Int) (q : CoinD × Nat) : InD := ⟨q.1.id, q.1.pos, some ⟨q.2, 0, none⟩, 5, 5, Mk.sealL s q.1.br q.1.ix id⟩
/-- the same, whatever lies where -/
def sgI0 (s id : Int) (x : CoinD) : InD := ⟨x.id, x.pos, none, 5, 0, Mk.sealL s x.br x.ix id⟩
def dQ : CoinD × Nat := (dN, 0)
theorem seal_isS (s b i id : Int) : isS (Mk.sealL s b i id) = true := by
  unfold isS allM
  rw [Mk.sealL_len, Bool.and_eq_true, List.all_eq_true]
  exact ⟨rfl, fun x hx => (Mk.isM_iff _).2 (Mk.sealL_bd s b i id x hx)⟩
theorem sgIn_st (s id : Int) (L : List (CoinD × Nat)) : (L.map (sgIn s id)).map InD.st = (L.map Prod.fst).map (sgI0 s id) := by
  rw [List.map_map, List.map_map]
  rfl
theorem SgTx.lens {base : Nat} {s : Int} {p : PayD} {ai ap : Option Addr} {ni ci np cp : Nat} {L : List (CoinD × Nat)} {w : World} (h : SgTx base s p (.slice ai ni ci) (.slice ap np cp) L w) : L.length = ni ∧ p.cs.length = ni ∧ p.ys.length = np := by
  obtain ⟨a1, c1, e1, _⟩ := OwnRec.at sn3 h.own
  obtain ⟨a2, c2, e2, _⟩ := OwnRec.at kv2 h.oo
  injection e1 with _ e1 _
  injection e2 with _ e2 _
  have := congrArg List.length h.fst
  rw [List.length_map] at this
  exact ⟨e1.symm, by omega, e2.symm⟩
theorem SgTx.insAt {base : Nat} {s : Int} {p : PayD} {ai : Option Addr} {ni ci : Nat} {vo : Value} {L : List (CoinD × Nat)} {w : World} (h : SgTx base s p (.slice ai ni ci) vo L w) : InsAt w ai (L.map (sgIn s p.id)) := by
  obtain ⟨a1, c1, e1, hr⟩ := OwnRec.at sn3 h.own
  injection e1 with e1 _ _
  subst e1
  rcases hr with h0 | ⟨b, off, e, hr⟩
  · exact Or.inl (by rw [h0]; rfl)
  · refine Or.inr ⟨b, off, e, fun j hj => ?_⟩
    rw [List.length_map] at hj
    have eg : (L.map (sgIn s p.id)).getD j dIn = sgIn s p.id (L.getD j dQ) := by simp [List.getD, hj]
    rw [eg]
    exact ⟨⟨rcell sn3 dQ hr j hj 0 (by omega), rcell sn3 dQ hr j hj 1 (by omega), rcell sn3 dQ hr j hj 2 (by omega)⟩, ⟨Or.inr ⟨_, _, rfl, (h.row _ (getD_mem L dQ j hj)).1⟩, Mk.sealL_len _ _ _ _, by show (5 : Nat) ≤ _; omega, fun e => (by cases e)⟩⟩
theorem SgTx.outsAt {base : Nat} {s : Int} {p : PayD} {ap : Option Addr} {np cp : Nat} {vi : Value} {L : List (CoinD × Nat)} {w : World} (h : SgTx base s p vi (.slice ap np cp) L w) : OutsAt w ap p.ys := by
  obtain ⟨a1, c1, e1, hr⟩ := OwnRec.at kv2 h.oo
  injection e1 with e1 _ _
  subst e1
  exact rec_outs hr
theorem SgTx.fr {E : Nat → Prop} {base : Nat} {s : Int} {p : PayD} {vi vo : Value} {L : List (CoinD × Nat)} {w w' : World} (h : SgTx base s p vi vo L w) (hf : Fr E w w') (hE : ∀ k, base ≤ k → ¬ E k) : SgTx base s p vi vo L w' := by
  refine ⟨h.fst, hf.own h.own (fun k hk => hE k (h.own.blk k hk).1), fun q hq => ?_, h.nv, h.nd, hf.own h.oo (fun k hk => hE k (h.oo.blk k hk).1), h.ne⟩
  obtain ⟨h1, h2, h3, h4⟩ := h.row q hq
  exact ⟨fun j hj => hf.cell (h1 j hj) (hE _ h3), fun j hj => (hf.frozen h4 (hE _ h3)).trans (h2 j hj), h3, Nat.lt_of_lt_of_le h4 hf.size⟩
theorem SgTx.grown {base : Nat} {s : Int} {p : PayD} {vi vo : Value} {L : List (CoinD × Nat)} {w w' : World} (h : SgTx base s p vi vo L w) (hb : Below w.heap.size w w') : SgTx base s p vi vo L w' := h.fr (Fr.of_below hb (fun _ => False)) (fun _ _ h => h)
theorem rTx_seal {t s id : Int} {cs : List CoinD} {ys : List (Int × Int)} (h : rTx t (cs.map fun x => (⟨x.id, x.pos, none, 0, 0, []⟩ : InD)) ys = true) : rTx t (cs.map (sgI0 s id)) ys = true := by
  unfold rTx rIns at h ⊢
  simp only [Bool.and_eq_true, decide_eq_true_iff, List.all_eq_true, List.length_map] at h ⊢
  refine ⟨h.1, ⟨h.2.1.1, fun x hx => ?_⟩, h.2.2⟩
  obtain ⟨c, hc, rfl⟩ := List.mem_map.1 hx
  have := h.2.1.2 _ (List.mem_map.2 ⟨c, hc, rfl⟩)
  unfold rIn at this ⊢
  simp only [Bool.and_eq_true, Bool.or_eq_true] at this ⊢
  exact ⟨this.1, this.2.1, Or.inr (seal_isS _ _ _ _)⟩
theorem id_seal {t s id : Int} {cs : List CoinD} {ys : List (Int × Int)} (h : rTx t (cs.map fun x => (⟨x.id, x.pos, none, 0, 0, []⟩ : InD)) ys = true) : idZ t (cs.map (sgI0 s id)) ys = idZ t (cs.map fun x => (⟨x.id, x.pos, none, 0, 0, []⟩ : InD)) ys := by
  have e : inL (cs.map (sgI0 s id)) = inL (cs.map fun x => (⟨x.id, x.pos, none, 0, 0, []⟩ : InD)) := by
    unfold inL
    rw [List.flatMap_map, List.flatMap_map]
    rfl
  unfold idZ idL
  rw [if_pos h, if_pos (rTx_seal h), e, List.length_map, List.length_map]
theorem cel_uq {xs : List Cel} (h : (xs.map Cel.nm).Nodup) : Uq xs := by
  intro a b j k hj hk h1 h2
  unfold isCoin at h1 h2
  simp only [Bool.and_eq_true, beq_iff_eq] at h1 h2
  unfold List.Nodup at h
  rw [List.pairwise_map, List.pairwise_iff_getElem] at h
  have e1 : xs.getD j dC = xs[j] := by simp [List.getD, hj]
  have e2 : xs.getD k dC = xs[k] := by simp [List.getD, hk]
  rw [e1] at h1
  rw [e2] at h2
  have en : Cel.nm xs[j] = Cel.nm xs[k] := by
    unfold Cel.nm
    rw [h1.1, h1.2.1, h2.1, h2.2.1]
  rcases Nat.lt_trichotomy j k with hlt | he | hgt
  · exact absurd en (h j k hj hk hlt)
  · exact he
  · exact absurd en.symm (h k j hk hj hgt)
/-- what the chain answers to a payment and its signed form -/
structure ChSay (h : Int) (xs : List Cel) (s : Int) (g : Nat) (p : PayD) : Prop where
  raw : ∀ x : TxD, x.t = p.tag → x.ins.map InD.st = (p.cs.map fun c => (⟨c.id, c.pos, none, 0, 0, []⟩ : InD)) → x.ys = p.ys → connZ h xs [x] = (6, 0, h, xs)
  tk : ∀ x : TxD, x.t = p.tag → x.ins.map InD.st = p.cs.map (sgI0 s p.id) → x.ys = p.ys → connZ h xs [x] = (0, 0, h + 1, takenC h p.id xs (p.cs.map (sgI0 s p.id)) p.ys)
  gone : (!((p.cs.map (sgI0 s p.id)).any fun i => namedB (ownOf (takenC h p.id xs (p.cs.map (sgI0 s p.id)) p.ys) s g) i.id i.pos)) = true
theorem conn_k1 {h : Int} {xs : List Cel} {x y : TxD} (ht : x.t = y.t) (hi : x.ins.map InD.st = y.ins.map InD.st) (hy : x.ys = y.ys) : connZ h xs [x] = connZ h xs [y] := by
  apply connZ_k
  simp only [List.map_cons, List.map_nil]
  unfold TxD.k
  rw [ht, hi, hy]
theorem names_i0 (s id : Int) (cs : List CoinD) : ((cs.map (sgI0 s id)).map fun i => (i.id, i.pos)) = cs.map fun x => (x.id, x.pos) := by
  rw [List.map_map]
  rfl
theorem ch_say {h s : Int} {g : Nat} {xs : List Cel} {p : PayD} (hh : 0 ≤ h ∧ h < 40) (hu : Und h xs) (hq : Uq xs) (hcs : p.cs ≠ []) (hr : rTx p.tag (p.cs.map fun x => (⟨x.id, x.pos, none, 0, 0, []⟩ : InD)) p.ys = true) (hn : hasId xs p.id = false) (hall : hasAllZ xs p.cs = true) (hnd : (p.cs.map fun x => (x.id, x.pos)).Nodup) (had : ∀ x ∈ p.cs, x.tt = Mk.adr s x.br x.ix) (hv : sumOu p.ys ≤ sumC p.cs) : ChSay h xs s g p := by
  have hst : Stand xs (p.cs.map (sgI0 s p.id)) := stand_of hall hnd (names_i0 s p.id p.cs)
  have hid : idZ p.tag (p.cs.map (sgI0 s p.id)) p.ys = p.id := id_seal hr
  refine ⟨fun x h1 h2 h3 => ?_, fun x h1 h2 h3 => ?_, taken_gone (by omega) hst hq hn⟩
  · have e0 : (p.cs.map fun c => (⟨c.id, c.pos, none, 0, 0, []⟩ : InD)).map InD.st = p.cs.map fun c => (⟨c.id, c.pos, none, 0, 0, []⟩ : InD) := by rw [List.map_map]; rfl
    have := conn_k1 (h := h) (xs := xs) (x := x) (y := ⟨p.tag, none, 0, 0, none, 0, 0, p.cs.map fun c => (⟨c.id, c.pos, none, 0, 0, []⟩ : InD), p.ys⟩) h1 (by rw [h2]; exact e0.symm) h3
    rw [this]
    refine conn_raw (by omega) hu hr (by simpa using hcs) hn (stand_of hall hnd (by rw [List.map_map]; rfl)) (fun i hi => ?_)
    obtain ⟨c, _, rfl⟩ := List.mem_map.1 hi
    rfl
  · have e0 : (p.cs.map (sgI0 s p.id)).map InD.st = p.cs.map (sgI0 s p.id) := by rw [List.map_map]; rfl
    have := conn_k1 (h := h) (xs := xs) (x := x) (y := ⟨p.tag, none, 0, 0, none, 0, 0, p.cs.map (sgI0 s p.id), p.ys⟩) h1 (by rw [h2]; exact e0.symm) h3
    rw [this]
    have hc := conn_sealed (h := h) (xs := xs) (x := ⟨p.tag, none, 0, 0, none, 0, 0, p.cs.map (sgI0 s p.id), p.ys⟩) (by omega) (rTx_seal hr) (by show hasId xs (idZ p.tag (p.cs.map (sgI0 s p.id)) p.ys) = false; rw [hid]; exact hn) hst (fun i hi => ?_) ?_
    · rw [hc]
      show (_, _, _, markZ h xs ((p.cs.map (sgI0 s p.id)).map (spOf xs)) ++ newC (idZ p.tag (p.cs.map (sgI0 s p.id)) p.ys) h p.ys p.ys.length) = _
      rw [hid]
      rfl
    · show opens (idZ p.tag (p.cs.map (sgI0 s p.id)) p.ys) (spOf xs i) = true
      rw [hid]
      obtain ⟨c, hc, rfl⟩ := List.mem_map.1 hi
      unfold opens
      rw [Bool.and_eq_true, beq_iff_eq]
      refine ⟨seal_isS _ _ _ _, ?_⟩
      show Mk.opn p.id (Mk.sealL s c.br c.ix p.id) = (xs.getD (findZ xs c.id c.pos).toNat dC).to
      rw [Mk.opn_seal _ _ _ _ _ rfl, (stand_coin hall hc).1, had c hc]
    · show sumOu p.ys ≤ sumSp ((p.cs.map (sgI0 s p.id)).map (spOf xs))
      have e : sumSp ((p.cs.map (sgI0 s p.id)).map (spOf xs)) = sumC p.cs := by
        unfold sumSp sumC
        rw [List.map_map, List.map_map]
        congr 1
        apply List.map_congr_left
        intro c hc
        show (xs.getD (findZ xs c.id c.pos).toNat dC).val = c.val
        exact (stand_coin hall hc).2
      rw [e]
      exact hv
end Go.Proofs.YtffgpepngcnjeabGreatQ

namespace Go.Proofs.YtffgpepngcnjeabGreatQ
open Go.RowKit
/-- those that are left when the payment of a number is given up -/
def leftZ (ps : List PayD) (k : Int) : List PayD := ps.filter fun p => p.num != k
/-- what Abandon leaves: the error, the list -/
def AbOk (N : Nat → Prop) (b o base : Nat) (vs : Value) (md nx : Int) (ps : List PayD) (ks : List (Int × Int)) (k : Int) (er : Int) (w w' : World) : Prop :=
  ((leftZ ps k).length = ps.length ∧ er = 11 ∧ Below w.heap.size w w') ∨ ((leftZ ps k).length ≠ ps.length ∧ er = 0 ∧ ∃ vl', LsAt N w' b o base vl' vs md nx (leftZ ps k) ks ∧ Fr (fun q => q = b) w w' ∧ (∀ q, vl'.ownBlock = some q → w.heap.size ≤ q) ∧ (∀ j, j ≠ o → w'.cell? ⟨b, j, none⟩ = w.cell? ⟨b, j, none⟩))
theorem LsAt.swap {N : Nat → Prop} {w : World} {b o base : Nat} {vl vs : Value} {md nx : Int} {ps : List PayD} {ks : List (Int × Int)} (h : LsAt N w b o base vl vs md nx ps ks) {w1 : World} {v : Value} {qs : List PayD} (hb : Below w.heap.size w w1) (hbs : base ≤ w.heap.size) (hown : OwnRec PayD.v 159 5 w1 w.heap.size v qs) (hq : ∀ p ∈ qs, p ∈ ps) : LsAt N (w1.setCell ⟨b, o, none⟩ v) b o base v vs md nx qs ks := by
  have h1 := h.grown hb
  have hnb := h.nb
  have hbl : b < w.heap.size := cell_lt h.c0
  have hf : Fr (fun k => k = b) w1 (w1.setCell ⟨b, o, none⟩ v) := (Fr.refl _ w1).set b o _ (fun _ => rfl)
  have hvb : ∀ q, v.ownBlock = some q → w.heap.size ≤ q := fun q hq => (hown.blk q hq).1
  refine ⟨ss h1.c0, so h1.c1 (by omega), so h1.c2 (by omega), so h1.c3 (by omega), fun j => by rw [World.frozen?_setCell]; exact h1.fz j, owns_lower (own_set hown _ _ _ (fun e => by have := hvb _ e; omega)) hbs, own_set h1.os _ _ _ (fun e => by have := (h1.os.blk _ e).1; omega), fun p hp => (h1.ok p (hq p hp)).fr hf (fun k hk => (h1.nN k hk).2.1), h1.nb, fun k hk e => ?_, fun k hk => ⟨by simpa using (h1.nN k hk).1, (h1.nN k hk).2.1, fun e => ?_, (h1.nN k hk).2.2.2⟩⟩
  · have := hvb k hk
    have := (h.os.blk k e).2
    omega
  · have := hvb k e
    have := (h.nN k hk).1
    omega
set_option maxRecDepth 100000 in
set_option maxHeartbeats 2000000 in
theorem lAbandon_any (N : Nat → Prop) (b o base : Nat) (vl vs : Value) (md nx : Int) (ps : List PayD) (ks : List (Int × Int)) (k : Int) (w : World) (hL : LsAt N w b o base vl vs md nx ps ks) (hbs : base ≤ w.heap.size) (hpl : ps.length ≤ 1000000000000) :
    Calls Tryz.prog 48 #[.pointer (some ⟨b, o, none⟩), .int .i64 k] w fun e w' => ∃ er, e = .returned (.int .i64 er) ∧ AbOk N b o base vs md nx ps ks k er w w' := by
  obtain ⟨ao, c, ev, hat⟩ := OwnRec.at pay5 hL.ol
  subst ev
  have HL : Hid (LsAt N w b o base (.slice ao ps.length c) vs md nx ps ks) := hL
  have HA : Hid (RecAt PayD.v w ao ps) := hat
  have c0 := hL.c0
  have cf := hL.fz o
  have hbl : b < w.heap.size := cell_lt c0
  clear hL hat
  generalize hn : ps.length = n at *
  have HN : Hid (ps.length = n) := hn
  clear hn
  generalize hB : w.heap.size = B at *
  have HB : Hid (w.heap.size = B) := hB
  clear hB
  go_enter Tryz.func48, Tryz.ntmps48
  go_wp2
  go_loopw [5, 13] (fun v i wr => ∃ j : Nat, j ≤ n ∧ i = .int .i64 j ∧ OwnRec PayD.v 159 5 wr B v (leftZ (ps.take j) k) ∧ Below B w wr) (fun _ i _ => n - (intOf i).toNat)
  case atStart => exact ⟨0, Nat.zero_le _, rfl, OwnRec.nil _ _ _ _ _, Below.refl _ _⟩
  case round =>
    obtain ⟨j, hj, rfl, hown, hbl2⟩ := hrel
    have hsz := hbl2.size
    rw [HB.out] at hsz
    have d0 := (hbl2.cell (p := ⟨b, o, none⟩) hbl).trans c0
    have df := (hbl2.frozen (p := ⟨b, o, none⟩) hbl).trans cf
    by_cases hlt : j < n
    · rcases HA.out with hnil | ⟨gg, off, rfl, hrow⟩
      · have := HN.out; rw [hnil] at this; simp at this; omega
      obtain ⟨e0, e1, e2, e3, e4⟩ := payCells (hrow.grown (by rw [HB.out]; exact hbl2)) j (by rw [HN.out]; exact hlt)
      have HS : Hid _ := filter_snoc (fun p : PayD => p.num != k) ps dP j (by rw [HN.out]; exact hlt)
      have HLN : Hid ((leftZ (ps.take j) k).length ≤ 1000000000000) := by show _ ≤ _; have := List.length_filter_le (fun p : PayD => p.num != k) (ps.take j); rw [List.length_take] at this; unfold leftZ; omega
      have HLE : Hid (leftZ (ps.take j) k = (ps.take j).filter fun p => p.num != k) := rfl
      have HO : Hid (OwnRec PayD.v 159 5 wr B u5 (leftZ (ps.take j) k)) := hown
      have HLS : Hid (leftZ (ps.take (j + 1)) k = (ps.take (j + 1)).filter fun p => p.num != k) := rfl
      clear hrow hown
      rw [← HLE.out] at HS
      generalize ps.getD j dP = y at *
      generalize leftZ (ps.take j) k = acc at *
      obtain ⟨y0, y1, y2, y3, y4, y5, y6, y7, y8, y9, y10⟩ := y
      simp only at e0 e1 e2 e3 e4
      cases hk : (y0 != k)
      · have HR : Hid (leftZ (ps.take (j + 1)) k = acc) := by show _ = _; rw [HLS.out, HS.out, hk, if_neg (by simp), List.append_nil]
        go_wp2
        go_roundw
        case rel => exact ⟨j + 1, by omega, by go_num, by rw [HR.out]; exact HO.out.alloc _, hbl2.alloc (by omega) _⟩
        case measure => simp [intOf]; omega
      · have HR : Hid (leftZ (ps.take (j + 1)) k = acc ++ [⟨y0, y1, y2, y3, y4, y5, y6, y7, y8, y9, y10⟩]) := by show _ = _; rw [HLS.out, HS.out, hk, if_pos rfl]
        have hO1 := HO.out.alloc (.cells #[.int .i64 y0, .slice y1 y2 y3, .slice y4 y5 y6, .int .i64 y7, .bool y8] 159)
        have HO1 : Hid (OwnRec PayD.v 159 5 (wr.alloc (.cells #[.int .i64 y0, .slice y1 y2 y3, .slice y4 y5 y6, .int .i64 y7, .bool y8] 159)) B u5 acc) := hO1
        have hb1 := hbl2.alloc (show B ≤ wr.heap.size by omega) (.cells #[.int .i64 y0, .slice y1 y2 y3, .slice y4 y5 y6, .int .i64 y7, .bool y8] 159)
        have h5 := P5.new wr (.int .i64 y0) (.slice y1 y2 y3) (.slice y4 y5 y6) (.int .i64 y7) (.bool y8) 159
        obtain ⟨z0, z1, z2, z3, z4, _⟩ := h5
        clear hO1
        go_upto_region 5 with fail
        have hz1 : (wr.alloc (.cells #[.int .i64 y0, .slice y1 y2 y3, .slice y4 y5 y6, .int .i64 y7, .bool y8] 159)).heap.size = wr.heap.size + 1 := by simp
        have hBz : B ≤ (wr.alloc (.cells #[.int .i64 y0, .slice y1 y2 y3, .slice y4 y5 y6, .int .i64 y7, .bool y8] 159)).heap.size := by omega
        clear hz1 e0 e1 e2 e3 e4
        generalize wr.alloc (.cells #[.int .i64 y0, .slice y1 y2 y3, .slice y4 y5 y6, .int .i64 y7, .bool y8] 159) = w1 at *
        generalize wr.heap.size = X at *
        go_wp2_with (at_builtin; refine wpList_appR 98 72 _ Tryz.underlying98 info159 rfl (by decide) pay5 pay_one (w1.alloc (.cells #[.int .i64 y0, .slice y1 y2 y3, .slice y4 y5 y6, .int .i64 y7, .bool y8] 159)) rfl _ _ rfl B w1.heap.size 1 u5 acc ⟨y0, y1, y2, y3, y4, y5, y6, y7, y8, y9, y10⟩ (by rfl) (by rfl) (HO1.out.alloc _) (vrow_new _ _ _) (by simp; omega) (by have := HLN.out; unfold maxLen; omega) (by have := HLN.out; omega) ?_; intro g' cap w5 hown5 hg5 _ _)
        go_roundw
        case rel => exact ⟨j + 1, by omega, by go_num, by rw [HR.out]; exact hown5, hb1.trans (gb_to_below (gb_trans (gb_alloc _ _ _) hg5) (by omega) (fun r hr => (HO1.out.blk r hr).1))⟩
        case measure => simp [intOf]; omega
    · have HE : Hid (ps.take j = ps) := by show _ = _; rw [List.take_of_length_le (by rw [HN.out]; omega)]
      rw [HE.out] at hown
      obtain ⟨a2, c2, e2, _⟩ := OwnRec.at pay5 hown
      subst e2
      have HO : Hid (OwnRec PayD.v 159 5 wr B (.slice a2 (leftZ ps k).length c2) (leftZ ps k)) := hown
      have HBW : Hid (Below B w wr) := hbl2
      have HQ : Hid (∀ p ∈ leftZ ps k, p ∈ ps) := fun p hp => (List.mem_filter.1 hp).1
      have HAB : Hid (∀ er w', AbOk N b o base vs md nx ps ks k er w w' ↔ (((leftZ ps k).length = n ∧ er = 11 ∧ Below B w w') ∨ ((leftZ ps k).length ≠ n ∧ er = 0 ∧ ∃ vl', LsAt N w' b o base vl' vs md nx (leftZ ps k) ks ∧ Fr (fun q => q = b) w w' ∧ (∀ q, vl'.ownBlock = some q → B ≤ q) ∧ (∀ j, j ≠ o → w'.cell? ⟨b, j, none⟩ = w.cell? ⟨b, j, none⟩)))) := fun er w' => by unfold AbOk; rw [HN.out, HB.out]
      clear hown
      generalize leftZ ps k = qs at *
      generalize hql : qs.length = ql at *
      by_cases hq : ql = n
      · subst hq
        go_wp2
        go_ret
        exact ⟨11, rfl, (HAB.out _ _).2 (Or.inl ⟨by first | rfl | trivial, rfl, HBW.out⟩)⟩
      · have hqI : ((ql : Int) == (n : Int)) = false := by rw [beq_eq_false_iff_ne]; omega
        have HF : Hid (LsAt N (wr.setCell ⟨b, o, none⟩ (.slice a2 ql c2)) b o base (.slice a2 ql c2) vs md nx qs ks) := HL.out.swap (by rw [HB.out]; exact HBW.out) (by rw [HB.out]; exact hbs) (by rw [HB.out]; exact HO.out) HQ.out
        have HFr : Hid (Fr (fun q => q = b) w (wr.setCell ⟨b, o, none⟩ (.slice a2 ql c2))) := (Fr.of_below (by rw [HB.out]; exact HBW.out) _).set b o _ (fun _ => rfl)
        have HCJ : Hid (∀ j, j ≠ o → (wr.setCell ⟨b, o, none⟩ (.slice a2 ql c2)).cell? ⟨b, j, none⟩ = w.cell? ⟨b, j, none⟩) := fun j hj => by
          rw [cell_oth _ _ _ _ _ (fun e => hj e.symm)]
          exact HBW.out.cell (p := ⟨b, j, none⟩) hbl
        go_wp2
        go_ret
        exact ⟨0, rfl, (HAB.out _ _).2 (Or.inr ⟨hq, rfl, _, HF.out, HFr.out, fun q hq2 => (HO.out.blk q hq2).1, HCJ.out⟩)⟩
set_option maxRecDepth 100000 in
set_option maxHeartbeats 1000000 in
theorem pAbandon_any (N : Nat → Prop) (P : Nat) (s : Int) (g : Nat) (v : Value) (h : Int) (xs : List Cel) (vl vs : Value) (md nx : Int) (ps : List PayD) (ks : List (Int × Int)) (k : Int) (w : World) (u : PP N w P s g v h xs vl vs md nx ps ks) (hpl : ps.length ≤ 1000000000000) :
    Calls Tryz.prog 20 #[.pointer (some ⟨P, 0, none⟩), .int .i64 k] w fun e w' => ∃ er, e = .returned (.int .i64 er) ∧ AbOk N P 4 (P + 1) vs md nx ps ks k er w w' := by
  have HL : Hid (LsAt N w P 4 (P + 1) vl vs md nx ps ks) := u.ls
  have hb : P + 1 ≤ w.heap.size := cell_lt u.ls.c0
  clear u
  go_enter Tryz.func20, Tryz.ntmps20
  go_wp2_with fail
  refine (lAbandon_any N P 4 (P + 1) vl vs md nx ps ks k _ HL.out hb hpl).mono ?_
  rintro e w1 ⟨er, rfl, hr⟩
  have HR : Hid (AbOk N P 4 (P + 1) vs md nx ps ks k er w w1) := hr
  clear hr
  go_wp2
  go_ret
  exact ⟨er, rfl, HR.out⟩
end Go.Proofs.YtffgpepngcnjeabGreatQ

namespace Go.Proofs.YtffgpepngcnjeabGreatQ
open Go.RowKit
/-- the purse behind Abandon -/
theorem PP.given {N : Nat → Prop} {w w' : World} {P : Nat} {s : Int} {g : Nat} {v : Value} {h : Int} {xs : List Cel} {vl vs vl' : Value} {md nx : Int} {ps qs : List PayD} {ks : List (Int × Int)} (u : PP N w P s g v h xs vl vs md nx ps ks) (hl : LsAt N w' P 4 (P + 1) vl' vs md nx qs ks) (hf : Fr (fun q => q = P) w w') (hnew : ∀ q, vl'.ownBlock = some q → w.heap.size ≤ q) (hc : ∀ j, j ≠ 4 → w'.cell? ⟨P, j, none⟩ = w.cell? ⟨P, j, none⟩) : PP N w' P s g v h xs vl' vs md nx qs ks := by
  refine ⟨⟨(hc 2 (by omega)).trans u.pu.c0, (hc 3 (by omega)).trans u.pu.c1, hl.fz 2, hl.fz, hf.own u.pu.own (fun k hk e => ?_), fun q hq => ⟨(u.pu.ext q hq).1, (u.pu.ext q hq).2.1, ?_⟩⟩, hl, fun k hk => ⟨fun e => ?_, (u.dj k hk).2⟩⟩
  · have := (u.pu.own.blk k hk).1; omega
  · have hq2 : q.1 ≠ 4 := by
      simp only [List.mem_cons, List.not_mem_nil, or_false] at hq
      rcases hq with rfl | rfl
      · show (0 : Nat) ≠ 4; omega
      · show (1 : Nat) ≠ 4; omega
    exact (hc q.1 hq2).trans (u.pu.ext q hq).2.2
  · have h1 := hnew k e
    have h2 := (u.pu.own.blk k hk).2
    omega
/-- what pay answers, whatever was paid and given up ahead of it -/
def PGen (N : Nat → Prop) (P : Nat) (s : Int) (g : Nat) (v : Value) (h : Int) (xs : List Cel) (vl vs : Value) (md nx : Int) (ys : List (Int × Int)) (r : Int) (can : Bool) (n0 : Int) (v2 v3 v4 : Value) (ch er : Int) (w w' : World) : Prop :=
  (can = false ∧ er = 9 ∧ Below w.heap.size w w') ∨
  (can = true ∧ er = 10 ∧ unpZ xs s g nx = none ∧ (∃ L c, chooseZ r (orderZ r (ownOf xs s g)) (targetZ ys r) = some (L, c) ∧ 0 < c) ∧ Below w.heap.size w w') ∨
  (can = true ∧ er = 0 ∧ n0 = md ∧ ∃ L ex tag, Paid1 s g xs nx ys r L ex ch ∧ PayGo N P s g v h xs vl vs md nx [] [] tag L (ys ++ ex) ch v2 v3 v4 w w')
end Go.Proofs.YtffgpepngcnjeabGreatQ

namespace Go.Proofs.YtffgpepngcnjeabGreatQ
open Go.RowKit
theorem own_key {xs : List Cel} {s : Int} {g : Nat} (hs : Mk.isM s = true) {x : CoinD} (hx : x ∈ ownOf xs s g) : Mk.isK s x.br x.ix = true ∧ x.tt = Mk.adr s x.br x.ix := by
  rcases own_src (keysZ xs s g) (coinsC xs) [] x hx with e | ⟨c, hc, k, hk, e, rfl⟩
  · cases e
  · obtain ⟨h1, h2⟩ := keysZ_key hs hk
    exact ⟨h1, by show c.ad = Mk.adr s k.br k.ix; rw [h2, e]⟩
theorem Dp.und {s : Int} {g : Nat} {xs : List Cel} (h : Dp s g xs) : Und (xs.length : Int) xs := fun x hx => ⟨h.ma x hx, by rw [h.sp x hx]; omega⟩
/-- what the chain says to a payment of a scene -/
structure AccSay (s : Int) (g : Nat) (xs xs2 : List Cel) (p : PayD) (ch : Int) : Prop where
  say : ChSay (xs.length : Int) xs s g p
  x2 : xs2 = takenC (xs.length : Int) p.id xs (p.cs.map (sgI0 s p.id)) p.ys
  tw : ∀ x : TxD, x.t = p.tag → x.ins.map InD.st = p.cs.map (sgI0 s p.id) → x.ys = p.ys → connZ ((xs.length : Int) + 1) xs2 [x] = (4, 0, (xs.length : Int) + 1, xs2)
  bk : 0 ≤ ch → ∃ k : Nat, p.ys.length = k + 1 ∧ hasZ (ownOf xs2 s g) ⟨p.id, (k : Int), (p.ys.getD k (0, 0)).1, (p.ys.getD k (0, 0)).2, 0, 0⟩ = true
  vl : Vals xs2
  ln : xs2.length ≤ 40
  id : ∀ (t : Int) (js : List InD), t = p.tag → js.map InD.st = p.cs.map (sgI0 s p.id) → idZ t js p.ys = p.id
  ky : ∀ x ∈ p.cs, Mk.isK s x.br x.ix = true
  sg : signZ xs [p] [] 0 = .inr 0
end Go.Proofs.YtffgpepngcnjeabGreatQ

namespace Go.Proofs.YtffgpepngcnjeabGreatQ
open Go.RowKit
def Mks (xs : List Cel) : Prop := ∀ x ∈ xs, Mk.isM x.id = true ∧ 0 ≤ x.pos ∧ x.pos < 8
theorem mks_nm {xs zs : List Cel} (he : zs.map Cel.nm = xs.map Cel.nm) (h : Mks xs) : Mks zs := by
  intro z hz
  have h1 : z.nm ∈ xs.map Cel.nm := by rw [← he]; exact List.mem_map_of_mem hz
  obtain ⟨x, hx, e⟩ := List.mem_map.1 h1
  have h2 := h x hx
  have e1 : x.id = z.id := congrArg Prod.fst e
  have e2 : x.pos = z.pos := congrArg Prod.snd e
  rw [← e1, ← e2]
  exact h2
theorem addZ_mk (xs : List Cel) (h t : Int) (ins : List InD) (ys : List (Int × Int)) (first : Bool) (hn : Mks xs) : Mks (addZ xs h t ins ys first).2 := by
  rcases addZ_cases xs h t ins ys first with ⟨_, h2⟩ | ⟨h1, _, _, ss, _, _, _, he⟩
  · rw [h2]; exact hn
  · rw [he]
    intro x hx
    rcases List.mem_append.1 hx with hx | hx
    · exact mks_nm (markZ_nm h ss xs) hn x hx
    · unfold newC at hx
      obtain ⟨j, hj, rfl⟩ := List.mem_map.1 hx
      have hj2 := List.mem_range.1 hj
      unfold rTx rOuts at h1
      simp only [Bool.and_eq_true, decide_eq_true_iff] at h1
      exact ⟨idZ_bd _ _ _, by show (0 : Int) ≤ (j : Int); omega, by show (j : Int) < 8; omega⟩
theorem go_mk (h : Int) : ∀ (bl : List TxD) (xs : List Cel) (i : Nat), Mks xs → (connGo h xs bl i).1 = 0 → Mks (connGo h xs bl i).2.2 := by
  intro bl
  induction bl with
  | nil => intro xs i hv _; exact hv
  | cons t r ih =>
    intro xs i hv
    unfold connGo
    by_cases e : (addZ xs h t.t t.ins t.ys (i == 0)).1 ≠ 0
    · rw [if_pos e]
      intro h0
      exact absurd h0 e
    · rw [if_neg e]
      intro h0
      exact ih _ _ (addZ_mk xs h t.t t.ins t.ys (i == 0) hv) h0
theorem Hst.mk : ∀ (h : Nat) (xs : List Cel) (bls : List (List TxD)) (ps : List (List Cel)), Hst h xs bls ps → Mks xs := by
  intro h
  induction h with
  | zero =>
    intro xs bls ps hh
    obtain ⟨rfl, rfl, rfl⟩ := hh
    exact fun x hx => by cases hx
  | succ h ih =>
    intro xs bls ps hh
    obtain ⟨p, bls0, ps0, bl, rfl, rfl, h0, hc⟩ := hh
    have h1 := ih p bls0 ps0 h0
    unfold connZ at hc
    split at hc
    · injection hc with hc _; omega
    · split at hc
      · injection hc with hc _; omega
      · split at hc
        · rename_i e
          injection hc with hc _
          exact absurd hc e
        · rename_i e
          injection hc with _ hc
          injection hc with _ hc
          injection hc with _ hc
          rw [← hc]
          exact go_mk h bl p 0 h1 (by simpa using e)
theorem Chn.mks {h : Nat} {xs : List Cel} (u : Chn h xs) : Mks xs := by
  obtain ⟨bls, ps, hh⟩ := u
  exact Hst.mk h xs bls ps hh
theorem Chn.und {h : Nat} {xs : List Cel} (u : Chn h xs) : Und (h : Nat) xs := by
  obtain ⟨bls, ps, hh⟩ := u
  exact (Hst.facts h xs bls ps hh).1
/-- what a payment is, wherever the chain goes -/
structure PayI (s tag : Int) (cs : List CoinD) (ys : List (Int × Int)) : Prop where
  rt : rTx tag (cs.map fun x => (⟨x.id, x.pos, none, 0, 0, []⟩ : InD)) ys = true
  nn : cs ≠ []
  nd : (cs.map fun x => (x.id, x.pos)).Nodup
  ky : ∀ x ∈ cs, Mk.isK s x.br x.ix = true ∧ x.tt = Mk.adr s x.br x.ix
  sm : sumOu ys ≤ sumC cs
theorem pay_inv {xs : List Cel} {s : Int} {g : Nat} {ps : List PayD} {ks : List (Int × Int)} {nx : Int} {ys : List (Int × Int)} {r tag : Int} {cs : List CoinD} {zs : List (Int × Int)} {ch : Int} (h : payZ xs s g ps ks nx ys r tag = .inr (cs, zs, ch)) (hn : (xs.map Cel.nm).Nodup) (hm : Mks xs) (hv : Vals xs) (hs : Mk.isM s = true) : PayI s tag cs zs := by
  have hf := pay_facts h hn
  unfold payZ at h
  split at h
  · cases h
  rename_i hr
  split at h
  · cases h
  rename_i hy
  have hro : rOuts ys = true := by
    cases e : rOuts ys
    · exact absurd (Or.inr e) hy
    · rfl
  have hro2 := hro
  unfold rOuts at hro2
  rw [Bool.and_eq_true, decide_eq_true_iff, List.all_eq_true] at hro2
  have hpos : 0 < targetZ ys r := target_pos ys r (by omega) (by omega) (fun y hy => (rOut_bd (hro2.2 y hy)).2.1)
  split at h
  · cases h
  rename_i L c hc
  obtain ⟨s1, s2, s3, s4, s5⟩ := choose_some r _ _ hpos L c hc
  have hown : ∀ x ∈ L, x ∈ ownOf xs s g := fun x hx => (List.mem_filter.1 (order_mem (s1.subset hx)).1).1
  have hin : ∀ x ∈ L, Mk.isM x.id = true ∧ 0 ≤ x.pos ∧ x.pos < 8 := fun x hx => by
    obtain ⟨y, hy, _, e1, e2⟩ := own_cel (hown x hx)
    rw [e1, e2]
    exact hm y hy
  have hwL := wsum_sum r L
  have hrp : 0 ≤ r * (L.length : Int) := Int.mul_nonneg (by omega) (by omega)
  have hys : 0 ≤ r * (3 + 2 * (ys.length : Int)) := Int.mul_nonneg (by omega) (by omega)
  have htg : targetZ ys r = r * (3 + 2 * (ys.length : Int)) + sumOu ys := by unfold targetZ; omega
  have key : ∀ (ex : List (Int × Int)) (c2 : Int), (∀ y ∈ ex, rOut y = true) → ex.length ≤ 1 → sumOu (ys ++ ex) ≤ sumC L → payFin xs tag L (ys ++ ex) c2 = .inr (cs, zs, ch) → PayI s tag cs zs := fun ex c2 hex hel hsm h => by
    unfold payFin at h
    split at h
    · cases h
    · injection h with h
      injection h with h1 h
      injection h with h2 h
      subst h1
      subst h2
      refine ⟨?_, s3, ?_, fun x hx => own_key hs (hown x hx), hsm⟩
      · unfold rTx rIns rOuts
        simp only [Bool.and_eq_true, decide_eq_true_iff, List.all_eq_true, List.length_map, List.length_append]
        have h7 := hf.y7
        refine ⟨by omega, ⟨s2, fun x hx => ?_⟩, ⟨by omega, by omega⟩, fun y hy => ?_⟩
        · obtain ⟨c, hc, rfl⟩ := List.mem_map.1 hx
          have := hin c hc
          unfold rIn
          simp only [this.1, Bool.true_and, Bool.and_eq_true, decide_eq_true_iff]
          exact ⟨this.2, rfl⟩
        · rcases List.mem_append.1 hy with e | e
          · exact hro2.2 y e
          · exact hex y e
      · unfold List.Nodup
        rw [List.pairwise_map]
        refine hf.nd.imp (fun hne e => hne ?_)
        injection e with e1 e2
        exact ⟨e1, e2⟩
  split at h
  · rename_i h0
    split at h
    · cases h
    · rename_i k hk
      have s6 : c = wsum r L - targetZ ys r - 2 * r ∧ 10 ≤ c := by
        rcases s5 with h | h
        · omega
        · exact h
      obtain ⟨xm, hxm, hlt⟩ := choose_change r _ _ hpos L c hc h0
      have hxb := ownZ_val (keysZ xs s g) (fun z => 0 ≤ z ∧ z ≤ 1099511627776) (coinsC xs) (coinsC_val (fun z => 0 ≤ z ∧ z ≤ 1099511627776) xs hv) xm (hown xm hxm)
      have hcb : c ≤ 1099511627776 := by unfold worthZ at hlt; omega
      have hkm := List.mem_of_find?_eq_some hk
      have hka : Mk.isM k.ad = true := by
        rw [← (keysZ_key hs hkm).2]
        exact (Mk.isM_iff _).2 (Mk.adr_bd s k.br k.ix)
      refine key [(k.ad, c)] _ (fun y hy => ?_) (by simp) ?_ h
      · rw [List.mem_singleton.1 hy]
        unfold rOut
        rw [hka, Bool.true_and, decide_eq_true_iff]
        exact ⟨s6.2, hcb⟩
      · rw [sumOu_snoc]
        omega
  · refine key [] _ (fun y hy => by cases hy) (by simp) ?_ (by rw [List.append_nil]; exact h)
    rw [List.append_nil]
    omega
end Go.Proofs.YtffgpepngcnjeabGreatQ

namespace Go.Proofs.YtffgpepngcnjeabGreatQ
open Go.RowKit
/-- no list is too great for a copy -/
structure TxSm (x : TxD) : Prop where
  n : x.n ≤ 3518437208883
  m : x.m ≤ 8796093022208
  d : x.ap = none → x.d = 0
theorem tx_one (x : TxD) : ∀ u ∈ x.v, u.oneCell' = true := by
  intro u hu
  simp [TxD.v] at hu
  rcases hu with rfl | rfl | rfl <;> rfl
theorem info35 : (Tryz.prog.info? 35).map (fun i => (i.zero, i.size, i.bytes)) = some (some (.agg #[.int .i64 0, .slice none 0 0, .slice none 0 0]), 3, 56) := by kernel_rfl
abbrev OwnTxs (w : World) (base : Nat) (v : Value) (xs : List TxD) : Prop := OwnRec TxD.v 35 3 w base v xs
/-- blocks from B on that are there, but for one row -/
def NB (B : Nat) (w : World) (v : Value) (q : Nat) : Prop := B ≤ q ∧ q < w.heap.size ∧ v.ownBlock ≠ some q
theorem TxOk.weak {N M : Nat → Prop} {w : World} {x : TxD} (h : TxOk N w x) (hm : ∀ k, N k → M k) : TxOk M w x :=
  ⟨h.ins, h.il, h.outs, h.ol, fun e a ha => hm _ (h.na e a ha), fun e a ha => hm _ (h.np e a ha), fun i hi e a ha => hm _ (h.ns i hi e a ha)⟩
theorem fresh_tx {w : World} {B n c m d : Nat} {ai ap : Option Addr} {Q : Nat → InD → Prop} {xs : List InD} {ys : List (Int × Int)} (hf : Fresh w B (.slice ai n c) (.slice ap m d) Q xs ys) (t : Int) : n = xs.length → m = ys.length → TxOk (fun q => B ≤ q ∧ q < w.heap.size) w ⟨t, ai, n, c, ap, m, d, xs, ys⟩ := by
  intro hn hm
  have hr := hf.reads'
  refine ⟨hr.insAt, hn.symm, hr.outsAt, hm.symm, fun _ a ha => ?_, fun _ a ha => ?_, fun i hi _ a ha => ?_⟩
  · exact owns_blk hf.ins a.block (by show (Value.slice ai n c).ownBlock = _; simp only at ha; rw [ha]; rfl)
  · exact owns_blk hf.outs a.block (by show (Value.slice ap m d).ownBlock = _; simp only at ha; rw [ha]; rfl)
  · obtain ⟨j, hj, e⟩ := mem_getD dIn hi
    have := (hf.ok j hj).2.2 a (by rw [← e]; exact ha)
    exact ⟨this.1, this.2.1⟩
theorem fresh_slices {w : World} {B : Nat} {vi vo : Value} {Q : Nat → InD → Prop} {xs : List InD} {ys : List (Int × Int)} (hf : Fresh w B vi vo Q xs ys) : ∃ ai c ap d, vi = .slice ai xs.length c ∧ vo = .slice ap ys.length d := by
  rcases hf.ins.cells with ⟨h1, h2⟩ | ⟨g, c, h1, _⟩
  · rcases hf.outs.cells with ⟨k1, k2⟩ | ⟨g', c', k1, _⟩
    · exact ⟨none, 0, none, 0, by rw [h1, h2]; rfl, by rw [k1, k2]; rfl⟩
    · exact ⟨none, 0, _, c', by rw [h1, h2]; rfl, k1⟩
  · rcases hf.outs.cells with ⟨k1, k2⟩ | ⟨g', c', k1, _⟩
    · exact ⟨_, c, none, 0, h1, by rw [k1, k2]; rfl⟩
    · exact ⟨_, c, _, c', h1, k1⟩
set_option maxRecDepth 100000 in
set_option maxHeartbeats 4000000 in
theorem copyBlock_any (N : Nat → Prop) (ao : Option Addr) (n c : Nat) (bl : List TxD) (w : World) (hb : BlkAt N w ao bl) (hn : bl.length = n) (hsm : ∀ x ∈ bl, TxSm x) (hn2 : n ≤ 2513169434916) (hN : ∀ k, N k → k < w.heap.size) :
    Calls Tryz.prog 60 #[.slice ao n c] w fun e w' => ∃ ao' c' bl', e = .returned (.slice ao' n c') ∧ bl'.length = n ∧ bl'.map TxD.k = bl.map TxD.k ∧ BlkAt (fun q => w.heap.size ≤ q ∧ q < w'.heap.size) w' ao' bl' ∧ Below w.heap.size w w' := by
  have HB : Hid (BlkAt N w ao bl) := hb
  have HN : Hid (bl.length = n) := hn
  have HSM : Hid (∀ x ∈ bl, TxSm x) := hsm
  have HNK : Hid (∀ k, N k → k < w.heap.size) := hN
  clear hb hn hsm hN
  generalize hBe : w.heap.size = B
  have HBe : Hid (w.heap.size = B) := hBe
  clear hBe
  go_enter Tryz.func60, Tryz.ntmps60
  go_wp2
  go_loopw [3, 4] (fun v i wr => ∃ (k : Nat) (bk : List TxD), k ≤ n ∧ i = .int .i64 k ∧ Hid (bk.length = k) ∧ Hid (bk.map TxD.k = (bl.take k).map TxD.k) ∧ OwnTxs wr B v bk ∧ Hid (∀ x ∈ bk, TxOk (NB B wr v) wr x) ∧ Below B w wr) (fun _ i _ => n - (intOf i).toNat)
  case atStart => exact ⟨0, [], Nat.zero_le _, rfl, rfl, rfl, OwnRec.nil _ _ _ _ _, (fun x hx => by simp at hx), Below.refl _ _⟩
  case round =>
    obtain ⟨k, bk, hk, rfl, hbk, hsame, hown, hoks, hbl⟩ := hrel
    have hsz := hbl.size
    rw [HBe.out] at hsz
    by_cases hlt : k < n
    · have hblk := HB.out.fr (Fr.of_below (by rw [HBe.out]; exact hbl) (fun _ => False)) (fun _ _ h => h)
      rcases hblk.row with hnil | ⟨g, off, rfl, hrow⟩
      · have := HN.out; rw [hnil] at this; simp at this; omega
      obtain ⟨t0, t1, t2⟩ := txCells hrow k (by rw [HN.out]; exact hlt)
      have hmem := getD_mem bl dT k (by rw [HN.out]; exact hlt)
      have hok := hblk.ok _ hmem
      have hsm := HSM.out _ hmem
      have HTK : Hid ((bl.take (k + 1)).map TxD.k = (bl.take k).map TxD.k ++ [(bl.getD k dT).k]) := by
        show _ = _
        have h' : k < bl.length := by rw [HN.out]; exact hlt
        rw [List.take_succ_eq_append_getElem h', List.map_append]
        simp only [List.getD, List.getElem?_eq_getElem h', Option.getD_some, List.map_cons, List.map_nil]
      clear hrow hblk hmem
      generalize bl.getD k dT = y at t0 t1 t2 hok hsm HTK
      obtain ⟨yt, yai, yn, yc, yap, ym, yd, yins, yys⟩ := y
      simp only at t0 t1 t2
      have HOK : Hid _ := hok
      have HSy : Hid _ := hsm
      clear hok hsm
      go_wp2_with fail
      refine (copyTx_any yt yai yn yc yap ym yd yins yys _ HOK.out.ins HOK.out.il HOK.out.outs HOK.out.ol HSy.out.n HSy.out.m HSy.out.d).mono ?_
      rintro e w1 ⟨vi, vo, xs', rfl, hfr, hxl, hb1⟩
      obtain ⟨ai', ci, ap', di, rfl, rfl⟩ := fresh_slices hfr
      have htx := fresh_tx hfr yt rfl rfl
      have hK : TxD.k ⟨yt, ai', xs'.length, ci, ap', yys.length, di, xs', yys⟩ = TxD.k ⟨yt, yai, yn, yc, yap, ym, yd, yins, yys⟩ := by
        simp only [TxD.k]
        rw [same_st (by rw [hxl]; exact HOK.out.il.symm) (fun j hj => ((hfr.ok j (by rw [hxl]; have := HOK.out.il; simp only at this; omega)).2.1))]
      have HK : Hid _ := hK
      have HTX : Hid (TxOk (fun q => wr.heap.size ≤ q ∧ q < w1.heap.size) w1 ⟨yt, ai', xs'.length, ci, ap', yys.length, di, xs', yys⟩) := htx
      have hown1 := OwnRec.grown hown hb1
      have hbl1 := hbl.trans (hb1.mono hsz)
      have hsz1 := Nat.le_trans hsz hb1.size
      have hvb := hown.blk
      clear hxl
      generalize xs'.length = n' at *
      generalize yys.length = m' at *
      have HVB : Hid _ := hvb
      have HO1 : Hid (∀ x ∈ bk, TxOk (NB B wr u3) w1 x) := fun x hx => (hoks.out x hx).fr (Fr.of_below hb1 (fun _ => False)) (fun _ _ h => h)
      have hown2 := hown1.alloc (.cells #[.int .i64 yt, .slice ai' n' ci, .slice ap' m' di] 35)
      have hbl2 := hbl1.alloc hsz1 (.cells #[.int .i64 yt, .slice ai' n' ci, .slice ap' m' di] 35)
      have hz1 := hb1.size
      clear hown hbl hb1 hown1 hoks t0 t1 t2 hvb htx hK hfr
      go_wp2_with (at_builtin; (refine wpList_appR 60 56 _ Tryz.underlying60 info35 rfl (by decide) tx3 tx_one ((w1.alloc (.cells #[.int .i64 yt, .slice ai' n' ci, .slice ap' m' di] 35)).alloc (.cells #[.int .i64 yt, .slice ai' n' ci, .slice ap' m' di] 35)) rfl _ _ rfl B (w1.alloc (.cells #[.int .i64 yt, .slice ai' n' ci, .slice ap' m' di] 35)).heap.size 1 _ bk ⟨yt, ai', n', ci, ap', m', di, xs', yys⟩ (by rfl) (by simp [World.size_alloc]; rfl) (hown2.alloc _) (vrow_new _ _ _) (by simp; omega) (by rw [hbk.out]; unfold maxLen; omega) (by rw [hbk.out]; omega) ?_; intro g' cap w3 hown3 hg3 hl3 hlt3))
      have hfr3 : Fr (fun q => u3.ownBlock = some q) w1 w3 := (((Fr.refl _ w1).alloc (.cells #[.int .i64 yt, .slice ai' n' ci, .slice ap' m' di] 35)).alloc (.cells #[.int .i64 yt, .slice ai' n' ci, .slice ap' m' di] 35)).trans (Fr.of_gb hg3 (fun q hq _ => hq))
      have hl3' : u3.ownBlock = some g' ∨ w1.heap.size ≤ g' := hl3.imp id (fun h => by rw [World.size_alloc, World.size_alloc] at h; omega)
      have hz3 := hfr3.size
      have HN3 : Hid (∀ x ∈ bk ++ [⟨yt, ai', n', ci, ap', m', di, xs', yys⟩], TxOk (NB B w3 (.slice (some ⟨g', 0, none⟩) (bk.length + 1) cap)) w3 x) := by
        intro x hx
        rcases List.mem_append.1 hx with hx | hx
        · refine ((HO1.out x hx).fr hfr3 (fun q hq e => hq.2.2 e)).weak (fun q hq => ⟨hq.1, by have := hq.2.1; omega, fun e => ?_⟩)
          simp [Value.ownBlock] at e
          rcases hl3' with h | h
          · exact hq.2.2 (by rw [h, e])
          · have := hq.2.1; omega
        · rw [List.mem_singleton] at hx
          subst hx
          refine (HTX.out.fr hfr3 (fun q hq e => by have := (HVB.out q e).2; omega)).weak (fun q hq => ⟨by omega, by omega, fun e => ?_⟩)
          simp [Value.ownBlock] at e
          rcases hl3' with h | h
          · have := (HVB.out g' h).2; omega
          · omega
      go_roundw
      case rel => exact ⟨k + 1, bk ++ [⟨yt, ai', n', ci, ap', m', di, xs', yys⟩], by omega, by go_num, by show _ = _; rw [List.length_append, hbk.out]; rfl, by show _ = _; rw [HTK.out, List.map_append, hsame.out, List.map_cons, List.map_nil, HK.out], hown3, HN3, hbl2.trans (gb_to_below (gb_trans (gb_alloc _ _ _) hg3) (by simp; omega) (fun q hq => (hown2.blk q hq).1))⟩
      case measure => simp [intOf]; omega
    · have hkn : k = n := by omega
      subst hkn
      have hs2 := hsame.out
      rw [List.take_of_length_le (by rw [HN.out]; omega)] at hs2
      have HS2 : Hid (bk.map TxD.k = bl.map TxD.k) := hs2
      clear hs2
      obtain ⟨ak, ck, hvk, hat⟩ := OwnRec.at tx3 hown
      subst hvk
      have hbb := hown.blk
      rw [hbk.out]
      go_wp2
      go_ret
      refine ⟨ak, ck, bk, rfl, hbk.out, HS2.out, ⟨hat, fun _ a ha => ?_, fun x hx => (hoks.out x hx).weak (fun q hq => ⟨hq.1, hq.2.1⟩)⟩, hbl⟩
      exact hbb a.block (by rw [ha]; rfl)
end Go.Proofs.YtffgpepngcnjeabGreatQ
