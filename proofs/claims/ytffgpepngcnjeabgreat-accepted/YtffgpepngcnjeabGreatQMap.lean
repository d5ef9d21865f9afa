/-
  A signed payment as a transaction; what the chain answers to it.
  Funds: what a payment of a scene is.
  Funds: enough: do the greatest coins suffice?
-/
import Derived.Test.YtffgpepngcnjeabGreatQMao
import Derived.Test.YtffgpepngcnjeabGreatQMae
import Derived.Test.YtffgpepngcnjeabGreatQMam
import Derived.Test.YtffgpepngcnjeabGreatQMai
import Derived.Laws.MakeOwn
namespace Go.Proofs.YtffgpepngcnjeabGreatQ
open Go.RowKit
/-- a sealed input -/
def sgIn (s id : Int) (q : CoinD × Nat) : InD := ⟨q.1.id, q.1.pos, some ⟨q.2, 0, none⟩, 5, 5, Mk.sealL s q.1.br q.1.ix id⟩
/-- the same, whatever lies where -/
def sgI0 (s id : Int) (x : CoinD) : InD := ⟨x.id, x.pos, none, 5, 0, Mk.sealL s x.br x.ix id⟩
def dQ : CoinD × Nat := (dN, 0)
theorem seal_isS (s b i id : Int) : isS (Mk.sealL s b i id) = true := by
  unfold isS allM
  rw [Mk.sealL_len, Bool.and_eq_true, List.all_eq_true]
  exact ⟨rfl, fun x hx => (Mk.isM_iff _).2 (Mk.sealL_bd s b i id x hx)⟩
theorem sgIn_st (s id : Int) (L : List (CoinD × Nat)) : (L.map (sgIn s id)).map InD.st = (L.map Prod.fst).map (sgI0 s id) := by
  rw [List.map_map, List.map_map]
  rfl
theorem SgTx.lens {base : Nat} {s : Int} {p : PayD} {ai ap : Option Addr} {ni ci np cp : Nat} {L : List (CoinD × Nat)} {w : World} (h : SgTx base s p (.slice ai ni ci) (.slice ap np cp) L w) : L.length = ni ∧ p.cs.length = ni ∧ p.ys.length = np := by
  obtain ⟨a1, c1, e1, _⟩ := OwnRec.at sn3 h.own
  obtain ⟨a2, c2, e2, _⟩ := OwnRec.at kv2 h.oo
  injection e1 with _ e1 _
  injection e2 with _ e2 _
  have := congrArg List.length h.fst
  rw [List.length_map] at this
  exact ⟨e1.symm, by omega, e2.symm⟩
theorem SgTx.insAt {base : Nat} {s : Int} {p : PayD} {ai : Option Addr} {ni ci : Nat} {vo : Value} {L : List (CoinD × Nat)} {w : World} (h : SgTx base s p (.slice ai ni ci) vo L w) : InsAt w ai (L.map (sgIn s p.id)) := by
  obtain ⟨a1, c1, e1, hr⟩ := OwnRec.at sn3 h.own
  injection e1 with e1 _ _
  subst e1
  rcases hr with h0 | ⟨b, off, e, hr⟩
  · exact Or.inl (by rw [h0]; rfl)
  · refine Or.inr ⟨b, off, e, fun j hj => ?_⟩
    rw [List.length_map] at hj
    have eg : (L.map (sgIn s p.id)).getD j dIn = sgIn s p.id (L.getD j dQ) := by simp [List.getD, hj]
    rw [eg]
    exact ⟨⟨rcell sn3 dQ hr j hj 0 (by omega), rcell sn3 dQ hr j hj 1 (by omega), rcell sn3 dQ hr j hj 2 (by omega)⟩, ⟨Or.inr ⟨_, _, rfl, (h.row _ (getD_mem L dQ j hj)).1⟩, Mk.sealL_len _ _ _ _, by show (5 : Nat) ≤ _; omega, fun e => (by cases e)⟩⟩
theorem SgTx.outsAt {base : Nat} {s : Int} {p : PayD} {ap : Option Addr} {np cp : Nat} {vi : Value} {L : List (CoinD × Nat)} {w : World} (h : SgTx base s p vi (.slice ap np cp) L w) : OutsAt w ap p.ys := by
  obtain ⟨a1, c1, e1, hr⟩ := OwnRec.at kv2 h.oo
  injection e1 with e1 _ _
  subst e1
  exact rec_outs hr
theorem SgTx.fr {E : Nat → Prop} {base : Nat} {s : Int} {p : PayD} {vi vo : Value} {L : List (CoinD × Nat)} {w w' : World} (h : SgTx base s p vi vo L w) (hf : Fr E w w') (hE : ∀ k, base ≤ k → ¬ E k) : SgTx base s p vi vo L w' := by
  refine ⟨h.fst, hf.own h.own (fun k hk => hE k (h.own.blk k hk).1), fun q hq => ?_, h.nv, h.nd, hf.own h.oo (fun k hk => hE k (h.oo.blk k hk).1), h.ne⟩
  obtain ⟨h1, h2, h3, h4⟩ := h.row q hq
  exact ⟨fun j hj => hf.cell (h1 j hj) (hE _ h3), fun j hj => (hf.frozen h4 (hE _ h3)).trans (h2 j hj), h3, Nat.lt_of_lt_of_le h4 hf.size⟩
theorem SgTx.grown {base : Nat} {s : Int} {p : PayD} {vi vo : Value} {L : List (CoinD × Nat)} {w w' : World} (h : SgTx base s p vi vo L w) (hb : Below w.heap.size w w') : SgTx base s p vi vo L w' := h.fr (Fr.of_below hb (fun _ => False)) (fun _ _ h => h)
theorem rTx_seal {t s id : Int} {cs : List CoinD} {ys : List (Int × Int)} (h : rTx t (cs.map fun x => (⟨x.id, x.pos, none, 0, 0, []⟩ : InD)) ys = true) : rTx t (cs.map (sgI0 s id)) ys = true := by
  unfold rTx rIns at h ⊢
  simp only [Bool.and_eq_true, decide_eq_true_iff, List.all_eq_true, List.length_map] at h ⊢
  refine ⟨h.1, ⟨h.2.1.1, fun x hx => ?_⟩, h.2.2⟩
  obtain ⟨c, hc, rfl⟩ := List.mem_map.1 hx
  have := h.2.1.2 _ (List.mem_map.2 ⟨c, hc, rfl⟩)
  unfold rIn at this ⊢
  simp only [Bool.and_eq_true, Bool.or_eq_true] at this ⊢
  exact ⟨this.1, this.2.1, Or.inr (seal_isS _ _ _ _)⟩
theorem id_seal {t s id : Int} {cs : List CoinD} {ys : List (Int × Int)} (h : rTx t (cs.map fun x => (⟨x.id, x.pos, none, 0, 0, []⟩ : InD)) ys = true) : idZ t (cs.map (sgI0 s id)) ys = idZ t (cs.map fun x => (⟨x.id, x.pos, none, 0, 0, []⟩ : InD)) ys := by
  have e : inL (cs.map (sgI0 s id)) = inL (cs.map fun x => (⟨x.id, x.pos, none, 0, 0, []⟩ : InD)) := by
    unfold inL
    rw [List.flatMap_map, List.flatMap_map]
    rfl
  unfold idZ idL
  rw [if_pos h, if_pos (rTx_seal h), e, List.length_map, List.length_map]
theorem cel_uq {xs : List Cel} (h : (xs.map Cel.nm).Nodup) : Uq xs := by
  intro a b j k hj hk h1 h2
  unfold isCoin at h1 h2
  simp only [Bool.and_eq_true, beq_iff_eq] at h1 h2
  unfold List.Nodup at h
  rw [List.pairwise_map, List.pairwise_iff_getElem] at h
  have e1 : xs.getD j dC = xs[j] := by simp [List.getD, hj]
  have e2 : xs.getD k dC = xs[k] := by simp [List.getD, hk]
  rw [e1] at h1
  rw [e2] at h2
  have en : Cel.nm xs[j] = Cel.nm xs[k] := by
    unfold Cel.nm
    rw [h1.1, h1.2.1, h2.1, h2.2.1]
  rcases Nat.lt_trichotomy j k with hlt | he | hgt
  · exact absurd en (h j k hj hk hlt)
  · exact he
  · exact absurd en.symm (h k j hk hj hgt)
/-- what the chain answers to a payment and its signed form -/
structure ChSay (h : Int) (xs : List Cel) (s : Int) (g : Nat) (p : PayD) : Prop where
  raw : ∀ x : TxD, x.t = p.tag → x.ins.map InD.st = (p.cs.map fun c => (⟨c.id, c.pos, none, 0, 0, []⟩ : InD)) → x.ys = p.ys → connZ h xs [x] = (6, 0, h, xs)
  tk : ∀ x : TxD, x.t = p.tag → x.ins.map InD.st = p.cs.map (sgI0 s p.id) → x.ys = p.ys → connZ h xs [x] = (0, 0, h + 1, takenC h p.id xs (p.cs.map (sgI0 s p.id)) p.ys)
  gone : (!((p.cs.map (sgI0 s p.id)).any fun i => namedB (ownOf (takenC h p.id xs (p.cs.map (sgI0 s p.id)) p.ys) s g) i.id i.pos)) = true
theorem conn_k1 {h : Int} {xs : List Cel} {x y : TxD} (ht : x.t = y.t) (hi : x.ins.map InD.st = y.ins.map InD.st) (hy : x.ys = y.ys) : connZ h xs [x] = connZ h xs [y] := by
  apply connZ_k
  simp only [List.map_cons, List.map_nil]
  unfold TxD.k
  rw [ht, hi, hy]
theorem names_i0 (s id : Int) (cs : List CoinD) : ((cs.map (sgI0 s id)).map fun i => (i.id, i.pos)) = cs.map fun x => (x.id, x.pos) := by
  rw [List.map_map]
  rfl
theorem ch_say {h s : Int} {g : Nat} {xs : List Cel} {p : PayD} (hh : 0 ≤ h ∧ h < 40) (hu : Und h xs) (hq : Uq xs) (hcs : p.cs ≠ []) (hr : rTx p.tag (p.cs.map fun x => (⟨x.id, x.pos, none, 0, 0, []⟩ : InD)) p.ys = true) (hn : hasId xs p.id = false) (hall : hasAllZ xs p.cs = true) (hnd : (p.cs.map fun x => (x.id, x.pos)).Nodup) (had : ∀ x ∈ p.cs, x.tt = Mk.adr s x.br x.ix) (hv : sumOu p.ys ≤ sumC p.cs) : ChSay h xs s g p := by
  have hst : Stand xs (p.cs.map (sgI0 s p.id)) := stand_of hall hnd (names_i0 s p.id p.cs)
  have hid : idZ p.tag (p.cs.map (sgI0 s p.id)) p.ys = p.id := id_seal hr
  refine ⟨fun x h1 h2 h3 => ?_, fun x h1 h2 h3 => ?_, taken_gone (by omega) hst hq hn⟩
  · have e0 : (p.cs.map fun c => (⟨c.id, c.pos, none, 0, 0, []⟩ : InD)).map InD.st = p.cs.map fun c => (⟨c.id, c.pos, none, 0, 0, []⟩ : InD) := by rw [List.map_map]; rfl
    have := conn_k1 (h := h) (xs := xs) (x := x) (y := ⟨p.tag, none, 0, 0, none, 0, 0, p.cs.map fun c => (⟨c.id, c.pos, none, 0, 0, []⟩ : InD), p.ys⟩) h1 (by rw [h2]; exact e0.symm) h3
    rw [this]
    refine conn_raw (by omega) hu hr (by simpa using hcs) hn (stand_of hall hnd (by rw [List.map_map]; rfl)) (fun i hi => ?_)
    obtain ⟨c, _, rfl⟩ := List.mem_map.1 hi
    rfl
  · have e0 : (p.cs.map (sgI0 s p.id)).map InD.st = p.cs.map (sgI0 s p.id) := by rw [List.map_map]; rfl
    have := conn_k1 (h := h) (xs := xs) (x := x) (y := ⟨p.tag, none, 0, 0, none, 0, 0, p.cs.map (sgI0 s p.id), p.ys⟩) h1 (by rw [h2]; exact e0.symm) h3
    rw [this]
    have hc := conn_sealed (h := h) (xs := xs) (x := ⟨p.tag, none, 0, 0, none, 0, 0, p.cs.map (sgI0 s p.id), p.ys⟩) (by omega) (rTx_seal hr) (by show hasId xs (idZ p.tag (p.cs.map (sgI0 s p.id)) p.ys) = false; rw [hid]; exact hn) hst (fun i hi => ?_) ?_
    · rw [hc]
      show (_, _, _, markZ h xs ((p.cs.map (sgI0 s p.id)).map (spOf xs)) ++ newC (idZ p.tag (p.cs.map (sgI0 s p.id)) p.ys) h p.ys p.ys.length) = _
      rw [hid]
      rfl
    · show opens (idZ p.tag (p.cs.map (sgI0 s p.id)) p.ys) (spOf xs i) = true
      rw [hid]
      obtain ⟨c, hc, rfl⟩ := List.mem_map.1 hi
      unfold opens
      rw [Bool.and_eq_true, beq_iff_eq]
      refine ⟨seal_isS _ _ _ _, ?_⟩
      show Mk.opn p.id (Mk.sealL s c.br c.ix p.id) = (xs.getD (findZ xs c.id c.pos).toNat dC).to
      rw [Mk.opn_seal _ _ _ _ _ rfl, (stand_coin hall hc).1, had c hc]
    · show sumOu p.ys ≤ sumSp ((p.cs.map (sgI0 s p.id)).map (spOf xs))
      have e : sumSp ((p.cs.map (sgI0 s p.id)).map (spOf xs)) = sumC p.cs := by
        unfold sumSp sumC
        rw [List.map_map, List.map_map]
        congr 1
        apply List.map_congr_left
        intro c hc
        show (xs.getD (findZ xs c.id c.pos).toNat dC).val = c.val
        exact (stand_coin hall hc).2
      rw [e]
      exact hv
theorem ch_twice {h s : Int} {xs : List Cel} {p : PayD} (hh : h < 40) (hu : Und h xs) (hr : rTx p.tag (p.cs.map fun x => (⟨x.id, x.pos, none, 0, 0, []⟩ : InD)) p.ys = true) (hn : hasId xs p.id = true) {x : TxD} (h1 : x.t = p.tag) (h2 : x.ins.map InD.st = p.cs.map (sgI0 s p.id)) (h3 : x.ys = p.ys) : connZ h xs [x] = (4, 0, h, xs) := by
  have hid : idZ p.tag (p.cs.map (sgI0 s p.id)) p.ys = p.id := id_seal hr
  have e0 : (p.cs.map (sgI0 s p.id)).map InD.st = p.cs.map (sgI0 s p.id) := by rw [List.map_map]; rfl
  have := conn_k1 (h := h) (xs := xs) (x := x) (y := ⟨p.tag, none, 0, 0, none, 0, 0, p.cs.map (sgI0 s p.id), p.ys⟩) h1 (by rw [h2]; exact e0.symm) h3
  rw [this]
  exact conn_twice (by omega) hu (rTx_seal hr) (by show hasId xs (idZ p.tag (p.cs.map (sgI0 s p.id)) p.ys) = true; rw [hid]; exact hn)
end Go.Proofs.YtffgpepngcnjeabGreatQ

namespace Go.Proofs.YtffgpepngcnjeabGreatQ
open Go.RowKit
theorem wsum_snoc (r : Int) (cs : List CoinD) (k : Nat) (h : k < cs.length) : wsum r (cs.take (k + 1)) = wsum r (cs.take k) + worthZ r cs[k] := by
  unfold wsum
  rw [List.take_succ_eq_append_getElem h, List.map_append, List.sum_append]
  simp
theorem choose_change (r : Int) (cs : List CoinD) (want : Int) (hw : 0 < want) (l : List CoinD) (ch : Int) (h : chooseZ r cs want = some (l, ch)) (hc : 0 < ch) : ∃ x ∈ l, wsum r l - want < worthZ r x := by
  unfold chooseZ at h
  by_cases e : bestP r cs want (want + slackZ r) = 0
  · rw [e, if_neg (fun h => h rfl)] at h
    rcases en_spec r want cs 0 0 with ⟨e1, e2⟩ | ⟨k, e1, e2, e3, e4, e5, e6⟩
    · rw [if_pos (Or.inl e1)] at h; cases h
    · rw [Nat.zero_add] at e3
      by_cases hk : 10 < k
      · rw [if_pos (Or.inr (by omega))] at h; cases h
      · rw [if_neg (by omega), e3] at h
        injection h with h
        injection h with h1 h2
        obtain ⟨j, rfl⟩ : ∃ j, k = j + 1 := ⟨k - 1, by omega⟩
        have hj : j < cs.length := by omega
        have hs := wsum_snoc r cs j hj
        rw [← h1]
        refine ⟨cs[j], ?_, ?_⟩
        · rw [List.take_succ_eq_append_getElem hj]
          exact List.mem_append.2 (Or.inr (List.mem_singleton.2 rfl))
        · by_cases hj0 : j = 0
          · subst hj0
            rw [List.take_zero, wsum_nil] at hs
            omega
          · have := e6 j (by omega) (by omega)
            omega
  · rw [if_pos e] at h
    injection h with h
    injection h with h1 h2
    omega
theorem wsum_sum (r : Int) (l : List CoinD) : wsum r l = sumC l - 7 * (r * (l.length : Int)) := by
  induction l with
  | nil => simp [wsum, sumC]
  | cons x t ih =>
    rw [wsum_cons, ih]
    unfold worthZ sumC
    rw [List.map_cons, List.sum_cons, List.length_cons]
    push_cast
    rw [Int.mul_add]
    omega
theorem sumOu_snoc (ys : List (Int × Int)) (a v : Int) : sumOu (ys ++ [(a, v)]) = sumOu ys + v := by
  unfold sumOu
  rw [List.map_append, List.sum_append]
  simp
/-- what is paid, whatever the tag -/
structure Paid1 (s : Int) (g : Nat) (xs : List Cel) (nx : Int) (ys : List (Int × Int)) (r : Int) (L : List CoinD) (ex : List (Int × Int)) (ch : Int) : Prop where
  own : ∀ x ∈ L, x ∈ ownOf xs s g
  nd : (L.map CoinD.id).Nodup
  l0 : 0 < L.length
  l10 : L.length ≤ 10
  e1 : ex.length ≤ 1
  ev : ∀ y ∈ ex, rOut y = true
  fair : FairC s g xs (xs.map Cel.kept) r ex ch (sumC L - sumOu (ys ++ ex) - r * (3 + 7 * (L.length : Int) + 2 * ((ys ++ ex).length : Int)))
  pay : ∀ t : Int, 0 ≤ t → t ≤ 1099511627776 → payZ xs s g [] [] nx ys r t = payFin xs t L (ys ++ ex) ch
  nx : ex = [] ∨ nx ≤ ch
  ck : ∃ c, chooseZ r (orderZ r (ownOf xs s g)) (targetZ ys r) = some (L, c) ∧ (ex = [] ↔ ¬ 0 < c)
theorem pay_kinds {s : Int} {g : Nat} {xs : List Cel} (hd : Dp s g xs) (hs : Mk.isM s = true) (hg2 : g ≤ 20) {ys : List (Int × Int)} {r : Int} (hy1 : 1 ≤ ys.length) (hy7 : ys.length ≤ 7) (hyr : ∀ y ∈ ys, rOut y = true) (hr : 0 ≤ r ∧ r ≤ 1000) (nx : Int) :
    (¬ targetZ ys r ≤ wsum r ((orderZ r (xs.map Cel.kept)).take 10) ∧ ∀ t : Int, 0 ≤ t → t ≤ 1099511627776 → payZ xs s g [] [] nx ys r t = .inl 9) ∨
    (targetZ ys r ≤ wsum r ((orderZ r (xs.map Cel.kept)).take 10) ∧ unpZ xs s g nx = none ∧ (∃ L c, chooseZ r (orderZ r (ownOf xs s g)) (targetZ ys r) = some (L, c) ∧ 0 < c) ∧ ∀ t : Int, 0 ≤ t → t ≤ 1099511627776 → payZ xs s g [] [] nx ys r t = .inl 10) ∨
    (targetZ ys r ≤ wsum r ((orderZ r (xs.map Cel.kept)).take 10) ∧ ∃ L ex ch, Paid1 s g xs nx ys r L ex ch) := by
  have hro : rOuts ys = true := by
    unfold rOuts
    rw [Bool.and_eq_true, decide_eq_true_iff, List.all_eq_true]
    exact ⟨⟨hy1, by omega⟩, hyr⟩
  have hpay : ∀ t : Int, 0 ≤ t → t ≤ 1099511627776 → payZ xs s g [] [] nx ys r t = match chooseZ r (orderZ r (ownOf xs s g)) (targetZ ys r) with
    | none => .inl 9
    | some (cs, ch) => if 0 < ch then (match unpZ xs s g nx with
        | none => .inl 10
        | some k => payFin xs t cs (ys ++ [(k.ad, ch)]) k.ix) else payFin xs t cs ys (-1) := fun t h1 h2 => by
    unfold payZ
    rw [if_neg (by omega), if_neg (by rw [hro]; simp; omega), free_nil_all]
    rfl
  have hpos : 0 < targetZ ys r := by
    have h4 : 0 < sumOu ys := by
      cases ys with
      | nil => simp at hy1
      | cons y t =>
        have h5 := (rOut_bd (hyr y List.mem_cons_self)).2.1
        have h6 := sum_bd Prod.snd 1099511627776 t (fun z hz => by have := (rOut_bd (hyr z (List.mem_cons_of_mem _ hz))).2; omega)
        unfold sumOu
        rw [List.map_cons, List.sum_cons]
        omega
    have : 0 ≤ r * (3 + 2 * (ys.length : Int)) := Int.mul_nonneg hr.1 (by omega)
    unfold targetZ
    omega
  have hall : ∀ x ∈ orderZ r (ownOf xs s g), 1 ≤ worthZ r x := fun x hx => (order_mem hx).2
  have hcn := choose_none r (orderZ r (ownOf xs s g)) (targetZ ys r) hpos hall
  rw [wsum_perm r (hd.worths hg2 r)] at hcn
  cases hc : chooseZ r (orderZ r (ownOf xs s g)) (targetZ ys r) with
  | none =>
    refine Or.inl ⟨by have := hcn.1 hc; omega, fun t h1 h2 => ?_⟩
    rw [hpay t h1 h2, hc]
  | some q =>
    obtain ⟨L, c⟩ := q
    have hcan : targetZ ys r ≤ wsum r ((orderZ r (xs.map Cel.kept)).take 10) := by
      by_cases h : wsum r ((orderZ r (xs.map Cel.kept)).take 10) < targetZ ys r
      · have := hcn.2 h; rw [hc] at this; cases this
      · omega
    obtain ⟨s1, s2, s3, s4, s5⟩ := choose_some r _ _ hpos L c hc
    have hown : ∀ x ∈ L, x ∈ ownOf xs s g := fun x hx => (order_mem (s1.subset hx)).1
    have hnd : (L.map CoinD.id).Nodup := List.Nodup.sublist (List.Sublist.map _ s1) (hd.ordNd hg2 r)
    have hl0 : 0 < L.length := List.length_pos_iff.2 s3
    have hwL := wsum_sum r L
    have hexp : ∀ m : Int, r * (3 + 7 * (L.length : Int) + 2 * m) = r * 3 + 7 * (r * (L.length : Int)) + 2 * (r * m) := fun m => by
      rw [Int.mul_add, Int.mul_add, Int.mul_left_comm r 7, Int.mul_left_comm r 2]
    have htg : targetZ ys r = r * 3 + 2 * (r * (ys.length : Int)) + sumOu ys := by
      unfold targetZ
      rw [Int.mul_add, Int.mul_left_comm r 2]
    by_cases h0 : 0 < c
    · have s6 : c = wsum r L - targetZ ys r - 2 * r ∧ 10 ≤ c := by
        rcases s5 with h | h
        · omega
        · exact h
      obtain ⟨xm, hxm, hlt⟩ := choose_change r _ _ hpos L c hc h0
      have hxb := ((hd.own hs hg2 (hown xm hxm)).1).b
      have hcb : c ≤ 1099511627776 := by unfold worthZ at hlt; omega
      cases hu : unpZ xs s g nx with
      | none =>
        refine Or.inr (Or.inl ⟨hcan, rfl, ⟨L, c, rfl, h0⟩, fun t h1 h2 => ?_⟩)
        rw [hpay t h1 h2, hc]
        simp only [if_pos h0, hu]
      | some k =>
        have hk1 := List.mem_of_find?_eq_some hu
        have hk2 := List.find?_some hu
        unfold unpB at hk2
        rw [Bool.and_eq_true, Bool.and_eq_true, beq_iff_eq, decide_eq_true_iff] at hk2
        obtain ⟨k3, k4, k5⟩ := hk2
        obtain ⟨i, hi, rfl⟩ : ∃ i : Nat, i < winZ xs s g 1 ∧ k = ⟨1, (i : Int), Mk.adr s 1 (i : Int)⟩ := by
          unfold keysZ keysB at hk1
          rcases List.mem_append.1 hk1 with e | e
          · obtain ⟨i, _, rfl⟩ := List.mem_map.1 e
            simp at k3
          · obtain ⟨i, hi, rfl⟩ := List.mem_map.1 e
            exact ⟨i, List.mem_range.1 hi, rfl⟩
        have hw100 := winZ_le xs s g 1
        refine Or.inr (Or.inr ⟨hcan, L, [(Mk.adr s 1 (i : Int), c)], (i : Int), hown, hnd, hl0, s2, by simp, fun y hy => ?_, ?_, fun t h1 h2 => ?_, Or.inr k4, ⟨c, hc, ⟨fun e => (by cases e), fun e => absurd h0 e⟩⟩⟩)
        · rw [List.mem_singleton.1 hy]
          unfold rOut
          rw [(Mk.isM_iff _).2 (Mk.adr_bd s 1 (i : Int)), Bool.true_and, decide_eq_true_iff]
          exact ⟨s6.2, hcb⟩
        · refine Or.inr ⟨i, c, rfl, rfl, key_ok hs (Or.inr rfl) (by omega) (by omega), hi, s6.2, fun q hq e => ?_, ?_⟩
          · obtain ⟨x, hx, rfl⟩ := List.mem_map.1 hq
            have : paidTo xs (Mk.adr s 1 (i : Int)) = true := by
              unfold paidTo
              rw [List.any_eq_true]
              exact ⟨x, hx, beq_iff_eq.2 e⟩
            simp only at k5
            rw [this] at k5
            cases k5
          · rw [sumOu_snoc, hexp, List.length_append, List.length_singleton]
            push_cast
            rw [Int.mul_add]
            omega
        · rw [hpay t h1 h2, hc]
          simp only [if_pos h0, hu]
    · have s6 : c = 0 ∧ wsum r L - targetZ ys r ≤ slackZ r := by
        rcases s5 with h | h
        · exact h
        · omega
      refine Or.inr (Or.inr ⟨hcan, L, [], -1, hown, hnd, hl0, s2, by simp, fun y hy => (by cases hy), ?_, fun t h1 h2 => ?_, Or.inl rfl, ⟨c, hc, ⟨fun _ => h0, fun _ => rfl⟩⟩⟩)
      · refine Or.inl ⟨rfl, rfl, ?_, ?_⟩
        · rw [List.append_nil, hexp]
          omega
        · rw [List.append_nil, hexp]
          have := s6.2
          unfold slackZ at this
          omega
      · rw [hpay t h1 h2, hc]
        simp only [if_neg h0, List.append_nil]
theorem Paid1.right {s : Int} {g : Nat} {xs : List Cel} {nx : Int} {ys : List (Int × Int)} {r : Int} {L : List CoinD} {ex : List (Int × Int)} {ch : Int} (h : Paid1 s g xs nx ys r L ex ch) (hd : Dp s g xs) (hs : Mk.isM s = true) (hg2 : g ≤ 20) (hy1 : 1 ≤ ys.length) (hy7 : ys.length ≤ 7) (hyr : ∀ y ∈ ys, rOut y = true) (t : Int) (h1 : 0 ≤ t) (h2 : t ≤ 1099511627776) : rTx t (L.map CoinD.inD) (ys ++ ex) = true := by
  have he := h.e1
  have hl := h.l10
  unfold rTx rIns rOuts
  simp only [Bool.and_eq_true, decide_eq_true_iff, List.all_eq_true, List.length_map, List.length_append]
  refine ⟨⟨h1, h2⟩, ⟨hl, fun x hx => ?_⟩, ⟨by omega, by omega⟩, fun y hy => ?_⟩
  · obtain ⟨c, hc, rfl⟩ := List.mem_map.1 hx
    have hh := hd.own hs hg2 (h.own c hc)
    unfold rIn CoinD.inD
    simp only [hh.2.1, hh.2.2]
    decide
  · rcases List.mem_append.1 hy with e | e
    · exact hyr y e
    · exact h.ev y e
/-- one of so many tags is new -/
theorem Paid1.tag {s : Int} {g : Nat} {xs : List Cel} {nx : Int} {ys : List (Int × Int)} {r : Int} {L : List CoinD} {ex : List (Int × Int)} {ch : Int} (h : Paid1 s g xs nx ys r L ex ch) (hd : Dp s g xs) (hs : Mk.isM s = true) (hg2 : g ≤ 20) (hy1 : 1 ≤ ys.length) (hy7 : ys.length ≤ 7) (hyr : ∀ y ∈ ys, rOut y = true) (hl : xs.length ≤ 24) (hall : ∀ j : Nat, j ≤ xs.length → payZ xs s g [] [] nx ys r (j : Int) = .inl 4) : False := by
  have hin : ∀ j, j < xs.length + 1 → idZ (j : Int) (L.map CoinD.inD) (ys ++ ex) ∈ xs.map Cel.id := fun j hj => by
    have h3 := hall j (by omega)
    rw [h.pay (j : Int) (by omega) (by omega)] at h3
    unfold payFin at h3
    split at h3
    · rename_i h4
      unfold hasId at h4
      rw [List.any_eq_true] at h4
      obtain ⟨x, hx, e⟩ := h4
      rw [beq_iff_eq] at e
      rw [← e]
      exact List.mem_map_of_mem hx
    · cases h3
  have := pigeon (xs.length + 1) (xs.map Cel.id) (fun j => idZ (j : Int) (L.map CoinD.inD) (ys ++ ex)) hin (fun i j hij hj => by
    have r1 := h.right hd hs hg2 hy1 hy7 hyr (i : Int) (by omega) (by omega)
    have r2 := h.right hd hs hg2 hy1 hy7 hyr (j : Int) (by omega) (by omega)
    show idZ _ _ _ ≠ idZ _ _ _
    unfold idZ
    rw [if_pos r1, if_pos r2]
    exact fun e => id_tag (i : Int) (j : Int) (L.map CoinD.inD) (ys ++ ex) (by omega) (by omega) (by omega) e.symm)
  rw [List.length_map] at this
  omega
theorem unp_full {xs : List Cel} {s : Int} {g : Nat} (h : unpZ xs s g 0 = none) {i : Nat} (hi : i < winZ xs s g 1) : ((xs.map Cel.kept).any fun c => c.tt == Mk.adr s 1 (i : Int)) = true := by
  unfold unpZ at h
  rw [List.find?_eq_none] at h
  have hm : (⟨1, (i : Int), Mk.adr s 1 (i : Int)⟩ : KeyD) ∈ keysZ xs s g := by
    unfold keysZ keysB
    rw [List.mem_append]
    exact Or.inr (List.mem_map.2 ⟨i, List.mem_range.2 hi, rfl⟩)
  have h1 := h _ hm
  unfold unpB at h1
  simp only [beq_self_eq_true, Bool.true_and, Bool.and_eq_true, decide_eq_true_iff, not_and] at h1
  have h2 := h1 (by omega)
  have h3 : paidTo xs (Mk.adr s 1 (i : Int)) = true := by simpa using h2
  unfold paidTo at h3
  rw [List.any_map]
  exact h3
end Go.Proofs.YtffgpepngcnjeabGreatQ

namespace Go.Proofs.YtffgpepngcnjeabGreatQ
open Go.RowKit
theorem below_dn {b : Nat} {w w' : World} (h : Below b w w') (n : Nat) : Below b w (w'.drewN n) := ⟨h.os, h.tape, h.output, h.size, h.block⟩
theorem info4 : (Tryz.prog.info? 4).map (fun i => (i.zero, i.size, i.bytes)) = some (some (.bool false), 1, 1) := by kernel_rfl
/-- a list of marks: which are gone -/
structure GoneAt (w : World) (G n : Nat) (gs : List Bool) : Prop where
  len : gs.length = n
  cell : ∀ j, j < n → w.cell? ⟨G, j, none⟩ = some (.bool (gs.getD j true))
  fz : ∀ j, w.frozen? ⟨G, j, none⟩ = false
theorem GoneAt.grown {w w' : World} {G n : Nat} {gs : List Bool} (h : GoneAt w G n gs) (hG : G < w.heap.size) (hb : Below w.heap.size w w') : GoneAt w' G n gs :=
  ⟨h.len, fun j hj => (hb.cell (p := ⟨G, j, none⟩) hG).trans (h.cell j hj), fun j => (hb.frozen (p := ⟨G, j, none⟩) hG).trans (h.fz j)⟩
theorem GoneAt.set {w : World} {G n : Nat} {gs : List Bool} (h : GoneAt w G n gs) (b : Nat) (hb : b < n) : GoneAt (w.setCell ⟨G, b, none⟩ (.bool true)) G n (gs.set b true) := by
  refine ⟨by rw [List.length_set]; exact h.len, fun j hj => ?_, fun j => by rw [World.frozen?_setCell]; exact h.fz j⟩
  by_cases e : j = b
  · subst e
    rw [World.cell?_setCell_same _ _ _ (h.cell j hj)]
    have := h.len
    simp [List.getD, show j < gs.length by omega]
  · rw [World.cell?_setCell_other _ _ _ _ (by intro e2; exact e (congrArg Addr.off e2).symm), h.cell j hj]
    simp [List.getD, show ¬ b = j from fun h => e h.symm]
theorem GoneAt.new (w : World) (n : Nat) : GoneAt (w.alloc (.cells (Go.madeCells #[Value.bool false] n) 4)) w.heap.size n (List.replicate n false) := by
  refine ⟨List.length_replicate, fun j hj => ?_, fun j => World.frozen?_alloc_at _ _ _ _ rfl⟩
  rw [World.cell?_alloc_new]
  have : (Go.madeCells #[Value.bool false] n)[j]? = some (Value.bool false) := by
    simp only [Go.madeCells, Array.getElem?_map]
    rw [Array.getElem?_eq_getElem (by simpa using hj)]
    simp [Nat.mod_one]
  simp [this, List.getD, hj]
theorem make_bools (n : Nat) (hn : n ≤ 1000000) : ∀ u : World, (Instr.makeSlice 105 (.int .i64 (n : Int)) (.int .i64 (n : Int))).run Tryz.prog u =
    .ok (.slice (some ⟨u.heap.size, 0, none⟩) n n) (u.alloc (.cells (Go.madeCells #[.bool false] n) 4)) := fun u => by
  obtain ⟨i0, hi, hz0, hz1, hz2⟩ := info_parts info4
  have h := run_make (P := Tryz.prog) u 105 4 i0 (.bool false) Tryz.underlying105 hi hz0 .i64 .i64 (n : Int) (n : Int) (by omega) (Int.le_refl _) (by rw [hz2]; omega) (by omega)
  have e : (n : Int).toNat = n := by omega
  rw [e] at h
  simpa [hz1, Value.cells] using h
/-- of the first k: the greatest that is not gone -/
def Bst (L : List CoinD) (gs : List Bool) (k : Nat) (bI : Int) : Prop :=
  (bI = -1 ∧ ∀ j, j < k → gs.getD j true = true) ∨
  ∃ b : Nat, bI = (b : Int) ∧ b < k ∧ gs.getD b true = false ∧ ∀ j, j < k → gs.getD j true = false → (L.getD j dN).val ≤ (L.getD b dN).val
theorem Bst.zero (L : List CoinD) (gs : List Bool) : Bst L gs 0 (-1) := Or.inl ⟨rfl, fun j hj => absurd hj (by omega)⟩
theorem Bst.skip {L : List CoinD} {gs : List Bool} {k : Nat} {bI : Int} (h : Bst L gs k bI) (hs : gs.getD k true = true) : Bst L gs (k + 1) bI := by
  rcases h with ⟨e, h⟩ | ⟨b, e, h1, h2, h3⟩
  · refine Or.inl ⟨e, fun j hj => ?_⟩
    by_cases ej : j = k
    · rw [ej]; exact hs
    · exact h j (by omega)
  · refine Or.inr ⟨b, e, by omega, h2, fun j hj hg => ?_⟩
    by_cases ej : j = k
    · rw [ej, hs] at hg; cases hg
    · exact h3 j (by omega) hg
theorem Bst.low {L : List CoinD} {gs : List Bool} {k b : Nat} (h : Bst L gs k (b : Int)) (hs : (L.getD k dN).val ≤ (L.getD b dN).val) : Bst L gs (k + 1) (b : Int) := by
  rcases h with ⟨e, h⟩ | ⟨b', e, h1, h2, h3⟩
  · omega
  · have : b = b' := by omega
    subst this
    refine Or.inr ⟨b, e, by omega, h2, fun j hj hg => ?_⟩
    by_cases ej : j = k
    · rw [ej]; exact hs
    · exact h3 j (by omega) hg
theorem Bst.first {L : List CoinD} {gs : List Bool} {k : Nat} (h : Bst L gs k (-1)) (hg : gs.getD k true = false) : Bst L gs (k + 1) (k : Int) := by
  rcases h with ⟨e, h⟩ | ⟨b', e, _⟩
  · refine Or.inr ⟨k, rfl, by omega, hg, fun j hj hg => ?_⟩
    by_cases ej : j = k
    · rw [ej]; exact Int.le_refl _
    · rw [h j (by omega)] at hg; cases hg
  · omega
theorem Bst.more {L : List CoinD} {gs : List Bool} {k b : Nat} (h : Bst L gs k (b : Int)) (hg : gs.getD k true = false) (hs : (L.getD b dN).val < (L.getD k dN).val) : Bst L gs (k + 1) (k : Int) := by
  rcases h with ⟨e, h⟩ | ⟨b', e, h1, h2, h3⟩
  · omega
  · have : b = b' := by omega
    subst this
    refine Or.inr ⟨k, rfl, by omega, hg, fun j hj hg => ?_⟩
    by_cases ej : j = k
    · rw [ej]; exact Int.le_refl _
    · have := h3 j (by omega) hg; omega
theorem Bst.bd {L : List CoinD} {gs : List Bool} {k : Nat} {bI : Int} (h : Bst L gs k bI) : bI = -1 ∨ ∃ b : Nat, bI = (b : Int) ∧ b < k := by
  rcases h with ⟨e, _⟩ | ⟨b, e, h1, _⟩
  · exact Or.inl e
  · exact Or.inr ⟨b, e, h1⟩
/-- what is taken so far -/
structure EnI (r : Int) (cs : List CoinD) (gs : List Bool) (k : Nat) (S : Int) : Prop where
  gl : gs.length = cs.length
  rl : (remG gs (cs.map (worthZ r))).length + k = cs.length
  gr : ∀ T, Gr (10 - k) (remG gs (cs.map (worthZ r))) T → Gr 10 (cs.map (worthZ r)) (S + T)
  bd : 0 ≤ S ∧ S ≤ 1099511627776 * (k : Int)
theorem EnI.zero (r : Int) (cs : List CoinD) : EnI r cs (List.replicate cs.length false) 0 0 := by
  have e : remG (List.replicate cs.length false) (cs.map (worthZ r)) = cs.map (worthZ r) := by
    have := rem_all (cs.map (worthZ r))
    rwa [List.length_map] at this
  refine ⟨List.length_replicate, by rw [e, List.length_map]; omega, fun T hT => ?_, by omega⟩
  rw [e] at hT
  rw [Int.zero_add]
  exact hT
theorem map_getD (r : Int) (cs : List CoinD) (j : Nat) (h : j < cs.length) : (cs.map (worthZ r)).getD j 0 = worthZ r (cs.getD j dN) := by
  simp [List.getD, h]
theorem EnI.step {r : Int} {cs : List CoinD} {gs : List Bool} {k : Nat} {S : Int} (h : EnI r cs gs k S) (hk : k < 10) (hr : 0 ≤ r) (hv : ∀ x ∈ cs, 0 ≤ x.val ∧ x.val ≤ 1099511627776) {b : Nat} (hb : Bst cs gs cs.length (b : Int)) : EnI r cs (gs.set b true) (k + 1) (S + mx0 (worthZ r (cs.getD b dN))) := by
  rcases hb with ⟨e, _⟩ | ⟨b', e, h1, h2, h3⟩
  · omega
  · have : b = b' := by omega
    subst this
    have hgl := h.gl
    have hl : gs.length = (cs.map (worthZ r)).length := by rw [List.length_map]; exact hgl
    have hlen := rem_len hl (by omega) h2
    have hrl := h.rl
    have hvb := hv (cs.getD b dN) (getD_mem cs dN b h1)
    have hbd := h.bd
    refine ⟨by rw [List.length_set]; exact hgl, by omega, fun T hT => ?_, ?_⟩
    · have h4 : Gr (10 - (k + 1) + 1) (remG gs (cs.map (worthZ r))) _ := gr_pick hl (by omega) h2 (fun j hj hg => by
        have hj2 : j < cs.length := by omega
        rw [map_getD r cs j hj2, map_getD r cs b h1]
        have := h3 j hj2 hg
        unfold worthZ
        omega) hT
      rw [show 10 - (k + 1) + 1 = 10 - k by omega, map_getD r cs b h1] at h4
      have := h.gr _ h4
      rw [Int.add_assoc]
      exact this
    · have h5 : 0 ≤ mx0 (worthZ r (cs.getD b dN)) ∧ mx0 (worthZ r (cs.getD b dN)) ≤ 1099511627776 := by
        unfold mx0 worthZ
        split <;> omega
      push_cast
      omega
theorem EnI.some {r : Int} {cs : List CoinD} {gs : List Bool} {k : Nat} {S : Int} (h : EnI r cs gs k S) (hk : k < cs.length) {bI : Int} (hb : Bst cs gs cs.length bI) : ∃ b : Nat, bI = (b : Int) ∧ b < cs.length := by
  rcases hb with ⟨_, hn⟩ | ⟨b, e, h1, _⟩
  · have hgl := h.gl
    have := rem_none (gs := gs) (vs := cs.map (worthZ r)) (by rw [List.length_map]; exact hgl) (fun j hj => hn j (by omega))
    have hrl := h.rl
    rw [this, List.length_nil] at hrl
    omega
  · exact ⟨b, e, h1⟩
theorem EnI.done {r : Int} {cs : List CoinD} {gs : List Bool} {k : Nat} {S : Int} (h : EnI r cs gs k S) (hk : k = 10 ∨ k = cs.length) : S = wsum r ((orderZ r cs).take 10) := by
  have hT : Gr (10 - k) (remG gs (cs.map (worthZ r))) 0 := by
    rcases hk with e | e
    · subst e; exact Gr.zero _
    · have hrl := h.rl
      have : remG gs (cs.map (worthZ r)) = [] := List.length_eq_zero_iff.1 (by omega)
      rw [this]
      exact Gr.nil _
  have := gr_order r 10 cs _ (h.gr 0 hT)
  rw [Int.add_zero] at this
  exact this
set_option maxRecDepth 100000 in
set_option maxHeartbeats 4000000 in
theorem enough_any (al : Option Addr) (n cl : Nat) (cs : List CoinD) (ap : Option Addr) (m d : Nat) (ys : List (Int × Int)) (r : Int) (w : World) (hc : RecAt CoinD.l w al cs) (hcn : cs.length = n) (hcm : n ≤ 1000) (hv : ∀ x ∈ cs, 0 ≤ x.val ∧ x.val ≤ 1099511627776) (hy : OutsAt w ap ys) (hyn : ys.length = m) (hym : m ≤ 100) (hyv : ∀ y ∈ ys, 0 ≤ y.2 ∧ y.2 ≤ 1099511627776) (hr : 0 ≤ r ∧ r ≤ 1000) :
    Calls Tryz.prog 14 #[.slice al n cl, .slice ap m d, .int .i64 r] w fun e w' => e = .returned (.bool (decide (targetZ ys r ≤ wsum r ((orderZ r cs).take 10)))) ∧ Below w.heap.size w w' := by
  have HX : Hid (OutsAt w ap ys) := hy
  have HN : Hid (ys.length = m) := hyn
  have HB : Hid (∀ y ∈ ys, 0 ≤ y.2 ∧ y.2 ≤ 1099511627776) := hyv
  have HC : Hid (RecAt CoinD.l w al cs) := hc
  have HCN : Hid (cs.length = n) := hcn
  have HV : Hid (∀ x ∈ cs, 0 ≤ x.val ∧ x.val ≤ 1099511627776) := hv
  clear hy hyn hyv hc hcn hv
  have hrn : 0 ≤ r * (3 + 2 * (m : Int)) ∧ r * (3 + 2 * (m : Int)) ≤ 203000 := ⟨Int.mul_nonneg hr.1 (by omega), by
    have h1 : r * (3 + 2 * (m : Int)) ≤ 1000 * (3 + 2 * (m : Int)) := Int.mul_le_mul_of_nonneg_right hr.2 (by omega)
    omega⟩
  have hw3 : IntKind.i64.wrap (r * (3 + 2 * (m : Int))) = r * (3 + 2 * (m : Int)) := IntWalk.i64_in _ ⟨by omega, by omega⟩
  have HT : Hid (targetZ ys r = r * (3 + 2 * (m : Int)) + sumOu ys) := by show _ = _; unfold targetZ; rw [HN.out]
  go_enter Tryz.func14, Tryz.ntmps14
  go_wp2_with (go_at_call 36; refine (fSize_any 0 m _ (by omega) (by omega)).mono ?_; rintro e w' ⟨rfl, rfl⟩; rw [show (3 : Int) + 7 * ((0 : Nat) : Int) + 2 * (m : Int) = 3 + 2 * (m : Int) by omega])
  generalize r * (3 + 2 * (m : Int)) = F at *
  clear hw3
  go_loopw [7, 8] (fun v i wr => ∃ (k : Nat) (T : Int), k ≤ m ∧ i = .int .i64 k ∧ v = .int .i64 T ∧ Hid (F + ((ys.take k).map Prod.snd).sum = T) ∧ Below w.heap.size w wr) (fun _ i _ => m - (intOf i).toNat)
  case atStart => exact ⟨0, F, Nat.zero_le _, rfl, rfl, by show F + _ = F; simp, Below.refl _ _⟩
  case round =>
    obtain ⟨k, T, hk, rfl, rfl, hT, hbl⟩ := hrel
    have hsz := hbl.size
    by_cases hlt : k < m
    · rcases HX.out with hnil | ⟨gg, off, rfl, hrow⟩
      · have := HN.out; rw [hnil] at this; simp at this; omega
      obtain ⟨c0, c1⟩ := (hrow.grown hbl) k (by rw [HN.out]; exact hlt)
      have HS : Hid _ := sum_snoc Prod.snd ys (0, 0) k (by rw [HN.out]; exact hlt)
      have hSb := sum_bd Prod.snd 1099511627776 (ys.take k) (fun x hx => HB.out x (List.mem_of_mem_take hx))
      have hyb := HB.out (ys.getD k (0, 0)) (getD_mem ys (0, 0) k (by rw [HN.out]; exact hlt))
      have hl2 : (ys.take k).length ≤ 100 := by rw [List.length_take]; omega
      have hT2 : 0 ≤ T ∧ T ≤ 120000000000000 := by have := hT.out; omega
      clear hrow hSb hl2
      generalize ys.getD k (0, 0) = y at c0 c1 HS hyb
      obtain ⟨y0, y1⟩ := y
      simp only at c0 c1 hyb
      go_wp2
      go_roundw
      case rel => exact ⟨k + 1, T + y1, by omega, by go_num, rfl, by show _ = _; rw [HS.out, ← Int.add_assoc, hT.out], hbl⟩
      case measure => simp [intOf]; omega
    · have HSe : Hid (targetZ ys r = T) := by show _ = _; rw [HT.out, ← hT.out, List.take_of_length_le (by rw [HN.out]; omega)]; rfl
      have hSb := sum_bd Prod.snd 1099511627776 (ys.take k) (fun x hx => HB.out x (List.mem_of_mem_take hx))
      have hl2 : (ys.take k).length ≤ 100 := by rw [List.length_take]; omega
      have hT2 : 0 ≤ T ∧ T ≤ 120000000000000 := by have := hT.out; omega
      obtain ⟨w1, rfl⟩ : ∃ w1 : World, w1 = wr := ⟨_, rfl⟩
      clear hSb hl2 hT HT HX HN HB
      have hmk := make_bools n (by omega)
      have HG0 : Hid (GoneAt (w1.alloc (.cells (Go.madeCells #[Value.bool false] n) 4)) w1.heap.size n (List.replicate n false)) := GoneAt.new w1 n
      have HB0 : Hid (Below w1.heap.size w1 (w1.alloc (.cells (Go.madeCells #[Value.bool false] n) 4))) := (Below.refl _ _).alloc (Nat.le_refl _) _
      have HS0 : Hid ((w1.alloc (.cells (Go.madeCells #[Value.bool false] n) 4)).heap.size = w1.heap.size + 1) := by show _ = _; simp
      have HC1 : Hid (RecAt CoinD.l w1 al cs) := HC.out.grown hbl
      have HE0 : Hid (EnI r cs (List.replicate n false) 0 0) := by have := EnI.zero r cs; rw [HCN.out] at this; exact this
      go_wp2
      generalize w1.alloc (.cells (Go.madeCells #[Value.bool false] n) 4) = w2 at *
      generalize hGe : w1.heap.size = G at *
      have HGe : Hid (w1.heap.size = G) := hGe
      clear hGe hmk HC
      go_loopw [7, 10] (fun v i wr => ∃ (q : Nat) (S : Int) (gs : List Bool), q ≤ 10 ∧ q ≤ n ∧ i = .int .i64 q ∧ v = .int .i64 (T - S) ∧ Hid (EnI r cs gs q S) ∧ Hid (GoneAt wr G n gs) ∧ Hid (Below G w1 wr) ∧ G < wr.heap.size) (fun _ i _ => 10 - (intOf i).toNat)
      case atStart => exact ⟨0, 0, _, by omega, by omega, rfl, by rw [Int.sub_zero], HE0.out, HG0.out, HB0.out, by have := HS0.out; omega⟩
      case round =>
        obtain ⟨q, S, gs, hq, hqn, rfl, rfl, hE, hgo, hbw, hGl⟩ := hrel
        have hSb := hE.out.bd
        by_cases hlt : q < 10 ∧ q < n
        · obtain ⟨hq10, hqn'⟩ := hlt
          have hqI : (q : Int) < (n : Int) := by omega
          have hqI2 : (q : Int) < 10 := by omega
          obtain ⟨wo, rfl⟩ : ∃ wo : World, wo = wr := ⟨_, rfl⟩
          go_wp2
          go_loopw [11, 12] (fun bv kv wr => ∃ (k : Nat) (bI : Int), k ≤ n ∧ kv = .int .i64 k ∧ bv = .int .i64 bI ∧ Hid (Bst cs gs k bI) ∧ Below wo.heap.size wo wr) (fun _ kv _ => n - (intOf kv).toNat)
          case atStart => exact ⟨0, -1, Nat.zero_le _, rfl, rfl, Bst.zero _ _, Below.refl _ _⟩
          case round =>
            obtain ⟨k, bI, hk, rfl, rfl, hb, hbi⟩ := hrel
            have hszo := hbi.size
            have HB1 : Hid (Below w1.heap.size w1 wr) := by rw [HGe.out]; exact hbw.out.trans (hbi.mono (by omega))
            have hGr : G < wr.heap.size := by omega
            have HG1 : Hid (GoneAt wr G n gs) := hgo.out.grown hGl hbi
            by_cases hlt : k < n
            · have hkl : k < cs.length := by rw [HCN.out]; exact hlt
              have hbd := hb.out.bd
              rcases HC1.out.grown HB1.out with hnil | ⟨gc, oc, rfl, hrow⟩
              · rw [hnil] at hkl; simp at hkl
              obtain ⟨e0, e1, e2, e3, e4, e5⟩ := coinCells hrow k hkl
              have HROW : Hid (VRow wr gc oc (cs.flatMap CoinD.l)) := hrow
              have gk := HG1.out.cell k hlt
              have HSK : Hid (gs.getD k true = true → Bst cs gs (k + 1) bI) := fun h => hb.out.skip h
              have HFI : Hid (bI = -1 → gs.getD k true = false → Bst cs gs (k + 1) (k : Int)) := fun e h => by subst e; exact hb.out.first h
              have HLO : Hid (∀ b : Nat, bI = (b : Int) → (cs.getD k dN).val ≤ (cs.getD b dN).val → Bst cs gs (k + 1) bI) := fun b e h => by subst e; exact hb.out.low h
              have HMO : Hid (∀ b : Nat, bI = (b : Int) → gs.getD k true = false → (cs.getD b dN).val < (cs.getD k dN).val → Bst cs gs (k + 1) (k : Int)) := fun b e h1 h => by subst e; exact hb.out.more h1 h
              have hkI : (k : Int) < (n : Int) := by omega
              have hk0 : (0 : Int) ≤ (k : Int) := by omega
              clear hrow hb
              generalize (cs.getD k dN).val = yv at *
              generalize gs.getD k true = gn at *
              clear e0 e1 e2 e4 e5
              cases gn
              · rcases hbd with rfl | ⟨b, rfl, hbk⟩
                · go_wp2
                  go_quiet (fail)
                  go_wp2
                  go_roundw
                  case rel => exact ⟨k + 1, k, by omega, by go_num, rfl, HFI.out (by first | trivial | rfl) (by first | trivial | rfl), below_dn hbi _⟩
                  case measure => simp [intOf]; omega
                · have hbl2 : b < cs.length := by rw [HCN.out]; omega
                  obtain ⟨_, _, _, b3, _, _⟩ := coinCells HROW.out b hbl2
                  have hbI : (b : Int) < (n : Int) := by omega
                  have hb0 : (0 : Int) ≤ (b : Int) := by omega
                  have hbn : decide ((b : Int) < 0) = false := decide_eq_false (by omega)
                  have HLO1 : Hid _ := HLO.out b rfl
                  have HMO1 : Hid _ := HMO.out b rfl
                  clear HLO HMO HFI HSK
                  generalize (cs.getD b dN).val = bv at *
                  by_cases hgt : bv < yv
                  · have hgd : decide (bv < yv) = true := decide_eq_true hgt
                    go_wp2
                    go_quiet (fail)
                    go_wp2
                    go_roundw
                    case rel => exact ⟨k + 1, k, by omega, by go_num, rfl, HMO1.out (by first | trivial | rfl) hgt, below_dn hbi _⟩
                    case measure => simp [intOf]; omega
                  · have hgd : decide (bv < yv) = false := decide_eq_false hgt
                    go_wp2
                    go_quiet (fail)
                    go_wp2
                    go_roundw
                    case rel => exact ⟨k + 1, b, by omega, by go_num, rfl, HLO1.out (by omega), below_dn hbi _⟩
                    case measure => simp [intOf]; omega
              · go_wp2
                go_quiet (fail)
                go_wp2
                go_roundw
                case rel => exact ⟨k + 1, bI, by omega, by go_num, rfl, HSK.out (by first | trivial | rfl), below_dn hbi _⟩
                case measure => simp [intOf]; omega
            · have hkn : k = n := by omega
              subst hkn
              have hbC : Bst cs gs cs.length bI := by rw [HCN.out]; exact hb.out
              obtain ⟨b, rfl, hbl3⟩ := hE.out.some (by rw [HCN.out]; exact hqn') hbC
              have HE1 : Hid (EnI r cs (gs.set b true) (q + 1) (S + mx0 (worthZ r (cs.getD b dN)))) := hE.out.step hq10 hr.1 HV.out hbC
              have hbk : b < k := by rw [HCN.out] at hbl3; exact hbl3
              rcases HC1.out.grown HB1.out with hnil | ⟨gc, oc, rfl, hrow⟩
              · rw [hnil] at hbl3; simp at hbl3
              obtain ⟨e0, e1, e2, e3, e4, e5⟩ := coinCells hrow b hbl3
              have hgcG : gc ≠ G := by
                have h6 : gc < w1.heap.size := by
                  rcases HC1.out with hn2 | ⟨g3, o3, e3', hr3⟩
                  · rw [hn2] at hbl3; simp at hbl3
                  · injection e3' with e3'
                    injection e3' with e3' _ _
                    subst e3'
                    exact cell_lt (coinCells hr3 b hbl3).1
                rw [HGe.out] at h6
                omega
              have hvb := HV.out (cs.getD b dN) (getD_mem cs dN b hbl3)
              have gk := HG1.out.cell b hbk
              have gf := HG1.out.fz b
              have HG2 : Hid (GoneAt (wr.setCell ⟨G, b, none⟩ (.bool true)) G k (gs.set b true)) := HG1.out.set b hbk
              have HB2 : Hid (Below G w1 (wr.setCell ⟨G, b, none⟩ (.bool true))) := by have := HB1.out; rw [HGe.out] at this; exact this.setCell (Nat.le_refl _) _
              have hS2 : (wr.setCell ⟨G, b, none⟩ (.bool true)).heap.size = wr.heap.size := by simp
              have q3 : (wr.setCell ⟨G, b, none⟩ (.bool true)).cell? ⟨gc, oc + b * 6 + 3, none⟩ = some (.int .i64 (cs.getD b dN).val) := sob e3 hgcG
              have hbI : (b : Int) < (k : Int) := by omega
              have hb0 : (0 : Int) ≤ (b : Int) := by omega
              have hbn : decide ((b : Int) < 0) = false := decide_eq_false (by omega)
              have HWD : Hid (worthZ r (cs.getD b dN) = (cs.getD b dN).val - 7 * r) := rfl
              clear hrow hb hbC e0 e1 e2 e3 e4 e5 hgo hE HG1 HB1 hbw
              rw [HWD.out] at HE1
              generalize (cs.getD b dN).val = yv at *
              have hw1 : IntKind.i64.wrap (7 * r) = 7 * r := IntWalk.i64_in _ ⟨by omega, by omega⟩
              have hw2 : IntKind.i64.wrap (yv - 7 * r) = yv - 7 * r := IntWalk.i64_in _ ⟨by omega, by omega⟩
              have hm0 : mx0 (yv - 7 * r) = if 0 < yv - 7 * r then yv - 7 * r else 0 := rfl
              have HM0 : Hid (mx0 (yv - 7 * r) = if 0 < yv - 7 * r then yv - 7 * r else 0) := hm0
              clear hm0
              go_upto_region 18 with fail
              generalize wr.setCell ⟨G, b, none⟩ (.bool true) = w5 at *
              clear gk gf
              have hSb2 : S ≤ 10995116277760 := by omega
              by_cases hp : 0 < yv - 7 * r
              · have hw4 : IntKind.i64.wrap (T - S - (yv - 7 * r)) = T - S - (yv - 7 * r) := IntWalk.i64_in _ ⟨by omega, by omega⟩
                have HE2 : Hid (EnI r cs (gs.set b true) (q + 1) (S + (yv - 7 * r))) := by have := HE1.out; rw [HM0.out, if_pos hp] at this; exact this
                go_wp2
                go_roundw
                case rel => exact ⟨q + 1, S + (yv - 7 * r), gs.set b true, by omega, by omega, by go_num, by rw [← Int.sub_sub], HE2.out, HG2.out, HB2.out, by omega⟩
                case measure => simp [intOf]; omega
              · have HE2 : Hid (EnI r cs (gs.set b true) (q + 1) S) := by have := HE1.out; rw [HM0.out, if_neg hp, Int.add_zero] at this; exact this
                have hpd : decide (0 < yv - 7 * r) = false := decide_eq_false hp
                go_wp2
                go_roundw
                case rel => exact ⟨q + 1, S, gs.set b true, by omega, by omega, by go_num, rfl, HE2.out, HG2.out, HB2.out, by omega⟩
                case measure => simp [intOf]; omega
        · have HD : Hid (S = wsum r ((orderZ r cs).take 10)) := hE.out.done (by rw [HCN.out]; omega)
          have HBF : Hid (Below w.heap.size w wr) := hbl.trans (by have := hbw.out; rw [← HGe.out] at this; exact this.mono (by rw [HGe.out]; exact hsz))
          have HFI : Hid (decide (targetZ ys r ≤ wsum r ((orderZ r cs).take 10)) = decide (T - S ≤ 0)) := by
            show _ = _
            rw [HSe.out, ← HD.out]
            by_cases h : T ≤ S
            · rw [decide_eq_true h, decide_eq_true (show T - S ≤ 0 by omega)]
            · rw [decide_eq_false h, decide_eq_false (show ¬ T - S ≤ 0 by omega)]
          by_cases h10 : q < 10
          · have hqI : ¬ (q : Int) < (n : Int) := by omega
            have hqI2 : (q : Int) < 10 := by omega
            go_wp2
            go_ret
            exact ⟨ret_bool HFI.out.symm, HBF.out⟩
          · have hqI2 : ¬ (q : Int) < 10 := by omega
            go_wp2
            go_ret
            exact ⟨ret_bool HFI.out.symm, HBF.out⟩
end Go.Proofs.YtffgpepngcnjeabGreatQ
