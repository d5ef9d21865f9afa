/-
  The blocks that were taken, and the chains ahead of each.
  No two outputs of the chain have one name.
  A book of payments: what a payment is, of any purse.
  Package payments: Sign, what it calls: find, hasAll, anySealed; package chain: HasCoin.
  Package payments: Sign: hasAll, anySealed.
  Package payments: Sign: addSealed.
  Package key: Seal: a list of its own.
  Package payments: Sign: sealedIns.
  Package payments: Sign: where the payment lies; it is marked as signed.
  Package payments: Sign.
-/
import Derived.Test.YtffgpepngcnjeabGreatQNan
import Derived.Test.YtffgpepngcnjeabGreatQNah
import Derived.Test.YtffgpepngcnjeabGreatQNac
import Derived.Test.YtffgpepngcnjeabGreatQNak
import Derived.Test.YtffgpepngcnjeabGreatQNaj
import Derived.Test.YtffgpepngcnjeabGreatQNaa
namespace Go.Proofs.YtffgpepngcnjeabGreatQ
open Go.RowKit
/-- the blocks that were taken, and the chains ahead of each -/
def Hst : Nat → List Cel → List (List TxD) → List (List Cel) → Prop
  | 0, xs, bls, ps => xs = [] ∧ bls = [] ∧ ps = []
  | h + 1, xs, bls, ps => ∃ p bls0 ps0 bl, bls = bls0 ++ [bl] ∧ ps = ps0 ++ [p] ∧ Hst h p bls0 ps0 ∧ connZ h p bl = (0, 0, (h : Int) + 1, xs)
theorem Hst.facts : ∀ (h : Nat) (xs : List Cel) (bls : List (List TxD)) (ps : List (List Cel)), Hst h xs bls ps → Und h xs ∧ Vals xs ∧ xs.length ≤ 48 * h ∧ h ≤ 40 ∧ bls.length = h ∧ ps.length = h := by
  intro h
  induction h with
  | zero =>
    intro xs bls ps hh
    obtain ⟨rfl, rfl, rfl⟩ := hh
    exact ⟨fun x hx => by simp at hx, fun x hx => by simp at hx, by simp, by omega, rfl, rfl⟩
  | succ h ih =>
    intro xs bls ps hh
    obtain ⟨p, bls0, ps0, bl, rfl, rfl, h0, hc⟩ := hh
    obtain ⟨a1, a2, a3, a4, a5, a6⟩ := ih p bls0 ps0 h0
    have e1 : (connZ h p bl).1 = 0 := by rw [hc]
    obtain ⟨b1, b2⟩ := conn_len h p bl a2 e1
    rcases conn_cases h p bl a1 (by omega) with ⟨c1, _⟩ | ⟨c1, _, _, _, c5⟩
    · exact absurd e1 c1
    · rw [hc] at b1 b2 c5
      simp only at b1 b2 c5
      refine ⟨by have := a1.over c5 (by omega); push_cast; exact this, b1, by omega, by omega, by simp [a5], by simp [a6]⟩
theorem hst_last {h : Nat} {xs : List Cel} {bls : List (List TxD)} {ps : List (List Cel)} (hh : Hst (h + 1) xs bls ps) : ∃ p bls0 ps0 bl, bls = bls0 ++ [bl] ∧ ps = ps0 ++ [p] ∧ Hst h p bls0 ps0 ∧ connZ h p bl = (0, 0, (h : Int) + 1, xs) ∧ tbZ h xs = p := by
  obtain ⟨p, bls0, ps0, bl, e1, e2, h0, hc⟩ := hh
  refine ⟨p, bls0, ps0, bl, e1, e2, h0, hc, ?_⟩
  obtain ⟨a1, _⟩ := Hst.facts h p bls0 ps0 h0
  rcases conn_cases h p bl a1 (by omega) with ⟨c1, _⟩ | ⟨_, _, _, _, c5⟩
  · rw [hc] at c1; simp at c1
  · rw [hc] at c5
    exact tb_over c5
end Go.Proofs.YtffgpepngcnjeabGreatQ

namespace Go.Proofs.YtffgpepngcnjeabGreatQ
open Go.RowKit
def Cel.nm (x : Cel) : Int × Int := (x.id, x.pos)
theorem markZ_nm (h : Int) : ∀ (ss : List SpD) (xs : List Cel), (markZ h xs ss).map Cel.nm = xs.map Cel.nm := by
  intro ss
  induction ss with
  | nil => intro xs; rfl
  | cons s r ih =>
    intro xs
    rw [markZ, ih]
    by_cases hq : s.pl.toNat < xs.length
    · exact set_map_same Cel.nm xs _ _ dC hq rfl
    · rw [List.set_eq_of_length_le (by omega)]
theorem addZ_nm (xs : List Cel) (h t : Int) (ins : List InD) (ys : List (Int × Int)) (first : Bool) (hn : (xs.map Cel.nm).Nodup) : ((addZ xs h t ins ys first).2.map Cel.nm).Nodup := by
  rcases addZ_cases xs h t ins ys first with ⟨_, h2⟩ | ⟨_, _, h3, ss, _, _, _, he⟩
  · rw [h2]; exact hn
  · rw [he]
    show ((markZ h xs ss ++ newC (idZ t ins ys) h ys ys.length).map Cel.nm).Nodup
    rw [List.map_append, markZ_nm, List.nodup_append]
    refine ⟨hn, ?_, fun a ha b hb e => ?_⟩
    · unfold newC
      rw [List.map_map]
      refine List.pairwise_map.2 (List.Pairwise.imp ?_ List.nodup_range)
      intro i j hij e
      have := congrArg Prod.snd e
      simp only [Function.comp, Cel.nm] at this
      omega
    · obtain ⟨x, hx, rfl⟩ := List.mem_map.1 ha
      obtain ⟨y, hy, rfl⟩ := List.mem_map.1 hb
      unfold newC at hy
      obtain ⟨j, _, rfl⟩ := List.mem_map.1 hy
      have e1 : x.id = idZ t ins ys := congrArg Prod.fst e
      unfold hasId at h3
      rw [List.any_eq_false] at h3
      exact h3 x hx (by rw [e1]; simp)
theorem go_nm (h : Int) : ∀ (bl : List TxD) (xs : List Cel) (i : Nat), (xs.map Cel.nm).Nodup → (connGo h xs bl i).1 = 0 → ((connGo h xs bl i).2.2.map Cel.nm).Nodup := by
  intro bl
  induction bl with
  | nil => intro xs i hv _; exact hv
  | cons t r ih =>
    intro xs i hv
    unfold connGo
    by_cases e : (addZ xs h t.t t.ins t.ys (i == 0)).1 ≠ 0
    · rw [if_pos e]
      intro h0
      exact absurd h0 e
    · rw [if_neg e]
      intro h0
      exact ih _ _ (addZ_nm xs h t.t t.ins t.ys (i == 0) hv) h0
theorem Hst.nm : ∀ (h : Nat) (xs : List Cel) (bls : List (List TxD)) (ps : List (List Cel)), Hst h xs bls ps → (xs.map Cel.nm).Nodup := by
  intro h
  induction h with
  | zero =>
    intro xs bls ps hh
    obtain ⟨rfl, rfl, rfl⟩ := hh
    exact List.nodup_nil
  | succ h ih =>
    intro xs bls ps hh
    obtain ⟨p, bls0, ps0, bl, rfl, rfl, h0, hc⟩ := hh
    have h1 := ih p bls0 ps0 h0
    unfold connZ at hc
    split at hc
    · injection hc with hc _; omega
    · split at hc
      · injection hc with hc _; omega
      · split at hc
        · rename_i e
          injection hc with hc _
          exact absurd hc e
        · rename_i e
          injection hc with _ hc
          injection hc with _ hc
          injection hc with _ hc
          rw [← hc]
          exact go_nm _ bl p 0 h1 (by simpa using e)
/-- a chain that came to be block by block -/
def Chn (h : Nat) (xs : List Cel) : Prop := ∃ bls ps, Hst h xs bls ps
theorem Chn.zero : Chn 0 [] := ⟨[], [], rfl, rfl, rfl⟩
theorem Chn.facts {h : Nat} {xs : List Cel} (u : Chn h xs) : Vals xs ∧ xs.length ≤ 1920 ∧ h ≤ 40 ∧ (xs.map Cel.nm).Nodup := by
  obtain ⟨bls, ps, hh⟩ := u
  obtain ⟨_, a2, a3, a4, _, _⟩ := Hst.facts h xs bls ps hh
  exact ⟨a2, by omega, a4, Hst.nm h xs bls ps hh⟩
theorem Chn.conn {h : Nat} {xs : List Cel} (u : Chn h xs) (bl : List TxD) : ∃ h' : Nat, (connZ h xs bl).2.2.1 = (h' : Int) ∧ Chn h' (connZ h xs bl).2.2.2 := by
  obtain ⟨bls, ps, hh⟩ := u
  obtain ⟨a1, _⟩ := Hst.facts h xs bls ps hh
  rcases conn_cases h xs bl a1 (by omega) with ⟨_, c2⟩ | ⟨c1, c2, c3, c4, _⟩
  · have e1 : (connZ h xs bl).2.2.1 = (h : Int) := by rw [c2]
    have e2 : (connZ h xs bl).2.2.2 = xs := by rw [c2]
    exact ⟨h, e1, by rw [e2]; exact ⟨bls, ps, hh⟩⟩
  · refine ⟨h + 1, by rw [c4]; push_cast; rfl, bls ++ [bl], ps ++ [xs], xs, bls, ps, bl, rfl, rfl, hh, ?_⟩
    have : connZ h xs bl = ((connZ h xs bl).1, (connZ h xs bl).2.1, (connZ h xs bl).2.2.1, (connZ h xs bl).2.2.2) := rfl
    rw [this, c2, c3, c4]
theorem Chn.dis {h : Nat} {xs : List Cel} (u : Chn (h + 1) xs) : Chn h (tbZ h xs) := by
  obtain ⟨bls, ps, hh⟩ := u
  obtain ⟨p, bls0, ps0, bl, _, _, h0, _, h2⟩ := hst_last hh
  exact ⟨bls0, ps0, by rw [h2]; exact h0⟩
end Go.Proofs.YtffgpepngcnjeabGreatQ

namespace Go.Proofs.YtffgpepngcnjeabGreatQ
open Go.RowKit
def CoinD.nm (x : CoinD) : Int × Int := (x.id, x.pos)
def CoinC.nm (x : CoinC) : Int × Int := (x.id, x.pos)
theorem ownFold_nm (ks : List KeyD) : ∀ (l : List CoinC) (acc : List CoinD), (l.map CoinC.nm ++ acc.map CoinD.nm).Nodup → ((l.foldl (ownStep ks) acc).map CoinD.nm).Nodup := by
  intro l
  induction l with
  | nil => intro acc h; simpa using h
  | cons x t ih =>
    intro acc h
    rw [List.foldl_cons]
    refine ih _ ?_
    unfold ownStep
    split
    · rw [List.map_cons, List.cons_append] at h
      exact (List.nodup_cons.1 h).2
    · have hp : ((insZ false acc (coinK x (ks.getD (firstZ ks x.ad).toNat dK))).map CoinD.nm).Perm (x.nm :: acc.map CoinD.nm) := (insZ_perm false acc _).map CoinD.nm
      refine ((List.Perm.append_left _ hp).nodup_iff).2 ?_
      rw [List.map_cons, List.cons_append] at h
      exact (List.perm_middle.nodup_iff).2 h
theorem own_nm (xs : List Cel) (s : Int) (g : Nat) (h : (xs.map Cel.nm).Nodup) : ((ownOf xs s g).map CoinD.nm).Nodup := by
  refine ownFold_nm _ _ _ ?_
  rw [List.map_nil, List.append_nil]
  unfold coinsC
  rw [List.map_map]
  exact List.Nodup.sublist (List.Sublist.map Cel.nm List.filter_sublist) h
theorem nm_uq {l : List CoinD} (h : (l.map CoinD.nm).Nodup) : ∀ x ∈ l, ∀ y ∈ l, x.id = y.id → x.pos = y.pos → x = y := by
  induction l with
  | nil => intro x hx; cases hx
  | cons z t ih =>
    rw [List.map_cons, List.nodup_cons] at h
    intro x hx y hy e1 e2
    have e : x.nm = y.nm := Prod.ext e1 e2
    rcases List.mem_cons.1 hx with k1 | k1
    · rcases List.mem_cons.1 hy with k2 | k2
      · rw [k1, k2]
      · exact absurd (by rw [← k1, e]; exact List.mem_map_of_mem k2) h.1
    · rcases List.mem_cons.1 hy with k2 | k2
      · exact absurd (by rw [← k2, ← e]; exact List.mem_map_of_mem k1) h.1
      · exact ih h.2 x k1 y k2 e1 e2
/-- what a payment has -/
structure PayF (xs : List Cel) (s : Int) (g : Nat) (ps : List PayD) (ks : List (Int × Int)) (ys : List (Int × Int)) (cs : List CoinD) (zs : List (Int × Int)) : Prop where
  own : ∀ y ∈ cs, y ∈ ownOf xs s g ∧ freeB ps ks y = true
  l0 : 0 < cs.length
  l10 : cs.length ≤ 10
  nd : cs.Pairwise fun a b => ¬ (a.id = b.id ∧ a.pos = b.pos)
  zt : zs.take ys.length = ys
  zl : ys.length ≤ zs.length
  z8 : zs.length ≤ 8
  y7 : ys.length ≤ 7
theorem pay_facts {xs : List Cel} {s : Int} {g : Nat} {ps : List PayD} {ks : List (Int × Int)} {nx : Int} {ys : List (Int × Int)} {r tag : Int} {cs : List CoinD} {zs : List (Int × Int)} {ch : Int} (h : payZ xs s g ps ks nx ys r tag = .inr (cs, zs, ch)) (hn : (xs.map Cel.nm).Nodup) : PayF xs s g ps ks ys cs zs := by
  unfold payZ at h
  split at h
  · cases h
  rename_i hr
  split at h
  · cases h
  rename_i hy
  have hro : rOuts ys = true := by
    cases e : rOuts ys
    · exact absurd (Or.inr e) hy
    · rfl
  have hy7 : ys.length ≤ 7 := by
    by_cases e : 7 < ys.length
    · exact absurd (Or.inl e) hy
    · omega
  have hro2 := hro
  unfold rOuts at hro2
  rw [Bool.and_eq_true, decide_eq_true_iff, List.all_eq_true] at hro2
  have hpos : 0 < targetZ ys r := target_pos ys r (by omega) (by omega) (fun y hy => (rOut_bd (hro2.2 y hy)).2.1)
  split at h
  · cases h
  rename_i L c hc
  obtain ⟨s1, s2, s3, s4, s5⟩ := choose_some r _ _ hpos L c hc
  have hown : ∀ x ∈ L, x ∈ ownOf xs s g ∧ freeB ps ks x = true := fun x hx => List.mem_filter.1 (order_mem (s1.subset hx)).1
  have hnd : (L.map CoinD.nm).Nodup := by
    refine List.Nodup.sublist (List.Sublist.map _ s1) ?_
    refine (((order_perm r _).map CoinD.nm).nodup_iff).2 ?_
    refine List.Nodup.sublist (List.Sublist.map _ (List.Sublist.trans List.filter_sublist List.filter_sublist)) (own_nm xs s g hn)
  have hpw : L.Pairwise fun a b => ¬ (a.id = b.id ∧ a.pos = b.pos) := List.Pairwise.imp (fun h e => h (Prod.ext e.1 e.2)) (List.pairwise_map.1 hnd)
  have hl0 : 0 < L.length := List.length_pos_iff.2 s3
  have key : ∀ (ex : List (Int × Int)) (c2 : Int), ex.length ≤ 1 → payFin xs tag L (ys ++ ex) c2 = .inr (cs, zs, ch) → PayF xs s g ps ks ys cs zs := fun ex c2 he h => by
    unfold payFin at h
    split at h
    · cases h
    · injection h with h
      injection h with h1 h
      injection h with h2 h
      subst h1
      subst h2
      exact ⟨hown, hl0, s2, hpw, List.take_left, by rw [List.length_append]; omega, by rw [List.length_append]; omega, hy7⟩
  split at h
  · split at h
    · cases h
    · exact key _ _ (by simp) h
  · exact key [] _ (by simp) (by rw [List.append_nil]; exact h)
end Go.Proofs.YtffgpepngcnjeabGreatQ

namespace Go.Proofs.YtffgpepngcnjeabGreatQ
open Go.RowKit
/-- where the live payment of this number stands in the list -/
def pfindZ (ps : List PayD) (k : Int) : Int := idxOf (fun p : PayD => p.num == k) ps 0
set_option maxRecDepth 100000 in
set_option maxHeartbeats 2000000 in
theorem pFind_any (b o : Nat) (ao : Option Addr) (n c : Nat) (ps : List PayD) (k : Int) (w : World) (hp : w.cell? ⟨b, o, none⟩ = some (.slice ao n c)) (hx : RecAt PayD.v w ao ps) (hn : ps.length = n) (hm : n ≤ 1000000000000) :
    Calls Tryz.prog 88 #[.pointer (some ⟨b, o, none⟩), .int .i64 k] w fun e w' => e = .returned (.int .i64 (pfindZ ps k)) ∧ Below w.heap.size w w' := by
  have HN : Hid (ps.length = n) := hn
  have HX : Hid (RecAt PayD.v w ao ps) := hx
  clear hn hx
  go_enter Tryz.func88, Tryz.ntmps88
  go_wp2
  go_loopw [12] (fun i wr => ∃ j : Nat, j ≤ n ∧ i = .int .i64 j ∧ Hid (idxOf (fun p : PayD => p.num == k) (ps.drop j) j = pfindZ ps k) ∧ Below w.heap.size w wr) (fun i _ => n - (intOf i).toNat)
  case atStart => exact ⟨0, Nat.zero_le _, rfl, rfl, Below.refl _ _⟩
  case round =>
    obtain ⟨j, hj, rfl, hz, hbl⟩ := hrel
    have hsz := hbl.size
    by_cases hlt : j < n
    · rcases HX.out with hnil | ⟨g, off, rfl, hrow⟩
      · have := HN.out; rw [hnil] at this; simp at this; omega
      obtain ⟨c0, c1, c2, c3, c4⟩ := payCells (hrow.grown hbl) j (by rw [HN.out]; exact hlt)
      have HS : Hid _ := hz.out
      rw [idxOf_drop _ _ dP j j (by rw [HN.out]; exact hlt)] at HS
      clear hrow
      generalize ps.getD j dP = y at c0 c1 c2 c3 c4 HS
      obtain ⟨y0, y1, y2, y3, y4, y5, y6, y7, y8, y9, y10⟩ := y
      simp only at c0 c1 c2 c3 c4
      cases h1 : (y0 == k)
      · go_wp2
        go_roundw
        case rel => exact ⟨j + 1, by omega, by go_num, by show _ = _; have := HS.out; simp only [h1] at this; simpa using this, hbl.alloc hsz _⟩
        case measure => simp [intOf]; omega
      · go_wp2
        go_ret
        exact ⟨ret_int (by have := HS.out; simp only [h1] at this; simpa using this), hbl.alloc hsz _⟩
    · go_wp2
      go_ret
      refine ⟨ret_int ?_, hbl⟩
      rw [← hz.out, List.drop_of_length_le (by rw [HN.out]; omega)]
      rfl
/-- does the chain have this coin, of this address and value? -/
def hasCoinZ (xs : List Cel) (x : CoinD) : Bool := if findZ xs x.id x.pos < 0 then false else ((xs.getD (findZ xs x.id x.pos).toNat dC).to == x.tt && (xs.getD (findZ xs x.id x.pos).toNat dC).val == x.val)
set_option maxRecDepth 100000 in
set_option maxHeartbeats 2000000 in
theorem hasCoin_any (b o : Nat) (ao : Option Addr) (n c : Nat) (xs : List Cel) (x : CoinD) (w : World) (hp : w.cell? ⟨b, o, none⟩ = some (.slice ao n c)) (hx : CelsAt w ao xs) (hn : xs.length = n) (hm : n ≤ 1000000) :
    Calls Tryz.prog 144 #[.pointer (some ⟨b, o, none⟩), .agg #[.int .i64 x.id, .int .i64 x.pos, .int .i64 x.tt, .int .i64 x.val]] w fun e w' => e = .returned (.bool (hasCoinZ xs x)) ∧ Below w.heap.size w w' := by
  have HN : Hid (xs.length = n) := hn
  have HX : Hid (CelsAt w ao xs) := hx
  obtain ⟨x0, x1, x2, x3, x4, x5⟩ := x
  simp only
  have HZ : Hid (hasCoinZ xs ⟨x0, x1, x2, x3, x4, x5⟩ = if findZ xs x0 x1 < 0 then false else ((xs.getD (findZ xs x0 x1).toNat dC).to == x2 && (xs.getD (findZ xs x0 x1).toNat dC).val == x3)) := rfl
  have hb0 : Below w.heap.size w (w.alloc (.cells #[.int .i64 x0, .int .i64 x1, .int .i64 x2, .int .i64 x3] 209)) := (Below.refl _ _).alloc (Nat.le_refl _) _
  have HP0 : Hid ((w.alloc (.cells #[.int .i64 x0, .int .i64 x1, .int .i64 x2, .int .i64 x3] 209)).cell? ⟨b, o, none⟩ = some (.slice ao n c)) := (hb0.cell (p := ⟨b, o, none⟩) (cell_lt hp)).trans hp
  have HX0 : Hid (CelsAt (w.alloc (.cells #[.int .i64 x0, .int .i64 x1, .int .i64 x2, .int .i64 x3] 209)) ao xs) := hx.grown hb0
  have d2 : (w.alloc (.cells #[.int .i64 x0, .int .i64 x1, .int .i64 x2, .int .i64 x3] 209)).cell? ⟨w.heap.size, 2, none⟩ = some (.int .i64 x2) := by go_simp
  have d3 : (w.alloc (.cells #[.int .i64 x0, .int .i64 x1, .int .i64 x2, .int .i64 x3] 209)).cell? ⟨w.heap.size, 3, none⟩ = some (.int .i64 x3) := by go_simp
  clear hn hx hp
  go_enter Tryz.func144, Tryz.ntmps144
  go_wp2_with fail
  refine (find_any b o ao n c xs x0 x1 _ HP0.out HX0.out HN.out hm).mono ?_
  rintro e w1 ⟨rfl, hb1⟩
  have e2 := (hb1.cell (p := ⟨w.heap.size, 2, none⟩) (cell_lt d2)).trans d2
  have e3 := (hb1.cell (p := ⟨w.heap.size, 3, none⟩) (cell_lt d3)).trans d3
  have hX1 : w.heap.size < w1.heap.size := cell_lt e2
  have hb01 : Below w.heap.size w w1 := below_blk hb0 hb1
  have hp1 := (hb1.cell (p := ⟨b, o, none⟩) (cell_lt HP0.out)).trans HP0.out
  have HX1 : Hid (CelsAt w1 ao xs) := HX0.out.grown hb1
  clear d2 d3 HP0 HX0 hb0 hb1
  rcases findZ_cases xs x0 x1 with hf | ⟨j, hj, hf, _⟩
  · rw [hf] at HZ ⊢
    go_wp2
    go_ret
    exact ⟨ret_bool (by rw [HZ.out]; rfl), hb01⟩
  · rw [hf] at HZ ⊢
    rcases HX1.out with hnil | ⟨g, off, rfl, hrow⟩
    · rw [hnil] at hj; simp at hj
    obtain ⟨c0, c1, c2, c3, c4, c5⟩ := celCells hrow j hj
    have hjn : j < n := by rw [← HN.out]; exact hj
    clear hrow hj
    rw [if_neg (by omega), Int.toNat_natCast] at HZ
    generalize xs.getD j dC = y at c0 c1 c2 c3 c4 c5 HZ
    obtain ⟨yid, ypos, yto, yval, ymade, yspent⟩ := y
    simp only at c0 c1 c2 c3 c4 c5 HZ
    have hsz := hb01.size
    cases h1 : (yto == x2)
    · go_wp2
      go_ret
      exact ⟨ret_bool (by rw [HZ.out, h1]; rfl), hb01.alloc hsz _⟩
    · cases h2 : (yval == x3)
      · go_wp2
        go_ret
        exact ⟨ret_bool (by rw [HZ.out, h1, h2]; rfl), hb01.alloc hsz _⟩
      · go_wp2
        go_ret
        exact ⟨ret_bool (by rw [HZ.out, h1, h2]; rfl), hb01.alloc hsz _⟩
end Go.Proofs.YtffgpepngcnjeabGreatQ

namespace Go.Proofs.YtffgpepngcnjeabGreatQ
open Go.RowKit
/-- are all these coins in the chain? -/
def hasAllZ (xs : List Cel) (cs : List CoinD) : Bool := !(cs.any fun x => !hasCoinZ xs x)
set_option maxRecDepth 100000 in
set_option maxHeartbeats 2000000 in
theorem hasAll_any (b o : Nat) (ao : Option Addr) (n c : Nat) (xs : List Cel) (ac : Option Addr) (m d : Nat) (cs : List CoinD) (w : World) (hp : w.cell? ⟨b, o, none⟩ = some (.slice ao n c)) (hx : CelsAt w ao xs) (hn : xs.length = n) (hm : n ≤ 1000000) (hc : RecAt CoinD.l w ac cs) (hcn : cs.length = m) (hcm : m ≤ 1000) :
    Calls Tryz.prog 90 #[.pointer (some ⟨b, o, none⟩), .slice ac m d] w fun e w' => e = .returned (.bool (hasAllZ xs cs)) ∧ Below w.heap.size w w' := by
  have HN : Hid (xs.length = n) := hn
  have HCN : Hid (cs.length = m) := hcn
  have HC : Hid (RecAt CoinD.l w ac cs) := hc
  have HPW : Hid (∀ wx, Below w.heap.size w wx → wx.cell? ⟨b, o, none⟩ = some (.slice ao n c) ∧ CelsAt wx ao xs) := fun wx hb => ⟨(hb.cell (p := ⟨b, o, none⟩) (cell_lt hp)).trans hp, hx.grown hb⟩
  have HD : Hid (hasAllZ xs cs = !(cs.any fun x => !hasCoinZ xs x)) := rfl
  clear hn hcn hc hp hx
  go_enter Tryz.func90, Tryz.ntmps90
  go_wp2
  go_loopw [9] (fun i wr => ∃ k : Nat, k ≤ m ∧ i = .int .i64 k ∧ Hid ((cs.take k).any (fun x => !hasCoinZ xs x) = false) ∧ Below w.heap.size w wr) (fun i _ => m - (intOf i).toNat)
  case atStart => exact ⟨0, Nat.zero_le _, rfl, by show List.any _ _ = false; simp, Below.refl _ _⟩
  case round =>
    obtain ⟨k, hk, rfl, hany, hbl⟩ := hrel
    have hsz := hbl.size
    by_cases hlt : k < m
    · rcases HC.out with hnil | ⟨g, off, rfl, hrow⟩
      · have := HCN.out; rw [hnil] at this; simp at this; omega
      obtain ⟨c0, c1, c2, c3, c4, c5⟩ := coinCells (hrow.grown hbl) k (by rw [HCN.out]; exact hlt)
      have HS : Hid _ := any_no (fun x : CoinD => !hasCoinZ xs x) cs dN k (by rw [HCN.out]; exact hlt) hany.out
      have HZ : Hid _ := any_yes (fun x : CoinD => !hasCoinZ xs x) cs dN k (by rw [HCN.out]; exact hlt)
      clear hrow
      generalize cs.getD k dN = y at c0 c1 c2 c3 c4 c5 HS HZ
      obtain ⟨y0, y1, y2, y3, y4, y5⟩ := y
      simp only at c0 c1 c2 c3 c4 c5
      have hbA := hbl.alloc hsz (.cells #[.int .i64 y0, .int .i64 y1, .int .i64 y2, .int .i64 y3, .int .i64 y4, .int .i64 y5] 107)
      have HPA : Hid _ := HPW.out _ hbA
      go_wp2_with fail
      refine (hasCoin_any b o ao n c xs ⟨y0, y1, y2, y3, y4, y5⟩ _ HPA.out.1 HPA.out.2 HN.out hm).mono ?_
      rintro e w2 ⟨rfl, hb2⟩
      have hb3 := hbA.trans (hb2.mono hbA.size)
      clear hb2 hbA HPA
      cases hv : hasCoinZ xs ⟨y0, y1, y2, y3, y4, y5⟩
      · go_wp2
        go_ret
        exact ⟨ret_bool (by rw [HD.out, HZ.out (by show (!hasCoinZ xs ⟨y0, y1, y2, y3, y4, y5⟩) = true; rw [hv]; rfl)]; rfl), hb3⟩
      · go_wp2
        go_roundw
        case rel => exact ⟨k + 1, by omega, by go_num, HS.out (by show (!hasCoinZ xs ⟨y0, y1, y2, y3, y4, y5⟩) = false; rw [hv]; rfl), hb3⟩
        case measure => simp [intOf]; omega
    · go_wp2
      go_ret
      exact ⟨ret_bool (by rw [HD.out, ← any_done _ cs m HCN.out k (by omega) hany.out]; rfl), hbl⟩
/-- has one of these coins' keys sealed? -/
def anySealZ (ks : List (Int × Int)) (cs : List CoinD) : Bool := cs.any fun x => usedB ks (x.br, x.ix)
set_option maxRecDepth 100000 in
set_option maxHeartbeats 2000000 in
theorem anySealed_any (b o : Nat) (ao : Option Addr) (n c : Nat) (ks : List (Int × Int)) (ac : Option Addr) (m d : Nat) (cs : List CoinD) (w : World) (hp : w.cell? ⟨b, o + 1, none⟩ = some (.slice ao n c)) (hx : RecAt kV w ao ks) (hn : ks.length = n) (hm : n ≤ 9007199254740992) (hc : RecAt CoinD.l w ac cs) (hcn : cs.length = m) (hcm : m ≤ 1000) :
    Calls Tryz.prog 91 #[.pointer (some ⟨b, o, none⟩), .slice ac m d] w fun e w' => e = .returned (.bool (anySealZ ks cs)) ∧ Below w.heap.size w w' := by
  have HN : Hid (ks.length = n) := hn
  have HCN : Hid (cs.length = m) := hcn
  have HC : Hid (RecAt CoinD.l w ac cs) := hc
  have HPW : Hid (∀ wx, Below w.heap.size w wx → wx.cell? ⟨b, o + 1, none⟩ = some (.slice ao n c) ∧ RecAt kV wx ao ks) := fun wx hb => ⟨(hb.cell (p := ⟨b, o + 1, none⟩) (cell_lt hp)).trans hp, hx.grown hb⟩
  clear hn hcn hc hp hx
  go_enter Tryz.func91, Tryz.ntmps91
  go_wp2
  go_loopw [10] (fun i wr => ∃ k : Nat, k ≤ m ∧ i = .int .i64 k ∧ Hid ((cs.take k).any (fun x => usedB ks (x.br, x.ix)) = false) ∧ Below w.heap.size w wr) (fun i _ => m - (intOf i).toNat)
  case atStart => exact ⟨0, Nat.zero_le _, rfl, by show List.any _ _ = false; simp, Below.refl _ _⟩
  case round =>
    obtain ⟨k, hk, rfl, hany, hbl⟩ := hrel
    have hsz := hbl.size
    by_cases hlt : k < m
    · rcases HC.out with hnil | ⟨g, off, rfl, hrow⟩
      · have := HCN.out; rw [hnil] at this; simp at this; omega
      obtain ⟨c0, c1, c2, c3, c4, c5⟩ := coinCells (hrow.grown hbl) k (by rw [HCN.out]; exact hlt)
      have HS : Hid _ := any_no (fun x : CoinD => usedB ks (x.br, x.ix)) cs dN k (by rw [HCN.out]; exact hlt) hany.out
      have HZ : Hid _ := any_yes (fun x : CoinD => usedB ks (x.br, x.ix)) cs dN k (by rw [HCN.out]; exact hlt)
      clear hrow
      generalize cs.getD k dN = y at c0 c1 c2 c3 c4 c5 HS HZ
      obtain ⟨y0, y1, y2, y3, y4, y5⟩ := y
      simp only at c0 c1 c2 c3 c4 c5
      have hbA := hbl.alloc hsz (.cells #[.int .i64 y0, .int .i64 y1, .int .i64 y2, .int .i64 y3, .int .i64 y4, .int .i64 y5] 107)
      go_wp2_with fail
      refine (keyOf_any ⟨y0, y1, y2, y3, y4, y5⟩ _).mono ?_
      rintro e w2 ⟨rfl, hb2⟩
      simp only
      have hb3 := hbA.trans (hb2.mono hbA.size)
      have hb4 := hb3.alloc hb3.size (.cells #[.int .i64 y4, .int .i64 y5] 117)
      have HPA : Hid _ := HPW.out _ hb4
      clear hb2 hbA hb3
      go_wp2_with fail
      refine (hasSealed_any b o ao n c ks y4 y5 _ HPA.out.1 HPA.out.2 HN.out hm).mono ?_
      rintro e w5 ⟨rfl, hb5⟩
      have hb6 := hb4.trans (hb5.mono hb4.size)
      clear hb5 HPA hb4
      cases hv : usedB ks (y4, y5)
      · go_wp2
        go_roundw
        case rel => exact ⟨k + 1, by omega, by go_num, HS.out hv, hb6⟩
        case measure => simp [intOf]; omega
      · go_wp2
        go_ret
        exact ⟨ret_bool (HZ.out hv).symm, hb6⟩
    · go_wp2
      go_ret
      exact ⟨ret_bool (any_done _ cs m HCN.out k (by omega) hany.out), hbl⟩
end Go.Proofs.YtffgpepngcnjeabGreatQ

namespace Go.Proofs.YtffgpepngcnjeabGreatQ
open Go.RowKit
/-- the keys that have sealed, with these coins' -/
def addKey (ks : List (Int × Int)) (x : CoinD) : List (Int × Int) := if usedB ks (x.br, x.ix) = true then ks else ks ++ [(x.br, x.ix)]
def addKeysZ (ks : List (Int × Int)) (cs : List CoinD) : List (Int × Int) := cs.foldl addKey ks
theorem addKeys_snoc (ks : List (Int × Int)) (cs : List CoinD) (k : Nat) (h : k < cs.length) : addKeysZ ks (cs.take (k + 1)) = addKey (addKeysZ ks (cs.take k)) (cs.getD k dN) := by
  unfold addKeysZ
  rw [List.take_succ_eq_append_getElem h, List.foldl_append]
  simp [List.getD, h]
theorem addKey_len (ks : List (Int × Int)) (x : CoinD) : (addKey ks x).length ≤ ks.length + 1 := by
  unfold addKey
  split
  · omega
  · simp
theorem addKeys_len : ∀ (cs : List CoinD) (ks : List (Int × Int)), (addKeysZ ks cs).length ≤ ks.length + cs.length
  | [], ks => by simp [addKeysZ]
  | x :: r, ks => by
    have h1 := addKey_len ks x
    have h2 := addKeys_len r (addKey ks x)
    have e : addKeysZ ks (x :: r) = addKeysZ (addKey ks x) r := rfl
    rw [e, List.length_cons]
    omega
/-- a key more in the list of those that have sealed -/
theorem LsAt.pushK {N : Nat → Prop} {w : World} {b o base : Nat} {vl vs : Value} {md nx : Int} {ps : List PayD} {ks : List (Int × Int)} (h : LsAt N w b o base vl vs md nx ps ks) {w1 : World} {g n c : Nat} {x : Int × Int} (hown : OwnRec kV 117 2 w1 base (.slice (some ⟨g, 0, none⟩) n c) (ks ++ [x])) (hg : w.grownBy w1 vs.ownBlock) (hl : vs.ownBlock = some g ∨ w.heap.size ≤ g) :
    LsAt N (w1.setCell ⟨b, o + 1, none⟩ (.slice (some ⟨g, 0, none⟩) n c)) b o base vl (.slice (some ⟨g, 0, none⟩) n c) md nx ps (ks ++ [x]) ∧ Fr (fun k => k = b ∨ vs.ownBlock = some k) w (w1.setCell ⟨b, o + 1, none⟩ (.slice (some ⟨g, 0, none⟩) n c)) := by
  have hbl := cell_lt h.c0
  have hvb : some b ≠ vs.ownBlock := fun e => by have := (h.os.blk b e.symm).1; have := h.nb; omega
  have hgb := (hown.blk g rfl).1
  have hnb := h.nb
  have hf : Fr (fun k => k = b ∨ vs.ownBlock = some k) w (w1.setCell ⟨b, o + 1, none⟩ (.slice (some ⟨g, 0, none⟩) n c)) := (Fr.of_gb hg (fun k hk _ => Or.inr hk)).set b (o + 1) _ (fun _ => Or.inl rfl)
  have hnE : ∀ k, N k → ¬ (k = b ∨ vs.ownBlock = some k) := fun k hk e => e.elim (h.nN k hk).2.1 (h.nN k hk).2.2.2
  refine ⟨⟨so (gb_cell hg h.c0 hvb) (by omega), World.cell?_setCell_same _ _ _ (gb_cell hg h.c1 hvb), so (gb_cell hg h.c2 hvb) (by omega), so (gb_cell hg h.c3 hvb) (by omega), fun j => by rw [World.frozen?_setCell]; exact (gb_frozen hg hbl hvb).trans (h.fz j), hf.own h.ol (fun k hk e => ?_), hown.gb (gb_set w1 b (o + 1) _) (fun k hk e => by simp [Value.ownBlock] at hk; injection e with e; omega), fun p hp => (h.ok p hp).fr hf hnE, h.nb, fun k hk e => ?_, fun k hk => ⟨Nat.lt_of_lt_of_le (h.nN k hk).1 hf.size, (h.nN k hk).2.1, (h.nN k hk).2.2.1, fun e => ?_⟩⟩, hf⟩
  · rcases e with e | e
    · have := (h.ol.blk k hk).1; omega
    · exact h.nl k hk e
  · simp [Value.ownBlock] at e
    subst e
    rcases hl with h1 | h1
    · exact h.nl _ hk h1
    · have := (h.ol.blk _ hk).2; omega
  · simp [Value.ownBlock] at e
    subst e
    rcases hl with h1 | h1
    · exact (h.nN _ hk).2.2.2 h1
    · have := (h.nN _ hk).1; omega
structure SlI (N : Nat → Prop) (b o base : Nat) (vl vs0 : Value) (md nx : Int) (ps : List PayD) (w0 : World) (vs : Value) (ks : List (Int × Int)) (w : World) : Prop where
  ls : LsAt N w b o base vl vs md nx ps ks
  fr : Fr (fun q => q = b ∨ vs0.ownBlock = some q) w0 w
  nw : ∀ q, vs.ownBlock = some q → vs0.ownBlock = some q ∨ w0.heap.size ≤ q
  cl : ∀ j v, j ≠ o + 1 → w0.cell? ⟨b, j, none⟩ = some v → w.cell? ⟨b, j, none⟩ = some v
theorem SlI.grown {N : Nat → Prop} {b o base : Nat} {vl vs0 : Value} {md nx : Int} {ps : List PayD} {w0 : World} {vs : Value} {ks : List (Int × Int)} {w w' : World} (h : SlI N b o base vl vs0 md nx ps w0 vs ks w) (hb : Below w.heap.size w w') : SlI N b o base vl vs0 md nx ps w0 vs ks w' :=
  ⟨h.ls.grown hb, h.fr.trans (Fr.of_below hb _), h.nw, fun j v hj hv => (hb.cell (p := ⟨b, j, none⟩) (cell_lt (h.cl j v hj hv))).trans (h.cl j v hj hv)⟩
theorem SlI.push {N : Nat → Prop} {b o base : Nat} {vl vs0 : Value} {md nx : Int} {ps : List PayD} {w0 : World} {vs : Value} {ks : List (Int × Int)} {w : World} (h : SlI N b o base vl vs0 md nx ps w0 vs ks w) {w1 : World} {g n c : Nat} {x : Int × Int} (hown : OwnRec kV 117 2 w1 base (.slice (some ⟨g, 0, none⟩) n c) (ks ++ [x])) (hg : w.grownBy w1 vs.ownBlock) (hl : vs.ownBlock = some g ∨ w.heap.size ≤ g) :
    SlI N b o base vl vs0 md nx ps w0 (.slice (some ⟨g, 0, none⟩) n c) (ks ++ [x]) (w1.setCell ⟨b, o + 1, none⟩ (.slice (some ⟨g, 0, none⟩) n c)) := by
  obtain ⟨h1, h2⟩ := h.ls.pushK hown hg hl
  have hvb : some b ≠ vs.ownBlock := fun e => by have := (h.ls.os.blk b e.symm).1; have := h.ls.nb; omega
  refine ⟨h1, ⟨h2.os.trans h.fr.os, h2.tape.trans h.fr.tape, h2.output.trans h.fr.output, Nat.le_trans h.fr.size h2.size, fun k hk he => (h2.block k (Nat.lt_of_lt_of_le hk h.fr.size) (fun e => ?_)).trans (h.fr.block k hk he)⟩, fun q hq => ?_, fun j v hj hv => so (gb_cell hg (h.cl j v hj hv) hvb) (by omega)⟩
  · rcases e with e | e
    · exact he (Or.inl e)
    · rcases h.nw k e with e2 | e2
      · exact he (Or.inr e2)
      · omega
  · simp [Value.ownBlock] at hq
    subst hq
    rcases hl with e | e
    · exact h.nw _ e
    · exact Or.inr (Nat.le_trans h.fr.size e)
set_option maxRecDepth 100000 in
set_option maxHeartbeats 4000000 in
theorem addSealed_any (N : Nat → Prop) (b o base : Nat) (vl vs : Value) (md nx : Int) (ps : List PayD) (ks : List (Int × Int)) (ac : Option Addr) (m d : Nat) (cs : List CoinD) (w : World) (hL : LsAt N w b o base vl vs md nx ps ks) (hbs : base ≤ w.heap.size) (hkl : ks.length ≤ 20000000) (hc : RecAt CoinD.l w ac cs) (hcn : cs.length = m) (hcm : m ≤ 1000) (hnc : cs ≠ [] → ∀ a, ac = some a → N a.block) :
    Calls Tryz.prog 92 #[.pointer (some ⟨b, o, none⟩), .slice ac m d] w fun e w' => e = .returned (.tuple #[]) ∧ ∃ vs', SlI N b o base vl vs md nx ps w vs' (addKeysZ ks cs) w' := by
  have HCN : Hid (cs.length = m) := hcn
  have HI0 : Hid (SlI N b o base vl vs md nx ps w vs ks w) := ⟨hL, Fr.refl _ _, fun q hq => Or.inl hq, fun j v _ hv => hv⟩
  have HCW : Hid (∀ wx, Fr (fun q => q = b ∨ vs.ownBlock = some q) w wx → RecAt CoinD.l wx ac cs) := fun wx hf => rec_fr hf hc (fun e a ha e2 => e2.elim (hL.nN _ (hnc e a ha)).2.1 (hL.nN _ (hnc e a ha)).2.2.2)
  have HKL : Hid (∀ k, (addKeysZ ks (cs.take k)).length ≤ 20001000) := fun k => by
    have h1 := addKeys_len (cs.take k) ks
    have h2 : (cs.take k).length ≤ cs.length := by rw [List.length_take]; omega
    omega
  clear hL hcn hc hnc
  go_enter Tryz.func92, Tryz.ntmps92
  go_wp2
  go_loopw [9] (fun i wr => ∃ (k : Nat) (v : Value), k ≤ m ∧ i = .int .i64 k ∧ Hid (SlI N b o base vl vs md nx ps w v (addKeysZ ks (cs.take k)) wr)) (fun i _ => m - (intOf i).toNat)
  case atStart => exact ⟨0, vs, Nat.zero_le _, rfl, HI0.out⟩
  case round =>
    obtain ⟨k, v, hk, rfl, hi⟩ := hrel
    by_cases hlt : k < m
    · rcases HCW.out wr hi.out.fr with hnil | ⟨g, off, rfl, hrow⟩
      · have := HCN.out; rw [hnil] at this; simp at this; omega
      obtain ⟨c0, c1, c2, c3, c4, c5⟩ := coinCells hrow k (by rw [HCN.out]; exact hlt)
      have HSN : Hid (addKeysZ ks (cs.take (k + 1)) = addKey (addKeysZ ks (cs.take k)) (cs.getD k dN)) := addKeys_snoc ks cs k (by rw [HCN.out]; exact hlt)
      have HLE : Hid ((addKeysZ ks (cs.take k)).length ≤ 20001000) := HKL.out k
      clear hrow
      generalize addKeysZ ks (cs.take k) = kk at *
      generalize cs.getD k dN = y at c0 c1 c2 c3 c4 c5 HSN
      obtain ⟨y0, y1, y2, y3, y4, y5⟩ := y
      simp only at c0 c1 c2 c3 c4 c5
      have hbA : Below wr.heap.size wr (wr.alloc (.cells #[.int .i64 y0, .int .i64 y1, .int .i64 y2, .int .i64 y3, .int .i64 y4, .int .i64 y5] 107)) := (Below.refl _ _).alloc (Nat.le_refl _) _
      go_wp2_with fail
      refine (keyOf_any ⟨y0, y1, y2, y3, y4, y5⟩ _).mono ?_
      rintro e w2 ⟨rfl, hb2⟩
      simp only
      have hb3 := below_blk hbA hb2
      have hb4 := hb3.alloc hb3.size (.cells #[.int .i64 y4, .int .i64 y5] 117)
      have HI4 : Hid (SlI N b o base vl vs md nx ps w v kk (w2.alloc (.cells #[.int .i64 y4, .int .i64 y5] 117))) := hi.out.grown hb4
      have k0 : (w2.alloc (.cells #[.int .i64 y4, .int .i64 y5] 117)).cell? ⟨w2.heap.size, 0, none⟩ = some (.int .i64 y4) := by go_simp
      have k1 : (w2.alloc (.cells #[.int .i64 y4, .int .i64 y5] 117)).cell? ⟨w2.heap.size, 1, none⟩ = some (.int .i64 y5) := by go_simp
      clear hb2 hbA hb3 hb4 c0 c1 c2 c3 c4 c5
      go_upto_region 4 with fail
      generalize w2.alloc (.cells #[.int .i64 y4, .int .i64 y5] 117) = w4 at *
      generalize w2.heap.size = K at *
      obtain ⟨ao1, n1, er, hat⟩ := OwnRec.at kv2 HI4.out.ls.os
      subst er
      have HR4 : Hid (RecAt kV w4 ao1 kk) := hat
      have HC4 : Hid (w4.cell? ⟨b, o + 1, none⟩ = some (.slice ao1 kk.length n1)) := HI4.out.ls.c1
      clear hat
      go_wp2_with fail
      refine (hasSealed_any b o ao1 kk.length n1 kk y4 y5 _ HC4.out HR4.out rfl (by have := HLE.out; omega)).mono ?_
      rintro e w5 ⟨rfl, hb5⟩
      have HI5 : Hid (SlI N b o base vl vs md nx ps w (.slice ao1 kk.length n1) kk w5) := HI4.out.grown hb5
      have q0 := (hb5.cell (p := ⟨K, 0, none⟩) (cell_lt k0)).trans k0
      have q1 := (hb5.cell (p := ⟨K, 1, none⟩) (cell_lt k1)).trans k1
      clear hb5 k0 k1 HI4 HR4 HC4 hi
      have HAK : Hid (addKey kk ⟨y0, y1, y2, y3, y4, y5⟩ = if usedB kk (y4, y5) = true then kk else kk ++ [(y4, y5)]) := rfl
      cases hv : usedB kk (y4, y5)
      · rw [hv, if_neg (by simp)] at HAK
        have c1 := HI5.out.ls.c1
        have f1 := HI5.out.ls.fz (o + 1)
        have hbl5 : b < w5.heap.size := cell_lt c1
        have hvb : some b ≠ (Value.slice ao1 kk.length n1).ownBlock := fun e => by have := (HI5.out.ls.os.blk b e.symm).1; have := HI5.out.ls.nb; omega
        have HOS : Hid (OwnRec kV 117 2 w5 base (.slice ao1 kk.length n1) kk) := HI5.out.ls.os
        have hbs5 : base ≤ w5.heap.size := Nat.le_trans hbs HI5.out.fr.size
        have HFI : Hid (∀ (w1 : World) (gl capl : Nat), OwnRec kV 117 2 w1 base (.slice (some ⟨gl, 0, none⟩) (kk.length + 1) capl) (kk ++ [(y4, y5)]) → ((w5.alloc (.cells #[.int .i64 y4, .int .i64 y5] 117)).drew).grownBy w1 (Value.slice ao1 kk.length n1).ownBlock → ((Value.slice ao1 kk.length n1).ownBlock = some gl ∨ ((w5.alloc (.cells #[.int .i64 y4, .int .i64 y5] 117)).drew).heap.size ≤ gl) → SlI N b o base vl vs md nx ps w (.slice (some ⟨gl, 0, none⟩) (kk.length + 1) capl) (kk ++ [(y4, y5)]) (w1.setCell ⟨b, o + 1, none⟩ (.slice (some ⟨gl, 0, none⟩) (kk.length + 1) capl))) := fun w1 gl capl h1 h2 h3 => (HI5.out.grown (((Below.refl _ _).alloc (Nat.le_refl _) _).drew)).push h1 h2 h3
        clear HI5
        go_upto_region 5 with fail
        go_region_law (refine step_appR 36 16 _ Tryz.underlying36 info117 rfl (by decide) kv2 kv_one _ ?_ (.tmp 23) (.tmp 25) ?_ base w5.heap.size 1 (.slice ao1 kk.length n1) kk (y4, y5) ?_ ?_ ?_ ?_ ?_ ?_ ?_ ?_; rfl; rfl; rfl; rfl; exact OwnRec.drew (HOS.out.alloc _); exact VRow.drew (vrow_new w5 _ _); (rw [World.size_drew, World.size_alloc]; omega); (have := HLE.out; unfold maxLen; omega); (have := HLE.out; omega); intro gl capl w1 hown1 hg1 hl1 hlt1; have r0 := keepO hg1 c1 hvb; have r1 := keepF hg1 f1 hbl5 hvb)
        all_goals
          have HF9 : Hid _ := HFI.out w1 gl capl hown1 hg1 hl1
          go_wp2
          go_roundw
          case rel => exact ⟨k + 1, _, by omega, by go_num, by rw [HSN.out, HAK.out]; exact HF9.out⟩
          case measure => simp [intOf]; omega
      · rw [hv, if_pos rfl] at HAK
        go_wp2
        go_roundw
        case rel => exact ⟨k + 1, _, by omega, by go_num, by rw [HSN.out, HAK.out]; exact HI5.out⟩
        case measure => simp [intOf]; omega
    · have hfl : cs.take k = cs := List.take_of_length_le (by rw [HCN.out]; omega)
      rw [hfl] at hi
      go_wp2
      go_returns
      exact ⟨rfl, v, hi.out⟩
end Go.Proofs.YtffgpepngcnjeabGreatQ

namespace Go.Proofs.YtffgpepngcnjeabGreatQ
open Go.RowKit
set_option maxRecDepth 100000 in
set_option maxHeartbeats 1000000 in
theorem sealF_any (s b i id : Int) (w : World) (hk : Mk.isK s b i = true) (hm : Mk.isM id = true) :
    Calls Tryz.prog 147 #[.int .i64 s, .int .i64 b, .int .i64 i, .int .i64 id] w fun e w' => ∃ B, e = .returned (.tuple #[.slice (some ⟨B, 0, none⟩) 5 5, .int .i64 0]) ∧ Row w' B 0 (Mk.sealL s b i id) ∧ Free w' B 0 5 ∧ w.heap.size ≤ B ∧ Below w.heap.size w w' := by
  have hm' := (Mk.isM_iff id).1 hm
  have hmk := mk5
  go_enter Tryz.func147, Tryz.ntmps147
  go_wp2_with (first | (go_at_call 126; refine (keyIs_any _ _ _ _).mono ?_; rintro e w' ⟨rfl, rfl⟩) | (go_at_call 104; refine (is_any _ _).mono ?_; rintro e w' ⟨rfl, rfl⟩) | (go_at_call 127; refine (secrets_any _ _ _ _ hk).mono ?_; rintro e w1 ⟨rfl, hb1⟩) | (go_at_call 150; refine (digits_any _ _ hm'.1 hm'.2).mono ?_; rintro e w2 ⟨rfl, hb2⟩))
  have hs1 := hb1.size
  have hs2 := hb2.size
  rw [World.size_alloc] at hs2
  have hinv := seal_start (id := id) hb1 hb2
  have HI : Hid _ := hinv
  clear hinv hb1 hb2 hmk
  generalize hB1 : w1.heap.size = B1 at *
  generalize hB2 : w2.heap.size = B2 at *
  clear hB1 hB2
  go_loopw [13] (fun v wr => ∃ k : Nat, k ≤ 5 ∧ v = .int .i64 k ∧ SealInv w s b i id B1 B2 (B2 + 1) k wr) (fun v _ => 5 - (intOf v).toNat)
  case atStart => exact ⟨0, by omega, rfl, HI.out⟩
  case round =>
    obtain ⟨k, hk5, rfl, hinv⟩ := hrel
    by_cases hlt : k < 5
    · have c1 : wr.cell? ⟨B1, k, none⟩ = some (.int .i64 (Mk.sec s b i k)) := by
        have := hinv.r1 k (by simpa [secL] using hlt); rw [Nat.zero_add, secL_at s b i k hlt] at this; exact this
      have c2 : wr.cell? ⟨B2, k, none⟩ = some (.int .i64 (Mk.dg id k)) := by
        have := hinv.r2 k (by simpa [dgL] using hlt); rw [Nat.zero_add, dgL_at id k hlt] at this; exact this
      obtain ⟨v3, c3⟩ : ∃ v3, wr.cell? ⟨B2 + 1, k, none⟩ = some v3 := by
        have := hinv.r3 k (by rw [partL_len]; exact hlt); rw [Nat.zero_add] at this; exact ⟨_, this⟩
      have f3 : wr.frozen? ⟨B2 + 1, k, none⟩ = false := by
        have := hinv.fr k hlt; rw [Nat.zero_add] at this; exact this
      have bs := Mk.sec_bd s b i k
      have bd := Mk.dg_bd id k
      go_wp2
      go_region_with (go_at_call 128; refine (times_any _ _ _ (by omega) (by omega) (by omega) (by omega)).mono ?_; rintro e w' ⟨rfl, rfl⟩)
      all_goals go_wp2
      all_goals go_roundw
      all_goals first | exact ⟨k + 1, by omega, by go_num, hinv.drew.step hlt⟩ | (simp [intOf]; omega)
    · have hk : k = 5 := by omega
      subst hk
      go_wp2
      go_ret2
      refine ⟨_, rfl, ?_, hinv.fr, hinv.lo, hinv.bl⟩
      have := hinv.r3
      rw [partL_all] at this
      exact this
end Go.Proofs.YtffgpepngcnjeabGreatQ

namespace Go.Proofs.YtffgpepngcnjeabGreatQ
open Go.RowKit
/-- an input with its seal's block -/
def snV (p : CoinD × Nat) : List Value := [.int .i64 p.1.id, .int .i64 p.1.pos, .slice (some ⟨p.2, 0, none⟩) 5 5]
theorem sn3 (p : CoinD × Nat) : (snV p).length = 3 := rfl
theorem sn_one (p : CoinD × Nat) : ∀ u ∈ snV p, u.oneCell' = true := by
  intro u hu
  simp only [snV, List.mem_cons, List.not_mem_nil, or_false] at hu
  rcases hu with rfl | rfl | rfl <;> rfl
structure SqI (s id : Int) (w : World) (v : Value) (L : List (CoinD × Nat)) (wr : World) : Prop where
  own : OwnRec snV 115 3 wr w.heap.size v L
  row : ∀ p ∈ L, Row wr p.2 0 (Mk.sealL s p.1.br p.1.ix id) ∧ Free wr p.2 0 5 ∧ w.heap.size ≤ p.2 ∧ p.2 < wr.heap.size
  nv : ∀ p ∈ L, v.ownBlock ≠ some p.2
  nd : L.Pairwise (fun a b => a.2 ≠ b.2)
  bl : Below w.heap.size w wr
theorem SqI.grown {s id : Int} {w : World} {v : Value} {L : List (CoinD × Nat)} {wr w' : World} (h : SqI s id w v L wr) (hb : Below wr.heap.size wr w') : SqI s id w v L w' :=
  ⟨h.own.grown hb, fun p hp => ⟨(h.row p hp).1.grown hb, (h.row p hp).2.1.below hb (h.row p hp).2.2.2, (h.row p hp).2.2.1, Nat.lt_of_lt_of_le (h.row p hp).2.2.2 hb.size⟩, h.nv, h.nd, h.bl.trans (hb.mono h.bl.size)⟩
theorem SqI.push {s id : Int} {w : World} {v : Value} {L : List (CoinD × Nat)} {wr : World} (h : SqI s id w v L wr) {x : CoinD} {B : Nat} (hr : Row wr B 0 (Mk.sealL s x.br x.ix id)) (hf : Free wr B 0 5) (hlo : w.heap.size ≤ B) (hlt : B < wr.heap.size) (hn : ∀ p ∈ L, p.2 ≠ B) (hv : v.ownBlock ≠ some B) {w8 : World} {g n c : Nat} (hown : OwnRec snV 115 3 w8 w.heap.size (.slice (some ⟨g, 0, none⟩) n c) (L ++ [(x, B)])) (hg : wr.grownBy w8 v.ownBlock) (hl : v.ownBlock = some g ∨ wr.heap.size ≤ g) :
    SqI s id w (.slice (some ⟨g, 0, none⟩) n c) (L ++ [(x, B)]) w8 := by
  have hstay : ∀ q, q < wr.heap.size → v.ownBlock ≠ some q → ∀ l, Row wr q 0 l → Free wr q 0 5 → Row w8 q 0 l ∧ Free w8 q 0 5 := fun q hq hne l h1 h2 => ⟨gb_row hg h1 (fun e => hne e.symm), fun j hj => (gb_frozen hg hq (fun e => hne e.symm)).trans (h2 j hj)⟩
  refine ⟨hown, fun p hp => ?_, fun p hp e => ?_, ?_, h.bl.trans (gb_to_below hg h.bl.size (fun k hk => (h.own.blk k hk).1))⟩
  · rcases List.mem_append.1 hp with e | e
    · have h1 := h.row p e
      have h2 := hstay p.2 h1.2.2.2 (h.nv p e) _ h1.1 h1.2.1
      exact ⟨h2.1, h2.2, h1.2.2.1, Nat.lt_of_lt_of_le h1.2.2.2 hg.size⟩
    · rw [List.mem_singleton] at e
      subst e
      have h2 := hstay B hlt hv _ hr hf
      exact ⟨h2.1, h2.2, hlo, Nat.lt_of_lt_of_le hlt hg.size⟩
  · simp [Value.ownBlock] at e
    have hpl : p.2 < wr.heap.size ∧ v.ownBlock ≠ some p.2 := by
      rcases List.mem_append.1 hp with e2 | e2
      · exact ⟨(h.row p e2).2.2.2, h.nv p e2⟩
      · rw [List.mem_singleton] at e2
        subst e2
        exact ⟨hlt, hv⟩
    rcases hl with e2 | e2
    · exact hpl.2 (by rw [e2, e])
    · omega
  · rw [List.pairwise_append]
    refine ⟨h.nd, by simp, fun a ha b hb => ?_⟩
    rw [List.mem_singleton] at hb
    subst hb
    exact hn a ha
set_option maxRecDepth 100000 in
set_option maxHeartbeats 4000000 in
theorem sealedIns_any (ac : Option Addr) (n c : Nat) (cs : List CoinD) (s id : Int) (w : World) (hx : RecAt CoinD.l w ac cs) (hn : cs.length = n) (hnm : n ≤ 1000) (hk : ∀ x ∈ cs, Mk.isK s x.br x.ix = true) (hm : Mk.isM id = true) :
    Calls Tryz.prog 93 #[.slice ac n c, .int .i64 s, .int .i64 id] w fun e w' => ∃ v L, e = .returned v ∧ L.map Prod.fst = cs ∧ SqI s id w v L w' := by
  have HN : Hid (cs.length = n) := hn
  have HX : Hid (RecAt CoinD.l w ac cs) := hx
  have HK : Hid (∀ x ∈ cs, Mk.isK s x.br x.ix = true) := hk
  clear hn hx hk
  go_enter Tryz.func93, Tryz.ntmps93
  go_wp2
  go_loopw [7, 14] (fun v i wr => ∃ (k : Nat) (L : List (CoinD × Nat)), k ≤ n ∧ i = .int .i64 k ∧ Hid (L.map Prod.fst = cs.take k) ∧ Hid (SqI s id w v L wr)) (fun _ i _ => n - (intOf i).toNat)
  case atStart => exact ⟨0, [], Nat.zero_le _, rfl, rfl, OwnRec.nil _ _ _ _ _, fun p hp => (by cases hp), fun p hp => (by cases hp), List.Pairwise.nil, Below.refl _ _⟩
  case round =>
    obtain ⟨k, L, hk, rfl, hL, hi⟩ := hrel
    by_cases hlt : k < n
    · rcases HX.out with hnil | ⟨gc, oc, rfl, hrow⟩
      · have := HN.out; rw [hnil] at this; simp at this; omega
      obtain ⟨e0, e1, e2, e3, e4, e5⟩ := coinCells (hrow.grown hi.out.bl) k (by rw [HN.out]; exact hlt)
      have HS : Hid (cs.take (k + 1) = cs.take k ++ [cs.getD k dN]) := by
        show _ = _
        rw [List.take_succ_eq_append_getElem (by rw [HN.out]; exact hlt)]
        simp [List.getD, HN.out, hlt]
      have hky := HK.out (cs.getD k dN) (getD_mem cs dN k (by rw [HN.out]; exact hlt))
      have HLL : Hid (L.length ≤ 1000) := by
        show _ ≤ _
        have h1 := congrArg List.length hL.out
        rw [List.length_map, List.length_take] at h1
        omega
      clear hrow
      generalize cs.getD k dN = y at *
      obtain ⟨y0, y1, y2, y3, y4, y5⟩ := y
      simp only at e0 e1 e2 e3 e4 e5 hky
      have hb4 : Below wr.heap.size wr (wr.alloc (.cells #[.int .i64 y0, .int .i64 y1, .int .i64 y2, .int .i64 y3, .int .i64 y4, .int .i64 y5] 107)) := (Below.refl _ _).alloc (Nat.le_refl _) _
      have HI4 : Hid (SqI s id w u7 L (wr.alloc (.cells #[.int .i64 y0, .int .i64 y1, .int .i64 y2, .int .i64 y3, .int .i64 y4, .int .i64 y5] 107))) := hi.out.grown hb4
      obtain ⟨x0, x1, x2, x3, x4, x5⟩ := xrow (vrow_new wr [.int .i64 y0, .int .i64 y1, .int .i64 y2, .int .i64 y3, .int .i64 y4, .int .i64 y5] 107)
      go_upto_region 5 with fail
      generalize wr.alloc (.cells #[.int .i64 y0, .int .i64 y1, .int .i64 y2, .int .i64 y3, .int .i64 y4, .int .i64 y5] 107) = w4 at *
      generalize wr.heap.size = X at *
      clear e0 e1 e2 e3 e4 e5 hb4 hi
      go_wp2_with fail
      refine (sealF_any s y4 y5 id _ hky hm).mono ?_
      rintro e w5 ⟨B, rfl, hr, hf, hlo, hb5⟩
      have d0 := (hb5.cell (p := ⟨X, 0, none⟩) (cell_lt x0)).trans x0
      have d1 := (hb5.cell (p := ⟨X, 1, none⟩) (cell_lt x1)).trans x1
      have hBl : B < w5.heap.size := cell_lt (hr 0 (by simp [Mk.sealL]))
      have bC : Below w5.heap.size w5 (w5.alloc (.cells #[.int .i64 y0, .int .i64 y1, .slice (some ⟨B, 0, none⟩) 5 5] 115)) := (Below.refl _ _).alloc (Nat.le_refl _) _
      have HI6 : Hid (SqI s id w u7 L (w5.alloc (.cells #[.int .i64 y0, .int .i64 y1, .slice (some ⟨B, 0, none⟩) 5 5] 115))) := (HI4.out.grown hb5).grown bC
      have HP : Hid (∀ (w8 : World) (g c : Nat), OwnRec snV 115 3 w8 w.heap.size (.slice (some ⟨g, 0, none⟩) (L.length + 1) c) (L ++ [((⟨y0, y1, y2, y3, y4, y5⟩ : CoinD), B)]) → (w5.alloc (.cells #[.int .i64 y0, .int .i64 y1, .slice (some ⟨B, 0, none⟩) 5 5] 115)).grownBy w8 u7.ownBlock → (u7.ownBlock = some g ∨ (w5.alloc (.cells #[.int .i64 y0, .int .i64 y1, .slice (some ⟨B, 0, none⟩) 5 5] 115)).heap.size ≤ g) → SqI s id w (.slice (some ⟨g, 0, none⟩) (L.length + 1) c) (L ++ [((⟨y0, y1, y2, y3, y4, y5⟩ : CoinD), B)]) w8) := fun w8 g c h1 h2 h3 => HI6.out.push (x := ⟨y0, y1, y2, y3, y4, y5⟩) (B := B) (hr.grown bC) (hf.below bC hBl) (Nat.le_trans HI4.out.bl.size hlo) (Nat.lt_of_lt_of_le hBl bC.size) (fun p hp e => by have := (HI4.out.row p hp).2.2.2; omega) (fun e => by have := (HI4.out.own.blk B e).2; omega) h1 h2 h3
      have hws : w.heap.size ≤ w5.heap.size := Nat.le_trans HI4.out.bl.size hb5.size
      have HMP : Hid ((L ++ [((⟨y0, y1, y2, y3, y4, y5⟩ : CoinD), B)]).map Prod.fst = cs.take (k + 1)) := by show _ = _; rw [List.map_append, hL.out, HS.out]; rfl
      clear hr hf hlo hb5 x0 x1 x2 x3 x4 x5 HI4 bC hL HS
      go_upto_region 8 with (at_builtin; refine wpList_appR 33 40 _ Tryz.underlying33 info115 rfl (by decide) sn3 sn_one (w5.alloc (.cells #[.int .i64 y0, .int .i64 y1, .slice (some ⟨B, 0, none⟩) 5 5] 115)) rfl _ _ rfl w.heap.size w5.heap.size 1 u7 L (⟨y0, y1, y2, y3, y4, y5⟩, B) (by rfl) (by rfl) HI6.out.own (vrow_new _ _ _) (by simp; omega) (by have := HLL.out; unfold maxLen; omega) (by have := HLL.out; omega) ?_; intro gb capb w8 hown8 hg8 hl8 hlt8)
      have HI9 : Hid _ := HP.out w8 gb capb hown8 hg8 hl8
      clear hown8 hg8 hl8 hlt8 HP HI6 d0 d1
      go_wp2
      go_roundw
      case rel => exact ⟨k + 1, _, by omega, by go_num, HMP.out, HI9.out⟩
      case measure => simp [intOf]; omega
    · have HE : Hid (cs.take k = cs) := by show _ = _; rw [List.take_of_length_le (by rw [HN.out]; omega)]
      go_wp2
      go_ret
      exact ⟨_, L, rfl, by rw [hL.out, HE.out], hi.out⟩
end Go.Proofs.YtffgpepngcnjeabGreatQ

namespace Go.Proofs.YtffgpepngcnjeabGreatQ
open Go.RowKit
def PayD.on (p : PayD) : PayD := { p with sg := true }
/-- where find finds it -/
theorem pfind_spec (ps : List PayD) (k : Int) : (pfindZ ps k = -1 ∧ ¬ ∃ p ∈ ps, p.num = k) ∨ ∃ j, j < ps.length ∧ pfindZ ps k = (j : Nat) ∧ (ps.getD j dP).num = k := by
  rcases idxOf_cases (fun p : PayD => p.num == k) dP ps 0 with h | ⟨j, h1, h2, h3⟩
  · refine Or.inl ⟨h, ?_⟩
    have key : ∀ (l : List PayD) (i : Nat), idxOf (fun p : PayD => p.num == k) l i = -1 → ¬ ∃ p ∈ l, p.num = k := by
      intro l
      induction l with
      | nil => rintro i _ ⟨p, hp, _⟩; cases hp
      | cons x r ih =>
        intro i hi
        unfold idxOf at hi
        by_cases hx : (x.num == k) = true
        · rw [if_pos hx] at hi
          omega
        · rw [if_neg hx] at hi
          rintro ⟨p, hp, hk⟩
          rcases List.mem_cons.1 hp with e | e
          · subst e
            exact hx (by rw [hk]; simp)
          · exact ih _ hi ⟨p, e, hk⟩
    exact key ps 0 h
  · exact Or.inr ⟨j, h1, by unfold pfindZ; rw [h2]; simp, by simpa using h3⟩
theorem PayOk.on {N : Nat → Prop} {w : World} {p : PayD} (h : PayOk N w p) : PayOk N w p.on := ⟨h.co, h.cl, h.ou, h.ol, h.nc, h.np, h.b1, h.b2⟩
theorem LsAt.putS {N : Nat → Prop} {w : World} {b o base g c : Nat} {vs : Value} {md nx : Int} {ps : List PayD} {ks : List (Int × Int)} (h : LsAt N w b o base (.slice (some ⟨g, 0, none⟩) ps.length c) vs md nx ps ks) (j : Nat) (hj : j < ps.length) :
    LsAt N (w.setCell ⟨g, j * 5 + 4, none⟩ (.bool true)) b o base (.slice (some ⟨g, 0, none⟩) ps.length c) vs md nx (ps.set j (ps.getD j dP).on) ks ∧ Fr (fun k => k = g) w (w.setCell ⟨g, j * 5 + 4, none⟩ (.bool true)) := by
  have hf : Fr (fun k => k = g) w (w.setCell ⟨g, j * 5 + 4, none⟩ (.bool true)) := (Fr.refl _ w).set g _ _ (fun _ => rfl)
  have hgb : ¬ b = g := fun e => by have := (h.ol.blk g rfl).1; have := h.nb; omega
  have hNg : ∀ k, N k → ¬ k = g := fun k hk e => (h.nN k hk).2.2.1 (by rw [e]; rfl)
  have e : ps.getD j dP = ps[j] := by simp [List.getD, hj]
  have ho := OwnRec.put pay5 h.ol j 4 hj (by omega) (.bool true) (ps.getD j dP).on (by rw [e]; rfl)
  refine ⟨⟨hf.cell h.c0 hgb, hf.cell h.c1 hgb, hf.cell h.c2 hgb, hf.cell h.c3 hgb, fun i => by rw [World.frozen?_setCell]; exact h.fz i, ho, hf.own h.os (fun k hk e2 => ?_), fun p hp => ?_, h.nb, h.nl, fun k hk => ⟨by simpa using (h.nN k hk).1, (h.nN k hk).2⟩⟩, hf⟩
  · subst e2
    exact h.nl k rfl hk
  · rcases List.mem_or_eq_of_mem_set hp with hp | hp
    · exact (h.ok p hp).fr hf hNg
    · rw [hp, e]
      exact ((h.ok _ (List.getElem_mem hj)).fr hf hNg).on
end Go.Proofs.YtffgpepngcnjeabGreatQ

namespace Go.Proofs.YtffgpepngcnjeabGreatQ
open Go.RowKit
/-- three cells that may be written -/
structure V3 (w : World) (L : Nat) (a0 a1 a2 : Value) : Prop where
  c0 : w.cell? ⟨L, 0, none⟩ = some a0
  c1 : w.cell? ⟨L, 1, none⟩ = some a1
  c2 : w.cell? ⟨L, 2, none⟩ = some a2
  fz : ∀ j, w.frozen? ⟨L, j, none⟩ = false
theorem V3.fr {E : Nat → Prop} {w w' : World} (hf : Fr E w w') {L : Nat} {a0 a1 a2 : Value} (h : V3 w L a0 a1 a2) (he : ¬ E L) : V3 w' L a0 a1 a2 :=
  ⟨hf.cell h.c0 he, hf.cell h.c1 he, hf.cell h.c2 he, fun j => (hf.frozen (cell_lt h.c0) he).trans (h.fz j)⟩
theorem V3.grown {w w' : World} (hb : Below w.heap.size w w') {L : Nat} {a0 a1 a2 : Value} (h : V3 w L a0 a1 a2) : V3 w' L a0 a1 a2 :=
  h.fr (Fr.of_below hb (fun _ => False)) (fun h => h)
theorem V3.new (w : World) (a0 a1 a2 : Value) (t : TypeId) : V3 (w.alloc (.cells #[a0, a1, a2] t)) w.heap.size a0 a1 a2 := by
  refine ⟨?_, ?_, ?_, fun j => World.frozen?_alloc_at _ _ _ _ rfl⟩
  all_goals
    rw [World.cell?_alloc_new]
    rfl
theorem V3.s0 {w : World} {L : Nat} {a0 a1 a2 : Value} (h : V3 w L a0 a1 a2) (u : Value) : V3 (w.setCell ⟨L, 0, none⟩ u) L u a1 a2 := ⟨ss h.c0, so h.c1 (by decide), so h.c2 (by decide), fun j => by rw [World.frozen?_setCell]; exact h.fz j⟩
theorem V3.s1 {w : World} {L : Nat} {a0 a1 a2 : Value} (h : V3 w L a0 a1 a2) (u : Value) : V3 (w.setCell ⟨L, 1, none⟩ u) L a0 u a2 := ⟨so h.c0 (by decide), ss h.c1, so h.c2 (by decide), fun j => by rw [World.frozen?_setCell]; exact h.fz j⟩
theorem V3.s2 {w : World} {L : Nat} {a0 a1 a2 : Value} (h : V3 w L a0 a1 a2) (u : Value) : V3 (w.setCell ⟨L, 2, none⟩ u) L a0 a1 u := ⟨so h.c0 (by decide), so h.c1 (by decide), ss h.c2, fun j => by rw [World.frozen?_setCell]; exact h.fz j⟩
theorem fr3K (w : World) (B : Nat) (b0 b1 b2 : Value) : Fr (fun k => k = B) w (((w.setCell ⟨B, 0, none⟩ b0).setCell ⟨B, 1, none⟩ b1).setCell ⟨B, 2, none⟩ b2) :=
  (((Fr.refl (fun k => k = B) w).set B 0 _ (fun _ => rfl)).set B 1 _ (fun _ => rfl)).set B 2 _ (fun _ => rfl)
/-- the id of a payment -/
def PayD.id (p : PayD) : Int := idZ p.tag (p.cs.map fun x => (⟨x.id, x.pos, none, 0, 0, []⟩ : InD)) p.ys
/-- what Sign answers: the error, or the payment's place -/
def signZ (xs : List Cel) (ps : List PayD) (ks : List (Int × Int)) (n : Int) : Sum Int Nat :=
  if pfindZ ps n < 0 then .inl 11
  else if (ps.getD (pfindZ ps n).toNat dP).sg = false ∧ (hasId xs (ps.getD (pfindZ ps n).toNat dP).id = true ∨ hasAllZ xs (ps.getD (pfindZ ps n).toNat dP).cs = false) then .inl 12
  else if (ps.getD (pfindZ ps n).toNat dP).sg = false ∧ anySealZ ks (ps.getD (pfindZ ps n).toNat dP).cs = true then .inl 13
  else .inr (pfindZ ps n).toNat
/-- a sealed transaction in lists of its own -/
structure SgTx (base : Nat) (s : Int) (p : PayD) (vi vo : Value) (L : List (CoinD × Nat)) (w : World) : Prop where
  fst : L.map Prod.fst = p.cs
  own : OwnRec snV 115 3 w base vi L
  row : ∀ q ∈ L, Row w q.2 0 (Mk.sealL s q.1.br q.1.ix p.id) ∧ Free w q.2 0 5 ∧ base ≤ q.2 ∧ q.2 < w.heap.size
  nv : ∀ q ∈ L, vi.ownBlock ≠ some q.2 ∧ vo.ownBlock ≠ some q.2
  nd : L.Pairwise (fun a b => a.2 ≠ b.2)
  oo : OwnRec kV 93 2 w base vo p.ys
  ne : ∀ k, vi.ownBlock = some k → vo.ownBlock ≠ some k
end Go.Proofs.YtffgpepngcnjeabGreatQ
