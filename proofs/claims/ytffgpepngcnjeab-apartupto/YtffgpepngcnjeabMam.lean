/-
  Funds: a payment of a scene: the first tag at which the id is new.
  Funds: what is chosen of a scene's deposits, and that it is fair.
  Funds: what a payment of a scene is.
  Funds: enough: do the greatest coins suffice?
  Funds: the walk.
  A book of payments: a deed in memory; taken, sealed.
  Package payments: Abandon.
-/
import Derived.Test.YtffgpepngcnjeabMal
import Derived.Test.YtffgpepngcnjeabMak
import Derived.Laws.MakeOwn
import Derived.Test.YtffgpepngcnjeabMaf
import Derived.Test.YtffgpepngcnjeabMai
namespace Go.Proofs.Ytffgpepngcnjeab
open Go.RowKit
theorem kV_outL (ys : List (Int × Int)) : (outL ys).map (Value.int .i64) = ys.flatMap kV := by
  induction ys with
  | nil => rfl
  | cons y t ih => rw [List.flatMap_cons, ← ih]; rfl
theorem make_outsN (n : Nat) (hn : n ≤ 8796093022208) : ∀ u : World, (Instr.makeSlice 23 (.int .i64 (n : Int)) (.int .i64 (n : Int))).run Try.prog u =
    .ok (.slice (some ⟨u.heap.size, 0, none⟩) n n) (u.alloc (.cells (Go.madeCells #[.int .i64 0, .int .i64 0] (n * 2)) 68)) := fun u => by
  obtain ⟨i0, hi, hz0, hz1, hz2⟩ := info_parts info68
  have h := run_make (P := Try.prog) u 23 68 i0 (.agg #[.int .i64 0, .int .i64 0]) Try.underlying23 hi hz0 .i64 .i64 (n : Int) (n : Int) (by omega) (Int.le_refl _) (by rw [hz2]; omega) (by omega)
  have e : (n : Int).toNat = n := by omega
  rw [e] at h
  simpa [hz1, Value.cells] using h
theorem fr6K (w : World) (B : Nat) (b0 b1 b2 b3 b4 b5 : Value) : Fr (fun k => k = B) w ((((((w.setCell ⟨B, 0, none⟩ b0).setCell ⟨B, 1, none⟩ b1).setCell ⟨B, 2, none⟩ b2).setCell ⟨B, 3, none⟩ b3).setCell ⟨B, 4, none⟩ b4).setCell ⟨B, 5, none⟩ b5) :=
  ((((((Fr.refl (fun k => k = B) w).set B 0 _ (fun _ => rfl)).set B 1 _ (fun _ => rfl)).set B 2 _ (fun _ => rfl)).set B 3 _ (fun _ => rfl)).set B 4 _ (fun _ => rfl)).set B 5 _ (fun _ => rfl)
/-- what Pay has left, seen from an elder world; a block of the caller's is written -/
theorem PayOkR.lift {N : Nat → Prop} {P : Nat} {s : Int} {g : Nat} {v : Value} {h : Int} {xs : List Cel} {vl vs : Value} {md nx : Int} {ps : List PayD} {ks : List (Int × Int)} {ys : List (Int × Int)} {r tag : Int} {a0 a1 a2 a3 a4 a5 : Value} {er : Int} {w w0 w1 w2 : World} {R : Nat} (hr : PayOkR N P s g v h xs vl vs md nx ps ks ys r tag a0 a1 a2 a3 a4 a5 er w0 w1) (u : PP N w P s g v h xs vl vs md nx ps ks) (hb : Below w.heap.size w w0) (hR : w.heap.size ≤ R) (hR2 : R < w0.heap.size) (hf : Fr (fun k => k = R) w1 w2) :
    PayOkR N P s g v h xs vl vs md nx ps ks ys r tag a0 a1 a2 a3 a4 a5 er w w2 := by
  have hsz := hb.size
  rcases hr with ⟨x, h1, h2, h3, h4, h5, h6, h7, h8, h9⟩ | ⟨cs, zs, ch, h1, h2, h3, h4, h5, h6⟩
  · refine Or.inl ⟨x, h1, h2, h3, h4, h5, h6, h7, h8, ?_⟩
    have h10 : Below w.heap.size w w1 := hb.trans (h9.mono hsz)
    exact h10.trans (hf.toBelow _ h10.size (fun q hq => by rw [hq]; exact hR))
  · refine Or.inr ⟨cs, zs, ch, h1, h2, h3, h4, h5, ?_⟩
    obtain ⟨vl', gc, cc, go, co, hpp, hpd, hfr, hsep⟩ := h6
    have hold : ∀ k, (chE P v k ∨ lsE P vl vs k ∨ N k) → k < w.heap.size := fun k hk => by
      rcases hk with hk | hk | hk
      · exact (u.pu.blk k hk).2
      · exact u.ls.blk k hk
      · exact (u.ls.nN k hk).1
    have hnew : ∀ k, (vl'.ownBlock = some k ∨ k = gc ∨ k = go) → k ≠ R := fun k hk e => by
      rcases hsep k hk with h | h
      · have := hold k (Or.inr (Or.inl (Or.inr (Or.inl h)))); omega
      · omega
    refine ⟨vl', gc, cc, go, co, hpp.fr hf (fun k hk e => ?_) (fun k hk e => ?_) (fun k hk e => ?_), PdOk.lower ⟨hf.own hpd.oi (fun k hk e => ?_), hf.own hpd.oo (fun k hk e => ?_), hf.own hpd.ok (fun k hk e => ?_), hpd.n1, hpd.n2⟩ hsz, ?_, fun k hk => ?_⟩
    · have := hold k (Or.inl hk); omega
    · rcases hk with hk | hk | hk
      · have := hold k (Or.inr (Or.inl (Or.inl hk))); omega
      · exact hnew k (Or.inl hk) e
      · have := hold k (Or.inr (Or.inl (Or.inr (Or.inr hk)))); omega
    · rcases hk with hk | hk
      · have := hold k (Or.inr (Or.inr hk)); omega
      · exact hnew k (Or.inr hk) e
    · have := (hpd.oi.blk k hk).1; omega
    · have := (hpd.oo.blk k hk).1; omega
    · have := (hpd.ok.blk k hk).1; omega
    · exact Fr.trans_new2 ((Fr.of_below hb _).trans hfr) hf (fun q hq => by rw [hq]; exact hR)
    · rcases hsep k hk with h | h
      · exact Or.inl h
      · exact Or.inr ⟨by omega, h.2⟩
theorem payOkR_vals {N : Nat → Prop} {P : Nat} {s : Int} {g : Nat} {v : Value} {h : Int} {xs : List Cel} {vl vs : Value} {md nx : Int} {ps : List PayD} {ks : List (Int × Int)} {ys : List (Int × Int)} {r tag : Int} {a0 a1 a2 a3 a4 a5 : Value} {er : Int} {w w' : World} (hr : PayOkR N P s g v h xs vl vs md nx ps ks ys r tag a0 a1 a2 a3 a4 a5 er w w') :
    ∃ n0 t ai ni ci ap np cp ak nk ck ch, a0 = .int .i64 n0 ∧ a1 = .int .i64 t ∧ a2 = .slice ai ni ci ∧ a3 = .slice ap np cp ∧ a4 = .slice ak nk ck ∧ a5 = .int .i64 ch := by
  rcases hr with ⟨x, h1, h2, rfl, rfl, rfl, rfl, rfl, rfl, h9⟩ | ⟨cs, zs, ch, h1, h2, rfl, rfl, rfl, h6⟩
  · exact ⟨_, _, _, _, _, _, _, _, _, _, _, _, rfl, rfl, rfl, rfl, rfl, rfl⟩
  · obtain ⟨vl', gc, cc, go, co, hpp, hpd, hfr, hsep⟩ := h6
    obtain ⟨ai, ci, e1, _⟩ := OwnRec.at inC3 hpd.oi
    obtain ⟨ap, cp, e2, _⟩ := OwnRec.at kv2 hpd.oo
    obtain ⟨ak, ck, e3, _⟩ := OwnRec.at kC2 hpd.ok
    exact ⟨_, _, _, _, _, _, _, _, _, _, _, _, rfl, rfl, e1, e2, e3, rfl⟩
theorem payOkR_fr {N : Nat → Prop} {P : Nat} {s : Int} {g : Nat} {v : Value} {h : Int} {xs : List Cel} {vl vs : Value} {md nx : Int} {ps : List PayD} {ks : List (Int × Int)} {ys : List (Int × Int)} {r tag : Int} {a0 a1 a2 a3 a4 a5 : Value} {er : Int} {w w' : World} (hr : PayOkR N P s g v h xs vl vs md nx ps ks ys r tag a0 a1 a2 a3 a4 a5 er w w') : Fr (fun q => q = P ∨ vl.ownBlock = some q) w w' := by
  rcases hr with ⟨x, _, _, _, _, _, _, _, _, h9⟩ | ⟨cs, zs, ch, _, _, _, _, _, h6⟩
  · exact Fr.of_below h9 _
  · obtain ⟨_, _, _, _, _, _, _, hfr, _⟩ := h6
    exact hfr
end Go.Proofs.Ytffgpepngcnjeab

namespace Go.Proofs.Ytffgpepngcnjeab
open Go.RowKit
theorem Dp.watched {s : Int} {g : Nat} {xs : List Cel} (h : Dp s g xs) (hg2 : g ≤ 20) : ∀ x ∈ xs, ∃ k ∈ keysZ xs s g, k.ad = x.to := fun x hx => by
  obtain ⟨br, i, hb, hi, e⟩ := h.tw x hx
  have hw := (win_spec xs s g br hg2).1
  obtain ⟨k, hk, ha⟩ := key_mem (xs := xs) (s := s) (g := g) hb (i := i) (by omega)
  exact ⟨k, hk, by rw [ha, e]⟩
theorem Dp.perm {s : Int} {g : Nat} {xs : List Cel} (h : Dp s g xs) (hg2 : g ≤ 20) : ((ownOf xs s g).map CoinD.k0).Perm (xs.map Cel.kept) := own_perm (keysZ xs s g) h.sp (h.watched hg2)
theorem Dp.sum {s : Int} {g : Nat} {xs : List Cel} (h : Dp s g xs) (hg2 : g ≤ 20) : sumC (ownOf xs s g) = sumC (xs.map Cel.kept) := (own_all h.sp (h.watched hg2)).2
theorem own_src (ks : List KeyD) : ∀ (l : List CoinC) (acc : List CoinD) (y : CoinD), y ∈ l.foldl (ownStep ks) acc → y ∈ acc ∨ ∃ x ∈ l, ∃ k ∈ ks, k.ad = x.ad ∧ y = coinK x k := by
  intro l
  induction l with
  | nil => intro acc y h; exact Or.inl h
  | cons x r ih =>
    intro acc y h
    rw [List.foldl_cons] at h
    rcases ih _ y h with h1 | ⟨z, hz, k, hk, e1, e2⟩
    · unfold ownStep at h1
      rcases idxOf_cases (fun k : KeyD => k.ad == x.ad) dK ks 0 with e | ⟨j, hj, e, hk⟩
      · rw [if_pos (by show idxOf _ ks 0 < 0; rw [e]; omega)] at h1
        exact Or.inl h1
      · have e3 : firstZ ks x.ad = (j : Int) := by show idxOf _ ks 0 = _; rw [e]; simp
        rw [e3, if_neg (by omega), Int.toNat_natCast] at h1
        rcases insZ_mem h1 with e4 | e4
        · exact Or.inr ⟨x, List.mem_cons_self, ks.getD j dK, getD_mem ks dK j hj, by simpa using hk, e4⟩
        · exact Or.inl e4
    · exact Or.inr ⟨z, List.mem_cons_of_mem _ hz, k, hk, e1, e2⟩
theorem keysZ_key {xs : List Cel} {s : Int} {g : Nat} (hs : Mk.isM s = true) {k : KeyD} (hk : k ∈ keysZ xs s g) : Mk.isK s k.br k.ix = true ∧ Mk.adr s k.br k.ix = k.ad := by
  unfold keysZ keysB at hk
  have h0 := winZ_le xs s g 0
  have h1 := winZ_le xs s g 1
  rcases List.mem_append.1 hk with e | e
  · obtain ⟨i, hi, rfl⟩ := List.mem_map.1 e
    have := List.mem_range.1 hi
    exact ⟨key_ok hs (Or.inl rfl) (by simp only; omega) (by simp only; omega), rfl⟩
  · obtain ⟨i, hi, rfl⟩ := List.mem_map.1 e
    have := List.mem_range.1 hi
    exact ⟨key_ok hs (Or.inr rfl) (by simp only; omega) (by simp only; omega), rfl⟩
theorem valZ_mem : ∀ (l : List CoinD) (c : CoinD), (l.map CoinD.id).Nodup → c ∈ l → valZ l c.id 0 = c.val := by
  intro l
  induction l with
  | nil => intro c _ h; cases h
  | cons x t ih =>
    intro c hn hc
    rw [List.map_cons, List.nodup_cons] at hn
    rw [valZ]
    rcases List.mem_cons.1 hc with e | e
    · subst e; rw [if_pos (by simp)]
    · have hne : x.id ≠ c.id := fun h => hn.1 (by rw [h]; exact List.mem_map_of_mem e)
      rw [if_neg (by simp [hne])]
      exact ih c hn.2 e
/-- an own coin of a scene -/
theorem Dp.own {s : Int} {g : Nat} {xs : List Cel} (h : Dp s g xs) (hs : Mk.isM s = true) (hg2 : g ≤ 20) {y : CoinD} (hy : y ∈ ownOf xs s g) : DpsOk s (xs.map Cel.kept) y ∧ Mk.isM y.id = true ∧ y.pos = 0 := by
  have hm : y.k0 ∈ xs.map Cel.kept := (h.perm hg2).mem_iff.1 (List.mem_map_of_mem hy)
  obtain ⟨x, hx, e⟩ := List.mem_map.1 hm
  have e1 : x.id = y.id := congrArg CoinD.id e
  have e2 : x.pos = y.pos := congrArg CoinD.pos e
  have e4 : x.val = y.val := congrArg CoinD.val e
  have hpos : y.pos = 0 := by rw [← e2]; exact h.po x hx
  rcases own_src (keysZ xs s g) (coinsC xs) [] y hy with e0 | ⟨c, _, k, hk, h1, h2⟩
  · cases e0
  · have hkk := keysZ_key hs hk
    have b1 : y.br = k.br := by rw [h2]; rfl
    have b2 : y.ix = k.ix := by rw [h2]; rfl
    have b3 : y.tt = c.ad := by rw [h2]; rfl
    refine ⟨⟨by rw [b1, b2]; exact hkk.1, by rw [b1, b2, hkk.2, h1, b3], ?_, ?_, ?_⟩, by rw [← e1]; exact h.im x hx, hpos⟩
    · unfold hasZ
      rw [List.any_eq_true]
      exact ⟨y.k0, hm, by simp [CoinD.k0]⟩
    · have := valZ_mem (xs.map Cel.kept) y.k0 (by rw [List.map_map]; exact h.nd) hm
      rw [hpos]
      exact this
    · rw [← e4]; have := h.va x hx; omega
theorem order_mem {r : Int} {l : List CoinD} {x : CoinD} (h : x ∈ orderZ r l) : x ∈ l ∧ 1 ≤ worthZ r x := by
  have := List.mem_filter.1 ((order_perm r l).mem_iff.1 h)
  exact ⟨this.1, of_decide_eq_true this.2⟩
end Go.Proofs.Ytffgpepngcnjeab

namespace Go.Proofs.Ytffgpepngcnjeab
open Go.RowKit
/-- what is paid, whatever the tag -/
structure Paid1 (s : Int) (g : Nat) (xs : List Cel) (nx : Int) (ys : List (Int × Int)) (r : Int) (L : List CoinD) (ex : List (Int × Int)) (ch : Int) : Prop where
  own : ∀ x ∈ L, x ∈ ownOf xs s g
  nd : (L.map CoinD.id).Nodup
  l0 : 0 < L.length
  l10 : L.length ≤ 10
  e1 : ex.length ≤ 1
  ev : ∀ y ∈ ex, rOut y = true
  fair : FairC s g xs (xs.map Cel.kept) r ex ch (sumC L - sumOu (ys ++ ex) - r * (3 + 7 * (L.length : Int) + 2 * ((ys ++ ex).length : Int)))
  pay : ∀ t : Int, 0 ≤ t → t ≤ 1099511627776 → payZ xs s g [] [] nx ys r t = payFin xs t L (ys ++ ex) ch
  nx : ex = [] ∨ nx ≤ ch
  ck : ∃ c, chooseZ r (orderZ r (ownOf xs s g)) (targetZ ys r) = some (L, c) ∧ (ex = [] ↔ ¬ 0 < c)
theorem Paid1.right {s : Int} {g : Nat} {xs : List Cel} {nx : Int} {ys : List (Int × Int)} {r : Int} {L : List CoinD} {ex : List (Int × Int)} {ch : Int} (h : Paid1 s g xs nx ys r L ex ch) (hd : Dp s g xs) (hs : Mk.isM s = true) (hg2 : g ≤ 20) (hy1 : 1 ≤ ys.length) (hy7 : ys.length ≤ 7) (hyr : ∀ y ∈ ys, rOut y = true) (t : Int) (h1 : 0 ≤ t) (h2 : t ≤ 1099511627776) : rTx t (L.map CoinD.inD) (ys ++ ex) = true := by
  have he := h.e1
  have hl := h.l10
  unfold rTx rIns rOuts
  simp only [Bool.and_eq_true, decide_eq_true_iff, List.all_eq_true, List.length_map, List.length_append]
  refine ⟨⟨h1, h2⟩, ⟨hl, fun x hx => ?_⟩, ⟨by omega, by omega⟩, fun y hy => ?_⟩
  · obtain ⟨c, hc, rfl⟩ := List.mem_map.1 hx
    have hh := hd.own hs hg2 (h.own c hc)
    unfold rIn CoinD.inD
    simp only [hh.2.1, hh.2.2]
    decide
  · rcases List.mem_append.1 hy with e | e
    · exact hyr y e
    · exact h.ev y e
/-- one of so many tags is new -/
theorem Paid1.tag {s : Int} {g : Nat} {xs : List Cel} {nx : Int} {ys : List (Int × Int)} {r : Int} {L : List CoinD} {ex : List (Int × Int)} {ch : Int} (h : Paid1 s g xs nx ys r L ex ch) (hd : Dp s g xs) (hs : Mk.isM s = true) (hg2 : g ≤ 20) (hy1 : 1 ≤ ys.length) (hy7 : ys.length ≤ 7) (hyr : ∀ y ∈ ys, rOut y = true) (hl : xs.length ≤ 24) (hall : ∀ j : Nat, j ≤ xs.length → payZ xs s g [] [] nx ys r (j : Int) = .inl 4) : False := by
  have hin : ∀ j, j < xs.length + 1 → idZ (j : Int) (L.map CoinD.inD) (ys ++ ex) ∈ xs.map Cel.id := fun j hj => by
    have h3 := hall j (by omega)
    rw [h.pay (j : Int) (by omega) (by omega)] at h3
    unfold payFin at h3
    split at h3
    · rename_i h4
      unfold hasId at h4
      rw [List.any_eq_true] at h4
      obtain ⟨x, hx, e⟩ := h4
      rw [beq_iff_eq] at e
      rw [← e]
      exact List.mem_map_of_mem hx
    · cases h3
  have := pigeon (xs.length + 1) (xs.map Cel.id) (fun j => idZ (j : Int) (L.map CoinD.inD) (ys ++ ex)) hin (fun i j hij hj => by
    have r1 := h.right hd hs hg2 hy1 hy7 hyr (i : Int) (by omega) (by omega)
    have r2 := h.right hd hs hg2 hy1 hy7 hyr (j : Int) (by omega) (by omega)
    show idZ _ _ _ ≠ idZ _ _ _
    unfold idZ
    rw [if_pos r1, if_pos r2]
    exact fun e => id_tag (i : Int) (j : Int) (L.map CoinD.inD) (ys ++ ex) (by omega) (by omega) (by omega) e.symm)
  rw [List.length_map] at this
  omega
end Go.Proofs.Ytffgpepngcnjeab

namespace Go.Proofs.Ytffgpepngcnjeab
open Go.RowKit
/-- a list of marks: which are gone -/
structure GoneAt (w : World) (G n : Nat) (gs : List Bool) : Prop where
  len : gs.length = n
  cell : ∀ j, j < n → w.cell? ⟨G, j, none⟩ = some (.bool (gs.getD j true))
  fz : ∀ j, w.frozen? ⟨G, j, none⟩ = false
theorem GoneAt.grown {w w' : World} {G n : Nat} {gs : List Bool} (h : GoneAt w G n gs) (hG : G < w.heap.size) (hb : Below w.heap.size w w') : GoneAt w' G n gs :=
  ⟨h.len, fun j hj => (hb.cell (p := ⟨G, j, none⟩) hG).trans (h.cell j hj), fun j => (hb.frozen (p := ⟨G, j, none⟩) hG).trans (h.fz j)⟩
theorem GoneAt.set {w : World} {G n : Nat} {gs : List Bool} (h : GoneAt w G n gs) (b : Nat) (hb : b < n) : GoneAt (w.setCell ⟨G, b, none⟩ (.bool true)) G n (gs.set b true) := by
  refine ⟨by rw [List.length_set]; exact h.len, fun j hj => ?_, fun j => by rw [World.frozen?_setCell]; exact h.fz j⟩
  by_cases e : j = b
  · subst e
    rw [World.cell?_setCell_same _ _ _ (h.cell j hj)]
    have := h.len
    simp [List.getD, show j < gs.length by omega]
  · rw [World.cell?_setCell_other _ _ _ _ (by intro e2; exact e (congrArg Addr.off e2).symm), h.cell j hj]
    simp [List.getD, show ¬ b = j from fun h => e h.symm]
theorem GoneAt.new (w : World) (n : Nat) : GoneAt (w.alloc (.cells (Go.madeCells #[Value.bool false] n) 4)) w.heap.size n (List.replicate n false) := by
  refine ⟨List.length_replicate, fun j hj => ?_, fun j => World.frozen?_alloc_at _ _ _ _ rfl⟩
  rw [World.cell?_alloc_new]
  have : (Go.madeCells #[Value.bool false] n)[j]? = some (Value.bool false) := by
    simp only [Go.madeCells, Array.getElem?_map]
    rw [Array.getElem?_eq_getElem (by simpa using hj)]
    simp [Nat.mod_one]
  simp [this, List.getD, hj]
/-- of the first k: the greatest that is not gone -/
def Bst (L : List CoinD) (gs : List Bool) (k : Nat) (bI : Int) : Prop :=
  (bI = -1 ∧ ∀ j, j < k → gs.getD j true = true) ∨
  ∃ b : Nat, bI = (b : Int) ∧ b < k ∧ gs.getD b true = false ∧ ∀ j, j < k → gs.getD j true = false → (L.getD j dN).val ≤ (L.getD b dN).val
theorem Bst.zero (L : List CoinD) (gs : List Bool) : Bst L gs 0 (-1) := Or.inl ⟨rfl, fun j hj => absurd hj (by omega)⟩
theorem Bst.first {L : List CoinD} {gs : List Bool} {k : Nat} (h : Bst L gs k (-1)) (hg : gs.getD k true = false) : Bst L gs (k + 1) (k : Int) := by
  rcases h with ⟨e, h⟩ | ⟨b', e, _⟩
  · refine Or.inr ⟨k, rfl, by omega, hg, fun j hj hg => ?_⟩
    by_cases ej : j = k
    · rw [ej]; exact Int.le_refl _
    · rw [h j (by omega)] at hg; cases hg
  · omega
theorem Bst.more {L : List CoinD} {gs : List Bool} {k b : Nat} (h : Bst L gs k (b : Int)) (hg : gs.getD k true = false) (hs : (L.getD b dN).val < (L.getD k dN).val) : Bst L gs (k + 1) (k : Int) := by
  rcases h with ⟨e, h⟩ | ⟨b', e, h1, h2, h3⟩
  · omega
  · have : b = b' := by omega
    subst this
    refine Or.inr ⟨k, rfl, by omega, hg, fun j hj hg => ?_⟩
    by_cases ej : j = k
    · rw [ej]; exact Int.le_refl _
    · have := h3 j (by omega) hg; omega
theorem Bst.bd {L : List CoinD} {gs : List Bool} {k : Nat} {bI : Int} (h : Bst L gs k bI) : bI = -1 ∨ ∃ b : Nat, bI = (b : Int) ∧ b < k := by
  rcases h with ⟨e, _⟩ | ⟨b, e, h1, _⟩
  · exact Or.inl e
  · exact Or.inr ⟨b, e, h1⟩
/-- what is taken so far -/
structure EnI (r : Int) (cs : List CoinD) (gs : List Bool) (k : Nat) (S : Int) : Prop where
  gl : gs.length = cs.length
  rl : (remG gs (cs.map (worthZ r))).length + k = cs.length
  gr : ∀ T, Gr (10 - k) (remG gs (cs.map (worthZ r))) T → Gr 10 (cs.map (worthZ r)) (S + T)
  bd : 0 ≤ S ∧ S ≤ 1099511627776 * (k : Int)
theorem EnI.zero (r : Int) (cs : List CoinD) : EnI r cs (List.replicate cs.length false) 0 0 := by
  have e : remG (List.replicate cs.length false) (cs.map (worthZ r)) = cs.map (worthZ r) := by
    have := rem_all (cs.map (worthZ r))
    rwa [List.length_map] at this
  refine ⟨List.length_replicate, by rw [e, List.length_map]; omega, fun T hT => ?_, by omega⟩
  rw [e] at hT
  rw [Int.zero_add]
  exact hT
theorem map_getD (r : Int) (cs : List CoinD) (j : Nat) (h : j < cs.length) : (cs.map (worthZ r)).getD j 0 = worthZ r (cs.getD j dN) := by
  simp [List.getD, h]
theorem EnI.step {r : Int} {cs : List CoinD} {gs : List Bool} {k : Nat} {S : Int} (h : EnI r cs gs k S) (hk : k < 10) (hr : 0 ≤ r) (hv : ∀ x ∈ cs, 0 ≤ x.val ∧ x.val ≤ 1099511627776) {b : Nat} (hb : Bst cs gs cs.length (b : Int)) : EnI r cs (gs.set b true) (k + 1) (S + mx0 (worthZ r (cs.getD b dN))) := by
  rcases hb with ⟨e, _⟩ | ⟨b', e, h1, h2, h3⟩
  · omega
  · have : b = b' := by omega
    subst this
    have hgl := h.gl
    have hl : gs.length = (cs.map (worthZ r)).length := by rw [List.length_map]; exact hgl
    have hlen := rem_len hl (by omega) h2
    have hrl := h.rl
    have hvb := hv (cs.getD b dN) (getD_mem cs dN b h1)
    have hbd := h.bd
    refine ⟨by rw [List.length_set]; exact hgl, by omega, fun T hT => ?_, ?_⟩
    · have h4 : Gr (10 - (k + 1) + 1) (remG gs (cs.map (worthZ r))) _ := gr_pick hl (by omega) h2 (fun j hj hg => by
        have hj2 : j < cs.length := by omega
        rw [map_getD r cs j hj2, map_getD r cs b h1]
        have := h3 j hj2 hg
        unfold worthZ
        omega) hT
      rw [show 10 - (k + 1) + 1 = 10 - k by omega, map_getD r cs b h1] at h4
      have := h.gr _ h4
      rw [Int.add_assoc]
      exact this
    · have h5 : 0 ≤ mx0 (worthZ r (cs.getD b dN)) ∧ mx0 (worthZ r (cs.getD b dN)) ≤ 1099511627776 := by
        unfold mx0 worthZ
        split <;> omega
      push_cast
      omega
theorem EnI.some {r : Int} {cs : List CoinD} {gs : List Bool} {k : Nat} {S : Int} (h : EnI r cs gs k S) (hk : k < cs.length) {bI : Int} (hb : Bst cs gs cs.length bI) : ∃ b : Nat, bI = (b : Int) ∧ b < cs.length := by
  rcases hb with ⟨_, hn⟩ | ⟨b, e, h1, _⟩
  · have hgl := h.gl
    have := rem_none (gs := gs) (vs := cs.map (worthZ r)) (by rw [List.length_map]; exact hgl) (fun j hj => hn j (by omega))
    have hrl := h.rl
    rw [this, List.length_nil] at hrl
    omega
  · exact ⟨b, e, h1⟩
theorem EnI.done {r : Int} {cs : List CoinD} {gs : List Bool} {k : Nat} {S : Int} (h : EnI r cs gs k S) (hk : k = 10 ∨ k = cs.length) : S = wsum r ((orderZ r cs).take 10) := by
  have hT : Gr (10 - k) (remG gs (cs.map (worthZ r))) 0 := by
    rcases hk with e | e
    · subst e; exact Gr.zero _
    · have hrl := h.rl
      have : remG gs (cs.map (worthZ r)) = [] := List.length_eq_zero_iff.1 (by omega)
      rw [this]
      exact Gr.nil _
  have := gr_order r 10 cs _ (h.gr 0 hT)
  rw [Int.add_zero] at this
  exact this
end Go.Proofs.Ytffgpepngcnjeab

namespace Go.Proofs.Ytffgpepngcnjeab
open Go.RowKit
theorem own_cap {α : Type} {f : α → List Value} {e k : Nat} {w : World} {base n c : Nat} {ao : Option Addr} {xs : List α} (h : OwnRec f e k w base (.slice ao n c) xs) : xs.length = n ∧ n ≤ c := by
  rcases h.2 with ⟨e, h0⟩ | ⟨g, cap, cur, e, _, _, hc, _⟩
  · injection e with _ e2 e3
    omega
  · injection e with _ e2 e3
    omega
/-- a purse without payments -/
theorem pp_none {w : World} {P : Nat} {s : Int} {g : Nat} {v : Value} {h : Int} {xs : List Cel} (hp : PAt w P s g v h xs) : PP (fun _ => False) w P s g v h xs (.slice none 0 0) (.slice none 0 0) 0 0 [] [] := by
  refine ⟨⟨hp.c0, hp.c1, hp.f0, hp.f1, hp.own, fun q hq => hp.ext q ?_⟩, ⟨(hp.ext (4, .slice none 0 0) (by simp)).2.2, (hp.ext (5, .slice none 0 0) (by simp)).2.2, (hp.ext (6, .int .i64 0) (by simp)).2.2, (hp.ext (7, .int .i64 0) (by simp)).2.2, hp.f1, OwnRec.nil _ _ _ _ _, OwnRec.nil _ _ _ _ _, fun p hp => (by cases hp), by omega, fun k hk => (by cases hk), fun k hk => hk.elim⟩, fun k hk => ⟨fun e => (by cases e), fun e => (by cases e), fun e => e⟩⟩
  simp only [List.mem_cons, List.not_mem_nil, or_false] at hq ⊢
  rcases hq with rfl | rfl <;> simp
theorem Sn.fr {S P : Nat} {s : Int} {g : Nat} {vi : Value} {ac : Option Addr} {cc : Nat} {cs : List CoinD} {w w' : World} {E : Nat → Prop} (h : Sn S P s g vi ac cc cs w) (hf : Fr E w w') (h1 : ¬ E S) (h2 : ∀ a, ac = some a → ¬ E a.block) : Sn S P s g vi ac cc cs w' :=
  ⟨hf.cell h.c0 h1, hf.cell h.c1 h1, hf.cell h.c2 h1, hf.cell h.c3 h1, hf.cell h.c4 h1, rec_fr hf h.at_ (fun _ a ha => h2 a ha)⟩
/-- what a payment of a scene is, seen from behind -/
def ScPaid (S P : Nat) (s : Int) (g : Nat) (v vi : Value) (ac : Option Addr) (cc : Nat) (h : Int) (xs : List Cel) (ys : List (Int × Int)) (r : Int) (can : Bool) (n0 t : Int) (ai : Option Addr) (n2 ci : Nat) (ap : Option Addr) (n3 cp : Nat) (ak : Option Addr) (n4 ck : Nat) (ch er : Int) (w : World) : Prop :=
  Sn S P s g vi ac cc (xs.map Cel.kept) w ∧
  ((can = false ∧ er = 9 ∧ n0 = 0 ∧ t = 0 ∧ ai = none ∧ n2 = 0 ∧ ci = 0 ∧ ap = none ∧ n3 = 0 ∧ cp = 0 ∧ ak = none ∧ n4 = 0 ∧ ck = 0 ∧ ch = 0 ∧ PAt w P s g v h xs) ∨
   (can = true ∧ er = 10 ∧ unpZ xs s g 0 = none ∧ n0 = 0 ∧ t = 0 ∧ ai = none ∧ n2 = 0 ∧ ci = 0 ∧ ap = none ∧ n3 = 0 ∧ cp = 0 ∧ ak = none ∧ n4 = 0 ∧ ck = 0 ∧ ch = 0 ∧ PAt w P s g v h xs) ∨
   (can = true ∧ er = 0 ∧ n0 = 0 ∧ ∃ L ex NN vl' vs' md nx p, Paid1 s g xs 0 ys r L ex ch ∧ PP NN w P s g v h xs vl' vs' md nx [p] [] ∧ p.cs = L ∧ L.length = n2 ∧ n2 = n4 ∧ (ys ++ ex).length = n3 ∧ n3 ≤ cp ∧ RecAt inC w ai L ∧ RecAt kC w ak L ∧ OutsAt w ap (ys ++ ex)))
theorem ScPaid.grown {S P : Nat} {s : Int} {g : Nat} {v vi : Value} {ac : Option Addr} {cc : Nat} {h : Int} {xs : List Cel} {ys : List (Int × Int)} {r : Int} {can : Bool} {n0 t : Int} {ai : Option Addr} {n2 ci : Nat} {ap : Option Addr} {n3 cp : Nat} {ak : Option Addr} {n4 ck : Nat} {ch er : Int} {w w' : World} (u : ScPaid S P s g v vi ac cc h xs ys r can n0 t ai n2 ci ap n3 cp ak n4 ck ch er w) (hb : Below w.heap.size w w') : ScPaid S P s g v vi ac cc h xs ys r can n0 t ai n2 ci ap n3 cp ak n4 ck ch er w' := by
  refine ⟨u.1.grown hb, ?_⟩
  rcases u.2 with ⟨h1, h2, h3, h4, h5, h6, h7, h8, h9, h10, h11, h12, h13, h14, h15⟩ | ⟨h1, h2, h3, h4, h5, h6, h7, h8, h9, h10, h11, h12, h13, h14, h15, h16⟩ | ⟨h1, h2, h3, L, ex, NN, vl', vs', md, nx, p, g1, g2, g3, g4, g5, g6, g7, g8, g9, g10⟩
  · exact Or.inl ⟨h1, h2, h3, h4, h5, h6, h7, h8, h9, h10, h11, h12, h13, h14, h15.grown hb⟩
  · exact Or.inr (Or.inl ⟨h1, h2, h3, h4, h5, h6, h7, h8, h9, h10, h11, h12, h13, h14, h15, h16.grown hb⟩)
  · exact Or.inr (Or.inr ⟨h1, h2, h3, L, ex, NN, vl', vs', md, nx, p, g1, g2.grown hb, g3, g4, g5, g6, g7, g8.grown hb, g9.grown hb, g10.grown hb⟩)
/-- the sums behind a payment -/
def balF (tot : Int) (can : Bool) (er : Int) (L : List CoinD) : Int := if can = true ∧ er = 0 then tot - sumC L else tot
end Go.Proofs.Ytffgpepngcnjeab

namespace Go.Proofs.Ytffgpepngcnjeab
open Go.RowKit
/-- a payment that was made, as its owner keeps it -/
structure DeedD where
  num : Int
  tag : Int
  ai : Option Addr
  n : Nat
  ci : Nat
  ap : Option Addr
  m : Nat
  cp : Nat
  ak : Option Addr
  q : Nat
  ck : Nat
  ch : Int
  t2 : Int
  ti : Option Addr
  tn : Nat
  tc : Nat
  tp : Option Addr
  tm : Nat
  td : Nat
  lv : Bool
  sg : Bool
  cs : List CoinD
def dDD : DeedD := ⟨0, 0, none, 0, 0, none, 0, 0, none, 0, 0, 0, 0, none, 0, 0, none, 0, 0, false, false, []⟩
def DeedD.v (a : DeedD) : List Value := [.int .i64 a.num, .int .i64 a.tag, .slice a.ai a.n a.ci, .slice a.ap a.m a.cp, .slice a.ak a.q a.ck, .int .i64 a.ch, .int .i64 a.t2, .slice a.ti a.tn a.tc, .slice a.tp a.tm a.td, .bool a.lv, .bool a.sg]
theorem deed11 (a : DeedD) : a.v.length = 11 := rfl
theorem deed_one (a : DeedD) : ∀ u ∈ a.v, u.oneCell' = true := by
  intro u hu
  simp only [DeedD.v, List.mem_cons, List.not_mem_nil, or_false] at hu
  rcases hu with rfl | rfl | rfl | rfl | rfl | rfl | rfl | rfl | rfl | rfl | rfl <;> rfl
structure DeedCells (w : World) (b off : Nat) (a : DeedD) : Prop where
  c2 : w.cell? ⟨b, off + 2, none⟩ = some (.slice a.ai a.n a.ci)
  c4 : w.cell? ⟨b, off + 4, none⟩ = some (.slice a.ak a.q a.ck)
  c9 : w.cell? ⟨b, off + 9, none⟩ = some (.bool a.lv)
  c10 : w.cell? ⟨b, off + 10, none⟩ = some (.bool a.sg)
theorem deedCells {w : World} {b off : Nat} {xs : List DeedD} (h : VRow w b off (xs.flatMap DeedD.v)) (j : Nat) (hj : j < xs.length) : DeedCells w b (off + j * 11) (xs.getD j dDD) :=
  ⟨rcell deed11 dDD h j hj 2 (by omega), rcell deed11 dDD h j hj 4 (by omega), rcell deed11 dDD h j hj 9 (by omega), rcell deed11 dDD h j hj 10 (by omega)⟩
/-- its lists, in blocks of N -/
structure DeedOk (N : Nat → Prop) (w : World) (a : DeedD) : Prop where
  ri : RecAt inC w a.ai a.cs
  rk : RecAt kC w a.ak a.cs
  ln : a.cs.length = a.n
  lq : a.q = a.n
  b1 : a.n ≤ 10
  ni : a.cs ≠ [] → ∀ x, a.ai = some x → N x.block
  nk : a.cs ≠ [] → ∀ x, a.ak = some x → N x.block
theorem DeedOk.fr {E N : Nat → Prop} {w w' : World} (hf : Fr E w w') {a : DeedD} (h : DeedOk N w a) (hn : ∀ k, N k → ¬ E k) : DeedOk N w' a :=
  ⟨rec_fr hf h.ri (fun e x hx => hn _ (h.ni e x hx)), rec_fr hf h.rk (fun e x hx => hn _ (h.nk e x hx)), h.ln, h.lq, h.b1, h.ni, h.nk⟩
theorem DeedOk.grown {N : Nat → Prop} {w w' : World} {a : DeedD} (h : DeedOk N w a) (hb : Below w.heap.size w w') : DeedOk N w' a := h.fr (Fr.of_below hb (fun _ => False)) (fun _ _ h => h)
theorem DeedOk.more {M N : Nat → Prop} {w : World} {a : DeedD} (h : DeedOk N w a) (hn : ∀ k, N k → M k) : DeedOk M w a := ⟨h.ri, h.rk, h.ln, h.lq, h.b1, fun e x hx => hn _ (h.ni e x hx), fun e x hx => hn _ (h.nk e x hx)⟩
def takenD (ds : List DeedD) (id pos : Int) : Bool := ds.any fun a => a.cs.any fun x => a.lv && (x.id == id && x.pos == pos)
def sealD (ds : List DeedD) (kb ki : Int) : Bool := ds.any fun a => a.cs.any fun x => a.sg && (x.br == kb && x.ix == ki)
set_option maxRecDepth 100000 in
set_option maxHeartbeats 4000000 in
theorem bTaken_any (N : Nat → Prop) (D : Nat) (ao : Option Addr) (n c : Nat) (ms : List DeedD) (x0 x1 : Int) (w : World) (hp : w.cell? ⟨D, 2, none⟩ = some (.slice ao n c)) (hx : RecAt DeedD.v w ao ms) (hn : ms.length = n) (hm : n ≤ 9007199254740992) (hok : ∀ a ∈ ms, DeedOk N w a) :
    Calls Try.prog 33 #[.pointer (some ⟨D, 0, none⟩), .int .i64 x0, .int .i64 x1] w fun e w' => e = .returned (.bool (takenD ms x0 x1)) ∧ Below w.heap.size w w' := by
  have HN : Hid (ms.length = n) := hn
  have HX : Hid (RecAt DeedD.v w ao ms) := hx
  have HO : Hid (∀ a ∈ ms, DeedOk N w a) := hok
  have hDl : D < w.heap.size := cell_lt hp
  clear hn hx hok
  go_enter Try.func33, Try.ntmps33
  go_wp2
  go_loopw [7] (fun i wr => ∃ k : Nat, k ≤ n ∧ i = .int .i64 k ∧ Hid ((ms.take k).any (fun a => a.cs.any fun x => a.lv && (x.id == x0 && x.pos == x1)) = false) ∧ Below w.heap.size w wr) (fun i _ => n - (intOf i).toNat)
  case atStart => exact ⟨0, Nat.zero_le _, rfl, by show List.any _ _ = false; simp, Below.refl _ _⟩
  case round =>
    obtain ⟨k, hk, rfl, hany, hbl⟩ := hrel
    have p0 := (hbl.cell (p := ⟨D, 2, none⟩) hDl).trans hp
    by_cases hlt : k < n
    · rcases HX.out with hnil | ⟨g, off, rfl, hrow⟩
      · have := HN.out; rw [hnil] at this; simp at this; omega
      have HM : Hid _ := deedCells hrow k (by rw [HN.out]; exact hlt)
      have HS : Hid _ := any_no (fun a : DeedD => a.cs.any fun x => a.lv && (x.id == x0 && x.pos == x1)) ms dDD k (by rw [HN.out]; exact hlt) hany.out
      have HZ : Hid _ := any_yes (fun a : DeedD => a.cs.any fun x => a.lv && (x.id == x0 && x.pos == x1)) ms dDD k (by rw [HN.out]; exact hlt)
      have hk0 := HO.out (ms.getD k dDD) (getD_mem ms dDD k (by rw [HN.out]; exact hlt))
      have HCO : Hid (RecAt inC w (ms.getD k dDD).ai (ms.getD k dDD).cs) := hk0.ri
      have HCL : Hid ((ms.getD k dDD).cs.length = (ms.getD k dDD).n) := hk0.ln
      have hb10 : (ms.getD k dDD).n ≤ 10 := hk0.b1
      clear hrow hk0
      generalize ms.getD k dDD = y at *
      obtain ⟨ynum, ytag, yai, yn, yc, yap, ym, yd, yak, yq, ye, ych, yt2, yti, ytn, ytc, ytp, ytm, ytd, ylv, ysg, ycs⟩ := y
      simp only at HM HCO HCL hb10
      have hkI : (k : Int) < (n : Int) := by omega
      have hk0 : (0 : Int) ≤ (k : Int) := by omega
      have m6 := (hbl.cell (p := ⟨g, off + k * 11 + 2, none⟩) (cell_lt HM.out.c2)).trans HM.out.c2
      have m7 := (hbl.cell (p := ⟨g, off + k * 11 + 9, none⟩) (cell_lt HM.out.c9)).trans HM.out.c9
      obtain ⟨wo, rfl⟩ : ∃ wo : World, wo = wr := ⟨_, rfl⟩
      go_wp2
      go_loopw [8] (fun i wr => ∃ j : Nat, j ≤ yn ∧ i = .int .i64 j ∧ Hid ((ycs.take j).any (fun x => ylv && (x.id == x0 && x.pos == x1)) = false) ∧ Below wo.heap.size wo wr) (fun i _ => yn - (intOf i).toNat)
      case atStart => exact ⟨0, Nat.zero_le _, rfl, by show List.any _ _ = false; simp, Below.refl _ _⟩
      case round =>
        obtain ⟨j, hj, rfl, hany2, hbo⟩ := hrel
        have hszo := hbo.size
        have hbw : Below w.heap.size w wr := hbl.trans (hbo.mono hbl.size)
        have q0 := (hbo.cell (p := ⟨D, 2, none⟩) (cell_lt p0)).trans p0
        have q6 := (hbo.cell (p := ⟨g, off + k * 11 + 2, none⟩) (cell_lt m6)).trans m6
        have q7 := (hbo.cell (p := ⟨g, off + k * 11 + 9, none⟩) (cell_lt m7)).trans m7
        by_cases hlt2 : j < yn
        · rcases HCO.out with hnil | ⟨g2, off2, rfl, hrow⟩
          · have := HCL.out; rw [hnil] at this; simp at this; omega
          have hjl : j < ycs.length := by rw [HCL.out]; exact hlt2
          have d0 : wr.cell? ⟨g2, off2 + j * 3, none⟩ = some (.int .i64 (ycs.getD j dN).id) := rcell inC3 dN (hrow.grown hbw) j hjl 0 (by omega)
          have d1 : wr.cell? ⟨g2, off2 + j * 3 + 1, none⟩ = some (.int .i64 (ycs.getD j dN).pos) := rcell inC3 dN (hrow.grown hbw) j hjl 1 (by omega)
          have d2 : wr.cell? ⟨g2, off2 + j * 3 + 2, none⟩ = some (.slice none 0 0) := rcell inC3 dN (hrow.grown hbw) j hjl 2 (by omega)
          have HS2 : Hid _ := any_no (fun x : CoinD => ylv && (x.id == x0 && x.pos == x1)) ycs dN j hjl hany2.out
          have HZ2 : Hid _ := any_yes (fun x : CoinD => ylv && (x.id == x0 && x.pos == x1)) ycs dN j hjl
          have hjI : (j : Int) < (yn : Int) := by omega
          have hj0 : (0 : Int) ≤ (j : Int) := by omega
          clear hrow
          generalize ycs.getD j dN = z at d0 d1 d2 HS2 HZ2
          obtain ⟨z0, z1, z2, z3, z4, z5⟩ := z
          simp only at d0 d1 d2
          have bX : Below wr.heap.size wr (wr.alloc (.cells #[.int .i64 z0, .int .i64 z1, .slice none 0 0] 85)) := (Below.refl _ _).alloc (Nat.le_refl _) _
          have s0 := (bX.cell (p := ⟨D, 2, none⟩) (cell_lt q0)).trans q0
          have s7 := (bX.cell (p := ⟨g, off + k * 11 + 9, none⟩) (cell_lt q7)).trans q7
          have v0 : (wr.alloc (.cells #[.int .i64 z0, .int .i64 z1, .slice none 0 0] 85)).cell? ⟨wr.heap.size, 0, none⟩ = some (.int .i64 z0) := by go_simp
          have v1 : (wr.alloc (.cells #[.int .i64 z0, .int .i64 z1, .slice none 0 0] 85)).cell? ⟨wr.heap.size, 1, none⟩ = some (.int .i64 z1) := by go_simp
          have hb9 : Below wo.heap.size wo (wr.alloc (.cells #[.int .i64 z0, .int .i64 z1, .slice none 0 0] 85)) := hbo.alloc hszo _
          have HBF : Hid (Below w.heap.size w (wr.alloc (.cells #[.int .i64 z0, .int .i64 z1, .slice none 0 0] 85))) := hbl.trans (hb9.mono hbl.size)
          go_upto_region 8 with fail
          clear d0 d1 d2 q0 q6 q7 bX
          generalize wr.alloc (.cells #[.int .i64 z0, .int .i64 z1, .slice none 0 0] 85) = w9 at *
          generalize wr.heap.size = X at *
          cases hlv : ylv
          · go_wp2
            go_roundw
            case rel => exact ⟨j + 1, by omega, by go_num, HS2.out (by rw [hlv]; rfl), hb9⟩
            case measure => simp [intOf]; omega
          · cases h1 : (z0 == x0)
            · go_wp2
              go_roundw
              case rel => exact ⟨j + 1, by omega, by go_num, HS2.out (by simp [h1]), hb9⟩
              case measure => simp [intOf]; omega
            · cases h2 : (z1 == x1)
              · go_wp2
                go_roundw
                case rel => exact ⟨j + 1, by omega, by go_num, HS2.out (by simp [h2]), hb9⟩
                case measure => simp [intOf]; omega
              · go_wp2
                go_ret
                exact ⟨ret_bool (HZ.out (HZ2.out (by show (ylv && (z0 == x0 && z1 == x1)) = true; rw [hlv, h1, h2]; rfl))).symm, HBF.out⟩
        · have HE : Hid _ := any_done (fun x : CoinD => ylv && (x.id == x0 && x.pos == x1)) ycs yn HCL.out j (by omega) hany2.out
          go_wp2
          go_roundw
          case rel => exact ⟨k + 1, by omega, by go_num, HS.out HE.out.symm, hbw⟩
          case measure => simp [intOf]; omega
    · go_wp2
      go_ret
      exact ⟨ret_bool (any_done _ ms n HN.out k (by omega) hany.out), hbl⟩
set_option maxRecDepth 100000 in
set_option maxHeartbeats 4000000 in
theorem bSealed_any (N : Nat → Prop) (D : Nat) (ao : Option Addr) (n c : Nat) (ms : List DeedD) (x0 x1 : Int) (w : World) (hp : w.cell? ⟨D, 2, none⟩ = some (.slice ao n c)) (hx : RecAt DeedD.v w ao ms) (hn : ms.length = n) (hm : n ≤ 9007199254740992) (hok : ∀ a ∈ ms, DeedOk N w a) :
    Calls Try.prog 34 #[.pointer (some ⟨D, 0, none⟩), .agg #[.int .i64 x0, .int .i64 x1]] w fun e w' => e = .returned (.bool (sealD ms x0 x1)) ∧ Below w.heap.size w w' := by
  have HN : Hid (ms.length = n) := hn
  have HX : Hid (RecAt DeedD.v w ao ms) := hx
  have HO : Hid (∀ a ∈ ms, DeedOk N w a) := hok
  have hDl : D < w.heap.size := cell_lt hp
  clear hn hx hok
  go_enter Try.func34, Try.ntmps34
  go_wp2
  go_loopw [5] (fun i wr => ∃ k : Nat, k ≤ n ∧ i = .int .i64 k ∧ Hid ((ms.take k).any (fun a => a.cs.any fun x => a.sg && (x.br == x0 && x.ix == x1)) = false) ∧ wr.cell? ⟨w.heap.size, 0, none⟩ = some (.int .i64 x0) ∧ wr.cell? ⟨w.heap.size, 1, none⟩ = some (.int .i64 x1) ∧ Below w.heap.size w wr) (fun i _ => n - (intOf i).toNat)
  case atStart => exact ⟨0, Nat.zero_le _, rfl, by show List.any _ _ = false; simp, by go_simp, by go_simp, (Below.refl _ _).alloc (Nat.le_refl _) _⟩
  case round =>
    obtain ⟨k, hk, rfl, hany, b0, b1, hbl⟩ := hrel
    have p0 := (hbl.cell (p := ⟨D, 2, none⟩) hDl).trans hp
    by_cases hlt : k < n
    · rcases HX.out with hnil | ⟨g, off, rfl, hrow⟩
      · have := HN.out; rw [hnil] at this; simp at this; omega
      have HM : Hid _ := deedCells hrow k (by rw [HN.out]; exact hlt)
      have HS : Hid _ := any_no (fun a : DeedD => a.cs.any fun x => a.sg && (x.br == x0 && x.ix == x1)) ms dDD k (by rw [HN.out]; exact hlt) hany.out
      have HZ : Hid _ := any_yes (fun a : DeedD => a.cs.any fun x => a.sg && (x.br == x0 && x.ix == x1)) ms dDD k (by rw [HN.out]; exact hlt)
      have hk0 := HO.out (ms.getD k dDD) (getD_mem ms dDD k (by rw [HN.out]; exact hlt))
      have HCO : Hid (RecAt kC w (ms.getD k dDD).ak (ms.getD k dDD).cs) := hk0.rk
      have HCL : Hid ((ms.getD k dDD).cs.length = (ms.getD k dDD).q) := by rw [hk0.lq]; exact hk0.ln
      have hb10 : (ms.getD k dDD).q ≤ 10 := by rw [hk0.lq]; exact hk0.b1
      clear hrow hk0
      generalize ms.getD k dDD = y at *
      obtain ⟨ynum, ytag, yai, yn, yc, yap, ym, yd, yak, yq, ye, ych, yt2, yti, ytn, ytc, ytp, ytm, ytd, ylv, ysg, ycs⟩ := y
      simp only at HM HCO HCL hb10
      have hkI : (k : Int) < (n : Int) := by omega
      have hk0 : (0 : Int) ≤ (k : Int) := by omega
      have m6 := (hbl.cell (p := ⟨g, off + k * 11 + 4, none⟩) (cell_lt HM.out.c4)).trans HM.out.c4
      have m7 := (hbl.cell (p := ⟨g, off + k * 11 + 10, none⟩) (cell_lt HM.out.c10)).trans HM.out.c10
      obtain ⟨wo, rfl⟩ : ∃ wo : World, wo = wr := ⟨_, rfl⟩
      go_wp2
      go_loopw [6] (fun i wr => ∃ j : Nat, j ≤ yq ∧ i = .int .i64 j ∧ Hid ((ycs.take j).any (fun x => ysg && (x.br == x0 && x.ix == x1)) = false) ∧ Below wo.heap.size wo wr) (fun i _ => yq - (intOf i).toNat)
      case atStart => exact ⟨0, Nat.zero_le _, rfl, by show List.any _ _ = false; simp, Below.refl _ _⟩
      case round =>
        obtain ⟨j, hj, rfl, hany2, hbo⟩ := hrel
        have hszo := hbo.size
        have hbw : Below w.heap.size w wr := hbl.trans (hbo.mono hbl.size)
        have q0 := (hbo.cell (p := ⟨D, 2, none⟩) (cell_lt p0)).trans p0
        have q6 := (hbo.cell (p := ⟨g, off + k * 11 + 4, none⟩) (cell_lt m6)).trans m6
        have q7 := (hbo.cell (p := ⟨g, off + k * 11 + 10, none⟩) (cell_lt m7)).trans m7
        have r0 := (hbo.cell (p := ⟨w.heap.size, 0, none⟩) (cell_lt b0)).trans b0
        have r1 := (hbo.cell (p := ⟨w.heap.size, 1, none⟩) (cell_lt b1)).trans b1
        by_cases hlt2 : j < yq
        · rcases HCO.out with hnil | ⟨g2, off2, rfl, hrow⟩
          · have := HCL.out; rw [hnil] at this; simp at this; omega
          have hjl : j < ycs.length := by rw [HCL.out]; exact hlt2
          have d0 : wr.cell? ⟨g2, off2 + j * 2, none⟩ = some (.int .i64 (ycs.getD j dN).br) := rcell kC2 dN (hrow.grown hbw) j hjl 0 (by omega)
          have d1 : wr.cell? ⟨g2, off2 + j * 2 + 1, none⟩ = some (.int .i64 (ycs.getD j dN).ix) := rcell kC2 dN (hrow.grown hbw) j hjl 1 (by omega)
          have HS2 : Hid _ := any_no (fun x : CoinD => ysg && (x.br == x0 && x.ix == x1)) ycs dN j hjl hany2.out
          have HZ2 : Hid _ := any_yes (fun x : CoinD => ysg && (x.br == x0 && x.ix == x1)) ycs dN j hjl
          have hjI : (j : Int) < (yq : Int) := by omega
          have hj0 : (0 : Int) ≤ (j : Int) := by omega
          clear hrow
          generalize ycs.getD j dN = z at d0 d1 HS2 HZ2
          obtain ⟨z0, z1, z2, z3, z4, z5⟩ := z
          simp only at d0 d1
          have bX : Below wr.heap.size wr (wr.alloc (.cells #[.int .i64 z4, .int .i64 z5] 93)) := (Below.refl _ _).alloc (Nat.le_refl _) _
          have s0 := (bX.cell (p := ⟨D, 2, none⟩) (cell_lt q0)).trans q0
          have s7 := (bX.cell (p := ⟨g, off + k * 11 + 10, none⟩) (cell_lt q7)).trans q7
          have t0 := (bX.cell (p := ⟨w.heap.size, 0, none⟩) (cell_lt r0)).trans r0
          have t1 := (bX.cell (p := ⟨w.heap.size, 1, none⟩) (cell_lt r1)).trans r1
          have v0 : (wr.alloc (.cells #[.int .i64 z4, .int .i64 z5] 93)).cell? ⟨wr.heap.size, 0, none⟩ = some (.int .i64 z4) := by go_simp
          have v1 : (wr.alloc (.cells #[.int .i64 z4, .int .i64 z5] 93)).cell? ⟨wr.heap.size, 1, none⟩ = some (.int .i64 z5) := by go_simp
          have hb9 : Below wo.heap.size wo (wr.alloc (.cells #[.int .i64 z4, .int .i64 z5] 93)) := hbo.alloc hszo _
          have HBF : Hid (Below w.heap.size w (wr.alloc (.cells #[.int .i64 z4, .int .i64 z5] 93))) := hbl.trans (hb9.mono hbl.size)
          go_upto_region 8 with fail
          clear d0 d1 q0 q6 q7 r0 r1 bX
          generalize wr.alloc (.cells #[.int .i64 z4, .int .i64 z5] 93) = w9 at *
          generalize wr.heap.size = X at *
          cases hlv : ysg
          · go_wp2
            go_roundw
            case rel => exact ⟨j + 1, by omega, by go_num, HS2.out (by rw [hlv]; rfl), hb9⟩
            case measure => simp [intOf]; omega
          · cases h1 : (z4 == x0)
            · go_wp2
              go_roundw
              case rel => exact ⟨j + 1, by omega, by go_num, HS2.out (by simp [h1]), hb9⟩
              case measure => simp [intOf]; omega
            · cases h2 : (z5 == x1)
              · go_wp2
                go_roundw
                case rel => exact ⟨j + 1, by omega, by go_num, HS2.out (by simp [h2]), hb9⟩
                case measure => simp [intOf]; omega
              · go_wp2
                go_ret
                exact ⟨ret_bool (HZ.out (HZ2.out (by show (ysg && (z4 == x0 && z5 == x1)) = true; rw [hlv, h1, h2]; rfl))).symm, HBF.out⟩
        · have HE : Hid _ := any_done (fun x : CoinD => ysg && (x.br == x0 && x.ix == x1)) ycs yq HCL.out j (by omega) hany2.out
          go_wp2
          go_roundw
          case rel => exact ⟨k + 1, by omega, by go_num, HS.out HE.out.symm, r0, r1, hbw⟩
          case measure => simp [intOf]; omega
    · go_wp2
      go_ret
      exact ⟨ret_bool (any_done _ ms n HN.out k (by omega) hany.out), hbl⟩
end Go.Proofs.Ytffgpepngcnjeab

namespace Go.Proofs.Ytffgpepngcnjeab
open Go.RowKit
/-- those that are left when the payment of a number is given up -/
def leftZ (ps : List PayD) (k : Int) : List PayD := ps.filter fun p => p.num != k
/-- what Abandon leaves: the error, the list -/
def AbOk (N : Nat → Prop) (b o base : Nat) (vs : Value) (md nx : Int) (ps : List PayD) (ks : List (Int × Int)) (k : Int) (er : Int) (w w' : World) : Prop :=
  ((leftZ ps k).length = ps.length ∧ er = 11 ∧ Below w.heap.size w w') ∨ ((leftZ ps k).length ≠ ps.length ∧ er = 0 ∧ ∃ vl', LsAt N w' b o base vl' vs md nx (leftZ ps k) ks ∧ Fr (fun q => q = b) w w' ∧ (∀ q, vl'.ownBlock = some q → w.heap.size ≤ q) ∧ (∀ j, j ≠ o → w'.cell? ⟨b, j, none⟩ = w.cell? ⟨b, j, none⟩))
theorem LsAt.swap {N : Nat → Prop} {w : World} {b o base : Nat} {vl vs : Value} {md nx : Int} {ps : List PayD} {ks : List (Int × Int)} (h : LsAt N w b o base vl vs md nx ps ks) {w1 : World} {v : Value} {qs : List PayD} (hb : Below w.heap.size w w1) (hbs : base ≤ w.heap.size) (hown : OwnRec PayD.v 119 5 w1 w.heap.size v qs) (hq : ∀ p ∈ qs, p ∈ ps) : LsAt N (w1.setCell ⟨b, o, none⟩ v) b o base v vs md nx qs ks := by
  have h1 := h.grown hb
  have hnb := h.nb
  have hbl : b < w.heap.size := cell_lt h.c0
  have hf : Fr (fun k => k = b) w1 (w1.setCell ⟨b, o, none⟩ v) := (Fr.refl _ w1).set b o _ (fun _ => rfl)
  have hvb : ∀ q, v.ownBlock = some q → w.heap.size ≤ q := fun q hq => (hown.blk q hq).1
  refine ⟨ss h1.c0, so h1.c1 (by omega), so h1.c2 (by omega), so h1.c3 (by omega), fun j => by rw [World.frozen?_setCell]; exact h1.fz j, owns_lower (own_set hown _ _ _ (fun e => by have := hvb _ e; omega)) hbs, own_set h1.os _ _ _ (fun e => by have := (h1.os.blk _ e).1; omega), fun p hp => (h1.ok p (hq p hp)).fr hf (fun k hk => (h1.nN k hk).2.1), h1.nb, fun k hk e => ?_, fun k hk => ⟨by simpa using (h1.nN k hk).1, (h1.nN k hk).2.1, fun e => ?_, (h1.nN k hk).2.2.2⟩⟩
  · have := hvb k hk
    have := (h.os.blk k e).2
    omega
  · have := hvb k e
    have := (h.nN k hk).1
    omega
set_option maxRecDepth 100000 in
set_option maxHeartbeats 2000000 in
theorem lAbandon_any (N : Nat → Prop) (b o base : Nat) (vl vs : Value) (md nx : Int) (ps : List PayD) (ks : List (Int × Int)) (k : Int) (w : World) (hL : LsAt N w b o base vl vs md nx ps ks) (hbs : base ≤ w.heap.size) (hpl : ps.length ≤ 1000000000000) :
    Calls Try.prog 25 #[.pointer (some ⟨b, o, none⟩), .int .i64 k] w fun e w' => ∃ er, e = .returned (.int .i64 er) ∧ AbOk N b o base vs md nx ps ks k er w w' := by
  obtain ⟨ao, c, ev, hat⟩ := OwnRec.at pay5 hL.ol
  subst ev
  have HL : Hid (LsAt N w b o base (.slice ao ps.length c) vs md nx ps ks) := hL
  have HA : Hid (RecAt PayD.v w ao ps) := hat
  have c0 := hL.c0
  have cf := hL.fz o
  have hbl : b < w.heap.size := cell_lt c0
  clear hL hat
  generalize hn : ps.length = n at *
  have HN : Hid (ps.length = n) := hn
  clear hn
  generalize hB : w.heap.size = B at *
  have HB : Hid (w.heap.size = B) := hB
  clear hB
  go_enter Try.func25, Try.ntmps25
  go_wp2
  go_loopw [5, 13] (fun v i wr => ∃ j : Nat, j ≤ n ∧ i = .int .i64 j ∧ OwnRec PayD.v 119 5 wr B v (leftZ (ps.take j) k) ∧ Below B w wr) (fun _ i _ => n - (intOf i).toNat)
  case atStart => exact ⟨0, Nat.zero_le _, rfl, OwnRec.nil _ _ _ _ _, Below.refl _ _⟩
  case round =>
    obtain ⟨j, hj, rfl, hown, hbl2⟩ := hrel
    have hsz := hbl2.size
    rw [HB.out] at hsz
    have d0 := (hbl2.cell (p := ⟨b, o, none⟩) hbl).trans c0
    have df := (hbl2.frozen (p := ⟨b, o, none⟩) hbl).trans cf
    by_cases hlt : j < n
    · rcases HA.out with hnil | ⟨gg, off, rfl, hrow⟩
      · have := HN.out; rw [hnil] at this; simp at this; omega
      obtain ⟨e0, e1, e2, e3, e4⟩ := payCells (hrow.grown (by rw [HB.out]; exact hbl2)) j (by rw [HN.out]; exact hlt)
      have HS : Hid _ := filter_snoc (fun p : PayD => p.num != k) ps dP j (by rw [HN.out]; exact hlt)
      have HLN : Hid ((leftZ (ps.take j) k).length ≤ 1000000000000) := by show _ ≤ _; have := List.length_filter_le (fun p : PayD => p.num != k) (ps.take j); rw [List.length_take] at this; unfold leftZ; omega
      have HLE : Hid (leftZ (ps.take j) k = (ps.take j).filter fun p => p.num != k) := rfl
      have HO : Hid (OwnRec PayD.v 119 5 wr B u5 (leftZ (ps.take j) k)) := hown
      have HLS : Hid (leftZ (ps.take (j + 1)) k = (ps.take (j + 1)).filter fun p => p.num != k) := rfl
      clear hrow hown
      rw [← HLE.out] at HS
      generalize ps.getD j dP = y at *
      generalize leftZ (ps.take j) k = acc at *
      obtain ⟨y0, y1, y2, y3, y4, y5, y6, y7, y8, y9, y10⟩ := y
      simp only at e0 e1 e2 e3 e4
      cases hk : (y0 != k)
      · have HR : Hid (leftZ (ps.take (j + 1)) k = acc) := by show _ = _; rw [HLS.out, HS.out, hk, if_neg (by simp), List.append_nil]
        go_wp2
        go_roundw
        case rel => exact ⟨j + 1, by omega, by go_num, by rw [HR.out]; exact HO.out.alloc _, hbl2.alloc (by omega) _⟩
        case measure => simp [intOf]; omega
      · have HR : Hid (leftZ (ps.take (j + 1)) k = acc ++ [⟨y0, y1, y2, y3, y4, y5, y6, y7, y8, y9, y10⟩]) := by show _ = _; rw [HLS.out, HS.out, hk, if_pos rfl]
        have hO1 := HO.out.alloc (.cells #[.int .i64 y0, .slice y1 y2 y3, .slice y4 y5 y6, .int .i64 y7, .bool y8] 119)
        have HO1 : Hid (OwnRec PayD.v 119 5 (wr.alloc (.cells #[.int .i64 y0, .slice y1 y2 y3, .slice y4 y5 y6, .int .i64 y7, .bool y8] 119)) B u5 acc) := hO1
        have hb1 := hbl2.alloc (show B ≤ wr.heap.size by omega) (.cells #[.int .i64 y0, .slice y1 y2 y3, .slice y4 y5 y6, .int .i64 y7, .bool y8] 119)
        have h5 := P5.new wr (.int .i64 y0) (.slice y1 y2 y3) (.slice y4 y5 y6) (.int .i64 y7) (.bool y8) 119
        obtain ⟨z0, z1, z2, z3, z4, _⟩ := h5
        clear hO1
        go_upto_region 5 with fail
        have hz1 : (wr.alloc (.cells #[.int .i64 y0, .slice y1 y2 y3, .slice y4 y5 y6, .int .i64 y7, .bool y8] 119)).heap.size = wr.heap.size + 1 := by simp
        have hBz : B ≤ (wr.alloc (.cells #[.int .i64 y0, .slice y1 y2 y3, .slice y4 y5 y6, .int .i64 y7, .bool y8] 119)).heap.size := by omega
        clear hz1 e0 e1 e2 e3 e4
        generalize wr.alloc (.cells #[.int .i64 y0, .slice y1 y2 y3, .slice y4 y5 y6, .int .i64 y7, .bool y8] 119) = w1 at *
        generalize wr.heap.size = X at *
        go_wp2_with (at_builtin; refine wpList_appR 75 72 _ Try.underlying75 info119 rfl (by decide) pay5 pay_one (w1.alloc (.cells #[.int .i64 y0, .slice y1 y2 y3, .slice y4 y5 y6, .int .i64 y7, .bool y8] 119)) rfl _ _ rfl B w1.heap.size 1 u5 acc ⟨y0, y1, y2, y3, y4, y5, y6, y7, y8, y9, y10⟩ (by rfl) (by rfl) (HO1.out.alloc _) (vrow_new _ _ _) (by simp; omega) (by have := HLN.out; unfold maxLen; omega) (by have := HLN.out; omega) ?_; intro g' cap w5 hown5 hg5 _ _)
        go_roundw
        case rel => exact ⟨j + 1, by omega, by go_num, by rw [HR.out]; exact hown5, hb1.trans (gb_to_below (gb_trans (gb_alloc _ _ _) hg5) (by omega) (fun r hr => (HO1.out.blk r hr).1))⟩
        case measure => simp [intOf]; omega
    · have HE : Hid (ps.take j = ps) := by show _ = _; rw [List.take_of_length_le (by rw [HN.out]; omega)]
      rw [HE.out] at hown
      obtain ⟨a2, c2, e2, _⟩ := OwnRec.at pay5 hown
      subst e2
      have HO : Hid (OwnRec PayD.v 119 5 wr B (.slice a2 (leftZ ps k).length c2) (leftZ ps k)) := hown
      have HBW : Hid (Below B w wr) := hbl2
      have HQ : Hid (∀ p ∈ leftZ ps k, p ∈ ps) := fun p hp => (List.mem_filter.1 hp).1
      have HAB : Hid (∀ er w', AbOk N b o base vs md nx ps ks k er w w' ↔ (((leftZ ps k).length = n ∧ er = 11 ∧ Below B w w') ∨ ((leftZ ps k).length ≠ n ∧ er = 0 ∧ ∃ vl', LsAt N w' b o base vl' vs md nx (leftZ ps k) ks ∧ Fr (fun q => q = b) w w' ∧ (∀ q, vl'.ownBlock = some q → B ≤ q) ∧ (∀ j, j ≠ o → w'.cell? ⟨b, j, none⟩ = w.cell? ⟨b, j, none⟩)))) := fun er w' => by unfold AbOk; rw [HN.out, HB.out]
      clear hown
      generalize leftZ ps k = qs at *
      generalize hql : qs.length = ql at *
      by_cases hq : ql = n
      · subst hq
        go_wp2
        go_ret
        exact ⟨11, rfl, (HAB.out _ _).2 (Or.inl ⟨by first | rfl | trivial, rfl, HBW.out⟩)⟩
      · have hqI : ((ql : Int) == (n : Int)) = false := by rw [beq_eq_false_iff_ne]; omega
        have HF : Hid (LsAt N (wr.setCell ⟨b, o, none⟩ (.slice a2 ql c2)) b o base (.slice a2 ql c2) vs md nx qs ks) := HL.out.swap (by rw [HB.out]; exact HBW.out) (by rw [HB.out]; exact hbs) (by rw [HB.out]; exact HO.out) HQ.out
        have HFr : Hid (Fr (fun q => q = b) w (wr.setCell ⟨b, o, none⟩ (.slice a2 ql c2))) := (Fr.of_below (by rw [HB.out]; exact HBW.out) _).set b o _ (fun _ => rfl)
        have HCJ : Hid (∀ j, j ≠ o → (wr.setCell ⟨b, o, none⟩ (.slice a2 ql c2)).cell? ⟨b, j, none⟩ = w.cell? ⟨b, j, none⟩) := fun j hj => by
          rw [cell_oth _ _ _ _ _ (fun e => hj e.symm)]
          exact HBW.out.cell (p := ⟨b, j, none⟩) hbl
        go_wp2
        go_ret
        exact ⟨0, rfl, (HAB.out _ _).2 (Or.inr ⟨hq, rfl, _, HF.out, HFr.out, fun q hq2 => (HO.out.blk q hq2).1, HCJ.out⟩)⟩
set_option maxRecDepth 100000 in
set_option maxHeartbeats 1000000 in
theorem pAbandon_any (N : Nat → Prop) (P : Nat) (s : Int) (g : Nat) (v : Value) (h : Int) (xs : List Cel) (vl vs : Value) (md nx : Int) (ps : List PayD) (ks : List (Int × Int)) (k : Int) (w : World) (u : PP N w P s g v h xs vl vs md nx ps ks) (hpl : ps.length ≤ 1000000000000) :
    Calls Try.prog 10 #[.pointer (some ⟨P, 0, none⟩), .int .i64 k] w fun e w' => ∃ er, e = .returned (.int .i64 er) ∧ AbOk N P 4 (P + 1) vs md nx ps ks k er w w' := by
  have HL : Hid (LsAt N w P 4 (P + 1) vl vs md nx ps ks) := u.ls
  have hb : P + 1 ≤ w.heap.size := cell_lt u.ls.c0
  clear u
  go_enter Try.func10, Try.ntmps10
  go_wp2_with fail
  refine (lAbandon_any N P 4 (P + 1) vl vs md nx ps ks k _ HL.out hb hpl).mono ?_
  rintro e w1 ⟨er, rfl, hr⟩
  have HR : Hid (AbOk N P 4 (P + 1) vs md nx ps ks k er w w1) := hr
  clear hr
  go_wp2
  go_ret
  exact ⟨er, rfl, HR.out⟩
end Go.Proofs.Ytffgpepngcnjeab
