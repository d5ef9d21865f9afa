/-
  Package watch: the own coins; what a purse shows of them.
-/
import Derived.Test.YtdafkhdgobdhaaaPutC
import Derived.Test.YtdafkhdgobdhaaaNewZ
namespace Go.Proofs.Ytdafkhdgobdhaaa
open Go.RowKit

/-- the address of a coin of the chain -/
def CoinC.ad : CoinC → Int
  | ⟨_, _, a, _⟩ => a
def coinK (x : CoinC) (k : KeyD) : CoinD := match x with
  | ⟨i, p, a, v⟩ => ⟨i, p, a, v, k.br, k.ix⟩
def ownStep (ks : List KeyD) (acc : List CoinD) (x : CoinC) : List CoinD :=
  if firstZ ks x.ad < 0 then acc else insZ acc (coinK x (ks.getD (firstZ ks x.ad).toNat dK))
def ownZ (ks : List KeyD) (l : List CoinC) : List CoinD := l.foldl (ownStep ks) []
theorem ownZ_snoc (ks : List KeyD) (l : List CoinC) (k : Nat) (h : k < l.length) : ownZ ks (l.take (k + 1)) = ownStep ks (ownZ ks (l.take k)) (l.getD k dCC) := by
  unfold ownZ
  rw [List.take_succ_eq_append_getElem h, List.foldl_append]
  simp only [List.getD, List.getElem?_eq_getElem h, Option.getD_some]
  rfl
theorem insI_le (cs : List CoinD) (x : CoinD) : ∀ n, insI cs x n ≤ n := by
  intro n
  induction n with
  | zero => exact Nat.le_refl _
  | succ n ih => unfold insI; split <;> omega
theorem insZ_len (cs : List CoinD) (x : CoinD) : (insZ cs x).length = cs.length + 1 := insAt_len cs x _ (insI_le cs x _)
theorem ownStep_no (ks : List KeyD) (acc : List CoinD) (x : CoinC) (h : firstZ ks x.ad = -1) : ownStep ks acc x = acc := by
  unfold ownStep
  exact if_pos (by rw [h]; omega)
theorem ownStep_yes (ks : List KeyD) (acc : List CoinD) (x : CoinC) (q : Nat) (h : firstZ ks x.ad = (q : Int)) : ownStep ks acc x = insZ acc (coinK x (ks.getD q dK)) := by
  unfold ownStep
  rw [if_neg (by rw [h]; omega)]
  congr 3
  rw [h]
  exact Int.toNat_natCast q
theorem ownStep_len (ks : List KeyD) (acc : List CoinD) (x : CoinC) : (ownStep ks acc x).length ≤ acc.length + 1 := by
  unfold ownStep
  split
  · omega
  · rw [insZ_len]; omega
theorem ownZ_len (ks : List KeyD) (l : List CoinC) : (ownZ ks l).length ≤ l.length := by
  have h : ∀ (l : List CoinC) (acc : List CoinD), (l.foldl (ownStep ks) acc).length ≤ acc.length + l.length := by
    intro l
    induction l with
    | nil => intro acc; simp
    | cons x r ih =>
      intro acc
      have h1 := ih (ownStep ks acc x)
      have h2 := ownStep_len ks acc x
      simp only [List.foldl_cons, List.length_cons]
      omega
  have := h l []
  simpa [ownZ] using this

structure CCells (w : World) (b off : Nat) (x : CoinC) : Prop where
  c0 : w.cell? ⟨b, off, none⟩ = some (.int .i64 x.id)
  c1 : w.cell? ⟨b, off + 1, none⟩ = some (.int .i64 x.pos)
  c2 : w.cell? ⟨b, off + 2, none⟩ = some (.int .i64 x.ad)
  c3 : w.cell? ⟨b, off + 3, none⟩ = some (.int .i64 x.val)
theorem cCells {w : World} {b off : Nat} {xs : List CoinC} (h : VRow w b off (xs.flatMap CoinC.l)) (j : Nat) (hj : j < xs.length) : CCells w b (off + j * 4) (xs.getD j dCC) :=
  ⟨rcell coinC4 dCC h j hj 0 (by omega), rcell coinC4 dCC h j hj 1 (by omega), rcell coinC4 dCC h j hj 2 (by omega), rcell coinC4 dCC h j hj 3 (by omega)⟩

theorem firstZ_cases (ks : List KeyD) (a : Int) : firstZ ks a = -1 ∨ ∃ j, j < ks.length ∧ firstZ ks a = (j : Int) ∧ (ks.getD j dK).ad = a := by
  rcases idxOf_cases (fun x : KeyD => x.ad == a) dK ks 0 with h | ⟨j, h1, h2, h3⟩
  · exact Or.inl h
  · exact Or.inr ⟨j, h1, by rw [firstZ, h2]; simp, by simpa using h3⟩
theorem keysZ_len (xs : List Cel) (s : Int) (g : Nat) : (keysZ xs s g).length ≤ 200 := by
  have h0 := winZ_le xs s g 0
  have h1 := winZ_le xs s g 1
  rw [keysZ, List.length_append, keysB_len, keysB_len]
  omega

theorem owns_lower {w : World} {base base' e size : Nat} {v : Value} {n : Nat} {cs : List Value} (h : w.ownsRow base e size v n cs) (hb : base' ≤ base) : w.ownsRow base' e size v n cs := by
  obtain ⟨h1, h | ⟨g, cap, cur, rfl, hbg, hg⟩⟩ := h
  · exact ⟨h1, Or.inl h⟩
  · exact ⟨h1, Or.inr ⟨g, cap, cur, rfl, Nat.le_trans hb hbg, hg⟩⟩

/-- the sorted list in the making, in block S -/
structure WInv (w : World) (S : Nat) (v : Value) (cs : List CoinD) (wr : World) : Prop where
  s0 : wr.cell? ⟨S, 0, none⟩ = some v
  sf : wr.frozen? ⟨S, 0, none⟩ = false
  own : OwnRec CoinD.l 125 6 wr (S + 1) v cs
  st : ChStep S (.slice none 0 0) v w wr

theorem WInv.grown {w : World} {S : Nat} {v : Value} {cs : List CoinD} {wr ws : World} (h : WInv w S v cs wr) (hb : Below wr.heap.size wr ws) : WInv w S v cs ws :=
  ⟨(hb.cell (p := ⟨S, 0, none⟩) (cell_lt h.s0)).trans h.s0, (hb.frozen (p := ⟨S, 0, none⟩) (cell_lt h.s0)).trans h.sf, h.own.grown hb, h.st.trans (ChStep.of_below hb _ _)⟩
theorem WInv.put {w : World} {S : Nat} {v v' : Value} {cs cs' : List CoinD} {wr ws : World} (h : WInv w S v cs wr) (h0 : ws.cell? ⟨S, 0, none⟩ = some v') (hf : ws.frozen? ⟨S, 0, none⟩ = false) (ho : OwnRec CoinD.l 125 6 ws (S + 1) v' cs') (hst : ChStep S v v' wr ws) : WInv w S v' cs' ws := ⟨h0, hf, ho, h.st.trans hst⟩

set_option maxRecDepth 100000 in
set_option maxHeartbeats 4000000 in
theorem wCoins_any (b o : Nat) (ao : Option Addr) (n c : Nat) (xs : List Cel) (s : Int) (g : Nat) (w : World) (hs : Mk.isM s = true) (hg : 1 ≤ g) (hg2 : g ≤ 20)
    (hp : w.cell? ⟨b, o, none⟩ = some (.slice ao n c)) (hx : CelsAt w ao xs) (hn : xs.length = n) (hm : n ≤ 10000) :
    Calls Try.prog 70 #[.pointer (some ⟨b, o, none⟩), .int .i64 s, .int .i64 g] w fun e w' => ∃ v, e = .returned v ∧ OwnRec CoinD.l 125 6 w' w.heap.size v (ownZ (keysZ xs s g) (coinsC xs)) ∧ Below w.heap.size w w' := by
  have HN : Hid (xs.length = n) := hn
  have HX : Hid (CelsAt w ao xs) := hx
  have HP : Hid (w.cell? ⟨b, o, none⟩ = some (.slice ao n c)) := hp
  clear hn hx hp
  go_enter Try.func70, Try.ntmps70
  go_wp2_with fail
  refine (keys_any b o ao n c xs s g _ hs hg hg2 HP.out HX.out HN.out (by omega)).mono ?_
  rintro e w1 ⟨vk, rfl, hk1, hb1⟩
  have HKL : Hid ((keysZ xs s g).length ≤ 200) := keysZ_len xs s g
  generalize hks : keysZ xs s g = ks at *
  have HKS : Hid (keysZ xs s g = ks) := hks
  clear hks
  obtain ⟨ak, ck, rfl, hkat⟩ := OwnRec.at key3 hk1
  generalize hkl : ks.length = kl at *
  have HKN : Hid (ks.length = kl) := hkl
  clear hkl hk1
  have hz1 := hb1.size
  have hb2 := hb1.alloc hz1 (.cells #[.slice none 0 0] 143)
  have HP2 : Hid ((w1.alloc (.cells #[.slice none 0 0] 143)).cell? ⟨b, o, none⟩ = some (.slice ao n c)) := (hb2.cell (p := ⟨b, o, none⟩) (cell_lt HP.out)).trans HP.out
  have HX2 : Hid (CelsAt (w1.alloc (.cells #[.slice none 0 0] 143)) ao xs) := HX.out.grown hb2
  have HKA : Hid (RecAt KeyD.l (w1.alloc (.cells #[.slice none 0 0] 143)) ak ks) := hkat.grown ((Below.refl _ _).alloc (Nat.le_refl _) _)
  have HS0 : Hid ((w1.alloc (.cells #[.slice none 0 0] 143)).cell? ⟨w1.heap.size, 0, none⟩ = some (.slice none 0 0)) := by show _ = _; rw [World.cell?_alloc_new]; rfl
  have HSF : Hid ((w1.alloc (.cells #[.slice none 0 0] 143)).frozen? ⟨w1.heap.size, 0, none⟩ = false) := World.frozen?_alloc_at _ _ _ _ rfl
  have hzS : w1.heap.size < (w1.alloc (.cells #[.slice none 0 0] 143)).heap.size := by simp
  go_wp2_with fail
  generalize w1.alloc (.cells #[.slice none 0 0] 143) = w2 at *
  have HKB : Hid (ks = [] ∨ ∃ bb off, ak = some ⟨bb, off, none⟩ ∧ bb ≠ w1.heap.size) := by
    rcases hkat with hnil | ⟨bb, off, e, hr⟩
    · exact Or.inl hnil
    · by_cases hnil : ks = []
      · exact Or.inl hnil
      · refine Or.inr ⟨bb, off, e, Nat.ne_of_lt (hr.lt ?_)⟩
        intro e2
        have h3 := rec_len KeyD.l 3 key3 ks
        rw [e2] at h3
        exact hnil (List.length_eq_zero_iff.1 (by simp at h3; omega))
  generalize hSe : w1.heap.size = S at *
  clear hkat hb1
  refine (chCoins_any b o ao n c xs _ HP2.out HX2.out HN.out (by omega)).mono ?_
  rintro e w3 ⟨vc, rfl, hc3, hb3⟩
  have HCL : Hid ((coinsC xs).length ≤ 10000) := by show _ ≤ _; have := coinsC_len xs; have := HN.out; omega
  generalize hcs : coinsC xs = cl at *
  have HCS : Hid (coinsC xs = cl) := hcs
  clear hcs
  have HKF : Hid (∀ w', Fr (chE S (.slice none 0 0)) w3 w' → RecAt KeyD.l w' ak ks) := by
    intro w' hf
    rcases HKA.out.grown hb3 with hnil | ⟨bb, off, e, hr⟩
    · exact Or.inl hnil
    · rcases HKB.out with hnil | ⟨b2, o2, e2, hne⟩
      · exact Or.inl hnil
      · rw [e] at e2
        injection e2 with e2
        injection e2 with e2 e3
        subst e2
        exact Or.inr ⟨bb, off, e, hf.vrow hr (fun h => h.elim hne (fun h => by simp [Value.ownBlock] at h))⟩
  obtain ⟨ac, cc, rfl, hcat⟩ := OwnRec.at coinC4 hc3
  generalize hcl : cl.length = m at *
  have HCN : Hid (cl.length = m) := hcl
  clear hcl
  have HCF : Hid (∀ w', Fr (chE S (.slice none 0 0)) w3 w' → RecAt CoinC.l w' ac cl) := by
    intro w' hf
    rcases OwnRec.slice coinC4 hc3 with ⟨_, hnil⟩ | ⟨gc, c', e, h1, h2, h3, _⟩
    · exact Or.inl hnil
    · injection e with e _ _
      refine Or.inr ⟨gc, 0, e, hf.vrow h3 (fun h => h.elim (fun h => ?_) (fun h => by simp [Value.ownBlock] at h))⟩
      omega
  have hI0 : WInv w3 S (.slice none 0 0) [] w3 := ⟨(hb3.cell (p := ⟨S, 0, none⟩) hzS).trans HS0.out, (hb3.frozen (p := ⟨S, 0, none⟩) hzS).trans HSF.out, OwnRec.nil _ _ _ _ _, ChStep.refl _ _ _⟩
  have HI0 : Hid (WInv w3 S (.slice none 0 0) [] w3) := hI0
  have HBW : Hid (Below w.heap.size w w3) := below_blk hb2 hb3
  have hSw : w.heap.size ≤ S := hz1
  have hML : m ≤ 10000 := HCL.out
  have hKL : kl ≤ 200 := HKL.out
  clear hI0 hc3 hcat hb2 hb3 HS0 HSF HP2 HX2 HKA hz1 HCL HKL hzS
  go_wp2
  go_loopw [20] (fun i wr => ∃ (k : Nat) (v : Value), k ≤ m ∧ i = .int .i64 k ∧ WInv w3 S v (ownZ ks (cl.take k)) wr) (fun i _ => m - (intOf i).toNat)
  case atStart => exact ⟨0, _, Nat.zero_le _, rfl, HI0.out⟩
  case round =>
    obtain ⟨k, v, hk, rfl, hinv⟩ := hrel
    by_cases hlt : k < m
    · rcases HCF.out wr hinv.st.fr with hnil | ⟨gc, oc, rfl, hcrow⟩
      · have := HCN.out; rw [hnil] at this; simp at this; omega
      obtain ⟨c0, c1, c2, c3⟩ := cCells hcrow k (by rw [HCN.out]; exact hlt)
      have HSN : Hid _ := ownZ_snoc ks cl k (by rw [HCN.out]; exact hlt)
      have HLL : Hid ((ownZ ks (cl.take k)).length ≤ 10000) := by show _ ≤ _; have := ownZ_len ks (cl.take k); rw [List.length_take] at this; omega
      generalize cl.getD k dCC = y at c0 c1 c2 c3 HSN
      generalize ownZ ks (cl.take k) = acc at *
      obtain ⟨yid, ypos, yad, yval⟩ := y
      simp only [CoinC.ad] at c0 c1 c2 c3
      have hb4 : Below wr.heap.size wr (wr.alloc (.cells #[.int .i64 yid, .int .i64 ypos, .int .i64 yad, .int .i64 yval] 147)) := (Below.refl _ _).alloc (Nat.le_refl _) _
      have hi4 := hinv.grown hb4
      have hv4 : VRow (wr.alloc (.cells #[.int .i64 yid, .int .i64 ypos, .int .i64 yad, .int .i64 yval] 147)) wr.heap.size 0 [.int .i64 yid, .int .i64 ypos, .int .i64 yad, .int .i64 yval] := vrow_new _ _ _
      go_wp2_with fail
      generalize wr.alloc (.cells #[.int .i64 yid, .int .i64 ypos, .int .i64 yad, .int .i64 yval] 147) = w4 at *
      generalize hIe : wr.heap.size = I at *
      clear hcrow c0 c1 c2 c3 hb4 hinv hIe
      refine (first_any ak kl ck ks yad _ (HKF.out w4 hi4.st.fr) HKN.out (by omega)).mono ?_
      rintro e w5 ⟨rfl, hb5⟩
      have hi5 := hi4.grown hb5
      have hv5 := hv4.grown hb5
      clear hi4 hv4 hb5
      rcases firstZ_cases ks yad with hf | ⟨q, hq, hf, _⟩
      · rw [hf]
        have HST : Hid (ownZ ks (cl.take (k + 1)) = acc) := by
          show _ = _
          rw [HSN.out]
          exact ownStep_no ks acc _ hf
        have HI5 : Hid (WInv w3 S v acc w5) := hi5
        clear hi5 hv5
        go_wp2
        go_roundw
        case rel => exact ⟨k + 1, v, by omega, by go_num, by rw [HST.out]; exact HI5.out⟩
        case measure => simp [intOf]; omega
      · rw [hf]
        have hq2 : q < kl := by rw [← HKN.out]; exact hq
        rcases HKF.out w5 hi5.st.fr with hnil | ⟨gk, ok, rfl, hkrow⟩
        · rw [hnil] at hq; simp at hq
        obtain ⟨k0, k1, k2⟩ := keyCells hkrow q hq
        have HST : Hid (ownZ ks (cl.take (k + 1)) = insZ acc ⟨yid, ypos, yad, yval, (ks.getD q dK).br, (ks.getD q dK).ix⟩) := by
          show _ = _
          rw [HSN.out]
          exact ownStep_yes ks acc _ q hf
        generalize ks.getD q dK = z at k0 k1 k2 HST
        obtain ⟨zbr, zix, zad⟩ := z
        simp only at k0 k1 k2 HST
        have i0 := hv5 0 (by simp)
        have i1 := hv5 1 (by simp)
        have i2 := hv5 2 (by simp)
        have i3 := hv5 3 (by simp)
        simp only [Nat.zero_add, List.getD, List.getElem?_cons_zero, List.getElem?_cons_succ, Option.getD_some] at i0 i1 i2 i3
        have hi6 := hi5.grown ((Below.refl w5.heap.size w5).alloc (Nat.le_refl _) (.cells #[.int .i64 zbr, .int .i64 zix, .int .i64 zad] 150))
        have HI6 : Hid _ := hi6
        clear hi6 hi5 hv5 hkrow HSN
        have hS := cell_lt HI6.out.s0
        have hIl : I < w5.heap.size := cell_lt i0
        go_wp2_with fail
        refine (put_any S v acc ⟨yid, ypos, yad, yval, zbr, zix⟩ _ HI6.out.s0 HI6.out.sf HI6.out.own HLL.out).mono ?_
        rintro e w7 ⟨rfl, v', p1, p2, p3, p4⟩
        have HI7 : Hid (WInv w3 S v' (ownZ ks (cl.take (k + 1))) w7) := by rw [HST.out]; exact HI6.out.put p1 p2 p3 p4
        clear p1 p2 p3 p4 HI6 k0 k1 k2 i0 i1 i2 i3
        go_wp2
        go_roundw
        case rel => exact ⟨k + 1, v', by omega, by go_num, HI7.out⟩
        case measure => simp [intOf]; omega
    · have hkm : k = m := by omega
      subst hkm
      rw [List.take_of_length_le (by rw [HCN.out]; omega)] at hinv
      have s0 := hinv.s0
      have HI : Hid (WInv w3 S v (ownZ ks cl) wr) := hinv
      clear hinv
      go_wp2
      go_ret
      rw [HKS.out, HCS.out]
      refine ⟨v, rfl, ?_, ?_⟩
      · exact owns_lower HI.out.own (by omega)
      · have hf := HI.out.st.fr
        have hz3 := HBW.out.size
        exact HBW.out.trans (hf.toBelow w.heap.size hz3 (fun q hq => hq.elim (fun e => by omega) (fun e => by simp [Value.ownBlock] at e)))

set_option maxRecDepth 100000 in
set_option maxHeartbeats 1000000 in
theorem pCoins_any (P : Nat) (s : Int) (g : Nat) (ao : Option Addr) (n c : Nat) (h : Int) (xs : List Cel) (w : World) (hs : Mk.isM s = true) (hg : 1 ≤ g) (hg2 : g ≤ 20) (hp : PurseRow w P s g (.slice ao n c) h) (hx : CelsAt w ao xs) (hn : xs.length = n) (hm : n ≤ 10000) :
    Calls Try.prog 31 #[.pointer (some ⟨P, 0, none⟩)] w fun e w' => ∃ v, e = .returned v ∧ OwnRec CoinD.l 125 6 w' w.heap.size v (ownZ (keysZ xs s g) (coinsC xs)) ∧ Below w.heap.size w w' := by
  have c0 := hp.c0
  have c1 := hp.c1
  have hc2 : w.drew.cell? ⟨P, 2, none⟩ = some (.slice ao n c) := hp.c2
  have HC : Hid (w.drew.cell? ⟨P, 2, none⟩ = some (.slice ao n c)) := hc2
  have HX : Hid (CelsAt w.drew ao xs) := RecAt.heap hx rfl
  have HN : Hid (xs.length = n) := hn
  clear hp hc2 hx hn
  go_enter Try.func31, Try.ntmps31
  go_wp2
  go_region_held3 (fun w' => w'.cell? ⟨P, 0, none⟩ = some (.int .i64 s) ∧ w'.cell? ⟨P, 1, none⟩ = some (.int .i64 g)) (first | go_keep | exact keepP (w' := w.drew) c0 c1 rfl (by assumption)) ((go_at_call 70; refine (wCoins_any P 2 ao n c xs s g w.drew hs hg hg2 HC.out HX.out HN.out hm).mono ?_; rintro e w1 ⟨v, rfl, ho1, hb1⟩))
  go_wp2
  go_ret
  exact ⟨v, rfl, ho1, ((Below.refl w.heap.size w).drew).trans hb1⟩

def sumC (cs : List CoinD) : Int := (cs.map CoinD.val).sum

set_option maxRecDepth 100000 in
set_option maxHeartbeats 2000000 in
theorem pBalance_any (P : Nat) (s : Int) (g : Nat) (ao : Option Addr) (n c : Nat) (h : Int) (xs : List Cel) (w : World) (hs : Mk.isM s = true) (hg : 1 ≤ g) (hg2 : g ≤ 20) (hp : PurseRow w P s g (.slice ao n c) h) (hx : CelsAt w ao xs) (hn : xs.length = n) (hm : n ≤ 10000) (hv : ∀ x ∈ ownZ (keysZ xs s g) (coinsC xs), 0 ≤ x.val ∧ x.val ≤ 1099511627776) :
    Calls Try.prog 32 #[.pointer (some ⟨P, 0, none⟩)] w fun e w' => e = .returned (.tuple #[.int .i64 (sumC (ownZ (keysZ xs s g) (coinsC xs))), .int .i64 (sumC (ownZ (keysZ xs s g) (coinsC xs)))]) ∧ Below w.heap.size w w' := by
  have HV : Hid (∀ x ∈ ownZ (keysZ xs s g) (coinsC xs), 0 ≤ x.val ∧ x.val ≤ 1099511627776) := hv
  have HP : Hid (PurseRow w P s g (.slice ao n c) h) := hp
  have HX : Hid (CelsAt w ao xs) := hx
  have HN : Hid (xs.length = n) := hn
  have hl0 : (ownZ (keysZ xs s g) (coinsC xs)).length ≤ 10000 := by
    have h1 := ownZ_len (keysZ xs s g) (coinsC xs)
    have h2 := coinsC_len xs
    omega
  have HL : Hid ((ownZ (keysZ xs s g) (coinsC xs)).length ≤ 10000) := hl0
  clear hv hp hx hn hl0
  go_enter Try.func32, Try.ntmps32
  go_wp2_with fail
  refine (pCoins_any P s g ao n c h xs _ hs hg hg2 HP.out HX.out HN.out hm).mono ?_
  rintro e w1 ⟨v, rfl, ho1, hb1⟩
  generalize hcs : ownZ (keysZ xs s g) (coinsC xs) = cs at *
  have HCS : Hid (ownZ (keysZ xs s g) (coinsC xs) = cs) := hcs
  clear hcs
  obtain ⟨ac, cc, rfl, hat⟩ := OwnRec.at coin6 ho1
  have HA : Hid (RecAt CoinD.l w1 ac cs) := hat
  clear hat ho1
  generalize hm2 : cs.length = m at *
  have HM : Hid (cs.length = m) := hm2
  have hml : m ≤ 10000 := HL.out
  clear hm2
  go_wp2
  go_loopw [4, 10] (fun v i wr => ∃ (k : Nat) (S : Int), k ≤ m ∧ i = .int .i64 k ∧ v = .int .i64 S ∧ Hid (((cs.take k).map CoinD.val).sum = S) ∧ Below w1.heap.size w1 wr) (fun _ i _ => m - (intOf i).toNat)
  case atStart => exact ⟨0, 0, Nat.zero_le _, rfl, rfl, rfl, Below.refl _ _⟩
  case round =>
    obtain ⟨k, S, hk, rfl, rfl, hS, hbl⟩ := hrel
    have hsz := hbl.size
    by_cases hlt : k < m
    · rcases HA.out with hnil | ⟨gg, off, rfl, hrow⟩
      · have := HM.out; rw [hnil] at this; simp at this; omega
      obtain ⟨c0, c1, c2, c3, c4, c5⟩ := coinCells (hrow.grown hbl) k (by rw [HM.out]; exact hlt)
      have HS : Hid _ := sum_snoc CoinD.val cs dN k (by rw [HM.out]; exact hlt)
      have hSb := sum_bd CoinD.val 1099511627776 (cs.take k) (fun x hx => HV.out x (List.mem_of_mem_take hx))
      have hyb := HV.out (cs.getD k dN) (by
        have h' : k < cs.length := by rw [HM.out]; exact hlt
        simp only [List.getD, List.getElem?_eq_getElem h', Option.getD_some]
        exact List.getElem_mem h')
      rw [hS.out] at hSb
      have hl2 : (cs.take k).length ≤ 10000 := by rw [List.length_take]; omega
      have hS2 : 0 ≤ S ∧ S ≤ 11000000000000000 := ⟨hSb.1, by omega⟩
      clear hrow hSb hl2
      generalize cs.getD k dN = y at c0 c1 c2 c3 c4 c5 HS hyb
      obtain ⟨y0, y1, y2, yval, y4, y5⟩ := y
      simp only at c0 c1 c2 c3 c4 c5 hyb
      go_wp2
      go_roundw
      case rel => exact ⟨k + 1, S + yval, by omega, by go_num, rfl, by show _ = _; rw [HS.out, hS.out], hbl.alloc hsz _⟩
      case measure => simp [intOf]; omega
    · have HSe : Hid (sumC cs = S) := by show _ = _; rw [← hS.out, List.take_of_length_le (by rw [HM.out]; omega)]; rfl
      go_wp2
      go_ret2
      rw [HCS.out, HSe.out]
      exact ⟨rfl, below_blk hb1 hbl⟩

end Go.Proofs.Ytdafkhdgobdhaaa
