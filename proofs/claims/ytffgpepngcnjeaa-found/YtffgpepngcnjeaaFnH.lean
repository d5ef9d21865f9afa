/-
  Found: the walk.
-/
import Derived.Test.YtffgpepngcnjeaaFnG
namespace Go.Proofs.Ytffgpepngcnjeaa
open Go.RowKit

def lenV : Value → Nat
  | .slice _ n _ => n
  | _ => 0

/-- the scene, and the two lists of the walk -/
structure FJ (S P : Nat) (s : Int) (g h : Nat) (v vi vc vl va : Value) (xs : List Cel) (ids : List Int) (cs : List CoinD) (L A : List Nat) (w : World) : Prop where
  sc : Sc S P s g h v vi vc xs ids cs w
  ol : OwnRec iV 3 1 w 0 vl (ints L)
  oa : OwnRec iV 3 1 w 0 va (ints A)
  nl : ∀ k, vl.ownBlock = some k → P ≤ k ∧ ¬ scE P S v vi vc k
  na : ∀ k, va.ownBlock = some k → P ≤ k ∧ ¬ scE P S v vi vc k
  nn : ∀ k, va.ownBlock = some k → vl.ownBlock ≠ some k

variable {S P : Nat} {s : Int} {g h : Nat} {v vi vc vl va : Value} {xs : List Cel} {ids : List Int} {cs : List CoinD} {L A : List Nat} {w : World}

theorem FJ.grown (u : FJ S P s g h v vi vc vl va xs ids cs L A w) {w' : World} (hb : Below w.heap.size w w') : FJ S P s g h v vi vc vl va xs ids cs L A w' :=
  ⟨u.sc.grown hb, u.ol.grown hb, u.oa.grown hb, u.nl, u.na, u.nn⟩
theorem FJ.step (u : FJ S P s g h v vi vc vl va xs ids cs L A w) {w' : World} {h' : Nat} {v' vi' vc' : Value} {xs' : List Cel} {ids' : List Int} {cs' : List CoinD} (hsc : Sc S P s g h' v' vi' vc' xs' ids' cs' w') (hst : ScStep P S v vi vc v' vi' vc' w w') : FJ S P s g h' v' vi' vc' vl va xs' ids' cs' L A w' := by
  refine ⟨hsc, hst.fr.own u.ol (fun k hk => (u.nl k hk).2), hst.fr.own u.oa (fun k hk => (u.na k hk).2), fun k hk => ⟨(u.nl k hk).1, fun e => ?_⟩, fun k hk => ⟨(u.na k hk).1, fun e => ?_⟩, u.nn⟩
  · rcases hst.own k e with e' | e'
    · exact (u.nl k hk).2 e'
    · have := (u.ol.blk k hk).2; omega
  · rcases hst.own k e with e' | e'
    · exact (u.na k hk).2 e'
    · have := (u.oa.blk k hk).2; omega
theorem FJ.push (u : FJ S P s g h v vi vc vl va xs ids cs L A w) {w1 : World} {gb n cap z : Nat} (hown : OwnRec iV 3 1 w1 0 (.slice (some ⟨gb, 0, none⟩) n cap) (ints (A ++ [z]))) (hg : w.grownBy w1 va.ownBlock) (hl : va.ownBlock = some gb ∨ w.heap.size ≤ gb) :
    FJ S P s g h v vi vc vl (.slice (some ⟨gb, 0, none⟩) n cap) xs ids cs L (A ++ [z]) w1 ∧ Below P w w1 := by
  have hf : Fr (fun k => va.ownBlock = some k) w w1 := Fr.of_gb hg (fun k hk _ => hk)
  have hP := u.sc.big
  refine ⟨⟨u.sc.fr hf (fun k hk e => (u.na k e).2 hk), hf.own u.ol (fun k hk e => u.nn k e hk), hown, u.nl, fun k hk => ?_, fun k hk => ?_⟩, hf.toBelow P (by omega) (fun k hk => (u.na k hk).1)⟩
  · simp [Value.ownBlock] at hk
    subst hk
    rcases hl with h | h
    · exact u.na _ h
    · exact ⟨by omega, fun e => by have := (u.sc.blk _ e).2; omega⟩
  · simp [Value.ownBlock] at hk
    subst hk
    rcases hl with h | h
    · exact u.nn _ h
    · exact fun e => by have := (u.ol.blk _ e).2; omega
theorem FJ.left (u : FJ S P s g h v vi vc vl va xs ids cs L A w) {w1 : World} {vl' : Value} {L' : List Nat} (hown : OwnRec iV 3 1 w1 w.heap.size vl' (ints L')) (hb : Below w.heap.size w w1) : FJ S P s g h v vi vc vl' va xs ids cs L' A w1 := by
  have hP := u.sc.big
  refine ⟨u.sc.grown hb, owns_lower hown (Nat.zero_le _), u.oa.grown hb, fun k hk => ?_, u.na, fun k hk e => ?_⟩
  · have := (hown.blk k hk).1
    exact ⟨by omega, fun e => by have := (u.sc.blk _ e).2; omega⟩
  · have := (hown.blk k e).1
    have := (u.oa.blk k hk).2
    omega
theorem FJ.cut (u : FJ S P s g h v vi vc vl va xs ids cs L A w) {ao : Option Addr} {n c : Nat} (hva : va = .slice ao n c) (hn : A.length = n) (m : Nat) (hm : m ≤ n) : FJ S P s g h v vi vc vl (.slice ao m c) xs ids cs L (A.take m) w := by
  subst hva
  have e : ints (A.take m) = (ints A).take m := by unfold ints; rw [List.map_take]
  have eo : (Value.slice ao m c).ownBlock = (Value.slice ao n c).ownBlock := by cases ao <;> rfl
  exact ⟨u.sc, u.ol, by rw [e]; exact OwnRec.take iv1 u.oa (by rw [ints_len]; exact hn) m hm, u.nl, fun k hk => u.na k (by rw [← eo]; exact hk), fun k hk => u.nn k (by rw [← eo]; exact hk)⟩

theorem own_atS {α : Type} {f : α → List Value} {e k : Nat} (hf : ∀ x, (f x).length = k) {w : World} {base n c : Nat} {ao : Option Addr} {xs : List α} (h : OwnRec f e k w base (.slice ao n c) xs) : RecAt f w ao xs := by
  obtain ⟨a2, c2, e2, hat⟩ := OwnRec.at hf h
  injection e2 with e2 _ _
  subst e2
  exact hat

theorem keepB2 {w w' : World} {a b p q : Nat} {x y : Value} (hb : Below w.heap.size w w') (h : w.cell? ⟨a, p, none⟩ = some x ∧ w.cell? ⟨b, q, none⟩ = some y) : w'.cell? ⟨a, p, none⟩ = some x ∧ w'.cell? ⟨b, q, none⟩ = some y :=
  ⟨(hb.cell (p := ⟨a, p, none⟩) (cell_lt h.1)).trans h.1, (hb.cell (p := ⟨b, q, none⟩) (cell_lt h.2)).trans h.2⟩

/-- what stays behind a round -/
structure FS (s br : Int) (L0 L A : List Nat) (xs : List Cel) (ids : List Int) : Prop where
  ids : ids = xs.map Cel.id
  fu : Fu s br A xs
  s1 : ∀ x ∈ L0, x ∈ A ∨ x ∈ L
  s2 : ∀ x ∈ A, x ∈ L0
  s3 : ∀ x ∈ L, x ∈ L0

theorem FS.next {s br : Int} {L0 L L' A : List Nat} {xs : List Cel} {ids : List Int} (h : FS s br L0 L A xs ids) {i : Nat} (hi : i < L.length) (id : Int) (h1 : ∀ x ∈ L', x ∈ L) (h2 : ∀ x ∈ L, x ∈ L' ∨ x = L.getD i 0) :
    FS s br L0 L' (A ++ [L.getD i 0]) (xs ++ [⟨id, 0, Mk.adr s br ((L.getD i 0 : Nat) : Int), 10 + (A.length : Int), (A.length : Int), -1⟩]) (ids ++ [id]) := by
  refine ⟨by rw [h.ids, List.map_append]; rfl, h.fu.snoc _ _ rfl rfl rfl rfl, fun x hx => ?_, fun x hx => ?_, fun x hx => h.s3 x (h1 x hx)⟩
  · rcases h.s1 x hx with h3 | h3
    · exact Or.inl (List.mem_append.2 (Or.inl h3))
    · rcases h2 x h3 with h4 | h4
      · exact Or.inr h4
      · exact Or.inl (List.mem_append.2 (Or.inr (by rw [h4]; simp)))
  · rcases List.mem_append.1 hx with h3 | h3
    · exact h.s2 x h3
    · rw [List.mem_singleton.1 h3]; exact h.s3 _ (getD_mem L 0 i hi)

set_option maxRecDepth 100000 in
set_option maxHeartbeats 2000000 in
theorem found_any (a b c : Int) (ja : Option Addr) (jn jc : Nat) (js : List Int) (oa : Option Addr) (on oc : Nat) (os : List Int) (w : World) (a1 : -9223372036854775808 ≤ a) (a2 : a ≤ 9223372036854775807) (b1 : -9223372036854775808 ≤ b) (b2 : b ≤ 9223372036854775807) (c1 : -9223372036854775808 ≤ c) (c2 : c ≤ 9223372036854775807)
    (hj : RecAt iV w ja js) (hjl : js.length = jn) (hjr : ∀ y ∈ js, -9223372036854775808 ≤ y ∧ y ≤ 9223372036854775807) (ho : RecAt iV w oa os) (hol : os.length = on) (hor : ∀ y ∈ os, -9223372036854775808 ≤ y ∧ y ≤ 9223372036854775807) :
    Calls Try.prog 9 #[.int .i64 a, .int .i64 b, .int .i64 c, .slice ja jn jc, .slice oa on oc] w fun e w' => e = .returned (.bool true) ∧ Below w.heap.size w w' := by
  obtain ⟨g, hg⟩ : ∃ g : Nat, (g : Int) = 1 + Mk.pk b 20 := ⟨(1 + Mk.pk b 20).toNat, by have := Mk.pk_bd b 20 (by decide); omega⟩
  have hpb := Mk.pk_bd b 20 (by decide)
  have hg1 : 1 ≤ g := by omega
  have hg2 : g ≤ 20 := by omega
  have HS : Hid (Mk.isM (Mk.pk a 99991) = true) := (Mk.isM_iff _).2 (Mk.pk_bd a 99991 (by decide))
  have HJ : Hid (RecAt iV w ja js) := hj
  have HJL : Hid (js.length = jn) := hjl
  have HJR : Hid (∀ y ∈ js, -9223372036854775808 ≤ y ∧ y ≤ 9223372036854775807) := hjr
  have HO : Hid (RecAt iV w oa os) := ho
  have HOL : Hid (os.length = on) := hol
  have HOR : Hid (∀ y ∈ os, -9223372036854775808 ≤ y ∧ y ≤ 9223372036854775807) := hor
  have HBR : Hid (Mk.pk c 2 = 0 ∨ Mk.pk c 2 = 1) := by show _ ∨ _; have := Mk.pk_bd c 2 (by decide); omega
  clear hj hjl hjr ho hol hor hpb
  go_enter Try.func9, Try.ntmps9
  go_wp2_with fail
  refine (begun_any a b g _ a1 a2 b1 b2 hg).mono ?_
  rintro e w1 ⟨rfl, hsc1, hb1⟩
  clear hg
  generalize Mk.pk a 99991 = s at *
  generalize hP : w.heap.size = P at *
  have HP : Hid (w.heap.size = P) := hP
  clear hP
  have HSC1 : Hid (Sc (P + 1) P s g 0 (.slice none 0 0) (.slice none 0 0) (.slice none 0 0) [] [] [] w1) := hsc1
  clear hsc1
  generalize hSe : P + 1 = S at *
  clear hSe
  have HB1 : Hid (Below P w w1) := hb1
  clear hb1
  have s2 := HSC1.out.c2
  go_wp2_with (go_at_call 27; refine (pick_any c 2 _ (by omega) (by omega) c1 c2).mono ?_; rintro e w' ⟨rfl, rfl⟩)
  generalize Mk.pk c 2 = br at *
  have HJ1 : Hid (RecAt iV w1 ja js) := HJ.out.grown (by rw [HP.out]; exact HB1.out)
  refine (indices_any ja jn jc js g _ HJ1.out HJL.out HJR.out hg1 hg2).mono ?_
  rintro e w2 ⟨vl2, L0, rfl, hown2, hch, hne, h24, hb2⟩
  have HCH : Hid (Chain g L0) := hch
  have HFJ2 : Hid (FJ S P s g 0 (.slice none 0 0) (.slice none 0 0) (.slice none 0 0) vl2 (.slice none 0 0) [] [] [] L0 [] w2) := by
    have u0 : FJ S P s g 0 (.slice none 0 0) (.slice none 0 0) (.slice none 0 0) (.slice none 0 0) (.slice none 0 0) [] [] [] [] [] w1 := ⟨HSC1.out, OwnRec.nil _ _ _ _ _, OwnRec.nil _ _ _ _ _, fun k hk => (by cases hk), fun k hk => (by cases hk), fun k hk => (by cases hk)⟩
    exact u0.left hown2 hb2
  have hPw1 : P ≤ w1.heap.size := by have := HSC1.out.big; omega
  have HB2 : Hid (Below P w w2) := HB1.out.trans (hb2.mono hPw1)
  clear hch hown2 hb2 hne s2 HSC1 HJ1 HB1 HJ HJL HJR a1 a2 b1 b2 c1 c2 hPw1
  go_wp2
  go_loopw [13, 14, 15] (fun vl va k wr => ∃ (q : Nat) (L A : List Nat) (v vi vc : Value) (xs : List Cel) (ids : List Int), k = .int .i64 q ∧ Hid (A.length = q) ∧ Hid (FJ S P s g q v vi vc vl va xs ids (xs.map Cel.kept) L A wr) ∧ Hid (FS s br L0 L A xs ids) ∧ q + L.length ≤ 24 ∧ Hid (Below P w wr)) (fun vl _ _ _ => lenV vl)
  case atStart => exact ⟨0, L0, [], _, _, _, [], [], rfl, rfl, HFJ2.out, ⟨rfl, Fu.nil s br, fun x hx => Or.inr hx, fun x hx => (by cases hx), fun x hx => hx⟩, by omega, HB2.out⟩
  case round =>
    clear HFJ2 HB2
    obtain ⟨q, L, A, v, vi, vc, xs, ids, rfl, hAq, hJ, hF, hle, hbl⟩ := hrel
    obtain ⟨al, cl, el, hatl⟩ := OwnRec.at iv1 hJ.out.ol
    obtain ⟨aa, ca, ea, hata⟩ := OwnRec.at iv1 hJ.out.oa
    rw [ints_len] at el ea
    rw [hAq.out] at ea
    subst el
    subst ea
    have HAL : Hid (RecAt iV wr al (ints L)) := hatl
    have HAA : Hid (RecAt iV wr aa (ints A)) := hata
    clear hatl hata
    generalize hLn : L.length = n at *
    have HLN : Hid (L.length = n) := hLn
    clear hLn
    have hXQ : Hid (xs.length = q) := by show _ = _; rw [hF.out.fu.len, hAq.out]
    have hVX : Hid (Vals xs) := hF.out.fu.vals (by rw [hAq.out]; omega)
    by_cases hn0 : 0 < n
    · go_upto_if 49 with fail
      go_cut [16] (fun u wx => (∃ i : Nat, i < n ∧ u = .int .i64 i) ∧ wr = wx)
      case first =>
        by_cases hqo : q < on
        · rcases HO.out with hnil | ⟨go, oo, rfl, hrow⟩
          · have := HOL.out; rw [hnil] at this; simp at this; omega
          have c0 := iCell (hrow.grown (by rw [HP.out]; exact hbl.out)) q (by rw [HOL.out]; exact hqo)
          have hyr := HOR.out (os.getD q 0) (getD_mem os 0 q (by rw [HOL.out]; exact hqo))
          clear hrow
          generalize os.getD q 0 = y at c0 hyr
          have hpk := Mk.pk_bd y (n : Int) (by omega)
          obtain ⟨i, hi⟩ : ∃ i : Nat, Mk.pk y (n : Int) = (i : Int) := ⟨(Mk.pk y (n : Int)).toNat, by omega⟩
          have hin : i < n := by omega
          go_wp2_with (go_at_call 27; refine (pick_any y (n : Int) _ (by omega) (by omega) hyr.1 hyr.2).mono ?_; rintro e w' ⟨rfl, rfl⟩; rw [hi])
          go_meet
          exact ⟨⟨i, hin, rfl⟩, rfl⟩
        · go_wp2_with fail
          go_meet
          exact ⟨⟨0, hn0, rfl⟩, rfl⟩
      case rest =>
        obtain ⟨⟨i, hin, rfl⟩, rfl⟩ := hcut
        rcases HAL.out with hnil | ⟨gl, ofl, rfl, hrow⟩
        · have := HLN.out; rw [← ints_len, hnil] at this; simp at this; omega
        have c0 := iCell hrow i (by rw [ints_len, HLN.out]; exact hin)
        rw [ints_get L i (by rw [HLN.out]; exact hin)] at c0
        have hzl := HCH.out.lt _ (hF.out.s3 _ (getD_mem L 0 i (by rw [HLN.out]; exact hin)))
        clear hrow
        have HNX : Hid (∀ (L' : List Nat) (id : Int), (∀ x ∈ L', x ∈ L) → (∀ x ∈ L, x ∈ L' ∨ x = L.getD i 0) → FS s br L0 L' (A ++ [L.getD i 0]) (xs ++ [⟨id, 0, Mk.adr s br ((L.getD i 0 : Nat) : Int), 10 + (A.length : Int), (A.length : Int), -1⟩]) (ids ++ [id])) := fun L' id h1 h2 => hF.out.next (by rw [HLN.out]; exact hin) id h1 h2
        have HWO : Hid (L.getD i 0 = L.getD i 0) := rfl
        generalize hz : L.getD i 0 = z at *
        have HZE : Hid (L.getD i 0 = z) := hz
        clear hz HWO
        have s1 := hJ.out.sc.c1
        have HKY : Hid (Mk.isK s br (z : Int) = true) := key_ok HS.out HBR.out (by omega) (by omega)
        have HKX : Hid (wr.cell? ⟨S, 1, none⟩ = some (.int .i64 s) ∧ wr.cell? ⟨gl, ofl + i, none⟩ = some (.int .i64 (z : Int))) := ⟨s1, c0⟩
        have hiI : (i : Int) < (n : Int) := by omega
        have hi0 : (0 : Int) ≤ (i : Int) := by omega
        go_upto_region 13 with fail
        go_region_held3 (fun w' => w'.cell? ⟨S, 1, none⟩ = some (.int .i64 s) ∧ w'.cell? ⟨gl, ofl + i, none⟩ = some (.int .i64 (z : Int))) (first | assumption | go_keep | exact keepB2 hb3 HKX.out) ((go_at_call 15; refine (pAddress_yes s br (z : Int) _ HKY.out).mono ?_; rintro e w3 ⟨rfl, hb3⟩))
        have bW : Below wr.heap.size wr w3 := ((Below.refl wr.heap.size wr).drew).trans hb3
        have hPr : P ≤ wr.heap.size := by have := hJ.out.sc.big; omega
        have HJ3 : Hid (FJ S P s g q v vi vc (.slice (some ⟨gl, ofl, none⟩) n cl) (.slice aa q ca) xs ids (xs.map Cel.kept) L A w3) := hJ.out.grown bW
        have HB3 : Hid (Below P w w3) := hbl.out.trans (bW.mono hPr)
        clear bW hb3 s1 c0 HKX hPr
        have HAM : Hid (Mk.isM (Mk.adr s br (z : Int)) = true) := (Mk.isM_iff _).2 (Mk.adr_bd s br (z : Int))
        generalize hae : Mk.adr s br (z : Int) = ad at *
        clear hae
        have hw10 : IntKind.i64.wrap (10 + (q : Int)) = 10 + (q : Int) := IntWalk.i64_in _ ⟨by omega, by omega⟩
        go_wp2_with fail
        refine (mint_any S P s g q v vi vc xs ids (xs.map Cel.kept) ad (10 + (q : Int)) _ HJ3.out.sc hF.out.ids (by omega) (by rw [hXQ.out]; omega) (by rw [List.length_map, hXQ.out]; omega) hVX.out HAM.out ⟨by omega, by omega⟩).mono ?_
        rintro e w4 ⟨rfl, id, v4, vi4, vc4, hsc4, hst4⟩
        have ek : xs.map Cel.kept ++ [CoinD.mk id 0 ad (10 + (q : Int)) 0 0] = (xs ++ [Cel.mk id 0 ad (10 + (q : Int)) (q : Int) (-1)]).map Cel.kept := by rw [List.map_append]; rfl
        rw [ek] at hsc4
        have HJ4 : Hid (FJ S P s g (q + 1) v4 vi4 vc4 (.slice (some ⟨gl, ofl, none⟩) n cl) (.slice aa q ca) (xs ++ [Cel.mk id 0 ad (10 + (q : Int)) (q : Int) (-1)]) (ids ++ [id]) ((xs ++ [Cel.mk id 0 ad (10 + (q : Int)) (q : Int) (-1)]).map Cel.kept) L A w4) := HJ3.out.step hsc4 hst4
        have HB4 : Hid (Below P w w4) := HB3.out.trans (hst4.fr.toBelow P (by have := HJ3.out.sc.big; omega) (fun k hk => (HJ3.out.sc.blk k hk).1))
        have HNX4 : Hid _ := fun L' => HNX.out L' id
        clear ek hsc4 hst4 HJ3 HB3 HNX
        rw [hAq.out] at HNX4
        have HXL : Hid ((xs ++ [Cel.mk id 0 ad (10 + (q : Int)) (q : Int) (-1)]).length = q + 1) := by show _ = _; rw [List.length_append, hXQ.out]; rfl
        generalize xs ++ [Cel.mk id 0 ad (10 + (q : Int)) (q : Int) (-1)] = ys at *
        have HAL4 : Hid (RecAt iV w4 (some ⟨gl, ofl, none⟩) (ints L)) := own_atS iv1 HJ4.out.ol
        have d0 : w4.cell? ⟨gl, ofl + i, none⟩ = some (.int .i64 (z : Int)) := by
          rcases HAL4.out with hnil | ⟨g4, o4, e4, hrow⟩
          · have := HLN.out; rw [← ints_len, hnil] at this; simp at this; omega
          · injection e4 with e4
            injection e4 with e5 e6 _
            subst e5
            subst e6
            have := iCell hrow i (by rw [ints_len, HLN.out]; exact hin)
            rw [ints_get L i (by rw [HLN.out]; exact hin), HZE.out] at this
            exact this
        have bA : Below w4.heap.size w4 (w4.alloc (.cells #[.int .i64 (z : Int)] 3)) := (Below.refl _ _).alloc (Nat.le_refl _) _
        have HJ5 : Hid (FJ S P s g (q + 1) v4 vi4 vc4 (.slice (some ⟨gl, ofl, none⟩) n cl) (.slice aa q ca) ys (ids ++ [id]) (ys.map Cel.kept) L A (w4.alloc (.cells #[.int .i64 (z : Int)] 3))) := HJ4.out.grown bA
        have HB5 : Hid (Below P w (w4.alloc (.cells #[.int .i64 (z : Int)] 3))) := HB4.out.trans (bA.mono (by have := HJ4.out.sc.big; omega))
        have HIL : Hid ((ints A).length = q) := by show _ = _; rw [ints_len, hAq.out]
        go_upto_region 16 with (at_builtin; refine wpList_appR 30 8 _ Try.underlying30 info3 rfl (by decide) iv1 iv_one (w4.alloc (.cells #[.int .i64 (z : Int)] 3)) rfl _ _ rfl 0 w4.heap.size 1 (.slice aa q ca) (ints A) (z : Int) (by rfl) (by rfl) HJ5.out.oa (vrow_new _ _ _) (Nat.zero_le _) (by rw [HIL.out]; unfold maxLen; omega) (by rw [HIL.out]; omega) ?_; intro gb capb w5 hown5 hg5 hl5 hlt5; rw [HIL.out] at hown5 ⊢)
        obtain ⟨hj5, hb5⟩ := HJ5.out.push (z := z) (by rw [ints_app]; exact hown5) hg5 hl5
        have HJ6 : Hid _ := hj5
        have HB6 : Hid (Below P w w5) := HB5.out.trans hb5
        clear hj5 hb5 hown5 hg5 hl5 hlt5 HJ5 HB5 HJ4 HB4 bA d0 HAL4
        have HA6 : Hid (RecAt iV w5 (some ⟨gb, 0, none⟩) (ints (A ++ [z]))) := own_atS iv1 HJ6.out.oa
        have HALn : Hid ((A ++ [z]).length = q + 1) := by show _ = _; rw [List.length_append, hAq.out]; rfl
        have HFS : Hid (FS s br L0 L (A ++ [z]) ys (ids ++ [id])) := HNX4.out L (fun x hx => hx) (fun x hx => Or.inl hx)
        have HDP : Hid (Dep s br (A ++ [z]) ys (ys.map Cel.kept)) := HFS.out.fu.dep (fun x hx => HCH.out.lt x (HFS.out.s2 x hx)) (by rw [List.length_map, HXL.out, HALn.out]; exact Nat.le_refl _) (fun j hj => kept_get ys j (by rw [HXL.out, ← HALn.out]; exact hj))
        go_wp2_with fail
        refine (reached_any S P s g (q + 1) v4 vi4 vc4 ys (ids ++ [id]) (ys.map Cel.kept) br (some ⟨gb, 0, none⟩) (q + 1) capb (A ++ [z]) _ HJ6.out.sc HS.out hg1 hg2 HBR.out (by rw [HXL.out]; omega) (by rw [List.length_map, HXL.out]; omega) HDP.out HA6.out HALn.out).mono ?_
        rintro e w6 ⟨rfl, hb6⟩
        have HJ7 : Hid _ := HJ6.out.grown hb6
        have HB7 : Hid (Below P w w6) := HB6.out.trans (hb6.mono (by have := HJ6.out.sc.big; omega))
        clear HJ6 HB6 HA6 hb6 HDP
        have HAL7 : Hid (RecAt iV w6 (some ⟨gl, ofl, none⟩) (ints L)) := own_atS iv1 HJ7.out.ol
        go_wp2_with fail
        refine (without_any (some ⟨gl, ofl, none⟩) n cl L i _ HAL7.out HLN.out (by omega) hin).mono ?_
        rintro e w7 ⟨vl7, L7, rfl, hown7, hlen7, hsub1, hsub2, hb7⟩
        have HJ8 : Hid _ := HJ7.out.left hown7 hb7
        have HB8 : Hid (Below P w w7) := HB7.out.trans (hb7.mono (by have := HJ7.out.sc.big; omega))
        obtain ⟨a7, c7, e7, _⟩ := OwnRec.at iv1 hown7
        rw [ints_len] at e7
        subst e7
        rw [HZE.out] at hsub2
        have HF8 : Hid (FS s br L0 L7 (A ++ [z]) ys (ids ++ [id])) := HNX4.out L7 hsub1 hsub2
        clear HJ7 HB7 HAL7 hown7 hb7 hsub1 hsub2 HFS HNX4
        go_wp2
        go_roundw
        case rel => exact ⟨q + 1, L7, A ++ [z], v4, vi4, vc4, ys, ids ++ [id], by go_num, HALn.out, HJ8.out, HF8.out, by omega, HB8.out⟩
        case measure => show L7.length < n; omega
    · have hn00 : n = 0 := by omega
      subst hn00
      have hLe : L = [] := List.length_eq_zero_iff.1 HLN.out
      subst hLe
      have hall := hF.out.fu.all HBR.out hg2 HCH.out (fun x hx => (hF.out.s1 x hx).resolve_right (by simp)) hF.out.s2
      have HOLN : Hid ((ownOf xs s g).length = q) := hall.1.trans hAq.out
      have HOSM : Hid (sumC (ownOf xs s g) = sumC (xs.map Cel.kept)) := hall.2
      clear hall
      obtain ⟨ac, cc, ecs, hatc⟩ := OwnRec.at coin6 hJ.out.sc.oc
      subst ecs
      have HCA : Hid (RecAt CoinD.l wr ac (xs.map Cel.kept)) := hatc
      have HFUr : Hid (FJ S P s g q v vi (.slice ac (xs.map Cel.kept).length cc) (.slice al 0 cl) (.slice aa q ca) xs ids (xs.map Cel.kept) [] A wr) := hJ.out
      obtain ⟨av, cv, ev, hatv⟩ := hJ.out.sc.pat.at
      subst ev
      have HAT : Hid (CelsAt wr av xs) := hatv
      have HPR : Hid (PurseRow wr P s g (.slice av xs.length cv) q) := pat_row hJ.out.sc.pat
      have s0 := hJ.out.sc.c0
      have s4 := hJ.out.sc.c4
      have hSl : S < wr.heap.size := cell_lt s0
      have hxl : xs.length ≤ 100 := by have := hXQ.out; omega
      have HKL : Hid ((xs.map Cel.kept).length = q) := by show _ = _; rw [List.length_map, hXQ.out]
      have HVL : Hid (∀ x ∈ ownZ (keysZ xs s g) (coinsC xs), 0 ≤ x.val ∧ x.val ≤ 1099511627776) := ownZ_val (keysZ xs s g) (fun v => 0 ≤ v ∧ v ≤ 1099511627776) (coinsC xs) (coinsC_val (fun v => 0 ≤ v ∧ v ≤ 1099511627776) xs hVX.out)
      have HVK : Hid (∀ x ∈ xs.map Cel.kept, 0 ≤ x.val ∧ x.val ≤ 1099511627776) := fun x hx => by
        obtain ⟨y, hy, rfl⟩ := List.mem_map.1 hx
        exact hVX.out y hy
      clear hatc hatv hJ
      generalize hkl : (xs.map Cel.kept).length = kl at *
      have HKLE : Hid ((xs.map Cel.kept).length = kl) := hkl
      have hklq : kl = q := HKL.out
      subst hklq
      clear hkl HKL
      generalize hxn : xs.length = xn at *
      have HXN : Hid (xs.length = xn) := hxn
      clear hxn
      go_wp2_with fail
      refine (pCoins_any P s g av xn cv kl xs _ HS.out hg1 hg2 HPR.out HAT.out HXN.out (by omega)).mono ?_
      rintro e w3 ⟨vo, rfl, ho3, hb3⟩
      obtain ⟨ao3, co3, eo3, _⟩ := OwnRec.at coin6 ho3
      rw [show (ownZ (keysZ xs s g) (coinsC xs)).length = kl from HOLN.out] at eo3
      subst eo3
      have p0 := (hb3.cell (p := ⟨S, 0, none⟩) hSl).trans s0
      have p4 := (hb3.cell (p := ⟨S, 4, none⟩) hSl).trans s4
      have hSl3 : S < w3.heap.size := cell_lt p0
      have HPR3 : Hid (PurseRow w3 P s g (.slice av xn cv) kl) := VRow.grown HPR.out hb3
      have HAT3 : Hid (CelsAt w3 av xs) := HAT.out.grown hb3
      clear ho3 s0 s4 HPR HAT
      go_wp2_with fail
      refine (pBalance_none P s g av xn cv kl xs _ HS.out hg1 hg2 HPR3.out HPR3.out.c4 HPR3.out.c5 HAT3.out HXN.out (by omega) HVL.out).mono ?_
      rintro e w4 ⟨rfl, hb4⟩
      rw [show sumC (ownZ (keysZ xs s g) (coinsC xs)) = sumC (xs.map Cel.kept) from HOSM.out]
      have q4 := (hb4.cell (p := ⟨S, 4, none⟩) hSl3).trans p4
      have hbr4 : Below wr.heap.size wr w4 := below_blk hb3 hb4
      have HCA4 : Hid (RecAt CoinD.l w4 ac (xs.map Cel.kept)) := HCA.out.grown hbr4
      clear p0 p4 HPR3 HAT3 HVL HOLN HOSM HCA hb3 hb4
      go_wp2_with (go_at_call 48; refine (total_any S ac kl cc (xs.map Cel.kept) _ q4 HCA4.out HKLE.out (by omega) HVK.out).mono ?_; rintro e w5 ⟨rfl, hb5⟩)
      have hbr5 : Below wr.heap.size wr w5 := below_blk hbr4 hb5
      have HJ5 : Hid (FJ S P s g kl (.slice av xn cv) vi (.slice ac kl cc) (.slice al 0 cl) (.slice aa kl ca) xs ids (xs.map Cel.kept) [] A w5) := HFUr.out.grown hbr5
      have HB5 : Hid (Below P w w5) := hbl.out.trans (hbr5.mono (by have := HFUr.out.sc.big; omega))
      have HFU : Hid (Fu s br A xs) := hF.out.fu
      have HA0 : Hid (∀ i ∈ A, i < 100) := fun i hi => HCH.out.lt i (hF.out.s2 i hi)
      clear hbr4 hbr5 hb5 HFUr q4 HCA4 hbl hF HVK HCH hSl hSl3
      generalize sumC (xs.map Cel.kept) = TT at *
      obtain ⟨wo, rfl⟩ : ∃ wo : World, wo = wr := ⟨_, rfl⟩
      go_loopw [14] (fun va wr => ∃ (m : Nat) (v2 : Value), va = .slice aa m ca ∧ m ≤ kl ∧ Hid (FJ S P s g m v2 vi (.slice ac kl cc) (.slice al 0 cl) (.slice aa m ca) (xs.take m) ids (xs.map Cel.kept) [] (A.take m) wr) ∧ Hid (Below P w wr)) (fun va _ => lenV va)
      case atStart => exact ⟨kl, _, rfl, Nat.le_refl _, by rw [List.take_of_length_le (by rw [HXN.out]; have := hXQ.out; omega), List.take_of_length_le (by rw [hAq.out]; exact Nat.le_refl _)]; exact HJ5.out, HB5.out⟩
      case round =>
        clear HJ5 HB5
        obtain ⟨m, v2, rfl, hmk, hJ2, hB2⟩ := hrel
        cases m with
        | zero =>
          have HJ0 : Hid (FJ S P s g 0 v2 vi (.slice ac kl cc) (.slice al 0 cl) (.slice aa 0 ca) [] ids (xs.map Cel.kept) [] [] wr) := hJ2.out
          clear hJ2
          obtain ⟨av2, cv2, ev2, hatv2⟩ := HJ0.out.sc.pat.at
          rw [List.length_nil] at ev2
          subst ev2
          have HAT : Hid (CelsAt wr av2 []) := hatv2
          have HPR : Hid (PurseRow wr P s g (.slice av2 0 cv2) (0 : Nat)) := pat_row HJ0.out.sc.pat
          have s0 := HJ0.out.sc.c0
          have s2 := HJ0.out.sc.c2
          have hSl : S < wr.heap.size := cell_lt s0
          clear hatv2
          go_wp2_with fail
          refine (pWindows_any P s g av2 0 cv2 (0 : Nat) [] _ HS.out hg1 hg2 HPR.out HAT.out rfl (by omega)).mono ?_
          rintro e w6 ⟨rfl, hb6⟩
          rw [win_nil s g 0 hg1 hg2, win_nil s g 1 hg1 hg2]
          have p0 := (hb6.cell (p := ⟨S, 0, none⟩) hSl).trans s0
          have p2 := (hb6.cell (p := ⟨S, 2, none⟩) hSl).trans s2
          have hSl6 : S < w6.heap.size := cell_lt p0
          have HPR6 : Hid (PurseRow w6 P s g (.slice av2 0 cv2) (0 : Nat)) := VRow.grown HPR.out hb6
          have HAT6 : Hid (CelsAt w6 av2 []) := HAT.out.grown hb6
          clear s0 s2 HPR HAT
          go_wp2_with fail
          refine (pCoins_any P s g av2 0 cv2 (0 : Nat) [] _ HS.out hg1 hg2 HPR6.out HAT6.out rfl (by omega)).mono ?_
          rintro e w7 ⟨vo, rfl, ho7, hb7⟩
          obtain ⟨ao7, co7, eo7, _⟩ := OwnRec.at coin6 ho7
          rw [show (ownZ (keysZ [] s g) (coinsC [])).length = 0 from rfl] at eo7
          subst eo7
          have q2 := (hb7.cell (p := ⟨S, 2, none⟩) hSl6).trans p2
          have HFN : Hid (Below P w w7) := hB2.out.trans ((below_blk hb6 hb7).mono (by have := HJ0.out.sc.big; omega))
          clear ho7 p0 p2 HPR6 HAT6 hb6 hb7
          go_wp2
          go_ret
          exact ⟨rfl, by rw [HP.out]; exact HFN.out⟩
        | succ m =>
          have HBK : Hid (tbZ (m : Int) (xs.take (m + 1)) = xs.take m) := HFU.out.back m (by rw [hAq.out]; omega)
          have HFT : Hid (Fu s br (A.take m) (xs.take m)) := HFU.out.take m
          have HTL : Hid ((xs.take (m + 1)).length ≤ 100) := by show _ ≤ _; rw [List.length_take]; omega
          have HTM : Hid ((xs.take m).length = m) := by show _ = _; rw [List.length_take, HXN.out]; have := hXQ.out; omega
          have HAM : Hid ((A.take m).length = m) := by show _ = _; rw [List.length_take, hAq.out]; omega
          have HAM1 : Hid ((A.take (m + 1)).length = m + 1) := by show _ = _; rw [List.length_take, hAq.out]; omega
          have HTT : Hid ((A.take (m + 1)).take m = A.take m) := by show _ = _; rw [List.take_take]; congr 1; omega
          have HDP : Hid (Dep s br (A.take m) (xs.take m) (xs.map Cel.kept)) := HFT.out.dep (fun i hi => HA0.out i (List.mem_of_mem_take hi)) (by rw [HAM.out, HKLE.out]; omega) (fun j hj => by
            rw [HAM.out] at hj
            rw [kept_get xs j (by rw [HXN.out]; have := hXQ.out; omega), getD_take _ _ _ _ hj])
          have s0 := hJ2.out.sc.c0
          have HCAP : Hid _ := OwnRec.cap hJ2.out.oa (by rw [ints_len, HAM1.out])
          have hmc : m + 1 ≤ ca := HCAP.out.1
          generalize hki : m + 1 = K at *
          have hK0 : 0 < K := by omega
          have hmK : m < K := by omega
          have hKm : ((K : Int) - 1) = (m : Int) := by omega
          have hw1 : IntKind.i64.wrap ((K : Int) - 1) = (m : Int) := by rw [hKm]; exact IntWalk.i64_in _ ⟨by omega, by omega⟩
          have HKI : Hid ((K : Int) - 1 = (m : Int)) := hKm
          have hd : decide ((0 : Int) < (K : Int)) = true := by rw [decide_eq_true_iff]; omega
          have e3 : (m : Int) ≤ (ca : Int) := by omega
          have e4 : (0 : Int) ≤ (m : Int) := by omega
          clear hKm hki HCAP
          go_wp2_with fail
          refine (pDis_any P s g v2 (K : Int) (xs.take K) _ hJ2.out.sc.pat (by have := HTL.out; omega) (by omega) (by omega)).mono ?_
          rintro e w6 ⟨rfl, v6, hp6, hst6⟩
          rw [HKI.out, HBK.out] at hp6
          obtain ⟨hsc6, hss6⟩ := hJ2.out.sc.chain hp6 hst6
          have HJ6 : Hid (FJ S P s g m v6 vi (.slice ac kl cc) (.slice al 0 cl) (.slice aa m ca) (xs.take m) ids (xs.map Cel.kept) [] (A.take m) w6) := by
            have := (hJ2.out.step hsc6 hss6).cut rfl HAM1.out m (by omega)
            rw [HTT.out] at this
            exact this
          have HB6 : Hid (Below P w w6) := hB2.out.trans (hss6.fr.toBelow P (by have := hJ2.out.sc.big; omega) (fun k hk => (hJ2.out.sc.blk k hk).1))
          have HA6 : Hid (RecAt iV w6 aa (ints (A.take m))) := own_atS iv1 HJ6.out.oa
          clear hp6 hst6 hsc6 hss6 s0
          go_wp2_with fail
          refine (reached_any S P s g m v6 vi (.slice ac kl cc) (xs.take m) ids (xs.map Cel.kept) br aa m ca (A.take m) _ HJ6.out.sc HS.out hg1 hg2 HBR.out (by rw [HTM.out]; omega) (by rw [HKLE.out]; omega) HDP.out HA6.out HAM.out).mono ?_
          rintro e w7 ⟨rfl, hb7⟩
          have HJ7 : Hid _ := HJ6.out.grown hb7
          have HB7 : Hid (Below P w w7) := HB6.out.trans (hb7.mono (by have := HJ6.out.sc.big; omega))
          clear HJ6 HB6 HA6 hb7
          go_wp2
          go_roundw
          case rel => exact ⟨m, v6, rfl, by omega, HJ7.out, HB7.out⟩
          case measure => show m < K; exact hmK

end Go.Proofs.Ytffgpepngcnjeaa
