/-
  A book of payments: it keeps what was signed.
-/
import Derived.Test.YtffgpepngcnjeabGreatQNau
namespace Go.Proofs.YtffgpepngcnjeabGreatQ
open Go.RowKit
variable {NP ND : Nat → Prop} {w : World} {B P : Nat} {s : Int} {g : Nat} {v : Value} {h : Int} {xs : List Cel} {vl vs : Value} {md nx : Int} {ps : List PayD} {ks : List (Int × Int)} {vd : Value} {ds : List DeedD}
/-- the book behind a signature of the purse -/
theorem Bk.signed {New : Nat → Prop} {w' : World} {vs' : Value} {ps' : List PayD} {ks' : List (Int × Int)} (u : Bk NP ND w B P s g v h xs vl vs md nx ps ks vd ds) (hg : SgL NP P 4 (P + 1) vl vs vs' md nx ps ps' ks ks' w w' New) : Bk NP ND w' B P s g v h xs vl vs' md nx ps' ks' vd ds := by
  have hE : ∀ k, (k = P ∨ vl.ownBlock = some k ∨ vs.ownBlock = some k) → k ≠ B ∧ vd.ownBlock ≠ some k ∧ ¬ ND k := fun k e => u.dj k (Or.inr (Or.inl e))
  have hB : ¬ (B = P ∨ vl.ownBlock = some B ∨ vs.ownBlock = some B) := fun e => (hE B e).1 rfl
  have hBl : B < w.heap.size := cell_lt u.b0
  refine ⟨u.pp.signed hg, hg.fr.cell u.b0 hB, hg.fr.cell u.b1 hB, hg.fr.cell u.b2 hB, fun j => (hg.fr.frozen hBl hB).trans (u.fb j), hg.fr.own u.od (fun k hk e => (hE k e).2.1 hk), fun d hd => (u.ok d hd).fr hg.fr (fun k hk e => (hE k e).2.2 hk), fun k hk => ?_, fun k hk => ⟨Nat.lt_of_lt_of_le (u.nd k hk).1 hg.fr.size, (u.nd k hk).2⟩⟩
  rcases hk with hk | hk | hk
  · exact u.dj k (Or.inl hk)
  · rcases hk with hk | hk | hk
    · exact hE k (Or.inl hk)
    · exact hE k (Or.inr (Or.inl hk))
    · rcases hg.nw k hk with h1 | h1
      · exact hE k (Or.inr (Or.inr h1))
      · refine ⟨by omega, fun e => ?_, fun e => ?_⟩
        · have := (u.od.blk k e).2; omega
        · have := (u.nd k e).1; omega
  · exact u.dj k (Or.inr (Or.inr hk))
theorem own_len_set {α : Type} {f : α → List Value} {e k : Nat} {w : World} {base g c : Nat} {l : List α} {q : Nat} {y : α} (h : OwnRec f e k w base (.slice (some ⟨g, 0, none⟩) l.length c) (l.set q y)) : OwnRec f e k w base (.slice (some ⟨g, 0, none⟩) (l.set q y).length c) (l.set q y) := by
  rw [List.length_set]; exact h
theorem own_sg10 {gd cd : Nat} {base : Nat} {n : Nat} (h : OwnRec DeedD.v 135 11 w base (.slice (some ⟨gd, 0, none⟩) ds.length cd) ds) (hn : n < ds.length) : OwnRec DeedD.v 135 11 (w.setCell ⟨gd, n * 11 + 10, none⟩ (.bool true)) base (.slice (some ⟨gd, 0, none⟩) ds.length cd) (ds.set n ({ ds[n] with sg := true } : DeedD)) :=
  h.put deed11 n 10 hn (by omega) (.bool true) ({ ds[n] with sg := true } : DeedD) (by simp [DeedD.v])
theorem own_sg678 {gd cd : Nat} {base : Nat} {n : Nat} (hn : n < ds.length) (y : TxD) (h : OwnRec DeedD.v 135 11 w base (.slice (some ⟨gd, 0, none⟩) ds.length cd) (ds.set n ({ ds[n] with sg := true } : DeedD))) : OwnRec DeedD.v 135 11 (((w.setCell ⟨gd, n * 11 + 6, none⟩ (.int .i64 y.t)).setCell ⟨gd, n * 11 + 7, none⟩ (.slice y.ai y.n y.c)).setCell ⟨gd, n * 11 + 8, none⟩ (.slice y.ap y.m y.d)) base (.slice (some ⟨gd, 0, none⟩) ds.length cd) (sgnD ds n y) := by
  obtain ⟨yt, ya, yn, yc, yp, ym, yd, yi, yy⟩ := y
  have hg0 : ds.getD n dDD = ds[n] := by simp [List.getD, hn]
  have hd1 := own_len_set h
  have hd2 := own_len_set (hd1.put deed11 n 6 (by rw [List.length_set]; exact hn) (by omega) (.int .i64 yt) ({ ds[n] with sg := true, t2 := yt } : DeedD) (by simp [DeedD.v]))
  have hd3 := own_len_set (hd2.put deed11 n 7 (by rw [List.length_set, List.length_set]; exact hn) (by omega) (.slice ya yn yc) ({ ds[n] with sg := true, t2 := yt, ti := ya, tn := yn, tc := yc } : DeedD) (by simp [DeedD.v]))
  have hd4 := own_len_set (hd3.put deed11 n 8 (by rw [List.length_set, List.length_set, List.length_set]; exact hn) (by omega) (.slice yp ym yd) (ds[n].sgn ⟨yt, ya, yn, yc, yp, ym, yd, yi, yy⟩) (by simp [DeedD.v, DeedD.sgn]))
  simp only [List.set_set, List.length_set] at hd4
  have hsg : sgnD ds n ⟨yt, ya, yn, yc, yp, ym, yd, yi, yy⟩ = ds.set n (ds[n].sgn ⟨yt, ya, yn, yc, yp, ym, yd, yi, yy⟩) := by unfold sgnD; rw [hg0]
  rw [hsg]
  exact hd4
/-- the book keeps what was signed -/
theorem Bk.sgnd {gd cd : Nat} {N : Nat → Prop} {y : TxD} {W : World} (u : Bk NP ND w B P s g v h xs vl vs md nx ps ks (.slice (some ⟨gd, 0, none⟩) ds.length cd) ds) (n : Nat) (hn : n < ds.length) (hy : TxOk N w y) (hys : y.ys = (ds.getD n dDD).ys) (hN : ∀ k, N k → k < w.heap.size ∧ k ≠ B ∧ k ≠ gd ∧ ¬ (chE P v k ∨ lsE P vl vs k ∨ NP k))
    (hd4 : OwnRec DeedD.v 135 11 W (B + 1) (.slice (some ⟨gd, 0, none⟩) ds.length cd) (sgnD ds n y)) (hf : Fr (fun k => k = gd) w W) : Bk NP (fun k => ND k ∨ N k) W B P s g v h xs vl vs md nx ps ks (.slice (some ⟨gd, 0, none⟩) ds.length cd) (sgnD ds n y) := by
  obtain ⟨yt, ya, yn, yc, yp, ym, yd, yi, yy⟩ := y
  simp only at hys
  have hgb := u.od.blk gd rfl
  have hB : ¬ B = gd := by omega
  have hx : ∀ k, (chE P v k ∨ lsE P vl vs k ∨ NP k) → ¬ k = gd := fun k hk e => (u.dj k hk).2.1 (by rw [e]; rfl)
  have hnd : ∀ k, ND k → ¬ k = gd := fun k hk e => (u.nd k hk).2.2 (by rw [e]; rfl)
  refine ⟨u.pp.fr hf (fun k hk => hx k (Or.inl hk)) (fun k hk => hx k (Or.inr (Or.inl hk))) (fun k hk => hx k (Or.inr (Or.inr hk))), hf.cell u.b0 hB, hf.cell u.b1 hB, hf.cell u.b2 hB, fun j => (hf.frozen (cell_lt u.b0) hB).trans (u.fb j), hd4, fun d hd => ?_, fun k hk => ⟨(u.dj k hk).1, (u.dj k hk).2.1, fun e => ?_⟩, fun k hk => ?_⟩
  · have hd2 : d ∈ ds ∨ d = (ds.getD n dDD).sgn ⟨yt, ya, yn, yc, yp, ym, yd, yi, yy⟩ := List.mem_or_eq_of_mem_set hd
    rcases hd2 with hd2 | hd2
    · exact ((u.ok d hd2).fr hf hnd).more (fun k hk => Or.inl hk)
    · have h1 := ((u.ok _ (getD_mem ds dDD n hn)).fr hf hnd).more (M := fun k => ND k ∨ N k) (fun k hk => Or.inl hk)
      rw [hd2]
      refine ⟨h1.ri, h1.rk, h1.ln, h1.lq, h1.b1, h1.ni, h1.nk, h1.ro, h1.lm, h1.b2, h1.no, fun _ => ?_⟩
      have h2 := (hy.fr hf (fun k hk => (hN k hk).2.2.1)).weak (M := fun k => ND k ∨ N k) (fun k hk => Or.inr hk)
      rw [hys] at h2
      exact h2
  · rcases e with e | e
    · exact (u.dj k hk).2.2 e
    · exact (hN k e).2.2.2 hk
  · rcases hk with hk | hk
    · exact ⟨Nat.lt_of_lt_of_le (u.nd k hk).1 hf.size, (u.nd k hk).2⟩
    · refine ⟨Nat.lt_of_lt_of_le (hN k hk).1 hf.size, (hN k hk).2.1, fun e => ?_⟩
      simp [Value.ownBlock] at e
      exact (hN k hk).2.2.1 e.symm
/-- a signed payment as a transaction, in blocks of its own -/
theorem sgtx_okN {base : Nat} {p : PayD} {ai : Option Addr} {ni ci : Nat} {ap : Option Addr} {np cp : Nat} {L : List (CoinD × Nat)} (h : SgTx base s p (.slice ai ni ci) (.slice ap np cp) L w) : TxOk (fun k => (Value.slice ai ni ci).ownBlock = some k ∨ (Value.slice ap np cp).ownBlock = some k ∨ ∃ q ∈ L, q.2 = k) w ⟨p.tag, ai, ni, ci, ap, np, cp, L.map (sgIn s p.id), p.ys⟩ := by
  obtain ⟨l1, l2, l3⟩ := h.lens
  refine ⟨h.insAt, by show (L.map _).length = ni; rw [List.length_map]; exact l1, h.outsAt, l3, fun _ a ha => Or.inl (by simp only at ha; rw [ha]; rfl), fun _ a ha => Or.inr (Or.inl (by simp only at ha; rw [ha]; rfl)), fun i hi e a ha => ?_⟩
  obtain ⟨q, hq, rfl⟩ := List.mem_map.1 hi
  unfold sgIn at ha
  injection ha with ha
  subst ha
  exact Or.inr (Or.inr ⟨q, hq, rfl⟩)
/-- what the chain says to a payment that was just signed -/
structure SgSay (h : Int) (xs xs2 : List Cel) (s : Int) (g : Nat) (p : PayD) : Prop where
  tk : ∀ z : TxD, z.t = p.tag → z.ins.map InD.st = p.cs.map (sgI0 s p.id) → z.ys = p.ys → connZ h xs [z] = (0, 0, h + 1, xs2)
  tb : tbZ h xs2 = xs
  gone : (!((p.cs.map (sgI0 s p.id)).any fun i => namedB (ownOf xs2 s g) i.id i.pos)) = true
  vl : Vals xs2
  ln : xs2.length ≤ xs.length + 48
theorem sg_say {hN : Nat} {xs : List Cel} {s : Int} {g : Nat} {p : PayD} (hc : Chn hN xs) (hh : hN < 40) (hp : PayI s p.tag p.cs p.ys) (hi : hasId xs p.id = false) (ha : hasAllZ xs p.cs = true) : ∃ xs2, SgSay (hN : Int) xs xs2 s g p := by
  obtain ⟨hV, _, _, hnm⟩ := hc.facts
  have hsay : ChSay (hN : Int) xs s g p := ch_say ⟨by omega, by omega⟩ hc.und (cel_uq hnm) hp.nn hp.rt hi ha hp.nd (fun x hx => (hp.ky x hx).2) hp.sm
  have hcn := hsay.tk ⟨p.tag, none, 0, 0, none, 0, 0, p.cs.map (sgI0 s p.id), p.ys⟩ rfl (by rw [List.map_map]; rfl) rfl
  have h0 : (connZ (hN : Int) xs [⟨p.tag, none, 0, 0, none, 0, 0, p.cs.map (sgI0 s p.id), p.ys⟩]).1 = 0 := by rw [hcn]
  have hl := conn_len (hN : Int) xs _ hV h0
  rw [hcn] at hl
  refine ⟨takenC (hN : Int) p.id xs (p.cs.map (sgI0 s p.id)) p.ys, hsay.tk, ?_, hsay.gone, hl.1, hl.2⟩
  rcases conn_cases (hN : Int) xs [⟨p.tag, none, 0, 0, none, 0, 0, p.cs.map (sgI0 s p.id), p.ys⟩] hc.und (by omega) with ⟨c1, _⟩ | ⟨_, _, _, _, c5⟩
  · exact absurd h0 c1
  · rw [hcn] at c5
    exact tb_over c5
end Go.Proofs.YtffgpepngcnjeabGreatQ
