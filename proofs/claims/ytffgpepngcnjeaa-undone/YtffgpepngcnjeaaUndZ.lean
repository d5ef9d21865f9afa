/-
  Undone: a purse, its trail, and what they hold.
-/
import Derived.Test.YtffgpepngcnjeaaCopB
import Derived.Test.YtffgpepngcnjeaaChH
namespace Go.Proofs.Ytffgpepngcnjeaa
open Go.RowKit

/-- the blocks that were taken, and the chains ahead of each -/
def Hst : Nat → List Cel → List (List TxD) → List (List Cel) → Prop
  | 0, xs, bls, ps => xs = [] ∧ bls = [] ∧ ps = []
  | h + 1, xs, bls, ps => ∃ p bls0 ps0 bl, bls = bls0 ++ [bl] ∧ ps = ps0 ++ [p] ∧ Hst h p bls0 ps0 ∧ connZ h p bl = (0, 0, (h : Int) + 1, xs)

theorem Hst.facts : ∀ (h : Nat) (xs : List Cel) (bls : List (List TxD)) (ps : List (List Cel)), Hst h xs bls ps → Und h xs ∧ Vals xs ∧ xs.length ≤ 48 * h ∧ h ≤ 40 ∧ bls.length = h ∧ ps.length = h := by
  intro h
  induction h with
  | zero =>
    intro xs bls ps hh
    obtain ⟨rfl, rfl, rfl⟩ := hh
    exact ⟨fun x hx => by simp at hx, fun x hx => by simp at hx, by simp, by omega, rfl, rfl⟩
  | succ h ih =>
    intro xs bls ps hh
    obtain ⟨p, bls0, ps0, bl, rfl, rfl, h0, hc⟩ := hh
    obtain ⟨a1, a2, a3, a4, a5, a6⟩ := ih p bls0 ps0 h0
    have e1 : (connZ h p bl).1 = 0 := by rw [hc]
    obtain ⟨b1, b2⟩ := conn_len h p bl a2 e1
    rcases conn_cases h p bl a1 (by omega) with ⟨c1, _⟩ | ⟨c1, _, _, _, c5⟩
    · exact absurd e1 c1
    · rw [hc] at b1 b2 c5
      simp only at b1 b2 c5
      refine ⟨by have := a1.over c5 (by omega); push_cast; exact this, b1, by omega, by omega, by simp [a5], by simp [a6]⟩

/-- a list of transactions as a slice -/
structure BkD where
  ao : Option Addr
  n : Nat
  c : Nat
def dBk : BkD := ⟨none, 0, 0⟩
def BkD.v (x : BkD) : List Value := [.slice x.ao x.n x.c]
theorem bk1 (x : BkD) : x.v.length = 1 := rfl
theorem bk_one (x : BkD) : ∀ u ∈ x.v, u.oneCell' = true := by
  intro u hu
  simp [BkD.v] at hu
  subst hu
  rfl
/-- a look in memory -/
structure LkD where
  h : Int
  r : Int
  c : Int
  al : Int
  fr : Int
  ao : Option Addr
  n : Nat
  cp : Nat
def dLk : LkD := ⟨0, 0, 0, 0, 0, none, 0, 0⟩
def LkD.v (x : LkD) : List Value := [.int .i64 x.h, .int .i64 x.r, .int .i64 x.c, .int .i64 x.al, .int .i64 x.fr, .slice x.ao x.n x.cp]
theorem lk6 (x : LkD) : x.v.length = 6 := rfl
theorem lk_one (x : LkD) : ∀ u ∈ x.v, u.oneCell' = true := by
  intro u hu
  simp [LkD.v] at hu
  rcases hu with rfl | rfl | rfl | rfl | rfl | rfl <;> rfl
theorem info75 : (Try.prog.info? 75).map (fun i => (i.zero, i.size, i.bytes)) = some (some (.slice none 0 0), 1, 24) := by kernel_rfl
theorem info81 : (Try.prog.info? 81).map (fun i => (i.zero, i.size, i.bytes)) = some (some (.agg #[.int .i64 0, .int .i64 0, .int .i64 0, .int .i64 0, .int .i64 0, .slice none 0 0]), 6, 64) := by kernel_rfl

/-- the look of a chain -/
structure LkOk (w : World) (s : Int) (g : Nat) (h : Nat) (xs : List Cel) (x : LkD) : Prop where
  h : x.h = h
  r : x.r = winZ xs s g 0
  c : x.c = winZ xs s g 1
  al : x.al = sumC (ownOf xs s g)
  fr : x.fr = sumC (ownOf xs s g)
  n : (ownOf xs s g).length = x.n
  at_ : RecAt CoinD.l w x.ao (ownOf xs s g)
  nil : x.ao = none → x.n = 0

/-- a block that came in: it lies below B0 -/
structure BkOk (B0 : Nat) (w : World) (x : BkD) (bl : List TxD) : Prop where
  at_ : BlkAt (fun q => q < B0) w x.ao bl
  len : bl.length = x.n
  sm : ∀ t ∈ bl, TxSm t
  sz : x.n ≤ 2513169434916
theorem BkOk.below {B0 : Nat} {w w' : World} {x : BkD} {bl : List TxD} (h : BkOk B0 w x bl) (hb : Below B0 w w') (_hB : B0 ≤ w.heap.size) : BkOk B0 w' x bl :=
  ⟨h.at_.fr (E := fun q => B0 ≤ q) ⟨hb.os, hb.tape, hb.output, hb.size, fun k _ he => hb.block k (by simpa using he)⟩ (fun k hk e => by omega), h.len, h.sm, h.sz⟩

/-- the blocks that hold the trail and the chain -/
def busy (P T : Nat) (v vb vl : Value) (k : Nat) : Prop := chE P v k ∨ k = T ∨ vb.ownBlock = some k ∨ vl.ownBlock = some k

structure UI (B0 P T : Nat) (s : Int) (g : Nat) (h : Nat) (xs : List Cel) (bls : List (List TxD)) (ps : List (List Cel)) (v vb vl : Value) (bs : List BkD) (ls : List LkD) (w : World) : Prop where
  pat : PAt w P s g v h xs
  hst : Hst h xs bls ps
  t0 : w.cell? ⟨T, 0, none⟩ = some vb
  t1 : w.cell? ⟨T, 1, none⟩ = some vl
  f0 : w.frozen? ⟨T, 0, none⟩ = false
  f1 : w.frozen? ⟨T, 1, none⟩ = false
  ob : OwnRec BkD.v 75 1 w (T + 1) vb bs
  ol : OwnRec LkD.v 81 6 w (T + 1) vl ls
  lt : B0 ≤ P ∧ P < T
  s1 : ∀ k, chE P v k → k ≠ T ∧ vb.ownBlock ≠ some k ∧ vl.ownBlock ≠ some k
  s2 : ∀ k, vb.ownBlock = some k → vl.ownBlock ≠ some k
  bl : bs.length = bls.length
  bo : ∀ i, i < bls.length → BkOk B0 w (bs.getD i dBk) (bls.getD i [])
  ll : ls.length = ps.length
  lo : ∀ i, i < ps.length → LkOk w s g i (ps.getD i []) (ls.getD i dLk)
  cb : ∀ i, i < ps.length → ∀ a, (ls.getD i dLk).ao = some a → a.block < w.heap.size ∧ ¬ busy P T v vb vl a.block

theorem UI.big {B0 P T : Nat} {s : Int} {g h : Nat} {xs : List Cel} {bls : List (List TxD)} {ps : List (List Cel)} {v vb vl : Value} {bs : List BkD} {ls : List LkD} {w : World} (u : UI B0 P T s g h xs bls ps v vb vl bs ls w) : T < w.heap.size ∧ P < w.heap.size := ⟨cell_lt u.t0, cell_lt u.pat.c0⟩

theorem LkOk.fr_ {E : Nat → Prop} {w w' : World} (hf : Fr E w w') {s : Int} {g h : Nat} {xs : List Cel} {x : LkD} (hl : LkOk w s g h xs x) (hE : ∀ a, x.ao = some a → ¬ E a.block) : LkOk w' s g h xs x := by
  refine ⟨hl.h, hl.r, hl.c, hl.al, hl.fr, hl.n, ?_, hl.nil⟩
  rcases hl.at_ with e | ⟨b, off, e, hr⟩
  · exact Or.inl e
  · exact Or.inr ⟨b, off, e, hf.vrow hr (hE _ e)⟩

/-- only new blocks -/
theorem UI.grown {B0 P T : Nat} {s : Int} {g h : Nat} {xs : List Cel} {bls : List (List TxD)} {ps : List (List Cel)} {v vb vl : Value} {bs : List BkD} {ls : List LkD} {w w' : World} (u : UI B0 P T s g h xs bls ps v vb vl bs ls w) (hb : Below w.heap.size w w') : UI B0 P T s g h xs bls ps v vb vl bs ls w' := by
  have hf : Fr (fun _ => False) w w' := Fr.of_below hb _
  have hB : Below B0 w w' := hb.mono (by have := u.lt; have := u.big; omega)
  exact ⟨u.pat.grown hb, u.hst, hf.cell u.t0 (fun h => h), hf.cell u.t1 (fun h => h), (hf.frozen u.big.1 (fun h => h)).trans u.f0, (hf.frozen u.big.1 (fun h => h)).trans u.f1, u.ob.grown hb, u.ol.grown hb, u.lt, u.s1, u.s2, u.bl, fun i hi => (u.bo i hi).below hB (by have := u.lt; have := u.big; omega), u.ll, fun i hi => (u.lo i hi).fr_ hf (fun _ _ h => h), fun i hi a ha => ⟨Nat.lt_of_lt_of_le (u.cb i hi a ha).1 hb.size, (u.cb i hi a ha).2⟩⟩

/-- the chain moves, the trail not yet -/
structure Mid_ (B0 P T : Nat) (s : Int) (g : Nat) (bls : List (List TxD)) (ps : List (List Cel)) (v vb vl : Value) (bs : List BkD) (ls : List LkD) (w : World) : Prop where
  t0 : w.cell? ⟨T, 0, none⟩ = some vb
  t1 : w.cell? ⟨T, 1, none⟩ = some vl
  f0 : w.frozen? ⟨T, 0, none⟩ = false
  f1 : w.frozen? ⟨T, 1, none⟩ = false
  ob : OwnRec BkD.v 75 1 w (T + 1) vb bs
  ol : OwnRec LkD.v 81 6 w (T + 1) vl ls
  lt : B0 ≤ P ∧ P < T
  s1 : ∀ k, chE P v k → k ≠ T ∧ vb.ownBlock ≠ some k ∧ vl.ownBlock ≠ some k
  s2 : ∀ k, vb.ownBlock = some k → vl.ownBlock ≠ some k
  bl : bs.length = bls.length
  bo : ∀ i, i < bls.length → BkOk B0 w (bs.getD i dBk) (bls.getD i [])
  ll : ls.length = ps.length
  lo : ∀ i, i < ps.length → LkOk w s g i (ps.getD i []) (ls.getD i dLk)
  cb : ∀ i, i < ps.length → ∀ a, (ls.getD i dLk).ao = some a → a.block < w.heap.size ∧ ¬ busy P T v vb vl a.block

theorem UI.mid {B0 P T : Nat} {s : Int} {g h : Nat} {xs : List Cel} {bls : List (List TxD)} {ps : List (List Cel)} {v vb vl : Value} {bs : List BkD} {ls : List LkD} {w : World} (u : UI B0 P T s g h xs bls ps v vb vl bs ls w) : Mid_ B0 P T s g bls ps v vb vl bs ls w := ⟨u.t0, u.t1, u.f0, u.f1, u.ob, u.ol, u.lt, u.s1, u.s2, u.bl, u.bo, u.ll, u.lo, u.cb⟩
theorem Mid_.ui {B0 P T : Nat} {s : Int} {g h : Nat} {xs : List Cel} {bls : List (List TxD)} {ps : List (List Cel)} {v vb vl : Value} {bs : List BkD} {ls : List LkD} {w : World} (u : Mid_ B0 P T s g bls ps v vb vl bs ls w) (hp : PAt w P s g v h xs) (hh : Hst h xs bls ps) : UI B0 P T s g h xs bls ps v vb vl bs ls w := ⟨hp, hh, u.t0, u.t1, u.f0, u.f1, u.ob, u.ol, u.lt, u.s1, u.s2, u.bl, u.bo, u.ll, u.lo, u.cb⟩

theorem Mid_.grown {B0 P T : Nat} {s : Int} {g : Nat} {bls : List (List TxD)} {ps : List (List Cel)} {v vb vl : Value} {bs : List BkD} {ls : List LkD} {w w' : World} (u : Mid_ B0 P T s g bls ps v vb vl bs ls w) (hb : Below w.heap.size w w') : Mid_ B0 P T s g bls ps v vb vl bs ls w' := by
  have hf : Fr (fun _ => False) w w' := Fr.of_below hb _
  have hT : T < w.heap.size := cell_lt u.t0
  have hB : Below B0 w w' := hb.mono (by have := u.lt; omega)
  exact ⟨hf.cell u.t0 (fun h => h), hf.cell u.t1 (fun h => h), (hf.frozen hT (fun h => h)).trans u.f0, (hf.frozen hT (fun h => h)).trans u.f1, u.ob.grown hb, u.ol.grown hb, u.lt, u.s1, u.s2, u.bl, fun i hi => (u.bo i hi).below hB (by have := u.lt; omega), u.ll, fun i hi => (u.lo i hi).fr_ hf (fun _ _ h => h), fun i hi a ha => ⟨Nat.lt_of_lt_of_le (u.cb i hi a ha).1 hb.size, (u.cb i hi a ha).2⟩⟩

theorem Mid_.chain {B0 P T : Nat} {s : Int} {g : Nat} {bls : List (List TxD)} {ps : List (List Cel)} {v v' vb vl : Value} {bs : List BkD} {ls : List LkD} {w w' : World} (u : Mid_ B0 P T s g bls ps v vb vl bs ls w) (hst : ChStep P v v' w w') (hv : ∀ k, chE P v k → P ≤ k) : Mid_ B0 P T s g bls ps v' vb vl bs ls w' := by
  have hf := hst.fr
  have hT : T < w.heap.size := cell_lt u.t0
  have hTE : ¬ chE P v T := fun e => (u.s1 T e).1 rfl
  have hB : Below B0 w w' := hf.toBelow B0 (by have := u.lt; omega) (fun k hk => by have := hv k hk; have := u.lt; omega)
  have hnew : ∀ k, chE P v' k → chE P v k ∨ w.heap.size ≤ k := fun k hk => by
    rcases hk with e | e
    · exact Or.inl (Or.inl e)
    · rcases hst.own k e with e' | e'
      · exact Or.inl (Or.inr e')
      · exact Or.inr e'
  have hbb := u.ob.blk
  have hlb := u.ol.blk
  refine ⟨hf.cell u.t0 hTE, hf.cell u.t1 hTE, (hf.frozen hT hTE).trans u.f0, (hf.frozen hT hTE).trans u.f1, hf.own u.ob (fun k hk e => (u.s1 k e).2.1 hk), hf.own u.ol (fun k hk e => (u.s1 k e).2.2 hk), u.lt, fun k hk => ?_, u.s2, u.bl, fun i hi => (u.bo i hi).below hB (by have := u.lt; omega), u.ll, fun i hi => (u.lo i hi).fr_ hf (fun a ha e => (u.cb i hi a ha).2 (Or.inl e)), fun i hi a ha => ⟨Nat.lt_of_lt_of_le (u.cb i hi a ha).1 hf.size, fun e => ?_⟩⟩
  · rcases hnew k hk with e | e
    · exact u.s1 k e
    · exact ⟨fun e' => by omega, fun e' => by have := (hbb k e').2; omega, fun e' => by have := (hlb k e').2; omega⟩
  · have h1 := u.cb i hi a ha
    rcases e with e | e
    · rcases hnew _ e with e' | e'
      · exact h1.2 (Or.inl e')
      · omega
    · exact h1.2 (Or.inr e)

end Go.Proofs.Ytffgpepngcnjeaa
namespace Go.Proofs.Ytffgpepngcnjeaa
open Go.RowKit

variable {B0 P T : Nat} {s : Int} {g : Nat} {bls : List (List TxD)} {ps : List (List Cel)} {v vb vl : Value} {bs : List BkD} {ls : List LkD} {w : World}

theorem getD_snoc {α : Type} (l : List α) (x d : α) (i : Nat) (h : i < (l ++ [x]).length) : (i < l.length ∧ (l ++ [x]).getD i d = l.getD i d) ∨ (i = l.length ∧ (l ++ [x]).getD i d = x) := by
  rw [List.length_append, List.length_singleton] at h
  by_cases hi : i < l.length
  · exact Or.inl ⟨hi, getD_app_left _ _ _ _ hi⟩
  · have e : i = l.length := by omega
    subst e
    exact Or.inr ⟨rfl, by rw [getD_app_right _ _ _ _ (Nat.le_refl _), Nat.sub_self]; rfl⟩

/-- a block more -/
theorem Mid_.pushB (u : Mid_ B0 P T s g bls ps v vb vl bs ls w) {w1 : World} {gb cap : Nat} {b : BkD} {bl : List TxD} (hc : ∀ k, chE P v k → k < w.heap.size) (hown : OwnRec BkD.v 75 1 w1 (T + 1) (.slice (some ⟨gb, 0, none⟩) (bs.length + 1) cap) (bs ++ [b])) (hg : w.grownBy w1 vb.ownBlock) (hl : vb.ownBlock = some gb ∨ w.heap.size ≤ gb) (hb : BkOk B0 w b bl) :
    Mid_ B0 P T s g (bls ++ [bl]) ps v (.slice (some ⟨gb, 0, none⟩) (bs.length + 1) cap) vl (bs ++ [b]) ls (w1.setCell ⟨T, 0, none⟩ (.slice (some ⟨gb, 0, none⟩) (bs.length + 1) cap)) ∧ Fr (fun k => k = T ∨ vb.ownBlock = some k) w (w1.setCell ⟨T, 0, none⟩ (.slice (some ⟨gb, 0, none⟩) (bs.length + 1) cap)) := by
  have hT : T < w.heap.size := cell_lt u.t0
  have hbb := u.ob.blk
  have hlb := u.ol.blk
  have hvT : some T ≠ vb.ownBlock := fun e => by have := (hbb T e.symm).1; omega
  have hgb := (hown.blk gb rfl).1
  have hf : Fr (fun k => k = T ∨ vb.ownBlock = some k) w (w1.setCell ⟨T, 0, none⟩ (.slice (some ⟨gb, 0, none⟩) (bs.length + 1) cap)) := (Fr.of_gb hg (fun k hk _ => Or.inr hk)).set T 0 _ (fun _ => Or.inl rfl)
  have hB : Below B0 w (w1.setCell ⟨T, 0, none⟩ (.slice (some ⟨gb, 0, none⟩) (bs.length + 1) cap)) := hf.toBelow B0 (by have := u.lt; omega) (fun k hk => by
    rcases hk with e | e
    · have := u.lt; omega
    · have := (hbb k e).1; have := u.lt; omega)
  have hBw : B0 ≤ w.heap.size := by have := u.lt; omega
  refine ⟨⟨World.cell?_setCell_same _ _ _ (gb_cell hg u.t0 hvT), so (gb_cell hg u.t1 hvT) (by decide), by rw [World.frozen?_setCell]; exact (gb_frozen hg hT hvT).trans u.f0, by rw [World.frozen?_setCell]; exact (gb_frozen hg hT hvT).trans u.f1, hown.gb (gb_set w1 T 0 _) (fun k hk e => by simp [Value.ownBlock] at hk; injection e with e; omega), hf.own u.ol (fun k hk e => ?_), u.lt, fun k hk => ⟨(u.s1 k hk).1, fun e => ?_, (u.s1 k hk).2.2⟩, fun k hk e => ?_, by simp [u.bl], fun i hi => ?_, u.ll, fun i hi => (u.lo i hi).fr_ hf (fun a ha e => ?_), fun i hi a ha => ⟨Nat.lt_of_lt_of_le (u.cb i hi a ha).1 hf.size, fun e => ?_⟩⟩, hf⟩
  · rcases e with e | e
    · have := (hlb k hk).1; omega
    · exact u.s2 k e hk
  · simp [Value.ownBlock] at e
    subst e
    rcases hl with h | h
    · exact (u.s1 _ hk).2.1 h
    · have := hc _ hk; omega
  · simp [Value.ownBlock] at hk
    subst hk
    rcases hl with h | h
    · exact u.s2 _ h e
    · have := (hlb _ e).2; omega
  · rcases getD_snoc bls bl [] i hi with ⟨h1, h2⟩ | ⟨h1, h2⟩
    · rw [h2, getD_app_left _ _ _ _ (by rw [u.bl]; exact h1)]
      exact (u.bo i h1).below hB hBw
    · rw [h2]
      have e : (bs ++ [b]).getD i dBk = b := by rw [h1, ← u.bl, getD_app_right _ _ _ _ (Nat.le_refl _), Nat.sub_self]; rfl
      rw [e]
      exact hb.below hB hBw
  · exact (u.cb i hi a ha).2 (Or.inr (e.imp id (fun h => Or.inl h)))
  · have h1 := u.cb i hi a ha
    rcases e with e | e | e | e
    · exact h1.2 (Or.inl e)
    · exact h1.2 (Or.inr (Or.inl e))
    · simp [Value.ownBlock] at e
      rcases hl with h | h
      · exact h1.2 (Or.inr (Or.inr (Or.inl (by rw [h, e]))))
      · omega
    · exact h1.2 (Or.inr (Or.inr (Or.inr e)))

/-- a look more -/
theorem Mid_.pushL (u : Mid_ B0 P T s g bls ps v vb vl bs ls w) {w1 : World} {gl cap : Nat} {x : LkD} {p : List Cel} (hc : ∀ k, chE P v k → k < w.heap.size) (hown : OwnRec LkD.v 81 6 w1 (T + 1) (.slice (some ⟨gl, 0, none⟩) (ls.length + 1) cap) (ls ++ [x])) (hg : w.grownBy w1 vl.ownBlock) (hl : vl.ownBlock = some gl ∨ w.heap.size ≤ gl) (hx : LkOk w s g ps.length p x) (hxb : ∀ a, x.ao = some a → a.block < w.heap.size ∧ ¬ busy P T v vb vl a.block) :
    Mid_ B0 P T s g bls (ps ++ [p]) v vb (.slice (some ⟨gl, 0, none⟩) (ls.length + 1) cap) bs (ls ++ [x]) (w1.setCell ⟨T, 1, none⟩ (.slice (some ⟨gl, 0, none⟩) (ls.length + 1) cap)) ∧ Fr (fun k => k = T ∨ vl.ownBlock = some k) w (w1.setCell ⟨T, 1, none⟩ (.slice (some ⟨gl, 0, none⟩) (ls.length + 1) cap)) := by
  have hT : T < w.heap.size := cell_lt u.t0
  have hbb := u.ob.blk
  have hlb := u.ol.blk
  have hvT : some T ≠ vl.ownBlock := fun e => by have := (hlb T e.symm).1; omega
  have hgl := (hown.blk gl rfl).1
  have hf : Fr (fun k => k = T ∨ vl.ownBlock = some k) w (w1.setCell ⟨T, 1, none⟩ (.slice (some ⟨gl, 0, none⟩) (ls.length + 1) cap)) := (Fr.of_gb hg (fun k hk _ => Or.inr hk)).set T 1 _ (fun _ => Or.inl rfl)
  have hB : Below B0 w (w1.setCell ⟨T, 1, none⟩ (.slice (some ⟨gl, 0, none⟩) (ls.length + 1) cap)) := hf.toBelow B0 (by have := u.lt; omega) (fun k hk => by
    rcases hk with e | e
    · have := u.lt; omega
    · have := (hlb k e).1; have := u.lt; omega)
  have hBw : B0 ≤ w.heap.size := by have := u.lt; omega
  have hnb : ∀ k, k < w.heap.size → ¬ busy P T v vb vl k → ¬ busy P T v vb (.slice (some ⟨gl, 0, none⟩) (ls.length + 1) cap) k := fun k hk hn e => by
    rcases e with e | e | e | e
    · exact hn (Or.inl e)
    · exact hn (Or.inr (Or.inl e))
    · exact hn (Or.inr (Or.inr (Or.inl e)))
    · simp [Value.ownBlock] at e
      rcases hl with h | h
      · exact hn (Or.inr (Or.inr (Or.inr (by rw [h, e]))))
      · omega
  refine ⟨⟨so (gb_cell hg u.t0 hvT) (by decide), World.cell?_setCell_same _ _ _ (gb_cell hg u.t1 hvT), by rw [World.frozen?_setCell]; exact (gb_frozen hg hT hvT).trans u.f0, by rw [World.frozen?_setCell]; exact (gb_frozen hg hT hvT).trans u.f1, hf.own u.ob (fun k hk e => ?_), hown.gb (gb_set w1 T 1 _) (fun k hk e => by simp [Value.ownBlock] at hk; injection e with e; omega), u.lt, fun k hk => ⟨(u.s1 k hk).1, (u.s1 k hk).2.1, fun e => ?_⟩, fun k hk e => ?_, u.bl, fun i hi => (u.bo i hi).below hB hBw, by simp [u.ll], fun i hi => ?_, fun i hi a ha => ?_⟩, hf⟩
  · rcases e with e | e
    · have := (hbb k hk).1; omega
    · exact u.s2 k hk e
  · simp [Value.ownBlock] at e
    subst e
    rcases hl with h | h
    · exact (u.s1 _ hk).2.2 h
    · have := hc _ hk; omega
  · simp [Value.ownBlock] at e
    subst e
    rcases hl with h | h
    · exact u.s2 _ hk h
    · have := (hbb _ hk).2; omega
  · rcases getD_snoc ps p [] i hi with ⟨h1, h2⟩ | ⟨h1, h2⟩
    · rw [h2, getD_app_left _ _ _ _ (by rw [u.ll]; exact h1)]
      exact (u.lo i h1).fr_ hf (fun a ha e => (u.cb i h1 a ha).2 (Or.inr (e.elim Or.inl (fun h => Or.inr (Or.inr h)))))
    · rw [h2]
      have e : (ls ++ [x]).getD i dLk = x := by rw [h1, ← u.ll, getD_app_right _ _ _ _ (Nat.le_refl _), Nat.sub_self]; rfl
      rw [e, h1]
      exact hx.fr_ hf (fun a ha e => (hxb a ha).2 (Or.inr (e.elim Or.inl (fun h => Or.inr (Or.inr h)))))
  · rcases getD_snoc ps p [] i hi with ⟨h1, _⟩ | ⟨h1, _⟩
    · rw [getD_app_left _ _ _ _ (by rw [u.ll]; exact h1)] at ha
      have := u.cb i h1 a ha
      exact ⟨Nat.lt_of_lt_of_le this.1 hf.size, hnb _ this.1 this.2⟩
    · have e : (ls ++ [x]).getD i dLk = x := by rw [h1, ← u.ll, getD_app_right _ _ _ _ (Nat.le_refl _), Nat.sub_self]; rfl
      rw [e] at ha
      have := hxb a ha
      exact ⟨Nat.lt_of_lt_of_le this.1 hf.size, hnb _ this.1 this.2⟩

end Go.Proofs.Ytffgpepngcnjeaa
