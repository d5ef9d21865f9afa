/-
  The plain mathematics of marks: mix, turn, digits, secrets. Nothing of the program in it.
-/
namespace Go.Proofs.Ytffgpepngcnjeaa.Mk

def mx (h x : Int) : Int := (1009 * h + x) % 99991
def tn (x : Int) : Int := (x * x + 7) % 99991
def tnN (x : Int) : Nat → Int
  | 0 => x
  | n + 1 => tn (tnN x n)
def sec (s b i : Int) (j : Nat) : Int := tn (mx (mx (mx s b) i) (j : Int))
def d0 (id : Int) : Int := id / 64 % 8
def d1 (id : Int) : Int := id / 8 % 8
def d2 (id : Int) : Int := id % 8
def lk (id : Int) : Int := 21 - d0 id - d1 id - d2 id
/-- the j-th digit of an id -/
def dg (id : Int) : Nat → Int
  | 0 => d0 id
  | 1 => d1 id
  | 2 => d2 id
  | 3 => lk id / 8
  | _ => lk id % 8
def mixL (h : Int) : List Int → Int
  | [] => h
  | x :: r => mixL (mx h x) r
def isM (x : Int) : Bool := decide (0 ≤ x ∧ x < 99991)
def isK (s b i : Int) : Bool := decide ((b = 0 ∨ b = 1) ∧ (0 ≤ i ∧ i < 100) ∧ (0 ≤ s ∧ s < 99991))
def adr (s b i : Int) : Int := mixL 1 ((List.range 5).map fun j => tnN (sec s b i j) 7)
def sealL (s b i id : Int) : List Int := (List.range 5).map fun j => tnN (sec s b i j) (dg id j).toNat
def opn (id : Int) (l : List Int) : Int := mixL 1 ((List.range 5).map fun j => tnN (l.getD j 0) (7 - dg id j).toNat)

theorem mx_bd (h x : Int) : 0 ≤ mx h x ∧ mx h x < 99991 := by unfold mx; omega
theorem tn_bd (x : Int) : 0 ≤ tn x ∧ tn x < 99991 := by unfold tn; omega
theorem tnN_bd (x : Int) (h0 : 0 ≤ x) (h1 : x < 99991) (n : Nat) : 0 ≤ tnN x n ∧ tnN x n < 99991 := by
  cases n with
  | zero => exact ⟨h0, h1⟩
  | succ n => exact tn_bd _
theorem tnN_add (x : Int) (a b : Nat) : tnN (tnN x a) b = tnN x (a + b) := by
  induction b with
  | zero => rfl
  | succ b ih => show tn (tnN (tnN x a) b) = tn (tnN x (a + b)); rw [ih]
theorem sec_bd (s b i : Int) (j : Nat) : 0 ≤ sec s b i j ∧ sec s b i j < 99991 := tn_bd _
theorem d_bd (id : Int) : (0 ≤ d0 id ∧ d0 id ≤ 7) ∧ (0 ≤ d1 id ∧ d1 id ≤ 7) ∧ (0 ≤ d2 id ∧ d2 id ≤ 7) ∧ (0 ≤ lk id ∧ lk id ≤ 21) := by
  unfold lk d0 d1 d2; omega
theorem dg_bd (id : Int) (j : Nat) : 0 ≤ dg id j ∧ dg id j ≤ 7 := by
  have h := d_bd id
  unfold dg
  split <;> omega
theorem dg_same (a b : Int) (h : a % 512 = b % 512) (j : Nat) : dg a j = dg b j := by
  have e0 : d0 a = d0 b := by unfold d0; omega
  have e1 : d1 a = d1 b := by unfold d1; omega
  have e2 : d2 a = d2 b := by unfold d2; omega
  have e3 : lk a = lk b := by unfold lk; rw [e0, e1, e2]
  unfold dg
  split <;> simp [e0, e1, e2, e3]
theorem mixL_bd (h : Int) (l : List Int) (h0 : 0 ≤ h) (h1 : h < 99991) : 0 ≤ mixL h l ∧ mixL h l < 99991 := by
  induction l generalizing h with
  | nil => exact ⟨h0, h1⟩
  | cons x r ih => exact ih _ (mx_bd h x).1 (mx_bd h x).2
theorem mixL_append (h : Int) (l r : List Int) : mixL h (l ++ r) = mixL (mixL h l) r := by
  induction l generalizing h with
  | nil => rfl
  | cons x l ih => exact ih _
theorem adr_bd (s b i : Int) : 0 ≤ adr s b i ∧ adr s b i < 99991 := mixL_bd _ _ (by decide) (by decide)
theorem sealL_len (s b i id : Int) : (sealL s b i id).length = 5 := by simp [sealL]
theorem sealL_at (s b i id : Int) (j : Nat) (h : j < 5) : (sealL s b i id).getD j 0 = tnN (sec s b i j) (dg id j).toNat := by
  simp [sealL, List.getD, h]
theorem sealL_bd (s b i id : Int) : ∀ x ∈ sealL s b i id, 0 ≤ x ∧ x < 99991 := by
  intro x hx
  obtain ⟨j, _, rfl⟩ := List.mem_map.1 hx
  exact tnN_bd _ (sec_bd s b i j).1 (sec_bd s b i j).2 _
/-- the seal of a key for an id opens, for every id of the same rest, to the key's address -/
theorem opn_seal (s b i id id' : Int) (h : id' % 512 = id % 512) : opn id' (sealL s b i id) = adr s b i := by
  unfold opn adr
  congr 1
  apply List.map_congr_left
  intro j hj
  have hj5 : j < 5 := by simpa using hj
  rw [sealL_at s b i id j hj5, tnN_add, dg_same id' id h j]
  have := dg_bd id j
  congr 1
  omega
theorem isM_iff (x : Int) : isM x = true ↔ (0 ≤ x ∧ x < 99991) := by simp [isM]
theorem isM_no (x : Int) : isM x = false ↔ (x < 0 ∨ 99991 ≤ x) := by
  unfold isM; rw [decide_eq_false_iff_not]; omega

/-- which of n things the raw number c speaks of -/
def pk (c n : Int) : Int := (if c < 0 then -(c + 1) else c) % n
theorem pk_bd (c n : Int) (h : 1 ≤ n) : 0 ≤ pk c n ∧ pk c n < n := by
  unfold pk
  exact ⟨Int.emod_nonneg _ (by omega), Int.emod_lt_of_pos _ (by omega)⟩

end Go.Proofs.Ytffgpepngcnjeaa.Mk
