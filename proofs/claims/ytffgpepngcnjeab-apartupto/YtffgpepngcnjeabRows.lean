/-
  No cell of these rows narrows 'for every input' (looked for: loops, veiled, ifaces, maps, wideKeys, modest, calm, conditions, laid).
  DERIVED. THE GIVEN ROWS OF THIS SEAT. 2 by the template 'for every input the law returns true; each argument reads behind the call as it read before'; 0 by the template 'total and deterministic' (their statements: YtffgpepngcnjeabTotals.lean).
  GIVEN WITH THE SEED: the statements are not yours to turn. If you find one false, say at which input.
  Laid BY PROGRAM, IN A SANDBOX (cutbox-rows.mjs): the forced cells as the released guide's own fill.sh prints them over the translation c6ea094bf8fcedf5… (all of the seat's roots in one cut). By AI agents, Wed Nov 11 2026. No macro, syntax, notation, axiom, sorry.
-/
import Derived.Test.YtffgpepngcnjeabChecked
import GoSem.Claim
import GoSem.ClaimJoined
import GoSem.ClaimMapViews
import Derived.JoinedTies
import Derived.KernelRfl
namespace Go.Proofs.Ytffgpepngcnjeab
/- THE CELL 'sum', in the pinned program and in every row, IS THE sha256 OF THE DUMP (.gsa) THAT YtffgpepngcnjeabProg.lean LOADS. Nothing in Lean hashes anything: it is a label: what it is worth is what the hold of that sum in a sandbox is worth. -/
noncomputable def Try.pinned : Pinned := { name := "ytffgpepngcnjeab", sum := "c6ea094bf8fcedf5a7ff5d7d61608178935ca95c1eada39cee3809db75763f81", checked := Try.checked }
namespace Rows
def none {H : Type} : Left H := { results := [], args := [] }

/-- 'pursekeep.Back': WHATEVER THE INPUT: true; the input reads as it did. -/
def backSpec : ChangeSpec := { name := "back", fn := fun _ => fun
  | [d1, d2, d3, d4, d5] => { results := [.lit (.bool true)], args := [d1, d2, d3, d4, d5] }
  | _ => none }
def backRow : OpenClaim := { program := "ytffgpepngcnjeab", sum := "c6ea094bf8fcedf5a7ff5d7d61608178935ca95c1eada39cee3809db75763f81", func := "purse/pursekeep.Back", spec := "back", apart := false }
def BackSaid : Prop := backRow.holds Try.pinned (OpenSpec.ofChange backSpec)

/-- ITS FALSE NEIGHBOUR: 'it returns false'. Refute it at one input. -/
def backWrong : ChangeSpec := { name := "back", fn := fun _ => fun
  | [d1, d2, d3, d4, d5] => { results := [.lit (.bool false)], args := [d1, d2, d3, d4, d5] }
  | _ => none }
def BackWrongFalsely : Prop := backRow.holds Try.pinned (OpenSpec.ofChange backWrong)

/-- 'pursekeep.Apart': WHATEVER THE INPUT: true; the input reads as it did. -/
def apartSpec : ChangeSpec := { name := "apart", fn := fun _ => fun
  | [d1, d2, d3] => { results := [.lit (.bool true)], args := [d1, d2, d3] }
  | _ => none }
def apartRow : OpenClaim := { program := "ytffgpepngcnjeab", sum := "c6ea094bf8fcedf5a7ff5d7d61608178935ca95c1eada39cee3809db75763f81", func := "purse/pursekeep.Apart", spec := "apart", apart := false }
def ApartSaid : Prop := apartRow.holds Try.pinned (OpenSpec.ofChange apartSpec)

/-- ITS FALSE NEIGHBOUR: 'it returns false'. Refute it at one input. -/
def apartWrong : ChangeSpec := { name := "apart", fn := fun _ => fun
  | [d1, d2, d3] => { results := [.lit (.bool false)], args := [d1, d2, d3] }
  | _ => none }
def ApartWrongFalsely : Prop := apartRow.holds Try.pinned (OpenSpec.ofChange apartWrong)

/- THE SECOND FORM. 'bulk': how many values and letters a reading holds, each counted each time it is reached (what is shared counts as often as it is met; a slice's spare places count too). A statement '..UptoSaid' is the law's where the arguments, and the package variables that the reading takes, are together of bulk at most 1048576: NARROWER than '..Said'. Prove '..Said' where nothing that the law and all that it calls make is longer than what came in: it says more and counts as full. Else prove '..UptoSaid'. A law counts once. -/
mutual
def uptoBulk {H : Type} : DataW H → Nat
  | .lit (.string bytes) => bytes.length + 1
  | .lit _ => 1
  | .nil => 1
  | .ptr d => uptoBulk d + 1
  | .slice elems spare => uptoBulkAll elems + uptoBulkAll spare + 1
  | .agg parts => uptoBulkAll parts + 1
  | .iface _ d => uptoBulk d + 1
  | .map entries => uptoBulkEntries entries + 1
  | .held _ => 1
def uptoBulkAll {H : Type} : List (DataW H) → Nat
  | [] => 0
  | d :: r => uptoBulk d + uptoBulkAll r
def uptoBulkEntries {H : Type} : List (Lit × DataW H) → Nat
  | [] => 0
  | x :: r => uptoBulkEntry x + uptoBulkEntries r
def uptoBulkEntry {H : Type} : Lit × DataW H → Nat
  | (.string bytes, d) => bytes.length + uptoBulk d + 1
  | (_, d) => uptoBulk d + 1
 end
def uptoSmall : (H : Type) → List (DataW H) → Bool := fun _ ds => decide (uptoBulkAll ds ≤ 1048576)
def OpenSpec.upto (s : _root_.Go.ChangeSpec) : _root_.Go.OpenSpec := { _root_.Go.OpenSpec.ofChange s with cond := some uptoSmall }

/-- 'pursekeep.Back', WHERE WHAT IT READS IS OF BULK AT MOST 1048576: true; the input reads as it did. -/
def backUptoRow : OpenClaim := { program := "ytffgpepngcnjeab", sum := "c6ea094bf8fcedf5a7ff5d7d61608178935ca95c1eada39cee3809db75763f81", func := "purse/pursekeep.Back", spec := "back", apart := false, narrowed := true }
def BackUptoSaid : Prop := backUptoRow.holds Try.pinned (OpenSpec.upto backSpec)

/-- 'pursekeep.Apart', WHERE WHAT IT READS IS OF BULK AT MOST 1048576: true; the input reads as it did. -/
def apartUptoRow : OpenClaim := { program := "ytffgpepngcnjeab", sum := "c6ea094bf8fcedf5a7ff5d7d61608178935ca95c1eada39cee3809db75763f81", func := "purse/pursekeep.Apart", spec := "apart", apart := false, narrowed := true }
def ApartUptoSaid : Prop := apartUptoRow.holds Try.pinned (OpenSpec.upto apartSpec)

end Rows
end Go.Proofs.Ytffgpepngcnjeab
