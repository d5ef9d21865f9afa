/-
  No cell of these rows narrows 'for every input' (looked for: loops, veiled, ifaces, maps, wideKeys, modest, calm, conditions, laid).
  DERIVED. THE GIVEN ROWS OF THIS SEAT. 4 by the template 'for every input the law returns true; each argument reads behind the call as it read before'; 0 by the template 'total and deterministic' (their statements: YtffgpepngcnjeaaGreatTotals.lean).
  GIVEN WITH THE SEED: the statements are not yours to turn. If you find one false, say at which input.
  Laid BY PROGRAM, IN A SANDBOX (cutbox-rows.mjs): the forced cells as the released guide's own fill.sh prints them over the translation b27cb380818c83e6… (all of the seat's roots in one cut). By AI agents, Wed Nov 11 2026. No macro, syntax, notation, axiom, sorry.
-/
import Derived.Test.YtffgpepngcnjeaaGreatChecked
import GoSem.Claim
import GoSem.ClaimJoined
import GoSem.ClaimMapViews
import Derived.JoinedTies
import Derived.KernelRfl
namespace Go.Proofs.YtffgpepngcnjeaaGreat
/- THE CELL 'sum', in the pinned program and in every row, IS THE sha256 OF THE DUMP (.gsa) THAT YtffgpepngcnjeaaGreatProg.lean LOADS. Nothing in Lean hashes anything: it is a label: what it is worth is what the hold of that sum in a sandbox is worth. -/
noncomputable def Tryz.pinned : Pinned := { name := "ytffgpepngcnjeaagreat", sum := "b27cb380818c83e61a7c73f6dfb9cb73533558a0ac72bff342aee3446dca32cb", checked := Tryz.checked }
namespace Rows
def none {H : Type} : Left H := { results := [], args := [] }

/-- 'purselaw.Connects': WHATEVER THE INPUT: true; the input reads as it did. -/
def connectsSpec : ChangeSpec := { name := "connects", fn := fun _ => fun
  | [d1, d2, d3] => { results := [.lit (.bool true)], args := [d1, d2, d3] }
  | _ => none }
def connectsRow : OpenClaim := { program := "ytffgpepngcnjeaagreat", sum := "b27cb380818c83e61a7c73f6dfb9cb73533558a0ac72bff342aee3446dca32cb", func := "purse/purselaw.Connects", spec := "connects", apart := false }
def ConnectsSaid : Prop := connectsRow.holds Tryz.pinned (OpenSpec.ofChange connectsSpec)

/-- ITS FALSE NEIGHBOUR: 'it returns false'. Refute it at one input. -/
def connectsWrong : ChangeSpec := { name := "connects", fn := fun _ => fun
  | [d1, d2, d3] => { results := [.lit (.bool false)], args := [d1, d2, d3] }
  | _ => none }
def ConnectsWrongFalsely : Prop := connectsRow.holds Tryz.pinned (OpenSpec.ofChange connectsWrong)

/-- 'purselaw.Watches': WHATEVER THE INPUT: true; the input reads as it did. -/
def watchesSpec : ChangeSpec := { name := "watches", fn := fun _ => fun
  | [d1, d2, d3] => { results := [.lit (.bool true)], args := [d1, d2, d3] }
  | _ => none }
def watchesRow : OpenClaim := { program := "ytffgpepngcnjeaagreat", sum := "b27cb380818c83e61a7c73f6dfb9cb73533558a0ac72bff342aee3446dca32cb", func := "purse/purselaw.Watches", spec := "watches", apart := false }
def WatchesSaid : Prop := watchesRow.holds Tryz.pinned (OpenSpec.ofChange watchesSpec)

/-- ITS FALSE NEIGHBOUR: 'it returns false'. Refute it at one input. -/
def watchesWrong : ChangeSpec := { name := "watches", fn := fun _ => fun
  | [d1, d2, d3] => { results := [.lit (.bool false)], args := [d1, d2, d3] }
  | _ => none }
def WatchesWrongFalsely : Prop := watchesRow.holds Tryz.pinned (OpenSpec.ofChange watchesWrong)

/-- 'purselaw.Owns': WHATEVER THE INPUT: true; the input reads as it did. -/
def ownsSpec : ChangeSpec := { name := "owns", fn := fun _ => fun
  | [d1, d2, d3] => { results := [.lit (.bool true)], args := [d1, d2, d3] }
  | _ => none }
def ownsRow : OpenClaim := { program := "ytffgpepngcnjeaagreat", sum := "b27cb380818c83e61a7c73f6dfb9cb73533558a0ac72bff342aee3446dca32cb", func := "purse/purselaw.Owns", spec := "owns", apart := false }
def OwnsSaid : Prop := ownsRow.holds Tryz.pinned (OpenSpec.ofChange ownsSpec)

/-- ITS FALSE NEIGHBOUR: 'it returns false'. Refute it at one input. -/
def ownsWrong : ChangeSpec := { name := "owns", fn := fun _ => fun
  | [d1, d2, d3] => { results := [.lit (.bool false)], args := [d1, d2, d3] }
  | _ => none }
def OwnsWrongFalsely : Prop := ownsRow.holds Tryz.pinned (OpenSpec.ofChange ownsWrong)

/-- 'purselaw.Pays': WHATEVER THE INPUT: true; the input reads as it did. -/
def paysSpec : ChangeSpec := { name := "pays", fn := fun _ => fun
  | [d1, d2, d3] => { results := [.lit (.bool true)], args := [d1, d2, d3] }
  | _ => none }
def paysRow : OpenClaim := { program := "ytffgpepngcnjeaagreat", sum := "b27cb380818c83e61a7c73f6dfb9cb73533558a0ac72bff342aee3446dca32cb", func := "purse/purselaw.Pays", spec := "pays", apart := false }
def PaysSaid : Prop := paysRow.holds Tryz.pinned (OpenSpec.ofChange paysSpec)

/-- ITS FALSE NEIGHBOUR: 'it returns false'. Refute it at one input. -/
def paysWrong : ChangeSpec := { name := "pays", fn := fun _ => fun
  | [d1, d2, d3] => { results := [.lit (.bool false)], args := [d1, d2, d3] }
  | _ => none }
def PaysWrongFalsely : Prop := paysRow.holds Tryz.pinned (OpenSpec.ofChange paysWrong)

/- THE SECOND FORM. 'bulk': how many values and letters a reading holds, each counted each time it is reached (what is shared counts as often as it is met; a slice's spare places count too). A statement '..UptoSaid' is the law's where the arguments, and the package variables that the reading takes, are together of bulk at most 1048576: NARROWER than '..Said'. Prove '..Said' where nothing that the law and all that it calls make is longer than what came in: it says more and counts as full. Else prove '..UptoSaid'. A law counts once. -/
mutual
def uptoBulk {H : Type} : DataW H → Nat
  | .lit (.string bytes) => bytes.length + 1
  | .lit _ => 1
  | .nil => 1
  | .ptr d => uptoBulk d + 1
  | .slice elems spare => uptoBulkAll elems + uptoBulkAll spare + 1
  | .agg parts => uptoBulkAll parts + 1
  | .iface _ d => uptoBulk d + 1
  | .map entries => uptoBulkEntries entries + 1
  | .held _ => 1
def uptoBulkAll {H : Type} : List (DataW H) → Nat
  | [] => 0
  | d :: r => uptoBulk d + uptoBulkAll r
def uptoBulkEntries {H : Type} : List (Lit × DataW H) → Nat
  | [] => 0
  | x :: r => uptoBulkEntry x + uptoBulkEntries r
def uptoBulkEntry {H : Type} : Lit × DataW H → Nat
  | (.string bytes, d) => bytes.length + uptoBulk d + 1
  | (_, d) => uptoBulk d + 1
 end
def uptoSmall : (H : Type) → List (DataW H) → Bool := fun _ ds => decide (uptoBulkAll ds ≤ 1048576)
def OpenSpec.upto (s : _root_.Go.ChangeSpec) : _root_.Go.OpenSpec := { _root_.Go.OpenSpec.ofChange s with cond := some uptoSmall }

/-- 'purselaw.Connects', WHERE WHAT IT READS IS OF BULK AT MOST 1048576: true; the input reads as it did. -/
def connectsUptoRow : OpenClaim := { program := "ytffgpepngcnjeaagreat", sum := "b27cb380818c83e61a7c73f6dfb9cb73533558a0ac72bff342aee3446dca32cb", func := "purse/purselaw.Connects", spec := "connects", apart := false, narrowed := true }
def ConnectsUptoSaid : Prop := connectsUptoRow.holds Tryz.pinned (OpenSpec.upto connectsSpec)

/-- 'purselaw.Watches', WHERE WHAT IT READS IS OF BULK AT MOST 1048576: true; the input reads as it did. -/
def watchesUptoRow : OpenClaim := { program := "ytffgpepngcnjeaagreat", sum := "b27cb380818c83e61a7c73f6dfb9cb73533558a0ac72bff342aee3446dca32cb", func := "purse/purselaw.Watches", spec := "watches", apart := false, narrowed := true }
def WatchesUptoSaid : Prop := watchesUptoRow.holds Tryz.pinned (OpenSpec.upto watchesSpec)

/-- 'purselaw.Owns', WHERE WHAT IT READS IS OF BULK AT MOST 1048576: true; the input reads as it did. -/
def ownsUptoRow : OpenClaim := { program := "ytffgpepngcnjeaagreat", sum := "b27cb380818c83e61a7c73f6dfb9cb73533558a0ac72bff342aee3446dca32cb", func := "purse/purselaw.Owns", spec := "owns", apart := false, narrowed := true }
def OwnsUptoSaid : Prop := ownsUptoRow.holds Tryz.pinned (OpenSpec.upto ownsSpec)

/-- 'purselaw.Pays', WHERE WHAT IT READS IS OF BULK AT MOST 1048576: true; the input reads as it did. -/
def paysUptoRow : OpenClaim := { program := "ytffgpepngcnjeaagreat", sum := "b27cb380818c83e61a7c73f6dfb9cb73533558a0ac72bff342aee3446dca32cb", func := "purse/purselaw.Pays", spec := "pays", apart := false, narrowed := true }
def PaysUptoSaid : Prop := paysUptoRow.holds Tryz.pinned (OpenSpec.upto paysSpec)

end Rows
end Go.Proofs.YtffgpepngcnjeaaGreat
