/-
  No cell of these rows narrows 'for every input' (looked for: loops, veiled, ifaces, maps, wideKeys, modest, calm, conditions, laid).
  DERIVED. THE GIVEN ROWS OF THIS SEAT. 5 by the template 'for every input the law returns true; each argument reads behind the call as it read before'; 0 by the template 'total and deterministic' (their statements: YtffgpepngcnjeabGreatTotals.lean).
  GIVEN WITH THE SEED: the statements are not yours to turn. If you find one false, say at which input.
  Laid BY PROGRAM, IN A SANDBOX (cutbox-rows.mjs): the forced cells as the released guide's own fill.sh prints them over the translation 319c565ac3398982… (all of the seat's roots in one cut). By AI agents, Wed Nov 11 2026. No macro, syntax, notation, axiom, sorry.
-/
import Derived.Test.YtffgpepngcnjeabGreatChecked
import GoSem.Claim
import GoSem.ClaimJoined
import GoSem.ClaimMapViews
import Derived.JoinedTies
import Derived.KernelRfl
namespace Go.Proofs.YtffgpepngcnjeabGreat
/- THE CELL 'sum', in the pinned program and in every row, IS THE sha256 OF THE DUMP (.gsa) THAT YtffgpepngcnjeabGreatProg.lean LOADS. Nothing in Lean hashes anything: it is a label: what it is worth is what the hold of that sum in a sandbox is worth. -/
noncomputable def Tryz.pinned : Pinned := { name := "ytffgpepngcnjeabgreat", sum := "319c565ac33989820e273831f933c6b8e9cae37c28176d3bc95a867f784eeccc", checked := Tryz.checked }
namespace Rows
def none {H : Type} : Left H := { results := [], args := [] }

/-- 'purselaw.Signs': WHATEVER THE INPUT: true; the input reads as it did. -/
def signsSpec : ChangeSpec := { name := "signs", fn := fun _ => fun
  | [d1, d2, d3] => { results := [.lit (.bool true)], args := [d1, d2, d3] }
  | _ => none }
def signsRow : OpenClaim := { program := "ytffgpepngcnjeabgreat", sum := "319c565ac33989820e273831f933c6b8e9cae37c28176d3bc95a867f784eeccc", func := "purse/purselaw.Signs", spec := "signs", apart := false }
def SignsSaid : Prop := signsRow.holds Tryz.pinned (OpenSpec.ofChange signsSpec)

/-- ITS FALSE NEIGHBOUR: 'it returns false'. Refute it at one input. -/
def signsWrong : ChangeSpec := { name := "signs", fn := fun _ => fun
  | [d1, d2, d3] => { results := [.lit (.bool false)], args := [d1, d2, d3] }
  | _ => none }
def SignsWrongFalsely : Prop := signsRow.holds Tryz.pinned (OpenSpec.ofChange signsWrong)

/-- 'pursekeep.Accepted': WHATEVER THE INPUT: true; the input reads as it did. -/
def acceptedSpec : ChangeSpec := { name := "accepted", fn := fun _ => fun
  | [d1, d2, d3, d4, d5] => { results := [.lit (.bool true)], args := [d1, d2, d3, d4, d5] }
  | _ => none }
def acceptedRow : OpenClaim := { program := "ytffgpepngcnjeabgreat", sum := "319c565ac33989820e273831f933c6b8e9cae37c28176d3bc95a867f784eeccc", func := "purse/pursekeep.Accepted", spec := "accepted", apart := false }
def AcceptedSaid : Prop := acceptedRow.holds Tryz.pinned (OpenSpec.ofChange acceptedSpec)

/-- ITS FALSE NEIGHBOUR: 'it returns false'. Refute it at one input. -/
def acceptedWrong : ChangeSpec := { name := "accepted", fn := fun _ => fun
  | [d1, d2, d3, d4, d5] => { results := [.lit (.bool false)], args := [d1, d2, d3, d4, d5] }
  | _ => none }
def AcceptedWrongFalsely : Prop := acceptedRow.holds Tryz.pinned (OpenSpec.ofChange acceptedWrong)

/-- 'pursekeep.Once': WHATEVER THE INPUT: true; the input reads as it did. -/
def onceSpec : ChangeSpec := { name := "once", fn := fun _ => fun
  | [d1, d2, d3] => { results := [.lit (.bool true)], args := [d1, d2, d3] }
  | _ => none }
def onceRow : OpenClaim := { program := "ytffgpepngcnjeabgreat", sum := "319c565ac33989820e273831f933c6b8e9cae37c28176d3bc95a867f784eeccc", func := "purse/pursekeep.Once", spec := "once", apart := false }
def OnceSaid : Prop := onceRow.holds Tryz.pinned (OpenSpec.ofChange onceSpec)

/-- ITS FALSE NEIGHBOUR: 'it returns false'. Refute it at one input. -/
def onceWrong : ChangeSpec := { name := "once", fn := fun _ => fun
  | [d1, d2, d3] => { results := [.lit (.bool false)], args := [d1, d2, d3] }
  | _ => none }
def OnceWrongFalsely : Prop := onceRow.holds Tryz.pinned (OpenSpec.ofChange onceWrong)

/-- 'purselaw.Beside': WHATEVER THE INPUT: true; the input reads as it did. -/
def besideSpec : ChangeSpec := { name := "beside", fn := fun _ => fun
  | [d1, d2, d3, d4, d5] => { results := [.lit (.bool true)], args := [d1, d2, d3, d4, d5] }
  | _ => none }
def besideRow : OpenClaim := { program := "ytffgpepngcnjeabgreat", sum := "319c565ac33989820e273831f933c6b8e9cae37c28176d3bc95a867f784eeccc", func := "purse/purselaw.Beside", spec := "beside", apart := false }
def BesideSaid : Prop := besideRow.holds Tryz.pinned (OpenSpec.ofChange besideSpec)

/-- ITS FALSE NEIGHBOUR: 'it returns false'. Refute it at one input. -/
def besideWrong : ChangeSpec := { name := "beside", fn := fun _ => fun
  | [d1, d2, d3, d4, d5] => { results := [.lit (.bool false)], args := [d1, d2, d3, d4, d5] }
  | _ => none }
def BesideWrongFalsely : Prop := besideRow.holds Tryz.pinned (OpenSpec.ofChange besideWrong)

/-- 'purselaw.All': WHATEVER THE INPUT: true; the input reads as it did. -/
def allSpec : ChangeSpec := { name := "all", fn := fun _ => fun
  | [d1, d2, d3] => { results := [.lit (.bool true)], args := [d1, d2, d3] }
  | _ => none }
def allRow : OpenClaim := { program := "ytffgpepngcnjeabgreat", sum := "319c565ac33989820e273831f933c6b8e9cae37c28176d3bc95a867f784eeccc", func := "purse/purselaw.All", spec := "all", apart := false }
def AllSaid : Prop := allRow.holds Tryz.pinned (OpenSpec.ofChange allSpec)

/-- ITS FALSE NEIGHBOUR: 'it returns false'. Refute it at one input. -/
def allWrong : ChangeSpec := { name := "all", fn := fun _ => fun
  | [d1, d2, d3] => { results := [.lit (.bool false)], args := [d1, d2, d3] }
  | _ => none }
def AllWrongFalsely : Prop := allRow.holds Tryz.pinned (OpenSpec.ofChange allWrong)

/- THE SECOND FORM. 'bulk': how many values and letters a reading holds, each counted each time it is reached (what is shared counts as often as it is met; a slice's spare places count too). A statement '..UptoSaid' is the law's where the arguments, and the package variables that the reading takes, are together of bulk at most 1048576: NARROWER than '..Said'. Prove '..Said' where nothing that the law and all that it calls make is longer than what came in: it says more and counts as full. Else prove '..UptoSaid'. A law counts once. -/
mutual
def uptoBulk {H : Type} : DataW H → Nat
  | .lit (.string bytes) => bytes.length + 1
  | .lit _ => 1
  | .nil => 1
  | .ptr d => uptoBulk d + 1
  | .slice elems spare => uptoBulkAll elems + uptoBulkAll spare + 1
  | .agg parts => uptoBulkAll parts + 1
  | .iface _ d => uptoBulk d + 1
  | .map entries => uptoBulkEntries entries + 1
  | .held _ => 1
def uptoBulkAll {H : Type} : List (DataW H) → Nat
  | [] => 0
  | d :: r => uptoBulk d + uptoBulkAll r
def uptoBulkEntries {H : Type} : List (Lit × DataW H) → Nat
  | [] => 0
  | x :: r => uptoBulkEntry x + uptoBulkEntries r
def uptoBulkEntry {H : Type} : Lit × DataW H → Nat
  | (.string bytes, d) => bytes.length + uptoBulk d + 1
  | (_, d) => uptoBulk d + 1
 end
def uptoSmall : (H : Type) → List (DataW H) → Bool := fun _ ds => decide (uptoBulkAll ds ≤ 1048576)
def OpenSpec.upto (s : _root_.Go.ChangeSpec) : _root_.Go.OpenSpec := { _root_.Go.OpenSpec.ofChange s with cond := some uptoSmall }

/-- 'purselaw.Signs', WHERE WHAT IT READS IS OF BULK AT MOST 1048576: true; the input reads as it did. -/
def signsUptoRow : OpenClaim := { program := "ytffgpepngcnjeabgreat", sum := "319c565ac33989820e273831f933c6b8e9cae37c28176d3bc95a867f784eeccc", func := "purse/purselaw.Signs", spec := "signs", apart := false, narrowed := true }
def SignsUptoSaid : Prop := signsUptoRow.holds Tryz.pinned (OpenSpec.upto signsSpec)

/-- 'pursekeep.Accepted', WHERE WHAT IT READS IS OF BULK AT MOST 1048576: true; the input reads as it did. -/
def acceptedUptoRow : OpenClaim := { program := "ytffgpepngcnjeabgreat", sum := "319c565ac33989820e273831f933c6b8e9cae37c28176d3bc95a867f784eeccc", func := "purse/pursekeep.Accepted", spec := "accepted", apart := false, narrowed := true }
def AcceptedUptoSaid : Prop := acceptedUptoRow.holds Tryz.pinned (OpenSpec.upto acceptedSpec)

/-- 'pursekeep.Once', WHERE WHAT IT READS IS OF BULK AT MOST 1048576: true; the input reads as it did. -/
def onceUptoRow : OpenClaim := { program := "ytffgpepngcnjeabgreat", sum := "319c565ac33989820e273831f933c6b8e9cae37c28176d3bc95a867f784eeccc", func := "purse/pursekeep.Once", spec := "once", apart := false, narrowed := true }
def OnceUptoSaid : Prop := onceUptoRow.holds Tryz.pinned (OpenSpec.upto onceSpec)

/-- 'purselaw.Beside', WHERE WHAT IT READS IS OF BULK AT MOST 1048576: true; the input reads as it did. -/
def besideUptoRow : OpenClaim := { program := "ytffgpepngcnjeabgreat", sum := "319c565ac33989820e273831f933c6b8e9cae37c28176d3bc95a867f784eeccc", func := "purse/purselaw.Beside", spec := "beside", apart := false, narrowed := true }
def BesideUptoSaid : Prop := besideUptoRow.holds Tryz.pinned (OpenSpec.upto besideSpec)

/-- 'purselaw.All', WHERE WHAT IT READS IS OF BULK AT MOST 1048576: true; the input reads as it did. -/
def allUptoRow : OpenClaim := { program := "ytffgpepngcnjeabgreat", sum := "319c565ac33989820e273831f933c6b8e9cae37c28176d3bc95a867f784eeccc", func := "purse/purselaw.All", spec := "all", apart := false, narrowed := true }
def AllUptoSaid : Prop := allUptoRow.holds Tryz.pinned (OpenSpec.upto allSpec)

end Rows
end Go.Proofs.YtffgpepngcnjeabGreat
