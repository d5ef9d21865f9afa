/-
  No cell of these rows narrows 'for every input' (looked for: loops, veiled, ifaces, maps, wideKeys, modest, calm, conditions, laid).
  DERIVED. THE GIVEN ROWS OF THIS SEAT. 8 by the template 'for every input the law returns true; each argument reads behind the call as it read before'; 0 by the template 'total and deterministic' (their statements: YtffgpepngcnjeaaTotals.lean).
  GIVEN WITH THE SEED: the statements are not yours to turn. If you find one false, say at which input.
  Laid BY PROGRAM, IN A SANDBOX (cutbox-rows.mjs): the forced cells as the released guide's own fill.sh prints them over the translation 78937fc464c64763… (all of the seat's roots in one cut). By AI agents, Wed Nov 11 2026. No macro, syntax, notation, axiom, sorry.
-/
import Derived.Test.YtffgpepngcnjeaaChecked
import GoSem.Claim
import GoSem.ClaimJoined
import GoSem.ClaimMapViews
import Derived.JoinedTies
import Derived.KernelRfl
namespace Go.Proofs.Ytffgpepngcnjeaa
/- THE CELL 'sum', in the pinned program and in every row, IS THE sha256 OF THE DUMP (.gsa) THAT YtffgpepngcnjeaaProg.lean LOADS. Nothing in Lean hashes anything: it is a label: what it is worth is what the hold of that sum in a sandbox is worth. -/
noncomputable def Try.pinned : Pinned := { name := "ytffgpepngcnjeaa", sum := "78937fc464c647638e3a9b4ab05968b0f46279b3ab9567964ab48c285f7eb711", checked := Try.checked }
namespace Rows
def none {H : Type} : Left H := { results := [], args := [] }

/-- 'purselaw.Ids': WHATEVER THE INPUT: true; the input reads as it did. -/
def idsSpec : ChangeSpec := { name := "ids", fn := fun _ => fun
  | [d] => { results := [.lit (.bool true)], args := [d] }
  | _ => none }
def idsRow : OpenClaim := { program := "ytffgpepngcnjeaa", sum := "78937fc464c647638e3a9b4ab05968b0f46279b3ab9567964ab48c285f7eb711", func := "purse/purselaw.Ids", spec := "ids", apart := false }
def IdsSaid : Prop := idsRow.holds Try.pinned (OpenSpec.ofChange idsSpec)

/-- ITS FALSE NEIGHBOUR: 'it returns false'. Refute it at one input. -/
def idsWrong : ChangeSpec := { name := "ids", fn := fun _ => fun
  | [d] => { results := [.lit (.bool false)], args := [d] }
  | _ => none }
def IdsWrongFalsely : Prop := idsRow.holds Try.pinned (OpenSpec.ofChange idsWrong)

/-- 'purselaw.Keys': WHATEVER THE INPUT: true; the input reads as it did. -/
def keysSpec : ChangeSpec := { name := "keys", fn := fun _ => fun
  | [d1, d2, d3, d4, d5] => { results := [.lit (.bool true)], args := [d1, d2, d3, d4, d5] }
  | _ => none }
def keysRow : OpenClaim := { program := "ytffgpepngcnjeaa", sum := "78937fc464c647638e3a9b4ab05968b0f46279b3ab9567964ab48c285f7eb711", func := "purse/purselaw.Keys", spec := "keys", apart := false }
def KeysSaid : Prop := keysRow.holds Try.pinned (OpenSpec.ofChange keysSpec)

/-- ITS FALSE NEIGHBOUR: 'it returns false'. Refute it at one input. -/
def keysWrong : ChangeSpec := { name := "keys", fn := fun _ => fun
  | [d1, d2, d3, d4, d5] => { results := [.lit (.bool false)], args := [d1, d2, d3, d4, d5] }
  | _ => none }
def KeysWrongFalsely : Prop := keysRow.holds Try.pinned (OpenSpec.ofChange keysWrong)

/-- 'pursekeep.Tags': WHATEVER THE INPUT: true; the input reads as it did. -/
def tagsSpec : ChangeSpec := { name := "tags", fn := fun _ => fun
  | [d1, d2, d3, d4] => { results := [.lit (.bool true)], args := [d1, d2, d3, d4] }
  | _ => none }
def tagsRow : OpenClaim := { program := "ytffgpepngcnjeaa", sum := "78937fc464c647638e3a9b4ab05968b0f46279b3ab9567964ab48c285f7eb711", func := "purse/pursekeep.Tags", spec := "tags", apart := false }
def TagsSaid : Prop := tagsRow.holds Try.pinned (OpenSpec.ofChange tagsSpec)

/-- ITS FALSE NEIGHBOUR: 'it returns false'. Refute it at one input. -/
def tagsWrong : ChangeSpec := { name := "tags", fn := fun _ => fun
  | [d1, d2, d3, d4] => { results := [.lit (.bool false)], args := [d1, d2, d3, d4] }
  | _ => none }
def TagsWrongFalsely : Prop := tagsRow.holds Try.pinned (OpenSpec.ofChange tagsWrong)

/-- 'pursekeep.Opens': WHATEVER THE INPUT: true; the input reads as it did. -/
def opensSpec : ChangeSpec := { name := "opens", fn := fun _ => fun
  | [d1, d2, d3, d4, d5] => { results := [.lit (.bool true)], args := [d1, d2, d3, d4, d5] }
  | _ => none }
def opensRow : OpenClaim := { program := "ytffgpepngcnjeaa", sum := "78937fc464c647638e3a9b4ab05968b0f46279b3ab9567964ab48c285f7eb711", func := "purse/pursekeep.Opens", spec := "opens", apart := false }
def OpensSaid : Prop := opensRow.holds Try.pinned (OpenSpec.ofChange opensSpec)

/-- ITS FALSE NEIGHBOUR: 'it returns false'. Refute it at one input. -/
def opensWrong : ChangeSpec := { name := "opens", fn := fun _ => fun
  | [d1, d2, d3, d4, d5] => { results := [.lit (.bool false)], args := [d1, d2, d3, d4, d5] }
  | _ => none }
def OpensWrongFalsely : Prop := opensRow.holds Try.pinned (OpenSpec.ofChange opensWrong)

/-- 'purselaw.News': WHATEVER THE INPUT: true; the input reads as it did. -/
def newsSpec : ChangeSpec := { name := "news", fn := fun _ => fun
  | [d1, d2] => { results := [.lit (.bool true)], args := [d1, d2] }
  | _ => none }
def newsRow : OpenClaim := { program := "ytffgpepngcnjeaa", sum := "78937fc464c647638e3a9b4ab05968b0f46279b3ab9567964ab48c285f7eb711", func := "purse/purselaw.News", spec := "news", apart := false }
def NewsSaid : Prop := newsRow.holds Try.pinned (OpenSpec.ofChange newsSpec)

/-- ITS FALSE NEIGHBOUR: 'it returns false'. Refute it at one input. -/
def newsWrong : ChangeSpec := { name := "news", fn := fun _ => fun
  | [d1, d2] => { results := [.lit (.bool false)], args := [d1, d2] }
  | _ => none }
def NewsWrongFalsely : Prop := newsRow.holds Try.pinned (OpenSpec.ofChange newsWrong)

/-- 'pursekeep.Undone': WHATEVER THE INPUT: true; the input reads as it did. -/
def undoneSpec : ChangeSpec := { name := "undone", fn := fun _ => fun
  | [d1, d2, d3] => { results := [.lit (.bool true)], args := [d1, d2, d3] }
  | _ => none }
def undoneRow : OpenClaim := { program := "ytffgpepngcnjeaa", sum := "78937fc464c647638e3a9b4ab05968b0f46279b3ab9567964ab48c285f7eb711", func := "purse/pursekeep.Undone", spec := "undone", apart := false }
def UndoneSaid : Prop := undoneRow.holds Try.pinned (OpenSpec.ofChange undoneSpec)

/-- ITS FALSE NEIGHBOUR: 'it returns false'. Refute it at one input. -/
def undoneWrong : ChangeSpec := { name := "undone", fn := fun _ => fun
  | [d1, d2, d3] => { results := [.lit (.bool false)], args := [d1, d2, d3] }
  | _ => none }
def UndoneWrongFalsely : Prop := undoneRow.holds Try.pinned (OpenSpec.ofChange undoneWrong)

/-- 'pursekeep.Found': WHATEVER THE INPUT: true; the input reads as it did. -/
def foundSpec : ChangeSpec := { name := "found", fn := fun _ => fun
  | [d1, d2, d3, d4, d5] => { results := [.lit (.bool true)], args := [d1, d2, d3, d4, d5] }
  | _ => none }
def foundRow : OpenClaim := { program := "ytffgpepngcnjeaa", sum := "78937fc464c647638e3a9b4ab05968b0f46279b3ab9567964ab48c285f7eb711", func := "purse/pursekeep.Found", spec := "found", apart := false }
def FoundSaid : Prop := foundRow.holds Try.pinned (OpenSpec.ofChange foundSpec)

/-- ITS FALSE NEIGHBOUR: 'it returns false'. Refute it at one input. -/
def foundWrong : ChangeSpec := { name := "found", fn := fun _ => fun
  | [d1, d2, d3, d4, d5] => { results := [.lit (.bool false)], args := [d1, d2, d3, d4, d5] }
  | _ => none }
def FoundWrongFalsely : Prop := foundRow.holds Try.pinned (OpenSpec.ofChange foundWrong)

/-- 'pursekeep.Funds': WHATEVER THE INPUT: true; the input reads as it did. -/
def fundsSpec : ChangeSpec := { name := "funds", fn := fun _ => fun
  | [d1, d2, d3, d4, d5] => { results := [.lit (.bool true)], args := [d1, d2, d3, d4, d5] }
  | _ => none }
def fundsRow : OpenClaim := { program := "ytffgpepngcnjeaa", sum := "78937fc464c647638e3a9b4ab05968b0f46279b3ab9567964ab48c285f7eb711", func := "purse/pursekeep.Funds", spec := "funds", apart := false }
def FundsSaid : Prop := fundsRow.holds Try.pinned (OpenSpec.ofChange fundsSpec)

/-- ITS FALSE NEIGHBOUR: 'it returns false'. Refute it at one input. -/
def fundsWrong : ChangeSpec := { name := "funds", fn := fun _ => fun
  | [d1, d2, d3, d4, d5] => { results := [.lit (.bool false)], args := [d1, d2, d3, d4, d5] }
  | _ => none }
def FundsWrongFalsely : Prop := fundsRow.holds Try.pinned (OpenSpec.ofChange fundsWrong)

/- THE SECOND FORM. 'bulk': how many values and letters a reading holds, each counted each time it is reached (what is shared counts as often as it is met; a slice's spare places count too). A statement '..UptoSaid' is the law's where the arguments, and the package variables that the reading takes, are together of bulk at most 1048576: NARROWER than '..Said'. Prove '..Said' where nothing that the law and all that it calls make is longer than what came in: it says more and counts as full. Else prove '..UptoSaid'. A law counts once. -/
mutual
def uptoBulk {H : Type} : DataW H → Nat
  | .lit (.string bytes) => bytes.length + 1
  | .lit _ => 1
  | .nil => 1
  | .ptr d => uptoBulk d + 1
  | .slice elems spare => uptoBulkAll elems + uptoBulkAll spare + 1
  | .agg parts => uptoBulkAll parts + 1
  | .iface _ d => uptoBulk d + 1
  | .map entries => uptoBulkEntries entries + 1
  | .held _ => 1
def uptoBulkAll {H : Type} : List (DataW H) → Nat
  | [] => 0
  | d :: r => uptoBulk d + uptoBulkAll r
def uptoBulkEntries {H : Type} : List (Lit × DataW H) → Nat
  | [] => 0
  | x :: r => uptoBulkEntry x + uptoBulkEntries r
def uptoBulkEntry {H : Type} : Lit × DataW H → Nat
  | (.string bytes, d) => bytes.length + uptoBulk d + 1
  | (_, d) => uptoBulk d + 1
 end
def uptoSmall : (H : Type) → List (DataW H) → Bool := fun _ ds => decide (uptoBulkAll ds ≤ 1048576)
def OpenSpec.upto (s : _root_.Go.ChangeSpec) : _root_.Go.OpenSpec := { _root_.Go.OpenSpec.ofChange s with cond := some uptoSmall }

/-- 'purselaw.Ids', WHERE WHAT IT READS IS OF BULK AT MOST 1048576: true; the input reads as it did. -/
def idsUptoRow : OpenClaim := { program := "ytffgpepngcnjeaa", sum := "78937fc464c647638e3a9b4ab05968b0f46279b3ab9567964ab48c285f7eb711", func := "purse/purselaw.Ids", spec := "ids", apart := false, narrowed := true }
def IdsUptoSaid : Prop := idsUptoRow.holds Try.pinned (OpenSpec.upto idsSpec)

/-- 'purselaw.Keys', WHERE WHAT IT READS IS OF BULK AT MOST 1048576: true; the input reads as it did. -/
def keysUptoRow : OpenClaim := { program := "ytffgpepngcnjeaa", sum := "78937fc464c647638e3a9b4ab05968b0f46279b3ab9567964ab48c285f7eb711", func := "purse/purselaw.Keys", spec := "keys", apart := false, narrowed := true }
def KeysUptoSaid : Prop := keysUptoRow.holds Try.pinned (OpenSpec.upto keysSpec)

/-- 'pursekeep.Tags', WHERE WHAT IT READS IS OF BULK AT MOST 1048576: true; the input reads as it did. -/
def tagsUptoRow : OpenClaim := { program := "ytffgpepngcnjeaa", sum := "78937fc464c647638e3a9b4ab05968b0f46279b3ab9567964ab48c285f7eb711", func := "purse/pursekeep.Tags", spec := "tags", apart := false, narrowed := true }
def TagsUptoSaid : Prop := tagsUptoRow.holds Try.pinned (OpenSpec.upto tagsSpec)

/-- 'pursekeep.Opens', WHERE WHAT IT READS IS OF BULK AT MOST 1048576: true; the input reads as it did. -/
def opensUptoRow : OpenClaim := { program := "ytffgpepngcnjeaa", sum := "78937fc464c647638e3a9b4ab05968b0f46279b3ab9567964ab48c285f7eb711", func := "purse/pursekeep.Opens", spec := "opens", apart := false, narrowed := true }
def OpensUptoSaid : Prop := opensUptoRow.holds Try.pinned (OpenSpec.upto opensSpec)

/-- 'purselaw.News', WHERE WHAT IT READS IS OF BULK AT MOST 1048576: true; the input reads as it did. -/
def newsUptoRow : OpenClaim := { program := "ytffgpepngcnjeaa", sum := "78937fc464c647638e3a9b4ab05968b0f46279b3ab9567964ab48c285f7eb711", func := "purse/purselaw.News", spec := "news", apart := false, narrowed := true }
def NewsUptoSaid : Prop := newsUptoRow.holds Try.pinned (OpenSpec.upto newsSpec)

/-- 'pursekeep.Undone', WHERE WHAT IT READS IS OF BULK AT MOST 1048576: true; the input reads as it did. -/
def undoneUptoRow : OpenClaim := { program := "ytffgpepngcnjeaa", sum := "78937fc464c647638e3a9b4ab05968b0f46279b3ab9567964ab48c285f7eb711", func := "purse/pursekeep.Undone", spec := "undone", apart := false, narrowed := true }
def UndoneUptoSaid : Prop := undoneUptoRow.holds Try.pinned (OpenSpec.upto undoneSpec)

/-- 'pursekeep.Found', WHERE WHAT IT READS IS OF BULK AT MOST 1048576: true; the input reads as it did. -/
def foundUptoRow : OpenClaim := { program := "ytffgpepngcnjeaa", sum := "78937fc464c647638e3a9b4ab05968b0f46279b3ab9567964ab48c285f7eb711", func := "purse/pursekeep.Found", spec := "found", apart := false, narrowed := true }
def FoundUptoSaid : Prop := foundUptoRow.holds Try.pinned (OpenSpec.upto foundSpec)

/-- 'pursekeep.Funds', WHERE WHAT IT READS IS OF BULK AT MOST 1048576: true; the input reads as it did. -/
def fundsUptoRow : OpenClaim := { program := "ytffgpepngcnjeaa", sum := "78937fc464c647638e3a9b4ab05968b0f46279b3ab9567964ab48c285f7eb711", func := "purse/pursekeep.Funds", spec := "funds", apart := false, narrowed := true }
def FundsUptoSaid : Prop := fundsUptoRow.holds Try.pinned (OpenSpec.upto fundsSpec)

end Rows
end Go.Proofs.Ytffgpepngcnjeaa
