/-
  No cell of these rows narrows 'for every input' (looked for: loops, veiled, ifaces, maps, wideKeys, modest, calm, conditions, laid).
  DERIVED. THE GIVEN ROWS OF THIS SEAT. 11 by the template 'for every input the law returns true; each argument reads behind the call as it read before'; 0 by the template 'total and deterministic' (their statements: YtgncohclofdhmaaTotals.lean).
  GIVEN WITH THE SEED: the statements are not yours to turn. If you find one false, say at which input.
  Laid BY PROGRAM, IN A SANDBOX (cutbox-rows.mjs): the forced cells as the released guide's own fill.sh prints them over the translation 00edda50f2c15d78… (all of the seat's roots in one cut). By AI agents, Wed Nov 11 2026. No macro, syntax, notation, axiom, sorry.
-/
import Derived.Test.YtgncohclofdhmaaChecked
import GoSem.Claim
import GoSem.ClaimJoined
import GoSem.ClaimMapViews
import Derived.JoinedTies
import Derived.KernelRfl
namespace Go.Proofs.Ytgncohclofdhmaa
/- THE CELL 'sum', in the pinned program and in every row, IS THE sha256 OF THE DUMP (.gsa) THAT YtgncohclofdhmaaProg.lean LOADS. Nothing in Lean hashes anything: it is a label: what it is worth is what the hold of that sum in a sandbox is worth. -/
noncomputable def Try.pinned : Pinned := { name := "ytgncohclofdhmaa", sum := "00edda50f2c15d789c33200d25391ac8bea2f998fc20c0fcf0c87087b95c5eda", checked := Try.checked }
namespace Rows
def none {H : Type} : Left H := { results := [], args := [] }

/-- 'parcellaw.Sums': WHATEVER THE INPUT: true; the input reads as it did. -/
def sumsSpec : ChangeSpec := { name := "sums", fn := fun _ => fun
  | [d1, d2] => { results := [.lit (.bool true)], args := [d1, d2] }
  | _ => none }
def sumsRow : OpenClaim := { program := "ytgncohclofdhmaa", sum := "00edda50f2c15d789c33200d25391ac8bea2f998fc20c0fcf0c87087b95c5eda", func := "parcel/parcellaw.Sums", spec := "sums", apart := false }
def SumsSaid : Prop := sumsRow.holds Try.pinned (OpenSpec.ofChange sumsSpec)

/-- ITS FALSE NEIGHBOUR: 'it returns false'. Refute it at one input. -/
def sumsWrong : ChangeSpec := { name := "sums", fn := fun _ => fun
  | [d1, d2] => { results := [.lit (.bool false)], args := [d1, d2] }
  | _ => none }
def SumsWrongFalsely : Prop := sumsRow.holds Try.pinned (OpenSpec.ofChange sumsWrong)

/-- 'parcellaw.Packs': WHATEVER THE INPUT: true; the input reads as it did. -/
def packsSpec : ChangeSpec := { name := "packs", fn := fun _ => fun
  | [d] => { results := [.lit (.bool true)], args := [d] }
  | _ => none }
def packsRow : OpenClaim := { program := "ytgncohclofdhmaa", sum := "00edda50f2c15d789c33200d25391ac8bea2f998fc20c0fcf0c87087b95c5eda", func := "parcel/parcellaw.Packs", spec := "packs", apart := false }
def PacksSaid : Prop := packsRow.holds Try.pinned (OpenSpec.ofChange packsSpec)

/-- ITS FALSE NEIGHBOUR: 'it returns false'. Refute it at one input. -/
def packsWrong : ChangeSpec := { name := "packs", fn := fun _ => fun
  | [d] => { results := [.lit (.bool false)], args := [d] }
  | _ => none }
def PacksWrongFalsely : Prop := packsRow.holds Try.pinned (OpenSpec.ofChange packsWrong)

/-- 'parcellaw.Unpacks': WHATEVER THE INPUT: true; the input reads as it did. -/
def unpacksSpec : ChangeSpec := { name := "unpacks", fn := fun _ => fun
  | [d] => { results := [.lit (.bool true)], args := [d] }
  | _ => none }
def unpacksRow : OpenClaim := { program := "ytgncohclofdhmaa", sum := "00edda50f2c15d789c33200d25391ac8bea2f998fc20c0fcf0c87087b95c5eda", func := "parcel/parcellaw.Unpacks", spec := "unpacks", apart := false }
def UnpacksSaid : Prop := unpacksRow.holds Try.pinned (OpenSpec.ofChange unpacksSpec)

/-- ITS FALSE NEIGHBOUR: 'it returns false'. Refute it at one input. -/
def unpacksWrong : ChangeSpec := { name := "unpacks", fn := fun _ => fun
  | [d] => { results := [.lit (.bool false)], args := [d] }
  | _ => none }
def UnpacksWrongFalsely : Prop := unpacksRow.holds Try.pinned (OpenSpec.ofChange unpacksWrong)

/-- 'parcellaw.Paths': WHATEVER THE INPUT: true; the input reads as it did. -/
def pathsSpec : ChangeSpec := { name := "paths", fn := fun _ => fun
  | [d] => { results := [.lit (.bool true)], args := [d] }
  | _ => none }
def pathsRow : OpenClaim := { program := "ytgncohclofdhmaa", sum := "00edda50f2c15d789c33200d25391ac8bea2f998fc20c0fcf0c87087b95c5eda", func := "parcel/parcellaw.Paths", spec := "paths", apart := false }
def PathsSaid : Prop := pathsRow.holds Try.pinned (OpenSpec.ofChange pathsSpec)

/-- ITS FALSE NEIGHBOUR: 'it returns false'. Refute it at one input. -/
def pathsWrong : ChangeSpec := { name := "paths", fn := fun _ => fun
  | [d] => { results := [.lit (.bool false)], args := [d] }
  | _ => none }
def PathsWrongFalsely : Prop := pathsRow.holds Try.pinned (OpenSpec.ofChange pathsWrong)

/-- 'parcellaw.Builds': WHATEVER THE INPUT: true; the input reads as it did. -/
def buildsSpec : ChangeSpec := { name := "builds", fn := fun _ => fun
  | [d1, d2] => { results := [.lit (.bool true)], args := [d1, d2] }
  | _ => none }
def buildsRow : OpenClaim := { program := "ytgncohclofdhmaa", sum := "00edda50f2c15d789c33200d25391ac8bea2f998fc20c0fcf0c87087b95c5eda", func := "parcel/parcellaw.Builds", spec := "builds", apart := false }
def BuildsSaid : Prop := buildsRow.holds Try.pinned (OpenSpec.ofChange buildsSpec)

/-- ITS FALSE NEIGHBOUR: 'it returns false'. Refute it at one input. -/
def buildsWrong : ChangeSpec := { name := "builds", fn := fun _ => fun
  | [d1, d2] => { results := [.lit (.bool false)], args := [d1, d2] }
  | _ => none }
def BuildsWrongFalsely : Prop := buildsRow.holds Try.pinned (OpenSpec.ofChange buildsWrong)

/-- 'parcellaw.Verifies': WHATEVER THE INPUT: true; the input reads as it did. -/
def verifiesSpec : ChangeSpec := { name := "verifies", fn := fun _ => fun
  | [d1, d2] => { results := [.lit (.bool true)], args := [d1, d2] }
  | _ => none }
def verifiesRow : OpenClaim := { program := "ytgncohclofdhmaa", sum := "00edda50f2c15d789c33200d25391ac8bea2f998fc20c0fcf0c87087b95c5eda", func := "parcel/parcellaw.Verifies", spec := "verifies", apart := false }
def VerifiesSaid : Prop := verifiesRow.holds Try.pinned (OpenSpec.ofChange verifiesSpec)

/-- ITS FALSE NEIGHBOUR: 'it returns false'. Refute it at one input. -/
def verifiesWrong : ChangeSpec := { name := "verifies", fn := fun _ => fun
  | [d1, d2] => { results := [.lit (.bool false)], args := [d1, d2] }
  | _ => none }
def VerifiesWrongFalsely : Prop := verifiesRow.holds Try.pinned (OpenSpec.ofChange verifiesWrong)

/-- 'parcellaw.Finds': WHATEVER THE INPUT: true; the input reads as it did. -/
def findsSpec : ChangeSpec := { name := "finds", fn := fun _ => fun
  | [d1, d2, d3] => { results := [.lit (.bool true)], args := [d1, d2, d3] }
  | _ => none }
def findsRow : OpenClaim := { program := "ytgncohclofdhmaa", sum := "00edda50f2c15d789c33200d25391ac8bea2f998fc20c0fcf0c87087b95c5eda", func := "parcel/parcellaw.Finds", spec := "finds", apart := false }
def FindsSaid : Prop := findsRow.holds Try.pinned (OpenSpec.ofChange findsSpec)

/-- ITS FALSE NEIGHBOUR: 'it returns false'. Refute it at one input. -/
def findsWrong : ChangeSpec := { name := "finds", fn := fun _ => fun
  | [d1, d2, d3] => { results := [.lit (.bool false)], args := [d1, d2, d3] }
  | _ => none }
def FindsWrongFalsely : Prop := findsRow.holds Try.pinned (OpenSpec.ofChange findsWrong)

/-- 'parcellaw.Replaces': WHATEVER THE INPUT: true; the input reads as it did. -/
def replacesSpec : ChangeSpec := { name := "replaces", fn := fun _ => fun
  | [d1, d2, d3] => { results := [.lit (.bool true)], args := [d1, d2, d3] }
  | _ => none }
def replacesRow : OpenClaim := { program := "ytgncohclofdhmaa", sum := "00edda50f2c15d789c33200d25391ac8bea2f998fc20c0fcf0c87087b95c5eda", func := "parcel/parcellaw.Replaces", spec := "replaces", apart := false }
def ReplacesSaid : Prop := replacesRow.holds Try.pinned (OpenSpec.ofChange replacesSpec)

/-- ITS FALSE NEIGHBOUR: 'it returns false'. Refute it at one input. -/
def replacesWrong : ChangeSpec := { name := "replaces", fn := fun _ => fun
  | [d1, d2, d3] => { results := [.lit (.bool false)], args := [d1, d2, d3] }
  | _ => none }
def ReplacesWrongFalsely : Prop := replacesRow.holds Try.pinned (OpenSpec.ofChange replacesWrong)

/-- 'parcellaw.Drops': WHATEVER THE INPUT: true; the input reads as it did. -/
def dropsSpec : ChangeSpec := { name := "drops", fn := fun _ => fun
  | [d1, d2, d3] => { results := [.lit (.bool true)], args := [d1, d2, d3] }
  | _ => none }
def dropsRow : OpenClaim := { program := "ytgncohclofdhmaa", sum := "00edda50f2c15d789c33200d25391ac8bea2f998fc20c0fcf0c87087b95c5eda", func := "parcel/parcellaw.Drops", spec := "drops", apart := false }
def DropsSaid : Prop := dropsRow.holds Try.pinned (OpenSpec.ofChange dropsSpec)

/-- ITS FALSE NEIGHBOUR: 'it returns false'. Refute it at one input. -/
def dropsWrong : ChangeSpec := { name := "drops", fn := fun _ => fun
  | [d1, d2, d3] => { results := [.lit (.bool false)], args := [d1, d2, d3] }
  | _ => none }
def DropsWrongFalsely : Prop := dropsRow.holds Try.pinned (OpenSpec.ofChange dropsWrong)

/-- 'parcelkeep.Returns': WHATEVER THE INPUT: true; the input reads as it did. -/
def returnsSpec : ChangeSpec := { name := "returns", fn := fun _ => fun
  | [d] => { results := [.lit (.bool true)], args := [d] }
  | _ => none }
def returnsRow : OpenClaim := { program := "ytgncohclofdhmaa", sum := "00edda50f2c15d789c33200d25391ac8bea2f998fc20c0fcf0c87087b95c5eda", func := "parcel/parcelkeep.Returns", spec := "returns", apart := false }
def ReturnsSaid : Prop := returnsRow.holds Try.pinned (OpenSpec.ofChange returnsSpec)

/-- ITS FALSE NEIGHBOUR: 'it returns false'. Refute it at one input. -/
def returnsWrong : ChangeSpec := { name := "returns", fn := fun _ => fun
  | [d] => { results := [.lit (.bool false)], args := [d] }
  | _ => none }
def ReturnsWrongFalsely : Prop := returnsRow.holds Try.pinned (OpenSpec.ofChange returnsWrong)

/-- 'parcelkeep.Round': WHATEVER THE INPUT: true; the input reads as it did. -/
def roundSpec : ChangeSpec := { name := "round", fn := fun _ => fun
  | [d1, d2, d3, d4, d5, d6] => { results := [.lit (.bool true)], args := [d1, d2, d3, d4, d5, d6] }
  | _ => none }
def roundRow : OpenClaim := { program := "ytgncohclofdhmaa", sum := "00edda50f2c15d789c33200d25391ac8bea2f998fc20c0fcf0c87087b95c5eda", func := "parcel/parcelkeep.Round", spec := "round", apart := false }
def RoundSaid : Prop := roundRow.holds Try.pinned (OpenSpec.ofChange roundSpec)

/-- ITS FALSE NEIGHBOUR: 'it returns false'. Refute it at one input. -/
def roundWrong : ChangeSpec := { name := "round", fn := fun _ => fun
  | [d1, d2, d3, d4, d5, d6] => { results := [.lit (.bool false)], args := [d1, d2, d3, d4, d5, d6] }
  | _ => none }
def RoundWrongFalsely : Prop := roundRow.holds Try.pinned (OpenSpec.ofChange roundWrong)

/- THE SECOND FORM. 'bulk': how many values and letters a reading holds, each counted each time it is reached (what is shared counts as often as it is met; a slice's spare places count too). A statement '..UptoSaid' is the law's where the arguments, and the package variables that the reading takes, are together of bulk at most 1048576: NARROWER than '..Said'. Prove '..Said' where nothing that the law and all that it calls make is longer than what came in: it says more and counts as full. Else prove '..UptoSaid'. A law counts once. -/
mutual
def uptoBulk {H : Type} : DataW H → Nat
  | .lit (.string bytes) => bytes.length + 1
  | .lit _ => 1
  | .nil => 1
  | .ptr d => uptoBulk d + 1
  | .slice elems spare => uptoBulkAll elems + uptoBulkAll spare + 1
  | .agg parts => uptoBulkAll parts + 1
  | .iface _ d => uptoBulk d + 1
  | .map entries => uptoBulkEntries entries + 1
  | .held _ => 1
def uptoBulkAll {H : Type} : List (DataW H) → Nat
  | [] => 0
  | d :: r => uptoBulk d + uptoBulkAll r
def uptoBulkEntries {H : Type} : List (Lit × DataW H) → Nat
  | [] => 0
  | x :: r => uptoBulkEntry x + uptoBulkEntries r
def uptoBulkEntry {H : Type} : Lit × DataW H → Nat
  | (.string bytes, d) => bytes.length + uptoBulk d + 1
  | (_, d) => uptoBulk d + 1
 end
def uptoSmall : (H : Type) → List (DataW H) → Bool := fun _ ds => decide (uptoBulkAll ds ≤ 1048576)
def OpenSpec.upto (s : _root_.Go.ChangeSpec) : _root_.Go.OpenSpec := { _root_.Go.OpenSpec.ofChange s with cond := some uptoSmall }

/-- 'parcellaw.Sums', WHERE WHAT IT READS IS OF BULK AT MOST 1048576: true; the input reads as it did. -/
def sumsUptoRow : OpenClaim := { program := "ytgncohclofdhmaa", sum := "00edda50f2c15d789c33200d25391ac8bea2f998fc20c0fcf0c87087b95c5eda", func := "parcel/parcellaw.Sums", spec := "sums", apart := false, narrowed := true }
def SumsUptoSaid : Prop := sumsUptoRow.holds Try.pinned (OpenSpec.upto sumsSpec)

/-- 'parcellaw.Packs', WHERE WHAT IT READS IS OF BULK AT MOST 1048576: true; the input reads as it did. -/
def packsUptoRow : OpenClaim := { program := "ytgncohclofdhmaa", sum := "00edda50f2c15d789c33200d25391ac8bea2f998fc20c0fcf0c87087b95c5eda", func := "parcel/parcellaw.Packs", spec := "packs", apart := false, narrowed := true }
def PacksUptoSaid : Prop := packsUptoRow.holds Try.pinned (OpenSpec.upto packsSpec)

/-- 'parcellaw.Unpacks', WHERE WHAT IT READS IS OF BULK AT MOST 1048576: true; the input reads as it did. -/
def unpacksUptoRow : OpenClaim := { program := "ytgncohclofdhmaa", sum := "00edda50f2c15d789c33200d25391ac8bea2f998fc20c0fcf0c87087b95c5eda", func := "parcel/parcellaw.Unpacks", spec := "unpacks", apart := false, narrowed := true }
def UnpacksUptoSaid : Prop := unpacksUptoRow.holds Try.pinned (OpenSpec.upto unpacksSpec)

/-- 'parcellaw.Paths', WHERE WHAT IT READS IS OF BULK AT MOST 1048576: true; the input reads as it did. -/
def pathsUptoRow : OpenClaim := { program := "ytgncohclofdhmaa", sum := "00edda50f2c15d789c33200d25391ac8bea2f998fc20c0fcf0c87087b95c5eda", func := "parcel/parcellaw.Paths", spec := "paths", apart := false, narrowed := true }
def PathsUptoSaid : Prop := pathsUptoRow.holds Try.pinned (OpenSpec.upto pathsSpec)

/-- 'parcellaw.Builds', WHERE WHAT IT READS IS OF BULK AT MOST 1048576: true; the input reads as it did. -/
def buildsUptoRow : OpenClaim := { program := "ytgncohclofdhmaa", sum := "00edda50f2c15d789c33200d25391ac8bea2f998fc20c0fcf0c87087b95c5eda", func := "parcel/parcellaw.Builds", spec := "builds", apart := false, narrowed := true }
def BuildsUptoSaid : Prop := buildsUptoRow.holds Try.pinned (OpenSpec.upto buildsSpec)

/-- 'parcellaw.Verifies', WHERE WHAT IT READS IS OF BULK AT MOST 1048576: true; the input reads as it did. -/
def verifiesUptoRow : OpenClaim := { program := "ytgncohclofdhmaa", sum := "00edda50f2c15d789c33200d25391ac8bea2f998fc20c0fcf0c87087b95c5eda", func := "parcel/parcellaw.Verifies", spec := "verifies", apart := false, narrowed := true }
def VerifiesUptoSaid : Prop := verifiesUptoRow.holds Try.pinned (OpenSpec.upto verifiesSpec)

/-- 'parcellaw.Finds', WHERE WHAT IT READS IS OF BULK AT MOST 1048576: true; the input reads as it did. -/
def findsUptoRow : OpenClaim := { program := "ytgncohclofdhmaa", sum := "00edda50f2c15d789c33200d25391ac8bea2f998fc20c0fcf0c87087b95c5eda", func := "parcel/parcellaw.Finds", spec := "finds", apart := false, narrowed := true }
def FindsUptoSaid : Prop := findsUptoRow.holds Try.pinned (OpenSpec.upto findsSpec)

/-- 'parcellaw.Replaces', WHERE WHAT IT READS IS OF BULK AT MOST 1048576: true; the input reads as it did. -/
def replacesUptoRow : OpenClaim := { program := "ytgncohclofdhmaa", sum := "00edda50f2c15d789c33200d25391ac8bea2f998fc20c0fcf0c87087b95c5eda", func := "parcel/parcellaw.Replaces", spec := "replaces", apart := false, narrowed := true }
def ReplacesUptoSaid : Prop := replacesUptoRow.holds Try.pinned (OpenSpec.upto replacesSpec)

/-- 'parcellaw.Drops', WHERE WHAT IT READS IS OF BULK AT MOST 1048576: true; the input reads as it did. -/
def dropsUptoRow : OpenClaim := { program := "ytgncohclofdhmaa", sum := "00edda50f2c15d789c33200d25391ac8bea2f998fc20c0fcf0c87087b95c5eda", func := "parcel/parcellaw.Drops", spec := "drops", apart := false, narrowed := true }
def DropsUptoSaid : Prop := dropsUptoRow.holds Try.pinned (OpenSpec.upto dropsSpec)

/-- 'parcelkeep.Returns', WHERE WHAT IT READS IS OF BULK AT MOST 1048576: true; the input reads as it did. -/
def returnsUptoRow : OpenClaim := { program := "ytgncohclofdhmaa", sum := "00edda50f2c15d789c33200d25391ac8bea2f998fc20c0fcf0c87087b95c5eda", func := "parcel/parcelkeep.Returns", spec := "returns", apart := false, narrowed := true }
def ReturnsUptoSaid : Prop := returnsUptoRow.holds Try.pinned (OpenSpec.upto returnsSpec)

/-- 'parcelkeep.Round', WHERE WHAT IT READS IS OF BULK AT MOST 1048576: true; the input reads as it did. -/
def roundUptoRow : OpenClaim := { program := "ytgncohclofdhmaa", sum := "00edda50f2c15d789c33200d25391ac8bea2f998fc20c0fcf0c87087b95c5eda", func := "parcel/parcelkeep.Round", spec := "round", apart := false, narrowed := true }
def RoundUptoSaid : Prop := roundUptoRow.holds Try.pinned (OpenSpec.upto roundSpec)

end Rows
end Go.Proofs.Ytgncohclofdhmaa
