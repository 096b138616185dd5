/-
  No cell of these rows narrows 'for every input' (looked for: loops, veiled, ifaces, maps, wideKeys, modest, calm, conditions, laid).
  DERIVED. THE GIVEN ROWS OF THIS SEAT. 7 by the template 'for every input the law returns true; each argument reads behind the call as it read before'; 0 by the template 'total and deterministic' (their statements: YtgncohclofdhmabTotals.lean).
  GIVEN WITH THE SEED: the statements are not yours to turn. If you find one false, say at which input.
  Laid BY PROGRAM, IN A SANDBOX (cutbox-rows.mjs): the forced cells as the released guide's own fill.sh prints them over the translation 28b9199538f2a597… (all of the seat's roots in one cut). By AI agents, Wed Nov 11 2026. No macro, syntax, notation, axiom, sorry.
-/
import Derived.Test.YtgncohclofdhmabChecked
import GoSem.Claim
import GoSem.ClaimJoined
import GoSem.ClaimMapViews
import Derived.JoinedTies
import Derived.KernelRfl
namespace Go.Proofs.Ytgncohclofdhmab
/- THE CELL 'sum', in the pinned program and in every row, IS THE sha256 OF THE DUMP (.gsa) THAT YtgncohclofdhmabProg.lean LOADS. Nothing in Lean hashes anything: it is a label: what it is worth is what the hold of that sum in a sandbox is worth. -/
noncomputable def Try.pinned : Pinned := { name := "ytgncohclofdhmab", sum := "28b9199538f2a59737adf4ea811a5c309109cac0af2558295f765e42f9af9d77", checked := Try.checked }
namespace Rows
def none {H : Type} : Left H := { results := [], args := [] }

/-- 'parcelkeep.Anyhow': WHATEVER THE INPUT: true; the input reads as it did. -/
def anyhowSpec : ChangeSpec := { name := "anyhow", fn := fun _ => fun
  | [d1, d2, d3] => { results := [.lit (.bool true)], args := [d1, d2, d3] }
  | _ => none }
def anyhowRow : OpenClaim := { program := "ytgncohclofdhmab", sum := "28b9199538f2a59737adf4ea811a5c309109cac0af2558295f765e42f9af9d77", func := "parcel/parcelkeep.Anyhow", spec := "anyhow", apart := false }
def AnyhowSaid : Prop := anyhowRow.holds Try.pinned (OpenSpec.ofChange anyhowSpec)

/-- ITS FALSE NEIGHBOUR: 'it returns false'. Refute it at one input. -/
def anyhowWrong : ChangeSpec := { name := "anyhow", fn := fun _ => fun
  | [d1, d2, d3] => { results := [.lit (.bool false)], args := [d1, d2, d3] }
  | _ => none }
def AnyhowWrongFalsely : Prop := anyhowRow.holds Try.pinned (OpenSpec.ofChange anyhowWrong)

/-- 'parcelkeep.Strict': WHATEVER THE INPUT: true; the input reads as it did. -/
def strictSpec : ChangeSpec := { name := "strict", fn := fun _ => fun
  | [d1, d2, d3, d4, d5, d6, d7] => { results := [.lit (.bool true)], args := [d1, d2, d3, d4, d5, d6, d7] }
  | _ => none }
def strictRow : OpenClaim := { program := "ytgncohclofdhmab", sum := "28b9199538f2a59737adf4ea811a5c309109cac0af2558295f765e42f9af9d77", func := "parcel/parcelkeep.Strict", spec := "strict", apart := false }
def StrictSaid : Prop := strictRow.holds Try.pinned (OpenSpec.ofChange strictSpec)

/-- ITS FALSE NEIGHBOUR: 'it returns false'. Refute it at one input. -/
def strictWrong : ChangeSpec := { name := "strict", fn := fun _ => fun
  | [d1, d2, d3, d4, d5, d6, d7] => { results := [.lit (.bool false)], args := [d1, d2, d3, d4, d5, d6, d7] }
  | _ => none }
def StrictWrongFalsely : Prop := strictRow.holds Try.pinned (OpenSpec.ofChange strictWrong)

/-- 'parcelkeep.Tampered': WHATEVER THE INPUT: true; the input reads as it did. -/
def tamperedSpec : ChangeSpec := { name := "tampered", fn := fun _ => fun
  | [d1, d2, d3, d4, d5, d6, d7] => { results := [.lit (.bool true)], args := [d1, d2, d3, d4, d5, d6, d7] }
  | _ => none }
def tamperedRow : OpenClaim := { program := "ytgncohclofdhmab", sum := "28b9199538f2a59737adf4ea811a5c309109cac0af2558295f765e42f9af9d77", func := "parcel/parcelkeep.Tampered", spec := "tampered", apart := false }
def TamperedSaid : Prop := tamperedRow.holds Try.pinned (OpenSpec.ofChange tamperedSpec)

/-- ITS FALSE NEIGHBOUR: 'it returns false'. Refute it at one input. -/
def tamperedWrong : ChangeSpec := { name := "tampered", fn := fun _ => fun
  | [d1, d2, d3, d4, d5, d6, d7] => { results := [.lit (.bool false)], args := [d1, d2, d3, d4, d5, d6, d7] }
  | _ => none }
def TamperedWrongFalsely : Prop := tamperedRow.holds Try.pinned (OpenSpec.ofChange tamperedWrong)

/-- 'parcelkeep.Keyed': WHATEVER THE INPUT: true; the input reads as it did. -/
def keyedSpec : ChangeSpec := { name := "keyed", fn := fun _ => fun
  | [d1, d2, d3, d4, d5, d6] => { results := [.lit (.bool true)], args := [d1, d2, d3, d4, d5, d6] }
  | _ => none }
def keyedRow : OpenClaim := { program := "ytgncohclofdhmab", sum := "28b9199538f2a59737adf4ea811a5c309109cac0af2558295f765e42f9af9d77", func := "parcel/parcelkeep.Keyed", spec := "keyed", apart := false }
def KeyedSaid : Prop := keyedRow.holds Try.pinned (OpenSpec.ofChange keyedSpec)

/-- ITS FALSE NEIGHBOUR: 'it returns false'. Refute it at one input. -/
def keyedWrong : ChangeSpec := { name := "keyed", fn := fun _ => fun
  | [d1, d2, d3, d4, d5, d6] => { results := [.lit (.bool false)], args := [d1, d2, d3, d4, d5, d6] }
  | _ => none }
def KeyedWrongFalsely : Prop := keyedRow.holds Try.pinned (OpenSpec.ofChange keyedWrong)

/-- 'parcelkeep.Laid': WHATEVER THE INPUT: true; the input reads as it did. -/
def laidSpec : ChangeSpec := { name := "laid", fn := fun _ => fun
  | [d1, d2, d3, d4, d5, d6] => { results := [.lit (.bool true)], args := [d1, d2, d3, d4, d5, d6] }
  | _ => none }
def laidRow : OpenClaim := { program := "ytgncohclofdhmab", sum := "28b9199538f2a59737adf4ea811a5c309109cac0af2558295f765e42f9af9d77", func := "parcel/parcelkeep.Laid", spec := "laid", apart := false }
def LaidSaid : Prop := laidRow.holds Try.pinned (OpenSpec.ofChange laidSpec)

/-- ITS FALSE NEIGHBOUR: 'it returns false'. Refute it at one input. -/
def laidWrong : ChangeSpec := { name := "laid", fn := fun _ => fun
  | [d1, d2, d3, d4, d5, d6] => { results := [.lit (.bool false)], args := [d1, d2, d3, d4, d5, d6] }
  | _ => none }
def LaidWrongFalsely : Prop := laidRow.holds Try.pinned (OpenSpec.ofChange laidWrong)

/-- 'parcelkeep.Undone': WHATEVER THE INPUT: true; the input reads as it did. -/
def undoneSpec : ChangeSpec := { name := "undone", fn := fun _ => fun
  | [d1, d2, d3, d4, d5, d6, d7] => { results := [.lit (.bool true)], args := [d1, d2, d3, d4, d5, d6, d7] }
  | _ => none }
def undoneRow : OpenClaim := { program := "ytgncohclofdhmab", sum := "28b9199538f2a59737adf4ea811a5c309109cac0af2558295f765e42f9af9d77", func := "parcel/parcelkeep.Undone", spec := "undone", apart := false }
def UndoneSaid : Prop := undoneRow.holds Try.pinned (OpenSpec.ofChange undoneSpec)

/-- ITS FALSE NEIGHBOUR: 'it returns false'. Refute it at one input. -/
def undoneWrong : ChangeSpec := { name := "undone", fn := fun _ => fun
  | [d1, d2, d3, d4, d5, d6, d7] => { results := [.lit (.bool false)], args := [d1, d2, d3, d4, d5, d6, d7] }
  | _ => none }
def UndoneWrongFalsely : Prop := undoneRow.holds Try.pinned (OpenSpec.ofChange undoneWrong)

/-- 'parcelkeep.Known': WHATEVER THE INPUT: true; the input reads as it did. -/
def knownSpec : ChangeSpec := { name := "known", fn := fun _ => fun
  | [d] => { results := [.lit (.bool true)], args := [d] }
  | _ => none }
def knownRow : OpenClaim := { program := "ytgncohclofdhmab", sum := "28b9199538f2a59737adf4ea811a5c309109cac0af2558295f765e42f9af9d77", func := "parcel/parcelkeep.Known", spec := "known", apart := false }
def KnownSaid : Prop := knownRow.holds Try.pinned (OpenSpec.ofChange knownSpec)

/-- ITS FALSE NEIGHBOUR: 'it returns false'. Refute it at one input. -/
def knownWrong : ChangeSpec := { name := "known", fn := fun _ => fun
  | [d] => { results := [.lit (.bool false)], args := [d] }
  | _ => none }
def KnownWrongFalsely : Prop := knownRow.holds Try.pinned (OpenSpec.ofChange knownWrong)

/- THE SECOND FORM. 'bulk': how many values and letters a reading holds, each counted each time it is reached (what is shared counts as often as it is met; a slice's spare places count too). A statement '..UptoSaid' is the law's where the arguments, and the package variables that the reading takes, are together of bulk at most 1048576: NARROWER than '..Said'. Prove '..Said' where nothing that the law and all that it calls make is longer than what came in: it says more and counts as full. Else prove '..UptoSaid'. A law counts once. -/
mutual
def uptoBulk {H : Type} : DataW H → Nat
  | .lit (.string bytes) => bytes.length + 1
  | .lit _ => 1
  | .nil => 1
  | .ptr d => uptoBulk d + 1
  | .slice elems spare => uptoBulkAll elems + uptoBulkAll spare + 1
  | .agg parts => uptoBulkAll parts + 1
  | .iface _ d => uptoBulk d + 1
  | .map entries => uptoBulkEntries entries + 1
  | .held _ => 1
def uptoBulkAll {H : Type} : List (DataW H) → Nat
  | [] => 0
  | d :: r => uptoBulk d + uptoBulkAll r
def uptoBulkEntries {H : Type} : List (Lit × DataW H) → Nat
  | [] => 0
  | x :: r => uptoBulkEntry x + uptoBulkEntries r
def uptoBulkEntry {H : Type} : Lit × DataW H → Nat
  | (.string bytes, d) => bytes.length + uptoBulk d + 1
  | (_, d) => uptoBulk d + 1
 end
def uptoSmall : (H : Type) → List (DataW H) → Bool := fun _ ds => decide (uptoBulkAll ds ≤ 1048576)
def OpenSpec.upto (s : _root_.Go.ChangeSpec) : _root_.Go.OpenSpec := { _root_.Go.OpenSpec.ofChange s with cond := some uptoSmall }

/-- 'parcelkeep.Anyhow', WHERE WHAT IT READS IS OF BULK AT MOST 1048576: true; the input reads as it did. -/
def anyhowUptoRow : OpenClaim := { program := "ytgncohclofdhmab", sum := "28b9199538f2a59737adf4ea811a5c309109cac0af2558295f765e42f9af9d77", func := "parcel/parcelkeep.Anyhow", spec := "anyhow", apart := false, narrowed := true }
def AnyhowUptoSaid : Prop := anyhowUptoRow.holds Try.pinned (OpenSpec.upto anyhowSpec)

/-- 'parcelkeep.Strict', WHERE WHAT IT READS IS OF BULK AT MOST 1048576: true; the input reads as it did. -/
def strictUptoRow : OpenClaim := { program := "ytgncohclofdhmab", sum := "28b9199538f2a59737adf4ea811a5c309109cac0af2558295f765e42f9af9d77", func := "parcel/parcelkeep.Strict", spec := "strict", apart := false, narrowed := true }
def StrictUptoSaid : Prop := strictUptoRow.holds Try.pinned (OpenSpec.upto strictSpec)

/-- 'parcelkeep.Tampered', WHERE WHAT IT READS IS OF BULK AT MOST 1048576: true; the input reads as it did. -/
def tamperedUptoRow : OpenClaim := { program := "ytgncohclofdhmab", sum := "28b9199538f2a59737adf4ea811a5c309109cac0af2558295f765e42f9af9d77", func := "parcel/parcelkeep.Tampered", spec := "tampered", apart := false, narrowed := true }
def TamperedUptoSaid : Prop := tamperedUptoRow.holds Try.pinned (OpenSpec.upto tamperedSpec)

/-- 'parcelkeep.Keyed', WHERE WHAT IT READS IS OF BULK AT MOST 1048576: true; the input reads as it did. -/
def keyedUptoRow : OpenClaim := { program := "ytgncohclofdhmab", sum := "28b9199538f2a59737adf4ea811a5c309109cac0af2558295f765e42f9af9d77", func := "parcel/parcelkeep.Keyed", spec := "keyed", apart := false, narrowed := true }
def KeyedUptoSaid : Prop := keyedUptoRow.holds Try.pinned (OpenSpec.upto keyedSpec)

/-- 'parcelkeep.Laid', WHERE WHAT IT READS IS OF BULK AT MOST 1048576: true; the input reads as it did. -/
def laidUptoRow : OpenClaim := { program := "ytgncohclofdhmab", sum := "28b9199538f2a59737adf4ea811a5c309109cac0af2558295f765e42f9af9d77", func := "parcel/parcelkeep.Laid", spec := "laid", apart := false, narrowed := true }
def LaidUptoSaid : Prop := laidUptoRow.holds Try.pinned (OpenSpec.upto laidSpec)

/-- 'parcelkeep.Undone', WHERE WHAT IT READS IS OF BULK AT MOST 1048576: true; the input reads as it did. -/
def undoneUptoRow : OpenClaim := { program := "ytgncohclofdhmab", sum := "28b9199538f2a59737adf4ea811a5c309109cac0af2558295f765e42f9af9d77", func := "parcel/parcelkeep.Undone", spec := "undone", apart := false, narrowed := true }
def UndoneUptoSaid : Prop := undoneUptoRow.holds Try.pinned (OpenSpec.upto undoneSpec)

/-- 'parcelkeep.Known', WHERE WHAT IT READS IS OF BULK AT MOST 1048576: true; the input reads as it did. -/
def knownUptoRow : OpenClaim := { program := "ytgncohclofdhmab", sum := "28b9199538f2a59737adf4ea811a5c309109cac0af2558295f765e42f9af9d77", func := "parcel/parcelkeep.Known", spec := "known", apart := false, narrowed := true }
def KnownUptoSaid : Prop := knownUptoRow.holds Try.pinned (OpenSpec.upto knownSpec)

end Rows
end Go.Proofs.Ytgncohclofdhmab
