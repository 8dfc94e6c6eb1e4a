/-
  No cell of these rows narrows 'for every input' (looked for: loops, veiled, ifaces, maps, wideKeys, modest, calm, conditions, laid).
  DERIVED. THE GIVEN ROWS OF THIS SEAT. 6 by the template 'for every input the law returns true; each argument reads behind the call as it read before'; 0 by the template 'total and deterministic' (their statements: YtdiecopmfdfjcaaTotals.lean).
  GIVEN WITH THE SEED: the statements are not yours to turn. If you find one false, say at which input.
  Laid BY PROGRAM, IN A SANDBOX (cutbox-rows.mjs): the forced cells as the released guide's own fill.sh prints them over the translation c6285784f243ccd2… (all of the seat's roots in one cut). By AI agents, Wed Nov 11 2026. No macro, syntax, notation, axiom, sorry.
-/
import Derived.Test.YtdiecopmfdfjcaaChecked
import GoSem.Claim
import GoSem.ClaimJoined
import GoSem.ClaimMapViews
import Derived.JoinedTies
import Derived.KernelRfl
namespace Go.Proofs.Ytdiecopmfdfjcaa
/- THE CELL 'sum', in the pinned program and in every row, IS THE sha256 OF THE DUMP (.gsa) THAT YtdiecopmfdfjcaaProg.lean LOADS. Nothing in Lean hashes anything: it is a label: what it is worth is what the hold of that sum in a sandbox is worth. -/
noncomputable def Try.pinned : Pinned := { name := "ytdiecopmfdfjcaa", sum := "c6285784f243ccd2ecce0005efa274d416762e16c2f0019c35c0a73fefc1c260", checked := Try.checked }
namespace Rows
def none {H : Type} : Left H := { results := [], args := [] }

/-- 'cracknellaw02.DecPrints': WHATEVER THE INPUT: true; the input reads as it did. -/
def decPrintsSpec : ChangeSpec := { name := "decPrints", fn := fun _ => fun
  | [d] => { results := [.lit (.bool true)], args := [d] }
  | _ => none }
def decPrintsRow : OpenClaim := { program := "ytdiecopmfdfjcaa", sum := "c6285784f243ccd2ecce0005efa274d416762e16c2f0019c35c0a73fefc1c260", func := "cracknel/cracknellaw02.DecPrints", spec := "decPrints", apart := false }
def DecPrintsSaid : Prop := decPrintsRow.holds Try.pinned (OpenSpec.ofChange decPrintsSpec)

/-- ITS FALSE NEIGHBOUR: 'it returns false'. Refute it at one input. -/
def decPrintsWrong : ChangeSpec := { name := "decPrints", fn := fun _ => fun
  | [d] => { results := [.lit (.bool false)], args := [d] }
  | _ => none }
def DecPrintsWrongFalsely : Prop := decPrintsRow.holds Try.pinned (OpenSpec.ofChange decPrintsWrong)

/-- 'cracknellaw02.DecReads': WHATEVER THE INPUT: true; the input reads as it did. -/
def decReadsSpec : ChangeSpec := { name := "decReads", fn := fun _ => fun
  | [d] => { results := [.lit (.bool true)], args := [d] }
  | _ => none }
def decReadsRow : OpenClaim := { program := "ytdiecopmfdfjcaa", sum := "c6285784f243ccd2ecce0005efa274d416762e16c2f0019c35c0a73fefc1c260", func := "cracknel/cracknellaw02.DecReads", spec := "decReads", apart := false }
def DecReadsSaid : Prop := decReadsRow.holds Try.pinned (OpenSpec.ofChange decReadsSpec)

/-- ITS FALSE NEIGHBOUR: 'it returns false'. Refute it at one input. -/
def decReadsWrong : ChangeSpec := { name := "decReads", fn := fun _ => fun
  | [d] => { results := [.lit (.bool false)], args := [d] }
  | _ => none }
def DecReadsWrongFalsely : Prop := decReadsRow.holds Try.pinned (OpenSpec.ofChange decReadsWrong)

/-- 'cracknellaw02.DecFixed': WHATEVER THE INPUT: true; the input reads as it did. -/
def decFixedSpec : ChangeSpec := { name := "decFixed", fn := fun _ => fun
  | [d1, d2] => { results := [.lit (.bool true)], args := [d1, d2] }
  | _ => none }
def decFixedRow : OpenClaim := { program := "ytdiecopmfdfjcaa", sum := "c6285784f243ccd2ecce0005efa274d416762e16c2f0019c35c0a73fefc1c260", func := "cracknel/cracknellaw02.DecFixed", spec := "decFixed", apart := false }
def DecFixedSaid : Prop := decFixedRow.holds Try.pinned (OpenSpec.ofChange decFixedSpec)

/-- ITS FALSE NEIGHBOUR: 'it returns false'. Refute it at one input. -/
def decFixedWrong : ChangeSpec := { name := "decFixed", fn := fun _ => fun
  | [d1, d2] => { results := [.lit (.bool false)], args := [d1, d2] }
  | _ => none }
def DecFixedWrongFalsely : Prop := decFixedRow.holds Try.pinned (OpenSpec.ofChange decFixedWrong)

/-- 'cracknellaw02.DecUnfixed': WHATEVER THE INPUT: true; the input reads as it did. -/
def decUnfixedSpec : ChangeSpec := { name := "decUnfixed", fn := fun _ => fun
  | [d] => { results := [.lit (.bool true)], args := [d] }
  | _ => none }
def decUnfixedRow : OpenClaim := { program := "ytdiecopmfdfjcaa", sum := "c6285784f243ccd2ecce0005efa274d416762e16c2f0019c35c0a73fefc1c260", func := "cracknel/cracknellaw02.DecUnfixed", spec := "decUnfixed", apart := false }
def DecUnfixedSaid : Prop := decUnfixedRow.holds Try.pinned (OpenSpec.ofChange decUnfixedSpec)

/-- ITS FALSE NEIGHBOUR: 'it returns false'. Refute it at one input. -/
def decUnfixedWrong : ChangeSpec := { name := "decUnfixed", fn := fun _ => fun
  | [d] => { results := [.lit (.bool false)], args := [d] }
  | _ => none }
def DecUnfixedWrongFalsely : Prop := decUnfixedRow.holds Try.pinned (OpenSpec.ofChange decUnfixedWrong)

/-- 'cracknellaw02.DecOrders': WHATEVER THE INPUT: true; the input reads as it did. -/
def decOrdersSpec : ChangeSpec := { name := "decOrders", fn := fun _ => fun
  | [d1, d2, d3] => { results := [.lit (.bool true)], args := [d1, d2, d3] }
  | _ => none }
def decOrdersRow : OpenClaim := { program := "ytdiecopmfdfjcaa", sum := "c6285784f243ccd2ecce0005efa274d416762e16c2f0019c35c0a73fefc1c260", func := "cracknel/cracknellaw02.DecOrders", spec := "decOrders", apart := false }
def DecOrdersSaid : Prop := decOrdersRow.holds Try.pinned (OpenSpec.ofChange decOrdersSpec)

/-- ITS FALSE NEIGHBOUR: 'it returns false'. Refute it at one input. -/
def decOrdersWrong : ChangeSpec := { name := "decOrders", fn := fun _ => fun
  | [d1, d2, d3] => { results := [.lit (.bool false)], args := [d1, d2, d3] }
  | _ => none }
def DecOrdersWrongFalsely : Prop := decOrdersRow.holds Try.pinned (OpenSpec.ofChange decOrdersWrong)

/-- 'cracknellaw02.DecJoins': WHATEVER THE INPUT: true; the input reads as it did. -/
def decJoinsSpec : ChangeSpec := { name := "decJoins", fn := fun _ => fun
  | [d1, d2, d3] => { results := [.lit (.bool true)], args := [d1, d2, d3] }
  | _ => none }
def decJoinsRow : OpenClaim := { program := "ytdiecopmfdfjcaa", sum := "c6285784f243ccd2ecce0005efa274d416762e16c2f0019c35c0a73fefc1c260", func := "cracknel/cracknellaw02.DecJoins", spec := "decJoins", apart := false }
def DecJoinsSaid : Prop := decJoinsRow.holds Try.pinned (OpenSpec.ofChange decJoinsSpec)

/-- ITS FALSE NEIGHBOUR: 'it returns false'. Refute it at one input. -/
def decJoinsWrong : ChangeSpec := { name := "decJoins", fn := fun _ => fun
  | [d1, d2, d3] => { results := [.lit (.bool false)], args := [d1, d2, d3] }
  | _ => none }
def DecJoinsWrongFalsely : Prop := decJoinsRow.holds Try.pinned (OpenSpec.ofChange decJoinsWrong)

/- THE SECOND FORM. 'bulk': how many values and letters a reading holds, each counted each time it is reached (what is shared counts as often as it is met; a slice's spare places count too). A statement '..UptoSaid' is the law's where the arguments, and the package variables that the reading takes, are together of bulk at most 1048576: NARROWER than '..Said'. Prove '..Said' where nothing that the law and all that it calls make is longer than what came in: it says more and counts as full. Else prove '..UptoSaid'. A law counts once. -/
mutual
def uptoBulk {H : Type} : DataW H → Nat
  | .lit (.string bytes) => bytes.length + 1
  | .lit _ => 1
  | .nil => 1
  | .ptr d => uptoBulk d + 1
  | .slice elems spare => uptoBulkAll elems + uptoBulkAll spare + 1
  | .agg parts => uptoBulkAll parts + 1
  | .iface _ d => uptoBulk d + 1
  | .map entries => uptoBulkEntries entries + 1
  | .held _ => 1
def uptoBulkAll {H : Type} : List (DataW H) → Nat
  | [] => 0
  | d :: r => uptoBulk d + uptoBulkAll r
def uptoBulkEntries {H : Type} : List (Lit × DataW H) → Nat
  | [] => 0
  | x :: r => uptoBulkEntry x + uptoBulkEntries r
def uptoBulkEntry {H : Type} : Lit × DataW H → Nat
  | (.string bytes, d) => bytes.length + uptoBulk d + 1
  | (_, d) => uptoBulk d + 1
 end
def uptoSmall : (H : Type) → List (DataW H) → Bool := fun _ ds => decide (uptoBulkAll ds ≤ 1048576)
def OpenSpec.upto (s : _root_.Go.ChangeSpec) : _root_.Go.OpenSpec := { _root_.Go.OpenSpec.ofChange s with cond := some uptoSmall }

/-- 'cracknellaw02.DecPrints', WHERE WHAT IT READS IS OF BULK AT MOST 1048576: true; the input reads as it did. -/
def decPrintsUptoRow : OpenClaim := { program := "ytdiecopmfdfjcaa", sum := "c6285784f243ccd2ecce0005efa274d416762e16c2f0019c35c0a73fefc1c260", func := "cracknel/cracknellaw02.DecPrints", spec := "decPrints", apart := false, narrowed := true }
def DecPrintsUptoSaid : Prop := decPrintsUptoRow.holds Try.pinned (OpenSpec.upto decPrintsSpec)

/-- 'cracknellaw02.DecReads', WHERE WHAT IT READS IS OF BULK AT MOST 1048576: true; the input reads as it did. -/
def decReadsUptoRow : OpenClaim := { program := "ytdiecopmfdfjcaa", sum := "c6285784f243ccd2ecce0005efa274d416762e16c2f0019c35c0a73fefc1c260", func := "cracknel/cracknellaw02.DecReads", spec := "decReads", apart := false, narrowed := true }
def DecReadsUptoSaid : Prop := decReadsUptoRow.holds Try.pinned (OpenSpec.upto decReadsSpec)

/-- 'cracknellaw02.DecFixed', WHERE WHAT IT READS IS OF BULK AT MOST 1048576: true; the input reads as it did. -/
def decFixedUptoRow : OpenClaim := { program := "ytdiecopmfdfjcaa", sum := "c6285784f243ccd2ecce0005efa274d416762e16c2f0019c35c0a73fefc1c260", func := "cracknel/cracknellaw02.DecFixed", spec := "decFixed", apart := false, narrowed := true }
def DecFixedUptoSaid : Prop := decFixedUptoRow.holds Try.pinned (OpenSpec.upto decFixedSpec)

/-- 'cracknellaw02.DecUnfixed', WHERE WHAT IT READS IS OF BULK AT MOST 1048576: true; the input reads as it did. -/
def decUnfixedUptoRow : OpenClaim := { program := "ytdiecopmfdfjcaa", sum := "c6285784f243ccd2ecce0005efa274d416762e16c2f0019c35c0a73fefc1c260", func := "cracknel/cracknellaw02.DecUnfixed", spec := "decUnfixed", apart := false, narrowed := true }
def DecUnfixedUptoSaid : Prop := decUnfixedUptoRow.holds Try.pinned (OpenSpec.upto decUnfixedSpec)

/-- 'cracknellaw02.DecOrders', WHERE WHAT IT READS IS OF BULK AT MOST 1048576: true; the input reads as it did. -/
def decOrdersUptoRow : OpenClaim := { program := "ytdiecopmfdfjcaa", sum := "c6285784f243ccd2ecce0005efa274d416762e16c2f0019c35c0a73fefc1c260", func := "cracknel/cracknellaw02.DecOrders", spec := "decOrders", apart := false, narrowed := true }
def DecOrdersUptoSaid : Prop := decOrdersUptoRow.holds Try.pinned (OpenSpec.upto decOrdersSpec)

/-- 'cracknellaw02.DecJoins', WHERE WHAT IT READS IS OF BULK AT MOST 1048576: true; the input reads as it did. -/
def decJoinsUptoRow : OpenClaim := { program := "ytdiecopmfdfjcaa", sum := "c6285784f243ccd2ecce0005efa274d416762e16c2f0019c35c0a73fefc1c260", func := "cracknel/cracknellaw02.DecJoins", spec := "decJoins", apart := false, narrowed := true }
def DecJoinsUptoSaid : Prop := decJoinsUptoRow.holds Try.pinned (OpenSpec.upto decJoinsSpec)

end Rows
end Go.Proofs.Ytdiecopmfdfjcaa
