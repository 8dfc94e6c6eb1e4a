/-
  NARROWER THAN 'FOR EVERY INPUT', by the rows' own cells (each row's printed sentence says how): HostCanon: laid · HostIps: laid · HostMatches: laid · HostParents: laid · HostTransitive: laid · HostUnder: laid.
  DERIVED. THE GIVEN ROWS OF THIS SEAT. 6 by the template 'for every input the law returns true; each argument reads behind the call as it read before'; 0 by the template 'total and deterministic' (their statements: YtlcnnkameflidaaDoorTotals.lean).
  GIVEN WITH THE SEED: the statements are not yours to turn. If you find one false, say at which input.
  Laid BY PROGRAM, IN A SANDBOX (cutbox-rows.mjs): the forced cells as the released guide's own fill.sh prints them over the translation 52cd8ea3318b2c2b… (all of the seat's roots in one cut). By AI agents, Wed Nov 11 2026. No macro, syntax, notation, axiom, sorry.
-/
import Derived.Test.YtlcnnkameflidaaDoorChecked
import GoSem.PinnedTables
import GoSem.Claim
import GoSem.ClaimJoined
import GoSem.ClaimMapViews
import Derived.JoinedTies
import Derived.KernelRfl
namespace Go.Proofs.YtlcnnkameflidaaDoor
/- THE CELL 'sum', in the pinned program and in every row, IS THE sha256 OF THE DUMP (.gsa) THAT YtlcnnkameflidaaDoorProg.lean LOADS. Nothing in Lean hashes anything: it is a label: what it is worth is what the hold of that sum in a sandbox is worth. -/
noncomputable def Tryd.pinned : Pinned := { name := "ytlcnnkameflidaadoor", sum := "52cd8ea3318b2c2b5576eedaf1cda08a0c0e29e3884c9b1c01a5eca2c891f1e4", checked := Tryd.checked }
namespace Rows
def none {H : Type} : Left H := { results := [], args := [] }

/- WHAT THE LISTED PACKAGE-LEVEL VARIABLES READ AS WHEN THE CALL BEGINS. Each datum BY PROGRAM (the guide's laid-datum.mjs) off the statement by which the dump's own 'gosem.cut.vars' lays the variable. In a bare row this is a premise. The card (YtlcnnkameflidaaDoorCards.lean) ties it to the program's text. -/
def laid_unicode_utf8_acceptRanges {H : Type} : DataW H := .agg [.agg [.lit (.int .u8 128), .lit (.int .u8 191)], .agg [.lit (.int .u8 160), .lit (.int .u8 191)], .agg [.lit (.int .u8 128), .lit (.int .u8 159)], .agg [.lit (.int .u8 144), .lit (.int .u8 191)], .agg [.lit (.int .u8 128), .lit (.int .u8 143)], .agg [.lit (.int .u8 0), .lit (.int .u8 0)], .agg [.lit (.int .u8 0), .lit (.int .u8 0)], .agg [.lit (.int .u8 0), .lit (.int .u8 0)], .agg [.lit (.int .u8 0), .lit (.int .u8 0)], .agg [.lit (.int .u8 0), .lit (.int .u8 0)], .agg [.lit (.int .u8 0), .lit (.int .u8 0)], .agg [.lit (.int .u8 0), .lit (.int .u8 0)], .agg [.lit (.int .u8 0), .lit (.int .u8 0)], .agg [.lit (.int .u8 0), .lit (.int .u8 0)], .agg [.lit (.int .u8 0), .lit (.int .u8 0)], .agg [.lit (.int .u8 0), .lit (.int .u8 0)]]
/-- One of Go's own tables, pinned by name: the form's constant. -/
def laid_unicode_utf8_first : DataW Unit := Go.Pinned.utf8First

/-- 'cracknellaw11.HostCanon': WHATEVER THE INPUT: true; the input reads as it did. -/
def hostCanonSpec : ChangeSpec := { name := "hostCanon", fn := fun _ => fun
  | [d] => { results := [.lit (.bool true)], args := [d] }
  | _ => none }
def hostCanonRow : OpenClaim := { program := "ytlcnnkameflidaadoor", sum := "52cd8ea3318b2c2b5576eedaf1cda08a0c0e29e3884c9b1c01a5eca2c891f1e4", func := "cracknel/cracknellaw11.HostCanon", spec := "hostCanon", inPlace := ["internal/bytealg.CountString", "internal/bytealg.IndexByteString", "internal/bytealg.IndexString"], unfollowed := true, recurses := true, named := ["unicode/utf8.first", "unicode/utf8.acceptRanges", "internal/bytealg.MaxLen"], apart := false, laid := [("unicode/utf8.acceptRanges", laid_unicode_utf8_acceptRanges), ("unicode/utf8.first", laid_unicode_utf8_first)] }
def HostCanonSaid : Prop := hostCanonRow.holds Tryd.pinned (OpenSpec.ofChange hostCanonSpec)

/-- ITS FALSE NEIGHBOUR: 'it returns false'. Refute it at one input. -/
def hostCanonWrong : ChangeSpec := { name := "hostCanon", fn := fun _ => fun
  | [d] => { results := [.lit (.bool false)], args := [d] }
  | _ => none }
def HostCanonWrongFalsely : Prop := hostCanonRow.holds Tryd.pinned (OpenSpec.ofChange hostCanonWrong)

/-- 'cracknellaw11.HostIps': WHATEVER THE INPUT: true; the input reads as it did. -/
def hostIpsSpec : ChangeSpec := { name := "hostIps", fn := fun _ => fun
  | [d] => { results := [.lit (.bool true)], args := [d] }
  | _ => none }
def hostIpsRow : OpenClaim := { program := "ytlcnnkameflidaadoor", sum := "52cd8ea3318b2c2b5576eedaf1cda08a0c0e29e3884c9b1c01a5eca2c891f1e4", func := "cracknel/cracknellaw11.HostIps", spec := "hostIps", inPlace := ["internal/bytealg.CountString", "internal/bytealg.IndexByteString", "internal/bytealg.IndexString"], unfollowed := true, recurses := true, named := ["unicode/utf8.first", "unicode/utf8.acceptRanges", "internal/bytealg.MaxLen"], apart := false, laid := [("unicode/utf8.acceptRanges", laid_unicode_utf8_acceptRanges), ("unicode/utf8.first", laid_unicode_utf8_first)] }
def HostIpsSaid : Prop := hostIpsRow.holds Tryd.pinned (OpenSpec.ofChange hostIpsSpec)

/-- ITS FALSE NEIGHBOUR: 'it returns false'. Refute it at one input. -/
def hostIpsWrong : ChangeSpec := { name := "hostIps", fn := fun _ => fun
  | [d] => { results := [.lit (.bool false)], args := [d] }
  | _ => none }
def HostIpsWrongFalsely : Prop := hostIpsRow.holds Tryd.pinned (OpenSpec.ofChange hostIpsWrong)

/-- 'cracknellaw11.HostMatches': WHATEVER THE INPUT: true; the input reads as it did. -/
def hostMatchesSpec : ChangeSpec := { name := "hostMatches", fn := fun _ => fun
  | [d1, d2] => { results := [.lit (.bool true)], args := [d1, d2] }
  | _ => none }
def hostMatchesRow : OpenClaim := { program := "ytlcnnkameflidaadoor", sum := "52cd8ea3318b2c2b5576eedaf1cda08a0c0e29e3884c9b1c01a5eca2c891f1e4", func := "cracknel/cracknellaw11.HostMatches", spec := "hostMatches", inPlace := ["internal/bytealg.CountString", "internal/bytealg.IndexByteString", "internal/bytealg.IndexString"], unfollowed := true, recurses := true, named := ["unicode/utf8.first", "unicode/utf8.acceptRanges", "internal/bytealg.MaxLen"], apart := false, laid := [("unicode/utf8.acceptRanges", laid_unicode_utf8_acceptRanges), ("unicode/utf8.first", laid_unicode_utf8_first)] }
def HostMatchesSaid : Prop := hostMatchesRow.holds Tryd.pinned (OpenSpec.ofChange hostMatchesSpec)

/-- ITS FALSE NEIGHBOUR: 'it returns false'. Refute it at one input. -/
def hostMatchesWrong : ChangeSpec := { name := "hostMatches", fn := fun _ => fun
  | [d1, d2] => { results := [.lit (.bool false)], args := [d1, d2] }
  | _ => none }
def HostMatchesWrongFalsely : Prop := hostMatchesRow.holds Tryd.pinned (OpenSpec.ofChange hostMatchesWrong)

/-- 'cracknellaw11.HostParents': WHATEVER THE INPUT: true; the input reads as it did. -/
def hostParentsSpec : ChangeSpec := { name := "hostParents", fn := fun _ => fun
  | [d1, d2] => { results := [.lit (.bool true)], args := [d1, d2] }
  | _ => none }
def hostParentsRow : OpenClaim := { program := "ytlcnnkameflidaadoor", sum := "52cd8ea3318b2c2b5576eedaf1cda08a0c0e29e3884c9b1c01a5eca2c891f1e4", func := "cracknel/cracknellaw11.HostParents", spec := "hostParents", inPlace := ["internal/bytealg.CountString", "internal/bytealg.IndexByteString", "internal/bytealg.IndexString"], unfollowed := true, recurses := true, named := ["unicode/utf8.first", "unicode/utf8.acceptRanges", "internal/bytealg.MaxLen"], apart := false, laid := [("unicode/utf8.acceptRanges", laid_unicode_utf8_acceptRanges), ("unicode/utf8.first", laid_unicode_utf8_first)] }
def HostParentsSaid : Prop := hostParentsRow.holds Tryd.pinned (OpenSpec.ofChange hostParentsSpec)

/-- ITS FALSE NEIGHBOUR: 'it returns false'. Refute it at one input. -/
def hostParentsWrong : ChangeSpec := { name := "hostParents", fn := fun _ => fun
  | [d1, d2] => { results := [.lit (.bool false)], args := [d1, d2] }
  | _ => none }
def HostParentsWrongFalsely : Prop := hostParentsRow.holds Tryd.pinned (OpenSpec.ofChange hostParentsWrong)

/-- 'cracknellaw11.HostTransitive': WHATEVER THE INPUT: true; the input reads as it did. -/
def hostTransitiveSpec : ChangeSpec := { name := "hostTransitive", fn := fun _ => fun
  | [d1, d2, d3] => { results := [.lit (.bool true)], args := [d1, d2, d3] }
  | _ => none }
def hostTransitiveRow : OpenClaim := { program := "ytlcnnkameflidaadoor", sum := "52cd8ea3318b2c2b5576eedaf1cda08a0c0e29e3884c9b1c01a5eca2c891f1e4", func := "cracknel/cracknellaw11.HostTransitive", spec := "hostTransitive", inPlace := ["internal/bytealg.CountString", "internal/bytealg.IndexByteString", "internal/bytealg.IndexString"], unfollowed := true, recurses := true, named := ["unicode/utf8.first", "unicode/utf8.acceptRanges", "internal/bytealg.MaxLen"], apart := false, laid := [("unicode/utf8.acceptRanges", laid_unicode_utf8_acceptRanges), ("unicode/utf8.first", laid_unicode_utf8_first)] }
def HostTransitiveSaid : Prop := hostTransitiveRow.holds Tryd.pinned (OpenSpec.ofChange hostTransitiveSpec)

/-- ITS FALSE NEIGHBOUR: 'it returns false'. Refute it at one input. -/
def hostTransitiveWrong : ChangeSpec := { name := "hostTransitive", fn := fun _ => fun
  | [d1, d2, d3] => { results := [.lit (.bool false)], args := [d1, d2, d3] }
  | _ => none }
def HostTransitiveWrongFalsely : Prop := hostTransitiveRow.holds Tryd.pinned (OpenSpec.ofChange hostTransitiveWrong)

/-- 'cracknellaw11.HostUnder': WHATEVER THE INPUT: true; the input reads as it did. -/
def hostUnderSpec : ChangeSpec := { name := "hostUnder", fn := fun _ => fun
  | [d1, d2] => { results := [.lit (.bool true)], args := [d1, d2] }
  | _ => none }
def hostUnderRow : OpenClaim := { program := "ytlcnnkameflidaadoor", sum := "52cd8ea3318b2c2b5576eedaf1cda08a0c0e29e3884c9b1c01a5eca2c891f1e4", func := "cracknel/cracknellaw11.HostUnder", spec := "hostUnder", inPlace := ["internal/bytealg.CountString", "internal/bytealg.IndexByteString", "internal/bytealg.IndexString"], unfollowed := true, recurses := true, named := ["unicode/utf8.first", "unicode/utf8.acceptRanges", "internal/bytealg.MaxLen"], apart := false, laid := [("unicode/utf8.acceptRanges", laid_unicode_utf8_acceptRanges), ("unicode/utf8.first", laid_unicode_utf8_first)] }
def HostUnderSaid : Prop := hostUnderRow.holds Tryd.pinned (OpenSpec.ofChange hostUnderSpec)

/-- ITS FALSE NEIGHBOUR: 'it returns false'. Refute it at one input. -/
def hostUnderWrong : ChangeSpec := { name := "hostUnder", fn := fun _ => fun
  | [d1, d2] => { results := [.lit (.bool false)], args := [d1, d2] }
  | _ => none }
def HostUnderWrongFalsely : Prop := hostUnderRow.holds Tryd.pinned (OpenSpec.ofChange hostUnderWrong)

/- THE SECOND FORM. 'bulk': how many values and letters a reading holds, each counted each time it is reached (what is shared counts as often as it is met; a slice's spare places count too). A statement '..UptoSaid' is the law's where the arguments, and the package variables that the reading takes, are together of bulk at most 1048576: NARROWER than '..Said'. Prove '..Said' where nothing that the law and all that it calls make is longer than what came in: it says more and counts as full. Else prove '..UptoSaid'. A law counts once. -/
mutual
def uptoBulk {H : Type} : DataW H → Nat
  | .lit (.string bytes) => bytes.length + 1
  | .lit _ => 1
  | .nil => 1
  | .ptr d => uptoBulk d + 1
  | .slice elems spare => uptoBulkAll elems + uptoBulkAll spare + 1
  | .agg parts => uptoBulkAll parts + 1
  | .iface _ d => uptoBulk d + 1
  | .map entries => uptoBulkEntries entries + 1
  | .held _ => 1
def uptoBulkAll {H : Type} : List (DataW H) → Nat
  | [] => 0
  | d :: r => uptoBulk d + uptoBulkAll r
def uptoBulkEntries {H : Type} : List (Lit × DataW H) → Nat
  | [] => 0
  | x :: r => uptoBulkEntry x + uptoBulkEntries r
def uptoBulkEntry {H : Type} : Lit × DataW H → Nat
  | (.string bytes, d) => bytes.length + uptoBulk d + 1
  | (_, d) => uptoBulk d + 1
 end
def uptoSmall : (H : Type) → List (DataW H) → Bool := fun _ ds => decide (uptoBulkAll ds ≤ 1048576)
def OpenSpec.upto (s : _root_.Go.ChangeSpec) : _root_.Go.OpenSpec := { _root_.Go.OpenSpec.ofChange s with cond := some uptoSmall }

/-- 'cracknellaw11.HostCanon', WHERE WHAT IT READS IS OF BULK AT MOST 1048576: true; the input reads as it did. -/
def hostCanonUptoRow : OpenClaim := { program := "ytlcnnkameflidaadoor", sum := "52cd8ea3318b2c2b5576eedaf1cda08a0c0e29e3884c9b1c01a5eca2c891f1e4", func := "cracknel/cracknellaw11.HostCanon", spec := "hostCanon", inPlace := ["internal/bytealg.CountString", "internal/bytealg.IndexByteString", "internal/bytealg.IndexString"], unfollowed := true, recurses := true, named := ["unicode/utf8.first", "unicode/utf8.acceptRanges", "internal/bytealg.MaxLen"], apart := false, laid := [("unicode/utf8.acceptRanges", laid_unicode_utf8_acceptRanges), ("unicode/utf8.first", laid_unicode_utf8_first)], narrowed := true }
def HostCanonUptoSaid : Prop := hostCanonUptoRow.holds Tryd.pinned (OpenSpec.upto hostCanonSpec)

/-- 'cracknellaw11.HostIps', WHERE WHAT IT READS IS OF BULK AT MOST 1048576: true; the input reads as it did. -/
def hostIpsUptoRow : OpenClaim := { program := "ytlcnnkameflidaadoor", sum := "52cd8ea3318b2c2b5576eedaf1cda08a0c0e29e3884c9b1c01a5eca2c891f1e4", func := "cracknel/cracknellaw11.HostIps", spec := "hostIps", inPlace := ["internal/bytealg.CountString", "internal/bytealg.IndexByteString", "internal/bytealg.IndexString"], unfollowed := true, recurses := true, named := ["unicode/utf8.first", "unicode/utf8.acceptRanges", "internal/bytealg.MaxLen"], apart := false, laid := [("unicode/utf8.acceptRanges", laid_unicode_utf8_acceptRanges), ("unicode/utf8.first", laid_unicode_utf8_first)], narrowed := true }
def HostIpsUptoSaid : Prop := hostIpsUptoRow.holds Tryd.pinned (OpenSpec.upto hostIpsSpec)

/-- 'cracknellaw11.HostMatches', WHERE WHAT IT READS IS OF BULK AT MOST 1048576: true; the input reads as it did. -/
def hostMatchesUptoRow : OpenClaim := { program := "ytlcnnkameflidaadoor", sum := "52cd8ea3318b2c2b5576eedaf1cda08a0c0e29e3884c9b1c01a5eca2c891f1e4", func := "cracknel/cracknellaw11.HostMatches", spec := "hostMatches", inPlace := ["internal/bytealg.CountString", "internal/bytealg.IndexByteString", "internal/bytealg.IndexString"], unfollowed := true, recurses := true, named := ["unicode/utf8.first", "unicode/utf8.acceptRanges", "internal/bytealg.MaxLen"], apart := false, laid := [("unicode/utf8.acceptRanges", laid_unicode_utf8_acceptRanges), ("unicode/utf8.first", laid_unicode_utf8_first)], narrowed := true }
def HostMatchesUptoSaid : Prop := hostMatchesUptoRow.holds Tryd.pinned (OpenSpec.upto hostMatchesSpec)

/-- 'cracknellaw11.HostParents', WHERE WHAT IT READS IS OF BULK AT MOST 1048576: true; the input reads as it did. -/
def hostParentsUptoRow : OpenClaim := { program := "ytlcnnkameflidaadoor", sum := "52cd8ea3318b2c2b5576eedaf1cda08a0c0e29e3884c9b1c01a5eca2c891f1e4", func := "cracknel/cracknellaw11.HostParents", spec := "hostParents", inPlace := ["internal/bytealg.CountString", "internal/bytealg.IndexByteString", "internal/bytealg.IndexString"], unfollowed := true, recurses := true, named := ["unicode/utf8.first", "unicode/utf8.acceptRanges", "internal/bytealg.MaxLen"], apart := false, laid := [("unicode/utf8.acceptRanges", laid_unicode_utf8_acceptRanges), ("unicode/utf8.first", laid_unicode_utf8_first)], narrowed := true }
def HostParentsUptoSaid : Prop := hostParentsUptoRow.holds Tryd.pinned (OpenSpec.upto hostParentsSpec)

/-- 'cracknellaw11.HostTransitive', WHERE WHAT IT READS IS OF BULK AT MOST 1048576: true; the input reads as it did. -/
def hostTransitiveUptoRow : OpenClaim := { program := "ytlcnnkameflidaadoor", sum := "52cd8ea3318b2c2b5576eedaf1cda08a0c0e29e3884c9b1c01a5eca2c891f1e4", func := "cracknel/cracknellaw11.HostTransitive", spec := "hostTransitive", inPlace := ["internal/bytealg.CountString", "internal/bytealg.IndexByteString", "internal/bytealg.IndexString"], unfollowed := true, recurses := true, named := ["unicode/utf8.first", "unicode/utf8.acceptRanges", "internal/bytealg.MaxLen"], apart := false, laid := [("unicode/utf8.acceptRanges", laid_unicode_utf8_acceptRanges), ("unicode/utf8.first", laid_unicode_utf8_first)], narrowed := true }
def HostTransitiveUptoSaid : Prop := hostTransitiveUptoRow.holds Tryd.pinned (OpenSpec.upto hostTransitiveSpec)

/-- 'cracknellaw11.HostUnder', WHERE WHAT IT READS IS OF BULK AT MOST 1048576: true; the input reads as it did. -/
def hostUnderUptoRow : OpenClaim := { program := "ytlcnnkameflidaadoor", sum := "52cd8ea3318b2c2b5576eedaf1cda08a0c0e29e3884c9b1c01a5eca2c891f1e4", func := "cracknel/cracknellaw11.HostUnder", spec := "hostUnder", inPlace := ["internal/bytealg.CountString", "internal/bytealg.IndexByteString", "internal/bytealg.IndexString"], unfollowed := true, recurses := true, named := ["unicode/utf8.first", "unicode/utf8.acceptRanges", "internal/bytealg.MaxLen"], apart := false, laid := [("unicode/utf8.acceptRanges", laid_unicode_utf8_acceptRanges), ("unicode/utf8.first", laid_unicode_utf8_first)], narrowed := true }
def HostUnderUptoSaid : Prop := hostUnderUptoRow.holds Tryd.pinned (OpenSpec.upto hostUnderSpec)

end Rows
end Go.Proofs.YtlcnnkameflidaaDoor
