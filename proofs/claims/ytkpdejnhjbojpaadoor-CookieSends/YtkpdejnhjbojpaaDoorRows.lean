/-
  NARROWER THAN 'FOR EVERY INPUT', by the rows' own cells (each row's printed sentence says how): CookieRight: laid · CookieKeys: laid · CookieOrders: laid · CookieTransitive: laid · CookieGreater: laid · CookieLive: laid · CookieSends: laid.
  DERIVED. THE GIVEN ROWS OF THIS SEAT. 7 by the template 'for every input the law returns true; each argument reads behind the call as it read before'; 0 by the template 'total and deterministic' (their statements: YtkpdejnhjbojpaaDoorTotals.lean).
  GIVEN WITH THE SEED: the statements are not yours to turn. If you find one false, say at which input.
  Laid BY PROGRAM, IN A SANDBOX (cutbox-rows.mjs): the forced cells as the released guide's own fill.sh prints them over the translation b46af18519450814… (all of the seat's roots in one cut). By AI agents, Wed Nov 11 2026. No macro, syntax, notation, axiom, sorry.
-/
import Derived.Test.YtkpdejnhjbojpaaDoorChecked
import GoSem.PinnedTables
import GoSem.Claim
import GoSem.ClaimJoined
import GoSem.ClaimMapViews
import Derived.JoinedTies
import Derived.KernelRfl
namespace Go.Proofs.YtkpdejnhjbojpaaDoor
/- THE CELL 'sum', in the pinned program and in every row, IS THE sha256 OF THE DUMP (.gsa) THAT YtkpdejnhjbojpaaDoorProg.lean LOADS. Nothing in Lean hashes anything: it is a label: what it is worth is what the hold of that sum in a sandbox is worth. -/
noncomputable def Tryd.pinned : Pinned := { name := "ytkpdejnhjbojpaadoor", sum := "b46af185194508145bd7263c586ff9b7e10d34b185d590b2b58389c31e13f381", checked := Tryd.checked }
namespace Rows
def none {H : Type} : Left H := { results := [], args := [] }

/- WHAT THE LISTED PACKAGE-LEVEL VARIABLES READ AS WHEN THE CALL BEGINS. Each datum BY PROGRAM (the guide's laid-datum.mjs) off the statement by which the dump's own 'gosem.cut.vars' lays the variable. In a bare row this is a premise. The card (YtkpdejnhjbojpaaDoorCards.lean) ties it to the program's text. -/
def laid_unicode_utf8_acceptRanges {H : Type} : DataW H := .agg [.agg [.lit (.int .u8 128), .lit (.int .u8 191)], .agg [.lit (.int .u8 160), .lit (.int .u8 191)], .agg [.lit (.int .u8 128), .lit (.int .u8 159)], .agg [.lit (.int .u8 144), .lit (.int .u8 191)], .agg [.lit (.int .u8 128), .lit (.int .u8 143)], .agg [.lit (.int .u8 0), .lit (.int .u8 0)], .agg [.lit (.int .u8 0), .lit (.int .u8 0)], .agg [.lit (.int .u8 0), .lit (.int .u8 0)], .agg [.lit (.int .u8 0), .lit (.int .u8 0)], .agg [.lit (.int .u8 0), .lit (.int .u8 0)], .agg [.lit (.int .u8 0), .lit (.int .u8 0)], .agg [.lit (.int .u8 0), .lit (.int .u8 0)], .agg [.lit (.int .u8 0), .lit (.int .u8 0)], .agg [.lit (.int .u8 0), .lit (.int .u8 0)], .agg [.lit (.int .u8 0), .lit (.int .u8 0)], .agg [.lit (.int .u8 0), .lit (.int .u8 0)]]
/-- One of Go's own tables, pinned by name: the form's constant. -/
def laid_unicode_utf8_first : DataW Unit := Go.Pinned.utf8First

/-- 'cracknellaw13.CookieRight': WHATEVER THE INPUT: true; the input reads as it did. -/
def cookieRightSpec : ChangeSpec := { name := "cookieRight", fn := fun _ => fun
  | [d] => { results := [.lit (.bool true)], args := [d] }
  | _ => none }
def cookieRightRow : OpenClaim := { program := "ytkpdejnhjbojpaadoor", sum := "b46af185194508145bd7263c586ff9b7e10d34b185d590b2b58389c31e13f381", func := "cracknel/cracknellaw13.CookieRight", spec := "cookieRight", inPlace := ["internal/bytealg.CountString", "internal/bytealg.IndexByteString", "internal/bytealg.IndexString", "internal/bytealg.abigen_runtime_cmpstring"], unfollowed := true, recurses := true, named := ["unicode/utf8.first", "unicode/utf8.acceptRanges", "internal/bytealg.MaxLen"], apart := false, laid := [("unicode/utf8.acceptRanges", laid_unicode_utf8_acceptRanges), ("unicode/utf8.first", laid_unicode_utf8_first)] }
def CookieRightSaid : Prop := cookieRightRow.holds Tryd.pinned (OpenSpec.ofChange cookieRightSpec)

/-- ITS FALSE NEIGHBOUR: 'it returns false'. Refute it at one input. -/
def cookieRightWrong : ChangeSpec := { name := "cookieRight", fn := fun _ => fun
  | [d] => { results := [.lit (.bool false)], args := [d] }
  | _ => none }
def CookieRightWrongFalsely : Prop := cookieRightRow.holds Tryd.pinned (OpenSpec.ofChange cookieRightWrong)

/-- 'cracknellaw13.CookieKeys': WHATEVER THE INPUT: true; the input reads as it did. -/
def cookieKeysSpec : ChangeSpec := { name := "cookieKeys", fn := fun _ => fun
  | [d1, d2] => { results := [.lit (.bool true)], args := [d1, d2] }
  | _ => none }
def cookieKeysRow : OpenClaim := { program := "ytkpdejnhjbojpaadoor", sum := "b46af185194508145bd7263c586ff9b7e10d34b185d590b2b58389c31e13f381", func := "cracknel/cracknellaw13.CookieKeys", spec := "cookieKeys", inPlace := ["internal/bytealg.CountString", "internal/bytealg.IndexByteString", "internal/bytealg.IndexString", "internal/bytealg.abigen_runtime_cmpstring"], unfollowed := true, recurses := true, named := ["unicode/utf8.first", "unicode/utf8.acceptRanges", "internal/bytealg.MaxLen"], apart := false, laid := [("unicode/utf8.acceptRanges", laid_unicode_utf8_acceptRanges), ("unicode/utf8.first", laid_unicode_utf8_first)] }
def CookieKeysSaid : Prop := cookieKeysRow.holds Tryd.pinned (OpenSpec.ofChange cookieKeysSpec)

/-- ITS FALSE NEIGHBOUR: 'it returns false'. Refute it at one input. -/
def cookieKeysWrong : ChangeSpec := { name := "cookieKeys", fn := fun _ => fun
  | [d1, d2] => { results := [.lit (.bool false)], args := [d1, d2] }
  | _ => none }
def CookieKeysWrongFalsely : Prop := cookieKeysRow.holds Tryd.pinned (OpenSpec.ofChange cookieKeysWrong)

/-- 'cracknellaw13.CookieOrders': WHATEVER THE INPUT: true; the input reads as it did. -/
def cookieOrdersSpec : ChangeSpec := { name := "cookieOrders", fn := fun _ => fun
  | [d1, d2] => { results := [.lit (.bool true)], args := [d1, d2] }
  | _ => none }
def cookieOrdersRow : OpenClaim := { program := "ytkpdejnhjbojpaadoor", sum := "b46af185194508145bd7263c586ff9b7e10d34b185d590b2b58389c31e13f381", func := "cracknel/cracknellaw13.CookieOrders", spec := "cookieOrders", inPlace := ["internal/bytealg.abigen_runtime_cmpstring", "internal/bytealg.CountString", "internal/bytealg.IndexByteString", "internal/bytealg.IndexString"], unfollowed := true, recurses := true, named := ["unicode/utf8.first", "unicode/utf8.acceptRanges", "internal/bytealg.MaxLen"], apart := false, laid := [("unicode/utf8.acceptRanges", laid_unicode_utf8_acceptRanges), ("unicode/utf8.first", laid_unicode_utf8_first)] }
def CookieOrdersSaid : Prop := cookieOrdersRow.holds Tryd.pinned (OpenSpec.ofChange cookieOrdersSpec)

/-- ITS FALSE NEIGHBOUR: 'it returns false'. Refute it at one input. -/
def cookieOrdersWrong : ChangeSpec := { name := "cookieOrders", fn := fun _ => fun
  | [d1, d2] => { results := [.lit (.bool false)], args := [d1, d2] }
  | _ => none }
def CookieOrdersWrongFalsely : Prop := cookieOrdersRow.holds Tryd.pinned (OpenSpec.ofChange cookieOrdersWrong)

/-- 'cracknellaw13.CookieTransitive': WHATEVER THE INPUT: true; the input reads as it did. -/
def cookieTransitiveSpec : ChangeSpec := { name := "cookieTransitive", fn := fun _ => fun
  | [d1, d2, d3] => { results := [.lit (.bool true)], args := [d1, d2, d3] }
  | _ => none }
def cookieTransitiveRow : OpenClaim := { program := "ytkpdejnhjbojpaadoor", sum := "b46af185194508145bd7263c586ff9b7e10d34b185d590b2b58389c31e13f381", func := "cracknel/cracknellaw13.CookieTransitive", spec := "cookieTransitive", inPlace := ["internal/bytealg.CountString", "internal/bytealg.IndexByteString", "internal/bytealg.IndexString", "internal/bytealg.abigen_runtime_cmpstring"], unfollowed := true, recurses := true, named := ["unicode/utf8.first", "unicode/utf8.acceptRanges", "internal/bytealg.MaxLen"], apart := false, laid := [("unicode/utf8.acceptRanges", laid_unicode_utf8_acceptRanges), ("unicode/utf8.first", laid_unicode_utf8_first)] }
def CookieTransitiveSaid : Prop := cookieTransitiveRow.holds Tryd.pinned (OpenSpec.ofChange cookieTransitiveSpec)

/-- ITS FALSE NEIGHBOUR: 'it returns false'. Refute it at one input. -/
def cookieTransitiveWrong : ChangeSpec := { name := "cookieTransitive", fn := fun _ => fun
  | [d1, d2, d3] => { results := [.lit (.bool false)], args := [d1, d2, d3] }
  | _ => none }
def CookieTransitiveWrongFalsely : Prop := cookieTransitiveRow.holds Tryd.pinned (OpenSpec.ofChange cookieTransitiveWrong)

/-- 'cracknellaw13.CookieGreater': WHATEVER THE INPUT: true; the input reads as it did. -/
def cookieGreaterSpec : ChangeSpec := { name := "cookieGreater", fn := fun _ => fun
  | [d1, d2, d3] => { results := [.lit (.bool true)], args := [d1, d2, d3] }
  | _ => none }
def cookieGreaterRow : OpenClaim := { program := "ytkpdejnhjbojpaadoor", sum := "b46af185194508145bd7263c586ff9b7e10d34b185d590b2b58389c31e13f381", func := "cracknel/cracknellaw13.CookieGreater", spec := "cookieGreater", inPlace := ["internal/bytealg.abigen_runtime_cmpstring", "internal/bytealg.CountString", "internal/bytealg.IndexByteString", "internal/bytealg.IndexString"], unfollowed := true, recurses := true, named := ["unicode/utf8.first", "unicode/utf8.acceptRanges", "internal/bytealg.MaxLen"], apart := false, laid := [("unicode/utf8.acceptRanges", laid_unicode_utf8_acceptRanges), ("unicode/utf8.first", laid_unicode_utf8_first)] }
def CookieGreaterSaid : Prop := cookieGreaterRow.holds Tryd.pinned (OpenSpec.ofChange cookieGreaterSpec)

/-- ITS FALSE NEIGHBOUR: 'it returns false'. Refute it at one input. -/
def cookieGreaterWrong : ChangeSpec := { name := "cookieGreater", fn := fun _ => fun
  | [d1, d2, d3] => { results := [.lit (.bool false)], args := [d1, d2, d3] }
  | _ => none }
def CookieGreaterWrongFalsely : Prop := cookieGreaterRow.holds Tryd.pinned (OpenSpec.ofChange cookieGreaterWrong)

/-- 'cracknellaw13.CookieLive': WHATEVER THE INPUT: true; the input reads as it did. -/
def cookieLiveSpec : ChangeSpec := { name := "cookieLive", fn := fun _ => fun
  | [d1, d2, d3] => { results := [.lit (.bool true)], args := [d1, d2, d3] }
  | _ => none }
def cookieLiveRow : OpenClaim := { program := "ytkpdejnhjbojpaadoor", sum := "b46af185194508145bd7263c586ff9b7e10d34b185d590b2b58389c31e13f381", func := "cracknel/cracknellaw13.CookieLive", spec := "cookieLive", inPlace := ["internal/bytealg.CountString", "internal/bytealg.IndexByteString", "internal/bytealg.IndexString", "internal/bytealg.abigen_runtime_cmpstring"], unfollowed := true, recurses := true, named := ["unicode/utf8.first", "unicode/utf8.acceptRanges", "internal/bytealg.MaxLen"], apart := false, laid := [("unicode/utf8.acceptRanges", laid_unicode_utf8_acceptRanges), ("unicode/utf8.first", laid_unicode_utf8_first)] }
def CookieLiveSaid : Prop := cookieLiveRow.holds Tryd.pinned (OpenSpec.ofChange cookieLiveSpec)

/-- ITS FALSE NEIGHBOUR: 'it returns false'. Refute it at one input. -/
def cookieLiveWrong : ChangeSpec := { name := "cookieLive", fn := fun _ => fun
  | [d1, d2, d3] => { results := [.lit (.bool false)], args := [d1, d2, d3] }
  | _ => none }
def CookieLiveWrongFalsely : Prop := cookieLiveRow.holds Tryd.pinned (OpenSpec.ofChange cookieLiveWrong)

/-- 'cracknellaw13.CookieSends': WHATEVER THE INPUT: true; the input reads as it did. -/
def cookieSendsSpec : ChangeSpec := { name := "cookieSends", fn := fun _ => fun
  | [d1, d2, d3] => { results := [.lit (.bool true)], args := [d1, d2, d3] }
  | _ => none }
def cookieSendsRow : OpenClaim := { program := "ytkpdejnhjbojpaadoor", sum := "b46af185194508145bd7263c586ff9b7e10d34b185d590b2b58389c31e13f381", func := "cracknel/cracknellaw13.CookieSends", spec := "cookieSends", inPlace := ["internal/bytealg.CountString", "internal/bytealg.IndexByteString", "internal/bytealg.IndexString", "internal/bytealg.abigen_runtime_cmpstring"], unfollowed := true, recurses := true, named := ["unicode/utf8.first", "unicode/utf8.acceptRanges", "internal/bytealg.MaxLen"], apart := false, laid := [("unicode/utf8.acceptRanges", laid_unicode_utf8_acceptRanges), ("unicode/utf8.first", laid_unicode_utf8_first)] }
def CookieSendsSaid : Prop := cookieSendsRow.holds Tryd.pinned (OpenSpec.ofChange cookieSendsSpec)

/-- ITS FALSE NEIGHBOUR: 'it returns false'. Refute it at one input. -/
def cookieSendsWrong : ChangeSpec := { name := "cookieSends", fn := fun _ => fun
  | [d1, d2, d3] => { results := [.lit (.bool false)], args := [d1, d2, d3] }
  | _ => none }
def CookieSendsWrongFalsely : Prop := cookieSendsRow.holds Tryd.pinned (OpenSpec.ofChange cookieSendsWrong)

/- THE SECOND FORM. 'bulk': how many values and letters a reading holds, each counted each time it is reached (what is shared counts as often as it is met; a slice's spare places count too). A statement '..UptoSaid' is the law's where the arguments, and the package variables that the reading takes, are together of bulk at most 1048576: NARROWER than '..Said'. Prove '..Said' where nothing that the law and all that it calls make is longer than what came in: it says more and counts as full. Else prove '..UptoSaid'. A law counts once. -/
mutual
def uptoBulk {H : Type} : DataW H → Nat
  | .lit (.string bytes) => bytes.length + 1
  | .lit _ => 1
  | .nil => 1
  | .ptr d => uptoBulk d + 1
  | .slice elems spare => uptoBulkAll elems + uptoBulkAll spare + 1
  | .agg parts => uptoBulkAll parts + 1
  | .iface _ d => uptoBulk d + 1
  | .map entries => uptoBulkEntries entries + 1
  | .held _ => 1
def uptoBulkAll {H : Type} : List (DataW H) → Nat
  | [] => 0
  | d :: r => uptoBulk d + uptoBulkAll r
def uptoBulkEntries {H : Type} : List (Lit × DataW H) → Nat
  | [] => 0
  | x :: r => uptoBulkEntry x + uptoBulkEntries r
def uptoBulkEntry {H : Type} : Lit × DataW H → Nat
  | (.string bytes, d) => bytes.length + uptoBulk d + 1
  | (_, d) => uptoBulk d + 1
 end
def uptoSmall : (H : Type) → List (DataW H) → Bool := fun _ ds => decide (uptoBulkAll ds ≤ 1048576)
def OpenSpec.upto (s : _root_.Go.ChangeSpec) : _root_.Go.OpenSpec := { _root_.Go.OpenSpec.ofChange s with cond := some uptoSmall }

/-- 'cracknellaw13.CookieRight', WHERE WHAT IT READS IS OF BULK AT MOST 1048576: true; the input reads as it did. -/
def cookieRightUptoRow : OpenClaim := { program := "ytkpdejnhjbojpaadoor", sum := "b46af185194508145bd7263c586ff9b7e10d34b185d590b2b58389c31e13f381", func := "cracknel/cracknellaw13.CookieRight", spec := "cookieRight", inPlace := ["internal/bytealg.CountString", "internal/bytealg.IndexByteString", "internal/bytealg.IndexString", "internal/bytealg.abigen_runtime_cmpstring"], unfollowed := true, recurses := true, named := ["unicode/utf8.first", "unicode/utf8.acceptRanges", "internal/bytealg.MaxLen"], apart := false, laid := [("unicode/utf8.acceptRanges", laid_unicode_utf8_acceptRanges), ("unicode/utf8.first", laid_unicode_utf8_first)], narrowed := true }
def CookieRightUptoSaid : Prop := cookieRightUptoRow.holds Tryd.pinned (OpenSpec.upto cookieRightSpec)

/-- 'cracknellaw13.CookieKeys', WHERE WHAT IT READS IS OF BULK AT MOST 1048576: true; the input reads as it did. -/
def cookieKeysUptoRow : OpenClaim := { program := "ytkpdejnhjbojpaadoor", sum := "b46af185194508145bd7263c586ff9b7e10d34b185d590b2b58389c31e13f381", func := "cracknel/cracknellaw13.CookieKeys", spec := "cookieKeys", inPlace := ["internal/bytealg.CountString", "internal/bytealg.IndexByteString", "internal/bytealg.IndexString", "internal/bytealg.abigen_runtime_cmpstring"], unfollowed := true, recurses := true, named := ["unicode/utf8.first", "unicode/utf8.acceptRanges", "internal/bytealg.MaxLen"], apart := false, laid := [("unicode/utf8.acceptRanges", laid_unicode_utf8_acceptRanges), ("unicode/utf8.first", laid_unicode_utf8_first)], narrowed := true }
def CookieKeysUptoSaid : Prop := cookieKeysUptoRow.holds Tryd.pinned (OpenSpec.upto cookieKeysSpec)

/-- 'cracknellaw13.CookieOrders', WHERE WHAT IT READS IS OF BULK AT MOST 1048576: true; the input reads as it did. -/
def cookieOrdersUptoRow : OpenClaim := { program := "ytkpdejnhjbojpaadoor", sum := "b46af185194508145bd7263c586ff9b7e10d34b185d590b2b58389c31e13f381", func := "cracknel/cracknellaw13.CookieOrders", spec := "cookieOrders", inPlace := ["internal/bytealg.abigen_runtime_cmpstring", "internal/bytealg.CountString", "internal/bytealg.IndexByteString", "internal/bytealg.IndexString"], unfollowed := true, recurses := true, named := ["unicode/utf8.first", "unicode/utf8.acceptRanges", "internal/bytealg.MaxLen"], apart := false, laid := [("unicode/utf8.acceptRanges", laid_unicode_utf8_acceptRanges), ("unicode/utf8.first", laid_unicode_utf8_first)], narrowed := true }
def CookieOrdersUptoSaid : Prop := cookieOrdersUptoRow.holds Tryd.pinned (OpenSpec.upto cookieOrdersSpec)

/-- 'cracknellaw13.CookieTransitive', WHERE WHAT IT READS IS OF BULK AT MOST 1048576: true; the input reads as it did. -/
def cookieTransitiveUptoRow : OpenClaim := { program := "ytkpdejnhjbojpaadoor", sum := "b46af185194508145bd7263c586ff9b7e10d34b185d590b2b58389c31e13f381", func := "cracknel/cracknellaw13.CookieTransitive", spec := "cookieTransitive", inPlace := ["internal/bytealg.CountString", "internal/bytealg.IndexByteString", "internal/bytealg.IndexString", "internal/bytealg.abigen_runtime_cmpstring"], unfollowed := true, recurses := true, named := ["unicode/utf8.first", "unicode/utf8.acceptRanges", "internal/bytealg.MaxLen"], apart := false, laid := [("unicode/utf8.acceptRanges", laid_unicode_utf8_acceptRanges), ("unicode/utf8.first", laid_unicode_utf8_first)], narrowed := true }
def CookieTransitiveUptoSaid : Prop := cookieTransitiveUptoRow.holds Tryd.pinned (OpenSpec.upto cookieTransitiveSpec)

/-- 'cracknellaw13.CookieGreater', WHERE WHAT IT READS IS OF BULK AT MOST 1048576: true; the input reads as it did. -/
def cookieGreaterUptoRow : OpenClaim := { program := "ytkpdejnhjbojpaadoor", sum := "b46af185194508145bd7263c586ff9b7e10d34b185d590b2b58389c31e13f381", func := "cracknel/cracknellaw13.CookieGreater", spec := "cookieGreater", inPlace := ["internal/bytealg.abigen_runtime_cmpstring", "internal/bytealg.CountString", "internal/bytealg.IndexByteString", "internal/bytealg.IndexString"], unfollowed := true, recurses := true, named := ["unicode/utf8.first", "unicode/utf8.acceptRanges", "internal/bytealg.MaxLen"], apart := false, laid := [("unicode/utf8.acceptRanges", laid_unicode_utf8_acceptRanges), ("unicode/utf8.first", laid_unicode_utf8_first)], narrowed := true }
def CookieGreaterUptoSaid : Prop := cookieGreaterUptoRow.holds Tryd.pinned (OpenSpec.upto cookieGreaterSpec)

/-- 'cracknellaw13.CookieLive', WHERE WHAT IT READS IS OF BULK AT MOST 1048576: true; the input reads as it did. -/
def cookieLiveUptoRow : OpenClaim := { program := "ytkpdejnhjbojpaadoor", sum := "b46af185194508145bd7263c586ff9b7e10d34b185d590b2b58389c31e13f381", func := "cracknel/cracknellaw13.CookieLive", spec := "cookieLive", inPlace := ["internal/bytealg.CountString", "internal/bytealg.IndexByteString", "internal/bytealg.IndexString", "internal/bytealg.abigen_runtime_cmpstring"], unfollowed := true, recurses := true, named := ["unicode/utf8.first", "unicode/utf8.acceptRanges", "internal/bytealg.MaxLen"], apart := false, laid := [("unicode/utf8.acceptRanges", laid_unicode_utf8_acceptRanges), ("unicode/utf8.first", laid_unicode_utf8_first)], narrowed := true }
def CookieLiveUptoSaid : Prop := cookieLiveUptoRow.holds Tryd.pinned (OpenSpec.upto cookieLiveSpec)

/-- 'cracknellaw13.CookieSends', WHERE WHAT IT READS IS OF BULK AT MOST 1048576: true; the input reads as it did. -/
def cookieSendsUptoRow : OpenClaim := { program := "ytkpdejnhjbojpaadoor", sum := "b46af185194508145bd7263c586ff9b7e10d34b185d590b2b58389c31e13f381", func := "cracknel/cracknellaw13.CookieSends", spec := "cookieSends", inPlace := ["internal/bytealg.CountString", "internal/bytealg.IndexByteString", "internal/bytealg.IndexString", "internal/bytealg.abigen_runtime_cmpstring"], unfollowed := true, recurses := true, named := ["unicode/utf8.first", "unicode/utf8.acceptRanges", "internal/bytealg.MaxLen"], apart := false, laid := [("unicode/utf8.acceptRanges", laid_unicode_utf8_acceptRanges), ("unicode/utf8.first", laid_unicode_utf8_first)], narrowed := true }
def CookieSendsUptoSaid : Prop := cookieSendsUptoRow.holds Tryd.pinned (OpenSpec.upto cookieSendsSpec)

end Rows
end Go.Proofs.YtkpdejnhjbojpaaDoor
