/-
  NARROWER THAN 'FOR EVERY INPUT', by the rows' own cells (each row's printed sentence says how): RowAll: laid · RowBack: laid · RowGrown: laid · RowPlace: laid · RowDefaults: laid · RowApart: laid · KeyAll: laid.
  DERIVED. THE GIVEN ROWS OF THIS SEAT. 7 by the template 'for every input the law returns true; each argument reads behind the call as it read before'; 0 by the template 'total and deterministic' (their statements: YtcgkooogmgbfeaaDoorTotals.lean).
  GIVEN WITH THE SEED: the statements are not yours to turn. If you find one false, say at which input.
  Laid BY PROGRAM, IN A SANDBOX (cutbox-rows.mjs): the forced cells as the released guide's own fill.sh prints them over the translation 0375c66ccf37c52b… (all of the seat's roots in one cut). By AI agents, Wed Nov 11 2026. No macro, syntax, notation, axiom, sorry.
-/
import Derived.Test.YtcgkooogmgbfeaaDoorChecked
import GoSem.PinnedTables
import GoSem.Claim
import GoSem.ClaimJoined
import GoSem.ClaimMapViews
import Derived.JoinedTies
import Derived.KernelRfl
namespace Go.Proofs.YtcgkooogmgbfeaaDoor
/- THE CELL 'sum', in the pinned program and in every row, IS THE sha256 OF THE DUMP (.gsa) THAT YtcgkooogmgbfeaaDoorProg.lean LOADS. Nothing in Lean hashes anything: it is a label: what it is worth is what the hold of that sum in a sandbox is worth. -/
noncomputable def Tryd.pinned : Pinned := { name := "ytcgkooogmgbfeaadoor", sum := "0375c66ccf37c52b3dd931e2ab5abca77033b3b1a2786a35984fc14564892ead", checked := Tryd.checked }
namespace Rows
def none {H : Type} : Left H := { results := [], args := [] }

/- WHAT THE LISTED PACKAGE-LEVEL VARIABLES READ AS WHEN THE CALL BEGINS. Each datum BY PROGRAM (the guide's laid-datum.mjs) off the statement by which the dump's own 'gosem.cut.vars' lays the variable. In a bare row this is a premise. The card (YtcgkooogmgbfeaaDoorCards.lean) ties it to the program's text. -/
def laid_unicode_utf8_acceptRanges {H : Type} : DataW H := .agg [.agg [.lit (.int .u8 128), .lit (.int .u8 191)], .agg [.lit (.int .u8 160), .lit (.int .u8 191)], .agg [.lit (.int .u8 128), .lit (.int .u8 159)], .agg [.lit (.int .u8 144), .lit (.int .u8 191)], .agg [.lit (.int .u8 128), .lit (.int .u8 143)], .agg [.lit (.int .u8 0), .lit (.int .u8 0)], .agg [.lit (.int .u8 0), .lit (.int .u8 0)], .agg [.lit (.int .u8 0), .lit (.int .u8 0)], .agg [.lit (.int .u8 0), .lit (.int .u8 0)], .agg [.lit (.int .u8 0), .lit (.int .u8 0)], .agg [.lit (.int .u8 0), .lit (.int .u8 0)], .agg [.lit (.int .u8 0), .lit (.int .u8 0)], .agg [.lit (.int .u8 0), .lit (.int .u8 0)], .agg [.lit (.int .u8 0), .lit (.int .u8 0)], .agg [.lit (.int .u8 0), .lit (.int .u8 0)], .agg [.lit (.int .u8 0), .lit (.int .u8 0)]]
/-- One of Go's own tables, pinned by name: the form's constant. -/
def laid_unicode_utf8_first : DataW Unit := Go.Pinned.utf8First

/-- 'granarylaw08.RowAll': WHATEVER THE INPUT: true; the input reads as it did. -/
def rowAllSpec : ChangeSpec := { name := "rowAll", fn := fun _ => fun
  | [d1, d2, d3, d4] => { results := [.lit (.bool true)], args := [d1, d2, d3, d4] }
  | _ => none }
def rowAllRow : OpenClaim := { program := "ytcgkooogmgbfeaadoor", sum := "0375c66ccf37c52b3dd931e2ab5abca77033b3b1a2786a35984fc14564892ead", func := "granary/granarylaw08.RowAll", spec := "rowAll", named := ["unicode/utf8.first", "unicode/utf8.acceptRanges"], apart := false, laid := [("unicode/utf8.acceptRanges", laid_unicode_utf8_acceptRanges), ("unicode/utf8.first", laid_unicode_utf8_first)] }
def RowAllSaid : Prop := rowAllRow.holds Tryd.pinned (OpenSpec.ofChange rowAllSpec)

/-- ITS FALSE NEIGHBOUR: 'it returns false'. Refute it at one input. -/
def rowAllWrong : ChangeSpec := { name := "rowAll", fn := fun _ => fun
  | [d1, d2, d3, d4] => { results := [.lit (.bool false)], args := [d1, d2, d3, d4] }
  | _ => none }
def RowAllWrongFalsely : Prop := rowAllRow.holds Tryd.pinned (OpenSpec.ofChange rowAllWrong)

/-- 'granarylaw08.RowBack': WHATEVER THE INPUT: true; the input reads as it did. -/
def rowBackSpec : ChangeSpec := { name := "rowBack", fn := fun _ => fun
  | [d1, d2, d3] => { results := [.lit (.bool true)], args := [d1, d2, d3] }
  | _ => none }
def rowBackRow : OpenClaim := { program := "ytcgkooogmgbfeaadoor", sum := "0375c66ccf37c52b3dd931e2ab5abca77033b3b1a2786a35984fc14564892ead", func := "granary/granarylaw08.RowBack", spec := "rowBack", named := ["unicode/utf8.first", "unicode/utf8.acceptRanges"], apart := false, laid := [("unicode/utf8.acceptRanges", laid_unicode_utf8_acceptRanges), ("unicode/utf8.first", laid_unicode_utf8_first)] }
def RowBackSaid : Prop := rowBackRow.holds Tryd.pinned (OpenSpec.ofChange rowBackSpec)

/-- ITS FALSE NEIGHBOUR: 'it returns false'. Refute it at one input. -/
def rowBackWrong : ChangeSpec := { name := "rowBack", fn := fun _ => fun
  | [d1, d2, d3] => { results := [.lit (.bool false)], args := [d1, d2, d3] }
  | _ => none }
def RowBackWrongFalsely : Prop := rowBackRow.holds Tryd.pinned (OpenSpec.ofChange rowBackWrong)

/-- 'granarylaw08.RowGrown': WHATEVER THE INPUT: true; the input reads as it did. -/
def rowGrownSpec : ChangeSpec := { name := "rowGrown", fn := fun _ => fun
  | [d1, d2, d3, d4] => { results := [.lit (.bool true)], args := [d1, d2, d3, d4] }
  | _ => none }
def rowGrownRow : OpenClaim := { program := "ytcgkooogmgbfeaadoor", sum := "0375c66ccf37c52b3dd931e2ab5abca77033b3b1a2786a35984fc14564892ead", func := "granary/granarylaw08.RowGrown", spec := "rowGrown", named := ["unicode/utf8.first", "unicode/utf8.acceptRanges"], apart := false, laid := [("unicode/utf8.acceptRanges", laid_unicode_utf8_acceptRanges), ("unicode/utf8.first", laid_unicode_utf8_first)] }
def RowGrownSaid : Prop := rowGrownRow.holds Tryd.pinned (OpenSpec.ofChange rowGrownSpec)

/-- ITS FALSE NEIGHBOUR: 'it returns false'. Refute it at one input. -/
def rowGrownWrong : ChangeSpec := { name := "rowGrown", fn := fun _ => fun
  | [d1, d2, d3, d4] => { results := [.lit (.bool false)], args := [d1, d2, d3, d4] }
  | _ => none }
def RowGrownWrongFalsely : Prop := rowGrownRow.holds Tryd.pinned (OpenSpec.ofChange rowGrownWrong)

/-- 'granarylaw08.RowPlace': WHATEVER THE INPUT: true; the input reads as it did. -/
def rowPlaceSpec : ChangeSpec := { name := "rowPlace", fn := fun _ => fun
  | [d1, d2, d3, d4] => { results := [.lit (.bool true)], args := [d1, d2, d3, d4] }
  | _ => none }
def rowPlaceRow : OpenClaim := { program := "ytcgkooogmgbfeaadoor", sum := "0375c66ccf37c52b3dd931e2ab5abca77033b3b1a2786a35984fc14564892ead", func := "granary/granarylaw08.RowPlace", spec := "rowPlace", named := ["unicode/utf8.first", "unicode/utf8.acceptRanges"], apart := false, laid := [("unicode/utf8.acceptRanges", laid_unicode_utf8_acceptRanges), ("unicode/utf8.first", laid_unicode_utf8_first)] }
def RowPlaceSaid : Prop := rowPlaceRow.holds Tryd.pinned (OpenSpec.ofChange rowPlaceSpec)

/-- ITS FALSE NEIGHBOUR: 'it returns false'. Refute it at one input. -/
def rowPlaceWrong : ChangeSpec := { name := "rowPlace", fn := fun _ => fun
  | [d1, d2, d3, d4] => { results := [.lit (.bool false)], args := [d1, d2, d3, d4] }
  | _ => none }
def RowPlaceWrongFalsely : Prop := rowPlaceRow.holds Tryd.pinned (OpenSpec.ofChange rowPlaceWrong)

/-- 'granarylaw08.RowDefaults': WHATEVER THE INPUT: true; the input reads as it did. -/
def rowDefaultsSpec : ChangeSpec := { name := "rowDefaults", fn := fun _ => fun
  | [d1, d2, d3] => { results := [.lit (.bool true)], args := [d1, d2, d3] }
  | _ => none }
def rowDefaultsRow : OpenClaim := { program := "ytcgkooogmgbfeaadoor", sum := "0375c66ccf37c52b3dd931e2ab5abca77033b3b1a2786a35984fc14564892ead", func := "granary/granarylaw08.RowDefaults", spec := "rowDefaults", named := ["unicode/utf8.first", "unicode/utf8.acceptRanges"], apart := false, laid := [("unicode/utf8.acceptRanges", laid_unicode_utf8_acceptRanges), ("unicode/utf8.first", laid_unicode_utf8_first)] }
def RowDefaultsSaid : Prop := rowDefaultsRow.holds Tryd.pinned (OpenSpec.ofChange rowDefaultsSpec)

/-- ITS FALSE NEIGHBOUR: 'it returns false'. Refute it at one input. -/
def rowDefaultsWrong : ChangeSpec := { name := "rowDefaults", fn := fun _ => fun
  | [d1, d2, d3] => { results := [.lit (.bool false)], args := [d1, d2, d3] }
  | _ => none }
def RowDefaultsWrongFalsely : Prop := rowDefaultsRow.holds Tryd.pinned (OpenSpec.ofChange rowDefaultsWrong)

/-- 'granarylaw08.RowApart': WHATEVER THE INPUT: true; the input reads as it did. -/
def rowApartSpec : ChangeSpec := { name := "rowApart", fn := fun _ => fun
  | [d1, d2, d3] => { results := [.lit (.bool true)], args := [d1, d2, d3] }
  | _ => none }
def rowApartRow : OpenClaim := { program := "ytcgkooogmgbfeaadoor", sum := "0375c66ccf37c52b3dd931e2ab5abca77033b3b1a2786a35984fc14564892ead", func := "granary/granarylaw08.RowApart", spec := "rowApart", named := ["unicode/utf8.first", "unicode/utf8.acceptRanges"], apart := false, laid := [("unicode/utf8.acceptRanges", laid_unicode_utf8_acceptRanges), ("unicode/utf8.first", laid_unicode_utf8_first)] }
def RowApartSaid : Prop := rowApartRow.holds Tryd.pinned (OpenSpec.ofChange rowApartSpec)

/-- ITS FALSE NEIGHBOUR: 'it returns false'. Refute it at one input. -/
def rowApartWrong : ChangeSpec := { name := "rowApart", fn := fun _ => fun
  | [d1, d2, d3] => { results := [.lit (.bool false)], args := [d1, d2, d3] }
  | _ => none }
def RowApartWrongFalsely : Prop := rowApartRow.holds Tryd.pinned (OpenSpec.ofChange rowApartWrong)

/-- 'granarylaw07.KeyAll': WHATEVER THE INPUT: true; the input reads as it did. -/
def keyAllSpec : ChangeSpec := { name := "keyAll", fn := fun _ => fun
  | [d1, d2, d3, d4] => { results := [.lit (.bool true)], args := [d1, d2, d3, d4] }
  | _ => none }
def keyAllRow : OpenClaim := { program := "ytcgkooogmgbfeaadoor", sum := "0375c66ccf37c52b3dd931e2ab5abca77033b3b1a2786a35984fc14564892ead", func := "granary/granarylaw07.KeyAll", spec := "keyAll", inPlace := ["internal/abi.NoEscape"], unfollowed := true, recurses := true, named := ["unicode/utf8.first", "unicode/utf8.acceptRanges"], apart := false, laid := [("unicode/utf8.acceptRanges", laid_unicode_utf8_acceptRanges), ("unicode/utf8.first", laid_unicode_utf8_first)] }
def KeyAllSaid : Prop := keyAllRow.holds Tryd.pinned (OpenSpec.ofChange keyAllSpec)

/-- ITS FALSE NEIGHBOUR: 'it returns false'. Refute it at one input. -/
def keyAllWrong : ChangeSpec := { name := "keyAll", fn := fun _ => fun
  | [d1, d2, d3, d4] => { results := [.lit (.bool false)], args := [d1, d2, d3, d4] }
  | _ => none }
def KeyAllWrongFalsely : Prop := keyAllRow.holds Tryd.pinned (OpenSpec.ofChange keyAllWrong)

/- THE SECOND FORM. 'bulk': how many values and letters a reading holds, each counted each time it is reached (what is shared counts as often as it is met; a slice's spare places count too). A statement '..UptoSaid' is the law's where the arguments, and the package variables that the reading takes, are together of bulk at most 1048576: NARROWER than '..Said'. Prove '..Said' where nothing that the law and all that it calls make is longer than what came in: it says more and counts as full. Else prove '..UptoSaid'. A law counts once. -/
mutual
def uptoBulk {H : Type} : DataW H → Nat
  | .lit (.string bytes) => bytes.length + 1
  | .lit _ => 1
  | .nil => 1
  | .ptr d => uptoBulk d + 1
  | .slice elems spare => uptoBulkAll elems + uptoBulkAll spare + 1
  | .agg parts => uptoBulkAll parts + 1
  | .iface _ d => uptoBulk d + 1
  | .map entries => uptoBulkEntries entries + 1
  | .held _ => 1
def uptoBulkAll {H : Type} : List (DataW H) → Nat
  | [] => 0
  | d :: r => uptoBulk d + uptoBulkAll r
def uptoBulkEntries {H : Type} : List (Lit × DataW H) → Nat
  | [] => 0
  | x :: r => uptoBulkEntry x + uptoBulkEntries r
def uptoBulkEntry {H : Type} : Lit × DataW H → Nat
  | (.string bytes, d) => bytes.length + uptoBulk d + 1
  | (_, d) => uptoBulk d + 1
 end
def uptoSmall : (H : Type) → List (DataW H) → Bool := fun _ ds => decide (uptoBulkAll ds ≤ 1048576)
def OpenSpec.upto (s : _root_.Go.ChangeSpec) : _root_.Go.OpenSpec := { _root_.Go.OpenSpec.ofChange s with cond := some uptoSmall }

/-- 'granarylaw08.RowAll', WHERE WHAT IT READS IS OF BULK AT MOST 1048576: true; the input reads as it did. -/
def rowAllUptoRow : OpenClaim := { program := "ytcgkooogmgbfeaadoor", sum := "0375c66ccf37c52b3dd931e2ab5abca77033b3b1a2786a35984fc14564892ead", func := "granary/granarylaw08.RowAll", spec := "rowAll", named := ["unicode/utf8.first", "unicode/utf8.acceptRanges"], apart := false, laid := [("unicode/utf8.acceptRanges", laid_unicode_utf8_acceptRanges), ("unicode/utf8.first", laid_unicode_utf8_first)], narrowed := true }
def RowAllUptoSaid : Prop := rowAllUptoRow.holds Tryd.pinned (OpenSpec.upto rowAllSpec)

/-- 'granarylaw08.RowBack', WHERE WHAT IT READS IS OF BULK AT MOST 1048576: true; the input reads as it did. -/
def rowBackUptoRow : OpenClaim := { program := "ytcgkooogmgbfeaadoor", sum := "0375c66ccf37c52b3dd931e2ab5abca77033b3b1a2786a35984fc14564892ead", func := "granary/granarylaw08.RowBack", spec := "rowBack", named := ["unicode/utf8.first", "unicode/utf8.acceptRanges"], apart := false, laid := [("unicode/utf8.acceptRanges", laid_unicode_utf8_acceptRanges), ("unicode/utf8.first", laid_unicode_utf8_first)], narrowed := true }
def RowBackUptoSaid : Prop := rowBackUptoRow.holds Tryd.pinned (OpenSpec.upto rowBackSpec)

/-- 'granarylaw08.RowGrown', WHERE WHAT IT READS IS OF BULK AT MOST 1048576: true; the input reads as it did. -/
def rowGrownUptoRow : OpenClaim := { program := "ytcgkooogmgbfeaadoor", sum := "0375c66ccf37c52b3dd931e2ab5abca77033b3b1a2786a35984fc14564892ead", func := "granary/granarylaw08.RowGrown", spec := "rowGrown", named := ["unicode/utf8.first", "unicode/utf8.acceptRanges"], apart := false, laid := [("unicode/utf8.acceptRanges", laid_unicode_utf8_acceptRanges), ("unicode/utf8.first", laid_unicode_utf8_first)], narrowed := true }
def RowGrownUptoSaid : Prop := rowGrownUptoRow.holds Tryd.pinned (OpenSpec.upto rowGrownSpec)

/-- 'granarylaw08.RowPlace', WHERE WHAT IT READS IS OF BULK AT MOST 1048576: true; the input reads as it did. -/
def rowPlaceUptoRow : OpenClaim := { program := "ytcgkooogmgbfeaadoor", sum := "0375c66ccf37c52b3dd931e2ab5abca77033b3b1a2786a35984fc14564892ead", func := "granary/granarylaw08.RowPlace", spec := "rowPlace", named := ["unicode/utf8.first", "unicode/utf8.acceptRanges"], apart := false, laid := [("unicode/utf8.acceptRanges", laid_unicode_utf8_acceptRanges), ("unicode/utf8.first", laid_unicode_utf8_first)], narrowed := true }
def RowPlaceUptoSaid : Prop := rowPlaceUptoRow.holds Tryd.pinned (OpenSpec.upto rowPlaceSpec)

/-- 'granarylaw08.RowDefaults', WHERE WHAT IT READS IS OF BULK AT MOST 1048576: true; the input reads as it did. -/
def rowDefaultsUptoRow : OpenClaim := { program := "ytcgkooogmgbfeaadoor", sum := "0375c66ccf37c52b3dd931e2ab5abca77033b3b1a2786a35984fc14564892ead", func := "granary/granarylaw08.RowDefaults", spec := "rowDefaults", named := ["unicode/utf8.first", "unicode/utf8.acceptRanges"], apart := false, laid := [("unicode/utf8.acceptRanges", laid_unicode_utf8_acceptRanges), ("unicode/utf8.first", laid_unicode_utf8_first)], narrowed := true }
def RowDefaultsUptoSaid : Prop := rowDefaultsUptoRow.holds Tryd.pinned (OpenSpec.upto rowDefaultsSpec)

/-- 'granarylaw08.RowApart', WHERE WHAT IT READS IS OF BULK AT MOST 1048576: true; the input reads as it did. -/
def rowApartUptoRow : OpenClaim := { program := "ytcgkooogmgbfeaadoor", sum := "0375c66ccf37c52b3dd931e2ab5abca77033b3b1a2786a35984fc14564892ead", func := "granary/granarylaw08.RowApart", spec := "rowApart", named := ["unicode/utf8.first", "unicode/utf8.acceptRanges"], apart := false, laid := [("unicode/utf8.acceptRanges", laid_unicode_utf8_acceptRanges), ("unicode/utf8.first", laid_unicode_utf8_first)], narrowed := true }
def RowApartUptoSaid : Prop := rowApartUptoRow.holds Tryd.pinned (OpenSpec.upto rowApartSpec)

/-- 'granarylaw07.KeyAll', WHERE WHAT IT READS IS OF BULK AT MOST 1048576: true; the input reads as it did. -/
def keyAllUptoRow : OpenClaim := { program := "ytcgkooogmgbfeaadoor", sum := "0375c66ccf37c52b3dd931e2ab5abca77033b3b1a2786a35984fc14564892ead", func := "granary/granarylaw07.KeyAll", spec := "keyAll", inPlace := ["internal/abi.NoEscape"], unfollowed := true, recurses := true, named := ["unicode/utf8.first", "unicode/utf8.acceptRanges"], apart := false, laid := [("unicode/utf8.acceptRanges", laid_unicode_utf8_acceptRanges), ("unicode/utf8.first", laid_unicode_utf8_first)], narrowed := true }
def KeyAllUptoSaid : Prop := keyAllUptoRow.holds Tryd.pinned (OpenSpec.upto keyAllSpec)

end Rows
end Go.Proofs.YtcgkooogmgbfeaaDoor
