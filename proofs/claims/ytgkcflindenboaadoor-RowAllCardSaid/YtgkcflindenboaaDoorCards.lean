/-
  DERIVED. GIVEN WITH THE SEED: THE CARDS: each row of YtgkcflindenboaaDoorRows.lean that lists a variable, with what it lists TIED to the program's text (the seventh form; the later family's looks); each row that meets fmt, with fmt's text TOLD by the authors' own Lean function (tested against real Go, not proved from fmt's source: count such statements apart). THE CARD IS WHAT COUNTS. Prove the row's statement (the work); the ties are given (YtgkcflindenboaaDoorTie.lean); close each card by the builder's one call (the guide's Derived/Test/ToyasCard.lean, 'card_holds'). Laid BY PROGRAM, IN A SANDBOX (cutbox-door.mjs). By AI agents, Wed Nov 11 2026. No macro, syntax, notation, axiom, sorry.
-/
import Derived.Test.YtgkcflindenboaaDoorRows
import GoSem.ClaimSeven
namespace Go.Proofs.YtgkcflindenboaaDoor
namespace Rows

/-- THE TIED CARD OF 'granarylaw07.KeyAll'. -/
def keyAllCard : Claim7 := { stood := { row := keyAllRow, standIns := [], harness := (true, "6da32596d043db1b8fab9d7bdcd1fdb714fa2f89b14096a324d255b3990fb2a0"), looks := false }, kinds := [], alts := [], laidByText := true, laidKinds := [.data, .pinned], laidTests := true, laidLooks := .later }
def KeyAllCardSaid : Prop := Claim7.holds Tryd.pinned (.plain (OpenSpec.ofChange keyAllSpec)) keyAllCard

/-- THE TIED CARD OF 'granarylaw08.RowAll'. -/
def rowAllCard : Claim7 := { stood := { row := rowAllRow, standIns := [], harness := (true, "6da32596d043db1b8fab9d7bdcd1fdb714fa2f89b14096a324d255b3990fb2a0"), looks := false }, kinds := [], alts := [], laidByText := true, laidKinds := [.data, .pinned], laidTests := true, laidLooks := .later }
def RowAllCardSaid : Prop := Claim7.holds Tryd.pinned (.plain (OpenSpec.ofChange rowAllSpec)) rowAllCard

/-- THE SECOND FORM's CARD OF 'granarylaw07.KeyAll'. -/
def keyAllUptoCard : Claim7 := { stood := { row := keyAllUptoRow, standIns := [], harness := (true, "6da32596d043db1b8fab9d7bdcd1fdb714fa2f89b14096a324d255b3990fb2a0"), looks := false }, kinds := [], alts := [], laidByText := true, laidKinds := [.data, .pinned], laidTests := true, laidLooks := .later }
def KeyAllUptoCardSaid : Prop := Claim7.holds Tryd.pinned (.plain (OpenSpec.upto keyAllSpec)) keyAllUptoCard

/-- THE SECOND FORM's CARD OF 'granarylaw08.RowAll'. -/
def rowAllUptoCard : Claim7 := { stood := { row := rowAllUptoRow, standIns := [], harness := (true, "6da32596d043db1b8fab9d7bdcd1fdb714fa2f89b14096a324d255b3990fb2a0"), looks := false }, kinds := [], alts := [], laidByText := true, laidKinds := [.data, .pinned], laidTests := true, laidLooks := .later }
def RowAllUptoCardSaid : Prop := Claim7.holds Tryd.pinned (.plain (OpenSpec.upto rowAllSpec)) rowAllUptoCard
end Rows
end Go.Proofs.YtgkcflindenboaaDoor
