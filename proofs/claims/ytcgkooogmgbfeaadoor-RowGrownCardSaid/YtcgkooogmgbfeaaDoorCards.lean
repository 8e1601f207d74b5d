/-
  DERIVED. GIVEN WITH THE SEED: THE CARDS: each row of YtcgkooogmgbfeaaDoorRows.lean that lists a variable, with what it lists TIED to the program's text (the seventh form; the later family's looks); each row that meets fmt, with fmt's text TOLD by the authors' own Lean function (tested against real Go, not proved from fmt's source: count such statements apart). THE CARD IS WHAT COUNTS. Prove the row's statement (the work); the ties are given (YtcgkooogmgbfeaaDoorTie.lean); close each card by the builder's one call (the guide's Derived/Test/ToyasCard.lean, 'card_holds'). Laid BY PROGRAM, IN A SANDBOX (cutbox-door.mjs). By AI agents, Wed Nov 11 2026. No macro, syntax, notation, axiom, sorry.
-/
import Derived.Test.YtcgkooogmgbfeaaDoorRows
import GoSem.ClaimSeven
namespace Go.Proofs.YtcgkooogmgbfeaaDoor
namespace Rows

/-- THE TIED CARD OF 'granarylaw08.RowAll'. -/
def rowAllCard : Claim7 := { stood := { row := rowAllRow, standIns := [], harness := (true, "1f9ddfe0eb920f7eef1bef3d9ba675f055b3bc5d7676714d9f1cde9b6357242a"), looks := false }, kinds := [], alts := [], laidByText := true, laidKinds := [.data, .pinned], laidTests := true, laidLooks := .later }
def RowAllCardSaid : Prop := Claim7.holds Tryd.pinned (.plain (OpenSpec.ofChange rowAllSpec)) rowAllCard

/-- THE TIED CARD OF 'granarylaw08.RowBack'. -/
def rowBackCard : Claim7 := { stood := { row := rowBackRow, standIns := [], harness := (true, "1f9ddfe0eb920f7eef1bef3d9ba675f055b3bc5d7676714d9f1cde9b6357242a"), looks := false }, kinds := [], alts := [], laidByText := true, laidKinds := [.data, .pinned], laidTests := true, laidLooks := .later }
def RowBackCardSaid : Prop := Claim7.holds Tryd.pinned (.plain (OpenSpec.ofChange rowBackSpec)) rowBackCard

/-- THE TIED CARD OF 'granarylaw08.RowGrown'. -/
def rowGrownCard : Claim7 := { stood := { row := rowGrownRow, standIns := [], harness := (true, "1f9ddfe0eb920f7eef1bef3d9ba675f055b3bc5d7676714d9f1cde9b6357242a"), looks := false }, kinds := [], alts := [], laidByText := true, laidKinds := [.data, .pinned], laidTests := true, laidLooks := .later }
def RowGrownCardSaid : Prop := Claim7.holds Tryd.pinned (.plain (OpenSpec.ofChange rowGrownSpec)) rowGrownCard

/-- THE TIED CARD OF 'granarylaw08.RowPlace'. -/
def rowPlaceCard : Claim7 := { stood := { row := rowPlaceRow, standIns := [], harness := (true, "1f9ddfe0eb920f7eef1bef3d9ba675f055b3bc5d7676714d9f1cde9b6357242a"), looks := false }, kinds := [], alts := [], laidByText := true, laidKinds := [.data, .pinned], laidTests := true, laidLooks := .later }
def RowPlaceCardSaid : Prop := Claim7.holds Tryd.pinned (.plain (OpenSpec.ofChange rowPlaceSpec)) rowPlaceCard

/-- THE TIED CARD OF 'granarylaw08.RowDefaults'. -/
def rowDefaultsCard : Claim7 := { stood := { row := rowDefaultsRow, standIns := [], harness := (true, "1f9ddfe0eb920f7eef1bef3d9ba675f055b3bc5d7676714d9f1cde9b6357242a"), looks := false }, kinds := [], alts := [], laidByText := true, laidKinds := [.data, .pinned], laidTests := true, laidLooks := .later }
def RowDefaultsCardSaid : Prop := Claim7.holds Tryd.pinned (.plain (OpenSpec.ofChange rowDefaultsSpec)) rowDefaultsCard

/-- THE TIED CARD OF 'granarylaw08.RowApart'. -/
def rowApartCard : Claim7 := { stood := { row := rowApartRow, standIns := [], harness := (true, "1f9ddfe0eb920f7eef1bef3d9ba675f055b3bc5d7676714d9f1cde9b6357242a"), looks := false }, kinds := [], alts := [], laidByText := true, laidKinds := [.data, .pinned], laidTests := true, laidLooks := .later }
def RowApartCardSaid : Prop := Claim7.holds Tryd.pinned (.plain (OpenSpec.ofChange rowApartSpec)) rowApartCard

/-- THE TIED CARD OF 'granarylaw07.KeyAll'. -/
def keyAllCard : Claim7 := { stood := { row := keyAllRow, standIns := [], harness := (true, "1f9ddfe0eb920f7eef1bef3d9ba675f055b3bc5d7676714d9f1cde9b6357242a"), looks := false }, kinds := [], alts := [], laidByText := true, laidKinds := [.data, .pinned], laidTests := true, laidLooks := .later }
def KeyAllCardSaid : Prop := Claim7.holds Tryd.pinned (.plain (OpenSpec.ofChange keyAllSpec)) keyAllCard

/-- THE SECOND FORM's CARD OF 'granarylaw08.RowAll'. -/
def rowAllUptoCard : Claim7 := { stood := { row := rowAllUptoRow, standIns := [], harness := (true, "1f9ddfe0eb920f7eef1bef3d9ba675f055b3bc5d7676714d9f1cde9b6357242a"), looks := false }, kinds := [], alts := [], laidByText := true, laidKinds := [.data, .pinned], laidTests := true, laidLooks := .later }
def RowAllUptoCardSaid : Prop := Claim7.holds Tryd.pinned (.plain (OpenSpec.upto rowAllSpec)) rowAllUptoCard

/-- THE SECOND FORM's CARD OF 'granarylaw08.RowBack'. -/
def rowBackUptoCard : Claim7 := { stood := { row := rowBackUptoRow, standIns := [], harness := (true, "1f9ddfe0eb920f7eef1bef3d9ba675f055b3bc5d7676714d9f1cde9b6357242a"), looks := false }, kinds := [], alts := [], laidByText := true, laidKinds := [.data, .pinned], laidTests := true, laidLooks := .later }
def RowBackUptoCardSaid : Prop := Claim7.holds Tryd.pinned (.plain (OpenSpec.upto rowBackSpec)) rowBackUptoCard

/-- THE SECOND FORM's CARD OF 'granarylaw08.RowGrown'. -/
def rowGrownUptoCard : Claim7 := { stood := { row := rowGrownUptoRow, standIns := [], harness := (true, "1f9ddfe0eb920f7eef1bef3d9ba675f055b3bc5d7676714d9f1cde9b6357242a"), looks := false }, kinds := [], alts := [], laidByText := true, laidKinds := [.data, .pinned], laidTests := true, laidLooks := .later }
def RowGrownUptoCardSaid : Prop := Claim7.holds Tryd.pinned (.plain (OpenSpec.upto rowGrownSpec)) rowGrownUptoCard

/-- THE SECOND FORM's CARD OF 'granarylaw08.RowPlace'. -/
def rowPlaceUptoCard : Claim7 := { stood := { row := rowPlaceUptoRow, standIns := [], harness := (true, "1f9ddfe0eb920f7eef1bef3d9ba675f055b3bc5d7676714d9f1cde9b6357242a"), looks := false }, kinds := [], alts := [], laidByText := true, laidKinds := [.data, .pinned], laidTests := true, laidLooks := .later }
def RowPlaceUptoCardSaid : Prop := Claim7.holds Tryd.pinned (.plain (OpenSpec.upto rowPlaceSpec)) rowPlaceUptoCard

/-- THE SECOND FORM's CARD OF 'granarylaw08.RowDefaults'. -/
def rowDefaultsUptoCard : Claim7 := { stood := { row := rowDefaultsUptoRow, standIns := [], harness := (true, "1f9ddfe0eb920f7eef1bef3d9ba675f055b3bc5d7676714d9f1cde9b6357242a"), looks := false }, kinds := [], alts := [], laidByText := true, laidKinds := [.data, .pinned], laidTests := true, laidLooks := .later }
def RowDefaultsUptoCardSaid : Prop := Claim7.holds Tryd.pinned (.plain (OpenSpec.upto rowDefaultsSpec)) rowDefaultsUptoCard

/-- THE SECOND FORM's CARD OF 'granarylaw08.RowApart'. -/
def rowApartUptoCard : Claim7 := { stood := { row := rowApartUptoRow, standIns := [], harness := (true, "1f9ddfe0eb920f7eef1bef3d9ba675f055b3bc5d7676714d9f1cde9b6357242a"), looks := false }, kinds := [], alts := [], laidByText := true, laidKinds := [.data, .pinned], laidTests := true, laidLooks := .later }
def RowApartUptoCardSaid : Prop := Claim7.holds Tryd.pinned (.plain (OpenSpec.upto rowApartSpec)) rowApartUptoCard

/-- THE SECOND FORM's CARD OF 'granarylaw07.KeyAll'. -/
def keyAllUptoCard : Claim7 := { stood := { row := keyAllUptoRow, standIns := [], harness := (true, "1f9ddfe0eb920f7eef1bef3d9ba675f055b3bc5d7676714d9f1cde9b6357242a"), looks := false }, kinds := [], alts := [], laidByText := true, laidKinds := [.data, .pinned], laidTests := true, laidLooks := .later }
def KeyAllUptoCardSaid : Prop := Claim7.holds Tryd.pinned (.plain (OpenSpec.upto keyAllSpec)) keyAllUptoCard
end Rows
end Go.Proofs.YtcgkooogmgbfeaaDoor
