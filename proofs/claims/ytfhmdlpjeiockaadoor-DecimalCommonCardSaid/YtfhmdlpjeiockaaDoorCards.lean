/-
  DERIVED. GIVEN WITH THE SEED: THE CARDS: each row of YtfhmdlpjeiockaaDoorRows.lean that lists a variable, with what it lists TIED to the program's text (the seventh form; the later family's looks); each row that meets fmt, with fmt's text TOLD by the authors' own Lean function (tested against real Go, not proved from fmt's source: count such statements apart). THE CARD IS WHAT COUNTS. Prove the row's statement (the work); the ties are given (YtfhmdlpjeiockaaDoorTie.lean); close each card by the builder's one call (the guide's Derived/Test/ToyasCard.lean, 'card_holds'). Laid BY PROGRAM, IN A SANDBOX (cutbox-door.mjs). By AI agents, Wed Nov 11 2026. No macro, syntax, notation, axiom, sorry.
-/
import Derived.Test.YtfhmdlpjeiockaaDoorRows
import GoSem.ClaimSeven
namespace Go.Proofs.YtfhmdlpjeiockaaDoor
namespace Rows

/-- THE TIED CARD OF 'schismalaw01.DecimalDivides'. -/
def decimalDividesCard : Claim7 := { stood := { row := decimalDividesRow, standIns := [], harness := (true, "a7bc42c817889177e1f8f2144fa902b18422f70e01abbd2bab45812639ec5e3b"), looks := true }, kinds := [], alts := [], laidByText := true, laidKinds := [.data, .data, .data, .data, .sentinel, .sentinel, .pinned], laidTests := true, laidLooks := .later }
def DecimalDividesCardSaid : Prop := Claim7.holds Tryd.pinned (.plain (OpenSpec.ofChange decimalDividesSpec)) decimalDividesCard

/-- THE TIED CARD OF 'schismalaw01.DecimalCommon'. -/
def decimalCommonCard : Claim7 := { stood := { row := decimalCommonRow, standIns := [], harness := (true, "a7bc42c817889177e1f8f2144fa902b18422f70e01abbd2bab45812639ec5e3b"), looks := true }, kinds := [], alts := [], laidByText := true, laidKinds := [.data, .data, .data, .data, .sentinel, .sentinel, .pinned], laidTests := true, laidLooks := .later }
def DecimalCommonCardSaid : Prop := Claim7.holds Tryd.pinned (.plain (OpenSpec.ofChange decimalCommonSpec)) decimalCommonCard

/-- THE SECOND FORM's CARD OF 'schismalaw01.DecimalDivides'. -/
def decimalDividesUptoCard : Claim7 := { stood := { row := decimalDividesUptoRow, standIns := [], harness := (true, "a7bc42c817889177e1f8f2144fa902b18422f70e01abbd2bab45812639ec5e3b"), looks := true }, kinds := [], alts := [], laidByText := true, laidKinds := [.data, .data, .data, .data, .sentinel, .sentinel, .pinned], laidTests := true, laidLooks := .later }
def DecimalDividesUptoCardSaid : Prop := Claim7.holds Tryd.pinned (.plain (OpenSpec.upto decimalDividesSpec)) decimalDividesUptoCard

/-- THE SECOND FORM's CARD OF 'schismalaw01.DecimalCommon'. -/
def decimalCommonUptoCard : Claim7 := { stood := { row := decimalCommonUptoRow, standIns := [], harness := (true, "a7bc42c817889177e1f8f2144fa902b18422f70e01abbd2bab45812639ec5e3b"), looks := true }, kinds := [], alts := [], laidByText := true, laidKinds := [.data, .data, .data, .data, .sentinel, .sentinel, .pinned], laidTests := true, laidLooks := .later }
def DecimalCommonUptoCardSaid : Prop := Claim7.holds Tryd.pinned (.plain (OpenSpec.upto decimalCommonSpec)) decimalCommonUptoCard
end Rows
end Go.Proofs.YtfhmdlpjeiockaaDoor
