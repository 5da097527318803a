/-
  DERIVED. GIVEN WITH THE SEED: THE CARDS: each row of YtgjhgpfjeoeojaaDoorRows.lean that lists a variable, with what it lists TIED to the program's text (the seventh form; the later family's looks); each row that meets fmt, with fmt's text TOLD by the authors' own Lean function (tested against real Go, not proved from fmt's source: count such statements apart). THE CARD IS WHAT COUNTS. Prove the row's statement (the work); the ties are given (YtgjhgpfjeoeojaaDoorTie.lean); close each card by the builder's one call (the guide's Derived/Test/ToyasCard.lean, 'card_holds'). Laid BY PROGRAM, IN A SANDBOX (cutbox-door.mjs). By AI agents, Wed Nov 11 2026. No macro, syntax, notation, axiom, sorry.
-/
import Derived.Test.YtgjhgpfjeoeojaaDoorRows
import GoSem.ClaimSeven
namespace Go.Proofs.YtgjhgpfjeoeojaaDoor
namespace Rows

/-- THE TIED CARD OF 'credencelaw2.RationalNew'. -/
def rationalNewCard : Claim7 := { stood := { row := rationalNewRow, standIns := [], harness := (true, "c3f2d7c72b1d2fdb2caee9b8ad2c481b08f1c3bd838675c07de8b2b4e8406c4e"), looks := false }, kinds := [], alts := [], laidByText := true, laidKinds := [.data, .pinned], laidTests := true, laidLooks := .later }
def RationalNewCardSaid : Prop := Claim7.holds Tryd.pinned (.plain (OpenSpec.ofChange rationalNewSpec)) rationalNewCard

/-- THE TIED CARD OF 'credencelaw2.RationalDecimal'. -/
def rationalDecimalCard : Claim7 := { stood := { row := rationalDecimalRow, standIns := [], harness := (true, "c3f2d7c72b1d2fdb2caee9b8ad2c481b08f1c3bd838675c07de8b2b4e8406c4e"), looks := false }, kinds := [], alts := [], laidByText := true, laidKinds := [.data, .pinned], laidTests := true, laidLooks := .later }
def RationalDecimalCardSaid : Prop := Claim7.holds Tryd.pinned (.plain (OpenSpec.ofChange rationalDecimalSpec)) rationalDecimalCard

/-- THE TIED CARD OF 'credencelaw2.RationalCanonical'. -/
def rationalCanonicalCard : Claim7 := { stood := { row := rationalCanonicalRow, standIns := [], harness := (true, "c3f2d7c72b1d2fdb2caee9b8ad2c481b08f1c3bd838675c07de8b2b4e8406c4e"), looks := false }, kinds := [], alts := [], laidByText := true, laidKinds := [.data, .pinned], laidTests := true, laidLooks := .later }
def RationalCanonicalCardSaid : Prop := Claim7.holds Tryd.pinned (.plain (OpenSpec.ofChange rationalCanonicalSpec)) rationalCanonicalCard

/-- THE SECOND FORM's CARD OF 'credencelaw2.RationalNew'. -/
def rationalNewUptoCard : Claim7 := { stood := { row := rationalNewUptoRow, standIns := [], harness := (true, "c3f2d7c72b1d2fdb2caee9b8ad2c481b08f1c3bd838675c07de8b2b4e8406c4e"), looks := false }, kinds := [], alts := [], laidByText := true, laidKinds := [.data, .pinned], laidTests := true, laidLooks := .later }
def RationalNewUptoCardSaid : Prop := Claim7.holds Tryd.pinned (.plain (OpenSpec.upto rationalNewSpec)) rationalNewUptoCard

/-- THE SECOND FORM's CARD OF 'credencelaw2.RationalDecimal'. -/
def rationalDecimalUptoCard : Claim7 := { stood := { row := rationalDecimalUptoRow, standIns := [], harness := (true, "c3f2d7c72b1d2fdb2caee9b8ad2c481b08f1c3bd838675c07de8b2b4e8406c4e"), looks := false }, kinds := [], alts := [], laidByText := true, laidKinds := [.data, .pinned], laidTests := true, laidLooks := .later }
def RationalDecimalUptoCardSaid : Prop := Claim7.holds Tryd.pinned (.plain (OpenSpec.upto rationalDecimalSpec)) rationalDecimalUptoCard

/-- THE SECOND FORM's CARD OF 'credencelaw2.RationalCanonical'. -/
def rationalCanonicalUptoCard : Claim7 := { stood := { row := rationalCanonicalUptoRow, standIns := [], harness := (true, "c3f2d7c72b1d2fdb2caee9b8ad2c481b08f1c3bd838675c07de8b2b4e8406c4e"), looks := false }, kinds := [], alts := [], laidByText := true, laidKinds := [.data, .pinned], laidTests := true, laidLooks := .later }
def RationalCanonicalUptoCardSaid : Prop := Claim7.holds Tryd.pinned (.plain (OpenSpec.upto rationalCanonicalSpec)) rationalCanonicalUptoCard
end Rows
end Go.Proofs.YtgjhgpfjeoeojaaDoor
