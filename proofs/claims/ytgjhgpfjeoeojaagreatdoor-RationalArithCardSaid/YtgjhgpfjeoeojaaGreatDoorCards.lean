/-
  DERIVED. GIVEN WITH THE SEED: THE CARDS: each row of YtgjhgpfjeoeojaaGreatDoorRows.lean that lists a variable, with what it lists TIED to the program's text (the seventh form; the later family's looks); each row that meets fmt, with fmt's text TOLD by the authors' own Lean function (tested against real Go, not proved from fmt's source: count such statements apart). THE CARD IS WHAT COUNTS. Prove the row's statement (the work); the ties are given (YtgjhgpfjeoeojaaGreatDoorTie.lean); close each card by the builder's one call (the guide's Derived/Test/ToyasCard.lean, 'card_holds'). Laid BY PROGRAM, IN A SANDBOX (cutbox-door.mjs). By AI agents, Wed Nov 11 2026. No macro, syntax, notation, axiom, sorry.
-/
import Derived.Test.YtgjhgpfjeoeojaaGreatDoorRows
import GoSem.ClaimSeven
namespace Go.Proofs.YtgjhgpfjeoeojaaGreatDoor
namespace Rows

/-- THE TIED CARD OF 'credencelaw2.RationalArith'. -/
def rationalArithCard : Claim7 := { stood := { row := rationalArithRow, standIns := [], harness := (true, "f5b92dab9469826015f1b79da83b6e1eb932c83e8549e9a3f69b80a9360b074b"), looks := false }, kinds := [], alts := [], laidByText := true, laidKinds := [.data, .pinned], laidTests := true, laidLooks := .later }
def RationalArithCardSaid : Prop := Claim7.holds Tryz.pinned (.plain (OpenSpec.ofChange rationalArithSpec)) rationalArithCard

/-- THE TIED CARD OF 'credencelaw2.RationalText'. -/
def rationalTextCard : Claim7 := { stood := { row := rationalTextRow, standIns := [], harness := (true, "f5b92dab9469826015f1b79da83b6e1eb932c83e8549e9a3f69b80a9360b074b"), looks := false }, kinds := [], alts := [], laidByText := true, laidKinds := [.data, .pinned], laidTests := true, laidLooks := .later }
def RationalTextCardSaid : Prop := Claim7.holds Tryz.pinned (.plain (OpenSpec.ofChange rationalTextSpec)) rationalTextCard

/-- THE TIED CARD OF 'credencelaw2.RationalField'. -/
def rationalFieldCard : Claim7 := { stood := { row := rationalFieldRow, standIns := [], harness := (true, "f5b92dab9469826015f1b79da83b6e1eb932c83e8549e9a3f69b80a9360b074b"), looks := false }, kinds := [], alts := [], laidByText := true, laidKinds := [.data, .pinned], laidTests := true, laidLooks := .later }
def RationalFieldCardSaid : Prop := Claim7.holds Tryz.pinned (.plain (OpenSpec.ofChange rationalFieldSpec)) rationalFieldCard

/-- THE TIED CARD OF 'credencelaw2.RationalOrder'. -/
def rationalOrderCard : Claim7 := { stood := { row := rationalOrderRow, standIns := [], harness := (true, "f5b92dab9469826015f1b79da83b6e1eb932c83e8549e9a3f69b80a9360b074b"), looks := false }, kinds := [], alts := [], laidByText := true, laidKinds := [.data, .pinned], laidTests := true, laidLooks := .later }
def RationalOrderCardSaid : Prop := Claim7.holds Tryz.pinned (.plain (OpenSpec.ofChange rationalOrderSpec)) rationalOrderCard

/-- THE TIED CARD OF 'credencelaw2.RationalLists'. -/
def rationalListsCard : Claim7 := { stood := { row := rationalListsRow, standIns := [], harness := (true, "f5b92dab9469826015f1b79da83b6e1eb932c83e8549e9a3f69b80a9360b074b"), looks := false }, kinds := [], alts := [], laidByText := true, laidKinds := [.data, .pinned], laidTests := true, laidLooks := .later }
def RationalListsCardSaid : Prop := Claim7.holds Tryz.pinned (.plain (OpenSpec.ofChange rationalListsSpec)) rationalListsCard

/-- THE SECOND FORM's CARD OF 'credencelaw2.RationalArith'. -/
def rationalArithUptoCard : Claim7 := { stood := { row := rationalArithUptoRow, standIns := [], harness := (true, "f5b92dab9469826015f1b79da83b6e1eb932c83e8549e9a3f69b80a9360b074b"), looks := false }, kinds := [], alts := [], laidByText := true, laidKinds := [.data, .pinned], laidTests := true, laidLooks := .later }
def RationalArithUptoCardSaid : Prop := Claim7.holds Tryz.pinned (.plain (OpenSpec.upto rationalArithSpec)) rationalArithUptoCard

/-- THE SECOND FORM's CARD OF 'credencelaw2.RationalText'. -/
def rationalTextUptoCard : Claim7 := { stood := { row := rationalTextUptoRow, standIns := [], harness := (true, "f5b92dab9469826015f1b79da83b6e1eb932c83e8549e9a3f69b80a9360b074b"), looks := false }, kinds := [], alts := [], laidByText := true, laidKinds := [.data, .pinned], laidTests := true, laidLooks := .later }
def RationalTextUptoCardSaid : Prop := Claim7.holds Tryz.pinned (.plain (OpenSpec.upto rationalTextSpec)) rationalTextUptoCard

/-- THE SECOND FORM's CARD OF 'credencelaw2.RationalField'. -/
def rationalFieldUptoCard : Claim7 := { stood := { row := rationalFieldUptoRow, standIns := [], harness := (true, "f5b92dab9469826015f1b79da83b6e1eb932c83e8549e9a3f69b80a9360b074b"), looks := false }, kinds := [], alts := [], laidByText := true, laidKinds := [.data, .pinned], laidTests := true, laidLooks := .later }
def RationalFieldUptoCardSaid : Prop := Claim7.holds Tryz.pinned (.plain (OpenSpec.upto rationalFieldSpec)) rationalFieldUptoCard

/-- THE SECOND FORM's CARD OF 'credencelaw2.RationalOrder'. -/
def rationalOrderUptoCard : Claim7 := { stood := { row := rationalOrderUptoRow, standIns := [], harness := (true, "f5b92dab9469826015f1b79da83b6e1eb932c83e8549e9a3f69b80a9360b074b"), looks := false }, kinds := [], alts := [], laidByText := true, laidKinds := [.data, .pinned], laidTests := true, laidLooks := .later }
def RationalOrderUptoCardSaid : Prop := Claim7.holds Tryz.pinned (.plain (OpenSpec.upto rationalOrderSpec)) rationalOrderUptoCard

/-- THE SECOND FORM's CARD OF 'credencelaw2.RationalLists'. -/
def rationalListsUptoCard : Claim7 := { stood := { row := rationalListsUptoRow, standIns := [], harness := (true, "f5b92dab9469826015f1b79da83b6e1eb932c83e8549e9a3f69b80a9360b074b"), looks := false }, kinds := [], alts := [], laidByText := true, laidKinds := [.data, .pinned], laidTests := true, laidLooks := .later }
def RationalListsUptoCardSaid : Prop := Claim7.holds Tryz.pinned (.plain (OpenSpec.upto rationalListsSpec)) rationalListsUptoCard
end Rows
end Go.Proofs.YtgjhgpfjeoeojaaGreatDoor
