/-
  DERIVED. GIVEN WITH THE SEED: THE CARDS: each row of YtpmjhkpjhfpfpaaDoorRows.lean that lists a variable, with what it lists TIED to the program's text (the seventh form; the later family's looks); each row that meets fmt, with fmt's text TOLD by the authors' own Lean function (tested against real Go, not proved from fmt's source: count such statements apart). THE CARD IS WHAT COUNTS. Prove the row's statement (the work); the ties are given (YtpmjhkpjhfpfpaaDoorTie.lean); close each card by the builder's one call (the guide's Derived/Test/ToyasCard.lean, 'card_holds'). Laid BY PROGRAM, IN A SANDBOX (cutbox-door.mjs). By AI agents, Wed Nov 11 2026. No macro, syntax, notation, axiom, sorry.
-/
import Derived.Test.YtpmjhkpjhfpfpaaDoorRows
import GoSem.ClaimSeven
namespace Go.Proofs.YtpmjhkpjhfpfpaaDoor
namespace Rows

/-- THE TIED CARD OF 'credencelaw2.RationalDecimal'. -/
def rationalDecimalCard : Claim7 := { stood := { row := rationalDecimalRow, standIns := [], harness := (true, "8710f6c011dcd1b564a57a73bbf7c52c8e739df4fc68f114aec3c6f647ad45e4"), looks := false }, kinds := [], alts := [], laidByText := true, laidKinds := [.data, .pinned], laidTests := true, laidLooks := .later }
def RationalDecimalCardSaid : Prop := Claim7.holds Tryd.pinned (.plain (OpenSpec.ofChange rationalDecimalSpec)) rationalDecimalCard

/-- THE SECOND FORM's CARD OF 'credencelaw2.RationalDecimal'. -/
def rationalDecimalUptoCard : Claim7 := { stood := { row := rationalDecimalUptoRow, standIns := [], harness := (true, "8710f6c011dcd1b564a57a73bbf7c52c8e739df4fc68f114aec3c6f647ad45e4"), looks := false }, kinds := [], alts := [], laidByText := true, laidKinds := [.data, .pinned], laidTests := true, laidLooks := .later }
def RationalDecimalUptoCardSaid : Prop := Claim7.holds Tryd.pinned (.plain (OpenSpec.upto rationalDecimalSpec)) rationalDecimalUptoCard
end Rows
end Go.Proofs.YtpmjhkpjhfpfpaaDoor
