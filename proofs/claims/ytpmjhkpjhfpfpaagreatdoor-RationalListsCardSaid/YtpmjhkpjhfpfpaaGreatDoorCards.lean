/-
  DERIVED. GIVEN WITH THE SEED: THE CARDS: each row of YtpmjhkpjhfpfpaaGreatDoorRows.lean that lists a variable, with what it lists TIED to the program's text (the seventh form; the later family's looks); each row that meets fmt, with fmt's text TOLD by the authors' own Lean function (tested against real Go, not proved from fmt's source: count such statements apart). THE CARD IS WHAT COUNTS. Prove the row's statement (the work); the ties are given (YtpmjhkpjhfpfpaaGreatDoorTie.lean); close each card by the builder's one call (the guide's Derived/Test/ToyasCard.lean, 'card_holds'). Laid BY PROGRAM, IN A SANDBOX (cutbox-door.mjs). By AI agents, Wed Nov 11 2026. No macro, syntax, notation, axiom, sorry.
-/
import Derived.Test.YtpmjhkpjhfpfpaaGreatDoorRows
import GoSem.ClaimSeven
namespace Go.Proofs.YtpmjhkpjhfpfpaaGreatDoor
namespace Rows

/-- THE TIED CARD OF 'credencelaw2.RationalLists'. -/
def rationalListsCard : Claim7 := { stood := { row := rationalListsRow, standIns := [], harness := (true, "db3050e50e3250c805f58a82fa5944368989500d431923b02dc8a5b9d8a5815e"), looks := false }, kinds := [], alts := [], laidByText := true, laidKinds := [.data, .pinned], laidTests := true, laidLooks := .later }
def RationalListsCardSaid : Prop := Claim7.holds Tryz.pinned (.plain (OpenSpec.ofChange rationalListsSpec)) rationalListsCard

/-- THE SECOND FORM's CARD OF 'credencelaw2.RationalLists'. -/
def rationalListsUptoCard : Claim7 := { stood := { row := rationalListsUptoRow, standIns := [], harness := (true, "db3050e50e3250c805f58a82fa5944368989500d431923b02dc8a5b9d8a5815e"), looks := false }, kinds := [], alts := [], laidByText := true, laidKinds := [.data, .pinned], laidTests := true, laidLooks := .later }
def RationalListsUptoCardSaid : Prop := Claim7.holds Tryz.pinned (.plain (OpenSpec.upto rationalListsSpec)) rationalListsUptoCard
end Rows
end Go.Proofs.YtpmjhkpjhfpfpaaGreatDoor
