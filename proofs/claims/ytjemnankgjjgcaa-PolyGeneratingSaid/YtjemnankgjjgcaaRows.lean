/-
  No cell of these rows narrows 'for every input' (looked for: loops, veiled, ifaces, maps, wideKeys, modest, calm, conditions, laid).
  DERIVED. THE GIVEN ROWS OF THIS SEAT. 7 by the template 'for every input the law returns true; each argument reads behind the call as it read before'; 0 by the template 'total and deterministic' (their statements: YtjemnankgjjgcaaTotals.lean).
  GIVEN WITH THE SEED: the statements are not yours to turn. If you find one false, say at which input.
  Laid BY PROGRAM, IN A SANDBOX (cutbox-rows.mjs): the forced cells as the released guide's own fill.sh prints them over the translation 7d4b591794e18664… (all of the seat's roots in one cut). By AI agents, Wed Nov 11 2026. No macro, syntax, notation, axiom, sorry.
-/
import Derived.Test.YtjemnankgjjgcaaChecked
import GoSem.Claim
import GoSem.ClaimJoined
import GoSem.ClaimMapViews
import Derived.JoinedTies
import Derived.KernelRfl
namespace Go.Proofs.Ytjemnankgjjgcaa
/- THE CELL 'sum', in the pinned program and in every row, IS THE sha256 OF THE DUMP (.gsa) THAT YtjemnankgjjgcaaProg.lean LOADS. Nothing in Lean hashes anything: it is a label: what it is worth is what the hold of that sum in a sandbox is worth. -/
noncomputable def Try.pinned : Pinned := { name := "ytjemnankgjjgcaa", sum := "7d4b591794e18664941a5d95df2bbf8958aede17f03774b68f8172acd7c6fd39", checked := Try.checked }
namespace Rows
def none {H : Type} : Left H := { results := [], args := [] }

/-- 'credencelaw3.PolyArith': WHATEVER THE INPUT: true; the input reads as it did. -/
def polyArithSpec : ChangeSpec := { name := "polyArith", fn := fun _ => fun
  | [d1, d2, d3] => { results := [.lit (.bool true)], args := [d1, d2, d3] }
  | _ => none }
def polyArithRow : OpenClaim := { program := "ytjemnankgjjgcaa", sum := "7d4b591794e18664941a5d95df2bbf8958aede17f03774b68f8172acd7c6fd39", func := "credence/credencelaw3.PolyArith", spec := "polyArith", unfollowed := true, recurses := true, apart := false }
def PolyArithSaid : Prop := polyArithRow.holds Try.pinned (OpenSpec.ofChange polyArithSpec)

/-- ITS FALSE NEIGHBOUR: 'it returns false'. Refute it at one input. -/
def polyArithWrong : ChangeSpec := { name := "polyArith", fn := fun _ => fun
  | [d1, d2, d3] => { results := [.lit (.bool false)], args := [d1, d2, d3] }
  | _ => none }
def PolyArithWrongFalsely : Prop := polyArithRow.holds Try.pinned (OpenSpec.ofChange polyArithWrong)

/-- 'credencelaw3.PolyCuts': WHATEVER THE INPUT: true; the input reads as it did. -/
def polyCutsSpec : ChangeSpec := { name := "polyCuts", fn := fun _ => fun
  | [d1, d2] => { results := [.lit (.bool true)], args := [d1, d2] }
  | _ => none }
def polyCutsRow : OpenClaim := { program := "ytjemnankgjjgcaa", sum := "7d4b591794e18664941a5d95df2bbf8958aede17f03774b68f8172acd7c6fd39", func := "credence/credencelaw3.PolyCuts", spec := "polyCuts", unfollowed := true, recurses := true, apart := false }
def PolyCutsSaid : Prop := polyCutsRow.holds Try.pinned (OpenSpec.ofChange polyCutsSpec)

/-- ITS FALSE NEIGHBOUR: 'it returns false'. Refute it at one input. -/
def polyCutsWrong : ChangeSpec := { name := "polyCuts", fn := fun _ => fun
  | [d1, d2] => { results := [.lit (.bool false)], args := [d1, d2] }
  | _ => none }
def PolyCutsWrongFalsely : Prop := polyCutsRow.holds Try.pinned (OpenSpec.ofChange polyCutsWrong)

/-- 'credencelaw3.PolyPowers': WHATEVER THE INPUT: true; the input reads as it did. -/
def polyPowersSpec : ChangeSpec := { name := "polyPowers", fn := fun _ => fun
  | [d1, d2] => { results := [.lit (.bool true)], args := [d1, d2] }
  | _ => none }
def polyPowersRow : OpenClaim := { program := "ytjemnankgjjgcaa", sum := "7d4b591794e18664941a5d95df2bbf8958aede17f03774b68f8172acd7c6fd39", func := "credence/credencelaw3.PolyPowers", spec := "polyPowers", unfollowed := true, recurses := true, apart := false }
def PolyPowersSaid : Prop := polyPowersRow.holds Try.pinned (OpenSpec.ofChange polyPowersSpec)

/-- ITS FALSE NEIGHBOUR: 'it returns false'. Refute it at one input. -/
def polyPowersWrong : ChangeSpec := { name := "polyPowers", fn := fun _ => fun
  | [d1, d2] => { results := [.lit (.bool false)], args := [d1, d2] }
  | _ => none }
def PolyPowersWrongFalsely : Prop := polyPowersRow.holds Try.pinned (OpenSpec.ofChange polyPowersWrong)

/-- 'credencelaw3.PolyLimits': WHATEVER THE INPUT: true; the input reads as it did. -/
def polyLimitsSpec : ChangeSpec := { name := "polyLimits", fn := fun _ => fun
  | [] => { results := [.lit (.bool true)], args := [] }
  | _ => none }
def polyLimitsRow : OpenClaim := { program := "ytjemnankgjjgcaa", sum := "7d4b591794e18664941a5d95df2bbf8958aede17f03774b68f8172acd7c6fd39", func := "credence/credencelaw3.PolyLimits", spec := "polyLimits", unfollowed := true, recurses := true, apart := false }
def PolyLimitsSaid : Prop := polyLimitsRow.holds Try.pinned (OpenSpec.ofChange polyLimitsSpec)

/-- ITS FALSE NEIGHBOUR: 'it returns false'. Refute it at one input. -/
def polyLimitsWrong : ChangeSpec := { name := "polyLimits", fn := fun _ => fun
  | [] => { results := [.lit (.bool false)], args := [] }
  | _ => none }
def PolyLimitsWrongFalsely : Prop := polyLimitsRow.holds Try.pinned (OpenSpec.ofChange polyLimitsWrong)

/-- 'credencelaw3.PolyRing': WHATEVER THE INPUT: true; the input reads as it did. -/
def polyRingSpec : ChangeSpec := { name := "polyRing", fn := fun _ => fun
  | [d1, d2, d3, d4] => { results := [.lit (.bool true)], args := [d1, d2, d3, d4] }
  | _ => none }
def polyRingRow : OpenClaim := { program := "ytjemnankgjjgcaa", sum := "7d4b591794e18664941a5d95df2bbf8958aede17f03774b68f8172acd7c6fd39", func := "credence/credencelaw3.PolyRing", spec := "polyRing", unfollowed := true, recurses := true, apart := false }
def PolyRingSaid : Prop := polyRingRow.holds Try.pinned (OpenSpec.ofChange polyRingSpec)

/-- ITS FALSE NEIGHBOUR: 'it returns false'. Refute it at one input. -/
def polyRingWrong : ChangeSpec := { name := "polyRing", fn := fun _ => fun
  | [d1, d2, d3, d4] => { results := [.lit (.bool false)], args := [d1, d2, d3, d4] }
  | _ => none }
def PolyRingWrongFalsely : Prop := polyRingRow.holds Try.pinned (OpenSpec.ofChange polyRingWrong)

/-- 'credencelaw3.PolyDerivative': WHATEVER THE INPUT: true; the input reads as it did. -/
def polyDerivativeSpec : ChangeSpec := { name := "polyDerivative", fn := fun _ => fun
  | [d1, d2, d3] => { results := [.lit (.bool true)], args := [d1, d2, d3] }
  | _ => none }
def polyDerivativeRow : OpenClaim := { program := "ytjemnankgjjgcaa", sum := "7d4b591794e18664941a5d95df2bbf8958aede17f03774b68f8172acd7c6fd39", func := "credence/credencelaw3.PolyDerivative", spec := "polyDerivative", unfollowed := true, recurses := true, apart := false }
def PolyDerivativeSaid : Prop := polyDerivativeRow.holds Try.pinned (OpenSpec.ofChange polyDerivativeSpec)

/-- ITS FALSE NEIGHBOUR: 'it returns false'. Refute it at one input. -/
def polyDerivativeWrong : ChangeSpec := { name := "polyDerivative", fn := fun _ => fun
  | [d1, d2, d3] => { results := [.lit (.bool false)], args := [d1, d2, d3] }
  | _ => none }
def PolyDerivativeWrongFalsely : Prop := polyDerivativeRow.holds Try.pinned (OpenSpec.ofChange polyDerivativeWrong)

/-- 'credencelaw3.PolyGenerating': WHATEVER THE INPUT: true; the input reads as it did. -/
def polyGeneratingSpec : ChangeSpec := { name := "polyGenerating", fn := fun _ => fun
  | [d] => { results := [.lit (.bool true)], args := [d] }
  | _ => none }
def polyGeneratingRow : OpenClaim := { program := "ytjemnankgjjgcaa", sum := "7d4b591794e18664941a5d95df2bbf8958aede17f03774b68f8172acd7c6fd39", func := "credence/credencelaw3.PolyGenerating", spec := "polyGenerating", unfollowed := true, recurses := true, apart := false }
def PolyGeneratingSaid : Prop := polyGeneratingRow.holds Try.pinned (OpenSpec.ofChange polyGeneratingSpec)

/-- ITS FALSE NEIGHBOUR: 'it returns false'. Refute it at one input. -/
def polyGeneratingWrong : ChangeSpec := { name := "polyGenerating", fn := fun _ => fun
  | [d] => { results := [.lit (.bool false)], args := [d] }
  | _ => none }
def PolyGeneratingWrongFalsely : Prop := polyGeneratingRow.holds Try.pinned (OpenSpec.ofChange polyGeneratingWrong)

/- THE SECOND FORM. 'bulk': how many values and letters a reading holds, each counted each time it is reached (what is shared counts as often as it is met; a slice's spare places count too). A statement '..UptoSaid' is the law's where the arguments, and the package variables that the reading takes, are together of bulk at most 1048576: NARROWER than '..Said'. Prove '..Said' where nothing that the law and all that it calls make is longer than what came in: it says more and counts as full. Else prove '..UptoSaid'. A law counts once. -/
mutual
def uptoBulk {H : Type} : DataW H → Nat
  | .lit (.string bytes) => bytes.length + 1
  | .lit _ => 1
  | .nil => 1
  | .ptr d => uptoBulk d + 1
  | .slice elems spare => uptoBulkAll elems + uptoBulkAll spare + 1
  | .agg parts => uptoBulkAll parts + 1
  | .iface _ d => uptoBulk d + 1
  | .map entries => uptoBulkEntries entries + 1
  | .held _ => 1
def uptoBulkAll {H : Type} : List (DataW H) → Nat
  | [] => 0
  | d :: r => uptoBulk d + uptoBulkAll r
def uptoBulkEntries {H : Type} : List (Lit × DataW H) → Nat
  | [] => 0
  | x :: r => uptoBulkEntry x + uptoBulkEntries r
def uptoBulkEntry {H : Type} : Lit × DataW H → Nat
  | (.string bytes, d) => bytes.length + uptoBulk d + 1
  | (_, d) => uptoBulk d + 1
 end
def uptoSmall : (H : Type) → List (DataW H) → Bool := fun _ ds => decide (uptoBulkAll ds ≤ 1048576)
def OpenSpec.upto (s : _root_.Go.ChangeSpec) : _root_.Go.OpenSpec := { _root_.Go.OpenSpec.ofChange s with cond := some uptoSmall }

/-- 'credencelaw3.PolyArith', WHERE WHAT IT READS IS OF BULK AT MOST 1048576: true; the input reads as it did. -/
def polyArithUptoRow : OpenClaim := { program := "ytjemnankgjjgcaa", sum := "7d4b591794e18664941a5d95df2bbf8958aede17f03774b68f8172acd7c6fd39", func := "credence/credencelaw3.PolyArith", spec := "polyArith", unfollowed := true, recurses := true, apart := false, narrowed := true }
def PolyArithUptoSaid : Prop := polyArithUptoRow.holds Try.pinned (OpenSpec.upto polyArithSpec)

/-- 'credencelaw3.PolyCuts', WHERE WHAT IT READS IS OF BULK AT MOST 1048576: true; the input reads as it did. -/
def polyCutsUptoRow : OpenClaim := { program := "ytjemnankgjjgcaa", sum := "7d4b591794e18664941a5d95df2bbf8958aede17f03774b68f8172acd7c6fd39", func := "credence/credencelaw3.PolyCuts", spec := "polyCuts", unfollowed := true, recurses := true, apart := false, narrowed := true }
def PolyCutsUptoSaid : Prop := polyCutsUptoRow.holds Try.pinned (OpenSpec.upto polyCutsSpec)

/-- 'credencelaw3.PolyPowers', WHERE WHAT IT READS IS OF BULK AT MOST 1048576: true; the input reads as it did. -/
def polyPowersUptoRow : OpenClaim := { program := "ytjemnankgjjgcaa", sum := "7d4b591794e18664941a5d95df2bbf8958aede17f03774b68f8172acd7c6fd39", func := "credence/credencelaw3.PolyPowers", spec := "polyPowers", unfollowed := true, recurses := true, apart := false, narrowed := true }
def PolyPowersUptoSaid : Prop := polyPowersUptoRow.holds Try.pinned (OpenSpec.upto polyPowersSpec)

/-- 'credencelaw3.PolyLimits', WHERE WHAT IT READS IS OF BULK AT MOST 1048576: true; the input reads as it did. -/
def polyLimitsUptoRow : OpenClaim := { program := "ytjemnankgjjgcaa", sum := "7d4b591794e18664941a5d95df2bbf8958aede17f03774b68f8172acd7c6fd39", func := "credence/credencelaw3.PolyLimits", spec := "polyLimits", unfollowed := true, recurses := true, apart := false, narrowed := true }
def PolyLimitsUptoSaid : Prop := polyLimitsUptoRow.holds Try.pinned (OpenSpec.upto polyLimitsSpec)

/-- 'credencelaw3.PolyRing', WHERE WHAT IT READS IS OF BULK AT MOST 1048576: true; the input reads as it did. -/
def polyRingUptoRow : OpenClaim := { program := "ytjemnankgjjgcaa", sum := "7d4b591794e18664941a5d95df2bbf8958aede17f03774b68f8172acd7c6fd39", func := "credence/credencelaw3.PolyRing", spec := "polyRing", unfollowed := true, recurses := true, apart := false, narrowed := true }
def PolyRingUptoSaid : Prop := polyRingUptoRow.holds Try.pinned (OpenSpec.upto polyRingSpec)

/-- 'credencelaw3.PolyDerivative', WHERE WHAT IT READS IS OF BULK AT MOST 1048576: true; the input reads as it did. -/
def polyDerivativeUptoRow : OpenClaim := { program := "ytjemnankgjjgcaa", sum := "7d4b591794e18664941a5d95df2bbf8958aede17f03774b68f8172acd7c6fd39", func := "credence/credencelaw3.PolyDerivative", spec := "polyDerivative", unfollowed := true, recurses := true, apart := false, narrowed := true }
def PolyDerivativeUptoSaid : Prop := polyDerivativeUptoRow.holds Try.pinned (OpenSpec.upto polyDerivativeSpec)

/-- 'credencelaw3.PolyGenerating', WHERE WHAT IT READS IS OF BULK AT MOST 1048576: true; the input reads as it did. -/
def polyGeneratingUptoRow : OpenClaim := { program := "ytjemnankgjjgcaa", sum := "7d4b591794e18664941a5d95df2bbf8958aede17f03774b68f8172acd7c6fd39", func := "credence/credencelaw3.PolyGenerating", spec := "polyGenerating", unfollowed := true, recurses := true, apart := false, narrowed := true }
def PolyGeneratingUptoSaid : Prop := polyGeneratingUptoRow.holds Try.pinned (OpenSpec.upto polyGeneratingSpec)

end Rows
end Go.Proofs.Ytjemnankgjjgcaa
