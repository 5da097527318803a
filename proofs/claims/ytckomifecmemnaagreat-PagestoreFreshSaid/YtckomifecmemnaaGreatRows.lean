/-
  No cell of these rows narrows 'for every input' (looked for: loops, veiled, ifaces, maps, wideKeys, modest, calm, conditions, laid).
  DERIVED. THE GIVEN ROWS OF THIS SEAT. 5 by the template 'for every input the law returns true; each argument reads behind the call as it read before'; 0 by the template 'total and deterministic' (their statements: YtckomifecmemnaaGreatTotals.lean).
  GIVEN WITH THE SEED: the statements are not yours to turn. If you find one false, say at which input.
  Laid BY PROGRAM, IN A SANDBOX (cutbox-rows.mjs): the forced cells as the released guide's own fill.sh prints them over the translation 4d6b3521235746b0… (all of the seat's roots in one cut). By AI agents, Wed Nov 11 2026. No macro, syntax, notation, axiom, sorry.
-/
import Derived.Test.YtckomifecmemnaaGreatChecked
import GoSem.Claim
import GoSem.ClaimJoined
import GoSem.ClaimMapViews
import Derived.JoinedTies
import Derived.KernelRfl
namespace Go.Proofs.YtckomifecmemnaaGreat
/- THE CELL 'sum', in the pinned program and in every row, IS THE sha256 OF THE DUMP (.gsa) THAT YtckomifecmemnaaGreatProg.lean LOADS. Nothing in Lean hashes anything: it is a label: what it is worth is what the hold of that sum in a sandbox is worth. -/
noncomputable def Tryz.pinned : Pinned := { name := "ytckomifecmemnaagreat", sum := "4d6b3521235746b053e2929456870cd49b9482aae4bfa8da7d6007ba36cba851", checked := Tryz.checked }
namespace Rows
def none {H : Type} : Left H := { results := [], args := [] }

/-- 'credencelaw7.PagestorePlays': WHATEVER THE INPUT: true; the input reads as it did. -/
def pagestorePlaysSpec : ChangeSpec := { name := "pagestorePlays", fn := fun _ => fun
  | [d] => { results := [.lit (.bool true)], args := [d] }
  | _ => none }
def pagestorePlaysRow : OpenClaim := { program := "ytckomifecmemnaagreat", sum := "4d6b3521235746b053e2929456870cd49b9482aae4bfa8da7d6007ba36cba851", func := "credence/credencelaw7.PagestorePlays", spec := "pagestorePlays", inPlace := ["internal/bytealg.Count", "internal/bytealg.IndexByte", "internal/bytealg.Index", "maps.clone"], unfollowed := true, recurses := true, named := ["internal/bytealg.MaxLen"], apart := false }
def PagestorePlaysSaid : Prop := pagestorePlaysRow.holds Tryz.pinned (OpenSpec.ofChange pagestorePlaysSpec)

/-- ITS FALSE NEIGHBOUR: 'it returns false'. Refute it at one input. -/
def pagestorePlaysWrong : ChangeSpec := { name := "pagestorePlays", fn := fun _ => fun
  | [d] => { results := [.lit (.bool false)], args := [d] }
  | _ => none }
def PagestorePlaysWrongFalsely : Prop := pagestorePlaysRow.holds Tryz.pinned (OpenSpec.ofChange pagestorePlaysWrong)

/-- 'credencelaw7.PagestoreFull': WHATEVER THE INPUT: true; the input reads as it did. -/
def pagestoreFullSpec : ChangeSpec := { name := "pagestoreFull", fn := fun _ => fun
  | [d1, d2] => { results := [.lit (.bool true)], args := [d1, d2] }
  | _ => none }
def pagestoreFullRow : OpenClaim := { program := "ytckomifecmemnaagreat", sum := "4d6b3521235746b053e2929456870cd49b9482aae4bfa8da7d6007ba36cba851", func := "credence/credencelaw7.PagestoreFull", spec := "pagestoreFull", inPlace := ["internal/bytealg.Count", "internal/bytealg.IndexByte", "internal/bytealg.Index", "maps.clone"], unfollowed := true, recurses := true, named := ["internal/bytealg.MaxLen"], apart := false }
def PagestoreFullSaid : Prop := pagestoreFullRow.holds Tryz.pinned (OpenSpec.ofChange pagestoreFullSpec)

/-- ITS FALSE NEIGHBOUR: 'it returns false'. Refute it at one input. -/
def pagestoreFullWrong : ChangeSpec := { name := "pagestoreFull", fn := fun _ => fun
  | [d1, d2] => { results := [.lit (.bool false)], args := [d1, d2] }
  | _ => none }
def PagestoreFullWrongFalsely : Prop := pagestoreFullRow.holds Tryz.pinned (OpenSpec.ofChange pagestoreFullWrong)

/-- 'credencelaw7.PagestoreArguments': WHATEVER THE INPUT: true; the input reads as it did. -/
def pagestoreArgumentsSpec : ChangeSpec := { name := "pagestoreArguments", fn := fun _ => fun
  | [d1, d2, d3] => { results := [.lit (.bool true)], args := [d1, d2, d3] }
  | _ => none }
def pagestoreArgumentsRow : OpenClaim := { program := "ytckomifecmemnaagreat", sum := "4d6b3521235746b053e2929456870cd49b9482aae4bfa8da7d6007ba36cba851", func := "credence/credencelaw7.PagestoreArguments", spec := "pagestoreArguments", inPlace := ["internal/bytealg.Count", "internal/bytealg.IndexByte", "internal/bytealg.Index", "maps.clone"], unfollowed := true, recurses := true, named := ["internal/bytealg.MaxLen"], apart := false }
def PagestoreArgumentsSaid : Prop := pagestoreArgumentsRow.holds Tryz.pinned (OpenSpec.ofChange pagestoreArgumentsSpec)

/-- ITS FALSE NEIGHBOUR: 'it returns false'. Refute it at one input. -/
def pagestoreArgumentsWrong : ChangeSpec := { name := "pagestoreArguments", fn := fun _ => fun
  | [d1, d2, d3] => { results := [.lit (.bool false)], args := [d1, d2, d3] }
  | _ => none }
def PagestoreArgumentsWrongFalsely : Prop := pagestoreArgumentsRow.holds Tryz.pinned (OpenSpec.ofChange pagestoreArgumentsWrong)

/-- 'credencelaw7.PagestoreApart': WHATEVER THE INPUT: true; the input reads as it did. -/
def pagestoreApartSpec : ChangeSpec := { name := "pagestoreApart", fn := fun _ => fun
  | [d] => { results := [.lit (.bool true)], args := [d] }
  | _ => none }
def pagestoreApartRow : OpenClaim := { program := "ytckomifecmemnaagreat", sum := "4d6b3521235746b053e2929456870cd49b9482aae4bfa8da7d6007ba36cba851", func := "credence/credencelaw7.PagestoreApart", spec := "pagestoreApart", inPlace := ["internal/bytealg.Count", "internal/bytealg.IndexByte", "internal/bytealg.Index", "maps.clone"], unfollowed := true, recurses := true, named := ["internal/bytealg.MaxLen"], apart := false }
def PagestoreApartSaid : Prop := pagestoreApartRow.holds Tryz.pinned (OpenSpec.ofChange pagestoreApartSpec)

/-- ITS FALSE NEIGHBOUR: 'it returns false'. Refute it at one input. -/
def pagestoreApartWrong : ChangeSpec := { name := "pagestoreApart", fn := fun _ => fun
  | [d] => { results := [.lit (.bool false)], args := [d] }
  | _ => none }
def PagestoreApartWrongFalsely : Prop := pagestoreApartRow.holds Tryz.pinned (OpenSpec.ofChange pagestoreApartWrong)

/-- 'credencelaw7.PagestoreFresh': WHATEVER THE INPUT: true; the input reads as it did. -/
def pagestoreFreshSpec : ChangeSpec := { name := "pagestoreFresh", fn := fun _ => fun
  | [d1, d2] => { results := [.lit (.bool true)], args := [d1, d2] }
  | _ => none }
def pagestoreFreshRow : OpenClaim := { program := "ytckomifecmemnaagreat", sum := "4d6b3521235746b053e2929456870cd49b9482aae4bfa8da7d6007ba36cba851", func := "credence/credencelaw7.PagestoreFresh", spec := "pagestoreFresh", inPlace := ["internal/bytealg.Count", "internal/bytealg.IndexByte", "internal/bytealg.Index", "maps.clone"], unfollowed := true, recurses := true, named := ["internal/bytealg.MaxLen"], apart := false }
def PagestoreFreshSaid : Prop := pagestoreFreshRow.holds Tryz.pinned (OpenSpec.ofChange pagestoreFreshSpec)

/-- ITS FALSE NEIGHBOUR: 'it returns false'. Refute it at one input. -/
def pagestoreFreshWrong : ChangeSpec := { name := "pagestoreFresh", fn := fun _ => fun
  | [d1, d2] => { results := [.lit (.bool false)], args := [d1, d2] }
  | _ => none }
def PagestoreFreshWrongFalsely : Prop := pagestoreFreshRow.holds Tryz.pinned (OpenSpec.ofChange pagestoreFreshWrong)

/- THE SECOND FORM. 'bulk': how many values and letters a reading holds, each counted each time it is reached (what is shared counts as often as it is met; a slice's spare places count too). A statement '..UptoSaid' is the law's where the arguments, and the package variables that the reading takes, are together of bulk at most 1048576: NARROWER than '..Said'. Prove '..Said' where nothing that the law and all that it calls make is longer than what came in: it says more and counts as full. Else prove '..UptoSaid'. A law counts once. -/
mutual
def uptoBulk {H : Type} : DataW H → Nat
  | .lit (.string bytes) => bytes.length + 1
  | .lit _ => 1
  | .nil => 1
  | .ptr d => uptoBulk d + 1
  | .slice elems spare => uptoBulkAll elems + uptoBulkAll spare + 1
  | .agg parts => uptoBulkAll parts + 1
  | .iface _ d => uptoBulk d + 1
  | .map entries => uptoBulkEntries entries + 1
  | .held _ => 1
def uptoBulkAll {H : Type} : List (DataW H) → Nat
  | [] => 0
  | d :: r => uptoBulk d + uptoBulkAll r
def uptoBulkEntries {H : Type} : List (Lit × DataW H) → Nat
  | [] => 0
  | x :: r => uptoBulkEntry x + uptoBulkEntries r
def uptoBulkEntry {H : Type} : Lit × DataW H → Nat
  | (.string bytes, d) => bytes.length + uptoBulk d + 1
  | (_, d) => uptoBulk d + 1
 end
def uptoSmall : (H : Type) → List (DataW H) → Bool := fun _ ds => decide (uptoBulkAll ds ≤ 1048576)
def OpenSpec.upto (s : _root_.Go.ChangeSpec) : _root_.Go.OpenSpec := { _root_.Go.OpenSpec.ofChange s with cond := some uptoSmall }

/-- 'credencelaw7.PagestorePlays', WHERE WHAT IT READS IS OF BULK AT MOST 1048576: true; the input reads as it did. -/
def pagestorePlaysUptoRow : OpenClaim := { program := "ytckomifecmemnaagreat", sum := "4d6b3521235746b053e2929456870cd49b9482aae4bfa8da7d6007ba36cba851", func := "credence/credencelaw7.PagestorePlays", spec := "pagestorePlays", inPlace := ["internal/bytealg.Count", "internal/bytealg.IndexByte", "internal/bytealg.Index", "maps.clone"], unfollowed := true, recurses := true, named := ["internal/bytealg.MaxLen"], apart := false, narrowed := true }
def PagestorePlaysUptoSaid : Prop := pagestorePlaysUptoRow.holds Tryz.pinned (OpenSpec.upto pagestorePlaysSpec)

/-- 'credencelaw7.PagestoreFull', WHERE WHAT IT READS IS OF BULK AT MOST 1048576: true; the input reads as it did. -/
def pagestoreFullUptoRow : OpenClaim := { program := "ytckomifecmemnaagreat", sum := "4d6b3521235746b053e2929456870cd49b9482aae4bfa8da7d6007ba36cba851", func := "credence/credencelaw7.PagestoreFull", spec := "pagestoreFull", inPlace := ["internal/bytealg.Count", "internal/bytealg.IndexByte", "internal/bytealg.Index", "maps.clone"], unfollowed := true, recurses := true, named := ["internal/bytealg.MaxLen"], apart := false, narrowed := true }
def PagestoreFullUptoSaid : Prop := pagestoreFullUptoRow.holds Tryz.pinned (OpenSpec.upto pagestoreFullSpec)

/-- 'credencelaw7.PagestoreArguments', WHERE WHAT IT READS IS OF BULK AT MOST 1048576: true; the input reads as it did. -/
def pagestoreArgumentsUptoRow : OpenClaim := { program := "ytckomifecmemnaagreat", sum := "4d6b3521235746b053e2929456870cd49b9482aae4bfa8da7d6007ba36cba851", func := "credence/credencelaw7.PagestoreArguments", spec := "pagestoreArguments", inPlace := ["internal/bytealg.Count", "internal/bytealg.IndexByte", "internal/bytealg.Index", "maps.clone"], unfollowed := true, recurses := true, named := ["internal/bytealg.MaxLen"], apart := false, narrowed := true }
def PagestoreArgumentsUptoSaid : Prop := pagestoreArgumentsUptoRow.holds Tryz.pinned (OpenSpec.upto pagestoreArgumentsSpec)

/-- 'credencelaw7.PagestoreApart', WHERE WHAT IT READS IS OF BULK AT MOST 1048576: true; the input reads as it did. -/
def pagestoreApartUptoRow : OpenClaim := { program := "ytckomifecmemnaagreat", sum := "4d6b3521235746b053e2929456870cd49b9482aae4bfa8da7d6007ba36cba851", func := "credence/credencelaw7.PagestoreApart", spec := "pagestoreApart", inPlace := ["internal/bytealg.Count", "internal/bytealg.IndexByte", "internal/bytealg.Index", "maps.clone"], unfollowed := true, recurses := true, named := ["internal/bytealg.MaxLen"], apart := false, narrowed := true }
def PagestoreApartUptoSaid : Prop := pagestoreApartUptoRow.holds Tryz.pinned (OpenSpec.upto pagestoreApartSpec)

/-- 'credencelaw7.PagestoreFresh', WHERE WHAT IT READS IS OF BULK AT MOST 1048576: true; the input reads as it did. -/
def pagestoreFreshUptoRow : OpenClaim := { program := "ytckomifecmemnaagreat", sum := "4d6b3521235746b053e2929456870cd49b9482aae4bfa8da7d6007ba36cba851", func := "credence/credencelaw7.PagestoreFresh", spec := "pagestoreFresh", inPlace := ["internal/bytealg.Count", "internal/bytealg.IndexByte", "internal/bytealg.Index", "maps.clone"], unfollowed := true, recurses := true, named := ["internal/bytealg.MaxLen"], apart := false, narrowed := true }
def PagestoreFreshUptoSaid : Prop := pagestoreFreshUptoRow.holds Tryz.pinned (OpenSpec.upto pagestoreFreshSpec)

end Rows
end Go.Proofs.YtckomifecmemnaaGreat
