/-
  No cell of these rows narrows 'for every input' (looked for: loops, veiled, ifaces, maps, wideKeys, modest, calm, conditions, laid).
  DERIVED. THE GIVEN ROWS OF THIS SEAT. 8 by the template 'for every input the law returns true; each argument reads behind the call as it read before'; 0 by the template 'total and deterministic' (their statements: YtppcpbhnpdjfpaaTotals.lean).
  GIVEN WITH THE SEED: the statements are not yours to turn. If you find one false, say at which input.
  Laid BY PROGRAM, IN A SANDBOX (cutbox-rows.mjs): the forced cells as the released guide's own fill.sh prints them over the translation 9a04db83951b9b65… (all of the seat's roots in one cut). By AI agents, Wed Nov 11 2026. No macro, syntax, notation, axiom, sorry.
-/
import Derived.Test.YtppcpbhnpdjfpaaChecked
import GoSem.Claim
import GoSem.ClaimJoined
import GoSem.ClaimMapViews
import Derived.JoinedTies
import Derived.KernelRfl
namespace Go.Proofs.Ytppcpbhnpdjfpaa
/- THE CELL 'sum', in the pinned program and in every row, IS THE sha256 OF THE DUMP (.gsa) THAT YtppcpbhnpdjfpaaProg.lean LOADS. Nothing in Lean hashes anything: it is a label: what it is worth is what the hold of that sum in a sandbox is worth. -/
noncomputable def Try.pinned : Pinned := { name := "ytppcpbhnpdjfpaa", sum := "9a04db83951b9b657868538e6c4182825bde284bdfb27b27b30c3462ffcb0b87", checked := Try.checked }
namespace Rows
def none {H : Type} : Left H := { results := [], args := [] }

/-- 'atlaslaw.Packs': WHATEVER THE INPUT: true; the input reads as it did. -/
def packsSpec : ChangeSpec := { name := "packs", fn := fun _ => fun
  | [d1, d2] => { results := [.lit (.bool true)], args := [d1, d2] }
  | _ => none }
def packsRow : OpenClaim := { program := "ytppcpbhnpdjfpaa", sum := "9a04db83951b9b657868538e6c4182825bde284bdfb27b27b30c3462ffcb0b87", func := "atlas/atlaslaw.Packs", spec := "packs", apart := false }
def PacksSaid : Prop := packsRow.holds Try.pinned (OpenSpec.ofChange packsSpec)

/-- ITS FALSE NEIGHBOUR: 'it returns false'. Refute it at one input. -/
def packsWrong : ChangeSpec := { name := "packs", fn := fun _ => fun
  | [d1, d2] => { results := [.lit (.bool false)], args := [d1, d2] }
  | _ => none }
def PacksWrongFalsely : Prop := packsRow.holds Try.pinned (OpenSpec.ofChange packsWrong)

/-- 'atlaslaw.Shapes': WHATEVER THE INPUT: true; the input reads as it did. -/
def shapesSpec : ChangeSpec := { name := "shapes", fn := fun _ => fun
  | [d1, d2, d3, d4, d5] => { results := [.lit (.bool true)], args := [d1, d2, d3, d4, d5] }
  | _ => none }
def shapesRow : OpenClaim := { program := "ytppcpbhnpdjfpaa", sum := "9a04db83951b9b657868538e6c4182825bde284bdfb27b27b30c3462ffcb0b87", func := "atlas/atlaslaw.Shapes", spec := "shapes", apart := false }
def ShapesSaid : Prop := shapesRow.holds Try.pinned (OpenSpec.ofChange shapesSpec)

/-- ITS FALSE NEIGHBOUR: 'it returns false'. Refute it at one input. -/
def shapesWrong : ChangeSpec := { name := "shapes", fn := fun _ => fun
  | [d1, d2, d3, d4, d5] => { results := [.lit (.bool false)], args := [d1, d2, d3, d4, d5] }
  | _ => none }
def ShapesWrongFalsely : Prop := shapesRow.holds Try.pinned (OpenSpec.ofChange shapesWrong)

/-- 'atlaslaw.Paints': WHATEVER THE INPUT: true; the input reads as it did. -/
def paintsSpec : ChangeSpec := { name := "paints", fn := fun _ => fun
  | [d1, d2] => { results := [.lit (.bool true)], args := [d1, d2] }
  | _ => none }
def paintsRow : OpenClaim := { program := "ytppcpbhnpdjfpaa", sum := "9a04db83951b9b657868538e6c4182825bde284bdfb27b27b30c3462ffcb0b87", func := "atlas/atlaslaw.Paints", spec := "paints", apart := false }
def PaintsSaid : Prop := paintsRow.holds Try.pinned (OpenSpec.ofChange paintsSpec)

/-- ITS FALSE NEIGHBOUR: 'it returns false'. Refute it at one input. -/
def paintsWrong : ChangeSpec := { name := "paints", fn := fun _ => fun
  | [d1, d2] => { results := [.lit (.bool false)], args := [d1, d2] }
  | _ => none }
def PaintsWrongFalsely : Prop := paintsRow.holds Try.pinned (OpenSpec.ofChange paintsWrong)

/-- 'atlaskeep.Round': WHATEVER THE INPUT: true; the input reads as it did. -/
def roundSpec : ChangeSpec := { name := "round", fn := fun _ => fun
  | [d1, d2] => { results := [.lit (.bool true)], args := [d1, d2] }
  | _ => none }
def roundRow : OpenClaim := { program := "ytppcpbhnpdjfpaa", sum := "9a04db83951b9b657868538e6c4182825bde284bdfb27b27b30c3462ffcb0b87", func := "atlas/atlaskeep.Round", spec := "round", apart := false }
def RoundSaid : Prop := roundRow.holds Try.pinned (OpenSpec.ofChange roundSpec)

/-- ITS FALSE NEIGHBOUR: 'it returns false'. Refute it at one input. -/
def roundWrong : ChangeSpec := { name := "round", fn := fun _ => fun
  | [d1, d2] => { results := [.lit (.bool false)], args := [d1, d2] }
  | _ => none }
def RoundWrongFalsely : Prop := roundRow.holds Try.pinned (OpenSpec.ofChange roundWrong)

/-- 'atlaskeep.Turned': WHATEVER THE INPUT: true; the input reads as it did. -/
def turnedSpec : ChangeSpec := { name := "turned", fn := fun _ => fun
  | [d1, d2, d3] => { results := [.lit (.bool true)], args := [d1, d2, d3] }
  | _ => none }
def turnedRow : OpenClaim := { program := "ytppcpbhnpdjfpaa", sum := "9a04db83951b9b657868538e6c4182825bde284bdfb27b27b30c3462ffcb0b87", func := "atlas/atlaskeep.Turned", spec := "turned", apart := false }
def TurnedSaid : Prop := turnedRow.holds Try.pinned (OpenSpec.ofChange turnedSpec)

/-- ITS FALSE NEIGHBOUR: 'it returns false'. Refute it at one input. -/
def turnedWrong : ChangeSpec := { name := "turned", fn := fun _ => fun
  | [d1, d2, d3] => { results := [.lit (.bool false)], args := [d1, d2, d3] }
  | _ => none }
def TurnedWrongFalsely : Prop := turnedRow.holds Try.pinned (OpenSpec.ofChange turnedWrong)

/-- 'atlaskeep.Boxes': WHATEVER THE INPUT: true; the input reads as it did. -/
def boxesSpec : ChangeSpec := { name := "boxes", fn := fun _ => fun
  | [d1, d2, d3, d4, d5, d6, d7, d8, d9] => { results := [.lit (.bool true)], args := [d1, d2, d3, d4, d5, d6, d7, d8, d9] }
  | _ => none }
def boxesRow : OpenClaim := { program := "ytppcpbhnpdjfpaa", sum := "9a04db83951b9b657868538e6c4182825bde284bdfb27b27b30c3462ffcb0b87", func := "atlas/atlaskeep.Boxes", spec := "boxes", apart := false }
def BoxesSaid : Prop := boxesRow.holds Try.pinned (OpenSpec.ofChange boxesSpec)

/-- ITS FALSE NEIGHBOUR: 'it returns false'. Refute it at one input. -/
def boxesWrong : ChangeSpec := { name := "boxes", fn := fun _ => fun
  | [d1, d2, d3, d4, d5, d6, d7, d8, d9] => { results := [.lit (.bool false)], args := [d1, d2, d3, d4, d5, d6, d7, d8, d9] }
  | _ => none }
def BoxesWrongFalsely : Prop := boxesRow.holds Try.pinned (OpenSpec.ofChange boxesWrong)

/-- 'atlaskeep.Fans': WHATEVER THE INPUT: true; the input reads as it did. -/
def fansSpec : ChangeSpec := { name := "fans", fn := fun _ => fun
  | [d1, d2, d3, d4] => { results := [.lit (.bool true)], args := [d1, d2, d3, d4] }
  | _ => none }
def fansRow : OpenClaim := { program := "ytppcpbhnpdjfpaa", sum := "9a04db83951b9b657868538e6c4182825bde284bdfb27b27b30c3462ffcb0b87", func := "atlas/atlaskeep.Fans", spec := "fans", apart := false }
def FansSaid : Prop := fansRow.holds Try.pinned (OpenSpec.ofChange fansSpec)

/-- ITS FALSE NEIGHBOUR: 'it returns false'. Refute it at one input. -/
def fansWrong : ChangeSpec := { name := "fans", fn := fun _ => fun
  | [d1, d2, d3, d4] => { results := [.lit (.bool false)], args := [d1, d2, d3, d4] }
  | _ => none }
def FansWrongFalsely : Prop := fansRow.holds Try.pinned (OpenSpec.ofChange fansWrong)

/-- 'atlaskeep.Local': WHATEVER THE INPUT: true; the input reads as it did. -/
def localSpec : ChangeSpec := { name := "local", fn := fun _ => fun
  | [d1, d2] => { results := [.lit (.bool true)], args := [d1, d2] }
  | _ => none }
def localRow : OpenClaim := { program := "ytppcpbhnpdjfpaa", sum := "9a04db83951b9b657868538e6c4182825bde284bdfb27b27b30c3462ffcb0b87", func := "atlas/atlaskeep.Local", spec := "local", apart := false }
def LocalSaid : Prop := localRow.holds Try.pinned (OpenSpec.ofChange localSpec)

/-- ITS FALSE NEIGHBOUR: 'it returns false'. Refute it at one input. -/
def localWrong : ChangeSpec := { name := "local", fn := fun _ => fun
  | [d1, d2] => { results := [.lit (.bool false)], args := [d1, d2] }
  | _ => none }
def LocalWrongFalsely : Prop := localRow.holds Try.pinned (OpenSpec.ofChange localWrong)

/- THE SECOND FORM. 'bulk': how many values and letters a reading holds, each counted each time it is reached (what is shared counts as often as it is met; a slice's spare places count too). A statement '..UptoSaid' is the law's where the arguments, and the package variables that the reading takes, are together of bulk at most 1048576: NARROWER than '..Said'. Prove '..Said' where nothing that the law and all that it calls make is longer than what came in: it says more and counts as full. Else prove '..UptoSaid'. A law counts once. -/
mutual
def uptoBulk {H : Type} : DataW H → Nat
  | .lit (.string bytes) => bytes.length + 1
  | .lit _ => 1
  | .nil => 1
  | .ptr d => uptoBulk d + 1
  | .slice elems spare => uptoBulkAll elems + uptoBulkAll spare + 1
  | .agg parts => uptoBulkAll parts + 1
  | .iface _ d => uptoBulk d + 1
  | .map entries => uptoBulkEntries entries + 1
  | .held _ => 1
def uptoBulkAll {H : Type} : List (DataW H) → Nat
  | [] => 0
  | d :: r => uptoBulk d + uptoBulkAll r
def uptoBulkEntries {H : Type} : List (Lit × DataW H) → Nat
  | [] => 0
  | x :: r => uptoBulkEntry x + uptoBulkEntries r
def uptoBulkEntry {H : Type} : Lit × DataW H → Nat
  | (.string bytes, d) => bytes.length + uptoBulk d + 1
  | (_, d) => uptoBulk d + 1
 end
def uptoSmall : (H : Type) → List (DataW H) → Bool := fun _ ds => decide (uptoBulkAll ds ≤ 1048576)
def OpenSpec.upto (s : _root_.Go.ChangeSpec) : _root_.Go.OpenSpec := { _root_.Go.OpenSpec.ofChange s with cond := some uptoSmall }

/-- 'atlaslaw.Packs', WHERE WHAT IT READS IS OF BULK AT MOST 1048576: true; the input reads as it did. -/
def packsUptoRow : OpenClaim := { program := "ytppcpbhnpdjfpaa", sum := "9a04db83951b9b657868538e6c4182825bde284bdfb27b27b30c3462ffcb0b87", func := "atlas/atlaslaw.Packs", spec := "packs", apart := false, narrowed := true }
def PacksUptoSaid : Prop := packsUptoRow.holds Try.pinned (OpenSpec.upto packsSpec)

/-- 'atlaslaw.Shapes', WHERE WHAT IT READS IS OF BULK AT MOST 1048576: true; the input reads as it did. -/
def shapesUptoRow : OpenClaim := { program := "ytppcpbhnpdjfpaa", sum := "9a04db83951b9b657868538e6c4182825bde284bdfb27b27b30c3462ffcb0b87", func := "atlas/atlaslaw.Shapes", spec := "shapes", apart := false, narrowed := true }
def ShapesUptoSaid : Prop := shapesUptoRow.holds Try.pinned (OpenSpec.upto shapesSpec)

/-- 'atlaslaw.Paints', WHERE WHAT IT READS IS OF BULK AT MOST 1048576: true; the input reads as it did. -/
def paintsUptoRow : OpenClaim := { program := "ytppcpbhnpdjfpaa", sum := "9a04db83951b9b657868538e6c4182825bde284bdfb27b27b30c3462ffcb0b87", func := "atlas/atlaslaw.Paints", spec := "paints", apart := false, narrowed := true }
def PaintsUptoSaid : Prop := paintsUptoRow.holds Try.pinned (OpenSpec.upto paintsSpec)

/-- 'atlaskeep.Round', WHERE WHAT IT READS IS OF BULK AT MOST 1048576: true; the input reads as it did. -/
def roundUptoRow : OpenClaim := { program := "ytppcpbhnpdjfpaa", sum := "9a04db83951b9b657868538e6c4182825bde284bdfb27b27b30c3462ffcb0b87", func := "atlas/atlaskeep.Round", spec := "round", apart := false, narrowed := true }
def RoundUptoSaid : Prop := roundUptoRow.holds Try.pinned (OpenSpec.upto roundSpec)

/-- 'atlaskeep.Turned', WHERE WHAT IT READS IS OF BULK AT MOST 1048576: true; the input reads as it did. -/
def turnedUptoRow : OpenClaim := { program := "ytppcpbhnpdjfpaa", sum := "9a04db83951b9b657868538e6c4182825bde284bdfb27b27b30c3462ffcb0b87", func := "atlas/atlaskeep.Turned", spec := "turned", apart := false, narrowed := true }
def TurnedUptoSaid : Prop := turnedUptoRow.holds Try.pinned (OpenSpec.upto turnedSpec)

/-- 'atlaskeep.Boxes', WHERE WHAT IT READS IS OF BULK AT MOST 1048576: true; the input reads as it did. -/
def boxesUptoRow : OpenClaim := { program := "ytppcpbhnpdjfpaa", sum := "9a04db83951b9b657868538e6c4182825bde284bdfb27b27b30c3462ffcb0b87", func := "atlas/atlaskeep.Boxes", spec := "boxes", apart := false, narrowed := true }
def BoxesUptoSaid : Prop := boxesUptoRow.holds Try.pinned (OpenSpec.upto boxesSpec)

/-- 'atlaskeep.Fans', WHERE WHAT IT READS IS OF BULK AT MOST 1048576: true; the input reads as it did. -/
def fansUptoRow : OpenClaim := { program := "ytppcpbhnpdjfpaa", sum := "9a04db83951b9b657868538e6c4182825bde284bdfb27b27b30c3462ffcb0b87", func := "atlas/atlaskeep.Fans", spec := "fans", apart := false, narrowed := true }
def FansUptoSaid : Prop := fansUptoRow.holds Try.pinned (OpenSpec.upto fansSpec)

/-- 'atlaskeep.Local', WHERE WHAT IT READS IS OF BULK AT MOST 1048576: true; the input reads as it did. -/
def localUptoRow : OpenClaim := { program := "ytppcpbhnpdjfpaa", sum := "9a04db83951b9b657868538e6c4182825bde284bdfb27b27b30c3462ffcb0b87", func := "atlas/atlaskeep.Local", spec := "local", apart := false, narrowed := true }
def LocalUptoSaid : Prop := localUptoRow.holds Try.pinned (OpenSpec.upto localSpec)

end Rows
end Go.Proofs.Ytppcpbhnpdjfpaa
