/-
  DERIVED. GIVEN WITH THE SEED: THE CARDS: each row of YtacjjjjbfjkohaaDoorRows.lean that lists a variable, with what it lists TIED to the program's text (the seventh form; the later family's looks); each row that meets fmt, with fmt's text TOLD by the authors' own Lean function (tested against real Go, not proved from fmt's source: count such statements apart). THE CARD IS WHAT COUNTS. Prove the row's statement (the work); the ties are given (YtacjjjjbfjkohaaDoorTie.lean); close each card by the builder's one call (the guide's Derived/Test/ToyasCard.lean, 'card_holds'). Laid BY PROGRAM, IN A SANDBOX (cutbox-door.mjs). By AI agents, Wed Nov 11 2026. No macro, syntax, notation, axiom, sorry.
-/
import Derived.Test.YtacjjjjbfjkohaaDoorRows
import GoSem.ClaimSeven
namespace Go.Proofs.YtacjjjjbfjkohaaDoor
namespace Rows

/-- THE TIED CARD OF 'atlaslaw.Paths'. -/
def pathsCard : Claim7 := { stood := { row := pathsRow, standIns := [], harness := (true, "a33f09faa233d6755ada98049769ad8161a59a713aacdff82afd42b3f697d0c0"), looks := false }, kinds := [], alts := [], laidByText := true, laidKinds := [.data, .data, .data, .data], laidTests := true, laidLooks := .later }
def PathsCardSaid : Prop := Claim7.holds Tryd.pinned (.plain (OpenSpec.ofChange pathsSpec)) pathsCard

/-- THE SECOND FORM's CARD OF 'atlaslaw.Paths'. -/
def pathsUptoCard : Claim7 := { stood := { row := pathsUptoRow, standIns := [], harness := (true, "a33f09faa233d6755ada98049769ad8161a59a713aacdff82afd42b3f697d0c0"), looks := false }, kinds := [], alts := [], laidByText := true, laidKinds := [.data, .data, .data, .data], laidTests := true, laidLooks := .later }
def PathsUptoCardSaid : Prop := Claim7.holds Tryd.pinned (.plain (OpenSpec.upto pathsSpec)) pathsUptoCard
end Rows
end Go.Proofs.YtacjjjjbfjkohaaDoor
