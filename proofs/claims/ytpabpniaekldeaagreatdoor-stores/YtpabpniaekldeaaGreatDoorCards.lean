/-
  DERIVED. GIVEN WITH THE SEED: THE CARDS: each row of YtpabpniaekldeaaGreatDoorRows.lean that lists a variable, with what it lists TIED to the program's text (the seventh form; the later family's looks); each row that meets fmt, with fmt's text TOLD by the authors' own Lean function (tested against real Go, not proved from fmt's source: count such statements apart). THE CARD IS WHAT COUNTS. Prove the row's statement (the work); the ties are given (YtpabpniaekldeaaGreatDoorTie.lean); close each card by the builder's one call (the guide's Derived/Test/ToyasCard.lean, 'card_holds'). Laid BY PROGRAM, IN A SANDBOX (cutbox-door.mjs). By AI agents, Wed Nov 11 2026. No macro, syntax, notation, axiom, sorry.
-/
import Derived.Test.YtpabpniaekldeaaGreatDoorRows
import GoSem.ClaimSeven
namespace Go.Proofs.YtpabpniaekldeaaGreatDoor
namespace Rows

/-- THE TIED CARD OF 'atlaslaw.Stores'. -/
def storesCard : Claim7 := { stood := { row := storesRow, standIns := [], harness := (true, "835cf7f9712b94a670fdd89bcfb87b6a9b4de098531a4bb6c091ce2f7a16fa24"), looks := false }, kinds := [], alts := [], laidByText := true, laidKinds := [.data, .data, .data, .data], laidTests := true, laidLooks := .later }
def StoresCardSaid : Prop := Claim7.holds Tryz.pinned (.plain (OpenSpec.ofChange storesSpec)) storesCard

/-- THE TIED CARD OF 'atlaslaw.Fronts'. -/
def frontsCard : Claim7 := { stood := { row := frontsRow, standIns := [], harness := (true, "835cf7f9712b94a670fdd89bcfb87b6a9b4de098531a4bb6c091ce2f7a16fa24"), looks := false }, kinds := [], alts := [], laidByText := true, laidKinds := [.data, .data, .data, .data], laidTests := true, laidLooks := .later }
def FrontsCardSaid : Prop := Claim7.holds Tryz.pinned (.plain (OpenSpec.ofChange frontsSpec)) frontsCard

/-- THE TIED CARD OF 'atlaslaw.All'. -/
def allCard : Claim7 := { stood := { row := allRow, standIns := [], harness := (true, "835cf7f9712b94a670fdd89bcfb87b6a9b4de098531a4bb6c091ce2f7a16fa24"), looks := false }, kinds := [], alts := [], laidByText := true, laidKinds := [.data, .data, .data, .data], laidTests := true, laidLooks := .later }
def AllCardSaid : Prop := Claim7.holds Tryz.pinned (.plain (OpenSpec.ofChange allSpec)) allCard

/-- THE SECOND FORM's CARD OF 'atlaslaw.Stores'. -/
def storesUptoCard : Claim7 := { stood := { row := storesUptoRow, standIns := [], harness := (true, "835cf7f9712b94a670fdd89bcfb87b6a9b4de098531a4bb6c091ce2f7a16fa24"), looks := false }, kinds := [], alts := [], laidByText := true, laidKinds := [.data, .data, .data, .data], laidTests := true, laidLooks := .later }
def StoresUptoCardSaid : Prop := Claim7.holds Tryz.pinned (.plain (OpenSpec.upto storesSpec)) storesUptoCard

/-- THE SECOND FORM's CARD OF 'atlaslaw.Fronts'. -/
def frontsUptoCard : Claim7 := { stood := { row := frontsUptoRow, standIns := [], harness := (true, "835cf7f9712b94a670fdd89bcfb87b6a9b4de098531a4bb6c091ce2f7a16fa24"), looks := false }, kinds := [], alts := [], laidByText := true, laidKinds := [.data, .data, .data, .data], laidTests := true, laidLooks := .later }
def FrontsUptoCardSaid : Prop := Claim7.holds Tryz.pinned (.plain (OpenSpec.upto frontsSpec)) frontsUptoCard

/-- THE SECOND FORM's CARD OF 'atlaslaw.All'. -/
def allUptoCard : Claim7 := { stood := { row := allUptoRow, standIns := [], harness := (true, "835cf7f9712b94a670fdd89bcfb87b6a9b4de098531a4bb6c091ce2f7a16fa24"), looks := false }, kinds := [], alts := [], laidByText := true, laidKinds := [.data, .data, .data, .data], laidTests := true, laidLooks := .later }
def AllUptoCardSaid : Prop := Claim7.holds Tryz.pinned (.plain (OpenSpec.upto allSpec)) allUptoCard
end Rows
end Go.Proofs.YtpabpniaekldeaaGreatDoor
