/-
  DERIVED. GIVEN WITH THE SEED: THE CARDS: each row of YtpopchckldbhdaaGreatDoorRows.lean that lists a variable, with what it lists TIED to the program's text (the seventh form; the later family's looks); each row that meets fmt, with fmt's text TOLD by the authors' own Lean function (tested against real Go, not proved from fmt's source: count such statements apart). THE CARD IS WHAT COUNTS. Prove the row's statement (the work); the ties are given (YtpopchckldbhdaaGreatDoorTie.lean); close each card by the builder's one call (the guide's Derived/Test/ToyasCard.lean, 'card_holds'). Laid BY PROGRAM, IN A SANDBOX (cutbox-door.mjs). By AI agents, Wed Nov 11 2026. No macro, syntax, notation, axiom, sorry.
-/
import Derived.Test.YtpopchckldbhdaaGreatDoorRows
import GoSem.ClaimSeven
namespace Go.Proofs.YtpopchckldbhdaaGreatDoor
namespace Rows

/-- THE TIED CARD OF 'atlaskeep.Fresh'. -/
def freshCard : Claim7 := { stood := { row := freshRow, standIns := [], harness := (true, "fc609693cbb9e7ced997d973e0534c18e1d351a47f32464703d8b3dcc3e9557a"), looks := false }, kinds := [], alts := [], laidByText := true, laidKinds := [.data, .data, .data, .data], laidTests := true, laidLooks := .later }
def FreshCardSaid : Prop := Claim7.holds Tryz.pinned (.plain (OpenSpec.ofChange freshSpec)) freshCard

/-- THE TIED CARD OF 'atlaskeep.Once'. -/
def onceCard : Claim7 := { stood := { row := onceRow, standIns := [], harness := (true, "fc609693cbb9e7ced997d973e0534c18e1d351a47f32464703d8b3dcc3e9557a"), looks := false }, kinds := [], alts := [], laidByText := true, laidKinds := [.data, .data, .data, .data], laidTests := true, laidLooks := .later }
def OnceCardSaid : Prop := Claim7.holds Tryz.pinned (.plain (OpenSpec.ofChange onceSpec)) onceCard

/-- THE TIED CARD OF 'atlaskeep.Bounds'. -/
def boundsCard : Claim7 := { stood := { row := boundsRow, standIns := [], harness := (true, "fc609693cbb9e7ced997d973e0534c18e1d351a47f32464703d8b3dcc3e9557a"), looks := false }, kinds := [], alts := [], laidByText := true, laidKinds := [.data, .data, .data, .data], laidTests := true, laidLooks := .later }
def BoundsCardSaid : Prop := Claim7.holds Tryz.pinned (.plain (OpenSpec.ofChange boundsSpec)) boundsCard

/-- THE TIED CARD OF 'atlaskeep.Tagged'. -/
def taggedCard : Claim7 := { stood := { row := taggedRow, standIns := [], harness := (true, "fc609693cbb9e7ced997d973e0534c18e1d351a47f32464703d8b3dcc3e9557a"), looks := false }, kinds := [], alts := [], laidByText := true, laidKinds := [.data, .data, .data, .data], laidTests := true, laidLooks := .later }
def TaggedCardSaid : Prop := Claim7.holds Tryz.pinned (.plain (OpenSpec.ofChange taggedSpec)) taggedCard

/-- THE TIED CARD OF 'atlaskeep.Calm'. -/
def calmCard : Claim7 := { stood := { row := calmRow, standIns := [], harness := (true, "fc609693cbb9e7ced997d973e0534c18e1d351a47f32464703d8b3dcc3e9557a"), looks := false }, kinds := [], alts := [], laidByText := true, laidKinds := [.data, .data, .data, .data], laidTests := true, laidLooks := .later }
def CalmCardSaid : Prop := Claim7.holds Tryz.pinned (.plain (OpenSpec.ofChange calmSpec)) calmCard

/-- THE SECOND FORM's CARD OF 'atlaskeep.Fresh'. -/
def freshUptoCard : Claim7 := { stood := { row := freshUptoRow, standIns := [], harness := (true, "fc609693cbb9e7ced997d973e0534c18e1d351a47f32464703d8b3dcc3e9557a"), looks := false }, kinds := [], alts := [], laidByText := true, laidKinds := [.data, .data, .data, .data], laidTests := true, laidLooks := .later }
def FreshUptoCardSaid : Prop := Claim7.holds Tryz.pinned (.plain (OpenSpec.upto freshSpec)) freshUptoCard

/-- THE SECOND FORM's CARD OF 'atlaskeep.Once'. -/
def onceUptoCard : Claim7 := { stood := { row := onceUptoRow, standIns := [], harness := (true, "fc609693cbb9e7ced997d973e0534c18e1d351a47f32464703d8b3dcc3e9557a"), looks := false }, kinds := [], alts := [], laidByText := true, laidKinds := [.data, .data, .data, .data], laidTests := true, laidLooks := .later }
def OnceUptoCardSaid : Prop := Claim7.holds Tryz.pinned (.plain (OpenSpec.upto onceSpec)) onceUptoCard

/-- THE SECOND FORM's CARD OF 'atlaskeep.Bounds'. -/
def boundsUptoCard : Claim7 := { stood := { row := boundsUptoRow, standIns := [], harness := (true, "fc609693cbb9e7ced997d973e0534c18e1d351a47f32464703d8b3dcc3e9557a"), looks := false }, kinds := [], alts := [], laidByText := true, laidKinds := [.data, .data, .data, .data], laidTests := true, laidLooks := .later }
def BoundsUptoCardSaid : Prop := Claim7.holds Tryz.pinned (.plain (OpenSpec.upto boundsSpec)) boundsUptoCard

/-- THE SECOND FORM's CARD OF 'atlaskeep.Tagged'. -/
def taggedUptoCard : Claim7 := { stood := { row := taggedUptoRow, standIns := [], harness := (true, "fc609693cbb9e7ced997d973e0534c18e1d351a47f32464703d8b3dcc3e9557a"), looks := false }, kinds := [], alts := [], laidByText := true, laidKinds := [.data, .data, .data, .data], laidTests := true, laidLooks := .later }
def TaggedUptoCardSaid : Prop := Claim7.holds Tryz.pinned (.plain (OpenSpec.upto taggedSpec)) taggedUptoCard

/-- THE SECOND FORM's CARD OF 'atlaskeep.Calm'. -/
def calmUptoCard : Claim7 := { stood := { row := calmUptoRow, standIns := [], harness := (true, "fc609693cbb9e7ced997d973e0534c18e1d351a47f32464703d8b3dcc3e9557a"), looks := false }, kinds := [], alts := [], laidByText := true, laidKinds := [.data, .data, .data, .data], laidTests := true, laidLooks := .later }
def CalmUptoCardSaid : Prop := Claim7.holds Tryz.pinned (.plain (OpenSpec.upto calmSpec)) calmUptoCard
end Rows
end Go.Proofs.YtpopchckldbhdaaGreatDoor
