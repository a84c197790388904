/-
  DERIVED. GIVEN WITH THE SEED: THE CARDS: each row of YtgkljcmjnphpeaaGreatDoorRows.lean that lists a variable, with what it lists TIED to the program's text (the seventh form; the later family's looks); each row that meets fmt, with fmt's text TOLD by the authors' own Lean function (tested against real Go, not proved from fmt's source: count such statements apart). THE CARD IS WHAT COUNTS. Prove the row's statement (the work); the ties are given (YtgkljcmjnphpeaaGreatDoorTie.lean); close each card by the builder's one call (the guide's Derived/Test/ToyasCard.lean, 'card_holds'). Laid BY PROGRAM, IN A SANDBOX (cutbox-door.mjs). By AI agents, Wed Nov 11 2026. No macro, syntax, notation, axiom, sorry.
-/
import Derived.Test.YtgkljcmjnphpeaaGreatDoorRows
import GoSem.ClaimSeven
namespace Go.Proofs.YtgkljcmjnphpeaaGreatDoor
namespace Rows

/-- THE TIED CARD OF 'foliolaw.Encodes'. -/
def encodesCard : Claim7 := { stood := { row := encodesRow, standIns := [], harness := (true, "d52f0469972b0d0a1973148a3a9665fc2f0878cb0bb7c7b57dc9ab676543f5a3"), looks := true }, kinds := [], alts := [], laidByText := true, laidKinds := [.data], laidTests := true, laidLooks := .later }
def EncodesCardSaid : Prop := Claim7.holds Tryz.pinned (.plain (OpenSpec.ofChange encodesSpec)) encodesCard

/-- THE TIED CARD OF 'foliolaw.Decodes'. -/
def decodesCard : Claim7 := { stood := { row := decodesRow, standIns := [], harness := (true, "d52f0469972b0d0a1973148a3a9665fc2f0878cb0bb7c7b57dc9ab676543f5a3"), looks := true }, kinds := [], alts := [], laidByText := true, laidKinds := [.data], laidTests := true, laidLooks := .later }
def DecodesCardSaid : Prop := Claim7.holds Tryz.pinned (.plain (OpenSpec.ofChange decodesSpec)) decodesCard

/-- THE TIED CARD OF 'foliolaw.Writes'. -/
def writesCard : Claim7 := { stood := { row := writesRow, standIns := [], harness := (true, "d52f0469972b0d0a1973148a3a9665fc2f0878cb0bb7c7b57dc9ab676543f5a3"), looks := true }, kinds := [], alts := [], laidByText := true, laidKinds := [.data, .data, .data], laidTests := true, laidLooks := .later }
def WritesCardSaid : Prop := Claim7.holds Tryz.pinned (.plain (OpenSpec.ofChange writesSpec)) writesCard

/-- THE TIED CARD OF 'foliolaw.Reads'. -/
def readsCard : Claim7 := { stood := { row := readsRow, standIns := [], harness := (true, "d52f0469972b0d0a1973148a3a9665fc2f0878cb0bb7c7b57dc9ab676543f5a3"), looks := true }, kinds := [], alts := [], laidByText := true, laidKinds := [.data, .data, .data, .data, .sentinel, .sentinel, .data, .pinned], laidTests := true, laidLooks := .later }
def ReadsCardSaid : Prop := Claim7.holds Tryz.pinned (.plain (OpenSpec.ofChange readsSpec)) readsCard

/-- THE TIED CARD OF 'foliolaw.All'. -/
def allCard : Claim7 := { stood := { row := allRow, standIns := [], harness := (true, "d52f0469972b0d0a1973148a3a9665fc2f0878cb0bb7c7b57dc9ab676543f5a3"), looks := true }, kinds := [], alts := [], laidByText := true, laidKinds := [.data, .data, .data, .data, .sentinel, .sentinel, .data, .pinned], laidTests := true, laidLooks := .later }
def AllCardSaid : Prop := Claim7.holds Tryz.pinned (.plain (OpenSpec.ofChange allSpec)) allCard

/-- THE TIED CARD OF 'foliokeep.Written'. -/
def writtenCard : Claim7 := { stood := { row := writtenRow, standIns := [], harness := (true, "d52f0469972b0d0a1973148a3a9665fc2f0878cb0bb7c7b57dc9ab676543f5a3"), looks := true }, kinds := [], alts := [], laidByText := true, laidKinds := [.data, .data, .data, .data, .sentinel, .sentinel, .data, .pinned], laidTests := true, laidLooks := .later }
def WrittenCardSaid : Prop := Claim7.holds Tryz.pinned (.plain (OpenSpec.ofChange writtenSpec)) writtenCard

/-- THE TIED CARD OF 'foliokeep.Loose'. -/
def looseCard : Claim7 := { stood := { row := looseRow, standIns := [], harness := (true, "d52f0469972b0d0a1973148a3a9665fc2f0878cb0bb7c7b57dc9ab676543f5a3"), looks := true }, kinds := [], alts := [], laidByText := true, laidKinds := [.data, .data, .data, .data, .sentinel, .sentinel, .data, .pinned], laidTests := true, laidLooks := .later }
def LooseCardSaid : Prop := Claim7.holds Tryz.pinned (.plain (OpenSpec.ofChange looseSpec)) looseCard

/-- THE TIED CARD OF 'foliokeep.Strings'. -/
def stringsCard : Claim7 := { stood := { row := stringsRow, standIns := [], harness := (true, "d52f0469972b0d0a1973148a3a9665fc2f0878cb0bb7c7b57dc9ab676543f5a3"), looks := true }, kinds := [], alts := [], laidByText := true, laidKinds := [.data, .data, .data, .data, .sentinel, .sentinel, .data, .pinned], laidTests := true, laidLooks := .later }
def StringsCardSaid : Prop := Claim7.holds Tryz.pinned (.plain (OpenSpec.ofChange stringsSpec)) stringsCard

/-- THE TIED CARD OF 'foliokeep.Full'. -/
def fullCard : Claim7 := { stood := { row := fullRow, standIns := [], harness := (true, "d52f0469972b0d0a1973148a3a9665fc2f0878cb0bb7c7b57dc9ab676543f5a3"), looks := true }, kinds := [], alts := [], laidByText := true, laidKinds := [.data, .data, .data, .data, .sentinel, .sentinel, .data, .pinned], laidTests := true, laidLooks := .later }
def FullCardSaid : Prop := Claim7.holds Tryz.pinned (.plain (OpenSpec.ofChange fullSpec)) fullCard

/-- THE SECOND FORM's CARD OF 'foliolaw.Encodes'. -/
def encodesUptoCard : Claim7 := { stood := { row := encodesUptoRow, standIns := [], harness := (true, "d52f0469972b0d0a1973148a3a9665fc2f0878cb0bb7c7b57dc9ab676543f5a3"), looks := true }, kinds := [], alts := [], laidByText := true, laidKinds := [.data], laidTests := true, laidLooks := .later }
def EncodesUptoCardSaid : Prop := Claim7.holds Tryz.pinned (.plain (OpenSpec.upto encodesSpec)) encodesUptoCard

/-- THE SECOND FORM's CARD OF 'foliolaw.Decodes'. -/
def decodesUptoCard : Claim7 := { stood := { row := decodesUptoRow, standIns := [], harness := (true, "d52f0469972b0d0a1973148a3a9665fc2f0878cb0bb7c7b57dc9ab676543f5a3"), looks := true }, kinds := [], alts := [], laidByText := true, laidKinds := [.data], laidTests := true, laidLooks := .later }
def DecodesUptoCardSaid : Prop := Claim7.holds Tryz.pinned (.plain (OpenSpec.upto decodesSpec)) decodesUptoCard

/-- THE SECOND FORM's CARD OF 'foliolaw.Writes'. -/
def writesUptoCard : Claim7 := { stood := { row := writesUptoRow, standIns := [], harness := (true, "d52f0469972b0d0a1973148a3a9665fc2f0878cb0bb7c7b57dc9ab676543f5a3"), looks := true }, kinds := [], alts := [], laidByText := true, laidKinds := [.data, .data, .data], laidTests := true, laidLooks := .later }
def WritesUptoCardSaid : Prop := Claim7.holds Tryz.pinned (.plain (OpenSpec.upto writesSpec)) writesUptoCard

/-- THE SECOND FORM's CARD OF 'foliolaw.Reads'. -/
def readsUptoCard : Claim7 := { stood := { row := readsUptoRow, standIns := [], harness := (true, "d52f0469972b0d0a1973148a3a9665fc2f0878cb0bb7c7b57dc9ab676543f5a3"), looks := true }, kinds := [], alts := [], laidByText := true, laidKinds := [.data, .data, .data, .data, .sentinel, .sentinel, .data, .pinned], laidTests := true, laidLooks := .later }
def ReadsUptoCardSaid : Prop := Claim7.holds Tryz.pinned (.plain (OpenSpec.upto readsSpec)) readsUptoCard

/-- THE SECOND FORM's CARD OF 'foliolaw.All'. -/
def allUptoCard : Claim7 := { stood := { row := allUptoRow, standIns := [], harness := (true, "d52f0469972b0d0a1973148a3a9665fc2f0878cb0bb7c7b57dc9ab676543f5a3"), looks := true }, kinds := [], alts := [], laidByText := true, laidKinds := [.data, .data, .data, .data, .sentinel, .sentinel, .data, .pinned], laidTests := true, laidLooks := .later }
def AllUptoCardSaid : Prop := Claim7.holds Tryz.pinned (.plain (OpenSpec.upto allSpec)) allUptoCard

/-- THE SECOND FORM's CARD OF 'foliokeep.Written'. -/
def writtenUptoCard : Claim7 := { stood := { row := writtenUptoRow, standIns := [], harness := (true, "d52f0469972b0d0a1973148a3a9665fc2f0878cb0bb7c7b57dc9ab676543f5a3"), looks := true }, kinds := [], alts := [], laidByText := true, laidKinds := [.data, .data, .data, .data, .sentinel, .sentinel, .data, .pinned], laidTests := true, laidLooks := .later }
def WrittenUptoCardSaid : Prop := Claim7.holds Tryz.pinned (.plain (OpenSpec.upto writtenSpec)) writtenUptoCard

/-- THE SECOND FORM's CARD OF 'foliokeep.Loose'. -/
def looseUptoCard : Claim7 := { stood := { row := looseUptoRow, standIns := [], harness := (true, "d52f0469972b0d0a1973148a3a9665fc2f0878cb0bb7c7b57dc9ab676543f5a3"), looks := true }, kinds := [], alts := [], laidByText := true, laidKinds := [.data, .data, .data, .data, .sentinel, .sentinel, .data, .pinned], laidTests := true, laidLooks := .later }
def LooseUptoCardSaid : Prop := Claim7.holds Tryz.pinned (.plain (OpenSpec.upto looseSpec)) looseUptoCard

/-- THE SECOND FORM's CARD OF 'foliokeep.Strings'. -/
def stringsUptoCard : Claim7 := { stood := { row := stringsUptoRow, standIns := [], harness := (true, "d52f0469972b0d0a1973148a3a9665fc2f0878cb0bb7c7b57dc9ab676543f5a3"), looks := true }, kinds := [], alts := [], laidByText := true, laidKinds := [.data, .data, .data, .data, .sentinel, .sentinel, .data, .pinned], laidTests := true, laidLooks := .later }
def StringsUptoCardSaid : Prop := Claim7.holds Tryz.pinned (.plain (OpenSpec.upto stringsSpec)) stringsUptoCard

/-- THE SECOND FORM's CARD OF 'foliokeep.Full'. -/
def fullUptoCard : Claim7 := { stood := { row := fullUptoRow, standIns := [], harness := (true, "d52f0469972b0d0a1973148a3a9665fc2f0878cb0bb7c7b57dc9ab676543f5a3"), looks := true }, kinds := [], alts := [], laidByText := true, laidKinds := [.data, .data, .data, .data, .sentinel, .sentinel, .data, .pinned], laidTests := true, laidLooks := .later }
def FullUptoCardSaid : Prop := Claim7.holds Tryz.pinned (.plain (OpenSpec.upto fullSpec)) fullUptoCard
end Rows
end Go.Proofs.YtgkljcmjnphpeaaGreatDoor
