/-
  DERIVED. GIVEN WITH THE SEED: THE CARDS: each row of YtiiikahpmoifaaaDoorRows.lean that lists a variable, with what it lists TIED to the program's text (the seventh form; the later family's looks); each row that meets fmt, with fmt's text TOLD by the authors' own Lean function (tested against real Go, not proved from fmt's source: count such statements apart). THE CARD IS WHAT COUNTS. Prove the row's statement (the work); the ties are given (YtiiikahpmoifaaaDoorTie.lean); close each card by the builder's one call (the guide's Derived/Test/ToyasCard.lean, 'card_holds'). Laid BY PROGRAM, IN A SANDBOX (cutbox-door.mjs). By AI agents, Wed Nov 11 2026. No macro, syntax, notation, axiom, sorry.
-/
import Derived.Test.YtiiikahpmoifaaaDoorRows
import GoSem.ClaimSeven
namespace Go.Proofs.YtiiikahpmoifaaaDoor
namespace Rows

/-- THE TIED CARD OF 'waywiserlaw10.HashCodes'. -/
def hashCodesCard : Claim7 := { stood := { row := hashCodesRow, standIns := [], harness := (true, "7880b95b8d98a6554d86f894977f3675f957d89652a65da1c01eae41e90417ed"), looks := false }, kinds := [], alts := [], laidByText := true, laidKinds := [.data], laidTests := true, laidLooks := .later }
def HashCodesCardSaid : Prop := Claim7.holds Tryd.pinned (.plain (OpenSpec.ofChange hashCodesSpec)) hashCodesCard

/-- THE TIED CARD OF 'waywiserlaw10.HashCovers'. -/
def hashCoversCard : Claim7 := { stood := { row := hashCoversRow, standIns := [], harness := (true, "7880b95b8d98a6554d86f894977f3675f957d89652a65da1c01eae41e90417ed"), looks := false }, kinds := [], alts := [], laidByText := true, laidKinds := [.data], laidTests := true, laidLooks := .later }
def HashCoversCardSaid : Prop := Claim7.holds Tryd.pinned (.plain (OpenSpec.ofChange hashCoversSpec)) hashCoversCard

/-- THE TIED CARD OF 'waywiserlaw10.HashBack'. -/
def hashBackCard : Claim7 := { stood := { row := hashBackRow, standIns := [], harness := (true, "7880b95b8d98a6554d86f894977f3675f957d89652a65da1c01eae41e90417ed"), looks := false }, kinds := [], alts := [], laidByText := true, laidKinds := [.data], laidTests := true, laidLooks := .later }
def HashBackCardSaid : Prop := Claim7.holds Tryd.pinned (.plain (OpenSpec.ofChange hashBackSpec)) hashBackCard

/-- THE TIED CARD OF 'waywiserlaw10.HashHolds'. -/
def hashHoldsCard : Claim7 := { stood := { row := hashHoldsRow, standIns := [], harness := (true, "7880b95b8d98a6554d86f894977f3675f957d89652a65da1c01eae41e90417ed"), looks := false }, kinds := [], alts := [], laidByText := true, laidKinds := [.data], laidTests := true, laidLooks := .later }
def HashHoldsCardSaid : Prop := Claim7.holds Tryd.pinned (.plain (OpenSpec.ofChange hashHoldsSpec)) hashHoldsCard

/-- THE TIED CARD OF 'waywiserlaw10.HashSpots'. -/
def hashSpotsCard : Claim7 := { stood := { row := hashSpotsRow, standIns := [], harness := (true, "7880b95b8d98a6554d86f894977f3675f957d89652a65da1c01eae41e90417ed"), looks := false }, kinds := [], alts := [], laidByText := true, laidKinds := [.data], laidTests := true, laidLooks := .later }
def HashSpotsCardSaid : Prop := Claim7.holds Tryd.pinned (.plain (OpenSpec.ofChange hashSpotsSpec)) hashSpotsCard

/-- THE SECOND FORM's CARD OF 'waywiserlaw10.HashCodes'. -/
def hashCodesUptoCard : Claim7 := { stood := { row := hashCodesUptoRow, standIns := [], harness := (true, "7880b95b8d98a6554d86f894977f3675f957d89652a65da1c01eae41e90417ed"), looks := false }, kinds := [], alts := [], laidByText := true, laidKinds := [.data], laidTests := true, laidLooks := .later }
def HashCodesUptoCardSaid : Prop := Claim7.holds Tryd.pinned (.plain (OpenSpec.upto hashCodesSpec)) hashCodesUptoCard

/-- THE SECOND FORM's CARD OF 'waywiserlaw10.HashCovers'. -/
def hashCoversUptoCard : Claim7 := { stood := { row := hashCoversUptoRow, standIns := [], harness := (true, "7880b95b8d98a6554d86f894977f3675f957d89652a65da1c01eae41e90417ed"), looks := false }, kinds := [], alts := [], laidByText := true, laidKinds := [.data], laidTests := true, laidLooks := .later }
def HashCoversUptoCardSaid : Prop := Claim7.holds Tryd.pinned (.plain (OpenSpec.upto hashCoversSpec)) hashCoversUptoCard

/-- THE SECOND FORM's CARD OF 'waywiserlaw10.HashBack'. -/
def hashBackUptoCard : Claim7 := { stood := { row := hashBackUptoRow, standIns := [], harness := (true, "7880b95b8d98a6554d86f894977f3675f957d89652a65da1c01eae41e90417ed"), looks := false }, kinds := [], alts := [], laidByText := true, laidKinds := [.data], laidTests := true, laidLooks := .later }
def HashBackUptoCardSaid : Prop := Claim7.holds Tryd.pinned (.plain (OpenSpec.upto hashBackSpec)) hashBackUptoCard

/-- THE SECOND FORM's CARD OF 'waywiserlaw10.HashHolds'. -/
def hashHoldsUptoCard : Claim7 := { stood := { row := hashHoldsUptoRow, standIns := [], harness := (true, "7880b95b8d98a6554d86f894977f3675f957d89652a65da1c01eae41e90417ed"), looks := false }, kinds := [], alts := [], laidByText := true, laidKinds := [.data], laidTests := true, laidLooks := .later }
def HashHoldsUptoCardSaid : Prop := Claim7.holds Tryd.pinned (.plain (OpenSpec.upto hashHoldsSpec)) hashHoldsUptoCard

/-- THE SECOND FORM's CARD OF 'waywiserlaw10.HashSpots'. -/
def hashSpotsUptoCard : Claim7 := { stood := { row := hashSpotsUptoRow, standIns := [], harness := (true, "7880b95b8d98a6554d86f894977f3675f957d89652a65da1c01eae41e90417ed"), looks := false }, kinds := [], alts := [], laidByText := true, laidKinds := [.data], laidTests := true, laidLooks := .later }
def HashSpotsUptoCardSaid : Prop := Claim7.holds Tryd.pinned (.plain (OpenSpec.upto hashSpotsSpec)) hashSpotsUptoCard
end Rows
end Go.Proofs.YtiiikahpmoifaaaDoor
