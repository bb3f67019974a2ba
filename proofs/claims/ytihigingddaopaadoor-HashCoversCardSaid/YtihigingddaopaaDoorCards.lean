/-
  DERIVED. GIVEN WITH THE SEED: THE CARDS: each row of YtihigingddaopaaDoorRows.lean that lists a variable, with what it lists TIED to the program's text (the seventh form; the later family's looks); each row that meets fmt, with fmt's text TOLD by the authors' own Lean function (tested against real Go, not proved from fmt's source: count such statements apart). THE CARD IS WHAT COUNTS. Prove the row's statement (the work); the ties are given (YtihigingddaopaaDoorTie.lean); close each card by the builder's one call (the guide's Derived/Test/ToyasCard.lean, 'card_holds'). Laid BY PROGRAM, IN A SANDBOX (cutbox-door.mjs). By AI agents, Wed Nov 11 2026. No macro, syntax, notation, axiom, sorry.
-/
import Derived.Test.YtihigingddaopaaDoorRows
import GoSem.ClaimSeven
namespace Go.Proofs.YtihigingddaopaaDoor
namespace Rows

/-- THE TIED CARD OF 'waywiserlaw10.HashCovers'. -/
def hashCoversCard : Claim7 := { stood := { row := hashCoversRow, standIns := [], harness := (true, "1aec3f89d338499205e7e78835e0cc18234882cbab795051cf922f7367e17ce8"), looks := false }, kinds := [], alts := [], laidByText := true, laidKinds := [.data], laidTests := true, laidLooks := .later }
def HashCoversCardSaid : Prop := Claim7.holds Tryd.pinned (.plain (OpenSpec.ofChange hashCoversSpec)) hashCoversCard

/-- THE SECOND FORM's CARD OF 'waywiserlaw10.HashCovers'. -/
def hashCoversUptoCard : Claim7 := { stood := { row := hashCoversUptoRow, standIns := [], harness := (true, "1aec3f89d338499205e7e78835e0cc18234882cbab795051cf922f7367e17ce8"), looks := false }, kinds := [], alts := [], laidByText := true, laidKinds := [.data], laidTests := true, laidLooks := .later }
def HashCoversUptoCardSaid : Prop := Claim7.holds Tryd.pinned (.plain (OpenSpec.upto hashCoversSpec)) hashCoversUptoCard
end Rows
end Go.Proofs.YtihigingddaopaaDoor
