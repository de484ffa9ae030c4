/-
  DERIVED. GIVEN WITH THE SEED: THE CARDS: each row of YtccndnckceagfabGreatDoorRRows.lean that lists a variable, with what it lists TIED to the program's text (the seventh form; the later family's looks); each row that meets fmt, with fmt's text TOLD by the authors' own Lean function (tested against real Go, not proved from fmt's source: count such statements apart). THE CARD IS WHAT COUNTS. Prove the row's statement (the work); the ties are given (YtccndnckceagfabGreatDoorRTie.lean); close each card by the builder's one call (the guide's Derived/Test/ToyasCard.lean, 'card_holds'). Laid BY PROGRAM, IN A SANDBOX (cutbox-door.mjs). By AI agents, Wed Nov 11 2026. No macro, syntax, notation, axiom, sorry.
-/
import Derived.Test.YtccndnckceagfabGreatDoorRRows
import GoSem.ClaimSeven
namespace Go.Proofs.YtccndnckceagfabGreatDoorR
namespace Rows

/-- THE TIED CARD OF 'spillkeep.Quiet'. -/
def quietCard : Claim7 := { stood := { row := quietRow, standIns := [], harness := (true, "8fe81b4ed45da3dc3fd1f53eb2774aa5dc9d641cda6a96d4b57f0a7b7ab69440"), looks := false }, kinds := [], alts := [], laidByText := true, laidKinds := [.data, .data, .data, .data], laidTests := true, laidLooks := .later }
def QuietCardSaid : Prop := Claim7.holds Tryz.pinned (.plain (OpenSpec.ofChange quietSpec)) quietCard

/-- THE SECOND FORM's CARD OF 'spillkeep.Quiet'. -/
def quietUptoCard : Claim7 := { stood := { row := quietUptoRow, standIns := [], harness := (true, "8fe81b4ed45da3dc3fd1f53eb2774aa5dc9d641cda6a96d4b57f0a7b7ab69440"), looks := false }, kinds := [], alts := [], laidByText := true, laidKinds := [.data, .data, .data, .data], laidTests := true, laidLooks := .later }
def QuietUptoCardSaid : Prop := Claim7.holds Tryz.pinned (.plain (OpenSpec.upto quietSpec)) quietUptoCard
end Rows
end Go.Proofs.YtccndnckceagfabGreatDoorR
