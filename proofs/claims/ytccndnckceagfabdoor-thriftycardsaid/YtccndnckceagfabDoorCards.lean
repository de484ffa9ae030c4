/-
  DERIVED. GIVEN WITH THE SEED: THE CARDS: each row of YtccndnckceagfabDoorRows.lean that lists a variable, with what it lists TIED to the program's text (the seventh form; the later family's looks); each row that meets fmt, with fmt's text TOLD by the authors' own Lean function (tested against real Go, not proved from fmt's source: count such statements apart). THE CARD IS WHAT COUNTS. Prove the row's statement (the work); the ties are given (YtccndnckceagfabDoorTie.lean); close each card by the builder's one call (the guide's Derived/Test/ToyasCard.lean, 'card_holds'). Laid BY PROGRAM, IN A SANDBOX (cutbox-door.mjs). By AI agents, Wed Nov 11 2026. No macro, syntax, notation, axiom, sorry.
-/
import Derived.Test.YtccndnckceagfabDoorRows
import GoSem.ClaimSeven
namespace Go.Proofs.YtccndnckceagfabDoor
namespace Rows

/-- THE TIED CARD OF 'spillkeep.Renamed'. -/
def renamedCard : Claim7 := { stood := { row := renamedRow, standIns := [], harness := (true, "9116adef257b28e50bf203fc3dd3d5e0a8b0f592e5ca66e3a9d1f6dc9844eca9"), looks := false }, kinds := [], alts := [], laidByText := true, laidKinds := [.data], laidTests := true, laidLooks := .later }
def RenamedCardSaid : Prop := Claim7.holds Tryd.pinned (.plain (OpenSpec.ofChange renamedSpec)) renamedCard

/-- THE TIED CARD OF 'spillkeep.Thrifty'. -/
def thriftyCard : Claim7 := { stood := { row := thriftyRow, standIns := [], harness := (true, "9116adef257b28e50bf203fc3dd3d5e0a8b0f592e5ca66e3a9d1f6dc9844eca9"), looks := false }, kinds := [], alts := [], laidByText := true, laidKinds := [.data], laidTests := true, laidLooks := .later }
def ThriftyCardSaid : Prop := Claim7.holds Tryd.pinned (.plain (OpenSpec.ofChange thriftySpec)) thriftyCard

/-- THE SECOND FORM's CARD OF 'spillkeep.Renamed'. -/
def renamedUptoCard : Claim7 := { stood := { row := renamedUptoRow, standIns := [], harness := (true, "9116adef257b28e50bf203fc3dd3d5e0a8b0f592e5ca66e3a9d1f6dc9844eca9"), looks := false }, kinds := [], alts := [], laidByText := true, laidKinds := [.data], laidTests := true, laidLooks := .later }
def RenamedUptoCardSaid : Prop := Claim7.holds Tryd.pinned (.plain (OpenSpec.upto renamedSpec)) renamedUptoCard

/-- THE SECOND FORM's CARD OF 'spillkeep.Thrifty'. -/
def thriftyUptoCard : Claim7 := { stood := { row := thriftyUptoRow, standIns := [], harness := (true, "9116adef257b28e50bf203fc3dd3d5e0a8b0f592e5ca66e3a9d1f6dc9844eca9"), looks := false }, kinds := [], alts := [], laidByText := true, laidKinds := [.data], laidTests := true, laidLooks := .later }
def ThriftyUptoCardSaid : Prop := Claim7.holds Tryd.pinned (.plain (OpenSpec.upto thriftySpec)) thriftyUptoCard
end Rows
end Go.Proofs.YtccndnckceagfabDoor
