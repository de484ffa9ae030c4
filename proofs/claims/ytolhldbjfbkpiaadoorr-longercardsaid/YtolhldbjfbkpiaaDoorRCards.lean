/-
  DERIVED. GIVEN WITH THE SEED: THE CARDS: each row of YtolhldbjfbkpiaaDoorRRows.lean that lists a variable, with what it lists TIED to the program's text (the seventh form; the later family's looks); each row that meets fmt, with fmt's text TOLD by the authors' own Lean function (tested against real Go, not proved from fmt's source: count such statements apart). THE CARD IS WHAT COUNTS. Prove the row's statement (the work); the ties are given (YtolhldbjfbkpiaaDoorRTie.lean); close each card by the builder's one call (the guide's Derived/Test/ToyasCard.lean, 'card_holds'). Laid BY PROGRAM, IN A SANDBOX (cutbox-door.mjs). By AI agents, Wed Nov 11 2026. No macro, syntax, notation, axiom, sorry.
-/
import Derived.Test.YtolhldbjfbkpiaaDoorRRows
import GoSem.ClaimSeven
namespace Go.Proofs.YtolhldbjfbkpiaaDoorR
namespace Rows

/-- THE TIED CARD OF 'spilllaw.Checks'. -/
def checksCard : Claim7 := { stood := { row := checksRow, standIns := [], harness := (true, "9078187e6afc429417af452e2f00a02e4c3afbd6aaa9bc37b66a22ae46d23ea0"), looks := false }, kinds := [], alts := [], laidByText := true, laidKinds := [.data], laidTests := true, laidLooks := .later }
def ChecksCardSaid : Prop := Claim7.holds Tryd.pinned (.plain (OpenSpec.ofChange checksSpec)) checksCard

/-- THE TIED CARD OF 'spilllaw.Runs'. -/
def runsCard : Claim7 := { stood := { row := runsRow, standIns := [], harness := (true, "9078187e6afc429417af452e2f00a02e4c3afbd6aaa9bc37b66a22ae46d23ea0"), looks := false }, kinds := [], alts := [], laidByText := true, laidKinds := [.data, .data, .data, .data], laidTests := true, laidLooks := .later }
def RunsCardSaid : Prop := Claim7.holds Tryd.pinned (.plain (OpenSpec.ofChange runsSpec)) runsCard

/-- THE TIED CARD OF 'spillkeep.Longer'. -/
def longerCard : Claim7 := { stood := { row := longerRow, standIns := [], harness := (true, "9078187e6afc429417af452e2f00a02e4c3afbd6aaa9bc37b66a22ae46d23ea0"), looks := false }, kinds := [], alts := [], laidByText := true, laidKinds := [.data, .data, .data, .data], laidTests := true, laidLooks := .later }
def LongerCardSaid : Prop := Claim7.holds Tryd.pinned (.plain (OpenSpec.ofChange longerSpec)) longerCard

/-- THE TIED CARD OF 'spilllaw.Execs'. -/
def execsCard : Claim7 := { stood := { row := execsRow, standIns := [], harness := (true, "9078187e6afc429417af452e2f00a02e4c3afbd6aaa9bc37b66a22ae46d23ea0"), looks := false }, kinds := [], alts := [], laidByText := true, laidKinds := [.data, .data, .data], laidTests := true, laidLooks := .later }
def ExecsCardSaid : Prop := Claim7.holds Tryd.pinned (.plain (OpenSpec.ofChange execsSpec)) execsCard

/-- THE TIED CARD OF 'spillkeep.Sound'. -/
def soundCard : Claim7 := { stood := { row := soundRow, standIns := [], harness := (true, "9078187e6afc429417af452e2f00a02e4c3afbd6aaa9bc37b66a22ae46d23ea0"), looks := false }, kinds := [], alts := [], laidByText := true, laidKinds := [.data, .data, .data, .data], laidTests := true, laidLooks := .later }
def SoundCardSaid : Prop := Claim7.holds Tryd.pinned (.plain (OpenSpec.ofChange soundSpec)) soundCard

/-- THE TIED CARD OF 'spillkeep.Turned'. -/
def turnedCard : Claim7 := { stood := { row := turnedRow, standIns := [], harness := (true, "9078187e6afc429417af452e2f00a02e4c3afbd6aaa9bc37b66a22ae46d23ea0"), looks := false }, kinds := [], alts := [], laidByText := true, laidKinds := [.data, .data, .data, .data], laidTests := true, laidLooks := .later }
def TurnedCardSaid : Prop := Claim7.holds Tryd.pinned (.plain (OpenSpec.ofChange turnedSpec)) turnedCard

/-- THE SECOND FORM's CARD OF 'spilllaw.Checks'. -/
def checksUptoCard : Claim7 := { stood := { row := checksUptoRow, standIns := [], harness := (true, "9078187e6afc429417af452e2f00a02e4c3afbd6aaa9bc37b66a22ae46d23ea0"), looks := false }, kinds := [], alts := [], laidByText := true, laidKinds := [.data], laidTests := true, laidLooks := .later }
def ChecksUptoCardSaid : Prop := Claim7.holds Tryd.pinned (.plain (OpenSpec.upto checksSpec)) checksUptoCard

/-- THE SECOND FORM's CARD OF 'spilllaw.Runs'. -/
def runsUptoCard : Claim7 := { stood := { row := runsUptoRow, standIns := [], harness := (true, "9078187e6afc429417af452e2f00a02e4c3afbd6aaa9bc37b66a22ae46d23ea0"), looks := false }, kinds := [], alts := [], laidByText := true, laidKinds := [.data, .data, .data, .data], laidTests := true, laidLooks := .later }
def RunsUptoCardSaid : Prop := Claim7.holds Tryd.pinned (.plain (OpenSpec.upto runsSpec)) runsUptoCard

/-- THE SECOND FORM's CARD OF 'spillkeep.Longer'. -/
def longerUptoCard : Claim7 := { stood := { row := longerUptoRow, standIns := [], harness := (true, "9078187e6afc429417af452e2f00a02e4c3afbd6aaa9bc37b66a22ae46d23ea0"), looks := false }, kinds := [], alts := [], laidByText := true, laidKinds := [.data, .data, .data, .data], laidTests := true, laidLooks := .later }
def LongerUptoCardSaid : Prop := Claim7.holds Tryd.pinned (.plain (OpenSpec.upto longerSpec)) longerUptoCard

/-- THE SECOND FORM's CARD OF 'spilllaw.Execs'. -/
def execsUptoCard : Claim7 := { stood := { row := execsUptoRow, standIns := [], harness := (true, "9078187e6afc429417af452e2f00a02e4c3afbd6aaa9bc37b66a22ae46d23ea0"), looks := false }, kinds := [], alts := [], laidByText := true, laidKinds := [.data, .data, .data], laidTests := true, laidLooks := .later }
def ExecsUptoCardSaid : Prop := Claim7.holds Tryd.pinned (.plain (OpenSpec.upto execsSpec)) execsUptoCard

/-- THE SECOND FORM's CARD OF 'spillkeep.Sound'. -/
def soundUptoCard : Claim7 := { stood := { row := soundUptoRow, standIns := [], harness := (true, "9078187e6afc429417af452e2f00a02e4c3afbd6aaa9bc37b66a22ae46d23ea0"), looks := false }, kinds := [], alts := [], laidByText := true, laidKinds := [.data, .data, .data, .data], laidTests := true, laidLooks := .later }
def SoundUptoCardSaid : Prop := Claim7.holds Tryd.pinned (.plain (OpenSpec.upto soundSpec)) soundUptoCard

/-- THE SECOND FORM's CARD OF 'spillkeep.Turned'. -/
def turnedUptoCard : Claim7 := { stood := { row := turnedUptoRow, standIns := [], harness := (true, "9078187e6afc429417af452e2f00a02e4c3afbd6aaa9bc37b66a22ae46d23ea0"), looks := false }, kinds := [], alts := [], laidByText := true, laidKinds := [.data, .data, .data, .data], laidTests := true, laidLooks := .later }
def TurnedUptoCardSaid : Prop := Claim7.holds Tryd.pinned (.plain (OpenSpec.upto turnedSpec)) turnedUptoCard
end Rows
end Go.Proofs.YtolhldbjfbkpiaaDoorR
