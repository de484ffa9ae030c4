/-
  DERIVED. GIVEN WITH THE SEED: THE CARDS: each row of YtccndnckceagfaaDoorRRows.lean that lists a variable, with what it lists TIED to the program's text (the seventh form; the later family's looks); each row that meets fmt, with fmt's text TOLD by the authors' own Lean function (tested against real Go, not proved from fmt's source: count such statements apart). THE CARD IS WHAT COUNTS. Prove the row's statement (the work); the ties are given (YtccndnckceagfaaDoorRTie.lean); close each card by the builder's one call (the guide's Derived/Test/ToyasCard.lean, 'card_holds'). Laid BY PROGRAM, IN A SANDBOX (cutbox-door.mjs). By AI agents, Wed Nov 11 2026. No macro, syntax, notation, axiom, sorry.
-/
import Derived.Test.YtccndnckceagfaaDoorRRows
import GoSem.ClaimSeven
namespace Go.Proofs.YtccndnckceagfaaDoorR
namespace Rows

/-- THE TIED CARD OF 'spilllaw.Checks'. -/
def checksCard : Claim7 := { stood := { row := checksRow, standIns := [], harness := (true, "0461a26a72d37710d5e9aacc3d25dcb9588113c0c11f5abcdafdc6b9526e7c41"), looks := false }, kinds := [], alts := [], laidByText := true, laidKinds := [.data], laidTests := true, laidLooks := .later }
def ChecksCardSaid : Prop := Claim7.holds Tryd.pinned (.plain (OpenSpec.ofChange checksSpec)) checksCard

/-- THE TIED CARD OF 'spilllaw.Runs'. -/
def runsCard : Claim7 := { stood := { row := runsRow, standIns := [], harness := (true, "0461a26a72d37710d5e9aacc3d25dcb9588113c0c11f5abcdafdc6b9526e7c41"), looks := false }, kinds := [], alts := [], laidByText := true, laidKinds := [.data, .data, .data, .data], laidTests := true, laidLooks := .later }
def RunsCardSaid : Prop := Claim7.holds Tryd.pinned (.plain (OpenSpec.ofChange runsSpec)) runsCard

/-- THE TIED CARD OF 'spillkeep.Longer'. -/
def longerCard : Claim7 := { stood := { row := longerRow, standIns := [], harness := (true, "0461a26a72d37710d5e9aacc3d25dcb9588113c0c11f5abcdafdc6b9526e7c41"), looks := false }, kinds := [], alts := [], laidByText := true, laidKinds := [.data, .data, .data, .data], laidTests := true, laidLooks := .later }
def LongerCardSaid : Prop := Claim7.holds Tryd.pinned (.plain (OpenSpec.ofChange longerSpec)) longerCard

/-- THE TIED CARD OF 'spilllaw.Execs'. -/
def execsCard : Claim7 := { stood := { row := execsRow, standIns := [], harness := (true, "0461a26a72d37710d5e9aacc3d25dcb9588113c0c11f5abcdafdc6b9526e7c41"), looks := false }, kinds := [], alts := [], laidByText := true, laidKinds := [.data, .data, .data], laidTests := true, laidLooks := .later }
def ExecsCardSaid : Prop := Claim7.holds Tryd.pinned (.plain (OpenSpec.ofChange execsSpec)) execsCard

/-- THE TIED CARD OF 'spillkeep.Sound'. -/
def soundCard : Claim7 := { stood := { row := soundRow, standIns := [], harness := (true, "0461a26a72d37710d5e9aacc3d25dcb9588113c0c11f5abcdafdc6b9526e7c41"), looks := false }, kinds := [], alts := [], laidByText := true, laidKinds := [.data, .data, .data, .data], laidTests := true, laidLooks := .later }
def SoundCardSaid : Prop := Claim7.holds Tryd.pinned (.plain (OpenSpec.ofChange soundSpec)) soundCard

/-- THE TIED CARD OF 'spilllaw.Lives'. -/
def livesCard : Claim7 := { stood := { row := livesRow, standIns := [], harness := (true, "0461a26a72d37710d5e9aacc3d25dcb9588113c0c11f5abcdafdc6b9526e7c41"), looks := false }, kinds := [], alts := [], laidByText := true, laidKinds := [.data], laidTests := true, laidLooks := .later }
def LivesCardSaid : Prop := Claim7.holds Tryd.pinned (.plain (OpenSpec.ofChange livesSpec)) livesCard

/-- THE TIED CARD OF 'spilllaw.Cores'. -/
def coresCard : Claim7 := { stood := { row := coresRow, standIns := [], harness := (true, "0461a26a72d37710d5e9aacc3d25dcb9588113c0c11f5abcdafdc6b9526e7c41"), looks := false }, kinds := [], alts := [], laidByText := true, laidKinds := [.data], laidTests := true, laidLooks := .later }
def CoresCardSaid : Prop := Claim7.holds Tryd.pinned (.plain (OpenSpec.ofChange coresSpec)) coresCard

/-- THE TIED CARD OF 'spillkeep.Idle'. -/
def idleCard : Claim7 := { stood := { row := idleRow, standIns := [], harness := (true, "0461a26a72d37710d5e9aacc3d25dcb9588113c0c11f5abcdafdc6b9526e7c41"), looks := false }, kinds := [], alts := [], laidByText := true, laidKinds := [.data, .data, .data, .data], laidTests := true, laidLooks := .later }
def IdleCardSaid : Prop := Claim7.holds Tryd.pinned (.plain (OpenSpec.ofChange idleSpec)) idleCard

/-- THE TIED CARD OF 'spillkeep.Turned'. -/
def turnedCard : Claim7 := { stood := { row := turnedRow, standIns := [], harness := (true, "0461a26a72d37710d5e9aacc3d25dcb9588113c0c11f5abcdafdc6b9526e7c41"), looks := false }, kinds := [], alts := [], laidByText := true, laidKinds := [.data, .data, .data, .data], laidTests := true, laidLooks := .later }
def TurnedCardSaid : Prop := Claim7.holds Tryd.pinned (.plain (OpenSpec.ofChange turnedSpec)) turnedCard

/-- THE SECOND FORM's CARD OF 'spilllaw.Checks'. -/
def checksUptoCard : Claim7 := { stood := { row := checksUptoRow, standIns := [], harness := (true, "0461a26a72d37710d5e9aacc3d25dcb9588113c0c11f5abcdafdc6b9526e7c41"), looks := false }, kinds := [], alts := [], laidByText := true, laidKinds := [.data], laidTests := true, laidLooks := .later }
def ChecksUptoCardSaid : Prop := Claim7.holds Tryd.pinned (.plain (OpenSpec.upto checksSpec)) checksUptoCard

/-- THE SECOND FORM's CARD OF 'spilllaw.Runs'. -/
def runsUptoCard : Claim7 := { stood := { row := runsUptoRow, standIns := [], harness := (true, "0461a26a72d37710d5e9aacc3d25dcb9588113c0c11f5abcdafdc6b9526e7c41"), looks := false }, kinds := [], alts := [], laidByText := true, laidKinds := [.data, .data, .data, .data], laidTests := true, laidLooks := .later }
def RunsUptoCardSaid : Prop := Claim7.holds Tryd.pinned (.plain (OpenSpec.upto runsSpec)) runsUptoCard

/-- THE SECOND FORM's CARD OF 'spillkeep.Longer'. -/
def longerUptoCard : Claim7 := { stood := { row := longerUptoRow, standIns := [], harness := (true, "0461a26a72d37710d5e9aacc3d25dcb9588113c0c11f5abcdafdc6b9526e7c41"), looks := false }, kinds := [], alts := [], laidByText := true, laidKinds := [.data, .data, .data, .data], laidTests := true, laidLooks := .later }
def LongerUptoCardSaid : Prop := Claim7.holds Tryd.pinned (.plain (OpenSpec.upto longerSpec)) longerUptoCard

/-- THE SECOND FORM's CARD OF 'spilllaw.Execs'. -/
def execsUptoCard : Claim7 := { stood := { row := execsUptoRow, standIns := [], harness := (true, "0461a26a72d37710d5e9aacc3d25dcb9588113c0c11f5abcdafdc6b9526e7c41"), looks := false }, kinds := [], alts := [], laidByText := true, laidKinds := [.data, .data, .data], laidTests := true, laidLooks := .later }
def ExecsUptoCardSaid : Prop := Claim7.holds Tryd.pinned (.plain (OpenSpec.upto execsSpec)) execsUptoCard

/-- THE SECOND FORM's CARD OF 'spillkeep.Sound'. -/
def soundUptoCard : Claim7 := { stood := { row := soundUptoRow, standIns := [], harness := (true, "0461a26a72d37710d5e9aacc3d25dcb9588113c0c11f5abcdafdc6b9526e7c41"), looks := false }, kinds := [], alts := [], laidByText := true, laidKinds := [.data, .data, .data, .data], laidTests := true, laidLooks := .later }
def SoundUptoCardSaid : Prop := Claim7.holds Tryd.pinned (.plain (OpenSpec.upto soundSpec)) soundUptoCard

/-- THE SECOND FORM's CARD OF 'spilllaw.Lives'. -/
def livesUptoCard : Claim7 := { stood := { row := livesUptoRow, standIns := [], harness := (true, "0461a26a72d37710d5e9aacc3d25dcb9588113c0c11f5abcdafdc6b9526e7c41"), looks := false }, kinds := [], alts := [], laidByText := true, laidKinds := [.data], laidTests := true, laidLooks := .later }
def LivesUptoCardSaid : Prop := Claim7.holds Tryd.pinned (.plain (OpenSpec.upto livesSpec)) livesUptoCard

/-- THE SECOND FORM's CARD OF 'spilllaw.Cores'. -/
def coresUptoCard : Claim7 := { stood := { row := coresUptoRow, standIns := [], harness := (true, "0461a26a72d37710d5e9aacc3d25dcb9588113c0c11f5abcdafdc6b9526e7c41"), looks := false }, kinds := [], alts := [], laidByText := true, laidKinds := [.data], laidTests := true, laidLooks := .later }
def CoresUptoCardSaid : Prop := Claim7.holds Tryd.pinned (.plain (OpenSpec.upto coresSpec)) coresUptoCard

/-- THE SECOND FORM's CARD OF 'spillkeep.Idle'. -/
def idleUptoCard : Claim7 := { stood := { row := idleUptoRow, standIns := [], harness := (true, "0461a26a72d37710d5e9aacc3d25dcb9588113c0c11f5abcdafdc6b9526e7c41"), looks := false }, kinds := [], alts := [], laidByText := true, laidKinds := [.data, .data, .data, .data], laidTests := true, laidLooks := .later }
def IdleUptoCardSaid : Prop := Claim7.holds Tryd.pinned (.plain (OpenSpec.upto idleSpec)) idleUptoCard

/-- THE SECOND FORM's CARD OF 'spillkeep.Turned'. -/
def turnedUptoCard : Claim7 := { stood := { row := turnedUptoRow, standIns := [], harness := (true, "0461a26a72d37710d5e9aacc3d25dcb9588113c0c11f5abcdafdc6b9526e7c41"), looks := false }, kinds := [], alts := [], laidByText := true, laidKinds := [.data, .data, .data, .data], laidTests := true, laidLooks := .later }
def TurnedUptoCardSaid : Prop := Claim7.holds Tryd.pinned (.plain (OpenSpec.upto turnedSpec)) turnedUptoCard
end Rows
end Go.Proofs.YtccndnckceagfaaDoorR
