/-
  NARROWER THAN 'FOR EVERY INPUT', by the rows' own cells (each row's printed sentence says how): Renamed: laid · Thrifty: laid.
  DERIVED. THE GIVEN ROWS OF THIS SEAT. 2 by the template 'for every input the law returns true; each argument reads behind the call as it read before'; 0 by the template 'total and deterministic' (their statements: YtccndnckceagfabDoorTotals.lean).
  GIVEN WITH THE SEED: the statements are not yours to turn. If you find one false, say at which input.
  Laid BY PROGRAM, IN A SANDBOX (cutbox-rows.mjs): the forced cells as the released guide's own fill.sh prints them over the translation b3c2cf348783f8fa… (all of the seat's roots in one cut). By AI agents, Wed Nov 11 2026. No macro, syntax, notation, axiom, sorry.
-/
import Derived.Test.YtccndnckceagfabDoorChecked
import GoSem.Claim
import GoSem.ClaimJoined
import GoSem.ClaimMapViews
import Derived.JoinedTies
import Derived.KernelRfl
namespace Go.Proofs.YtccndnckceagfabDoor
/- THE CELL 'sum', in the pinned program and in every row, IS THE sha256 OF THE DUMP (.gsa) THAT YtccndnckceagfabDoorProg.lean LOADS. Nothing in Lean hashes anything: it is a label: what it is worth is what the hold of that sum in a sandbox is worth. -/
noncomputable def Tryd.pinned : Pinned := { name := "ytccndnckceagfabdoor", sum := "b3c2cf348783f8fa6336815f1a363de24137dee08ddd047dc29f99ed1c5e9447", checked := Tryd.checked }
namespace Rows
def none {H : Type} : Left H := { results := [], args := [] }

/- WHAT THE LISTED PACKAGE-LEVEL VARIABLES READ AS WHEN THE CALL BEGINS. Each datum BY PROGRAM (the guide's laid-datum.mjs) off the statement by which the dump's own 'gosem.cut.vars' lays the variable. In a bare row this is a premise. The card (YtccndnckceagfabDoorCards.lean) ties it to the program's text. -/
def laid_spill_code_Arguments {H : Type} : DataW H := .agg [.lit (.int .i64 0), .lit (.int .i64 1), .lit (.int .i64 26), .lit (.int .i64 27)]

/-- 'spillkeep.Renamed': WHATEVER THE INPUT: true; the input reads as it did. -/
def renamedSpec : ChangeSpec := { name := "renamed", fn := fun _ => fun
  | [d1, d2, d3, d4] => { results := [.lit (.bool true)], args := [d1, d2, d3, d4] }
  | _ => none }
def renamedRow : OpenClaim := { program := "ytccndnckceagfabdoor", sum := "b3c2cf348783f8fa6336815f1a363de24137dee08ddd047dc29f99ed1c5e9447", func := "spill/spillkeep.Renamed", spec := "renamed", named := ["spill/code.Arguments"], apart := false, laid := [("spill/code.Arguments", laid_spill_code_Arguments)] }
def RenamedSaid : Prop := renamedRow.holds Tryd.pinned (OpenSpec.ofChange renamedSpec)

/-- ITS FALSE NEIGHBOUR: 'it returns false'. Refute it at one input. -/
def renamedWrong : ChangeSpec := { name := "renamed", fn := fun _ => fun
  | [d1, d2, d3, d4] => { results := [.lit (.bool false)], args := [d1, d2, d3, d4] }
  | _ => none }
def RenamedWrongFalsely : Prop := renamedRow.holds Tryd.pinned (OpenSpec.ofChange renamedWrong)

/-- 'spillkeep.Thrifty': WHATEVER THE INPUT: true; the input reads as it did. -/
def thriftySpec : ChangeSpec := { name := "thrifty", fn := fun _ => fun
  | [d1, d2, d3] => { results := [.lit (.bool true)], args := [d1, d2, d3] }
  | _ => none }
def thriftyRow : OpenClaim := { program := "ytccndnckceagfabdoor", sum := "b3c2cf348783f8fa6336815f1a363de24137dee08ddd047dc29f99ed1c5e9447", func := "spill/spillkeep.Thrifty", spec := "thrifty", named := ["spill/code.Arguments"], apart := false, laid := [("spill/code.Arguments", laid_spill_code_Arguments)] }
def ThriftySaid : Prop := thriftyRow.holds Tryd.pinned (OpenSpec.ofChange thriftySpec)

/-- ITS FALSE NEIGHBOUR: 'it returns false'. Refute it at one input. -/
def thriftyWrong : ChangeSpec := { name := "thrifty", fn := fun _ => fun
  | [d1, d2, d3] => { results := [.lit (.bool false)], args := [d1, d2, d3] }
  | _ => none }
def ThriftyWrongFalsely : Prop := thriftyRow.holds Tryd.pinned (OpenSpec.ofChange thriftyWrong)

/- THE SECOND FORM. 'bulk': how many values and letters a reading holds, each counted each time it is reached (what is shared counts as often as it is met; a slice's spare places count too). A statement '..UptoSaid' is the law's where the arguments, and the package variables that the reading takes, are together of bulk at most 1048576: NARROWER than '..Said'. Prove '..Said' where nothing that the law and all that it calls make is longer than what came in: it says more and counts as full. Else prove '..UptoSaid'. A law counts once. -/
mutual
def uptoBulk {H : Type} : DataW H → Nat
  | .lit (.string bytes) => bytes.length + 1
  | .lit _ => 1
  | .nil => 1
  | .ptr d => uptoBulk d + 1
  | .slice elems spare => uptoBulkAll elems + uptoBulkAll spare + 1
  | .agg parts => uptoBulkAll parts + 1
  | .iface _ d => uptoBulk d + 1
  | .map entries => uptoBulkEntries entries + 1
  | .held _ => 1
def uptoBulkAll {H : Type} : List (DataW H) → Nat
  | [] => 0
  | d :: r => uptoBulk d + uptoBulkAll r
def uptoBulkEntries {H : Type} : List (Lit × DataW H) → Nat
  | [] => 0
  | x :: r => uptoBulkEntry x + uptoBulkEntries r
def uptoBulkEntry {H : Type} : Lit × DataW H → Nat
  | (.string bytes, d) => bytes.length + uptoBulk d + 1
  | (_, d) => uptoBulk d + 1
 end
def uptoSmall : (H : Type) → List (DataW H) → Bool := fun _ ds => decide (uptoBulkAll ds ≤ 1048576)
def OpenSpec.upto (s : _root_.Go.ChangeSpec) : _root_.Go.OpenSpec := { _root_.Go.OpenSpec.ofChange s with cond := some uptoSmall }

/-- 'spillkeep.Renamed', WHERE WHAT IT READS IS OF BULK AT MOST 1048576: true; the input reads as it did. -/
def renamedUptoRow : OpenClaim := { program := "ytccndnckceagfabdoor", sum := "b3c2cf348783f8fa6336815f1a363de24137dee08ddd047dc29f99ed1c5e9447", func := "spill/spillkeep.Renamed", spec := "renamed", named := ["spill/code.Arguments"], apart := false, laid := [("spill/code.Arguments", laid_spill_code_Arguments)], narrowed := true }
def RenamedUptoSaid : Prop := renamedUptoRow.holds Tryd.pinned (OpenSpec.upto renamedSpec)

/-- 'spillkeep.Thrifty', WHERE WHAT IT READS IS OF BULK AT MOST 1048576: true; the input reads as it did. -/
def thriftyUptoRow : OpenClaim := { program := "ytccndnckceagfabdoor", sum := "b3c2cf348783f8fa6336815f1a363de24137dee08ddd047dc29f99ed1c5e9447", func := "spill/spillkeep.Thrifty", spec := "thrifty", named := ["spill/code.Arguments"], apart := false, laid := [("spill/code.Arguments", laid_spill_code_Arguments)], narrowed := true }
def ThriftyUptoSaid : Prop := thriftyUptoRow.holds Tryd.pinned (OpenSpec.upto thriftySpec)

end Rows
end Go.Proofs.YtccndnckceagfabDoor
