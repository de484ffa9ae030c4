/-
  NARROWER THAN 'FOR EVERY INPUT', by the rows' own cells (each row's printed sentence says how): Checks: laid · Runs: laid · Longer: laid · Execs: laid · Sound: laid · Lives: laid · Cores: laid · Idle: laid · Turned: laid.
  DERIVED. THE GIVEN ROWS OF THIS SEAT. 9 by the template 'for every input the law returns true; each argument reads behind the call as it read before'; 0 by the template 'total and deterministic' (their statements: YtccndnckceagfaaDoorRTotals.lean).
  GIVEN WITH THE SEED: the statements are not yours to turn. If you find one false, say at which input.
  Laid BY PROGRAM, IN A SANDBOX (cutbox-rows.mjs): the forced cells as the released guide's own fill.sh prints them over the translation d966d9a27a3a757c… (all of the seat's roots in one cut). By AI agents, Wed Nov 11 2026. No macro, syntax, notation, axiom, sorry.
-/
import Derived.Test.YtccndnckceagfaaDoorRChecked
import GoSem.Claim
import GoSem.ClaimJoined
import GoSem.ClaimMapViews
import Derived.JoinedTies
import Derived.KernelRfl
namespace Go.Proofs.YtccndnckceagfaaDoorR
/- THE CELL 'sum', in the pinned program and in every row, IS THE sha256 OF THE DUMP (.gsa) THAT YtccndnckceagfaaDoorRProg.lean LOADS. Nothing in Lean hashes anything: it is a label: what it is worth is what the hold of that sum in a sandbox is worth. -/
noncomputable def Tryd.pinned : Pinned := { name := "ytccndnckceagfaadoorr", sum := "d966d9a27a3a757ca8980b4e927a4a742a3d378e69fde41ea2a43fc95ea86721", checked := Tryd.checked }
namespace Rows
def none {H : Type} : Left H := { results := [], args := [] }

/- WHAT THE LISTED PACKAGE-LEVEL VARIABLES READ AS WHEN THE CALL BEGINS. Each datum BY PROGRAM (the guide's laid-datum.mjs) off the statement by which the dump's own 'gosem.cut.vars' lays the variable. In a bare row this is a premise. The card (YtccndnckceagfaaDoorRCards.lean) ties it to the program's text. -/
def laid_spill_code_Arguments {H : Type} : DataW H := .agg [.lit (.int .i64 0), .lit (.int .i64 1), .lit (.int .i64 26), .lit (.int .i64 27)]
def laid_math_bits_deBruijn32tab {H : Type} : DataW H := .agg [.lit (.int .u8 0), .lit (.int .u8 1), .lit (.int .u8 28), .lit (.int .u8 2), .lit (.int .u8 29), .lit (.int .u8 14), .lit (.int .u8 24), .lit (.int .u8 3), .lit (.int .u8 30), .lit (.int .u8 22), .lit (.int .u8 20), .lit (.int .u8 15), .lit (.int .u8 25), .lit (.int .u8 17), .lit (.int .u8 4), .lit (.int .u8 8), .lit (.int .u8 31), .lit (.int .u8 27), .lit (.int .u8 13), .lit (.int .u8 23), .lit (.int .u8 21), .lit (.int .u8 19), .lit (.int .u8 16), .lit (.int .u8 7), .lit (.int .u8 26), .lit (.int .u8 12), .lit (.int .u8 18), .lit (.int .u8 6), .lit (.int .u8 11), .lit (.int .u8 5), .lit (.int .u8 10), .lit (.int .u8 9)]
def laid_math_bits_deBruijn64tab {H : Type} : DataW H := .agg [.lit (.int .u8 0), .lit (.int .u8 1), .lit (.int .u8 56), .lit (.int .u8 2), .lit (.int .u8 57), .lit (.int .u8 49), .lit (.int .u8 28), .lit (.int .u8 3), .lit (.int .u8 61), .lit (.int .u8 58), .lit (.int .u8 42), .lit (.int .u8 50), .lit (.int .u8 38), .lit (.int .u8 29), .lit (.int .u8 17), .lit (.int .u8 4), .lit (.int .u8 62), .lit (.int .u8 47), .lit (.int .u8 59), .lit (.int .u8 36), .lit (.int .u8 45), .lit (.int .u8 43), .lit (.int .u8 51), .lit (.int .u8 22), .lit (.int .u8 53), .lit (.int .u8 39), .lit (.int .u8 33), .lit (.int .u8 30), .lit (.int .u8 24), .lit (.int .u8 18), .lit (.int .u8 12), .lit (.int .u8 5), .lit (.int .u8 63), .lit (.int .u8 55), .lit (.int .u8 48), .lit (.int .u8 27), .lit (.int .u8 60), .lit (.int .u8 41), .lit (.int .u8 37), .lit (.int .u8 16), .lit (.int .u8 46), .lit (.int .u8 35), .lit (.int .u8 44), .lit (.int .u8 21), .lit (.int .u8 52), .lit (.int .u8 32), .lit (.int .u8 23), .lit (.int .u8 11), .lit (.int .u8 54), .lit (.int .u8 26), .lit (.int .u8 40), .lit (.int .u8 15), .lit (.int .u8 34), .lit (.int .u8 20), .lit (.int .u8 31), .lit (.int .u8 10), .lit (.int .u8 25), .lit (.int .u8 14), .lit (.int .u8 19), .lit (.int .u8 9), .lit (.int .u8 13), .lit (.int .u8 8), .lit (.int .u8 7), .lit (.int .u8 6)]
def laid_internal_strconv_uint64pow10 {H : Type} : DataW H := .agg [.lit (.int .u64 1), .lit (.int .u64 10), .lit (.int .u64 100), .lit (.int .u64 1000), .lit (.int .u64 10000), .lit (.int .u64 100000), .lit (.int .u64 1000000), .lit (.int .u64 10000000), .lit (.int .u64 100000000), .lit (.int .u64 1000000000), .lit (.int .u64 10000000000), .lit (.int .u64 100000000000), .lit (.int .u64 1000000000000), .lit (.int .u64 10000000000000), .lit (.int .u64 100000000000000), .lit (.int .u64 1000000000000000), .lit (.int .u64 10000000000000000), .lit (.int .u64 100000000000000000), .lit (.int .u64 1000000000000000000), .lit (.int .u64 10000000000000000000)]

/-- 'spilllaw.Checks': WHATEVER THE INPUT: true; the input reads as it did. -/
def checksSpec : ChangeSpec := { name := "checks", fn := fun _ => fun
  | [d] => { results := [.lit (.bool true)], args := [d] }
  | _ => none }
def checksRow : OpenClaim := { program := "ytccndnckceagfaadoorr", sum := "d966d9a27a3a757ca8980b4e927a4a742a3d378e69fde41ea2a43fc95ea86721", func := "spill/spilllaw.Checks", spec := "checks", named := ["spill/code.Arguments"], apart := false, laid := [("spill/code.Arguments", laid_spill_code_Arguments)] }
def ChecksSaid : Prop := checksRow.holds Tryd.pinned (OpenSpec.ofChange checksSpec)

/-- ITS FALSE NEIGHBOUR: 'it returns false'. Refute it at one input. -/
def checksWrong : ChangeSpec := { name := "checks", fn := fun _ => fun
  | [d] => { results := [.lit (.bool false)], args := [d] }
  | _ => none }
def ChecksWrongFalsely : Prop := checksRow.holds Tryd.pinned (OpenSpec.ofChange checksWrong)

/-- 'spilllaw.Runs': WHATEVER THE INPUT: true; the input reads as it did. -/
def runsSpec : ChangeSpec := { name := "runs", fn := fun _ => fun
  | [d1, d2, d3] => { results := [.lit (.bool true)], args := [d1, d2, d3] }
  | _ => none }
def runsRow : OpenClaim := { program := "ytccndnckceagfaadoorr", sum := "d966d9a27a3a757ca8980b4e927a4a742a3d378e69fde41ea2a43fc95ea86721", func := "spill/spilllaw.Runs", spec := "runs", recurses := true, named := ["spill/code.Arguments", "internal/strconv.uint64pow10", "math/bits.deBruijn32tab", "math/bits.deBruijn64tab"], apart := false, laid := [("math/bits.deBruijn32tab", laid_math_bits_deBruijn32tab), ("math/bits.deBruijn64tab", laid_math_bits_deBruijn64tab), ("internal/strconv.uint64pow10", laid_internal_strconv_uint64pow10), ("spill/code.Arguments", laid_spill_code_Arguments)] }
def RunsSaid : Prop := runsRow.holds Tryd.pinned (OpenSpec.ofChange runsSpec)

/-- ITS FALSE NEIGHBOUR: 'it returns false'. Refute it at one input. -/
def runsWrong : ChangeSpec := { name := "runs", fn := fun _ => fun
  | [d1, d2, d3] => { results := [.lit (.bool false)], args := [d1, d2, d3] }
  | _ => none }
def RunsWrongFalsely : Prop := runsRow.holds Tryd.pinned (OpenSpec.ofChange runsWrong)

/-- 'spillkeep.Longer': WHATEVER THE INPUT: true; the input reads as it did. -/
def longerSpec : ChangeSpec := { name := "longer", fn := fun _ => fun
  | [d1, d2, d3, d4] => { results := [.lit (.bool true)], args := [d1, d2, d3, d4] }
  | _ => none }
def longerRow : OpenClaim := { program := "ytccndnckceagfaadoorr", sum := "d966d9a27a3a757ca8980b4e927a4a742a3d378e69fde41ea2a43fc95ea86721", func := "spill/spillkeep.Longer", spec := "longer", named := ["spill/code.Arguments", "internal/strconv.uint64pow10", "math/bits.deBruijn32tab", "math/bits.deBruijn64tab"], apart := false, laid := [("math/bits.deBruijn32tab", laid_math_bits_deBruijn32tab), ("math/bits.deBruijn64tab", laid_math_bits_deBruijn64tab), ("internal/strconv.uint64pow10", laid_internal_strconv_uint64pow10), ("spill/code.Arguments", laid_spill_code_Arguments)] }
def LongerSaid : Prop := longerRow.holds Tryd.pinned (OpenSpec.ofChange longerSpec)

/-- ITS FALSE NEIGHBOUR: 'it returns false'. Refute it at one input. -/
def longerWrong : ChangeSpec := { name := "longer", fn := fun _ => fun
  | [d1, d2, d3, d4] => { results := [.lit (.bool false)], args := [d1, d2, d3, d4] }
  | _ => none }
def LongerWrongFalsely : Prop := longerRow.holds Tryd.pinned (OpenSpec.ofChange longerWrong)

/-- 'spilllaw.Execs': WHATEVER THE INPUT: true; the input reads as it did. -/
def execsSpec : ChangeSpec := { name := "execs", fn := fun _ => fun
  | [d1, d2, d3, d4] => { results := [.lit (.bool true)], args := [d1, d2, d3, d4] }
  | _ => none }
def execsRow : OpenClaim := { program := "ytccndnckceagfaadoorr", sum := "d966d9a27a3a757ca8980b4e927a4a742a3d378e69fde41ea2a43fc95ea86721", func := "spill/spilllaw.Execs", spec := "execs", recurses := true, named := ["internal/strconv.uint64pow10", "math/bits.deBruijn32tab", "math/bits.deBruijn64tab"], apart := false, laid := [("math/bits.deBruijn32tab", laid_math_bits_deBruijn32tab), ("math/bits.deBruijn64tab", laid_math_bits_deBruijn64tab), ("internal/strconv.uint64pow10", laid_internal_strconv_uint64pow10)] }
def ExecsSaid : Prop := execsRow.holds Tryd.pinned (OpenSpec.ofChange execsSpec)

/-- ITS FALSE NEIGHBOUR: 'it returns false'. Refute it at one input. -/
def execsWrong : ChangeSpec := { name := "execs", fn := fun _ => fun
  | [d1, d2, d3, d4] => { results := [.lit (.bool false)], args := [d1, d2, d3, d4] }
  | _ => none }
def ExecsWrongFalsely : Prop := execsRow.holds Tryd.pinned (OpenSpec.ofChange execsWrong)

/-- 'spillkeep.Sound': WHATEVER THE INPUT: true; the input reads as it did. -/
def soundSpec : ChangeSpec := { name := "sound", fn := fun _ => fun
  | [d1, d2, d3, d4, d5] => { results := [.lit (.bool true)], args := [d1, d2, d3, d4, d5] }
  | _ => none }
def soundRow : OpenClaim := { program := "ytccndnckceagfaadoorr", sum := "d966d9a27a3a757ca8980b4e927a4a742a3d378e69fde41ea2a43fc95ea86721", func := "spill/spillkeep.Sound", spec := "sound", named := ["spill/code.Arguments", "internal/strconv.uint64pow10", "math/bits.deBruijn32tab", "math/bits.deBruijn64tab"], apart := false, laid := [("math/bits.deBruijn32tab", laid_math_bits_deBruijn32tab), ("math/bits.deBruijn64tab", laid_math_bits_deBruijn64tab), ("internal/strconv.uint64pow10", laid_internal_strconv_uint64pow10), ("spill/code.Arguments", laid_spill_code_Arguments)] }
def SoundSaid : Prop := soundRow.holds Tryd.pinned (OpenSpec.ofChange soundSpec)

/-- ITS FALSE NEIGHBOUR: 'it returns false'. Refute it at one input. -/
def soundWrong : ChangeSpec := { name := "sound", fn := fun _ => fun
  | [d1, d2, d3, d4, d5] => { results := [.lit (.bool false)], args := [d1, d2, d3, d4, d5] }
  | _ => none }
def SoundWrongFalsely : Prop := soundRow.holds Tryd.pinned (OpenSpec.ofChange soundWrong)

/-- 'spilllaw.Lives': WHATEVER THE INPUT: true; the input reads as it did. -/
def livesSpec : ChangeSpec := { name := "lives", fn := fun _ => fun
  | [d1, d2] => { results := [.lit (.bool true)], args := [d1, d2] }
  | _ => none }
def livesRow : OpenClaim := { program := "ytccndnckceagfaadoorr", sum := "d966d9a27a3a757ca8980b4e927a4a742a3d378e69fde41ea2a43fc95ea86721", func := "spill/spilllaw.Lives", spec := "lives", named := ["spill/code.Arguments"], apart := false, laid := [("spill/code.Arguments", laid_spill_code_Arguments)] }
def LivesSaid : Prop := livesRow.holds Tryd.pinned (OpenSpec.ofChange livesSpec)

/-- ITS FALSE NEIGHBOUR: 'it returns false'. Refute it at one input. -/
def livesWrong : ChangeSpec := { name := "lives", fn := fun _ => fun
  | [d1, d2] => { results := [.lit (.bool false)], args := [d1, d2] }
  | _ => none }
def LivesWrongFalsely : Prop := livesRow.holds Tryd.pinned (OpenSpec.ofChange livesWrong)

/-- 'spilllaw.Cores': WHATEVER THE INPUT: true; the input reads as it did. -/
def coresSpec : ChangeSpec := { name := "cores", fn := fun _ => fun
  | [d1, d2] => { results := [.lit (.bool true)], args := [d1, d2] }
  | _ => none }
def coresRow : OpenClaim := { program := "ytccndnckceagfaadoorr", sum := "d966d9a27a3a757ca8980b4e927a4a742a3d378e69fde41ea2a43fc95ea86721", func := "spill/spilllaw.Cores", spec := "cores", named := ["spill/code.Arguments"], apart := false, laid := [("spill/code.Arguments", laid_spill_code_Arguments)] }
def CoresSaid : Prop := coresRow.holds Tryd.pinned (OpenSpec.ofChange coresSpec)

/-- ITS FALSE NEIGHBOUR: 'it returns false'. Refute it at one input. -/
def coresWrong : ChangeSpec := { name := "cores", fn := fun _ => fun
  | [d1, d2] => { results := [.lit (.bool false)], args := [d1, d2] }
  | _ => none }
def CoresWrongFalsely : Prop := coresRow.holds Tryd.pinned (OpenSpec.ofChange coresWrong)

/-- 'spillkeep.Idle': WHATEVER THE INPUT: true; the input reads as it did. -/
def idleSpec : ChangeSpec := { name := "idle", fn := fun _ => fun
  | [d1, d2, d3, d4] => { results := [.lit (.bool true)], args := [d1, d2, d3, d4] }
  | _ => none }
def idleRow : OpenClaim := { program := "ytccndnckceagfaadoorr", sum := "d966d9a27a3a757ca8980b4e927a4a742a3d378e69fde41ea2a43fc95ea86721", func := "spill/spillkeep.Idle", spec := "idle", named := ["spill/code.Arguments", "internal/strconv.uint64pow10", "math/bits.deBruijn32tab", "math/bits.deBruijn64tab"], apart := false, laid := [("math/bits.deBruijn32tab", laid_math_bits_deBruijn32tab), ("math/bits.deBruijn64tab", laid_math_bits_deBruijn64tab), ("internal/strconv.uint64pow10", laid_internal_strconv_uint64pow10), ("spill/code.Arguments", laid_spill_code_Arguments)] }
def IdleSaid : Prop := idleRow.holds Tryd.pinned (OpenSpec.ofChange idleSpec)

/-- ITS FALSE NEIGHBOUR: 'it returns false'. Refute it at one input. -/
def idleWrong : ChangeSpec := { name := "idle", fn := fun _ => fun
  | [d1, d2, d3, d4] => { results := [.lit (.bool false)], args := [d1, d2, d3, d4] }
  | _ => none }
def IdleWrongFalsely : Prop := idleRow.holds Tryd.pinned (OpenSpec.ofChange idleWrong)

/-- 'spillkeep.Turned': WHATEVER THE INPUT: true; the input reads as it did. -/
def turnedSpec : ChangeSpec := { name := "turned", fn := fun _ => fun
  | [d1, d2, d3, d4, d5] => { results := [.lit (.bool true)], args := [d1, d2, d3, d4, d5] }
  | _ => none }
def turnedRow : OpenClaim := { program := "ytccndnckceagfaadoorr", sum := "d966d9a27a3a757ca8980b4e927a4a742a3d378e69fde41ea2a43fc95ea86721", func := "spill/spillkeep.Turned", spec := "turned", named := ["spill/code.Arguments", "internal/strconv.uint64pow10", "math/bits.deBruijn32tab", "math/bits.deBruijn64tab"], apart := false, laid := [("math/bits.deBruijn32tab", laid_math_bits_deBruijn32tab), ("math/bits.deBruijn64tab", laid_math_bits_deBruijn64tab), ("internal/strconv.uint64pow10", laid_internal_strconv_uint64pow10), ("spill/code.Arguments", laid_spill_code_Arguments)] }
def TurnedSaid : Prop := turnedRow.holds Tryd.pinned (OpenSpec.ofChange turnedSpec)

/-- ITS FALSE NEIGHBOUR: 'it returns false'. Refute it at one input. -/
def turnedWrong : ChangeSpec := { name := "turned", fn := fun _ => fun
  | [d1, d2, d3, d4, d5] => { results := [.lit (.bool false)], args := [d1, d2, d3, d4, d5] }
  | _ => none }
def TurnedWrongFalsely : Prop := turnedRow.holds Tryd.pinned (OpenSpec.ofChange turnedWrong)

/- THE SECOND FORM. 'bulk': how many values and letters a reading holds, each counted each time it is reached (what is shared counts as often as it is met; a slice's spare places count too). A statement '..UptoSaid' is the law's where the arguments, and the package variables that the reading takes, are together of bulk at most 1048576: NARROWER than '..Said'. Prove '..Said' where nothing that the law and all that it calls make is longer than what came in: it says more and counts as full. Else prove '..UptoSaid'. A law counts once. -/
mutual
def uptoBulk {H : Type} : DataW H → Nat
  | .lit (.string bytes) => bytes.length + 1
  | .lit _ => 1
  | .nil => 1
  | .ptr d => uptoBulk d + 1
  | .slice elems spare => uptoBulkAll elems + uptoBulkAll spare + 1
  | .agg parts => uptoBulkAll parts + 1
  | .iface _ d => uptoBulk d + 1
  | .map entries => uptoBulkEntries entries + 1
  | .held _ => 1
def uptoBulkAll {H : Type} : List (DataW H) → Nat
  | [] => 0
  | d :: r => uptoBulk d + uptoBulkAll r
def uptoBulkEntries {H : Type} : List (Lit × DataW H) → Nat
  | [] => 0
  | x :: r => uptoBulkEntry x + uptoBulkEntries r
def uptoBulkEntry {H : Type} : Lit × DataW H → Nat
  | (.string bytes, d) => bytes.length + uptoBulk d + 1
  | (_, d) => uptoBulk d + 1
 end
def uptoSmall : (H : Type) → List (DataW H) → Bool := fun _ ds => decide (uptoBulkAll ds ≤ 1048576)
def OpenSpec.upto (s : _root_.Go.ChangeSpec) : _root_.Go.OpenSpec := { _root_.Go.OpenSpec.ofChange s with cond := some uptoSmall }

/-- 'spilllaw.Checks', WHERE WHAT IT READS IS OF BULK AT MOST 1048576: true; the input reads as it did. -/
def checksUptoRow : OpenClaim := { program := "ytccndnckceagfaadoorr", sum := "d966d9a27a3a757ca8980b4e927a4a742a3d378e69fde41ea2a43fc95ea86721", func := "spill/spilllaw.Checks", spec := "checks", named := ["spill/code.Arguments"], apart := false, laid := [("spill/code.Arguments", laid_spill_code_Arguments)], narrowed := true }
def ChecksUptoSaid : Prop := checksUptoRow.holds Tryd.pinned (OpenSpec.upto checksSpec)

/-- 'spilllaw.Runs', WHERE WHAT IT READS IS OF BULK AT MOST 1048576: true; the input reads as it did. -/
def runsUptoRow : OpenClaim := { program := "ytccndnckceagfaadoorr", sum := "d966d9a27a3a757ca8980b4e927a4a742a3d378e69fde41ea2a43fc95ea86721", func := "spill/spilllaw.Runs", spec := "runs", recurses := true, named := ["spill/code.Arguments", "internal/strconv.uint64pow10", "math/bits.deBruijn32tab", "math/bits.deBruijn64tab"], apart := false, laid := [("math/bits.deBruijn32tab", laid_math_bits_deBruijn32tab), ("math/bits.deBruijn64tab", laid_math_bits_deBruijn64tab), ("internal/strconv.uint64pow10", laid_internal_strconv_uint64pow10), ("spill/code.Arguments", laid_spill_code_Arguments)], narrowed := true }
def RunsUptoSaid : Prop := runsUptoRow.holds Tryd.pinned (OpenSpec.upto runsSpec)

/-- 'spillkeep.Longer', WHERE WHAT IT READS IS OF BULK AT MOST 1048576: true; the input reads as it did. -/
def longerUptoRow : OpenClaim := { program := "ytccndnckceagfaadoorr", sum := "d966d9a27a3a757ca8980b4e927a4a742a3d378e69fde41ea2a43fc95ea86721", func := "spill/spillkeep.Longer", spec := "longer", named := ["spill/code.Arguments", "internal/strconv.uint64pow10", "math/bits.deBruijn32tab", "math/bits.deBruijn64tab"], apart := false, laid := [("math/bits.deBruijn32tab", laid_math_bits_deBruijn32tab), ("math/bits.deBruijn64tab", laid_math_bits_deBruijn64tab), ("internal/strconv.uint64pow10", laid_internal_strconv_uint64pow10), ("spill/code.Arguments", laid_spill_code_Arguments)], narrowed := true }
def LongerUptoSaid : Prop := longerUptoRow.holds Tryd.pinned (OpenSpec.upto longerSpec)

/-- 'spilllaw.Execs', WHERE WHAT IT READS IS OF BULK AT MOST 1048576: true; the input reads as it did. -/
def execsUptoRow : OpenClaim := { program := "ytccndnckceagfaadoorr", sum := "d966d9a27a3a757ca8980b4e927a4a742a3d378e69fde41ea2a43fc95ea86721", func := "spill/spilllaw.Execs", spec := "execs", recurses := true, named := ["internal/strconv.uint64pow10", "math/bits.deBruijn32tab", "math/bits.deBruijn64tab"], apart := false, laid := [("math/bits.deBruijn32tab", laid_math_bits_deBruijn32tab), ("math/bits.deBruijn64tab", laid_math_bits_deBruijn64tab), ("internal/strconv.uint64pow10", laid_internal_strconv_uint64pow10)], narrowed := true }
def ExecsUptoSaid : Prop := execsUptoRow.holds Tryd.pinned (OpenSpec.upto execsSpec)

/-- 'spillkeep.Sound', WHERE WHAT IT READS IS OF BULK AT MOST 1048576: true; the input reads as it did. -/
def soundUptoRow : OpenClaim := { program := "ytccndnckceagfaadoorr", sum := "d966d9a27a3a757ca8980b4e927a4a742a3d378e69fde41ea2a43fc95ea86721", func := "spill/spillkeep.Sound", spec := "sound", named := ["spill/code.Arguments", "internal/strconv.uint64pow10", "math/bits.deBruijn32tab", "math/bits.deBruijn64tab"], apart := false, laid := [("math/bits.deBruijn32tab", laid_math_bits_deBruijn32tab), ("math/bits.deBruijn64tab", laid_math_bits_deBruijn64tab), ("internal/strconv.uint64pow10", laid_internal_strconv_uint64pow10), ("spill/code.Arguments", laid_spill_code_Arguments)], narrowed := true }
def SoundUptoSaid : Prop := soundUptoRow.holds Tryd.pinned (OpenSpec.upto soundSpec)

/-- 'spilllaw.Lives', WHERE WHAT IT READS IS OF BULK AT MOST 1048576: true; the input reads as it did. -/
def livesUptoRow : OpenClaim := { program := "ytccndnckceagfaadoorr", sum := "d966d9a27a3a757ca8980b4e927a4a742a3d378e69fde41ea2a43fc95ea86721", func := "spill/spilllaw.Lives", spec := "lives", named := ["spill/code.Arguments"], apart := false, laid := [("spill/code.Arguments", laid_spill_code_Arguments)], narrowed := true }
def LivesUptoSaid : Prop := livesUptoRow.holds Tryd.pinned (OpenSpec.upto livesSpec)

/-- 'spilllaw.Cores', WHERE WHAT IT READS IS OF BULK AT MOST 1048576: true; the input reads as it did. -/
def coresUptoRow : OpenClaim := { program := "ytccndnckceagfaadoorr", sum := "d966d9a27a3a757ca8980b4e927a4a742a3d378e69fde41ea2a43fc95ea86721", func := "spill/spilllaw.Cores", spec := "cores", named := ["spill/code.Arguments"], apart := false, laid := [("spill/code.Arguments", laid_spill_code_Arguments)], narrowed := true }
def CoresUptoSaid : Prop := coresUptoRow.holds Tryd.pinned (OpenSpec.upto coresSpec)

/-- 'spillkeep.Idle', WHERE WHAT IT READS IS OF BULK AT MOST 1048576: true; the input reads as it did. -/
def idleUptoRow : OpenClaim := { program := "ytccndnckceagfaadoorr", sum := "d966d9a27a3a757ca8980b4e927a4a742a3d378e69fde41ea2a43fc95ea86721", func := "spill/spillkeep.Idle", spec := "idle", named := ["spill/code.Arguments", "internal/strconv.uint64pow10", "math/bits.deBruijn32tab", "math/bits.deBruijn64tab"], apart := false, laid := [("math/bits.deBruijn32tab", laid_math_bits_deBruijn32tab), ("math/bits.deBruijn64tab", laid_math_bits_deBruijn64tab), ("internal/strconv.uint64pow10", laid_internal_strconv_uint64pow10), ("spill/code.Arguments", laid_spill_code_Arguments)], narrowed := true }
def IdleUptoSaid : Prop := idleUptoRow.holds Tryd.pinned (OpenSpec.upto idleSpec)

/-- 'spillkeep.Turned', WHERE WHAT IT READS IS OF BULK AT MOST 1048576: true; the input reads as it did. -/
def turnedUptoRow : OpenClaim := { program := "ytccndnckceagfaadoorr", sum := "d966d9a27a3a757ca8980b4e927a4a742a3d378e69fde41ea2a43fc95ea86721", func := "spill/spillkeep.Turned", spec := "turned", named := ["spill/code.Arguments", "internal/strconv.uint64pow10", "math/bits.deBruijn32tab", "math/bits.deBruijn64tab"], apart := false, laid := [("math/bits.deBruijn32tab", laid_math_bits_deBruijn32tab), ("math/bits.deBruijn64tab", laid_math_bits_deBruijn64tab), ("internal/strconv.uint64pow10", laid_internal_strconv_uint64pow10), ("spill/code.Arguments", laid_spill_code_Arguments)], narrowed := true }
def TurnedUptoSaid : Prop := turnedUptoRow.holds Tryd.pinned (OpenSpec.upto turnedSpec)

end Rows
end Go.Proofs.YtccndnckceagfaaDoorR
