/-
  NARROWER THAN 'FOR EVERY INPUT', by the rows' own cells (each row's printed sentence says how): Parses: laid · Budgeted: laid · Generates: laid · Back: laid · Forth: laid · Guarded: laid · Turned: laid.
  DERIVED. THE GIVEN ROWS OF THIS SEAT. 7 by the template 'for every input the law returns true; each argument reads behind the call as it read before'; 0 by the template 'total and deterministic' (their statements: YtmlkhhhjdpbhfaaGreatDoorTotals.lean).
  GIVEN WITH THE SEED: the statements are not yours to turn. If you find one false, say at which input.
  Laid BY PROGRAM, IN A SANDBOX (cutbox-rows.mjs): the forced cells as the released guide's own fill.sh prints them over the translation 3fd4de7a5822ace0… (all of the seat's roots in one cut). By AI agents, Wed Nov 11 2026. No macro, syntax, notation, axiom, sorry.
-/
import Derived.Test.YtmlkhhhjdpbhfaaGreatDoorChecked
import GoSem.Claim
import GoSem.ClaimJoined
import GoSem.ClaimMapViews
import Derived.JoinedTies
import Derived.KernelRfl
namespace Go.Proofs.YtmlkhhhjdpbhfaaGreatDoor
/- THE CELL 'sum', in the pinned program and in every row, IS THE sha256 OF THE DUMP (.gsa) THAT YtmlkhhhjdpbhfaaGreatDoorProg.lean LOADS. Nothing in Lean hashes anything: it is a label: what it is worth is what the hold of that sum in a sandbox is worth. -/
noncomputable def Tryz.pinned : Pinned := { name := "ytmlkhhhjdpbhfaagreatdoor", sum := "3fd4de7a5822ace0b4a6f224281175f50f2de444038dfff3392e3910c1f848e2", checked := Tryz.checked }
namespace Rows
def none {H : Type} : Left H := { results := [], args := [] }

/- WHAT THE LISTED PACKAGE-LEVEL VARIABLES READ AS WHEN THE CALL BEGINS. Each datum BY PROGRAM (the guide's laid-datum.mjs) off the statement by which the dump's own 'gosem.cut.vars' lays the variable. In a bare row this is a premise. The card (YtmlkhhhjdpbhfaaGreatDoorCards.lean) ties it to the program's text. -/
def laid_math_bits_deBruijn32tab {H : Type} : DataW H := .agg [.lit (.int .u8 0), .lit (.int .u8 1), .lit (.int .u8 28), .lit (.int .u8 2), .lit (.int .u8 29), .lit (.int .u8 14), .lit (.int .u8 24), .lit (.int .u8 3), .lit (.int .u8 30), .lit (.int .u8 22), .lit (.int .u8 20), .lit (.int .u8 15), .lit (.int .u8 25), .lit (.int .u8 17), .lit (.int .u8 4), .lit (.int .u8 8), .lit (.int .u8 31), .lit (.int .u8 27), .lit (.int .u8 13), .lit (.int .u8 23), .lit (.int .u8 21), .lit (.int .u8 19), .lit (.int .u8 16), .lit (.int .u8 7), .lit (.int .u8 26), .lit (.int .u8 12), .lit (.int .u8 18), .lit (.int .u8 6), .lit (.int .u8 11), .lit (.int .u8 5), .lit (.int .u8 10), .lit (.int .u8 9)]
def laid_math_bits_deBruijn64tab {H : Type} : DataW H := .agg [.lit (.int .u8 0), .lit (.int .u8 1), .lit (.int .u8 56), .lit (.int .u8 2), .lit (.int .u8 57), .lit (.int .u8 49), .lit (.int .u8 28), .lit (.int .u8 3), .lit (.int .u8 61), .lit (.int .u8 58), .lit (.int .u8 42), .lit (.int .u8 50), .lit (.int .u8 38), .lit (.int .u8 29), .lit (.int .u8 17), .lit (.int .u8 4), .lit (.int .u8 62), .lit (.int .u8 47), .lit (.int .u8 59), .lit (.int .u8 36), .lit (.int .u8 45), .lit (.int .u8 43), .lit (.int .u8 51), .lit (.int .u8 22), .lit (.int .u8 53), .lit (.int .u8 39), .lit (.int .u8 33), .lit (.int .u8 30), .lit (.int .u8 24), .lit (.int .u8 18), .lit (.int .u8 12), .lit (.int .u8 5), .lit (.int .u8 63), .lit (.int .u8 55), .lit (.int .u8 48), .lit (.int .u8 27), .lit (.int .u8 60), .lit (.int .u8 41), .lit (.int .u8 37), .lit (.int .u8 16), .lit (.int .u8 46), .lit (.int .u8 35), .lit (.int .u8 44), .lit (.int .u8 21), .lit (.int .u8 52), .lit (.int .u8 32), .lit (.int .u8 23), .lit (.int .u8 11), .lit (.int .u8 54), .lit (.int .u8 26), .lit (.int .u8 40), .lit (.int .u8 15), .lit (.int .u8 34), .lit (.int .u8 20), .lit (.int .u8 31), .lit (.int .u8 10), .lit (.int .u8 25), .lit (.int .u8 14), .lit (.int .u8 19), .lit (.int .u8 9), .lit (.int .u8 13), .lit (.int .u8 8), .lit (.int .u8 7), .lit (.int .u8 6)]
def laid_internal_strconv_uint64pow10 {H : Type} : DataW H := .agg [.lit (.int .u64 1), .lit (.int .u64 10), .lit (.int .u64 100), .lit (.int .u64 1000), .lit (.int .u64 10000), .lit (.int .u64 100000), .lit (.int .u64 1000000), .lit (.int .u64 10000000), .lit (.int .u64 100000000), .lit (.int .u64 1000000000), .lit (.int .u64 10000000000), .lit (.int .u64 100000000000), .lit (.int .u64 1000000000000), .lit (.int .u64 10000000000000), .lit (.int .u64 100000000000000), .lit (.int .u64 1000000000000000), .lit (.int .u64 10000000000000000), .lit (.int .u64 100000000000000000), .lit (.int .u64 1000000000000000000), .lit (.int .u64 10000000000000000000)]
def laid_press_syntax_shapes {H : Type} : DataW H := .agg [.agg [.lit (.int .u8 110), .lit (.int .u8 110), .lit (.bool true), .lit (.bool false), .lit (.bool false), .lit (.int .i64 0)], .agg [.lit (.int .u8 108), .lit (.int .u8 108), .lit (.bool true), .lit (.bool false), .lit (.bool false), .lit (.int .i64 0)], .agg [.lit (.int .u8 39), .lit (.int .u8 39), .lit (.bool false), .lit (.bool false), .lit (.bool true), .lit (.int .i64 0)], .agg [.lit (.int .u8 40), .lit (.int .u8 40), .lit (.bool false), .lit (.bool false), .lit (.bool false), .lit (.int .i64 (-1))], .agg [.lit (.int .u8 47), .lit (.int .u8 47), .lit (.bool false), .lit (.bool false), .lit (.bool false), .lit (.int .i64 2)], .agg [.lit (.int .u8 42), .lit (.int .u8 42), .lit (.bool false), .lit (.bool false), .lit (.bool false), .lit (.int .i64 1)], .agg [.lit (.int .u8 65), .lit (.int .u8 72), .lit (.bool false), .lit (.bool false), .lit (.bool false), .lit (.int .i64 0)], .agg [.lit (.int .u8 104), .lit (.int .u8 104), .lit (.bool true), .lit (.bool true), .lit (.bool false), .lit (.int .i64 0)], .agg [.lit (.int .u8 107), .lit (.int .u8 107), .lit (.bool true), .lit (.bool true), .lit (.bool false), .lit (.int .i64 0)], .agg [.lit (.int .u8 114), .lit (.int .u8 114), .lit (.bool false), .lit (.bool true), .lit (.bool false), .lit (.int .i64 0)], .agg [.lit (.int .u8 116), .lit (.int .u8 116), .lit (.bool false), .lit (.bool true), .lit (.bool false), .lit (.int .i64 1)], .agg [.lit (.int .u8 119), .lit (.int .u8 119), .lit (.bool false), .lit (.bool true), .lit (.bool false), .lit (.int .i64 1)], .agg [.lit (.int .u8 64), .lit (.int .u8 64), .lit (.bool false), .lit (.bool true), .lit (.bool false), .lit (.int .i64 1)], .agg [.lit (.int .u8 115), .lit (.int .u8 115), .lit (.bool false), .lit (.bool true), .lit (.bool false), .lit (.int .i64 1)], .agg [.lit (.int .u8 46), .lit (.int .u8 46), .lit (.bool false), .lit (.bool false), .lit (.bool false), .lit (.int .i64 0)]]

/-- 'presslaw.Parses': WHATEVER THE INPUT: true; the input reads as it did. -/
def parsesSpec : ChangeSpec := { name := "parses", fn := fun _ => fun
  | [d1, d2, d3, d4, d5] => { results := [.lit (.bool true)], args := [d1, d2, d3, d4, d5] }
  | _ => none }
def parsesRow : OpenClaim := { program := "ytmlkhhhjdpbhfaagreatdoor", sum := "3fd4de7a5822ace0b4a6f224281175f50f2de444038dfff3392e3910c1f848e2", func := "press/presslaw.Parses", spec := "parses", inPlace := ["internal/abi.NoEscape"], unfollowed := true, recurses := true, named := ["press/syntax.shapes", "internal/strconv.uint64pow10", "math/bits.deBruijn32tab", "math/bits.deBruijn64tab"], apart := false, laid := [("math/bits.deBruijn32tab", laid_math_bits_deBruijn32tab), ("math/bits.deBruijn64tab", laid_math_bits_deBruijn64tab), ("internal/strconv.uint64pow10", laid_internal_strconv_uint64pow10), ("press/syntax.shapes", laid_press_syntax_shapes)] }
def ParsesSaid : Prop := parsesRow.holds Tryz.pinned (OpenSpec.ofChange parsesSpec)

/-- ITS FALSE NEIGHBOUR: 'it returns false'. Refute it at one input. -/
def parsesWrong : ChangeSpec := { name := "parses", fn := fun _ => fun
  | [d1, d2, d3, d4, d5] => { results := [.lit (.bool false)], args := [d1, d2, d3, d4, d5] }
  | _ => none }
def ParsesWrongFalsely : Prop := parsesRow.holds Tryz.pinned (OpenSpec.ofChange parsesWrong)

/-- 'presskeep.Budgeted': WHATEVER THE INPUT: true; the input reads as it did. -/
def budgetedSpec : ChangeSpec := { name := "budgeted", fn := fun _ => fun
  | [d1, d2, d3, d4, d5, d6] => { results := [.lit (.bool true)], args := [d1, d2, d3, d4, d5, d6] }
  | _ => none }
def budgetedRow : OpenClaim := { program := "ytmlkhhhjdpbhfaagreatdoor", sum := "3fd4de7a5822ace0b4a6f224281175f50f2de444038dfff3392e3910c1f848e2", func := "press/presskeep.Budgeted", spec := "budgeted", inPlace := ["internal/abi.NoEscape"], unfollowed := true, recurses := true, named := ["press/syntax.shapes", "internal/strconv.uint64pow10", "math/bits.deBruijn32tab", "math/bits.deBruijn64tab"], apart := false, laid := [("math/bits.deBruijn32tab", laid_math_bits_deBruijn32tab), ("math/bits.deBruijn64tab", laid_math_bits_deBruijn64tab), ("internal/strconv.uint64pow10", laid_internal_strconv_uint64pow10), ("press/syntax.shapes", laid_press_syntax_shapes)] }
def BudgetedSaid : Prop := budgetedRow.holds Tryz.pinned (OpenSpec.ofChange budgetedSpec)

/-- ITS FALSE NEIGHBOUR: 'it returns false'. Refute it at one input. -/
def budgetedWrong : ChangeSpec := { name := "budgeted", fn := fun _ => fun
  | [d1, d2, d3, d4, d5, d6] => { results := [.lit (.bool false)], args := [d1, d2, d3, d4, d5, d6] }
  | _ => none }
def BudgetedWrongFalsely : Prop := budgetedRow.holds Tryz.pinned (OpenSpec.ofChange budgetedWrong)

/-- 'presslaw.Generates': WHATEVER THE INPUT: true; the input reads as it did. -/
def generatesSpec : ChangeSpec := { name := "generates", fn := fun _ => fun
  | [d1, d2, d3, d4] => { results := [.lit (.bool true)], args := [d1, d2, d3, d4] }
  | _ => none }
def generatesRow : OpenClaim := { program := "ytmlkhhhjdpbhfaagreatdoor", sum := "3fd4de7a5822ace0b4a6f224281175f50f2de444038dfff3392e3910c1f848e2", func := "press/presslaw.Generates", spec := "generates", inPlace := ["internal/abi.NoEscape"], unfollowed := true, recurses := true, named := ["press/syntax.shapes", "internal/strconv.uint64pow10", "math/bits.deBruijn32tab", "math/bits.deBruijn64tab"], apart := false, laid := [("math/bits.deBruijn32tab", laid_math_bits_deBruijn32tab), ("math/bits.deBruijn64tab", laid_math_bits_deBruijn64tab), ("internal/strconv.uint64pow10", laid_internal_strconv_uint64pow10), ("press/syntax.shapes", laid_press_syntax_shapes)] }
def GeneratesSaid : Prop := generatesRow.holds Tryz.pinned (OpenSpec.ofChange generatesSpec)

/-- ITS FALSE NEIGHBOUR: 'it returns false'. Refute it at one input. -/
def generatesWrong : ChangeSpec := { name := "generates", fn := fun _ => fun
  | [d1, d2, d3, d4] => { results := [.lit (.bool false)], args := [d1, d2, d3, d4] }
  | _ => none }
def GeneratesWrongFalsely : Prop := generatesRow.holds Tryz.pinned (OpenSpec.ofChange generatesWrong)

/-- 'presskeep.Back': WHATEVER THE INPUT: true; the input reads as it did. -/
def backSpec : ChangeSpec := { name := "back", fn := fun _ => fun
  | [d1, d2, d3] => { results := [.lit (.bool true)], args := [d1, d2, d3] }
  | _ => none }
def backRow : OpenClaim := { program := "ytmlkhhhjdpbhfaagreatdoor", sum := "3fd4de7a5822ace0b4a6f224281175f50f2de444038dfff3392e3910c1f848e2", func := "press/presskeep.Back", spec := "back", inPlace := ["internal/abi.NoEscape"], unfollowed := true, recurses := true, named := ["press/syntax.shapes", "internal/strconv.uint64pow10", "math/bits.deBruijn32tab", "math/bits.deBruijn64tab"], apart := false, laid := [("math/bits.deBruijn32tab", laid_math_bits_deBruijn32tab), ("math/bits.deBruijn64tab", laid_math_bits_deBruijn64tab), ("internal/strconv.uint64pow10", laid_internal_strconv_uint64pow10), ("press/syntax.shapes", laid_press_syntax_shapes)] }
def BackSaid : Prop := backRow.holds Tryz.pinned (OpenSpec.ofChange backSpec)

/-- ITS FALSE NEIGHBOUR: 'it returns false'. Refute it at one input. -/
def backWrong : ChangeSpec := { name := "back", fn := fun _ => fun
  | [d1, d2, d3] => { results := [.lit (.bool false)], args := [d1, d2, d3] }
  | _ => none }
def BackWrongFalsely : Prop := backRow.holds Tryz.pinned (OpenSpec.ofChange backWrong)

/-- 'presskeep.Forth': WHATEVER THE INPUT: true; the input reads as it did. -/
def forthSpec : ChangeSpec := { name := "forth", fn := fun _ => fun
  | [d1, d2] => { results := [.lit (.bool true)], args := [d1, d2] }
  | _ => none }
def forthRow : OpenClaim := { program := "ytmlkhhhjdpbhfaagreatdoor", sum := "3fd4de7a5822ace0b4a6f224281175f50f2de444038dfff3392e3910c1f848e2", func := "press/presskeep.Forth", spec := "forth", inPlace := ["internal/abi.NoEscape"], unfollowed := true, recurses := true, named := ["press/syntax.shapes", "internal/strconv.uint64pow10", "math/bits.deBruijn32tab", "math/bits.deBruijn64tab"], apart := false, laid := [("math/bits.deBruijn32tab", laid_math_bits_deBruijn32tab), ("math/bits.deBruijn64tab", laid_math_bits_deBruijn64tab), ("internal/strconv.uint64pow10", laid_internal_strconv_uint64pow10), ("press/syntax.shapes", laid_press_syntax_shapes)] }
def ForthSaid : Prop := forthRow.holds Tryz.pinned (OpenSpec.ofChange forthSpec)

/-- ITS FALSE NEIGHBOUR: 'it returns false'. Refute it at one input. -/
def forthWrong : ChangeSpec := { name := "forth", fn := fun _ => fun
  | [d1, d2] => { results := [.lit (.bool false)], args := [d1, d2] }
  | _ => none }
def ForthWrongFalsely : Prop := forthRow.holds Tryz.pinned (OpenSpec.ofChange forthWrong)

/-- 'presskeep.Guarded': WHATEVER THE INPUT: true; the input reads as it did. -/
def guardedSpec : ChangeSpec := { name := "guarded", fn := fun _ => fun
  | [d1, d2, d3] => { results := [.lit (.bool true)], args := [d1, d2, d3] }
  | _ => none }
def guardedRow : OpenClaim := { program := "ytmlkhhhjdpbhfaagreatdoor", sum := "3fd4de7a5822ace0b4a6f224281175f50f2de444038dfff3392e3910c1f848e2", func := "press/presskeep.Guarded", spec := "guarded", inPlace := ["internal/abi.NoEscape"], unfollowed := true, recurses := true, named := ["press/syntax.shapes", "internal/strconv.uint64pow10", "math/bits.deBruijn32tab", "math/bits.deBruijn64tab"], apart := false, laid := [("math/bits.deBruijn32tab", laid_math_bits_deBruijn32tab), ("math/bits.deBruijn64tab", laid_math_bits_deBruijn64tab), ("internal/strconv.uint64pow10", laid_internal_strconv_uint64pow10), ("press/syntax.shapes", laid_press_syntax_shapes)] }
def GuardedSaid : Prop := guardedRow.holds Tryz.pinned (OpenSpec.ofChange guardedSpec)

/-- ITS FALSE NEIGHBOUR: 'it returns false'. Refute it at one input. -/
def guardedWrong : ChangeSpec := { name := "guarded", fn := fun _ => fun
  | [d1, d2, d3] => { results := [.lit (.bool false)], args := [d1, d2, d3] }
  | _ => none }
def GuardedWrongFalsely : Prop := guardedRow.holds Tryz.pinned (OpenSpec.ofChange guardedWrong)

/-- 'presskeep.Turned': WHATEVER THE INPUT: true; the input reads as it did. -/
def turnedSpec : ChangeSpec := { name := "turned", fn := fun _ => fun
  | [d1, d2] => { results := [.lit (.bool true)], args := [d1, d2] }
  | _ => none }
def turnedRow : OpenClaim := { program := "ytmlkhhhjdpbhfaagreatdoor", sum := "3fd4de7a5822ace0b4a6f224281175f50f2de444038dfff3392e3910c1f848e2", func := "press/presskeep.Turned", spec := "turned", inPlace := ["internal/abi.NoEscape"], unfollowed := true, recurses := true, named := ["press/syntax.shapes", "internal/strconv.uint64pow10", "math/bits.deBruijn32tab", "math/bits.deBruijn64tab"], apart := false, laid := [("math/bits.deBruijn32tab", laid_math_bits_deBruijn32tab), ("math/bits.deBruijn64tab", laid_math_bits_deBruijn64tab), ("internal/strconv.uint64pow10", laid_internal_strconv_uint64pow10), ("press/syntax.shapes", laid_press_syntax_shapes)] }
def TurnedSaid : Prop := turnedRow.holds Tryz.pinned (OpenSpec.ofChange turnedSpec)

/-- ITS FALSE NEIGHBOUR: 'it returns false'. Refute it at one input. -/
def turnedWrong : ChangeSpec := { name := "turned", fn := fun _ => fun
  | [d1, d2] => { results := [.lit (.bool false)], args := [d1, d2] }
  | _ => none }
def TurnedWrongFalsely : Prop := turnedRow.holds Tryz.pinned (OpenSpec.ofChange turnedWrong)

/- THE SECOND FORM. 'bulk': how many values and letters a reading holds, each counted each time it is reached (what is shared counts as often as it is met; a slice's spare places count too). A statement '..UptoSaid' is the law's where the arguments, and the package variables that the reading takes, are together of bulk at most 1048576: NARROWER than '..Said'. Prove '..Said' where nothing that the law and all that it calls make is longer than what came in: it says more and counts as full. Else prove '..UptoSaid'. A law counts once. -/
mutual
def uptoBulk {H : Type} : DataW H → Nat
  | .lit (.string bytes) => bytes.length + 1
  | .lit _ => 1
  | .nil => 1
  | .ptr d => uptoBulk d + 1
  | .slice elems spare => uptoBulkAll elems + uptoBulkAll spare + 1
  | .agg parts => uptoBulkAll parts + 1
  | .iface _ d => uptoBulk d + 1
  | .map entries => uptoBulkEntries entries + 1
  | .held _ => 1
def uptoBulkAll {H : Type} : List (DataW H) → Nat
  | [] => 0
  | d :: r => uptoBulk d + uptoBulkAll r
def uptoBulkEntries {H : Type} : List (Lit × DataW H) → Nat
  | [] => 0
  | x :: r => uptoBulkEntry x + uptoBulkEntries r
def uptoBulkEntry {H : Type} : Lit × DataW H → Nat
  | (.string bytes, d) => bytes.length + uptoBulk d + 1
  | (_, d) => uptoBulk d + 1
 end
def uptoSmall : (H : Type) → List (DataW H) → Bool := fun _ ds => decide (uptoBulkAll ds ≤ 1048576)
def OpenSpec.upto (s : _root_.Go.ChangeSpec) : _root_.Go.OpenSpec := { _root_.Go.OpenSpec.ofChange s with cond := some uptoSmall }

/-- 'presslaw.Parses', WHERE WHAT IT READS IS OF BULK AT MOST 1048576: true; the input reads as it did. -/
def parsesUptoRow : OpenClaim := { program := "ytmlkhhhjdpbhfaagreatdoor", sum := "3fd4de7a5822ace0b4a6f224281175f50f2de444038dfff3392e3910c1f848e2", func := "press/presslaw.Parses", spec := "parses", inPlace := ["internal/abi.NoEscape"], unfollowed := true, recurses := true, named := ["press/syntax.shapes", "internal/strconv.uint64pow10", "math/bits.deBruijn32tab", "math/bits.deBruijn64tab"], apart := false, laid := [("math/bits.deBruijn32tab", laid_math_bits_deBruijn32tab), ("math/bits.deBruijn64tab", laid_math_bits_deBruijn64tab), ("internal/strconv.uint64pow10", laid_internal_strconv_uint64pow10), ("press/syntax.shapes", laid_press_syntax_shapes)], narrowed := true }
def ParsesUptoSaid : Prop := parsesUptoRow.holds Tryz.pinned (OpenSpec.upto parsesSpec)

/-- 'presskeep.Budgeted', WHERE WHAT IT READS IS OF BULK AT MOST 1048576: true; the input reads as it did. -/
def budgetedUptoRow : OpenClaim := { program := "ytmlkhhhjdpbhfaagreatdoor", sum := "3fd4de7a5822ace0b4a6f224281175f50f2de444038dfff3392e3910c1f848e2", func := "press/presskeep.Budgeted", spec := "budgeted", inPlace := ["internal/abi.NoEscape"], unfollowed := true, recurses := true, named := ["press/syntax.shapes", "internal/strconv.uint64pow10", "math/bits.deBruijn32tab", "math/bits.deBruijn64tab"], apart := false, laid := [("math/bits.deBruijn32tab", laid_math_bits_deBruijn32tab), ("math/bits.deBruijn64tab", laid_math_bits_deBruijn64tab), ("internal/strconv.uint64pow10", laid_internal_strconv_uint64pow10), ("press/syntax.shapes", laid_press_syntax_shapes)], narrowed := true }
def BudgetedUptoSaid : Prop := budgetedUptoRow.holds Tryz.pinned (OpenSpec.upto budgetedSpec)

/-- 'presslaw.Generates', WHERE WHAT IT READS IS OF BULK AT MOST 1048576: true; the input reads as it did. -/
def generatesUptoRow : OpenClaim := { program := "ytmlkhhhjdpbhfaagreatdoor", sum := "3fd4de7a5822ace0b4a6f224281175f50f2de444038dfff3392e3910c1f848e2", func := "press/presslaw.Generates", spec := "generates", inPlace := ["internal/abi.NoEscape"], unfollowed := true, recurses := true, named := ["press/syntax.shapes", "internal/strconv.uint64pow10", "math/bits.deBruijn32tab", "math/bits.deBruijn64tab"], apart := false, laid := [("math/bits.deBruijn32tab", laid_math_bits_deBruijn32tab), ("math/bits.deBruijn64tab", laid_math_bits_deBruijn64tab), ("internal/strconv.uint64pow10", laid_internal_strconv_uint64pow10), ("press/syntax.shapes", laid_press_syntax_shapes)], narrowed := true }
def GeneratesUptoSaid : Prop := generatesUptoRow.holds Tryz.pinned (OpenSpec.upto generatesSpec)

/-- 'presskeep.Back', WHERE WHAT IT READS IS OF BULK AT MOST 1048576: true; the input reads as it did. -/
def backUptoRow : OpenClaim := { program := "ytmlkhhhjdpbhfaagreatdoor", sum := "3fd4de7a5822ace0b4a6f224281175f50f2de444038dfff3392e3910c1f848e2", func := "press/presskeep.Back", spec := "back", inPlace := ["internal/abi.NoEscape"], unfollowed := true, recurses := true, named := ["press/syntax.shapes", "internal/strconv.uint64pow10", "math/bits.deBruijn32tab", "math/bits.deBruijn64tab"], apart := false, laid := [("math/bits.deBruijn32tab", laid_math_bits_deBruijn32tab), ("math/bits.deBruijn64tab", laid_math_bits_deBruijn64tab), ("internal/strconv.uint64pow10", laid_internal_strconv_uint64pow10), ("press/syntax.shapes", laid_press_syntax_shapes)], narrowed := true }
def BackUptoSaid : Prop := backUptoRow.holds Tryz.pinned (OpenSpec.upto backSpec)

/-- 'presskeep.Forth', WHERE WHAT IT READS IS OF BULK AT MOST 1048576: true; the input reads as it did. -/
def forthUptoRow : OpenClaim := { program := "ytmlkhhhjdpbhfaagreatdoor", sum := "3fd4de7a5822ace0b4a6f224281175f50f2de444038dfff3392e3910c1f848e2", func := "press/presskeep.Forth", spec := "forth", inPlace := ["internal/abi.NoEscape"], unfollowed := true, recurses := true, named := ["press/syntax.shapes", "internal/strconv.uint64pow10", "math/bits.deBruijn32tab", "math/bits.deBruijn64tab"], apart := false, laid := [("math/bits.deBruijn32tab", laid_math_bits_deBruijn32tab), ("math/bits.deBruijn64tab", laid_math_bits_deBruijn64tab), ("internal/strconv.uint64pow10", laid_internal_strconv_uint64pow10), ("press/syntax.shapes", laid_press_syntax_shapes)], narrowed := true }
def ForthUptoSaid : Prop := forthUptoRow.holds Tryz.pinned (OpenSpec.upto forthSpec)

/-- 'presskeep.Guarded', WHERE WHAT IT READS IS OF BULK AT MOST 1048576: true; the input reads as it did. -/
def guardedUptoRow : OpenClaim := { program := "ytmlkhhhjdpbhfaagreatdoor", sum := "3fd4de7a5822ace0b4a6f224281175f50f2de444038dfff3392e3910c1f848e2", func := "press/presskeep.Guarded", spec := "guarded", inPlace := ["internal/abi.NoEscape"], unfollowed := true, recurses := true, named := ["press/syntax.shapes", "internal/strconv.uint64pow10", "math/bits.deBruijn32tab", "math/bits.deBruijn64tab"], apart := false, laid := [("math/bits.deBruijn32tab", laid_math_bits_deBruijn32tab), ("math/bits.deBruijn64tab", laid_math_bits_deBruijn64tab), ("internal/strconv.uint64pow10", laid_internal_strconv_uint64pow10), ("press/syntax.shapes", laid_press_syntax_shapes)], narrowed := true }
def GuardedUptoSaid : Prop := guardedUptoRow.holds Tryz.pinned (OpenSpec.upto guardedSpec)

/-- 'presskeep.Turned', WHERE WHAT IT READS IS OF BULK AT MOST 1048576: true; the input reads as it did. -/
def turnedUptoRow : OpenClaim := { program := "ytmlkhhhjdpbhfaagreatdoor", sum := "3fd4de7a5822ace0b4a6f224281175f50f2de444038dfff3392e3910c1f848e2", func := "press/presskeep.Turned", spec := "turned", inPlace := ["internal/abi.NoEscape"], unfollowed := true, recurses := true, named := ["press/syntax.shapes", "internal/strconv.uint64pow10", "math/bits.deBruijn32tab", "math/bits.deBruijn64tab"], apart := false, laid := [("math/bits.deBruijn32tab", laid_math_bits_deBruijn32tab), ("math/bits.deBruijn64tab", laid_math_bits_deBruijn64tab), ("internal/strconv.uint64pow10", laid_internal_strconv_uint64pow10), ("press/syntax.shapes", laid_press_syntax_shapes)], narrowed := true }
def TurnedUptoSaid : Prop := turnedUptoRow.holds Tryz.pinned (OpenSpec.upto turnedSpec)

end Rows
end Go.Proofs.YtmlkhhhjdpbhfaaGreatDoor
