/-
  NARROWER THAN 'FOR EVERY INPUT', by the rows' own cells (each row's printed sentence says how): DrawMoulds: laid · DrawWays: laid · DrawGoes: laid · DrawOrders: laid · DrawLocks: laid · DrawPaths: laid · DrawTexts: laid · DrawEither: laid · DrawBegun: laid · DrawUnions: laid · DrawBefore: laid · DrawRounds: laid · DrawSand: laid · DrawTurned: laid · DrawStraight: laid.
  DERIVED. THE GIVEN ROWS OF THIS SEAT. 15 by the template 'for every input the law returns true; each argument reads behind the call as it read before'; 0 by the template 'total and deterministic' (their statements: YtoajocgfmbakjaaGreatDoorTotals.lean).
  GIVEN WITH THE SEED: the statements are not yours to turn. If you find one false, say at which input.
  Laid BY PROGRAM, IN A SANDBOX (cutbox-rows.mjs): the forced cells as the released guide's own fill.sh prints them over the translation e18e2ee470d35e04… (all of the seat's roots in one cut). By AI agents, Wed Nov 11 2026. No macro, syntax, notation, axiom, sorry.
-/
import Derived.Test.YtoajocgfmbakjaaGreatDoorChecked
import GoSem.Claim
import GoSem.ClaimJoined
import GoSem.ClaimMapViews
import Derived.JoinedTies
import Derived.KernelRfl
namespace Go.Proofs.YtoajocgfmbakjaaGreatDoor
/- THE CELL 'sum', in the pinned program and in every row, IS THE sha256 OF THE DUMP (.gsa) THAT YtoajocgfmbakjaaGreatDoorProg.lean LOADS. Nothing in Lean hashes anything: it is a label: what it is worth is what the hold of that sum in a sandbox is worth. -/
noncomputable def Tryz.pinned : Pinned := { name := "ytoajocgfmbakjaagreatdoor", sum := "e18e2ee470d35e04edb158a35caf243a0cc108189643923eea171c7b0668e588", checked := Tryz.checked }
namespace Rows
def none {H : Type} : Left H := { results := [], args := [] }

/- WHAT THE LISTED PACKAGE-LEVEL VARIABLES READ AS WHEN THE CALL BEGINS. Each datum BY PROGRAM (the guide's laid-datum.mjs) off the statement by which the dump's own 'gosem.cut.vars' lays the variable. In a bare row this is a premise. The card (YtoajocgfmbakjaaGreatDoorCards.lean) ties it to the program's text. -/
def laid_math_bits_deBruijn32tab {H : Type} : DataW H := .agg [.lit (.int .u8 0), .lit (.int .u8 1), .lit (.int .u8 28), .lit (.int .u8 2), .lit (.int .u8 29), .lit (.int .u8 14), .lit (.int .u8 24), .lit (.int .u8 3), .lit (.int .u8 30), .lit (.int .u8 22), .lit (.int .u8 20), .lit (.int .u8 15), .lit (.int .u8 25), .lit (.int .u8 17), .lit (.int .u8 4), .lit (.int .u8 8), .lit (.int .u8 31), .lit (.int .u8 27), .lit (.int .u8 13), .lit (.int .u8 23), .lit (.int .u8 21), .lit (.int .u8 19), .lit (.int .u8 16), .lit (.int .u8 7), .lit (.int .u8 26), .lit (.int .u8 12), .lit (.int .u8 18), .lit (.int .u8 6), .lit (.int .u8 11), .lit (.int .u8 5), .lit (.int .u8 10), .lit (.int .u8 9)]
def laid_math_bits_deBruijn64tab {H : Type} : DataW H := .agg [.lit (.int .u8 0), .lit (.int .u8 1), .lit (.int .u8 56), .lit (.int .u8 2), .lit (.int .u8 57), .lit (.int .u8 49), .lit (.int .u8 28), .lit (.int .u8 3), .lit (.int .u8 61), .lit (.int .u8 58), .lit (.int .u8 42), .lit (.int .u8 50), .lit (.int .u8 38), .lit (.int .u8 29), .lit (.int .u8 17), .lit (.int .u8 4), .lit (.int .u8 62), .lit (.int .u8 47), .lit (.int .u8 59), .lit (.int .u8 36), .lit (.int .u8 45), .lit (.int .u8 43), .lit (.int .u8 51), .lit (.int .u8 22), .lit (.int .u8 53), .lit (.int .u8 39), .lit (.int .u8 33), .lit (.int .u8 30), .lit (.int .u8 24), .lit (.int .u8 18), .lit (.int .u8 12), .lit (.int .u8 5), .lit (.int .u8 63), .lit (.int .u8 55), .lit (.int .u8 48), .lit (.int .u8 27), .lit (.int .u8 60), .lit (.int .u8 41), .lit (.int .u8 37), .lit (.int .u8 16), .lit (.int .u8 46), .lit (.int .u8 35), .lit (.int .u8 44), .lit (.int .u8 21), .lit (.int .u8 52), .lit (.int .u8 32), .lit (.int .u8 23), .lit (.int .u8 11), .lit (.int .u8 54), .lit (.int .u8 26), .lit (.int .u8 40), .lit (.int .u8 15), .lit (.int .u8 34), .lit (.int .u8 20), .lit (.int .u8 31), .lit (.int .u8 10), .lit (.int .u8 25), .lit (.int .u8 14), .lit (.int .u8 19), .lit (.int .u8 9), .lit (.int .u8 13), .lit (.int .u8 8), .lit (.int .u8 7), .lit (.int .u8 6)]
def laid_internal_strconv_uint64pow10 {H : Type} : DataW H := .agg [.lit (.int .u64 1), .lit (.int .u64 10), .lit (.int .u64 100), .lit (.int .u64 1000), .lit (.int .u64 10000), .lit (.int .u64 100000), .lit (.int .u64 1000000), .lit (.int .u64 10000000), .lit (.int .u64 100000000), .lit (.int .u64 1000000000), .lit (.int .u64 10000000000), .lit (.int .u64 100000000000), .lit (.int .u64 1000000000000), .lit (.int .u64 10000000000000), .lit (.int .u64 100000000000000), .lit (.int .u64 1000000000000000), .lit (.int .u64 10000000000000000), .lit (.int .u64 100000000000000000), .lit (.int .u64 1000000000000000000), .lit (.int .u64 10000000000000000000)]
def laid_strconv_ErrRange {H : Type} : DataW H := .iface "*errors.errorString" (.ptr (.agg [.lit (.string [118, 97, 108, 117, 101, 32, 111, 117, 116, 32, 111, 102, 32, 114, 97, 110, 103, 101])]))
def laid_strconv_ErrSyntax {H : Type} : DataW H := .iface "*errors.errorString" (.ptr (.agg [.lit (.string [105, 110, 118, 97, 108, 105, 100, 32, 115, 121, 110, 116, 97, 120])]))
def laid_strickle_draw_sideNames {H : Type} : DataW H := .agg [.lit (.string [117, 112]), .lit (.string [101, 97, 115, 116]), .lit (.string [115, 111, 117, 116, 104]), .lit (.string [119, 101, 115, 116]), .lit (.string [110, 111, 114, 116, 104])]

/-- 'stricklelaw03.DrawMoulds': WHATEVER THE INPUT: true; the input reads as it did. -/
def drawMouldsSpec : ChangeSpec := { name := "drawMoulds", fn := fun _ => fun
  | [d1, d2, d3, d4] => { results := [.lit (.bool true)], args := [d1, d2, d3, d4] }
  | _ => none }
def drawMouldsRow : OpenClaim := { program := "ytoajocgfmbakjaagreatdoor", sum := "e18e2ee470d35e04edb158a35caf243a0cc108189643923eea171c7b0668e588", func := "strickle/stricklelaw03.DrawMoulds", spec := "drawMoulds", unfollowed := true, recurses := true, named := ["math/bits.deBruijn32tab", "math/bits.deBruijn64tab"], apart := false, laid := [("math/bits.deBruijn32tab", laid_math_bits_deBruijn32tab), ("math/bits.deBruijn64tab", laid_math_bits_deBruijn64tab)] }
def DrawMouldsSaid : Prop := drawMouldsRow.holds Tryz.pinned (OpenSpec.ofChange drawMouldsSpec)

/-- ITS FALSE NEIGHBOUR: 'it returns false'. Refute it at one input. -/
def drawMouldsWrong : ChangeSpec := { name := "drawMoulds", fn := fun _ => fun
  | [d1, d2, d3, d4] => { results := [.lit (.bool false)], args := [d1, d2, d3, d4] }
  | _ => none }
def DrawMouldsWrongFalsely : Prop := drawMouldsRow.holds Tryz.pinned (OpenSpec.ofChange drawMouldsWrong)

/-- 'stricklelaw03.DrawWays': WHATEVER THE INPUT: true; the input reads as it did. -/
def drawWaysSpec : ChangeSpec := { name := "drawWays", fn := fun _ => fun
  | [d1, d2, d3] => { results := [.lit (.bool true)], args := [d1, d2, d3] }
  | _ => none }
def drawWaysRow : OpenClaim := { program := "ytoajocgfmbakjaagreatdoor", sum := "e18e2ee470d35e04edb158a35caf243a0cc108189643923eea171c7b0668e588", func := "strickle/stricklelaw03.DrawWays", spec := "drawWays", unfollowed := true, recurses := true, named := ["math/bits.deBruijn32tab", "math/bits.deBruijn64tab"], apart := false, laid := [("math/bits.deBruijn32tab", laid_math_bits_deBruijn32tab), ("math/bits.deBruijn64tab", laid_math_bits_deBruijn64tab)] }
def DrawWaysSaid : Prop := drawWaysRow.holds Tryz.pinned (OpenSpec.ofChange drawWaysSpec)

/-- ITS FALSE NEIGHBOUR: 'it returns false'. Refute it at one input. -/
def drawWaysWrong : ChangeSpec := { name := "drawWays", fn := fun _ => fun
  | [d1, d2, d3] => { results := [.lit (.bool false)], args := [d1, d2, d3] }
  | _ => none }
def DrawWaysWrongFalsely : Prop := drawWaysRow.holds Tryz.pinned (OpenSpec.ofChange drawWaysWrong)

/-- 'stricklelaw03.DrawGoes': WHATEVER THE INPUT: true; the input reads as it did. -/
def drawGoesSpec : ChangeSpec := { name := "drawGoes", fn := fun _ => fun
  | [d1, d2, d3] => { results := [.lit (.bool true)], args := [d1, d2, d3] }
  | _ => none }
def drawGoesRow : OpenClaim := { program := "ytoajocgfmbakjaagreatdoor", sum := "e18e2ee470d35e04edb158a35caf243a0cc108189643923eea171c7b0668e588", func := "strickle/stricklelaw03.DrawGoes", spec := "drawGoes", unfollowed := true, recurses := true, named := ["math/bits.deBruijn32tab", "math/bits.deBruijn64tab"], apart := false, laid := [("math/bits.deBruijn32tab", laid_math_bits_deBruijn32tab), ("math/bits.deBruijn64tab", laid_math_bits_deBruijn64tab)] }
def DrawGoesSaid : Prop := drawGoesRow.holds Tryz.pinned (OpenSpec.ofChange drawGoesSpec)

/-- ITS FALSE NEIGHBOUR: 'it returns false'. Refute it at one input. -/
def drawGoesWrong : ChangeSpec := { name := "drawGoes", fn := fun _ => fun
  | [d1, d2, d3] => { results := [.lit (.bool false)], args := [d1, d2, d3] }
  | _ => none }
def DrawGoesWrongFalsely : Prop := drawGoesRow.holds Tryz.pinned (OpenSpec.ofChange drawGoesWrong)

/-- 'stricklelaw03.DrawOrders': WHATEVER THE INPUT: true; the input reads as it did. -/
def drawOrdersSpec : ChangeSpec := { name := "drawOrders", fn := fun _ => fun
  | [d1, d2] => { results := [.lit (.bool true)], args := [d1, d2] }
  | _ => none }
def drawOrdersRow : OpenClaim := { program := "ytoajocgfmbakjaagreatdoor", sum := "e18e2ee470d35e04edb158a35caf243a0cc108189643923eea171c7b0668e588", func := "strickle/stricklelaw03.DrawOrders", spec := "drawOrders", unfollowed := true, recurses := true, named := ["math/bits.deBruijn32tab", "math/bits.deBruijn64tab"], apart := false, laid := [("math/bits.deBruijn32tab", laid_math_bits_deBruijn32tab), ("math/bits.deBruijn64tab", laid_math_bits_deBruijn64tab)] }
def DrawOrdersSaid : Prop := drawOrdersRow.holds Tryz.pinned (OpenSpec.ofChange drawOrdersSpec)

/-- ITS FALSE NEIGHBOUR: 'it returns false'. Refute it at one input. -/
def drawOrdersWrong : ChangeSpec := { name := "drawOrders", fn := fun _ => fun
  | [d1, d2] => { results := [.lit (.bool false)], args := [d1, d2] }
  | _ => none }
def DrawOrdersWrongFalsely : Prop := drawOrdersRow.holds Tryz.pinned (OpenSpec.ofChange drawOrdersWrong)

/-- 'stricklelaw03.DrawLocks': WHATEVER THE INPUT: true; the input reads as it did. -/
def drawLocksSpec : ChangeSpec := { name := "drawLocks", fn := fun _ => fun
  | [d1, d2] => { results := [.lit (.bool true)], args := [d1, d2] }
  | _ => none }
def drawLocksRow : OpenClaim := { program := "ytoajocgfmbakjaagreatdoor", sum := "e18e2ee470d35e04edb158a35caf243a0cc108189643923eea171c7b0668e588", func := "strickle/stricklelaw03.DrawLocks", spec := "drawLocks", unfollowed := true, recurses := true, named := ["math/bits.deBruijn32tab", "math/bits.deBruijn64tab"], apart := false, laid := [("math/bits.deBruijn32tab", laid_math_bits_deBruijn32tab), ("math/bits.deBruijn64tab", laid_math_bits_deBruijn64tab)] }
def DrawLocksSaid : Prop := drawLocksRow.holds Tryz.pinned (OpenSpec.ofChange drawLocksSpec)

/-- ITS FALSE NEIGHBOUR: 'it returns false'. Refute it at one input. -/
def drawLocksWrong : ChangeSpec := { name := "drawLocks", fn := fun _ => fun
  | [d1, d2] => { results := [.lit (.bool false)], args := [d1, d2] }
  | _ => none }
def DrawLocksWrongFalsely : Prop := drawLocksRow.holds Tryz.pinned (OpenSpec.ofChange drawLocksWrong)

/-- 'stricklelaw03.DrawPaths': WHATEVER THE INPUT: true; the input reads as it did. -/
def drawPathsSpec : ChangeSpec := { name := "drawPaths", fn := fun _ => fun
  | [d1, d2] => { results := [.lit (.bool true)], args := [d1, d2] }
  | _ => none }
def drawPathsRow : OpenClaim := { program := "ytoajocgfmbakjaagreatdoor", sum := "e18e2ee470d35e04edb158a35caf243a0cc108189643923eea171c7b0668e588", func := "strickle/stricklelaw03.DrawPaths", spec := "drawPaths", unfollowed := true, recurses := true, named := ["math/bits.deBruijn32tab", "math/bits.deBruijn64tab"], apart := false, laid := [("math/bits.deBruijn32tab", laid_math_bits_deBruijn32tab), ("math/bits.deBruijn64tab", laid_math_bits_deBruijn64tab)] }
def DrawPathsSaid : Prop := drawPathsRow.holds Tryz.pinned (OpenSpec.ofChange drawPathsSpec)

/-- ITS FALSE NEIGHBOUR: 'it returns false'. Refute it at one input. -/
def drawPathsWrong : ChangeSpec := { name := "drawPaths", fn := fun _ => fun
  | [d1, d2] => { results := [.lit (.bool false)], args := [d1, d2] }
  | _ => none }
def DrawPathsWrongFalsely : Prop := drawPathsRow.holds Tryz.pinned (OpenSpec.ofChange drawPathsWrong)

/-- 'stricklelaw03.DrawTexts': WHATEVER THE INPUT: true; the input reads as it did. -/
def drawTextsSpec : ChangeSpec := { name := "drawTexts", fn := fun _ => fun
  | [d1, d2] => { results := [.lit (.bool true)], args := [d1, d2] }
  | _ => none }
def drawTextsRow : OpenClaim := { program := "ytoajocgfmbakjaagreatdoor", sum := "e18e2ee470d35e04edb158a35caf243a0cc108189643923eea171c7b0668e588", func := "strickle/stricklelaw03.DrawTexts", spec := "drawTexts", inPlace := ["internal/bytealg.IndexByteString", "internal/bytealg.IndexString"], unfollowed := true, recurses := true, named := ["math/bits.deBruijn32tab", "math/bits.deBruijn64tab", "strickle/draw.sideNames", "internal/strconv.uint64pow10", "internal/bytealg.MaxLen", "strconv.ErrSyntax", "strconv.ErrRange"], apart := false, laid := [("math/bits.deBruijn32tab", laid_math_bits_deBruijn32tab), ("math/bits.deBruijn64tab", laid_math_bits_deBruijn64tab), ("internal/strconv.uint64pow10", laid_internal_strconv_uint64pow10), ("strconv.ErrRange", laid_strconv_ErrRange), ("strconv.ErrSyntax", laid_strconv_ErrSyntax), ("strickle/draw.sideNames", laid_strickle_draw_sideNames)] }
def DrawTextsSaid : Prop := drawTextsRow.holds Tryz.pinned (OpenSpec.ofChange drawTextsSpec)

/-- ITS FALSE NEIGHBOUR: 'it returns false'. Refute it at one input. -/
def drawTextsWrong : ChangeSpec := { name := "drawTexts", fn := fun _ => fun
  | [d1, d2] => { results := [.lit (.bool false)], args := [d1, d2] }
  | _ => none }
def DrawTextsWrongFalsely : Prop := drawTextsRow.holds Tryz.pinned (OpenSpec.ofChange drawTextsWrong)

/-- 'stricklelaw03.DrawEither': WHATEVER THE INPUT: true; the input reads as it did. -/
def drawEitherSpec : ChangeSpec := { name := "drawEither", fn := fun _ => fun
  | [d1, d2, d3] => { results := [.lit (.bool true)], args := [d1, d2, d3] }
  | _ => none }
def drawEitherRow : OpenClaim := { program := "ytoajocgfmbakjaagreatdoor", sum := "e18e2ee470d35e04edb158a35caf243a0cc108189643923eea171c7b0668e588", func := "strickle/stricklelaw03.DrawEither", spec := "drawEither", unfollowed := true, recurses := true, named := ["math/bits.deBruijn32tab", "math/bits.deBruijn64tab"], apart := false, laid := [("math/bits.deBruijn32tab", laid_math_bits_deBruijn32tab), ("math/bits.deBruijn64tab", laid_math_bits_deBruijn64tab)] }
def DrawEitherSaid : Prop := drawEitherRow.holds Tryz.pinned (OpenSpec.ofChange drawEitherSpec)

/-- ITS FALSE NEIGHBOUR: 'it returns false'. Refute it at one input. -/
def drawEitherWrong : ChangeSpec := { name := "drawEither", fn := fun _ => fun
  | [d1, d2, d3] => { results := [.lit (.bool false)], args := [d1, d2, d3] }
  | _ => none }
def DrawEitherWrongFalsely : Prop := drawEitherRow.holds Tryz.pinned (OpenSpec.ofChange drawEitherWrong)

/-- 'stricklelaw03.DrawBegun': WHATEVER THE INPUT: true; the input reads as it did. -/
def drawBegunSpec : ChangeSpec := { name := "drawBegun", fn := fun _ => fun
  | [d1, d2, d3] => { results := [.lit (.bool true)], args := [d1, d2, d3] }
  | _ => none }
def drawBegunRow : OpenClaim := { program := "ytoajocgfmbakjaagreatdoor", sum := "e18e2ee470d35e04edb158a35caf243a0cc108189643923eea171c7b0668e588", func := "strickle/stricklelaw03.DrawBegun", spec := "drawBegun", unfollowed := true, recurses := true, named := ["math/bits.deBruijn32tab", "math/bits.deBruijn64tab"], apart := false, laid := [("math/bits.deBruijn32tab", laid_math_bits_deBruijn32tab), ("math/bits.deBruijn64tab", laid_math_bits_deBruijn64tab)] }
def DrawBegunSaid : Prop := drawBegunRow.holds Tryz.pinned (OpenSpec.ofChange drawBegunSpec)

/-- ITS FALSE NEIGHBOUR: 'it returns false'. Refute it at one input. -/
def drawBegunWrong : ChangeSpec := { name := "drawBegun", fn := fun _ => fun
  | [d1, d2, d3] => { results := [.lit (.bool false)], args := [d1, d2, d3] }
  | _ => none }
def DrawBegunWrongFalsely : Prop := drawBegunRow.holds Tryz.pinned (OpenSpec.ofChange drawBegunWrong)

/-- 'stricklelaw03.DrawUnions': WHATEVER THE INPUT: true; the input reads as it did. -/
def drawUnionsSpec : ChangeSpec := { name := "drawUnions", fn := fun _ => fun
  | [d1, d2, d3] => { results := [.lit (.bool true)], args := [d1, d2, d3] }
  | _ => none }
def drawUnionsRow : OpenClaim := { program := "ytoajocgfmbakjaagreatdoor", sum := "e18e2ee470d35e04edb158a35caf243a0cc108189643923eea171c7b0668e588", func := "strickle/stricklelaw03.DrawUnions", spec := "drawUnions", unfollowed := true, recurses := true, named := ["math/bits.deBruijn32tab", "math/bits.deBruijn64tab"], apart := false, laid := [("math/bits.deBruijn32tab", laid_math_bits_deBruijn32tab), ("math/bits.deBruijn64tab", laid_math_bits_deBruijn64tab)] }
def DrawUnionsSaid : Prop := drawUnionsRow.holds Tryz.pinned (OpenSpec.ofChange drawUnionsSpec)

/-- ITS FALSE NEIGHBOUR: 'it returns false'. Refute it at one input. -/
def drawUnionsWrong : ChangeSpec := { name := "drawUnions", fn := fun _ => fun
  | [d1, d2, d3] => { results := [.lit (.bool false)], args := [d1, d2, d3] }
  | _ => none }
def DrawUnionsWrongFalsely : Prop := drawUnionsRow.holds Tryz.pinned (OpenSpec.ofChange drawUnionsWrong)

/-- 'stricklelaw03.DrawBefore': WHATEVER THE INPUT: true; the input reads as it did. -/
def drawBeforeSpec : ChangeSpec := { name := "drawBefore", fn := fun _ => fun
  | [d1, d2] => { results := [.lit (.bool true)], args := [d1, d2] }
  | _ => none }
def drawBeforeRow : OpenClaim := { program := "ytoajocgfmbakjaagreatdoor", sum := "e18e2ee470d35e04edb158a35caf243a0cc108189643923eea171c7b0668e588", func := "strickle/stricklelaw03.DrawBefore", spec := "drawBefore", unfollowed := true, recurses := true, named := ["math/bits.deBruijn32tab", "math/bits.deBruijn64tab"], apart := false, laid := [("math/bits.deBruijn32tab", laid_math_bits_deBruijn32tab), ("math/bits.deBruijn64tab", laid_math_bits_deBruijn64tab)] }
def DrawBeforeSaid : Prop := drawBeforeRow.holds Tryz.pinned (OpenSpec.ofChange drawBeforeSpec)

/-- ITS FALSE NEIGHBOUR: 'it returns false'. Refute it at one input. -/
def drawBeforeWrong : ChangeSpec := { name := "drawBefore", fn := fun _ => fun
  | [d1, d2] => { results := [.lit (.bool false)], args := [d1, d2] }
  | _ => none }
def DrawBeforeWrongFalsely : Prop := drawBeforeRow.holds Tryz.pinned (OpenSpec.ofChange drawBeforeWrong)

/-- 'stricklelaw03.DrawRounds': WHATEVER THE INPUT: true; the input reads as it did. -/
def drawRoundsSpec : ChangeSpec := { name := "drawRounds", fn := fun _ => fun
  | [d1, d2] => { results := [.lit (.bool true)], args := [d1, d2] }
  | _ => none }
def drawRoundsRow : OpenClaim := { program := "ytoajocgfmbakjaagreatdoor", sum := "e18e2ee470d35e04edb158a35caf243a0cc108189643923eea171c7b0668e588", func := "strickle/stricklelaw03.DrawRounds", spec := "drawRounds", unfollowed := true, recurses := true, named := ["math/bits.deBruijn32tab", "math/bits.deBruijn64tab"], apart := false, laid := [("math/bits.deBruijn32tab", laid_math_bits_deBruijn32tab), ("math/bits.deBruijn64tab", laid_math_bits_deBruijn64tab)] }
def DrawRoundsSaid : Prop := drawRoundsRow.holds Tryz.pinned (OpenSpec.ofChange drawRoundsSpec)

/-- ITS FALSE NEIGHBOUR: 'it returns false'. Refute it at one input. -/
def drawRoundsWrong : ChangeSpec := { name := "drawRounds", fn := fun _ => fun
  | [d1, d2] => { results := [.lit (.bool false)], args := [d1, d2] }
  | _ => none }
def DrawRoundsWrongFalsely : Prop := drawRoundsRow.holds Tryz.pinned (OpenSpec.ofChange drawRoundsWrong)

/-- 'stricklelaw03.DrawSand': WHATEVER THE INPUT: true; the input reads as it did. -/
def drawSandSpec : ChangeSpec := { name := "drawSand", fn := fun _ => fun
  | [d1, d2, d3] => { results := [.lit (.bool true)], args := [d1, d2, d3] }
  | _ => none }
def drawSandRow : OpenClaim := { program := "ytoajocgfmbakjaagreatdoor", sum := "e18e2ee470d35e04edb158a35caf243a0cc108189643923eea171c7b0668e588", func := "strickle/stricklelaw03.DrawSand", spec := "drawSand", unfollowed := true, recurses := true, named := ["math/bits.deBruijn32tab", "math/bits.deBruijn64tab"], apart := false, laid := [("math/bits.deBruijn32tab", laid_math_bits_deBruijn32tab), ("math/bits.deBruijn64tab", laid_math_bits_deBruijn64tab)] }
def DrawSandSaid : Prop := drawSandRow.holds Tryz.pinned (OpenSpec.ofChange drawSandSpec)

/-- ITS FALSE NEIGHBOUR: 'it returns false'. Refute it at one input. -/
def drawSandWrong : ChangeSpec := { name := "drawSand", fn := fun _ => fun
  | [d1, d2, d3] => { results := [.lit (.bool false)], args := [d1, d2, d3] }
  | _ => none }
def DrawSandWrongFalsely : Prop := drawSandRow.holds Tryz.pinned (OpenSpec.ofChange drawSandWrong)

/-- 'stricklelaw03.DrawTurned': WHATEVER THE INPUT: true; the input reads as it did. -/
def drawTurnedSpec : ChangeSpec := { name := "drawTurned", fn := fun _ => fun
  | [d1, d2, d3] => { results := [.lit (.bool true)], args := [d1, d2, d3] }
  | _ => none }
def drawTurnedRow : OpenClaim := { program := "ytoajocgfmbakjaagreatdoor", sum := "e18e2ee470d35e04edb158a35caf243a0cc108189643923eea171c7b0668e588", func := "strickle/stricklelaw03.DrawTurned", spec := "drawTurned", unfollowed := true, recurses := true, named := ["math/bits.deBruijn32tab", "math/bits.deBruijn64tab"], apart := false, laid := [("math/bits.deBruijn32tab", laid_math_bits_deBruijn32tab), ("math/bits.deBruijn64tab", laid_math_bits_deBruijn64tab)] }
def DrawTurnedSaid : Prop := drawTurnedRow.holds Tryz.pinned (OpenSpec.ofChange drawTurnedSpec)

/-- ITS FALSE NEIGHBOUR: 'it returns false'. Refute it at one input. -/
def drawTurnedWrong : ChangeSpec := { name := "drawTurned", fn := fun _ => fun
  | [d1, d2, d3] => { results := [.lit (.bool false)], args := [d1, d2, d3] }
  | _ => none }
def DrawTurnedWrongFalsely : Prop := drawTurnedRow.holds Tryz.pinned (OpenSpec.ofChange drawTurnedWrong)

/-- 'stricklelaw03.DrawStraight': WHATEVER THE INPUT: true; the input reads as it did. -/
def drawStraightSpec : ChangeSpec := { name := "drawStraight", fn := fun _ => fun
  | [d] => { results := [.lit (.bool true)], args := [d] }
  | _ => none }
def drawStraightRow : OpenClaim := { program := "ytoajocgfmbakjaagreatdoor", sum := "e18e2ee470d35e04edb158a35caf243a0cc108189643923eea171c7b0668e588", func := "strickle/stricklelaw03.DrawStraight", spec := "drawStraight", unfollowed := true, recurses := true, named := ["math/bits.deBruijn32tab", "math/bits.deBruijn64tab"], apart := false, laid := [("math/bits.deBruijn32tab", laid_math_bits_deBruijn32tab), ("math/bits.deBruijn64tab", laid_math_bits_deBruijn64tab)] }
def DrawStraightSaid : Prop := drawStraightRow.holds Tryz.pinned (OpenSpec.ofChange drawStraightSpec)

/-- ITS FALSE NEIGHBOUR: 'it returns false'. Refute it at one input. -/
def drawStraightWrong : ChangeSpec := { name := "drawStraight", fn := fun _ => fun
  | [d] => { results := [.lit (.bool false)], args := [d] }
  | _ => none }
def DrawStraightWrongFalsely : Prop := drawStraightRow.holds Tryz.pinned (OpenSpec.ofChange drawStraightWrong)

/- THE SECOND FORM. 'bulk': how many values and letters a reading holds, each counted each time it is reached (what is shared counts as often as it is met; a slice's spare places count too). A statement '..UptoSaid' is the law's where the arguments, and the package variables that the reading takes, are together of bulk at most 1048576: NARROWER than '..Said'. Prove '..Said' where nothing that the law and all that it calls make is longer than what came in: it says more and counts as full. Else prove '..UptoSaid'. A law counts once. -/
mutual
def uptoBulk {H : Type} : DataW H → Nat
  | .lit (.string bytes) => bytes.length + 1
  | .lit _ => 1
  | .nil => 1
  | .ptr d => uptoBulk d + 1
  | .slice elems spare => uptoBulkAll elems + uptoBulkAll spare + 1
  | .agg parts => uptoBulkAll parts + 1
  | .iface _ d => uptoBulk d + 1
  | .map entries => uptoBulkEntries entries + 1
  | .held _ => 1
def uptoBulkAll {H : Type} : List (DataW H) → Nat
  | [] => 0
  | d :: r => uptoBulk d + uptoBulkAll r
def uptoBulkEntries {H : Type} : List (Lit × DataW H) → Nat
  | [] => 0
  | x :: r => uptoBulkEntry x + uptoBulkEntries r
def uptoBulkEntry {H : Type} : Lit × DataW H → Nat
  | (.string bytes, d) => bytes.length + uptoBulk d + 1
  | (_, d) => uptoBulk d + 1
 end
def uptoSmall : (H : Type) → List (DataW H) → Bool := fun _ ds => decide (uptoBulkAll ds ≤ 1048576)
def OpenSpec.upto (s : _root_.Go.ChangeSpec) : _root_.Go.OpenSpec := { _root_.Go.OpenSpec.ofChange s with cond := some uptoSmall }

/-- 'stricklelaw03.DrawMoulds', WHERE WHAT IT READS IS OF BULK AT MOST 1048576: true; the input reads as it did. -/
def drawMouldsUptoRow : OpenClaim := { program := "ytoajocgfmbakjaagreatdoor", sum := "e18e2ee470d35e04edb158a35caf243a0cc108189643923eea171c7b0668e588", func := "strickle/stricklelaw03.DrawMoulds", spec := "drawMoulds", unfollowed := true, recurses := true, named := ["math/bits.deBruijn32tab", "math/bits.deBruijn64tab"], apart := false, laid := [("math/bits.deBruijn32tab", laid_math_bits_deBruijn32tab), ("math/bits.deBruijn64tab", laid_math_bits_deBruijn64tab)], narrowed := true }
def DrawMouldsUptoSaid : Prop := drawMouldsUptoRow.holds Tryz.pinned (OpenSpec.upto drawMouldsSpec)

/-- 'stricklelaw03.DrawWays', WHERE WHAT IT READS IS OF BULK AT MOST 1048576: true; the input reads as it did. -/
def drawWaysUptoRow : OpenClaim := { program := "ytoajocgfmbakjaagreatdoor", sum := "e18e2ee470d35e04edb158a35caf243a0cc108189643923eea171c7b0668e588", func := "strickle/stricklelaw03.DrawWays", spec := "drawWays", unfollowed := true, recurses := true, named := ["math/bits.deBruijn32tab", "math/bits.deBruijn64tab"], apart := false, laid := [("math/bits.deBruijn32tab", laid_math_bits_deBruijn32tab), ("math/bits.deBruijn64tab", laid_math_bits_deBruijn64tab)], narrowed := true }
def DrawWaysUptoSaid : Prop := drawWaysUptoRow.holds Tryz.pinned (OpenSpec.upto drawWaysSpec)

/-- 'stricklelaw03.DrawGoes', WHERE WHAT IT READS IS OF BULK AT MOST 1048576: true; the input reads as it did. -/
def drawGoesUptoRow : OpenClaim := { program := "ytoajocgfmbakjaagreatdoor", sum := "e18e2ee470d35e04edb158a35caf243a0cc108189643923eea171c7b0668e588", func := "strickle/stricklelaw03.DrawGoes", spec := "drawGoes", unfollowed := true, recurses := true, named := ["math/bits.deBruijn32tab", "math/bits.deBruijn64tab"], apart := false, laid := [("math/bits.deBruijn32tab", laid_math_bits_deBruijn32tab), ("math/bits.deBruijn64tab", laid_math_bits_deBruijn64tab)], narrowed := true }
def DrawGoesUptoSaid : Prop := drawGoesUptoRow.holds Tryz.pinned (OpenSpec.upto drawGoesSpec)

/-- 'stricklelaw03.DrawOrders', WHERE WHAT IT READS IS OF BULK AT MOST 1048576: true; the input reads as it did. -/
def drawOrdersUptoRow : OpenClaim := { program := "ytoajocgfmbakjaagreatdoor", sum := "e18e2ee470d35e04edb158a35caf243a0cc108189643923eea171c7b0668e588", func := "strickle/stricklelaw03.DrawOrders", spec := "drawOrders", unfollowed := true, recurses := true, named := ["math/bits.deBruijn32tab", "math/bits.deBruijn64tab"], apart := false, laid := [("math/bits.deBruijn32tab", laid_math_bits_deBruijn32tab), ("math/bits.deBruijn64tab", laid_math_bits_deBruijn64tab)], narrowed := true }
def DrawOrdersUptoSaid : Prop := drawOrdersUptoRow.holds Tryz.pinned (OpenSpec.upto drawOrdersSpec)

/-- 'stricklelaw03.DrawLocks', WHERE WHAT IT READS IS OF BULK AT MOST 1048576: true; the input reads as it did. -/
def drawLocksUptoRow : OpenClaim := { program := "ytoajocgfmbakjaagreatdoor", sum := "e18e2ee470d35e04edb158a35caf243a0cc108189643923eea171c7b0668e588", func := "strickle/stricklelaw03.DrawLocks", spec := "drawLocks", unfollowed := true, recurses := true, named := ["math/bits.deBruijn32tab", "math/bits.deBruijn64tab"], apart := false, laid := [("math/bits.deBruijn32tab", laid_math_bits_deBruijn32tab), ("math/bits.deBruijn64tab", laid_math_bits_deBruijn64tab)], narrowed := true }
def DrawLocksUptoSaid : Prop := drawLocksUptoRow.holds Tryz.pinned (OpenSpec.upto drawLocksSpec)

/-- 'stricklelaw03.DrawPaths', WHERE WHAT IT READS IS OF BULK AT MOST 1048576: true; the input reads as it did. -/
def drawPathsUptoRow : OpenClaim := { program := "ytoajocgfmbakjaagreatdoor", sum := "e18e2ee470d35e04edb158a35caf243a0cc108189643923eea171c7b0668e588", func := "strickle/stricklelaw03.DrawPaths", spec := "drawPaths", unfollowed := true, recurses := true, named := ["math/bits.deBruijn32tab", "math/bits.deBruijn64tab"], apart := false, laid := [("math/bits.deBruijn32tab", laid_math_bits_deBruijn32tab), ("math/bits.deBruijn64tab", laid_math_bits_deBruijn64tab)], narrowed := true }
def DrawPathsUptoSaid : Prop := drawPathsUptoRow.holds Tryz.pinned (OpenSpec.upto drawPathsSpec)

/-- 'stricklelaw03.DrawTexts', WHERE WHAT IT READS IS OF BULK AT MOST 1048576: true; the input reads as it did. -/
def drawTextsUptoRow : OpenClaim := { program := "ytoajocgfmbakjaagreatdoor", sum := "e18e2ee470d35e04edb158a35caf243a0cc108189643923eea171c7b0668e588", func := "strickle/stricklelaw03.DrawTexts", spec := "drawTexts", inPlace := ["internal/bytealg.IndexByteString", "internal/bytealg.IndexString"], unfollowed := true, recurses := true, named := ["math/bits.deBruijn32tab", "math/bits.deBruijn64tab", "strickle/draw.sideNames", "internal/strconv.uint64pow10", "internal/bytealg.MaxLen", "strconv.ErrSyntax", "strconv.ErrRange"], apart := false, laid := [("math/bits.deBruijn32tab", laid_math_bits_deBruijn32tab), ("math/bits.deBruijn64tab", laid_math_bits_deBruijn64tab), ("internal/strconv.uint64pow10", laid_internal_strconv_uint64pow10), ("strconv.ErrRange", laid_strconv_ErrRange), ("strconv.ErrSyntax", laid_strconv_ErrSyntax), ("strickle/draw.sideNames", laid_strickle_draw_sideNames)], narrowed := true }
def DrawTextsUptoSaid : Prop := drawTextsUptoRow.holds Tryz.pinned (OpenSpec.upto drawTextsSpec)

/-- 'stricklelaw03.DrawEither', WHERE WHAT IT READS IS OF BULK AT MOST 1048576: true; the input reads as it did. -/
def drawEitherUptoRow : OpenClaim := { program := "ytoajocgfmbakjaagreatdoor", sum := "e18e2ee470d35e04edb158a35caf243a0cc108189643923eea171c7b0668e588", func := "strickle/stricklelaw03.DrawEither", spec := "drawEither", unfollowed := true, recurses := true, named := ["math/bits.deBruijn32tab", "math/bits.deBruijn64tab"], apart := false, laid := [("math/bits.deBruijn32tab", laid_math_bits_deBruijn32tab), ("math/bits.deBruijn64tab", laid_math_bits_deBruijn64tab)], narrowed := true }
def DrawEitherUptoSaid : Prop := drawEitherUptoRow.holds Tryz.pinned (OpenSpec.upto drawEitherSpec)

/-- 'stricklelaw03.DrawBegun', WHERE WHAT IT READS IS OF BULK AT MOST 1048576: true; the input reads as it did. -/
def drawBegunUptoRow : OpenClaim := { program := "ytoajocgfmbakjaagreatdoor", sum := "e18e2ee470d35e04edb158a35caf243a0cc108189643923eea171c7b0668e588", func := "strickle/stricklelaw03.DrawBegun", spec := "drawBegun", unfollowed := true, recurses := true, named := ["math/bits.deBruijn32tab", "math/bits.deBruijn64tab"], apart := false, laid := [("math/bits.deBruijn32tab", laid_math_bits_deBruijn32tab), ("math/bits.deBruijn64tab", laid_math_bits_deBruijn64tab)], narrowed := true }
def DrawBegunUptoSaid : Prop := drawBegunUptoRow.holds Tryz.pinned (OpenSpec.upto drawBegunSpec)

/-- 'stricklelaw03.DrawUnions', WHERE WHAT IT READS IS OF BULK AT MOST 1048576: true; the input reads as it did. -/
def drawUnionsUptoRow : OpenClaim := { program := "ytoajocgfmbakjaagreatdoor", sum := "e18e2ee470d35e04edb158a35caf243a0cc108189643923eea171c7b0668e588", func := "strickle/stricklelaw03.DrawUnions", spec := "drawUnions", unfollowed := true, recurses := true, named := ["math/bits.deBruijn32tab", "math/bits.deBruijn64tab"], apart := false, laid := [("math/bits.deBruijn32tab", laid_math_bits_deBruijn32tab), ("math/bits.deBruijn64tab", laid_math_bits_deBruijn64tab)], narrowed := true }
def DrawUnionsUptoSaid : Prop := drawUnionsUptoRow.holds Tryz.pinned (OpenSpec.upto drawUnionsSpec)

/-- 'stricklelaw03.DrawBefore', WHERE WHAT IT READS IS OF BULK AT MOST 1048576: true; the input reads as it did. -/
def drawBeforeUptoRow : OpenClaim := { program := "ytoajocgfmbakjaagreatdoor", sum := "e18e2ee470d35e04edb158a35caf243a0cc108189643923eea171c7b0668e588", func := "strickle/stricklelaw03.DrawBefore", spec := "drawBefore", unfollowed := true, recurses := true, named := ["math/bits.deBruijn32tab", "math/bits.deBruijn64tab"], apart := false, laid := [("math/bits.deBruijn32tab", laid_math_bits_deBruijn32tab), ("math/bits.deBruijn64tab", laid_math_bits_deBruijn64tab)], narrowed := true }
def DrawBeforeUptoSaid : Prop := drawBeforeUptoRow.holds Tryz.pinned (OpenSpec.upto drawBeforeSpec)

/-- 'stricklelaw03.DrawRounds', WHERE WHAT IT READS IS OF BULK AT MOST 1048576: true; the input reads as it did. -/
def drawRoundsUptoRow : OpenClaim := { program := "ytoajocgfmbakjaagreatdoor", sum := "e18e2ee470d35e04edb158a35caf243a0cc108189643923eea171c7b0668e588", func := "strickle/stricklelaw03.DrawRounds", spec := "drawRounds", unfollowed := true, recurses := true, named := ["math/bits.deBruijn32tab", "math/bits.deBruijn64tab"], apart := false, laid := [("math/bits.deBruijn32tab", laid_math_bits_deBruijn32tab), ("math/bits.deBruijn64tab", laid_math_bits_deBruijn64tab)], narrowed := true }
def DrawRoundsUptoSaid : Prop := drawRoundsUptoRow.holds Tryz.pinned (OpenSpec.upto drawRoundsSpec)

/-- 'stricklelaw03.DrawSand', WHERE WHAT IT READS IS OF BULK AT MOST 1048576: true; the input reads as it did. -/
def drawSandUptoRow : OpenClaim := { program := "ytoajocgfmbakjaagreatdoor", sum := "e18e2ee470d35e04edb158a35caf243a0cc108189643923eea171c7b0668e588", func := "strickle/stricklelaw03.DrawSand", spec := "drawSand", unfollowed := true, recurses := true, named := ["math/bits.deBruijn32tab", "math/bits.deBruijn64tab"], apart := false, laid := [("math/bits.deBruijn32tab", laid_math_bits_deBruijn32tab), ("math/bits.deBruijn64tab", laid_math_bits_deBruijn64tab)], narrowed := true }
def DrawSandUptoSaid : Prop := drawSandUptoRow.holds Tryz.pinned (OpenSpec.upto drawSandSpec)

/-- 'stricklelaw03.DrawTurned', WHERE WHAT IT READS IS OF BULK AT MOST 1048576: true; the input reads as it did. -/
def drawTurnedUptoRow : OpenClaim := { program := "ytoajocgfmbakjaagreatdoor", sum := "e18e2ee470d35e04edb158a35caf243a0cc108189643923eea171c7b0668e588", func := "strickle/stricklelaw03.DrawTurned", spec := "drawTurned", unfollowed := true, recurses := true, named := ["math/bits.deBruijn32tab", "math/bits.deBruijn64tab"], apart := false, laid := [("math/bits.deBruijn32tab", laid_math_bits_deBruijn32tab), ("math/bits.deBruijn64tab", laid_math_bits_deBruijn64tab)], narrowed := true }
def DrawTurnedUptoSaid : Prop := drawTurnedUptoRow.holds Tryz.pinned (OpenSpec.upto drawTurnedSpec)

/-- 'stricklelaw03.DrawStraight', WHERE WHAT IT READS IS OF BULK AT MOST 1048576: true; the input reads as it did. -/
def drawStraightUptoRow : OpenClaim := { program := "ytoajocgfmbakjaagreatdoor", sum := "e18e2ee470d35e04edb158a35caf243a0cc108189643923eea171c7b0668e588", func := "strickle/stricklelaw03.DrawStraight", spec := "drawStraight", unfollowed := true, recurses := true, named := ["math/bits.deBruijn32tab", "math/bits.deBruijn64tab"], apart := false, laid := [("math/bits.deBruijn32tab", laid_math_bits_deBruijn32tab), ("math/bits.deBruijn64tab", laid_math_bits_deBruijn64tab)], narrowed := true }
def DrawStraightUptoSaid : Prop := drawStraightUptoRow.holds Tryz.pinned (OpenSpec.upto drawStraightSpec)

end Rows
end Go.Proofs.YtoajocgfmbakjaaGreatDoor
