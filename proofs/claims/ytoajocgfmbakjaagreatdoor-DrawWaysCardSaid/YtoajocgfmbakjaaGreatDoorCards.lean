/-
  DERIVED. GIVEN WITH THE SEED: THE CARDS: each row of YtoajocgfmbakjaaGreatDoorRows.lean that lists a variable, with what it lists TIED to the program's text (the seventh form; the later family's looks); each row that meets fmt, with fmt's text TOLD by the authors' own Lean function (tested against real Go, not proved from fmt's source: count such statements apart). THE CARD IS WHAT COUNTS. Prove the row's statement (the work); the ties are given (YtoajocgfmbakjaaGreatDoorTie.lean); close each card by the builder's one call (the guide's Derived/Test/ToyasCard.lean, 'card_holds'). Laid BY PROGRAM, IN A SANDBOX (cutbox-door.mjs). By AI agents, Wed Nov 11 2026. No macro, syntax, notation, axiom, sorry.
-/
import Derived.Test.YtoajocgfmbakjaaGreatDoorRows
import GoSem.ClaimSeven
namespace Go.Proofs.YtoajocgfmbakjaaGreatDoor
namespace Rows

/-- THE TIED CARD OF 'stricklelaw03.DrawMoulds'. -/
def drawMouldsCard : Claim7 := { stood := { row := drawMouldsRow, standIns := [], harness := (true, "277d8ae4c90055779634b02823445a35f5638d737184a51cf73e03c683d96690"), looks := true }, kinds := [], alts := [], laidByText := true, laidKinds := [.data, .data], laidTests := true, laidLooks := .later }
def DrawMouldsCardSaid : Prop := Claim7.holds Tryz.pinned (.plain (OpenSpec.ofChange drawMouldsSpec)) drawMouldsCard

/-- THE TIED CARD OF 'stricklelaw03.DrawWays'. -/
def drawWaysCard : Claim7 := { stood := { row := drawWaysRow, standIns := [], harness := (true, "277d8ae4c90055779634b02823445a35f5638d737184a51cf73e03c683d96690"), looks := true }, kinds := [], alts := [], laidByText := true, laidKinds := [.data, .data], laidTests := true, laidLooks := .later }
def DrawWaysCardSaid : Prop := Claim7.holds Tryz.pinned (.plain (OpenSpec.ofChange drawWaysSpec)) drawWaysCard

/-- THE TIED CARD OF 'stricklelaw03.DrawGoes'. -/
def drawGoesCard : Claim7 := { stood := { row := drawGoesRow, standIns := [], harness := (true, "277d8ae4c90055779634b02823445a35f5638d737184a51cf73e03c683d96690"), looks := true }, kinds := [], alts := [], laidByText := true, laidKinds := [.data, .data], laidTests := true, laidLooks := .later }
def DrawGoesCardSaid : Prop := Claim7.holds Tryz.pinned (.plain (OpenSpec.ofChange drawGoesSpec)) drawGoesCard

/-- THE TIED CARD OF 'stricklelaw03.DrawOrders'. -/
def drawOrdersCard : Claim7 := { stood := { row := drawOrdersRow, standIns := [], harness := (true, "277d8ae4c90055779634b02823445a35f5638d737184a51cf73e03c683d96690"), looks := true }, kinds := [], alts := [], laidByText := true, laidKinds := [.data, .data], laidTests := true, laidLooks := .later }
def DrawOrdersCardSaid : Prop := Claim7.holds Tryz.pinned (.plain (OpenSpec.ofChange drawOrdersSpec)) drawOrdersCard

/-- THE TIED CARD OF 'stricklelaw03.DrawLocks'. -/
def drawLocksCard : Claim7 := { stood := { row := drawLocksRow, standIns := [], harness := (true, "277d8ae4c90055779634b02823445a35f5638d737184a51cf73e03c683d96690"), looks := true }, kinds := [], alts := [], laidByText := true, laidKinds := [.data, .data], laidTests := true, laidLooks := .later }
def DrawLocksCardSaid : Prop := Claim7.holds Tryz.pinned (.plain (OpenSpec.ofChange drawLocksSpec)) drawLocksCard

/-- THE TIED CARD OF 'stricklelaw03.DrawPaths'. -/
def drawPathsCard : Claim7 := { stood := { row := drawPathsRow, standIns := [], harness := (true, "277d8ae4c90055779634b02823445a35f5638d737184a51cf73e03c683d96690"), looks := true }, kinds := [], alts := [], laidByText := true, laidKinds := [.data, .data], laidTests := true, laidLooks := .later }
def DrawPathsCardSaid : Prop := Claim7.holds Tryz.pinned (.plain (OpenSpec.ofChange drawPathsSpec)) drawPathsCard

/-- THE TIED CARD OF 'stricklelaw03.DrawTexts'. -/
def drawTextsCard : Claim7 := { stood := { row := drawTextsRow, standIns := [], harness := (true, "277d8ae4c90055779634b02823445a35f5638d737184a51cf73e03c683d96690"), looks := true }, kinds := [], alts := [], laidByText := true, laidKinds := [.data, .data, .data, .sentinel, .sentinel, .data], laidTests := true, laidLooks := .later }
def DrawTextsCardSaid : Prop := Claim7.holds Tryz.pinned (.plain (OpenSpec.ofChange drawTextsSpec)) drawTextsCard

/-- THE TIED CARD OF 'stricklelaw03.DrawEither'. -/
def drawEitherCard : Claim7 := { stood := { row := drawEitherRow, standIns := [], harness := (true, "277d8ae4c90055779634b02823445a35f5638d737184a51cf73e03c683d96690"), looks := true }, kinds := [], alts := [], laidByText := true, laidKinds := [.data, .data], laidTests := true, laidLooks := .later }
def DrawEitherCardSaid : Prop := Claim7.holds Tryz.pinned (.plain (OpenSpec.ofChange drawEitherSpec)) drawEitherCard

/-- THE TIED CARD OF 'stricklelaw03.DrawBegun'. -/
def drawBegunCard : Claim7 := { stood := { row := drawBegunRow, standIns := [], harness := (true, "277d8ae4c90055779634b02823445a35f5638d737184a51cf73e03c683d96690"), looks := true }, kinds := [], alts := [], laidByText := true, laidKinds := [.data, .data], laidTests := true, laidLooks := .later }
def DrawBegunCardSaid : Prop := Claim7.holds Tryz.pinned (.plain (OpenSpec.ofChange drawBegunSpec)) drawBegunCard

/-- THE TIED CARD OF 'stricklelaw03.DrawUnions'. -/
def drawUnionsCard : Claim7 := { stood := { row := drawUnionsRow, standIns := [], harness := (true, "277d8ae4c90055779634b02823445a35f5638d737184a51cf73e03c683d96690"), looks := true }, kinds := [], alts := [], laidByText := true, laidKinds := [.data, .data], laidTests := true, laidLooks := .later }
def DrawUnionsCardSaid : Prop := Claim7.holds Tryz.pinned (.plain (OpenSpec.ofChange drawUnionsSpec)) drawUnionsCard

/-- THE TIED CARD OF 'stricklelaw03.DrawBefore'. -/
def drawBeforeCard : Claim7 := { stood := { row := drawBeforeRow, standIns := [], harness := (true, "277d8ae4c90055779634b02823445a35f5638d737184a51cf73e03c683d96690"), looks := true }, kinds := [], alts := [], laidByText := true, laidKinds := [.data, .data], laidTests := true, laidLooks := .later }
def DrawBeforeCardSaid : Prop := Claim7.holds Tryz.pinned (.plain (OpenSpec.ofChange drawBeforeSpec)) drawBeforeCard

/-- THE TIED CARD OF 'stricklelaw03.DrawRounds'. -/
def drawRoundsCard : Claim7 := { stood := { row := drawRoundsRow, standIns := [], harness := (true, "277d8ae4c90055779634b02823445a35f5638d737184a51cf73e03c683d96690"), looks := true }, kinds := [], alts := [], laidByText := true, laidKinds := [.data, .data], laidTests := true, laidLooks := .later }
def DrawRoundsCardSaid : Prop := Claim7.holds Tryz.pinned (.plain (OpenSpec.ofChange drawRoundsSpec)) drawRoundsCard

/-- THE TIED CARD OF 'stricklelaw03.DrawSand'. -/
def drawSandCard : Claim7 := { stood := { row := drawSandRow, standIns := [], harness := (true, "277d8ae4c90055779634b02823445a35f5638d737184a51cf73e03c683d96690"), looks := true }, kinds := [], alts := [], laidByText := true, laidKinds := [.data, .data], laidTests := true, laidLooks := .later }
def DrawSandCardSaid : Prop := Claim7.holds Tryz.pinned (.plain (OpenSpec.ofChange drawSandSpec)) drawSandCard

/-- THE TIED CARD OF 'stricklelaw03.DrawTurned'. -/
def drawTurnedCard : Claim7 := { stood := { row := drawTurnedRow, standIns := [], harness := (true, "277d8ae4c90055779634b02823445a35f5638d737184a51cf73e03c683d96690"), looks := true }, kinds := [], alts := [], laidByText := true, laidKinds := [.data, .data], laidTests := true, laidLooks := .later }
def DrawTurnedCardSaid : Prop := Claim7.holds Tryz.pinned (.plain (OpenSpec.ofChange drawTurnedSpec)) drawTurnedCard

/-- THE TIED CARD OF 'stricklelaw03.DrawStraight'. -/
def drawStraightCard : Claim7 := { stood := { row := drawStraightRow, standIns := [], harness := (true, "277d8ae4c90055779634b02823445a35f5638d737184a51cf73e03c683d96690"), looks := true }, kinds := [], alts := [], laidByText := true, laidKinds := [.data, .data], laidTests := true, laidLooks := .later }
def DrawStraightCardSaid : Prop := Claim7.holds Tryz.pinned (.plain (OpenSpec.ofChange drawStraightSpec)) drawStraightCard

/-- THE SECOND FORM's CARD OF 'stricklelaw03.DrawMoulds'. -/
def drawMouldsUptoCard : Claim7 := { stood := { row := drawMouldsUptoRow, standIns := [], harness := (true, "277d8ae4c90055779634b02823445a35f5638d737184a51cf73e03c683d96690"), looks := true }, kinds := [], alts := [], laidByText := true, laidKinds := [.data, .data], laidTests := true, laidLooks := .later }
def DrawMouldsUptoCardSaid : Prop := Claim7.holds Tryz.pinned (.plain (OpenSpec.upto drawMouldsSpec)) drawMouldsUptoCard

/-- THE SECOND FORM's CARD OF 'stricklelaw03.DrawWays'. -/
def drawWaysUptoCard : Claim7 := { stood := { row := drawWaysUptoRow, standIns := [], harness := (true, "277d8ae4c90055779634b02823445a35f5638d737184a51cf73e03c683d96690"), looks := true }, kinds := [], alts := [], laidByText := true, laidKinds := [.data, .data], laidTests := true, laidLooks := .later }
def DrawWaysUptoCardSaid : Prop := Claim7.holds Tryz.pinned (.plain (OpenSpec.upto drawWaysSpec)) drawWaysUptoCard

/-- THE SECOND FORM's CARD OF 'stricklelaw03.DrawGoes'. -/
def drawGoesUptoCard : Claim7 := { stood := { row := drawGoesUptoRow, standIns := [], harness := (true, "277d8ae4c90055779634b02823445a35f5638d737184a51cf73e03c683d96690"), looks := true }, kinds := [], alts := [], laidByText := true, laidKinds := [.data, .data], laidTests := true, laidLooks := .later }
def DrawGoesUptoCardSaid : Prop := Claim7.holds Tryz.pinned (.plain (OpenSpec.upto drawGoesSpec)) drawGoesUptoCard

/-- THE SECOND FORM's CARD OF 'stricklelaw03.DrawOrders'. -/
def drawOrdersUptoCard : Claim7 := { stood := { row := drawOrdersUptoRow, standIns := [], harness := (true, "277d8ae4c90055779634b02823445a35f5638d737184a51cf73e03c683d96690"), looks := true }, kinds := [], alts := [], laidByText := true, laidKinds := [.data, .data], laidTests := true, laidLooks := .later }
def DrawOrdersUptoCardSaid : Prop := Claim7.holds Tryz.pinned (.plain (OpenSpec.upto drawOrdersSpec)) drawOrdersUptoCard

/-- THE SECOND FORM's CARD OF 'stricklelaw03.DrawLocks'. -/
def drawLocksUptoCard : Claim7 := { stood := { row := drawLocksUptoRow, standIns := [], harness := (true, "277d8ae4c90055779634b02823445a35f5638d737184a51cf73e03c683d96690"), looks := true }, kinds := [], alts := [], laidByText := true, laidKinds := [.data, .data], laidTests := true, laidLooks := .later }
def DrawLocksUptoCardSaid : Prop := Claim7.holds Tryz.pinned (.plain (OpenSpec.upto drawLocksSpec)) drawLocksUptoCard

/-- THE SECOND FORM's CARD OF 'stricklelaw03.DrawPaths'. -/
def drawPathsUptoCard : Claim7 := { stood := { row := drawPathsUptoRow, standIns := [], harness := (true, "277d8ae4c90055779634b02823445a35f5638d737184a51cf73e03c683d96690"), looks := true }, kinds := [], alts := [], laidByText := true, laidKinds := [.data, .data], laidTests := true, laidLooks := .later }
def DrawPathsUptoCardSaid : Prop := Claim7.holds Tryz.pinned (.plain (OpenSpec.upto drawPathsSpec)) drawPathsUptoCard

/-- THE SECOND FORM's CARD OF 'stricklelaw03.DrawTexts'. -/
def drawTextsUptoCard : Claim7 := { stood := { row := drawTextsUptoRow, standIns := [], harness := (true, "277d8ae4c90055779634b02823445a35f5638d737184a51cf73e03c683d96690"), looks := true }, kinds := [], alts := [], laidByText := true, laidKinds := [.data, .data, .data, .sentinel, .sentinel, .data], laidTests := true, laidLooks := .later }
def DrawTextsUptoCardSaid : Prop := Claim7.holds Tryz.pinned (.plain (OpenSpec.upto drawTextsSpec)) drawTextsUptoCard

/-- THE SECOND FORM's CARD OF 'stricklelaw03.DrawEither'. -/
def drawEitherUptoCard : Claim7 := { stood := { row := drawEitherUptoRow, standIns := [], harness := (true, "277d8ae4c90055779634b02823445a35f5638d737184a51cf73e03c683d96690"), looks := true }, kinds := [], alts := [], laidByText := true, laidKinds := [.data, .data], laidTests := true, laidLooks := .later }
def DrawEitherUptoCardSaid : Prop := Claim7.holds Tryz.pinned (.plain (OpenSpec.upto drawEitherSpec)) drawEitherUptoCard

/-- THE SECOND FORM's CARD OF 'stricklelaw03.DrawBegun'. -/
def drawBegunUptoCard : Claim7 := { stood := { row := drawBegunUptoRow, standIns := [], harness := (true, "277d8ae4c90055779634b02823445a35f5638d737184a51cf73e03c683d96690"), looks := true }, kinds := [], alts := [], laidByText := true, laidKinds := [.data, .data], laidTests := true, laidLooks := .later }
def DrawBegunUptoCardSaid : Prop := Claim7.holds Tryz.pinned (.plain (OpenSpec.upto drawBegunSpec)) drawBegunUptoCard

/-- THE SECOND FORM's CARD OF 'stricklelaw03.DrawUnions'. -/
def drawUnionsUptoCard : Claim7 := { stood := { row := drawUnionsUptoRow, standIns := [], harness := (true, "277d8ae4c90055779634b02823445a35f5638d737184a51cf73e03c683d96690"), looks := true }, kinds := [], alts := [], laidByText := true, laidKinds := [.data, .data], laidTests := true, laidLooks := .later }
def DrawUnionsUptoCardSaid : Prop := Claim7.holds Tryz.pinned (.plain (OpenSpec.upto drawUnionsSpec)) drawUnionsUptoCard

/-- THE SECOND FORM's CARD OF 'stricklelaw03.DrawBefore'. -/
def drawBeforeUptoCard : Claim7 := { stood := { row := drawBeforeUptoRow, standIns := [], harness := (true, "277d8ae4c90055779634b02823445a35f5638d737184a51cf73e03c683d96690"), looks := true }, kinds := [], alts := [], laidByText := true, laidKinds := [.data, .data], laidTests := true, laidLooks := .later }
def DrawBeforeUptoCardSaid : Prop := Claim7.holds Tryz.pinned (.plain (OpenSpec.upto drawBeforeSpec)) drawBeforeUptoCard

/-- THE SECOND FORM's CARD OF 'stricklelaw03.DrawRounds'. -/
def drawRoundsUptoCard : Claim7 := { stood := { row := drawRoundsUptoRow, standIns := [], harness := (true, "277d8ae4c90055779634b02823445a35f5638d737184a51cf73e03c683d96690"), looks := true }, kinds := [], alts := [], laidByText := true, laidKinds := [.data, .data], laidTests := true, laidLooks := .later }
def DrawRoundsUptoCardSaid : Prop := Claim7.holds Tryz.pinned (.plain (OpenSpec.upto drawRoundsSpec)) drawRoundsUptoCard

/-- THE SECOND FORM's CARD OF 'stricklelaw03.DrawSand'. -/
def drawSandUptoCard : Claim7 := { stood := { row := drawSandUptoRow, standIns := [], harness := (true, "277d8ae4c90055779634b02823445a35f5638d737184a51cf73e03c683d96690"), looks := true }, kinds := [], alts := [], laidByText := true, laidKinds := [.data, .data], laidTests := true, laidLooks := .later }
def DrawSandUptoCardSaid : Prop := Claim7.holds Tryz.pinned (.plain (OpenSpec.upto drawSandSpec)) drawSandUptoCard

/-- THE SECOND FORM's CARD OF 'stricklelaw03.DrawTurned'. -/
def drawTurnedUptoCard : Claim7 := { stood := { row := drawTurnedUptoRow, standIns := [], harness := (true, "277d8ae4c90055779634b02823445a35f5638d737184a51cf73e03c683d96690"), looks := true }, kinds := [], alts := [], laidByText := true, laidKinds := [.data, .data], laidTests := true, laidLooks := .later }
def DrawTurnedUptoCardSaid : Prop := Claim7.holds Tryz.pinned (.plain (OpenSpec.upto drawTurnedSpec)) drawTurnedUptoCard

/-- THE SECOND FORM's CARD OF 'stricklelaw03.DrawStraight'. -/
def drawStraightUptoCard : Claim7 := { stood := { row := drawStraightUptoRow, standIns := [], harness := (true, "277d8ae4c90055779634b02823445a35f5638d737184a51cf73e03c683d96690"), looks := true }, kinds := [], alts := [], laidByText := true, laidKinds := [.data, .data], laidTests := true, laidLooks := .later }
def DrawStraightUptoCardSaid : Prop := Claim7.holds Tryz.pinned (.plain (OpenSpec.upto drawStraightSpec)) drawStraightUptoCard
end Rows
end Go.Proofs.YtoajocgfmbakjaaGreatDoor
