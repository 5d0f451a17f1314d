/-
  DERIVED. GIVEN WITH THE SEED: THE CARDS: each row of YtgonaamjjhhiiaaDoorRows.lean that lists a variable, with what it lists TIED to the program's text (the seventh form; the later family's looks); each row that meets fmt, with fmt's text TOLD by the authors' own Lean function (tested against real Go, not proved from fmt's source: count such statements apart). THE CARD IS WHAT COUNTS. Prove the row's statement (the work); the ties are given (YtgonaamjjhhiiaaDoorTie.lean); close each card by the builder's one call (the guide's Derived/Test/ToyasCard.lean, 'card_holds'). Laid BY PROGRAM, IN A SANDBOX (cutbox-door.mjs). By AI agents, Wed Nov 11 2026. No macro, syntax, notation, axiom, sorry.
-/
import Derived.Test.YtgonaamjjhhiiaaDoorRows
import GoSem.ClaimSeven
namespace Go.Proofs.YtgonaamjjhhiiaaDoor
namespace Rows

/-- THE TIED CARD OF 'stricklelaw01.RuleTerms'. -/
def ruleTermsCard : Claim7 := { stood := { row := ruleTermsRow, standIns := [], harness := (true, "7ccdcca288f6d5ee7a776433dd84f929bf98a4546bd006b8b86216c004950a71"), looks := false }, kinds := [], alts := [], laidByText := true, laidKinds := [.data, .data, .data], laidTests := true, laidLooks := .later }
def RuleTermsCardSaid : Prop := Claim7.holds Tryd.pinned (.plain (OpenSpec.ofChange ruleTermsSpec)) ruleTermsCard

/-- THE TIED CARD OF 'stricklelaw01.RuleSteps'. -/
def ruleStepsCard : Claim7 := { stood := { row := ruleStepsRow, standIns := [], harness := (true, "7ccdcca288f6d5ee7a776433dd84f929bf98a4546bd006b8b86216c004950a71"), looks := false }, kinds := [], alts := [], laidByText := true, laidKinds := [.data, .data, .data], laidTests := true, laidLooks := .later }
def RuleStepsCardSaid : Prop := Claim7.holds Tryd.pinned (.plain (OpenSpec.ofChange ruleStepsSpec)) ruleStepsCard

/-- THE TIED CARD OF 'stricklelaw01.RuleChained'. -/
def ruleChainedCard : Claim7 := { stood := { row := ruleChainedRow, standIns := [], harness := (true, "7ccdcca288f6d5ee7a776433dd84f929bf98a4546bd006b8b86216c004950a71"), looks := false }, kinds := [], alts := [], laidByText := true, laidKinds := [.data, .data, .data], laidTests := true, laidLooks := .later }
def RuleChainedCardSaid : Prop := Claim7.holds Tryd.pinned (.plain (OpenSpec.ofChange ruleChainedSpec)) ruleChainedCard

/-- THE SECOND FORM's CARD OF 'stricklelaw01.RuleTerms'. -/
def ruleTermsUptoCard : Claim7 := { stood := { row := ruleTermsUptoRow, standIns := [], harness := (true, "7ccdcca288f6d5ee7a776433dd84f929bf98a4546bd006b8b86216c004950a71"), looks := false }, kinds := [], alts := [], laidByText := true, laidKinds := [.data, .data, .data], laidTests := true, laidLooks := .later }
def RuleTermsUptoCardSaid : Prop := Claim7.holds Tryd.pinned (.plain (OpenSpec.upto ruleTermsSpec)) ruleTermsUptoCard

/-- THE SECOND FORM's CARD OF 'stricklelaw01.RuleSteps'. -/
def ruleStepsUptoCard : Claim7 := { stood := { row := ruleStepsUptoRow, standIns := [], harness := (true, "7ccdcca288f6d5ee7a776433dd84f929bf98a4546bd006b8b86216c004950a71"), looks := false }, kinds := [], alts := [], laidByText := true, laidKinds := [.data, .data, .data], laidTests := true, laidLooks := .later }
def RuleStepsUptoCardSaid : Prop := Claim7.holds Tryd.pinned (.plain (OpenSpec.upto ruleStepsSpec)) ruleStepsUptoCard

/-- THE SECOND FORM's CARD OF 'stricklelaw01.RuleChained'. -/
def ruleChainedUptoCard : Claim7 := { stood := { row := ruleChainedUptoRow, standIns := [], harness := (true, "7ccdcca288f6d5ee7a776433dd84f929bf98a4546bd006b8b86216c004950a71"), looks := false }, kinds := [], alts := [], laidByText := true, laidKinds := [.data, .data, .data], laidTests := true, laidLooks := .later }
def RuleChainedUptoCardSaid : Prop := Claim7.holds Tryd.pinned (.plain (OpenSpec.upto ruleChainedSpec)) ruleChainedUptoCard
end Rows
end Go.Proofs.YtgonaamjjhhiiaaDoor
