/-
  DERIVED. GIVEN WITH THE SEED: THE CARDS: each row of YtdeckknfolaaeaaGreatDoorRows.lean that lists a variable, with what it lists TIED to the program's text (the seventh form; the later family's looks); each row that meets fmt, with fmt's text TOLD by the authors' own Lean function (tested against real Go, not proved from fmt's source: count such statements apart). THE CARD IS WHAT COUNTS. Prove the row's statement (the work); the ties are given (YtdeckknfolaaeaaGreatDoorTie.lean); close each card by the builder's one call (the guide's Derived/Test/ToyasCard.lean, 'card_holds'). Laid BY PROGRAM, IN A SANDBOX (cutbox-door.mjs). By AI agents, Wed Nov 11 2026. No macro, syntax, notation, axiom, sorry.
-/
import Derived.Test.YtdeckknfolaaeaaGreatDoorRows
import GoSem.ClaimSeven
namespace Go.Proofs.YtdeckknfolaaeaaGreatDoor
namespace Rows

/-- THE TIED CARD OF 'hawserlaw15.VerifyNumbers'. -/
def verifyNumbersCard : Claim7 := { stood := { row := verifyNumbersRow, standIns := [], harness := (true, "79c73b9d20ca157e8b98face65af9b8e31db35c54815f0a8be2043d0d1ba1660"), looks := true }, kinds := [], alts := [], laidByText := true, laidKinds := [.data, .data, .data, .sentinel, .sentinel], laidTests := true, laidLooks := .later }
def VerifyNumbersCardSaid : Prop := Claim7.holds Tryz.pinned (.plain (OpenSpec.ofChange verifyNumbersSpec)) verifyNumbersCard

/-- THE TIED CARD OF 'hawserlaw15.VerifyChecks'. -/
def verifyChecksCard : Claim7 := { stood := { row := verifyChecksRow, standIns := [], harness := (true, "79c73b9d20ca157e8b98face65af9b8e31db35c54815f0a8be2043d0d1ba1660"), looks := true }, kinds := [], alts := [], laidByText := true, laidKinds := [.data, .data, .data, .sentinel, .sentinel], laidTests := true, laidLooks := .later }
def VerifyChecksCardSaid : Prop := Claim7.holds Tryz.pinned (.plain (OpenSpec.ofChange verifyChecksSpec)) verifyChecksCard

/-- THE TIED CARD OF 'hawserlaw15.VerifyCode'. -/
def verifyCodeCard : Claim7 := { stood := { row := verifyCodeRow, standIns := [], harness := (true, "79c73b9d20ca157e8b98face65af9b8e31db35c54815f0a8be2043d0d1ba1660"), looks := true }, kinds := [], alts := [], laidByText := true, laidKinds := [.data, .data, .data, .sentinel, .sentinel], laidTests := true, laidLooks := .later }
def VerifyCodeCardSaid : Prop := Claim7.holds Tryz.pinned (.plain (OpenSpec.ofChange verifyCodeSpec)) verifyCodeCard

/-- THE TIED CARD OF 'hawserlaw15.VerifySame'. -/
def verifySameCard : Claim7 := { stood := { row := verifySameRow, standIns := [], harness := (true, "79c73b9d20ca157e8b98face65af9b8e31db35c54815f0a8be2043d0d1ba1660"), looks := true }, kinds := [], alts := [], laidByText := true, laidKinds := [.data, .data, .data, .sentinel, .sentinel], laidTests := true, laidLooks := .later }
def VerifySameCardSaid : Prop := Claim7.holds Tryz.pinned (.plain (OpenSpec.ofChange verifySameSpec)) verifySameCard

/-- THE TIED CARD OF 'hawserlaw15.VerifyDeep'. -/
def verifyDeepCard : Claim7 := { stood := { row := verifyDeepRow, standIns := [], harness := (true, "79c73b9d20ca157e8b98face65af9b8e31db35c54815f0a8be2043d0d1ba1660"), looks := true }, kinds := [], alts := [], laidByText := true, laidKinds := [.data, .data, .data, .sentinel, .sentinel], laidTests := true, laidLooks := .later }
def VerifyDeepCardSaid : Prop := Claim7.holds Tryz.pinned (.plain (OpenSpec.ofChange verifyDeepSpec)) verifyDeepCard

/-- THE TIED CARD OF 'hawserlaw15.VerifyJoins'. -/
def verifyJoinsCard : Claim7 := { stood := { row := verifyJoinsRow, standIns := [], harness := (true, "79c73b9d20ca157e8b98face65af9b8e31db35c54815f0a8be2043d0d1ba1660"), looks := true }, kinds := [], alts := [], laidByText := true, laidKinds := [.data, .data, .data, .sentinel, .sentinel], laidTests := true, laidLooks := .later }
def VerifyJoinsCardSaid : Prop := Claim7.holds Tryz.pinned (.plain (OpenSpec.ofChange verifyJoinsSpec)) verifyJoinsCard

/-- THE SECOND FORM's CARD OF 'hawserlaw15.VerifyNumbers'. -/
def verifyNumbersUptoCard : Claim7 := { stood := { row := verifyNumbersUptoRow, standIns := [], harness := (true, "79c73b9d20ca157e8b98face65af9b8e31db35c54815f0a8be2043d0d1ba1660"), looks := true }, kinds := [], alts := [], laidByText := true, laidKinds := [.data, .data, .data, .sentinel, .sentinel], laidTests := true, laidLooks := .later }
def VerifyNumbersUptoCardSaid : Prop := Claim7.holds Tryz.pinned (.plain (OpenSpec.upto verifyNumbersSpec)) verifyNumbersUptoCard

/-- THE SECOND FORM's CARD OF 'hawserlaw15.VerifyChecks'. -/
def verifyChecksUptoCard : Claim7 := { stood := { row := verifyChecksUptoRow, standIns := [], harness := (true, "79c73b9d20ca157e8b98face65af9b8e31db35c54815f0a8be2043d0d1ba1660"), looks := true }, kinds := [], alts := [], laidByText := true, laidKinds := [.data, .data, .data, .sentinel, .sentinel], laidTests := true, laidLooks := .later }
def VerifyChecksUptoCardSaid : Prop := Claim7.holds Tryz.pinned (.plain (OpenSpec.upto verifyChecksSpec)) verifyChecksUptoCard

/-- THE SECOND FORM's CARD OF 'hawserlaw15.VerifyCode'. -/
def verifyCodeUptoCard : Claim7 := { stood := { row := verifyCodeUptoRow, standIns := [], harness := (true, "79c73b9d20ca157e8b98face65af9b8e31db35c54815f0a8be2043d0d1ba1660"), looks := true }, kinds := [], alts := [], laidByText := true, laidKinds := [.data, .data, .data, .sentinel, .sentinel], laidTests := true, laidLooks := .later }
def VerifyCodeUptoCardSaid : Prop := Claim7.holds Tryz.pinned (.plain (OpenSpec.upto verifyCodeSpec)) verifyCodeUptoCard

/-- THE SECOND FORM's CARD OF 'hawserlaw15.VerifySame'. -/
def verifySameUptoCard : Claim7 := { stood := { row := verifySameUptoRow, standIns := [], harness := (true, "79c73b9d20ca157e8b98face65af9b8e31db35c54815f0a8be2043d0d1ba1660"), looks := true }, kinds := [], alts := [], laidByText := true, laidKinds := [.data, .data, .data, .sentinel, .sentinel], laidTests := true, laidLooks := .later }
def VerifySameUptoCardSaid : Prop := Claim7.holds Tryz.pinned (.plain (OpenSpec.upto verifySameSpec)) verifySameUptoCard

/-- THE SECOND FORM's CARD OF 'hawserlaw15.VerifyDeep'. -/
def verifyDeepUptoCard : Claim7 := { stood := { row := verifyDeepUptoRow, standIns := [], harness := (true, "79c73b9d20ca157e8b98face65af9b8e31db35c54815f0a8be2043d0d1ba1660"), looks := true }, kinds := [], alts := [], laidByText := true, laidKinds := [.data, .data, .data, .sentinel, .sentinel], laidTests := true, laidLooks := .later }
def VerifyDeepUptoCardSaid : Prop := Claim7.holds Tryz.pinned (.plain (OpenSpec.upto verifyDeepSpec)) verifyDeepUptoCard

/-- THE SECOND FORM's CARD OF 'hawserlaw15.VerifyJoins'. -/
def verifyJoinsUptoCard : Claim7 := { stood := { row := verifyJoinsUptoRow, standIns := [], harness := (true, "79c73b9d20ca157e8b98face65af9b8e31db35c54815f0a8be2043d0d1ba1660"), looks := true }, kinds := [], alts := [], laidByText := true, laidKinds := [.data, .data, .data, .sentinel, .sentinel], laidTests := true, laidLooks := .later }
def VerifyJoinsUptoCardSaid : Prop := Claim7.holds Tryz.pinned (.plain (OpenSpec.upto verifyJoinsSpec)) verifyJoinsUptoCard
end Rows
end Go.Proofs.YtdeckknfolaaeaaGreatDoor
