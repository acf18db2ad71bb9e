/-
  DERIVED. GIVEN WITH THE SEED: THE CARDS: each row of YtokkhdpkadgffaaGreatDoorRows.lean that lists a variable, with what it lists TIED to the program's text (the seventh form; the later family's looks); each row that meets fmt, with fmt's text TOLD by the authors' own Lean function (tested against real Go, not proved from fmt's source: count such statements apart). THE CARD IS WHAT COUNTS. Prove the row's statement (the work); the ties are given (YtokkhdpkadgffaaGreatDoorTie.lean); close each card by the builder's one call (the guide's Derived/Test/ToyasCard.lean, 'card_holds'). Laid BY PROGRAM, IN A SANDBOX (cutbox-door.mjs). By AI agents, Wed Nov 11 2026. No macro, syntax, notation, axiom, sorry.
-/
import Derived.Test.YtokkhdpkadgffaaGreatDoorRows
import GoSem.ClaimSeven
namespace Go.Proofs.YtokkhdpkadgffaaGreatDoor
namespace Rows

/-- THE TIED CARD OF 'hawserlaw14.ObjectNumbers'. -/
def objectNumbersCard : Claim7 := { stood := { row := objectNumbersRow, standIns := [], harness := (true, "b0cbca2835c6b604e9bfbbf3c518b1b2469ff7db56e2f10dca8ede91b2882873"), looks := false }, kinds := [], alts := [], laidByText := true, laidKinds := [.data, .data, .data], laidTests := true, laidLooks := .later }
def ObjectNumbersCardSaid : Prop := Claim7.holds Tryz.pinned (.plain (OpenSpec.ofChange objectNumbersSpec)) objectNumbersCard

/-- THE TIED CARD OF 'hawserlaw14.ObjectChecks'. -/
def objectChecksCard : Claim7 := { stood := { row := objectChecksRow, standIns := [], harness := (true, "b0cbca2835c6b604e9bfbbf3c518b1b2469ff7db56e2f10dca8ede91b2882873"), looks := false }, kinds := [], alts := [], laidByText := true, laidKinds := [.data, .data, .data], laidTests := true, laidLooks := .later }
def ObjectChecksCardSaid : Prop := Claim7.holds Tryz.pinned (.plain (OpenSpec.ofChange objectChecksSpec)) objectChecksCard

/-- THE TIED CARD OF 'hawserlaw14.ObjectReads'. -/
def objectReadsCard : Claim7 := { stood := { row := objectReadsRow, standIns := [], harness := (true, "b0cbca2835c6b604e9bfbbf3c518b1b2469ff7db56e2f10dca8ede91b2882873"), looks := false }, kinds := [], alts := [], laidByText := true, laidKinds := [.data, .data, .data], laidTests := true, laidLooks := .later }
def ObjectReadsCardSaid : Prop := Claim7.holds Tryz.pinned (.plain (OpenSpec.ofChange objectReadsSpec)) objectReadsCard

/-- THE TIED CARD OF 'hawserlaw14.ObjectBack'. -/
def objectBackCard : Claim7 := { stood := { row := objectBackRow, standIns := [], harness := (true, "b0cbca2835c6b604e9bfbbf3c518b1b2469ff7db56e2f10dca8ede91b2882873"), looks := false }, kinds := [], alts := [], laidByText := true, laidKinds := [.data, .data, .data], laidTests := true, laidLooks := .later }
def ObjectBackCardSaid : Prop := Claim7.holds Tryz.pinned (.plain (OpenSpec.ofChange objectBackSpec)) objectBackCard

/-- THE TIED CARD OF 'hawserlaw14.ObjectParts'. -/
def objectPartsCard : Claim7 := { stood := { row := objectPartsRow, standIns := [], harness := (true, "b0cbca2835c6b604e9bfbbf3c518b1b2469ff7db56e2f10dca8ede91b2882873"), looks := false }, kinds := [], alts := [], laidByText := true, laidKinds := [.data, .data, .data], laidTests := true, laidLooks := .later }
def ObjectPartsCardSaid : Prop := Claim7.holds Tryz.pinned (.plain (OpenSpec.ofChange objectPartsSpec)) objectPartsCard

/-- THE TIED CARD OF 'hawserlaw14.ObjectSign'. -/
def objectSignCard : Claim7 := { stood := { row := objectSignRow, standIns := [], harness := (true, "b0cbca2835c6b604e9bfbbf3c518b1b2469ff7db56e2f10dca8ede91b2882873"), looks := false }, kinds := [], alts := [], laidByText := true, laidKinds := [.data, .data, .data], laidTests := true, laidLooks := .later }
def ObjectSignCardSaid : Prop := Claim7.holds Tryz.pinned (.plain (OpenSpec.ofChange objectSignSpec)) objectSignCard

/-- THE SECOND FORM's CARD OF 'hawserlaw14.ObjectNumbers'. -/
def objectNumbersUptoCard : Claim7 := { stood := { row := objectNumbersUptoRow, standIns := [], harness := (true, "b0cbca2835c6b604e9bfbbf3c518b1b2469ff7db56e2f10dca8ede91b2882873"), looks := false }, kinds := [], alts := [], laidByText := true, laidKinds := [.data, .data, .data], laidTests := true, laidLooks := .later }
def ObjectNumbersUptoCardSaid : Prop := Claim7.holds Tryz.pinned (.plain (OpenSpec.upto objectNumbersSpec)) objectNumbersUptoCard

/-- THE SECOND FORM's CARD OF 'hawserlaw14.ObjectChecks'. -/
def objectChecksUptoCard : Claim7 := { stood := { row := objectChecksUptoRow, standIns := [], harness := (true, "b0cbca2835c6b604e9bfbbf3c518b1b2469ff7db56e2f10dca8ede91b2882873"), looks := false }, kinds := [], alts := [], laidByText := true, laidKinds := [.data, .data, .data], laidTests := true, laidLooks := .later }
def ObjectChecksUptoCardSaid : Prop := Claim7.holds Tryz.pinned (.plain (OpenSpec.upto objectChecksSpec)) objectChecksUptoCard

/-- THE SECOND FORM's CARD OF 'hawserlaw14.ObjectReads'. -/
def objectReadsUptoCard : Claim7 := { stood := { row := objectReadsUptoRow, standIns := [], harness := (true, "b0cbca2835c6b604e9bfbbf3c518b1b2469ff7db56e2f10dca8ede91b2882873"), looks := false }, kinds := [], alts := [], laidByText := true, laidKinds := [.data, .data, .data], laidTests := true, laidLooks := .later }
def ObjectReadsUptoCardSaid : Prop := Claim7.holds Tryz.pinned (.plain (OpenSpec.upto objectReadsSpec)) objectReadsUptoCard

/-- THE SECOND FORM's CARD OF 'hawserlaw14.ObjectBack'. -/
def objectBackUptoCard : Claim7 := { stood := { row := objectBackUptoRow, standIns := [], harness := (true, "b0cbca2835c6b604e9bfbbf3c518b1b2469ff7db56e2f10dca8ede91b2882873"), looks := false }, kinds := [], alts := [], laidByText := true, laidKinds := [.data, .data, .data], laidTests := true, laidLooks := .later }
def ObjectBackUptoCardSaid : Prop := Claim7.holds Tryz.pinned (.plain (OpenSpec.upto objectBackSpec)) objectBackUptoCard

/-- THE SECOND FORM's CARD OF 'hawserlaw14.ObjectParts'. -/
def objectPartsUptoCard : Claim7 := { stood := { row := objectPartsUptoRow, standIns := [], harness := (true, "b0cbca2835c6b604e9bfbbf3c518b1b2469ff7db56e2f10dca8ede91b2882873"), looks := false }, kinds := [], alts := [], laidByText := true, laidKinds := [.data, .data, .data], laidTests := true, laidLooks := .later }
def ObjectPartsUptoCardSaid : Prop := Claim7.holds Tryz.pinned (.plain (OpenSpec.upto objectPartsSpec)) objectPartsUptoCard

/-- THE SECOND FORM's CARD OF 'hawserlaw14.ObjectSign'. -/
def objectSignUptoCard : Claim7 := { stood := { row := objectSignUptoRow, standIns := [], harness := (true, "b0cbca2835c6b604e9bfbbf3c518b1b2469ff7db56e2f10dca8ede91b2882873"), looks := false }, kinds := [], alts := [], laidByText := true, laidKinds := [.data, .data, .data], laidTests := true, laidLooks := .later }
def ObjectSignUptoCardSaid : Prop := Claim7.holds Tryz.pinned (.plain (OpenSpec.upto objectSignSpec)) objectSignUptoCard
end Rows
end Go.Proofs.YtokkhdpkadgffaaGreatDoor
