/-
  DERIVED. GIVEN WITH THE SEED: THE CARDS: each row of YtijghhecclaafaaDoorRows.lean that lists a variable, with what it lists TIED to the program's text (the seventh form; the later family's looks); each row that meets fmt, with fmt's text TOLD by the authors' own Lean function (tested against real Go, not proved from fmt's source: count such statements apart). THE CARD IS WHAT COUNTS. Prove the row's statement (the work); the ties are given (YtijghhecclaafaaDoorTie.lean); close each card by the builder's one call (the guide's Derived/Test/ToyasCard.lean, 'card_holds'). Laid BY PROGRAM, IN A SANDBOX (cutbox-door.mjs). By AI agents, Wed Nov 11 2026. No macro, syntax, notation, axiom, sorry.
-/
import Derived.Test.YtijghhecclaafaaDoorRows
import GoSem.ClaimSeven
namespace Go.Proofs.YtijghhecclaafaaDoor
namespace Rows

/-- THE TIED CARD OF 'entaillaw06.WideSums'. -/
def wideSumsCard : Claim7 := { stood := { row := wideSumsRow, standIns := [], harness := (true, "e46b737614731cdd799ddb86c51e7ee6a696eaa9157d33e30c40bfe11b252586"), looks := false }, kinds := [], alts := [], laidByText := true, laidKinds := [.data, .data, .data], laidTests := true, laidLooks := .later }
def WideSumsCardSaid : Prop := Claim7.holds Tryd.pinned (.plain (OpenSpec.ofChange wideSumsSpec)) wideSumsCard

/-- THE TIED CARD OF 'entaillaw06.WideMul'. -/
def wideMulCard : Claim7 := { stood := { row := wideMulRow, standIns := [], harness := (true, "e46b737614731cdd799ddb86c51e7ee6a696eaa9157d33e30c40bfe11b252586"), looks := false }, kinds := [], alts := [], laidByText := true, laidKinds := [.data, .data, .data], laidTests := true, laidLooks := .later }
def WideMulCardSaid : Prop := Claim7.holds Tryd.pinned (.plain (OpenSpec.ofChange wideMulSpec)) wideMulCard

/-- THE TIED CARD OF 'entaillaw06.WideDiv'. -/
def wideDivCard : Claim7 := { stood := { row := wideDivRow, standIns := [], harness := (true, "e46b737614731cdd799ddb86c51e7ee6a696eaa9157d33e30c40bfe11b252586"), looks := false }, kinds := [], alts := [], laidByText := true, laidKinds := [.data, .data, .data], laidTests := true, laidLooks := .later }
def WideDivCardSaid : Prop := Claim7.holds Tryd.pinned (.plain (OpenSpec.ofChange wideDivSpec)) wideDivCard

/-- THE TIED CARD OF 'entaillaw06.WideShifts'. -/
def wideShiftsCard : Claim7 := { stood := { row := wideShiftsRow, standIns := [], harness := (true, "e46b737614731cdd799ddb86c51e7ee6a696eaa9157d33e30c40bfe11b252586"), looks := false }, kinds := [], alts := [], laidByText := true, laidKinds := [.data, .data, .data], laidTests := true, laidLooks := .later }
def WideShiftsCardSaid : Prop := Claim7.holds Tryd.pinned (.plain (OpenSpec.ofChange wideShiftsSpec)) wideShiftsCard

/-- THE TIED CARD OF 'entaillaw06.WideTexts'. -/
def wideTextsCard : Claim7 := { stood := { row := wideTextsRow, standIns := [], harness := (true, "e46b737614731cdd799ddb86c51e7ee6a696eaa9157d33e30c40bfe11b252586"), looks := false }, kinds := [], alts := [], laidByText := true, laidKinds := [.data, .data, .data], laidTests := true, laidLooks := .later }
def WideTextsCardSaid : Prop := Claim7.holds Tryd.pinned (.plain (OpenSpec.ofChange wideTextsSpec)) wideTextsCard

/-- THE TIED CARD OF 'entaillaw06.WideUndone'. -/
def wideUndoneCard : Claim7 := { stood := { row := wideUndoneRow, standIns := [], harness := (true, "e46b737614731cdd799ddb86c51e7ee6a696eaa9157d33e30c40bfe11b252586"), looks := false }, kinds := [], alts := [], laidByText := true, laidKinds := [.data, .data, .data], laidTests := true, laidLooks := .later }
def WideUndoneCardSaid : Prop := Claim7.holds Tryd.pinned (.plain (OpenSpec.ofChange wideUndoneSpec)) wideUndoneCard

/-- THE TIED CARD OF 'entaillaw06.WideLaws'. -/
def wideLawsCard : Claim7 := { stood := { row := wideLawsRow, standIns := [], harness := (true, "e46b737614731cdd799ddb86c51e7ee6a696eaa9157d33e30c40bfe11b252586"), looks := false }, kinds := [], alts := [], laidByText := true, laidKinds := [.data, .data, .data], laidTests := true, laidLooks := .later }
def WideLawsCardSaid : Prop := Claim7.holds Tryd.pinned (.plain (OpenSpec.ofChange wideLawsSpec)) wideLawsCard

/-- THE TIED CARD OF 'entaillaw06.WideBack'. -/
def wideBackCard : Claim7 := { stood := { row := wideBackRow, standIns := [], harness := (true, "e46b737614731cdd799ddb86c51e7ee6a696eaa9157d33e30c40bfe11b252586"), looks := false }, kinds := [], alts := [], laidByText := true, laidKinds := [.data, .data, .data], laidTests := true, laidLooks := .later }
def WideBackCardSaid : Prop := Claim7.holds Tryd.pinned (.plain (OpenSpec.ofChange wideBackSpec)) wideBackCard

/-- THE SECOND FORM's CARD OF 'entaillaw06.WideSums'. -/
def wideSumsUptoCard : Claim7 := { stood := { row := wideSumsUptoRow, standIns := [], harness := (true, "e46b737614731cdd799ddb86c51e7ee6a696eaa9157d33e30c40bfe11b252586"), looks := false }, kinds := [], alts := [], laidByText := true, laidKinds := [.data, .data, .data], laidTests := true, laidLooks := .later }
def WideSumsUptoCardSaid : Prop := Claim7.holds Tryd.pinned (.plain (OpenSpec.upto wideSumsSpec)) wideSumsUptoCard

/-- THE SECOND FORM's CARD OF 'entaillaw06.WideMul'. -/
def wideMulUptoCard : Claim7 := { stood := { row := wideMulUptoRow, standIns := [], harness := (true, "e46b737614731cdd799ddb86c51e7ee6a696eaa9157d33e30c40bfe11b252586"), looks := false }, kinds := [], alts := [], laidByText := true, laidKinds := [.data, .data, .data], laidTests := true, laidLooks := .later }
def WideMulUptoCardSaid : Prop := Claim7.holds Tryd.pinned (.plain (OpenSpec.upto wideMulSpec)) wideMulUptoCard

/-- THE SECOND FORM's CARD OF 'entaillaw06.WideDiv'. -/
def wideDivUptoCard : Claim7 := { stood := { row := wideDivUptoRow, standIns := [], harness := (true, "e46b737614731cdd799ddb86c51e7ee6a696eaa9157d33e30c40bfe11b252586"), looks := false }, kinds := [], alts := [], laidByText := true, laidKinds := [.data, .data, .data], laidTests := true, laidLooks := .later }
def WideDivUptoCardSaid : Prop := Claim7.holds Tryd.pinned (.plain (OpenSpec.upto wideDivSpec)) wideDivUptoCard

/-- THE SECOND FORM's CARD OF 'entaillaw06.WideShifts'. -/
def wideShiftsUptoCard : Claim7 := { stood := { row := wideShiftsUptoRow, standIns := [], harness := (true, "e46b737614731cdd799ddb86c51e7ee6a696eaa9157d33e30c40bfe11b252586"), looks := false }, kinds := [], alts := [], laidByText := true, laidKinds := [.data, .data, .data], laidTests := true, laidLooks := .later }
def WideShiftsUptoCardSaid : Prop := Claim7.holds Tryd.pinned (.plain (OpenSpec.upto wideShiftsSpec)) wideShiftsUptoCard

/-- THE SECOND FORM's CARD OF 'entaillaw06.WideTexts'. -/
def wideTextsUptoCard : Claim7 := { stood := { row := wideTextsUptoRow, standIns := [], harness := (true, "e46b737614731cdd799ddb86c51e7ee6a696eaa9157d33e30c40bfe11b252586"), looks := false }, kinds := [], alts := [], laidByText := true, laidKinds := [.data, .data, .data], laidTests := true, laidLooks := .later }
def WideTextsUptoCardSaid : Prop := Claim7.holds Tryd.pinned (.plain (OpenSpec.upto wideTextsSpec)) wideTextsUptoCard

/-- THE SECOND FORM's CARD OF 'entaillaw06.WideUndone'. -/
def wideUndoneUptoCard : Claim7 := { stood := { row := wideUndoneUptoRow, standIns := [], harness := (true, "e46b737614731cdd799ddb86c51e7ee6a696eaa9157d33e30c40bfe11b252586"), looks := false }, kinds := [], alts := [], laidByText := true, laidKinds := [.data, .data, .data], laidTests := true, laidLooks := .later }
def WideUndoneUptoCardSaid : Prop := Claim7.holds Tryd.pinned (.plain (OpenSpec.upto wideUndoneSpec)) wideUndoneUptoCard

/-- THE SECOND FORM's CARD OF 'entaillaw06.WideLaws'. -/
def wideLawsUptoCard : Claim7 := { stood := { row := wideLawsUptoRow, standIns := [], harness := (true, "e46b737614731cdd799ddb86c51e7ee6a696eaa9157d33e30c40bfe11b252586"), looks := false }, kinds := [], alts := [], laidByText := true, laidKinds := [.data, .data, .data], laidTests := true, laidLooks := .later }
def WideLawsUptoCardSaid : Prop := Claim7.holds Tryd.pinned (.plain (OpenSpec.upto wideLawsSpec)) wideLawsUptoCard

/-- THE SECOND FORM's CARD OF 'entaillaw06.WideBack'. -/
def wideBackUptoCard : Claim7 := { stood := { row := wideBackUptoRow, standIns := [], harness := (true, "e46b737614731cdd799ddb86c51e7ee6a696eaa9157d33e30c40bfe11b252586"), looks := false }, kinds := [], alts := [], laidByText := true, laidKinds := [.data, .data, .data], laidTests := true, laidLooks := .later }
def WideBackUptoCardSaid : Prop := Claim7.holds Tryd.pinned (.plain (OpenSpec.upto wideBackSpec)) wideBackUptoCard
end Rows
end Go.Proofs.YtijghhecclaafaaDoor
