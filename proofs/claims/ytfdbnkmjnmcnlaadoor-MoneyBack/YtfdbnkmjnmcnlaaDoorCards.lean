/-
  DERIVED. GIVEN WITH THE SEED: THE CARDS: each row of YtfdbnkmjnmcnlaaDoorRows.lean that lists a variable, with what it lists TIED to the program's text (the seventh form; the later family's looks); each row that meets fmt, with fmt's text TOLD by the authors' own Lean function (tested against real Go, not proved from fmt's source: count such statements apart). THE CARD IS WHAT COUNTS. Prove the row's statement (the work); the ties are given (YtfdbnkmjnmcnlaaDoorTie.lean); close each card by the builder's one call (the guide's Derived/Test/ToyasCard.lean, 'card_holds'). Laid BY PROGRAM, IN A SANDBOX (cutbox-door.mjs). By AI agents, Wed Nov 11 2026. No macro, syntax, notation, axiom, sorry.
-/
import Derived.Test.YtfdbnkmjnmcnlaaDoorRows
import GoSem.ClaimSeven
namespace Go.Proofs.YtfdbnkmjnmcnlaaDoor
namespace Rows

/-- THE TIED CARD OF 'entaillaw03.MoneySum'. -/
def moneySumCard : Claim7 := { stood := { row := moneySumRow, standIns := [], harness := (true, "b8548157587e578cb4c8d58b8a3197c68b676a2fb599356e2f827ff6645f245e"), looks := false }, kinds := [], alts := [], laidByText := true, laidKinds := [.data, .data, .data], laidTests := true, laidLooks := .later }
def MoneySumCardSaid : Prop := Claim7.holds Tryd.pinned (.plain (OpenSpec.ofChange moneySumSpec)) moneySumCard

/-- THE TIED CARD OF 'entaillaw03.MoneyPrint'. -/
def moneyPrintCard : Claim7 := { stood := { row := moneyPrintRow, standIns := [], harness := (true, "b8548157587e578cb4c8d58b8a3197c68b676a2fb599356e2f827ff6645f245e"), looks := false }, kinds := [], alts := [], laidByText := true, laidKinds := [.data, .data, .data], laidTests := true, laidLooks := .later }
def MoneyPrintCardSaid : Prop := Claim7.holds Tryd.pinned (.plain (OpenSpec.ofChange moneyPrintSpec)) moneyPrintCard

/-- THE TIED CARD OF 'entaillaw03.MoneyParse'. -/
def moneyParseCard : Claim7 := { stood := { row := moneyParseRow, standIns := [], harness := (true, "b8548157587e578cb4c8d58b8a3197c68b676a2fb599356e2f827ff6645f245e"), looks := false }, kinds := [], alts := [], laidByText := true, laidKinds := [.data, .data, .data], laidTests := true, laidLooks := .later }
def MoneyParseCardSaid : Prop := Claim7.holds Tryd.pinned (.plain (OpenSpec.ofChange moneyParseSpec)) moneyParseCard

/-- THE TIED CARD OF 'entaillaw03.MoneyFee'. -/
def moneyFeeCard : Claim7 := { stood := { row := moneyFeeRow, standIns := [], harness := (true, "b8548157587e578cb4c8d58b8a3197c68b676a2fb599356e2f827ff6645f245e"), looks := false }, kinds := [], alts := [], laidByText := true, laidKinds := [.data, .data, .data], laidTests := true, laidLooks := .later }
def MoneyFeeCardSaid : Prop := Claim7.holds Tryd.pinned (.plain (OpenSpec.ofChange moneyFeeSpec)) moneyFeeCard

/-- THE TIED CARD OF 'entaillaw03.MoneyBack'. -/
def moneyBackCard : Claim7 := { stood := { row := moneyBackRow, standIns := [], harness := (true, "b8548157587e578cb4c8d58b8a3197c68b676a2fb599356e2f827ff6645f245e"), looks := false }, kinds := [], alts := [], laidByText := true, laidKinds := [.data, .data, .data], laidTests := true, laidLooks := .later }
def MoneyBackCardSaid : Prop := Claim7.holds Tryd.pinned (.plain (OpenSpec.ofChange moneyBackSpec)) moneyBackCard

/-- THE TIED CARD OF 'entaillaw03.MoneyParts'. -/
def moneyPartsCard : Claim7 := { stood := { row := moneyPartsRow, standIns := [], harness := (true, "b8548157587e578cb4c8d58b8a3197c68b676a2fb599356e2f827ff6645f245e"), looks := false }, kinds := [], alts := [], laidByText := true, laidKinds := [.data, .data, .data], laidTests := true, laidLooks := .later }
def MoneyPartsCardSaid : Prop := Claim7.holds Tryd.pinned (.plain (OpenSpec.ofChange moneyPartsSpec)) moneyPartsCard

/-- THE SECOND FORM's CARD OF 'entaillaw03.MoneySum'. -/
def moneySumUptoCard : Claim7 := { stood := { row := moneySumUptoRow, standIns := [], harness := (true, "b8548157587e578cb4c8d58b8a3197c68b676a2fb599356e2f827ff6645f245e"), looks := false }, kinds := [], alts := [], laidByText := true, laidKinds := [.data, .data, .data], laidTests := true, laidLooks := .later }
def MoneySumUptoCardSaid : Prop := Claim7.holds Tryd.pinned (.plain (OpenSpec.upto moneySumSpec)) moneySumUptoCard

/-- THE SECOND FORM's CARD OF 'entaillaw03.MoneyPrint'. -/
def moneyPrintUptoCard : Claim7 := { stood := { row := moneyPrintUptoRow, standIns := [], harness := (true, "b8548157587e578cb4c8d58b8a3197c68b676a2fb599356e2f827ff6645f245e"), looks := false }, kinds := [], alts := [], laidByText := true, laidKinds := [.data, .data, .data], laidTests := true, laidLooks := .later }
def MoneyPrintUptoCardSaid : Prop := Claim7.holds Tryd.pinned (.plain (OpenSpec.upto moneyPrintSpec)) moneyPrintUptoCard

/-- THE SECOND FORM's CARD OF 'entaillaw03.MoneyParse'. -/
def moneyParseUptoCard : Claim7 := { stood := { row := moneyParseUptoRow, standIns := [], harness := (true, "b8548157587e578cb4c8d58b8a3197c68b676a2fb599356e2f827ff6645f245e"), looks := false }, kinds := [], alts := [], laidByText := true, laidKinds := [.data, .data, .data], laidTests := true, laidLooks := .later }
def MoneyParseUptoCardSaid : Prop := Claim7.holds Tryd.pinned (.plain (OpenSpec.upto moneyParseSpec)) moneyParseUptoCard

/-- THE SECOND FORM's CARD OF 'entaillaw03.MoneyFee'. -/
def moneyFeeUptoCard : Claim7 := { stood := { row := moneyFeeUptoRow, standIns := [], harness := (true, "b8548157587e578cb4c8d58b8a3197c68b676a2fb599356e2f827ff6645f245e"), looks := false }, kinds := [], alts := [], laidByText := true, laidKinds := [.data, .data, .data], laidTests := true, laidLooks := .later }
def MoneyFeeUptoCardSaid : Prop := Claim7.holds Tryd.pinned (.plain (OpenSpec.upto moneyFeeSpec)) moneyFeeUptoCard

/-- THE SECOND FORM's CARD OF 'entaillaw03.MoneyBack'. -/
def moneyBackUptoCard : Claim7 := { stood := { row := moneyBackUptoRow, standIns := [], harness := (true, "b8548157587e578cb4c8d58b8a3197c68b676a2fb599356e2f827ff6645f245e"), looks := false }, kinds := [], alts := [], laidByText := true, laidKinds := [.data, .data, .data], laidTests := true, laidLooks := .later }
def MoneyBackUptoCardSaid : Prop := Claim7.holds Tryd.pinned (.plain (OpenSpec.upto moneyBackSpec)) moneyBackUptoCard

/-- THE SECOND FORM's CARD OF 'entaillaw03.MoneyParts'. -/
def moneyPartsUptoCard : Claim7 := { stood := { row := moneyPartsUptoRow, standIns := [], harness := (true, "b8548157587e578cb4c8d58b8a3197c68b676a2fb599356e2f827ff6645f245e"), looks := false }, kinds := [], alts := [], laidByText := true, laidKinds := [.data, .data, .data], laidTests := true, laidLooks := .later }
def MoneyPartsUptoCardSaid : Prop := Claim7.holds Tryd.pinned (.plain (OpenSpec.upto moneyPartsSpec)) moneyPartsUptoCard
end Rows
end Go.Proofs.YtfdbnkmjnmcnlaaDoor
