/-
  DERIVED. GIVEN WITH THE SEED: THE CARDS: each row of YtemgaoikngebeaaDoorRows.lean that lists a variable, with what it lists TIED to the program's text (the seventh form; the later family's looks); each row that meets fmt, with fmt's text TOLD by the authors' own Lean function (tested against real Go, not proved from fmt's source: count such statements apart). THE CARD IS WHAT COUNTS. Prove the row's statement (the work); the ties are given (YtemgaoikngebeaaDoorTie.lean); close each card by the builder's one call (the guide's Derived/Test/ToyasCard.lean, 'card_holds'). Laid BY PROGRAM, IN A SANDBOX (cutbox-door.mjs). By AI agents, Wed Nov 11 2026. No macro, syntax, notation, axiom, sorry.
-/
import Derived.Test.YtemgaoikngebeaaDoorRows
import GoSem.ClaimSeven
namespace Go.Proofs.YtemgaoikngebeaaDoor
namespace Rows

/-- THE TIED CARD OF 'entaillaw04.BechCheck'. -/
def bechCheckCard : Claim7 := { stood := { row := bechCheckRow, standIns := [], harness := (true, "445998a88074e8868e86047a3a757a40541f97d59b8d1107186a7a44307cfb19"), looks := false }, kinds := [], alts := [], laidByText := true, laidKinds := [.data], laidTests := true, laidLooks := .later }
def BechCheckCardSaid : Prop := Claim7.holds Tryd.pinned (.plain (OpenSpec.ofChange bechCheckSpec)) bechCheckCard

/-- THE TIED CARD OF 'entaillaw04.BechEncode'. -/
def bechEncodeCard : Claim7 := { stood := { row := bechEncodeRow, standIns := [], harness := (true, "445998a88074e8868e86047a3a757a40541f97d59b8d1107186a7a44307cfb19"), looks := false }, kinds := [], alts := [], laidByText := true, laidKinds := [.data], laidTests := true, laidLooks := .later }
def BechEncodeCardSaid : Prop := Claim7.holds Tryd.pinned (.plain (OpenSpec.ofChange bechEncodeSpec)) bechEncodeCard

/-- THE TIED CARD OF 'entaillaw04.BechDecode'. -/
def bechDecodeCard : Claim7 := { stood := { row := bechDecodeRow, standIns := [], harness := (true, "445998a88074e8868e86047a3a757a40541f97d59b8d1107186a7a44307cfb19"), looks := false }, kinds := [], alts := [], laidByText := true, laidKinds := [.data], laidTests := true, laidLooks := .later }
def BechDecodeCardSaid : Prop := Claim7.holds Tryd.pinned (.plain (OpenSpec.ofChange bechDecodeSpec)) bechDecodeCard

/-- THE TIED CARD OF 'entaillaw04.BechBits'. -/
def bechBitsCard : Claim7 := { stood := { row := bechBitsRow, standIns := [], harness := (true, "445998a88074e8868e86047a3a757a40541f97d59b8d1107186a7a44307cfb19"), looks := false }, kinds := [], alts := [], laidByText := true, laidKinds := [.data], laidTests := true, laidLooks := .later }
def BechBitsCardSaid : Prop := Claim7.holds Tryd.pinned (.plain (OpenSpec.ofChange bechBitsSpec)) bechBitsCard

/-- THE TIED CARD OF 'entaillaw04.BechAddress'. -/
def bechAddressCard : Claim7 := { stood := { row := bechAddressRow, standIns := [], harness := (true, "445998a88074e8868e86047a3a757a40541f97d59b8d1107186a7a44307cfb19"), looks := false }, kinds := [], alts := [], laidByText := true, laidKinds := [.data], laidTests := true, laidLooks := .later }
def BechAddressCardSaid : Prop := Claim7.holds Tryd.pinned (.plain (OpenSpec.ofChange bechAddressSpec)) bechAddressCard

/-- THE TIED CARD OF 'entaillaw04.BechBack'. -/
def bechBackCard : Claim7 := { stood := { row := bechBackRow, standIns := [], harness := (true, "445998a88074e8868e86047a3a757a40541f97d59b8d1107186a7a44307cfb19"), looks := false }, kinds := [], alts := [], laidByText := true, laidKinds := [.data], laidTests := true, laidLooks := .later }
def BechBackCardSaid : Prop := Claim7.holds Tryd.pinned (.plain (OpenSpec.ofChange bechBackSpec)) bechBackCard

/-- THE TIED CARD OF 'entaillaw04.BechSlip'. -/
def bechSlipCard : Claim7 := { stood := { row := bechSlipRow, standIns := [], harness := (true, "445998a88074e8868e86047a3a757a40541f97d59b8d1107186a7a44307cfb19"), looks := false }, kinds := [], alts := [], laidByText := true, laidKinds := [.data], laidTests := true, laidLooks := .later }
def BechSlipCardSaid : Prop := Claim7.holds Tryd.pinned (.plain (OpenSpec.ofChange bechSlipSpec)) bechSlipCard

/-- THE SECOND FORM's CARD OF 'entaillaw04.BechCheck'. -/
def bechCheckUptoCard : Claim7 := { stood := { row := bechCheckUptoRow, standIns := [], harness := (true, "445998a88074e8868e86047a3a757a40541f97d59b8d1107186a7a44307cfb19"), looks := false }, kinds := [], alts := [], laidByText := true, laidKinds := [.data], laidTests := true, laidLooks := .later }
def BechCheckUptoCardSaid : Prop := Claim7.holds Tryd.pinned (.plain (OpenSpec.upto bechCheckSpec)) bechCheckUptoCard

/-- THE SECOND FORM's CARD OF 'entaillaw04.BechEncode'. -/
def bechEncodeUptoCard : Claim7 := { stood := { row := bechEncodeUptoRow, standIns := [], harness := (true, "445998a88074e8868e86047a3a757a40541f97d59b8d1107186a7a44307cfb19"), looks := false }, kinds := [], alts := [], laidByText := true, laidKinds := [.data], laidTests := true, laidLooks := .later }
def BechEncodeUptoCardSaid : Prop := Claim7.holds Tryd.pinned (.plain (OpenSpec.upto bechEncodeSpec)) bechEncodeUptoCard

/-- THE SECOND FORM's CARD OF 'entaillaw04.BechDecode'. -/
def bechDecodeUptoCard : Claim7 := { stood := { row := bechDecodeUptoRow, standIns := [], harness := (true, "445998a88074e8868e86047a3a757a40541f97d59b8d1107186a7a44307cfb19"), looks := false }, kinds := [], alts := [], laidByText := true, laidKinds := [.data], laidTests := true, laidLooks := .later }
def BechDecodeUptoCardSaid : Prop := Claim7.holds Tryd.pinned (.plain (OpenSpec.upto bechDecodeSpec)) bechDecodeUptoCard

/-- THE SECOND FORM's CARD OF 'entaillaw04.BechBits'. -/
def bechBitsUptoCard : Claim7 := { stood := { row := bechBitsUptoRow, standIns := [], harness := (true, "445998a88074e8868e86047a3a757a40541f97d59b8d1107186a7a44307cfb19"), looks := false }, kinds := [], alts := [], laidByText := true, laidKinds := [.data], laidTests := true, laidLooks := .later }
def BechBitsUptoCardSaid : Prop := Claim7.holds Tryd.pinned (.plain (OpenSpec.upto bechBitsSpec)) bechBitsUptoCard

/-- THE SECOND FORM's CARD OF 'entaillaw04.BechAddress'. -/
def bechAddressUptoCard : Claim7 := { stood := { row := bechAddressUptoRow, standIns := [], harness := (true, "445998a88074e8868e86047a3a757a40541f97d59b8d1107186a7a44307cfb19"), looks := false }, kinds := [], alts := [], laidByText := true, laidKinds := [.data], laidTests := true, laidLooks := .later }
def BechAddressUptoCardSaid : Prop := Claim7.holds Tryd.pinned (.plain (OpenSpec.upto bechAddressSpec)) bechAddressUptoCard

/-- THE SECOND FORM's CARD OF 'entaillaw04.BechBack'. -/
def bechBackUptoCard : Claim7 := { stood := { row := bechBackUptoRow, standIns := [], harness := (true, "445998a88074e8868e86047a3a757a40541f97d59b8d1107186a7a44307cfb19"), looks := false }, kinds := [], alts := [], laidByText := true, laidKinds := [.data], laidTests := true, laidLooks := .later }
def BechBackUptoCardSaid : Prop := Claim7.holds Tryd.pinned (.plain (OpenSpec.upto bechBackSpec)) bechBackUptoCard

/-- THE SECOND FORM's CARD OF 'entaillaw04.BechSlip'. -/
def bechSlipUptoCard : Claim7 := { stood := { row := bechSlipUptoRow, standIns := [], harness := (true, "445998a88074e8868e86047a3a757a40541f97d59b8d1107186a7a44307cfb19"), looks := false }, kinds := [], alts := [], laidByText := true, laidKinds := [.data], laidTests := true, laidLooks := .later }
def BechSlipUptoCardSaid : Prop := Claim7.holds Tryd.pinned (.plain (OpenSpec.upto bechSlipSpec)) bechSlipUptoCard
end Rows
end Go.Proofs.YtemgaoikngebeaaDoor
