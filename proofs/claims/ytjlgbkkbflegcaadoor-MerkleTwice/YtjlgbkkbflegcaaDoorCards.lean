/-
  DERIVED. GIVEN WITH THE SEED: THE CARDS: each row of YtjlgbkkbflegcaaDoorRows.lean that lists a variable, with what it lists TIED to the program's text (the seventh form; the later family's looks); each row that meets fmt, with fmt's text TOLD by the authors' own Lean function (tested against real Go, not proved from fmt's source: count such statements apart). THE CARD IS WHAT COUNTS. Prove the row's statement (the work); the ties are given (YtjlgbkkbflegcaaDoorTie.lean); close each card by the builder's one call (the guide's Derived/Test/ToyasCard.lean, 'card_holds'). Laid BY PROGRAM, IN A SANDBOX (cutbox-door.mjs). By AI agents, Wed Nov 11 2026. No macro, syntax, notation, axiom, sorry.
-/
import Derived.Test.YtjlgbkkbflegcaaDoorRows
import GoSem.ClaimSeven
namespace Go.Proofs.YtjlgbkkbflegcaaDoor
namespace Rows

/-- THE TIED CARD OF 'entaillaw08.MerkleRoot'. -/
def merkleRootCard : Claim7 := { stood := { row := merkleRootRow, standIns := [], harness := (true, "59ab19751005c63f4e36fae15d4613bcc448de291f44591b636eb726be4023e1"), looks := false }, kinds := [], alts := [], laidByText := true, laidKinds := [.data, .data], laidTests := true, laidLooks := .later }
def MerkleRootCardSaid : Prop := Claim7.holds Tryd.pinned (.plain (OpenSpec.ofChange merkleRootSpec)) merkleRootCard

/-- THE TIED CARD OF 'entaillaw08.MerkleBranch'. -/
def merkleBranchCard : Claim7 := { stood := { row := merkleBranchRow, standIns := [], harness := (true, "59ab19751005c63f4e36fae15d4613bcc448de291f44591b636eb726be4023e1"), looks := false }, kinds := [], alts := [], laidByText := true, laidKinds := [.data, .data], laidTests := true, laidLooks := .later }
def MerkleBranchCardSaid : Prop := Claim7.holds Tryd.pinned (.plain (OpenSpec.ofChange merkleBranchSpec)) merkleBranchCard

/-- THE TIED CARD OF 'entaillaw08.MerkleClimb'. -/
def merkleClimbCard : Claim7 := { stood := { row := merkleClimbRow, standIns := [], harness := (true, "59ab19751005c63f4e36fae15d4613bcc448de291f44591b636eb726be4023e1"), looks := false }, kinds := [], alts := [], laidByText := true, laidKinds := [.data, .data], laidTests := true, laidLooks := .later }
def MerkleClimbCardSaid : Prop := Claim7.holds Tryd.pinned (.plain (OpenSpec.ofChange merkleClimbSpec)) merkleClimbCard

/-- THE TIED CARD OF 'entaillaw08.MerkleUp'. -/
def merkleUpCard : Claim7 := { stood := { row := merkleUpRow, standIns := [], harness := (true, "59ab19751005c63f4e36fae15d4613bcc448de291f44591b636eb726be4023e1"), looks := false }, kinds := [], alts := [], laidByText := true, laidKinds := [.data, .data], laidTests := true, laidLooks := .later }
def MerkleUpCardSaid : Prop := Claim7.holds Tryd.pinned (.plain (OpenSpec.ofChange merkleUpSpec)) merkleUpCard

/-- THE TIED CARD OF 'entaillaw08.MerkleTwice'. -/
def merkleTwiceCard : Claim7 := { stood := { row := merkleTwiceRow, standIns := [], harness := (true, "59ab19751005c63f4e36fae15d4613bcc448de291f44591b636eb726be4023e1"), looks := false }, kinds := [], alts := [], laidByText := true, laidKinds := [.data, .data], laidTests := true, laidLooks := .later }
def MerkleTwiceCardSaid : Prop := Claim7.holds Tryd.pinned (.plain (OpenSpec.ofChange merkleTwiceSpec)) merkleTwiceCard

/-- THE TIED CARD OF 'entaillaw09.TxName'. -/
def txNameCard : Claim7 := { stood := { row := txNameRow, standIns := [], harness := (true, "59ab19751005c63f4e36fae15d4613bcc448de291f44591b636eb726be4023e1"), looks := false }, kinds := [], alts := [], laidByText := true, laidKinds := [.data, .data], laidTests := true, laidLooks := .later }
def TxNameCardSaid : Prop := Claim7.holds Tryd.pinned (.plain (OpenSpec.ofChange txNameSpec)) txNameCard

/-- THE SECOND FORM's CARD OF 'entaillaw08.MerkleRoot'. -/
def merkleRootUptoCard : Claim7 := { stood := { row := merkleRootUptoRow, standIns := [], harness := (true, "59ab19751005c63f4e36fae15d4613bcc448de291f44591b636eb726be4023e1"), looks := false }, kinds := [], alts := [], laidByText := true, laidKinds := [.data, .data], laidTests := true, laidLooks := .later }
def MerkleRootUptoCardSaid : Prop := Claim7.holds Tryd.pinned (.plain (OpenSpec.upto merkleRootSpec)) merkleRootUptoCard

/-- THE SECOND FORM's CARD OF 'entaillaw08.MerkleBranch'. -/
def merkleBranchUptoCard : Claim7 := { stood := { row := merkleBranchUptoRow, standIns := [], harness := (true, "59ab19751005c63f4e36fae15d4613bcc448de291f44591b636eb726be4023e1"), looks := false }, kinds := [], alts := [], laidByText := true, laidKinds := [.data, .data], laidTests := true, laidLooks := .later }
def MerkleBranchUptoCardSaid : Prop := Claim7.holds Tryd.pinned (.plain (OpenSpec.upto merkleBranchSpec)) merkleBranchUptoCard

/-- THE SECOND FORM's CARD OF 'entaillaw08.MerkleClimb'. -/
def merkleClimbUptoCard : Claim7 := { stood := { row := merkleClimbUptoRow, standIns := [], harness := (true, "59ab19751005c63f4e36fae15d4613bcc448de291f44591b636eb726be4023e1"), looks := false }, kinds := [], alts := [], laidByText := true, laidKinds := [.data, .data], laidTests := true, laidLooks := .later }
def MerkleClimbUptoCardSaid : Prop := Claim7.holds Tryd.pinned (.plain (OpenSpec.upto merkleClimbSpec)) merkleClimbUptoCard

/-- THE SECOND FORM's CARD OF 'entaillaw08.MerkleUp'. -/
def merkleUpUptoCard : Claim7 := { stood := { row := merkleUpUptoRow, standIns := [], harness := (true, "59ab19751005c63f4e36fae15d4613bcc448de291f44591b636eb726be4023e1"), looks := false }, kinds := [], alts := [], laidByText := true, laidKinds := [.data, .data], laidTests := true, laidLooks := .later }
def MerkleUpUptoCardSaid : Prop := Claim7.holds Tryd.pinned (.plain (OpenSpec.upto merkleUpSpec)) merkleUpUptoCard

/-- THE SECOND FORM's CARD OF 'entaillaw08.MerkleTwice'. -/
def merkleTwiceUptoCard : Claim7 := { stood := { row := merkleTwiceUptoRow, standIns := [], harness := (true, "59ab19751005c63f4e36fae15d4613bcc448de291f44591b636eb726be4023e1"), looks := false }, kinds := [], alts := [], laidByText := true, laidKinds := [.data, .data], laidTests := true, laidLooks := .later }
def MerkleTwiceUptoCardSaid : Prop := Claim7.holds Tryd.pinned (.plain (OpenSpec.upto merkleTwiceSpec)) merkleTwiceUptoCard

/-- THE SECOND FORM's CARD OF 'entaillaw09.TxName'. -/
def txNameUptoCard : Claim7 := { stood := { row := txNameUptoRow, standIns := [], harness := (true, "59ab19751005c63f4e36fae15d4613bcc448de291f44591b636eb726be4023e1"), looks := false }, kinds := [], alts := [], laidByText := true, laidKinds := [.data, .data], laidTests := true, laidLooks := .later }
def TxNameUptoCardSaid : Prop := Claim7.holds Tryd.pinned (.plain (OpenSpec.upto txNameSpec)) txNameUptoCard
end Rows
end Go.Proofs.YtjlgbkkbflegcaaDoor
