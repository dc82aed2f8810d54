/-
  Plain facts on single operations over numbers of 32 bits, each told as the value that it yields; on slices and arrays of them.
-/
import Derived.Test.YtpfoeeiacfadfaaMemZ
import Derived.Test.YtpfoeeiacfadfaaSeq
import Derived.Test.YtpfoeeiacfadfaaSh
import Derived.Laws.BitsAllLaws
namespace Go.Proofs.Ytpfoeeiacfadfaa
open Go.RowKit

section
variable {P : Program} {ρ : Operand → Value} {o : Oper} {w : World}
end

/-- The cells of numbers of 32 bits. -/
def c32 (l : List Nat) : List Value := l.map (fun n : Nat => Value.int .u32 (n : Int))
end Go.Proofs.Ytpfoeeiacfadfaa
