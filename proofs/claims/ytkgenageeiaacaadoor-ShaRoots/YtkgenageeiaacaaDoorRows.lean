/-
  NARROWER THAN 'FOR EVERY INPUT', by the rows' own cells (each row's printed sentence says how): ShaSum: laid · ShaMade: laid · ShaPieces: laid · ShaTags: laid · ShaLong: laid · ShaRoots: laid · ShaNil: laid.
  DERIVED. THE GIVEN ROWS OF THIS SEAT. 7 by the template 'for every input the law returns true; each argument reads behind the call as it read before'; 0 by the template 'total and deterministic' (their statements: YtkgenageeiaacaaDoorTotals.lean).
  GIVEN WITH THE SEED: the statements are not yours to turn. If you find one false, say at which input.
  Laid BY PROGRAM, IN A SANDBOX (cutbox-rows.mjs): the forced cells as the released guide's own fill.sh prints them over the translation c1ab39dd26617b14… (all of the seat's roots in one cut). By AI agents, Wed Nov 11 2026. No macro, syntax, notation, axiom, sorry.
-/
import Derived.Test.YtkgenageeiaacaaDoorChecked
import GoSem.Claim
import GoSem.ClaimJoined
import GoSem.ClaimMapViews
import Derived.JoinedTies
import Derived.KernelRfl
namespace Go.Proofs.YtkgenageeiaacaaDoor
/- THE CELL 'sum', in the pinned program and in every row, IS THE sha256 OF THE DUMP (.gsa) THAT YtkgenageeiaacaaDoorProg.lean LOADS. Nothing in Lean hashes anything: it is a label: what it is worth is what the hold of that sum in a sandbox is worth. -/
noncomputable def Tryd.pinned : Pinned := { name := "ytkgenageeiaacaadoor", sum := "c1ab39dd26617b14481240bdd0695efaa118c69bd78955db1578b1bafebe4ecd", checked := Tryd.checked }
namespace Rows
def none {H : Type} : Left H := { results := [], args := [] }

/- WHAT THE LISTED PACKAGE-LEVEL VARIABLES READ AS WHEN THE CALL BEGINS. Each datum BY PROGRAM (the guide's laid-datum.mjs) off the statement by which the dump's own 'gosem.cut.vars' lays the variable. In a bare row this is a premise. The card (YtkgenageeiaacaaDoorCards.lean) ties it to the program's text. -/
def laid_entail_sha_first {H : Type} : DataW H := .agg [.lit (.int .u32 1779033703), .lit (.int .u32 3144134277), .lit (.int .u32 1013904242), .lit (.int .u32 2773480762), .lit (.int .u32 1359893119), .lit (.int .u32 2600822924), .lit (.int .u32 528734635), .lit (.int .u32 1541459225)]
def laid_entail_sha_steps {H : Type} : DataW H := .agg [.lit (.int .u32 1116352408), .lit (.int .u32 1899447441), .lit (.int .u32 3049323471), .lit (.int .u32 3921009573), .lit (.int .u32 961987163), .lit (.int .u32 1508970993), .lit (.int .u32 2453635748), .lit (.int .u32 2870763221), .lit (.int .u32 3624381080), .lit (.int .u32 310598401), .lit (.int .u32 607225278), .lit (.int .u32 1426881987), .lit (.int .u32 1925078388), .lit (.int .u32 2162078206), .lit (.int .u32 2614888103), .lit (.int .u32 3248222580), .lit (.int .u32 3835390401), .lit (.int .u32 4022224774), .lit (.int .u32 264347078), .lit (.int .u32 604807628), .lit (.int .u32 770255983), .lit (.int .u32 1249150122), .lit (.int .u32 1555081692), .lit (.int .u32 1996064986), .lit (.int .u32 2554220882), .lit (.int .u32 2821834349), .lit (.int .u32 2952996808), .lit (.int .u32 3210313671), .lit (.int .u32 3336571891), .lit (.int .u32 3584528711), .lit (.int .u32 113926993), .lit (.int .u32 338241895), .lit (.int .u32 666307205), .lit (.int .u32 773529912), .lit (.int .u32 1294757372), .lit (.int .u32 1396182291), .lit (.int .u32 1695183700), .lit (.int .u32 1986661051), .lit (.int .u32 2177026350), .lit (.int .u32 2456956037), .lit (.int .u32 2730485921), .lit (.int .u32 2820302411), .lit (.int .u32 3259730800), .lit (.int .u32 3345764771), .lit (.int .u32 3516065817), .lit (.int .u32 3600352804), .lit (.int .u32 4094571909), .lit (.int .u32 275423344), .lit (.int .u32 430227734), .lit (.int .u32 506948616), .lit (.int .u32 659060556), .lit (.int .u32 883997877), .lit (.int .u32 958139571), .lit (.int .u32 1322822218), .lit (.int .u32 1537002063), .lit (.int .u32 1747873779), .lit (.int .u32 1955562222), .lit (.int .u32 2024104815), .lit (.int .u32 2227730452), .lit (.int .u32 2361852424), .lit (.int .u32 2428436474), .lit (.int .u32 2756734187), .lit (.int .u32 3204031479), .lit (.int .u32 3329325298)]

/-- 'entaillaw07.ShaSum': WHATEVER THE INPUT: true; the input reads as it did. -/
def shaSumSpec : ChangeSpec := { name := "shaSum", fn := fun _ => fun
  | [d] => { results := [.lit (.bool true)], args := [d] }
  | _ => none }
def shaSumRow : OpenClaim := { program := "ytkgenageeiaacaadoor", sum := "c1ab39dd26617b14481240bdd0695efaa118c69bd78955db1578b1bafebe4ecd", func := "entail/entaillaw07.ShaSum", spec := "shaSum", recurses := true, named := ["entail/sha.first", "entail/sha.steps"], apart := false, laid := [("entail/sha.first", laid_entail_sha_first), ("entail/sha.steps", laid_entail_sha_steps)] }
def ShaSumSaid : Prop := shaSumRow.holds Tryd.pinned (OpenSpec.ofChange shaSumSpec)

/-- ITS FALSE NEIGHBOUR: 'it returns false'. Refute it at one input. -/
def shaSumWrong : ChangeSpec := { name := "shaSum", fn := fun _ => fun
  | [d] => { results := [.lit (.bool false)], args := [d] }
  | _ => none }
def ShaSumWrongFalsely : Prop := shaSumRow.holds Tryd.pinned (OpenSpec.ofChange shaSumWrong)

/-- 'entaillaw07.ShaMade': WHATEVER THE INPUT: true; the input reads as it did. -/
def shaMadeSpec : ChangeSpec := { name := "shaMade", fn := fun _ => fun
  | [d1, d2] => { results := [.lit (.bool true)], args := [d1, d2] }
  | _ => none }
def shaMadeRow : OpenClaim := { program := "ytkgenageeiaacaadoor", sum := "c1ab39dd26617b14481240bdd0695efaa118c69bd78955db1578b1bafebe4ecd", func := "entail/entaillaw07.ShaMade", spec := "shaMade", recurses := true, named := ["entail/sha.first", "entail/sha.steps"], apart := false, laid := [("entail/sha.first", laid_entail_sha_first), ("entail/sha.steps", laid_entail_sha_steps)] }
def ShaMadeSaid : Prop := shaMadeRow.holds Tryd.pinned (OpenSpec.ofChange shaMadeSpec)

/-- ITS FALSE NEIGHBOUR: 'it returns false'. Refute it at one input. -/
def shaMadeWrong : ChangeSpec := { name := "shaMade", fn := fun _ => fun
  | [d1, d2] => { results := [.lit (.bool false)], args := [d1, d2] }
  | _ => none }
def ShaMadeWrongFalsely : Prop := shaMadeRow.holds Tryd.pinned (OpenSpec.ofChange shaMadeWrong)

/-- 'entaillaw07.ShaPieces': WHATEVER THE INPUT: true; the input reads as it did. -/
def shaPiecesSpec : ChangeSpec := { name := "shaPieces", fn := fun _ => fun
  | [d] => { results := [.lit (.bool true)], args := [d] }
  | _ => none }
def shaPiecesRow : OpenClaim := { program := "ytkgenageeiaacaadoor", sum := "c1ab39dd26617b14481240bdd0695efaa118c69bd78955db1578b1bafebe4ecd", func := "entail/entaillaw07.ShaPieces", spec := "shaPieces", recurses := true, named := ["entail/sha.first", "entail/sha.steps"], apart := false, laid := [("entail/sha.first", laid_entail_sha_first), ("entail/sha.steps", laid_entail_sha_steps)] }
def ShaPiecesSaid : Prop := shaPiecesRow.holds Tryd.pinned (OpenSpec.ofChange shaPiecesSpec)

/-- ITS FALSE NEIGHBOUR: 'it returns false'. Refute it at one input. -/
def shaPiecesWrong : ChangeSpec := { name := "shaPieces", fn := fun _ => fun
  | [d] => { results := [.lit (.bool false)], args := [d] }
  | _ => none }
def ShaPiecesWrongFalsely : Prop := shaPiecesRow.holds Tryd.pinned (OpenSpec.ofChange shaPiecesWrong)

/-- 'entaillaw07.ShaTags': WHATEVER THE INPUT: true; the input reads as it did. -/
def shaTagsSpec : ChangeSpec := { name := "shaTags", fn := fun _ => fun
  | [d1, d2] => { results := [.lit (.bool true)], args := [d1, d2] }
  | _ => none }
def shaTagsRow : OpenClaim := { program := "ytkgenageeiaacaadoor", sum := "c1ab39dd26617b14481240bdd0695efaa118c69bd78955db1578b1bafebe4ecd", func := "entail/entaillaw07.ShaTags", spec := "shaTags", recurses := true, named := ["entail/sha.first", "entail/sha.steps"], apart := false, laid := [("entail/sha.first", laid_entail_sha_first), ("entail/sha.steps", laid_entail_sha_steps)] }
def ShaTagsSaid : Prop := shaTagsRow.holds Tryd.pinned (OpenSpec.ofChange shaTagsSpec)

/-- ITS FALSE NEIGHBOUR: 'it returns false'. Refute it at one input. -/
def shaTagsWrong : ChangeSpec := { name := "shaTags", fn := fun _ => fun
  | [d1, d2] => { results := [.lit (.bool false)], args := [d1, d2] }
  | _ => none }
def ShaTagsWrongFalsely : Prop := shaTagsRow.holds Tryd.pinned (OpenSpec.ofChange shaTagsWrong)

/-- 'entaillaw07.ShaLong': WHATEVER THE INPUT: true; the input reads as it did. -/
def shaLongSpec : ChangeSpec := { name := "shaLong", fn := fun _ => fun
  | [d1, d2] => { results := [.lit (.bool true)], args := [d1, d2] }
  | _ => none }
def shaLongRow : OpenClaim := { program := "ytkgenageeiaacaadoor", sum := "c1ab39dd26617b14481240bdd0695efaa118c69bd78955db1578b1bafebe4ecd", func := "entail/entaillaw07.ShaLong", spec := "shaLong", recurses := true, named := ["entail/sha.first", "entail/sha.steps"], apart := false, laid := [("entail/sha.first", laid_entail_sha_first), ("entail/sha.steps", laid_entail_sha_steps)] }
def ShaLongSaid : Prop := shaLongRow.holds Tryd.pinned (OpenSpec.ofChange shaLongSpec)

/-- ITS FALSE NEIGHBOUR: 'it returns false'. Refute it at one input. -/
def shaLongWrong : ChangeSpec := { name := "shaLong", fn := fun _ => fun
  | [d1, d2] => { results := [.lit (.bool false)], args := [d1, d2] }
  | _ => none }
def ShaLongWrongFalsely : Prop := shaLongRow.holds Tryd.pinned (OpenSpec.ofChange shaLongWrong)

/-- 'entaillaw07.ShaRoots': WHATEVER THE INPUT: true; the input reads as it did. -/
def shaRootsSpec : ChangeSpec := { name := "shaRoots", fn := fun _ => fun
  | [] => { results := [.lit (.bool true)], args := [] }
  | _ => none }
def shaRootsRow : OpenClaim := { program := "ytkgenageeiaacaadoor", sum := "c1ab39dd26617b14481240bdd0695efaa118c69bd78955db1578b1bafebe4ecd", func := "entail/entaillaw07.ShaRoots", spec := "shaRoots", recurses := true, named := ["entail/sha.first", "entail/sha.steps"], apart := false, laid := [("entail/sha.first", laid_entail_sha_first), ("entail/sha.steps", laid_entail_sha_steps)] }
def ShaRootsSaid : Prop := shaRootsRow.holds Tryd.pinned (OpenSpec.ofChange shaRootsSpec)

/-- ITS FALSE NEIGHBOUR: 'it returns false'. Refute it at one input. -/
def shaRootsWrong : ChangeSpec := { name := "shaRoots", fn := fun _ => fun
  | [] => { results := [.lit (.bool false)], args := [] }
  | _ => none }
def ShaRootsWrongFalsely : Prop := shaRootsRow.holds Tryd.pinned (OpenSpec.ofChange shaRootsWrong)

/-- 'entaillaw07.ShaNil': WHATEVER THE INPUT: true; the input reads as it did. -/
def shaNilSpec : ChangeSpec := { name := "shaNil", fn := fun _ => fun
  | [d] => { results := [.lit (.bool true)], args := [d] }
  | _ => none }
def shaNilRow : OpenClaim := { program := "ytkgenageeiaacaadoor", sum := "c1ab39dd26617b14481240bdd0695efaa118c69bd78955db1578b1bafebe4ecd", func := "entail/entaillaw07.ShaNil", spec := "shaNil", recurses := true, named := ["entail/sha.first", "entail/sha.steps"], apart := false, laid := [("entail/sha.first", laid_entail_sha_first), ("entail/sha.steps", laid_entail_sha_steps)] }
def ShaNilSaid : Prop := shaNilRow.holds Tryd.pinned (OpenSpec.ofChange shaNilSpec)

/-- ITS FALSE NEIGHBOUR: 'it returns false'. Refute it at one input. -/
def shaNilWrong : ChangeSpec := { name := "shaNil", fn := fun _ => fun
  | [d] => { results := [.lit (.bool false)], args := [d] }
  | _ => none }
def ShaNilWrongFalsely : Prop := shaNilRow.holds Tryd.pinned (OpenSpec.ofChange shaNilWrong)

/- THE SECOND FORM. 'bulk': how many values and letters a reading holds, each counted each time it is reached (what is shared counts as often as it is met; a slice's spare places count too). A statement '..UptoSaid' is the law's where the arguments, and the package variables that the reading takes, are together of bulk at most 1048576: NARROWER than '..Said'. Prove '..Said' where nothing that the law and all that it calls make is longer than what came in: it says more and counts as full. Else prove '..UptoSaid'. A law counts once. -/
mutual
def uptoBulk {H : Type} : DataW H → Nat
  | .lit (.string bytes) => bytes.length + 1
  | .lit _ => 1
  | .nil => 1
  | .ptr d => uptoBulk d + 1
  | .slice elems spare => uptoBulkAll elems + uptoBulkAll spare + 1
  | .agg parts => uptoBulkAll parts + 1
  | .iface _ d => uptoBulk d + 1
  | .map entries => uptoBulkEntries entries + 1
  | .held _ => 1
def uptoBulkAll {H : Type} : List (DataW H) → Nat
  | [] => 0
  | d :: r => uptoBulk d + uptoBulkAll r
def uptoBulkEntries {H : Type} : List (Lit × DataW H) → Nat
  | [] => 0
  | x :: r => uptoBulkEntry x + uptoBulkEntries r
def uptoBulkEntry {H : Type} : Lit × DataW H → Nat
  | (.string bytes, d) => bytes.length + uptoBulk d + 1
  | (_, d) => uptoBulk d + 1
 end
def uptoSmall : (H : Type) → List (DataW H) → Bool := fun _ ds => decide (uptoBulkAll ds ≤ 1048576)
def OpenSpec.upto (s : _root_.Go.ChangeSpec) : _root_.Go.OpenSpec := { _root_.Go.OpenSpec.ofChange s with cond := some uptoSmall }

/-- 'entaillaw07.ShaSum', WHERE WHAT IT READS IS OF BULK AT MOST 1048576: true; the input reads as it did. -/
def shaSumUptoRow : OpenClaim := { program := "ytkgenageeiaacaadoor", sum := "c1ab39dd26617b14481240bdd0695efaa118c69bd78955db1578b1bafebe4ecd", func := "entail/entaillaw07.ShaSum", spec := "shaSum", recurses := true, named := ["entail/sha.first", "entail/sha.steps"], apart := false, laid := [("entail/sha.first", laid_entail_sha_first), ("entail/sha.steps", laid_entail_sha_steps)], narrowed := true }
def ShaSumUptoSaid : Prop := shaSumUptoRow.holds Tryd.pinned (OpenSpec.upto shaSumSpec)

/-- 'entaillaw07.ShaMade', WHERE WHAT IT READS IS OF BULK AT MOST 1048576: true; the input reads as it did. -/
def shaMadeUptoRow : OpenClaim := { program := "ytkgenageeiaacaadoor", sum := "c1ab39dd26617b14481240bdd0695efaa118c69bd78955db1578b1bafebe4ecd", func := "entail/entaillaw07.ShaMade", spec := "shaMade", recurses := true, named := ["entail/sha.first", "entail/sha.steps"], apart := false, laid := [("entail/sha.first", laid_entail_sha_first), ("entail/sha.steps", laid_entail_sha_steps)], narrowed := true }
def ShaMadeUptoSaid : Prop := shaMadeUptoRow.holds Tryd.pinned (OpenSpec.upto shaMadeSpec)

/-- 'entaillaw07.ShaPieces', WHERE WHAT IT READS IS OF BULK AT MOST 1048576: true; the input reads as it did. -/
def shaPiecesUptoRow : OpenClaim := { program := "ytkgenageeiaacaadoor", sum := "c1ab39dd26617b14481240bdd0695efaa118c69bd78955db1578b1bafebe4ecd", func := "entail/entaillaw07.ShaPieces", spec := "shaPieces", recurses := true, named := ["entail/sha.first", "entail/sha.steps"], apart := false, laid := [("entail/sha.first", laid_entail_sha_first), ("entail/sha.steps", laid_entail_sha_steps)], narrowed := true }
def ShaPiecesUptoSaid : Prop := shaPiecesUptoRow.holds Tryd.pinned (OpenSpec.upto shaPiecesSpec)

/-- 'entaillaw07.ShaTags', WHERE WHAT IT READS IS OF BULK AT MOST 1048576: true; the input reads as it did. -/
def shaTagsUptoRow : OpenClaim := { program := "ytkgenageeiaacaadoor", sum := "c1ab39dd26617b14481240bdd0695efaa118c69bd78955db1578b1bafebe4ecd", func := "entail/entaillaw07.ShaTags", spec := "shaTags", recurses := true, named := ["entail/sha.first", "entail/sha.steps"], apart := false, laid := [("entail/sha.first", laid_entail_sha_first), ("entail/sha.steps", laid_entail_sha_steps)], narrowed := true }
def ShaTagsUptoSaid : Prop := shaTagsUptoRow.holds Tryd.pinned (OpenSpec.upto shaTagsSpec)

/-- 'entaillaw07.ShaLong', WHERE WHAT IT READS IS OF BULK AT MOST 1048576: true; the input reads as it did. -/
def shaLongUptoRow : OpenClaim := { program := "ytkgenageeiaacaadoor", sum := "c1ab39dd26617b14481240bdd0695efaa118c69bd78955db1578b1bafebe4ecd", func := "entail/entaillaw07.ShaLong", spec := "shaLong", recurses := true, named := ["entail/sha.first", "entail/sha.steps"], apart := false, laid := [("entail/sha.first", laid_entail_sha_first), ("entail/sha.steps", laid_entail_sha_steps)], narrowed := true }
def ShaLongUptoSaid : Prop := shaLongUptoRow.holds Tryd.pinned (OpenSpec.upto shaLongSpec)

/-- 'entaillaw07.ShaRoots', WHERE WHAT IT READS IS OF BULK AT MOST 1048576: true; the input reads as it did. -/
def shaRootsUptoRow : OpenClaim := { program := "ytkgenageeiaacaadoor", sum := "c1ab39dd26617b14481240bdd0695efaa118c69bd78955db1578b1bafebe4ecd", func := "entail/entaillaw07.ShaRoots", spec := "shaRoots", recurses := true, named := ["entail/sha.first", "entail/sha.steps"], apart := false, laid := [("entail/sha.first", laid_entail_sha_first), ("entail/sha.steps", laid_entail_sha_steps)], narrowed := true }
def ShaRootsUptoSaid : Prop := shaRootsUptoRow.holds Tryd.pinned (OpenSpec.upto shaRootsSpec)

/-- 'entaillaw07.ShaNil', WHERE WHAT IT READS IS OF BULK AT MOST 1048576: true; the input reads as it did. -/
def shaNilUptoRow : OpenClaim := { program := "ytkgenageeiaacaadoor", sum := "c1ab39dd26617b14481240bdd0695efaa118c69bd78955db1578b1bafebe4ecd", func := "entail/entaillaw07.ShaNil", spec := "shaNil", recurses := true, named := ["entail/sha.first", "entail/sha.steps"], apart := false, laid := [("entail/sha.first", laid_entail_sha_first), ("entail/sha.steps", laid_entail_sha_steps)], narrowed := true }
def ShaNilUptoSaid : Prop := shaNilUptoRow.holds Tryd.pinned (OpenSpec.upto shaNilSpec)

end Rows
end Go.Proofs.YtkgenageeiaacaaDoor
