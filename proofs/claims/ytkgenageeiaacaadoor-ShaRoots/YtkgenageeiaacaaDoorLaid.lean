/-
  A world whose package-level variables, as the rows list them, hold what their text lays; what the rows' list gives of the variables that are read.
-/
import Derived.Test.YtkgenageeiaacaaDoorRows
import Derived.Test.YtkgenageeiaacaaDoorS10
import Derived.WalkKit
import Derived.ProofKit
import Derived.Lib.LaidTab
import Derived.Stop.LaidErr
namespace Go.Proofs.YtkgenageeiaacaaDoor
def putCells (cs : Array Value) : Obj → Obj
  | .cells _ t frozen => .cells cs t frozen
  | o => o
def cells_laid_entail_sha_first : Array Value := #[.int .u32 1779033703, .int .u32 3144134277, .int .u32 1013904242, .int .u32 2773480762, .int .u32 1359893119, .int .u32 2600822924, .int .u32 528734635, .int .u32 1541459225]
def cells_laid_entail_sha_steps : Array Value := #[.int .u32 1116352408, .int .u32 1899447441, .int .u32 3049323471, .int .u32 3921009573, .int .u32 961987163, .int .u32 1508970993, .int .u32 2453635748, .int .u32 2870763221, .int .u32 3624381080, .int .u32 310598401, .int .u32 607225278, .int .u32 1426881987, .int .u32 1925078388, .int .u32 2162078206, .int .u32 2614888103, .int .u32 3248222580, .int .u32 3835390401, .int .u32 4022224774, .int .u32 264347078, .int .u32 604807628, .int .u32 770255983, .int .u32 1249150122, .int .u32 1555081692, .int .u32 1996064986, .int .u32 2554220882, .int .u32 2821834349, .int .u32 2952996808, .int .u32 3210313671, .int .u32 3336571891, .int .u32 3584528711, .int .u32 113926993, .int .u32 338241895, .int .u32 666307205, .int .u32 773529912, .int .u32 1294757372, .int .u32 1396182291, .int .u32 1695183700, .int .u32 1986661051, .int .u32 2177026350, .int .u32 2456956037, .int .u32 2730485921, .int .u32 2820302411, .int .u32 3259730800, .int .u32 3345764771, .int .u32 3516065817, .int .u32 3600352804, .int .u32 4094571909, .int .u32 275423344, .int .u32 430227734, .int .u32 506948616, .int .u32 659060556, .int .u32 883997877, .int .u32 958139571, .int .u32 1322822218, .int .u32 1537002063, .int .u32 1747873779, .int .u32 1955562222, .int .u32 2024104815, .int .u32 2227730452, .int .u32 2361852424, .int .u32 2428436474, .int .u32 2756734187, .int .u32 3204031479, .int .u32 3329325298]
noncomputable def laidWorld (os : Os) : World := { World.holding Tryd.prog os ⟨#[], #[], []⟩ with heap := (((World.holding Tryd.prog os ⟨#[], #[], []⟩).heap.modify 0 (putCells cells_laid_entail_sha_first)).modify 1 (putCells cells_laid_entail_sha_steps)) }
/-- What the walks need of the variables: the two tables of numbers. -/
def Facts (w : World) : Prop := Tabs w ∧ 2 ≤ w.heap.size
theorem first_listed {H : Type} : (Rows.laid_entail_sha_first : DataW H) = Lib.tabData .u32 (firstL.map fun n : Nat => (n : Int)) := by rfl
theorem steps_listed {H : Type} : (Rows.laid_entail_sha_steps : DataW H) = Lib.tabData .u32 (stepsL.map fun n : Nat => (n : Int)) := by rfl
theorem facts_of {W : World} (h : laidMetH Tryd.prog Rows.shaSumRow.laid W) : Facts W := by
  have h2 : laidMet Tryd.prog [("entail/sha.first", Rows.laid_entail_sha_first), ("entail/sha.steps", Rows.laid_entail_sha_steps)] W := h
  rw [first_listed, steps_listed] at h2
  have a : Tf W := Lib.tabIs_of_head (by kernel_rfl : Tryd.prog.globalNamed "entail/sha.first" = some 0) (by kernel_rfl) (by kernel_rfl : Tryd.prog.underlying 44 = some (.array 8 38)) (by kernel_rfl) (by kernel_rfl) (by kernel_rfl) h2
  have b : Tt W := Lib.tabIs_of_head (by kernel_rfl : Tryd.prog.globalNamed "entail/sha.steps" = some 1) (by kernel_rfl) (by kernel_rfl : Tryd.prog.underlying 54 = some (.array 64 38)) (by kernel_rfl) (by kernel_rfl) (by kernel_rfl) (laidMet.tail h2)
  have ht : Tabs W := ⟨a, b⟩
  have c1 : 0 < W.heap.size := World.block_lt_of_cell? W _ (ht.first 0 (by decide))
  have c2 : 1 < W.heap.size := World.block_lt_of_cell? W _ (ht.step 0 (by decide))
  exact ⟨ht, by omega⟩
end Go.Proofs.YtkgenageeiaacaaDoor
