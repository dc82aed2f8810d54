/-
  Contracts of package hexes and of the document's answer: digits, Encode.
-/
import Derived.Test.YtdoopjejihfpaaaRows
import Derived.Test.YtdoopjejihfpaaaBytes
import Derived.Test.YtdoopjejihfpaaaMild
import Derived.Test.YtdoopjejihfpaaaArr
import Derived.Test.YtdoopjejihfpaaaHex
import Derived.WalkLawsBesides
import Derived.Deep.QuietTactic
import Derived.BigQuiet
import Derived.Deep.RegionLaw
namespace Go.Proofs.Ytdoopjejihfpaaa
open Go.RowKit

theorem Try.bt : BT Try.prog 22 5 := ⟨by kernel_rfl, by kernel_rfl, by kernel_rfl⟩
theorem Try.at32 : AT Try.prog 30 5 32 (.int .u8 0) := ⟨by kernel_rfl, by kernel_rfl, by kernel_rfl, by kernel_rfl⟩

/-- The constant text of digits. -/
def digs : ByteArray := ⟨#[48, 49, 50, 51, 52, 53, 54, 55, 56, 57, 97, 98, 99, 100, 101, 102]⟩
theorem digs_at (k : Nat) (h : k < 16) : digs[k]'(by show k < 16; exact h) = hd k := by
  have : ∀ k : Fin 16, digs[k.val]'(by show k.val < 16; exact k.isLt) = hd k.val := by decide +kernel
  exact this ⟨k, h⟩
theorem run_dig (w : World) (k : Nat) (q : IntKind) (h : k < 16) (i : Int) (hi : i = (k : Int)) : (Instr.index 9 (.string ⟨#[48, 49, 50, 51, 52, 53, 54, 55, 56, 57, 97, 98, 99, 100, 101, 102]⟩) (.int q i)).run Try.prog w = .ok (.int .u8 (hd k).toNat) w := by
  subst hi
  have e : (digs[k]? : Option UInt8) = some (hd k) := by rw [← digs_at k h]; exact getElem?_pos digs k (by show k < 16; exact h)
  have hu : Try.prog.underlying 9 = some .string := by kernel_rfl
  unfold digs at e
  simp [Instr.index, asIntOf, run_underlying hu, e]

theorem step_append_rd {P : Program} {T E : TypeId} (t : BT P T E) {ops : Array Oper} {o : Oper} {a : Act} {w : World} {K : Act → World → Prop} {Q : Exit → Act → World → Prop} {X : Prop}
    (hg : o.guard = none) (s x : Operand) (hop : o.op = Op.call { callee := Callee.builtin Builtin.append, args := #[s, x], argTypes := #[T, T] })
    (base B : Nat) (v u : Value) (l m : List UInt8) (hs : a.eval s = v) (hown : Own E base w v l) (hx : a.eval x = u) (hrd : Rd B w u m) (hlen : l.length + m.length ≤ 70368744177664) (hbase : base ≤ w.heap.size)
    (hK : ∀ v' w', Own E base w' v' (l ++ m) → Below base w w' → K (a.put o.dst v') w') :
    if Region.wanted o (yielded ops a.tmps) = true then Oper.wp P o a w K Q else X := by
  have hw : Region.wanted o (yielded ops a.tmps) = true := by simp [Region.wanted, hg]
  rw [if_pos hw]
  obtain ⟨v', w', hr, h1, h2⟩ := run_append_rd t o.type w base B v u l m hown hrd hlen hbase
  unfold Oper.wp execOp
  simp only [hop, resolve, invoke, builtin, Sem.run_bind, Sem.run_pure, Result.andThen_ok, List.map_toArray, List.map_cons, List.map_nil, hs, hx, hr]
  exact hK _ _ (h1) ((Below.refl base w).grown h2 hbase fun k hk => (World.ownsRow.lt hown k hk).1)

set_option maxHeartbeats 400000 in
theorem value_any (w : World) (n : Nat) (_hn : n < 256) :
    Calls Try.prog 17 #[.int .u8 n] w fun e w' => e = .returned (.tuple #[.int .u8 (val n : Nat), .bool (isD n)]) ∧ w = w' := by
  have hc : n < 48 ∨ (48 ≤ n ∧ n ≤ 57) ∨ (57 < n ∧ n < 97) ∨ (97 ≤ n ∧ n ≤ 102) ∨ 102 < n := by omega
  rcases hc with h | ⟨h, h'⟩ | ⟨h, h'⟩ | ⟨h, h'⟩ | h
  · have e1 : val n = 0 := by unfold val; split <;> (try split) <;> omega
    have e2 : isD n = false := by unfold isD; simp; omega
    rw [e1, e2]
    clear e1 e2
    go_enter Try.func17, Try.ntmps17
    go_wp2
    go_ret2
    exact ⟨rfl, rfl⟩
  · have e1 : val n = n - 48 := by unfold val; split <;> (try split) <;> omega
    have e2 : isD n = true := by unfold isD; simp; omega
    have e3 : ((n - 48 : Nat) : Int) = (n : Int) - 48 := by omega
    rw [e1, e2, e3]
    clear e1 e2 e3
    go_enter Try.func17, Try.ntmps17
    go_wp2
    go_ret2
    exact ⟨rfl, rfl⟩
  · have e1 : val n = 0 := by unfold val; split <;> (try split) <;> omega
    have e2 : isD n = false := by unfold isD; simp; omega
    rw [e1, e2]
    clear e1 e2
    go_enter Try.func17, Try.ntmps17
    go_wp2
    go_ret2
    exact ⟨rfl, rfl⟩
  · have e1 : val n = n - 87 := by unfold val; split <;> (try split) <;> omega
    have e2 : isD n = true := by unfold isD; simp; omega
    have e3 : ((n - 87 : Nat) : Int) = (n : Int) - 97 + 10 := by omega
    rw [e1, e2, e3]
    clear e1 e2 e3
    go_enter Try.func17, Try.ntmps17
    go_wp2
    go_ret2
    exact ⟨rfl, rfl⟩
  · have e1 : val n = 0 := by unfold val; split <;> (try split) <;> omega
    have e2 : isD n = false := by unfold isD; simp; omega
    rw [e1, e2]
    clear e1 e2
    go_enter Try.func17, Try.ntmps17
    go_wp2
    go_ret2
    exact ⟨rfl, rfl⟩

set_option maxHeartbeats 400000 in
theorem refValue_any (w : World) (n : Nat) :
    Calls Try.prog 18 #[.int .u8 n] w fun e w' => e = .returned (.int .i64 (valI n)) ∧ w = w' := by
  go_enter Try.func18, Try.ntmps18
  go_wp2
  go_loop [3] (fun i => ∃ k : Nat, k ≤ 16 ∧ i = .int .i64 k ∧ ∀ j, j < k → (hd j).toNat ≠ n) (fun i => 16 - (intOf i).toNat)
  case atStart => exact ⟨0, by omega, rfl, fun j hj => by omega⟩
  case round =>
    obtain ⟨k, hk, rfl, hno⟩ := hrel
    by_cases hlt : k < 16
    · have hix := fun w => run_dig w k .i64 hlt k rfl
      have Hno : Hid (∀ j, j < k → (hd j).toNat ≠ n) := hno
      clear hno
      by_cases he : (hd k).toNat = n
      · have HV : Hid (valI n = k) := valI_hd n k hlt he
        have he' : ((((hd k).toNat : Int)) == (n : Int)) = true := by simp [he]
        clear he
        go_wp2
        go_ret
        exact ⟨by rw [HV.out]; rfl, rfl⟩
      · have he' : ((((hd k).toNat : Int)) == (n : Int)) = false := by simp; omega
        go_wp2
        go_round
        case rel => exact ⟨k + 1, by omega, by go_num, fun j hj => by
          by_cases hj' : j = k
          · subst hj'; exact he
          · exact Hno.out j (by omega)⟩
        case measure => simp [intOf]; omega
    · obtain rfl : k = 16 := by omega
      have HV : Hid (valI n = -1) := valI_none n hno
      clear hno
      go_wp2
      go_ret
      exact ⟨by rw [HV.out]; rfl, rfl⟩
end Go.Proofs.Ytdoopjejihfpaaa
