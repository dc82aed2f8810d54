/-
  Contracts of Check: package bech's, and the document's.
  Conditions: the five numbers of the check are as the program's text lays them.
-/
import Derived.Test.YtemgaoikngebeaaDoorRows
import Derived.Test.YtemgaoikngebeaaDoorBytes
import Derived.Test.YtemgaoikngebeaaDoorMild
import Derived.Test.YtemgaoikngebeaaDoorArr
import Derived.Test.YtemgaoikngebeaaDoorTxt
import Derived.Test.YtemgaoikngebeaaDoorBck
import Derived.WalkLawsBesides
import Derived.Deep.QuietTactic
import Derived.BigQuiet
import Derived.Deep.RegionLaw
import Derived.Laws.BitsAllLaws
import Derived.Lib.LaidTab
namespace Go.Proofs.YtemgaoikngebeaaDoor
open Go.RowKit

theorem Tryd.bt : BT Tryd.prog 22 5 := ⟨by kernel_rfl, by kernel_rfl, by kernel_rfl⟩

/-- The five numbers of the check are as the program's text lays them. -/
def Tn (w : World) : Prop := Lib.TabIs Tryd.prog w "entail/bech.turns" .u32 [996825010, 642813549, 513874426, 1027748829, 705979059]
theorem Tn.gr {w w' : World} (h : Tn w) (hb : Gr w w') : Tn w' := by
  have hg : Tryd.prog.globalNamed "entail/bech.turns" = some 0 := by kernel_rfl
  unfold Tn Lib.TabIs World.var? at *
  simp only [hg, Option.bind_some] at h ⊢
  have hlt : 0 < w.heap.size := by
    rcases Nat.lt_or_ge 0 w.heap.size with h' | h'
    · exact h'
    · rw [Array.getElem?_eq_none h'] at h; simp at h
  rw [Below.block hb _ hlt]
  exact h
theorem Tn.cell {w : World} (h : Tn w) (k : Nat) (hk : k < 5) : w.cell? ⟨0, k, none⟩ = some (.int .u32 (gk k : Nat)) := by
  have := Lib.TabIs.cell h (by kernel_rfl : Tryd.prog.globalNamed "entail/bech.turns" = some 0) k hk
  rw [this]
  match k, hk with
  | 0, _ | 1, _ | 2, _ | 3, _ | 4, _ => rfl

theorem and25 (n : Nat) (h : n < 1073741824) : bits .and .u32 (n : Int) 33554431 = ((n % 33554432 : Nat) : Int) := by
  have := u32_and_nat n 33554431 (by omega) (by omega)
  have e : n &&& 33554431 = n % 33554432 := Nat.and_two_pow_sub_one_eq_mod n 25
  rw [e] at this
  exact this
theorem xor_sh (n v : Nat) : bits .xor .u32 (((n % 33554432 : Nat) : Int) * 32 % 4294967296) ((v : Int) % 32) = ((sh n v : Nat) : Int) := by
  have e1 : ((n % 33554432 : Nat) : Int) * 32 % 4294967296 = ((n % 33554432 * 32 : Nat) : Int) := by omega
  have e2 : (v : Int) % 32 = ((v % 32 : Nat) : Int) := by omega
  rw [e1, e2]
  exact u32_xor_nat _ _ (by omega) (by omega)
theorem xor_sh' (n v : Nat) : bits .xor .u32 ((n : Int) % 33554432 * 32) ((v : Int) % 32) = ((sh n v : Nat) : Int) := by
  have e1 : (n : Int) % 33554432 * 32 = ((n % 33554432 * 32 : Nat) : Int) := by omega
  have e2 : (v : Int) % 32 = ((v % 32 : Nat) : Int) := by omega
  rw [e1, e2]
  exact u32_xor_nat _ _ (by omega) (by omega)
theorem and1 (a : Nat) (h : a < 32) : bits .and .u32 (a : Int) 1 = ((a % 2 : Nat) : Int) := by
  have : ∀ (t : Fin 32), bits .and .u32 (t.val : Int) 1 = ((t.val % 2 : Nat) : Int) := by decide +kernel
  exact this ⟨a, h⟩
/-- x >> j -/
theorem shr_var (k : IntKind) (t j : Nat) (h : j ≤ k.bits) : Op.shift .shr k (t : Int) .i64 (j : Int) = pure (.int k ((t / 2 ^ j : Nat) : Int)) := by
  rw [shift_shr k .i64 (t : Int) (j : Int) (by omega) (by omega)]
  simp

set_option maxHeartbeats 1000000 in
set_option maxRecDepth 100000 in
theorem check_any (w : World) (B : Nat) (v : Value) (l : List UInt8) (h : Rd B w v l) (hl : l.length ≤ 1000000) (ht : Tn w) :
    Calls Tryd.prog 11 #[v] w fun e w' => e = .returned (.int .u32 (ck l : Nat)) ∧ w' = w := by
  have hrd : Hid (Rd B w v l) := h
  have HT : Hid (Tn w) := ht
  obtain ⟨ao, cap, rfl⟩ := h.len
  clear h ht
  go_enter Tryd.func11, Tryd.ntmps11
  go_wp2_with fail
  go_loop [3, 10] (fun c i => ∃ k n : Nat, k ≤ l.length ∧ i = .int .i64 k ∧ c = .int .u32 n ∧ Hid (n = ck (l.take k))) (fun _ i => l.length - (intOf i).toNat)
  case atStart => exact ⟨0, 1, by omega, rfl, rfl, rfl⟩
  case round =>
    obtain ⟨k, n, hk, rfl, rfl, HN⟩ := hrel
    by_cases hlt : k < l.length
    · obtain ⟨b0, off, cap', ev, hcap, _, hc⟩ := hrd.out.at (by omega)
      simp only [Value.slice.injEq] at ev
      obtain ⟨rfl, _, rfl⟩ := ev
      have hck := hc k hlt
      have HS : Hid (ck (l.take (k + 1)) = stp n l[k].toNat) := by show _ = _; rw [ck_take l k hlt, HN.out]
      have hn := l[k].toNat_lt
      generalize l[k].toNat = v at hck HS hn
      clear hc
      have HL : Hid (n < 1073741824) := by show _ < _; rw [HN.out]; exact ck_lt _
      have e1 : bits .and .u32 (n : Int) 33554431 = ((n % 33554432 : Nat) : Int) := and25 n HL.out
      have e2 : bits .xor .u32 (((n % 33554432 : Nat) : Int) * 32 % 4294967296) ((v : Int) % 32) = ((sh n v : Nat) : Int) := xor_sh n v
      have e3 : (n : Int) / 33554432 = ((n / 33554432 : Nat) : Int) := by omega
      have HC : Hid (stp n v = gx (sh n v) (n / 33554432) 5) := rfl
      have HQ : Hid (sh n v < 1073741824) := sh_lt n v
      have HTT : Hid (n / 33554432 < 32) := by have := HL.out; show _ < _; omega
      have E1 : Hid (bits .and .u32 (n : Int) 33554431 = ((n % 33554432 : Nat) : Int)) := e1
      have E2 : Hid (bits .xor .u32 (((n % 33554432 : Nat) : Int) * 32 % 4294967296) ((v : Int) % 32) = ((sh n v : Nat) : Int)) := e2
      have E3 : Hid ((n : Int) / 33554432 = ((n / 33554432 : Nat) : Int)) := e3
      clear e1 e2 e3
      go_wp2_with fail
      rw [E1.out, E2.out, E3.out]
      clear E1 E2 E3
      generalize n / 33554432 = t at HC HTT ⊢
      generalize sh n v = q at HC HQ ⊢
      go_loop [3, 23] (fun c i => ∃ j m : Nat, j ≤ 5 ∧ i = .int .i64 j ∧ c = .int .u32 m ∧ Hid (m = gx q t j)) (fun _ i => 5 - (intOf i).toNat)
      case atStart => exact ⟨0, q, by omega, rfl, rfl, rfl⟩
      case round =>
        obtain ⟨j, m, hj, rfl, rfl, HM⟩ := hrel
        by_cases hj5 : j < 5
        · have hcell := HT.out.cell j hj5
          have hx : bits .xor .u32 (m : Int) (gk j : Nat) = ((m ^^^ gk j : Nat) : Int) := u32_xor_nat _ _ (by rw [HM.out]; have := gx_lt q t HQ.out j; omega) (by have := gk_lt j; omega)
          have HG : Hid (gx q t (j + 1) = if t / 2 ^ j % 2 = 1 then m ^^^ gk j else m) := by show _ = _; rw [HM.out]; rfl
          have hbit : bits .and .u32 ((t : Int) / 2 ^ j) 1 = ((t / 2 ^ j % 2 : Nat) : Int) := by
            have := and1 (t / 2 ^ j) (Nat.lt_of_le_of_lt (Nat.div_le_self _ _) HTT.out)
            simpa using this
          generalize gk j = gj at hcell hx HG
          generalize t / 2 ^ j = tj at hbit HG
          by_cases hb : tj % 2 = 1
          · have hbit1 : bits .and .u32 ((t : Int) / 2 ^ j) 1 = 1 := by rw [hbit, hb]; rfl
            rw [if_pos hb] at HG
            clear hb hbit
            go_wp2
            go_round
            case rel => exact ⟨j + 1, _, by omega, by go_num, rfl, HG.out.symm⟩
            case measure => simp [intOf]; omega
          · have hbit1 : bits .and .u32 ((t : Int) / 2 ^ j) 1 = 0 := by rw [hbit, show tj % 2 = 0 by omega]; rfl
            rw [if_neg hb] at HG
            clear hb hbit
            go_wp2
            go_round
            case rel => exact ⟨j + 1, _, by omega, by go_num, rfl, HG.out.symm⟩
            case measure => simp [intOf]; omega
        · obtain rfl : j = 5 := by omega
          go_wp2
          go_round
          case rel => exact ⟨k + 1, m, by omega, by go_num, rfl, by show _ = _; rw [HS.out, HC.out, HM.out]⟩
          case measure => simp [intOf]; omega
    · have HE : Hid (n = ck l) := by have := HN.out; rw [List.take_of_length_le (by omega)] at this; exact this
      go_wp2
      go_ret
      rw [HE.out]
      exact ⟨rfl, rfl⟩

/-- The five numbers, written out in a slice. -/
def gcells : Array Value := #[.int .u32 996825010, .int .u32 642813549, .int .u32 513874426, .int .u32 1027748829, .int .u32 705979059]
theorem gcell (w : World) (E : TypeId) (k : Nat) (hk : k < 5) : (w.alloc (.cells #[.int .u32 996825010, .int .u32 642813549, .int .u32 513874426, .int .u32 1027748829, .int .u32 705979059] E)).cell? ⟨w.heap.size, k, none⟩ = some (.int .u32 (gk k : Nat)) := by
  rw [World.cell?_alloc_at _ _ _ _ rfl]
  match k, hk with
  | 0, _ | 1, _ | 2, _ | 3, _ | 4, _ => rfl

set_option maxHeartbeats 1000000 in
set_option maxRecDepth 100000 in
theorem rcheck_any (w : World) (B : Nat) (v : Value) (l : List UInt8) (h : Rd B w v l) (hl : l.length ≤ 1000000) :
    Calls Tryd.prog 12 #[v] w fun e w' => e = .returned (.int .u32 (ck l : Nat)) ∧ Below w.heap.size w w' := by
  have hrd : Hid (Rd B w v l) := h
  obtain ⟨ao, cap, rfl⟩ := h.len
  clear h
  go_enter Tryd.func12, Tryd.ntmps12
  go_wp2_with fail
  go_loop [4, 5] (fun c i => ∃ k n : Nat, k ≤ l.length ∧ i = .int .i64 k ∧ c = .int .u32 n ∧ Hid (n = ck (l.take k))) (fun _ i => l.length - (intOf i).toNat)
  case atStart => exact ⟨0, 1, by omega, rfl, rfl, rfl⟩
  case round =>
    obtain ⟨k, n, hk, rfl, rfl, HN⟩ := hrel
    by_cases hlt : k < l.length
    · obtain ⟨b0, off, cap', ev, hcap, _, hc⟩ := (Rd.grow hrd.out ((Below.refl _ _).alloc (Nat.le_refl _) (.cells #[.int .u32 996825010, .int .u32 642813549, .int .u32 513874426, .int .u32 1027748829, .int .u32 705979059] 24))).at (by omega)
      simp only [Value.slice.injEq] at ev
      obtain ⟨rfl, _, rfl⟩ := ev
      have hck := hc k hlt
      have HS : Hid (ck (l.take (k + 1)) = stp n l[k].toNat) := by show _ = _; rw [ck_take l k hlt, HN.out]
      have hn := l[k].toNat_lt
      generalize l[k].toNat = v at hck HS hn
      clear hc
      have HL : Hid (n < 1073741824) := by show _ < _; rw [HN.out]; exact ck_lt _
      have E2 : Hid (bits .xor .u32 ((n : Int) % 33554432 * 32) ((v : Int) % 32) = ((sh n v : Nat) : Int)) := xor_sh' n v
      have E3 : Hid ((n : Int) / 33554432 = ((n / 33554432 : Nat) : Int)) := by show _ = _; omega
      have HC : Hid (stp n v = gx (sh n v) (n / 33554432) 5) := rfl
      have HQ : Hid (sh n v < 1073741824) := sh_lt n v
      have HTT : Hid (n / 33554432 < 32) := by have := HL.out; show _ < _; omega
      go_wp2_with fail
      rw [E2.out, E3.out]
      clear E2 E3
      generalize n / 33554432 = t at HC HTT ⊢
      generalize sh n v = q at HC HQ ⊢
      go_loop [4, 6, 7] (fun c tv i => ∃ j m : Nat, j ≤ 5 ∧ i = .int .i64 j ∧ tv = .int .u32 (t / 2 ^ j : Nat) ∧ c = .int .u32 m ∧ Hid (m = gx q t j)) (fun _ _ i => 5 - (intOf i).toNat)
      case atStart => exact ⟨0, q, by omega, rfl, by have := HTT.out; simp; omega, rfl, rfl⟩
      case round =>
        obtain ⟨j, m, hj, rfl, rfl, rfl, HM⟩ := hrel
        by_cases hj5 : j < 5
        · have hcell := gcell w 24 j hj5
          have hx : bits .xor .u32 (m : Int) (gk j : Nat) = ((m ^^^ gk j : Nat) : Int) := u32_xor_nat _ _ (by rw [HM.out]; have := gx_lt q t HQ.out j; omega) (by have := gk_lt j; omega)
          have HG : Hid (gx q t (j + 1) = if t / 2 ^ j % 2 = 1 then m ^^^ gk j else m) := by show _ = _; rw [HM.out]; rfl
          have HD : Hid (t / 2 ^ (j + 1) = t / 2 ^ j / 2) := by show _ = _; rw [Nat.pow_succ, Nat.div_div_eq_div_mul]
          generalize gk j = gj at hcell hx HG
          have HJ : Hid (t / 2 ^ j < 32) := Nat.lt_of_le_of_lt (Nat.div_le_self _ _) HTT.out
          generalize t / 2 ^ j = tj at HG HD HJ
          by_cases hb : tj % 2 = 1
          · have hbit1 : ((tj : Int) % 2 == 1) = true := by simp; omega
            rw [if_pos hb] at HG
            clear hb
            go_wp2
            go_round
            case rel => exact ⟨j + 1, _, by omega, by go_num, by have := HJ.out; rw [HD.out]; go_num, rfl, HG.out.symm⟩
            case measure => simp [intOf]; omega
          · have hbit1 : ((tj : Int) % 2 == 1) = false := by simp; omega
            rw [if_neg hb] at HG
            clear hb
            go_wp2
            go_round
            case rel => exact ⟨j + 1, _, by omega, by go_num, by have := HJ.out; rw [HD.out]; go_num, rfl, HG.out.symm⟩
            case measure => simp [intOf]; omega
        · obtain rfl : j = 5 := by omega
          go_wp2
          go_round
          case rel => exact ⟨k + 1, m, by omega, by go_num, rfl, by show _ = _; rw [HS.out, HC.out, HM.out]⟩
          case measure => simp [intOf]; omega
    · have HE : Hid (n = ck l) := by have := HN.out; rw [List.take_of_length_le (by omega)] at this; exact this
      go_wp2
      go_ret
      rw [HE.out]
      exact ⟨rfl, (Below.refl _ _).alloc (Nat.le_refl _) _⟩

theorem check_r (w : World) (B : Nat) (v : Value) (l : List UInt8) (h : Rd B w v l) (hl : l.length ≤ 1000000) (ht : Tn w) (n : Nat) (hn : ck l = n) :
    Calls Tryd.prog 11 #[v] w fun e w' => e = .returned (.int .u32 (n : Int)) ∧ w' = w := by
  subst hn; exact check_any w B v l h hl ht
theorem rcheck_r (w : World) (B : Nat) (v : Value) (l : List UInt8) (h : Rd B w v l) (hl : l.length ≤ 1000000) (n : Nat) (hn : ck l = n) :
    Calls Tryd.prog 12 #[v] w fun e w' => e = .returned (.int .u32 (n : Int)) ∧ Below w.heap.size w w' := by
  subst hn; exact rcheck_any w B v l h hl
end Go.Proofs.YtemgaoikngebeaaDoor
