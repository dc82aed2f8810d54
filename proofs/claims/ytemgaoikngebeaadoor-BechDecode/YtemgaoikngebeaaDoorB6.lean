/-
  Contract of the document's Encode.
-/
import Derived.Test.YtemgaoikngebeaaDoorB5
namespace Go.Proofs.YtemgaoikngebeaaDoor
open Go.RowKit

theorem letsS_extract (k : Nat) (h : k < 32) : letsS.extract k (k + 1) = ⟨#[letA (UInt8.ofNat k)]⟩ := by
  have : ∀ k : Fin 32, letsS.extract k.val (k.val + 1) = ⟨#[letA (UInt8.ofNat k.val)]⟩ := by decide +kernel
  exact this ⟨k, h⟩
theorem run_lets (w : World) (c : UInt8) (h : c.toNat < 32) (q r : IntKind) (i j : Int) (hi : i = (c.toNat : Int)) (hj : j = (c.toNat : Int) + 1) : (Instr.sliceAt 9 (.string ⟨#[113, 112, 122, 114, 121, 57, 120, 56, 103, 102, 50, 116, 118, 100, 119, 48, 115, 51, 106, 110, 53, 52, 107, 104, 99, 101, 54, 109, 117, 97, 55, 108]⟩) (some (.int q i)) (some (.int r j)) none).run Tryd.prog w = .ok (.string ⟨#[letA c]⟩) w := by
  subst hi hj
  have hu : Tryd.prog.underlying 9 = some .string := by kernel_rfl
  have hs : letsS.size = 32 := rfl
  have e := letsS_extract c.toNat h
  rw [UInt8.ofNat_toNat] at e
  unfold letsS at e hs
  have b1 : (Instr.sliceBound (.int r ((c.toNat : Int) + 1)) 32 .sliceAlen).run Tryd.prog w = .ok (c.toNat + 1) w := by
    simp [Instr.sliceBound, asIntOf]
    omega
  have b2 : (Instr.sliceBound (.int q (c.toNat : Int)) (c.toNat + 1) .sliceB).run Tryd.prog w = .ok c.toNat w := by
    simp [Instr.sliceBound, asIntOf]
    omega
  simp [Instr.sliceAt, Instr.slice, run_underlying hu, Instr.sliceBounds, hs, b1, b2, e]

theorem tx_one (l : List UInt8) (c : UInt8) : (⟨l.toArray⟩ : ByteArray) ++ ⟨#[c]⟩ = ⟨(l ++ [c]).toArray⟩ := tx_append l [c]

/-- The first letters of the six. -/
def sixTo (n k : Nat) : List UInt8 := (((six n).map UInt8.ofNat).map letA).take k
theorem sixTo_length (n k : Nat) : (sixTo n k).length ≤ 6 := by simp [sixTo, six]; omega

def sx (n k : Nat) : UInt8 := UInt8.ofNat (n / 2 ^ (25 - 5 * k) % 32)
theorem sx_nat (n k : Nat) : (sx n k).toNat = n / 2 ^ (25 - 5 * k) % 32 := by simp only [sx, UInt8.toNat_ofNat']; omega
theorem sx_lt (n k : Nat) : (sx n k).toNat < 32 := by rw [sx_nat]; omega
theorem sixTo_step (n k : Nat) (h : k < 6) : sixTo n (k + 1) = sixTo n k ++ [letA (sx n k)] := by
  match k, h with
  | 0, _ | 1, _ | 2, _ | 3, _ | 4, _ => simp [sixTo, six, sx]
  | 5, _ => simp [sixTo, six, sx]
theorem run_sx (w : World) (n k : Nat) (i j : Int) (hi : i = ((n / 2 ^ (25 - 5 * k) % 32 : Nat) : Int)) (hj : j = ((n / 2 ^ (25 - 5 * k) % 32 : Nat) : Int) + 1) : (Instr.sliceAt 9 (.string ⟨#[113, 112, 122, 114, 121, 57, 120, 56, 103, 102, 50, 116, 118, 100, 119, 48, 115, 51, 106, 110, 53, 52, 107, 104, 99, 101, 54, 109, 117, 97, 55, 108]⟩) (some (.int .u32 i)) (some (.int .u32 j)) none).run Tryd.prog w = .ok (.string ⟨#[letA (sx n k)]⟩) w :=
  run_lets w (sx n k) (sx_lt n k) .u32 .u32 i j (by rw [hi, sx_nat]) (by rw [hj, sx_nat])

set_option maxHeartbeats 2000000 in
set_option maxRecDepth 100000 in
theorem rencode_ok (w : World) (s : ByteArray) (hs : s.size ≤ 100000) (B : Nat) (v : Value) (l : List UInt8) (h : Rd B w v l) (hl : l.length ≤ 100000) (hok : hdOk (bl s) l = true) :
    Calls Tryd.prog 14 #[.string s, v] w fun e w' => e = .returned (.tuple #[.string ⟨(encL (bl s) l).toArray⟩, .int .i64 (encE (bl s) l)]) ∧ Below w.heap.size w w' := by
  have hrd : Hid (Rs w v l) := h.rs
  have HK : Hid (hdOk (bl s) l = true) := hok
  have HE : Hid (encL (bl s) l = wordL (bl s) l ∧ encE (bl s) l = 0) := enc_ok hok
  obtain ⟨ao, cap, rfl⟩ := h.len
  clear h hok
  go_enter Tryd.func14, Tryd.ntmps14
  go_wp2_with fail
  refine (may_any w s hs _ _ l hrd.out hl).mono ?_
  rw [HK.out]
  rintro e w1 ⟨rfl, rfl⟩
  go_wp2_with fail
  refine (headed_any _ s hs).mono ?_
  rintro e w2 ⟨v2, rfl, ho2, hb2⟩
  have hlen : (hrow (bl s)).length ≤ 300000 := by simp [hrow_eq, bl_length]; omega
  go_wp2_with (first
    | (at_builtin; refine wpList_append_rd Tryd.bt rfl (.tmp 17) (.tmp 18) rfl _ _ _ _ _ l rfl ho2 rfl (hrd.out.gr hb2) (by omega) (by have := hb2.size; omega) ?_; intro v3 w3 ho3 hb3)
    | (at_builtin; refine wpList_append_rd Tryd.bt rfl (.tmp 20) (.tmp 21) rfl _ _ _ _ _ [0, 0, 0, 0, 0, 0] rfl (ho3.alloc _) rfl (Rd.lit 5 w3 [0, 0, 0, 0, 0, 0] _ rfl 6 rfl) (by simp; omega) (by have := hb2.size; have := hb3.size; simp; omega) ?_; intro v4 w4 ho4 hb4))
  have Hb4 : Hid (Below w1.heap.size w1 w4) := (hb2.trans hb3).trans (((Below.refl _ _).alloc (by have := hb2.size; have := hb3.size; omega) _).trans hb4)
  obtain ⟨q, Hq⟩ : ∃ q : Nat, Hid (ck (hrow (bl s) ++ l ++ zeros6) = q) := ⟨ck (hrow (bl s) ++ l ++ zeros6), rfl⟩
  refine (rcheck_r w4 _ v4 _ ho4.rd (by simp; omega) q Hq.out).mono ?_
  rintro e w5 ⟨rfl, hb5⟩
  have Hb5 : Hid (Below w1.heap.size w1 w5) := Hb4.out.trans (hb5.mono Hb4.out.size)
  have hx : bits .xor .u32 (q : Int) 734539939 = ((lacks (bl s) l : Nat) : Int) := by
    have := u32_xor_nat q 734539939 (by rw [← Hq.out]; have := ck_lt (hrow (bl s) ++ l ++ zeros6); omega) (by decide)
    rw [← Hq.out] at this ⊢
    exact this
  have HL : Hid ((closeL (bl s) l).map letA = sixTo (lacks (bl s) l) 6) := rfl
  have Hn : Hid (lacks (bl s) l < 1073741824) := lacks_lt _ _
  generalize lacks (bl s) l = n at hx HL Hn
  have HS0 : Hid (s ++ ⟨#[49]⟩ = (⟨(bl s ++ [49]).toArray⟩ : ByteArray)) := by
    show _ = _
    conv => lhs; rw [tx_bl s]
    exact tx_append _ [49]
  clear ho2 hb2 ho3 hb3 ho4 hb4 hb5 Hb4 hlen
  go_wp2_with fail
  rw [HS0.out]
  go_loopw [8, 9] (fun t i wr => ∃ k : Nat, k ≤ l.length ∧ i = .int .i64 k ∧ t = .string ⟨(bl s ++ [49] ++ (l.take k).map letA).toArray⟩ ∧ Below w1.heap.size w1 wr) (fun _ i _ => l.length - (intOf i).toNat)
  case atStart => exact ⟨0, by omega, rfl, by simp, Hb5.out⟩
  case round =>
    obtain ⟨k, hk, rfl, rfl, hb⟩ := hrel
    have Hb : Hid (Below w1.heap.size w1 wr) := hb
    by_cases hlt : k < l.length
    · obtain ⟨b0, off, cap', ev, hcap, _, hc⟩ := (hrd.out.gr hb).at (by omega)
      simp only [Value.slice.injEq] at ev
      obtain ⟨rfl, _, rfl⟩ := ev
      have hck := hc k hlt
      have hc32 : l[k].toNat < 32 := (hdOk_len HK.out).2.2.2 _ (List.getElem_mem hlt)
      have hlet := fun w => run_lets w l[k] hc32 .u8 .u8 _ _ rfl rfl
      have HS : Hid ((⟨(bl s ++ [49] ++ (l.take (k + 1)).map letA).toArray⟩ : ByteArray) = ⟨(bl s ++ [49] ++ (l.take k).map letA).toArray⟩ ++ ⟨#[letA l[k]]⟩) := by
        show _ = _
        rw [tx_one, map_take_succ letA l k hlt, ← List.append_assoc]
      have hz : (⟨(bl s ++ [49] ++ (l.take k).map letA).toArray⟩ : ByteArray).size ≤ 300000 := by rw [tx_size]; simp [bl_length]; omega
      generalize (⟨(bl s ++ [49] ++ (l.take k).map letA).toArray⟩ : ByteArray) = X at HS hz
      generalize letA l[k] = d at hlet HS
      generalize l[k].toNat = c at hck hlet hc32
      clear hc hb
      go_wp2_with fail
      go_quiet (fail)
      go_wp2
      go_roundw
      case rel => exact ⟨k + 1, by omega, by go_num, by rw [HS.out], Hb.out.trans (Below.drewN' _ _ _)⟩
      case measure => simp [intOf]; omega
    · obtain rfl : k = l.length := by omega
      rw [List.take_length]
      clear hb
      go_wp2_with fail
      go_loopw [8, 10] (fun t i wr => ∃ k : Nat, k ≤ 6 ∧ i = .int .i64 k ∧ t = .string ⟨(bl s ++ [49] ++ l.map letA ++ sixTo n k).toArray⟩ ∧ Below w1.heap.size w1 wr) (fun _ i _ => 6 - (intOf i).toNat)
      case atStart => exact ⟨0, by omega, rfl, by simp [sixTo], Hb.out⟩
      case round =>
        obtain ⟨k, hk, rfl, rfl, hb⟩ := hrel
        have Hb' : Hid (Below w1.heap.size w1 wr) := hb
        clear hb
        by_cases hk6 : k < 6
        · have HS : Hid ((⟨(bl s ++ [49] ++ l.map letA ++ sixTo n (k + 1)).toArray⟩ : ByteArray) = ⟨(bl s ++ [49] ++ l.map letA ++ sixTo n k).toArray⟩ ++ ⟨#[letA (sx n k)]⟩) := by
            show _ = _
            rw [tx_one, sixTo_step n k hk6, ← List.append_assoc]
          have hz : (⟨(bl s ++ [49] ++ l.map letA ++ sixTo n k).toArray⟩ : ByteArray).size ≤ 300000 := by rw [tx_size]; have := sixTo_length n k; simp [bl_length]; omega
          have hrun := fun w => run_sx w n k
          generalize (⟨(bl s ++ [49] ++ l.map letA ++ sixTo n k).toArray⟩ : ByteArray) = X at HS hz
          generalize letA (sx n k) = d at hrun HS
          have Hrun : Hid (∀ (w : World) (i j : Int), i = ((n / 2 ^ (25 - 5 * k) % 32 : Nat) : Int) → j = ((n / 2 ^ (25 - 5 * k) % 32 : Nat) : Int) + 1 → _) := hrun
          clear hrun
          obtain rfl | rfl | rfl | rfl | rfl | rfl : k = 0 ∨ k = 1 ∨ k = 2 ∨ k = 3 ∨ k = 4 ∨ k = 5 := by omega
          · have hix := fun w => Hrun.out w ((n : Int) / 33554432 % 32) ((n : Int) / 33554432 % 32 + 1) (by omega) (by omega)
            go_wp2
            go_roundw
            case rel => exact ⟨0 + 1, by omega, rfl, by rw [HS.out], Hb'.out⟩
            case measure => simp [intOf]
          · have hix := fun w => Hrun.out w ((n : Int) / 1048576 % 32) ((n : Int) / 1048576 % 32 + 1) (by omega) (by omega)
            go_wp2
            go_roundw
            case rel => exact ⟨1 + 1, by omega, rfl, by rw [HS.out], Hb'.out⟩
            case measure => simp [intOf]
          · have hix := fun w => Hrun.out w ((n : Int) / 32768 % 32) ((n : Int) / 32768 % 32 + 1) (by omega) (by omega)
            go_wp2
            go_roundw
            case rel => exact ⟨2 + 1, by omega, rfl, by rw [HS.out], Hb'.out⟩
            case measure => simp [intOf]
          · have hix := fun w => Hrun.out w ((n : Int) / 1024 % 32) ((n : Int) / 1024 % 32 + 1) (by omega) (by omega)
            go_wp2
            go_roundw
            case rel => exact ⟨3 + 1, by omega, rfl, by rw [HS.out], Hb'.out⟩
            case measure => simp [intOf]
          · have hix := fun w => Hrun.out w ((n : Int) / 32 % 32) ((n : Int) / 32 % 32 + 1) (by omega) (by omega)
            go_wp2
            go_roundw
            case rel => exact ⟨4 + 1, by omega, rfl, by rw [HS.out], Hb'.out⟩
            case measure => simp [intOf]
          · have hix := fun w => Hrun.out w ((n : Int) % 32) ((n : Int) % 32 + 1) (by omega) (by omega)
            go_wp2
            go_roundw
            case rel => exact ⟨5 + 1, by omega, rfl, by rw [HS.out], Hb'.out⟩
            case measure => simp [intOf]
        · obtain rfl : k = 6 := by omega
          rw [← HL.out]
          go_wp2
          go_ret2
          rw [HE.out.1, HE.out.2]
          exact ⟨rfl, Hb'.out⟩

theorem rencode_any (w : World) (s : ByteArray) (hs : s.size ≤ 100000) (B : Nat) (v : Value) (l : List UInt8) (h : Rd B w v l) (hl : l.length ≤ 100000) :
    Calls Tryd.prog 14 #[.string s, v] w fun e w' => e = .returned (.tuple #[.string ⟨(encL (bl s) l).toArray⟩, .int .i64 (encE (bl s) l)]) ∧ Below w.heap.size w w' := by
  cases hok : hdOk (bl s) l with
  | true => exact rencode_ok w s hs B v l h hl hok
  | false =>
    have hm := may_any w s hs B v l h hl
    rw [hok] at hm
    rw [(enc_no hok).1, (enc_no hok).2]
    clear hok h
    go_enter Tryd.func14, Tryd.ntmps14
    go_wp2_with (go_at_call 29; refine hm.mono ?_; rintro e w' ⟨rfl, rfl⟩)
    go_ret2
    exact ⟨rfl, Below.refl _ _⟩
end Go.Proofs.YtemgaoikngebeaaDoor
