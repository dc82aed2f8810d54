/-
  Contracts of the library's LastIndex and IndexByte as package bech calls them, of its reading of letters, and of the document's place.
-/
import Derived.Test.YtemgaoikngebeaaDoorB6
import Derived.Lib.Bytealg
namespace Go.Proofs.YtemgaoikngebeaaDoor
open Go.RowKit

/-- The last place of a 1, or -1. -/
def pI (s : List UInt8) : Int := if behind s < s.length then (place s : Int) else -1
theorem behind_none (s : List UInt8) (h : ∀ c ∈ s, c ≠ 49) : behind s = s.length := by
  unfold behind
  have : s.reverse.idxOf 49 = s.reverse.length := by
    exact List.idxOf_eq_length (by simp only [List.mem_reverse]; exact fun hm => h 49 hm rfl)
  rw [this, List.length_reverse]
theorem pI_none {s : List UInt8} (h : ∀ j (hj : j < s.length), s[j] ≠ 49) : pI s = -1 := by
  have : behind s = s.length := behind_none s fun c hc => by
    obtain ⟨j, hj, rfl⟩ := List.mem_iff_getElem.1 hc
    exact h j hj
  rw [pI, if_neg (by omega)]
theorem place_at {s : List UInt8} (k : Nat) (hk : k < s.length) (h1 : s[k] = 49) (h : ∀ j (hj : j < s.length), k < j → s[j] ≠ 49) : behind s = s.length - 1 - k ∧ place s = k ∧ pI s = (k : Int) := by
  have e : s = s.take k ++ [49] ++ s.drop (k + 1) := by
    conv => lhs; rw [← List.take_append_drop k s, List.drop_eq_getElem_cons hk, h1]
    simp
  have hb : behind s = s.length - 1 - k := by
    have := behind_of (s.take k) (s.drop (k + 1)) fun c hc => by
      obtain ⟨j, hj, rfl⟩ := List.mem_iff_getElem.1 hc
      rw [List.getElem_drop]
      exact h _ _ (by omega)
    rw [← e] at this
    rw [this, List.length_drop]; omega
  have hp : place s = k := by rw [place, hb]; omega
  exact ⟨hb, hp, by rw [pI, if_pos (by omega), hp]⟩

set_option maxHeartbeats 1000000 in
theorem lastByte_any (w : World) (s : ByteArray) (hs : s.size ≤ 1000000) :
    Calls Tryd.prog 40 #[.string s, .int .u8 49] w fun e w' => e = .returned (.int .i64 (pI (bl s))) ∧ w' = w := by
  go_enter Tryd.func40, Tryd.ntmps40
  go_wp2
  go_loop [5] (fun i => ∃ k : Nat, k ≤ s.size ∧ i = .int .i64 ((k : Int) - 1) ∧ Hid (∀ j (hj : j < (bl s).length), k ≤ j → (bl s)[j] ≠ 49)) (fun i => (intOf i + 1).toNat)
  case atStart => exact ⟨s.size, by omega, rfl, fun j hj h => by rw [bl_length] at hj; omega⟩
  case round =>
    obtain ⟨k, hk, rfl, HN⟩ := hrel
    cases k with
    | zero =>
      have HP : Hid (pI (bl s) = -1) := pI_none fun j hj => HN.out j hj (by omega)
      go_wp2
      go_ret
      rw [HP.out]; exact ⟨rfl, rfl⟩
    | succ k =>
      have hlt : k < s.size := by omega
      have hb : k < (bl s).length := by rw [bl_length]; exact hlt
      have hix := fun w => run_at s k hlt _ rfl w (k : Int) rfl
      have ek : ((k + 1 : Nat) : Int) - 1 = (k : Int) := by omega
      rw [ek]
      by_cases hc : (bl s)[k] = 49
      · have HP : Hid (pI (bl s) = (k : Int)) := (place_at k hb hc fun j hj h => HN.out j hj (by omega)).2.2
        have hcn : (bl s)[k].toNat = 49 := by rw [hc]; rfl
        rw [hcn] at hix
        clear hc hcn hb ek
        go_wp2
        go_ret
        rw [HP.out]; exact ⟨rfl, rfl⟩
      · have HM : Hid (∀ j (hj : j < (bl s).length), k ≤ j → (bl s)[j] ≠ 49) := fun j hj h => by
          by_cases e : j = k
          · subst e; exact hc
          · exact HN.out j hj (by omega)
        have hcn : ¬ (bl s)[k].toNat = 49 := fun h => hc (UInt8.toNat_inj.1 h)
        generalize (bl s)[k].toNat = c at hix hcn
        have hcd : ((c : Int) == 49) = false := by simp; omega
        clear hc hb hcn ek
        go_wp2
        go_round
        case rel => exact ⟨k, by omega, rfl, HM.out⟩
        case measure => simp [intOf]

set_option maxHeartbeats 1000000 in
theorem lastIndex_any (w : World) (s : ByteArray) (hs : s.size ≤ 1000000) :
    Calls Tryd.prog 31 #[.string s, .string ⟨#[49]⟩] w fun e w' => e = .returned (.int .i64 (pI (bl s))) ∧ w' = w := by
  have hz : (⟨#[49]⟩ : ByteArray).size = 1 := rfl
  have hix := fun w => run_at ⟨#[49]⟩ 0 (by decide) 49 rfl w 0 rfl
  go_enter Tryd.func31, Tryd.ntmps31
  go_wp2_with (go_at_call 40; refine (lastByte_any _ s hs).mono ?_; rintro e w' ⟨rfl, rfl⟩)
  go_ret
  exact ⟨rfl, rfl⟩

/-- A letter's number, or -1. -/
def plI (c : UInt8) : Int := if plc c < 32 then (plc c : Int) else -1
theorem indexByte_lets (c : UInt8) : Lib.indexByte lets c = plI c := forall_u8 (p := fun c => Lib.indexByte lets c = plI c) (by decide +kernel) c
theorem plI_is {c : UInt8} (h : isLet c = true) : plI c = (plc c : Int) ∧ plc c < 32 := by
  simp only [isLet, decide_eq_true_eq] at h
  exact ⟨if_pos h, h⟩
theorem plI_no {c : UInt8} (h : isLet c = false) : plI c = -1 := by
  simp only [isLet, decide_eq_false_iff_not] at h
  exact if_neg h

set_option maxHeartbeats 1000000 in
set_option maxRecDepth 100000 in
theorem indexLite_any (w : World) (c : UInt8) :
    Calls Tryd.prog 46 #[.string ⟨#[113, 112, 122, 114, 121, 57, 120, 56, 103, 102, 50, 116, 118, 100, 119, 48, 115, 51, 106, 110, 53, 52, 107, 104, 99, 101, 54, 109, 117, 97, 55, 108]⟩, .int .u8 (c.toNat : Int)] w fun e w' => e = .returned (.int .i64 (plI c)) ∧ w' = w := by
  have hl : (⟨#[113, 112, 122, 114, 121, 57, 120, 56, 103, 102, 50, 116, 118, 100, 119, 48, 115, 51, 106, 110, 53, 52, 107, 104, 99, 101, 54, 109, 117, 97, 55, 108]⟩ : ByteArray).data.toList = lets := rfl
  have hc : ((c.toNat : Int)).toNat.toUInt8 = c := by simp
  have HI : Hid (Lib.indexByte lets c = plI c) := indexByte_lets c
  generalize (⟨#[113, 112, 122, 114, 121, 57, 120, 56, 103, 102, 50, 116, 118, 100, 119, 48, 115, 51, 106, 110, 53, 52, 107, 104, 99, 101, 54, 109, 117, 97, 55, 108]⟩ : ByteArray) = L at hl ⊢
  have HL : Hid (L.data.toList = lets) := hl
  have HC : Hid (((c.toNat : Int)).toNat.toUInt8 = c) := hc
  clear hl hc
  go_enter Tryd.func46, Tryd.ntmps46
  go_wp2
  rw [run_callFunc_extern Tryd.func47 (by kernel_rfl) (by kernel_rfl) (by kernel_rfl) (e := Extern.BytealgIndexByte.indexByte) (by kernel_rfl), Lib.run_indexByteString, HL.out, HC.out, HI.out]
  simp only [Result.andThen]
  rw [Oper.upon_value]
  go_wp2
  go_ret
  exact ⟨rfl, rfl⟩

set_option maxRecDepth 100000 in
theorem indexByte_any (w : World) (c : UInt8) :
    Calls Tryd.prog 42 #[.string ⟨#[113, 112, 122, 114, 121, 57, 120, 56, 103, 102, 50, 116, 118, 100, 119, 48, 115, 51, 106, 110, 53, 52, 107, 104, 99, 101, 54, 109, 117, 97, 55, 108]⟩, .int .u8 (c.toNat : Int)] w fun e w' => e = .returned (.int .i64 (plI c)) ∧ w' = w := by
  have hi := fun w => indexLite_any w c
  generalize (⟨#[113, 112, 122, 114, 121, 57, 120, 56, 103, 102, 50, 116, 118, 100, 119, 48, 115, 51, 106, 110, 53, 52, 107, 104, 99, 101, 54, 109, 117, 97, 55, 108]⟩ : ByteArray) = L at hi ⊢
  go_enter Tryd.func42, Tryd.ntmps42
  go_wp2_with (go_at_call 46; refine (hi _).mono ?_; rintro e w' ⟨rfl, rfl⟩)
  go_ret
  exact ⟨rfl, rfl⟩

theorem letA_hit (c : UInt8) (k : Nat) (hk : k < 32) (h : letA (UInt8.ofNat k) = c) : plI c = (k : Int) := by
  have : ∀ k : Fin 32, plI (letA (UInt8.ofNat k.val)) = (k.val : Int) := by decide +kernel
  rw [← h]; exact this ⟨k, hk⟩
theorem letA_miss (c : UInt8) (h : ∀ k, k < 32 → letA (UInt8.ofNat k) ≠ c) : plI c = -1 := by
  by_cases hl : plc c < 32
  · exact absurd (let_plc c hl) (h _ hl)
  · exact if_neg hl

set_option maxHeartbeats 1000000 in
set_option maxRecDepth 100000 in
theorem place_any (w : World) (c : UInt8) :
    Calls Tryd.prog 33 #[.int .u8 (c.toNat : Int)] w fun e w' => e = .returned (.int .i64 (plI c)) ∧ w' = w := by
  go_enter Tryd.func33, Tryd.ntmps33
  go_wp2
  go_loop [3] (fun i => ∃ k : Nat, k ≤ 32 ∧ i = .int .i64 k ∧ Hid (∀ j, j < k → letA (UInt8.ofNat j) ≠ c)) (fun i => 32 - (intOf i).toNat)
  case atStart => exact ⟨0, by omega, rfl, fun j hj => by omega⟩
  case round =>
    obtain ⟨k, hk, rfl, HN⟩ := hrel
    by_cases hlt : k < 32
    · have hk8 : (UInt8.ofNat k).toNat = k := by simp only [UInt8.toNat_ofNat']; omega
      have hix := fun w => run_let w (UInt8.ofNat k) .i64 (by rw [hk8]; exact hlt) (k : Int) (by rw [hk8])
      clear hk8
      by_cases he : letA (UInt8.ofNat k) = c
      · have HP : Hid (plI c = (k : Int)) := letA_hit c k hlt he
        rw [he] at hix
        have hd : ((c.toNat : Int) == (c.toNat : Int)) = true := by simp
        clear he
        go_wp2
        go_ret
        rw [HP.out]; exact ⟨rfl, rfl⟩
      · have HM : Hid (∀ j, j < k + 1 → letA (UInt8.ofNat j) ≠ c) := fun j hj => by
          by_cases e : j = k
          · subst e; exact he
          · exact HN.out j (by omega)
        have hd : (((letA (UInt8.ofNat k)).toNat : Int) == (c.toNat : Int)) = false := by
          simp; intro h; exact he (UInt8.toNat_inj.1 (by omega))
        generalize (letA (UInt8.ofNat k)).toNat = d at hix hd
        clear he
        go_wp2
        go_round
        case rel => exact ⟨k + 1, by omega, by go_num, HM.out⟩
        case measure => simp [intOf]; omega
    · obtain rfl : k = 32 := by omega
      have HP : Hid (plI c = -1) := letA_miss c HN.out
      go_wp2
      go_ret
      rw [HP.out]; exact ⟨rfl, rfl⟩

theorem equal_any (w : World) (A B : Nat) (u v : Value) (l m : List UInt8) (hu : Rd A w u l) (hv : Rd B w v m) :
    Calls Tryd.prog 35 #[u, v] w fun e w' => e = .returned (.bool (decide (l = m))) ∧ w' = w := by
  have HD : Hid (((⟨l.toArray⟩ : ByteArray).toList == (⟨m.toArray⟩ : ByteArray).toList) = decide (l = m)) := by
    show _ = _
    rw [Lib.toList_data, Lib.toList_data, Bool.eq_iff_iff]
    simp
  have c1 := run_conv_rd Tryd.bt 9 (by kernel_rfl) w _ _ _ hu
  have c2 := run_conv_rd Tryd.bt 9 (by kernel_rfl) w _ _ _ hv
  clear hu hv
  generalize (⟨l.toArray⟩ : ByteArray) = L at c1 HD
  generalize (⟨m.toArray⟩ : ByteArray) = M at c2 HD
  go_enter Tryd.func35, Tryd.ntmps35
  go_wp2
  go_ret
  rw [← HD.out]
  exact ⟨rfl, rfl⟩
end Go.Proofs.YtemgaoikngebeaaDoor
