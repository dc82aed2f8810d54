/-
  Contract of the document's Decode.
-/
import Derived.Test.YtemgaoikngebeaaDoorB8
namespace Go.Proofs.YtemgaoikngebeaaDoor
open Go.RowKit

theorem rencode_r (w : World) (s : ByteArray) (hs : s.size ≤ 100000) (B : Nat) (v : Value) (l : List UInt8) (h : Rd B w v l) (hl : l.length ≤ 100000) (E : ByteArray) (x : Int) (hE : bl E = encL (bl s) l) (hx : encE (bl s) l = x) :
    Calls Tryd.prog 14 #[.string s, v] w fun e w' => e = .returned (.tuple #[.string E, .int .i64 x]) ∧ Below w.heap.size w w' := by
  subst hx
  have := rencode_any w s hs B v l h hl
  rw [← hE, ← tx_bl] at this
  exact this

/-- What has been read so far. -/
theorem mid_at (s : ByteArray) (p k : Nat) (hk : p + 1 + k < s.size - 6) (hm : bl (s.extract (p + 1) (s.size - 6)) = midOf (bl s)) :
    ∃ h1 : k < (midOf (bl s)).length, ∃ h2 : p + 1 + k < (bl s).length, (midOf (bl s))[k] = (bl s)[p + 1 + k] := by
  rw [bl_cut] at hm
  have hl : (midOf (bl s)).length = s.size - 6 - (p + 1) := by rw [← hm]; simp [bl_length]
  refine ⟨by omega, by rw [bl_length]; omega, ?_⟩
  have : (midOf (bl s))[k]? = (bl s)[p + 1 + k]? := by
    rw [← hm, List.getElem?_drop, List.getElem?_take, if_pos hk]
  rw [List.getElem?_eq_getElem (by omega), List.getElem?_eq_getElem (by rw [bl_length]; omega)] at this
  exact Option.some.inj this

set_option maxHeartbeats 2000000 in
theorem rdecode_any (w : World) (s : ByteArray) (hs : s.size ≤ 100000) :
    Calls Tryd.prog 16 #[.string s] w fun e w' => ∃ v', e = .returned (.tuple #[.string ⟨(decH (bl s)).toArray⟩, v', .int .i64 (decF (bl s))]) ∧ Own 5 w.heap.size w' v' (decD (bl s)) ∧ Below w.heap.size w w' := by
  have Hcases := (show Hid _ from cut_cases s)
  go_enter Tryd.func16, Tryd.ntmps16
  go_wp2
  go_loop [5] (fun i => ∃ k : Nat, k ≤ s.size ∧ i = .int .i64 ((k : Int) - 1) ∧ Hid (∀ j (hj : j < (bl s).length), k ≤ j → (bl s)[j] ≠ 49)) (fun i => (intOf i + 1).toNat)
  case atStart => exact ⟨s.size, by omega, rfl, fun j hj h => by rw [bl_length] at hj; omega⟩
  case round =>
    obtain ⟨k, hk, rfl, HN⟩ := hrel
    cases k with
    | zero =>
      have HP : Hid (pI (bl s) = -1) := pI_none fun j hj => HN.out j hj (by omega)
      have HE : Hid (decH (bl s) = [] ∧ decD (bl s) = [] ∧ decF (bl s) = 3) := dec_no (by
        rcases Hcases.out with ⟨_, hc⟩ | ⟨_, _, _, _, hc⟩ | ⟨p, _, h2, _⟩
        · rw [decOk, hc]; rfl
        · rw [decOk, hc]; rfl
        · rw [HP.out] at h2; omega)
      clear Hcases
      go_wp2
      go_ret3
      rw [HE.out.1, HE.out.2.1, HE.out.2.2]
      exact ⟨_, rfl, Own.nil _ _ _, Below.refl _ _⟩
    | succ k =>
      have hlt : k < s.size := by omega
      have hb : k < (bl s).length := by rw [bl_length]; exact hlt
      have hix := fun w => run_at s k hlt _ rfl w (k : Int) rfl
      have ek : ((k + 1 : Nat) : Int) - 1 = (k : Int) := by omega
      rw [ek]
      by_cases hc : (bl s)[k] = 49
      · have HP : Hid (pI (bl s) = (k : Int)) := (place_at k hb hc fun j hj h => HN.out j hj (by omega)).2.2
        have hcn : (bl s)[k].toNat = 49 := by rw [hc]; rfl
        rw [hcn] at hix
        clear hc hcn hb ek HN
        by_cases h7 : s.size < k + 7
        · have HE : Hid (decH (bl s) = [] ∧ decD (bl s) = [] ∧ decF (bl s) = 3) := dec_no (by
            rcases Hcases.out with ⟨_, hc⟩ | ⟨_, _, _, _, hc⟩ | ⟨p, h1, h2, _⟩
            · rw [decOk, hc]; rfl
            · rw [decOk, hc]; rfl
            · rw [HP.out] at h2; omega)
          have d : decide ((s.size : Int) - (k : Int) < 7) = true := by simp; omega
          clear Hcases
          go_wp2
          go_ret3
          rw [HE.out.1, HE.out.2.1, HE.out.2.2]
          exact ⟨_, rfl, Own.nil _ _ _, Below.refl _ _⟩
        · obtain ⟨HC, HH, HM⟩ : Hid (cutOk (bl s) = true) ∧ Hid (bl (s.extract 0 k) = headOf (bl s)) ∧ Hid (bl (s.extract (k + 1) (s.size - 6)) = midOf (bl s)) := by
            rcases Hcases.out with ⟨h1, _⟩ | ⟨p, _, h1, h2, _⟩ | ⟨p, h1, h2, h3, h4, h5⟩
            · rw [HP.out] at h1; omega
            · rw [HP.out] at h2; omega
            · rw [HP.out] at h2
              obtain rfl : k = p := by omega
              exact ⟨h3, h4, h5⟩
          have h7' : k + 7 ≤ s.size := by omega
          have d : decide ((s.size : Int) - (k : Int) < 7) = false := by simp; omega
          clear Hcases h7
          go_wp2_with fail
          go_loopw [6, 7] (fun b i wr => ∃ j m : Nat, m + 6 ≤ s.size ∧ i = .int .i64 m ∧ Hid (m = k + 1 + j) ∧ Own 5 w.heap.size wr b (((midOf (bl s)).take j).map numOf) ∧ Below w.heap.size w wr ∧ Hid (((midOf (bl s)).take j).all isLet = true)) (fun _ i _ => s.size - (intOf i).toNat)
          case atStart => exact ⟨0, k + 1, by omega, by go_num, rfl, Own.empty 5 w.heap.size w (Nat.le_refl _), (Below.refl _ _).alloc (Nat.le_refl _) _, rfl⟩
          case round =>
            obtain ⟨j, m, hj, rfl, HJ, ho, hb, HA⟩ := hrel
            have Hb : Hid (Below w.heap.size w wr) := hb
            by_cases hjl : m + 6 < s.size
            · obtain ⟨hm1, hm2, hm3⟩ := mid_at s k j (by have := HJ.out; omega) HM.out
              have hix2 := fun w => run_at s (k + 1 + j) (by have := HJ.out; omega) _ rfl w (m : Int) (by rw [HJ.out])
              rw [← hm3] at hix2
              have HI : Hid (∀ w, Calls Tryd.prog 33 #[.int .u8 ((midOf (bl s))[j].toNat : Int)] w fun e w' => e = .returned (.int .i64 (plI (midOf (bl s))[j])) ∧ w' = w) := fun w => place_any w _
              have HS : Hid (((midOf (bl s)).take (j + 1)).all isLet = (((midOf (bl s)).take j).all isLet && isLet (midOf (bl s))[j])) := all_take_succ isLet _ j hm1
              have hd : decide ((m : Int) < (s.size : Int) - 6) = true := by simp; omega
              cases hc : isLet (midOf (bl s))[j] with
              | false =>
                have HE : Hid (decH (bl s) = [] ∧ decD (bl s) = [] ∧ decF (bl s) = 3) := dec_no (by rw [decOk, all_false_of isLet _ j hm1 hc]; simp)
                rw [plI_no hc] at HI
                generalize (midOf (bl s))[j].toNat = c at hix2 HI
                clear hc hm1 hm2 hm3 ho hb HS
                go_wp2_with (go_at_call 33; refine (HI.out _).mono ?_; rintro e w' ⟨rfl, rfl⟩)
                go_ret3
                rw [HE.out.1, HE.out.2.1, HE.out.2.2]
                exact ⟨_, rfl, Own.nil _ _ _, Hb.out⟩
              | true =>
                have HP : Hid (((midOf (bl s)).take (j + 1)).all isLet = true) := by show _ = _; rw [HS.out, HA.out, hc]; rfl
                obtain ⟨hp1, hp2, hp3⟩ := plI_byte hc
                have HT : Hid (((midOf (bl s)).take (j + 1)).map numOf = ((midOf (bl s)).take j).map numOf ++ [numOf (midOf (bl s))[j]]) := map_take_succ numOf _ j hm1
                have hlen : (((midOf (bl s)).take j).map numOf).length ≤ 100000 := by have := HJ.out; simp; omega
                generalize numOf (midOf (bl s))[j] = d at hp1 HT
                generalize (midOf (bl s))[j].toNat = c at hix2 HI
                generalize plI (midOf (bl s))[j] = p at hp1 hp2 hp3 HI
                obtain ⟨p, rfl⟩ := Int.eq_ofNat_of_zero_le hp2
                have HP1 : Hid ((p : Int) = (d.toNat : Int)) := by show _ = _; omega
                have hp4 : p < 32 := by omega
                clear hc hm1 hm2 hm3 HS hp1 hp2 hp3
                go_wp2_with (first
                  | (go_at_call 33; refine (HI.out _).mono ?_; rintro e w' ⟨rfl, rfl⟩)
                  | (at_builtin; refine wpList_append_rd Tryd.bt rfl (.tmp 49) (.tmp 52) rfl w.heap.size _ _ _ _ [d] rfl (ho.alloc _) rfl (Rd.one 5 _ _ _ HP1.out) (by show _ + 1 ≤ _; omega) (by have := hb.size; simp; omega) ?_; intro v2 w2 ho2 hb2))
                go_roundw
                case rel => exact ⟨j + 1, m + 1, by omega, by go_num, by have := HJ.out; show _ = _; omega, by rw [HT.out]; exact ho2, Hb.out.trans (((Below.refl _ _).alloc (by have := Hb.out.size; omega) _).trans hb2), HP.out⟩
                case measure => simp [intOf]; omega
            · have hmid : (midOf (bl s)).length = j := by
                have := HJ.out
                rw [← HM.out, bl_length]; simp; omega
              rw [List.take_of_length_le (by omega), ← numsOf_eq] at ho
              have HALL : Hid ((midOf (bl s)).all isLet = true) := by
                have := HA.out
                rw [List.take_of_length_le (by omega)] at this
                exact this
              have Ho1 : Hid (Own 5 w.heap.size wr u6 (dataOf (bl s))) := ho
              have Hlen : Hid ((dataOf (bl s)).length ≤ 100000) := by
                have := HJ.out
                show _ ≤ _
                simp only [dataOf, numsOf, List.length_map]; omega
              have hz : (s.extract 0 k).size ≤ 100000 := by simp; omega
              have hd : decide ((m : Int) < (s.size : Int) - 6) = false := by simp; omega
              clear ho hb hmid
              cases hok : hdOk (headOf (bl s)) (dataOf (bl s)) with
              | false =>
                have HE : Hid (decH (bl s) = [] ∧ decD (bl s) = [] ∧ decF (bl s) = 3) := dec_no (by rw [decOk, hok]; simp)
                have HN : Hid (encL (headOf (bl s)) (dataOf (bl s)) = [] ∧ encE (headOf (bl s)) (dataOf (bl s)) = 1) := enc_no hok
                clear hok
                go_wp2_with fail
                refine (rencode_r _ (s.extract 0 k) hz _ u6 _ Ho1.out.rd Hlen.out ⟨#[]⟩ 1 (by rw [HH.out, HN.out.1]; rfl) (by rw [HH.out, HN.out.2])).mono ?_
                rintro e w2 ⟨rfl, hb2⟩
                have Hb2 : Hid (Below w.heap.size w w2) := Gr.trans Hb.out hb2
                clear hb2
                go_wp2
                go_ret3
                rw [HE.out.1, HE.out.2.1, HE.out.2.2]
                exact ⟨_, rfl, Own.nil _ _ _, Hb2.out⟩
              | true =>
                have HN : Hid (encL (headOf (bl s)) (dataOf (bl s)) = wordL (headOf (bl s)) (dataOf (bl s)) ∧ encE (headOf (bl s)) (dataOf (bl s)) = 0) := enc_ok hok
                by_cases hw : wordL (headOf (bl s)) (dataOf (bl s)) = bl s
                · have HE : Hid (decH (bl s) = headOf (bl s) ∧ decD (bl s) = dataOf (bl s) ∧ decF (bl s) = 0) := dec_ok (by rw [decOk, HC.out, HALL.out, hok]; simp [hw])
                  have HW : Hid (wordL (headOf (bl s)) (dataOf (bl s)) = bl s) := hw
                  clear hok hw
                  go_wp2_with fail
                  refine (rencode_r _ (s.extract 0 k) hz _ u6 _ Ho1.out.rd Hlen.out s 0 (by rw [HH.out, HN.out.1, HW.out]) (by rw [HH.out, HN.out.2])).mono ?_
                  rintro e w2 ⟨rfl, hb2⟩
                  have Hb2 : Hid (Below w.heap.size w w2) := Gr.trans Hb.out hb2
                  have Ho2 : Hid (Own 5 w.heap.size w2 u6 (dataOf (bl s))) := Ho1.out.keep hb2
                  clear hb2
                  have hq := tx_eq s
                  go_wp2
                  go_ret3
                  rw [HE.out.1, HE.out.2.1, HE.out.2.2, ← HH.out, ← tx_bl]
                  exact ⟨_, rfl, Ho2.out, Hb2.out⟩
                · have HE : Hid (decH (bl s) = [] ∧ decD (bl s) = [] ∧ decF (bl s) = 3) := dec_no (by rw [decOk, decide_eq_false hw]; simp)
                  have HW : Hid (wordL (headOf (bl s)) (dataOf (bl s)) ≠ bl s) := hw
                  obtain ⟨X, HX⟩ : ∃ X : ByteArray, Hid (bl X = wordL (headOf (bl s)) (dataOf (bl s))) := ⟨⟨(wordL (headOf (bl s)) (dataOf (bl s))).toArray⟩, bl_mk _⟩
                  clear hok hw
                  go_wp2_with fail
                  refine (rencode_r _ (s.extract 0 k) hz _ u6 _ Ho1.out.rd Hlen.out X 0 (by rw [HH.out, HN.out.1, HX.out]) (by rw [HH.out, HN.out.2])).mono ?_
                  rintro e w2 ⟨rfl, hb2⟩
                  have Hb2 : Hid (Below w.heap.size w w2) := Gr.trans Hb.out hb2
                  clear hb2
                  have hq : (X.toList == s.toList) = false := tx_ne (by rw [HX.out]; exact HW.out)
                  go_wp2
                  go_ret3
                  rw [HE.out.1, HE.out.2.1, HE.out.2.2]
                  exact ⟨_, rfl, Own.nil _ _ _, Hb2.out⟩
      · have HM : Hid (∀ j (hj : j < (bl s).length), k ≤ j → (bl s)[j] ≠ 49) := fun j hj h => by
          by_cases e : j = k
          · subst e; exact hc
          · exact HN.out j hj (by omega)
        have hcn : ¬ (bl s)[k].toNat = 49 := fun h => hc (UInt8.toNat_inj.1 h)
        generalize (bl s)[k].toNat = c at hix hcn
        have hcd : ((c : Int) == 49) = false := by simp; omega
        clear hc hb hcn ek Hcases
        go_wp2
        go_round
        case rel => exact ⟨k, by omega, rfl, HM.out⟩
        case measure => simp [intOf]
end Go.Proofs.YtemgaoikngebeaaDoor
