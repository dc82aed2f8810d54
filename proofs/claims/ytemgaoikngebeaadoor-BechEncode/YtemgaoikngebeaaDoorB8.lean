/-
  Contracts of package bech: the reading of letters, Decode.
-/
import Derived.Test.YtemgaoikngebeaaDoorB7
namespace Go.Proofs.YtemgaoikngebeaaDoor
open Go.RowKit

def rdL (l : List UInt8) : List UInt8 := if l.all isLet = true then numsOf l else []
theorem rdL_ok {l : List UInt8} (h : l.all isLet = true) : rdL l = numsOf l := if_pos h
theorem rdL_no {l : List UInt8} (h : l.all isLet = false) : rdL l = [] := by simp [rdL, h]
def numOf (c : UInt8) : UInt8 := UInt8.ofNat (plc c)
theorem numsOf_eq (l : List UInt8) : numsOf l = l.map numOf := rfl

theorem plI_byte {c : UInt8} (h : isLet c = true) : plI c % 256 = ((numOf c).toNat : Int) ∧ 0 ≤ plI c ∧ plI c < 32 := by
  obtain ⟨h1, h2⟩ := plI_is h
  rw [h1]
  simp only [numOf, UInt8.toNat_ofNat']
  omega

set_option maxHeartbeats 1000000 in
set_option maxRecDepth 100000 in
theorem read_any (w : World) (s : ByteArray) (hs : s.size ≤ 100000) :
    Calls Tryd.prog 32 #[.string s] w fun e w' => ∃ v', e = .returned (.tuple #[v', .bool ((bl s).all isLet)]) ∧ Own 5 w.heap.size w' v' (rdL (bl s)) ∧ Below w.heap.size w w' := by
  go_enter Tryd.func32, Tryd.ntmps32
  go_wp2_with (at_make; refine wpList_make_nums Tryd.bt rfl _ _ rfl w.heap.size _ _ s.size rfl rfl (by omega) (Nat.le_refl _) ?_; intro g w1 ho1 hb1 _ hg1)
  go_loopw [12] (fun i wr => ∃ k : Nat, k ≤ s.size ∧ i = .int .i64 k ∧ Own 5 w.heap.size wr (.slice (some ⟨g, 0, none⟩) s.size s.size) (((bl s).take k).map numOf ++ (List.replicate s.size 0).drop k) ∧ Below w.heap.size w wr ∧ Hid (((bl s).take k).all isLet = true)) (fun i _ => s.size - (intOf i).toNat)
  case atStart => exact ⟨0, by omega, rfl, by simpa using ho1, hb1, rfl⟩
  case round =>
    obtain ⟨k, hk, rfl, ho, hb, HA⟩ := hrel
    have Hb : Hid (Below w.heap.size w wr) := hb
    by_cases hlt : k < s.size
    · have hbl : k < (bl s).length := by rw [bl_length]; exact hlt
      have hix := fun w => run_at s k hlt _ rfl w (k : Int) rfl
      have HI : Hid (∀ w, Calls Tryd.prog 42 #[.string ⟨#[113, 112, 122, 114, 121, 57, 120, 56, 103, 102, 50, 116, 118, 100, 119, 48, 115, 51, 106, 110, 53, 52, 107, 104, 99, 101, 54, 109, 117, 97, 55, 108]⟩, .int .u8 ((bl s)[k].toNat : Int)] w fun e w' => e = .returned (.int .i64 (plI (bl s)[k])) ∧ w' = w) := fun w => indexByte_any w _
      have HS : Hid (((bl s).take (k + 1)).all isLet = (((bl s).take k).all isLet && isLet (bl s)[k])) := all_take_succ isLet _ k hbl
      cases hc : isLet (bl s)[k] with
      | false =>
        have HP : Hid ((bl s).all isLet = false) := all_false_of isLet _ k hbl hc
        have hp := plI_no hc
        rw [hp] at HI
        generalize (bl s)[k].toNat = c at hix HI
        clear hc hbl ho hb hp HS
        go_wp2_with (go_at_call 42; refine (HI.out _).mono ?_; rintro e w' ⟨rfl, rfl⟩)
        go_ret2
        rw [HP.out, rdL_no HP.out]
        exact ⟨_, rfl, Own.nil _ _ _, Hb.out⟩
      | true =>
        have HP : Hid (((bl s).take (k + 1)).all isLet = true) := by show _ = _; rw [HS.out, HA.out, hc]; rfl
        obtain ⟨hp1, hp2, hp3⟩ := plI_byte hc
        have hlen : (((bl s).take k).map numOf ++ (List.replicate s.size (0 : UInt8)).drop k).length = s.size := by simp [bl_length]; omega
        have hwas := Own.was ho hlen k (by rw [hlen]; exact hlt)
        obtain ⟨hwc, hwf⟩ := hwas
        generalize ((((bl s).take k).map numOf ++ (List.replicate s.size (0 : UInt8)).drop k)[k]'(by rw [hlen]; exact hlt)).toNat = old at hwc
        have hst := fillStep (bl s) numOf k hbl
        rw [bl_length] at hst
        have HN : Hid (∀ z : Int, z = ((numOf (bl s)[k]).toNat : Int) → Own 5 w.heap.size (wr.setCell ⟨g, k, none⟩ (.int .u8 z)) (.slice (some ⟨g, 0, none⟩) s.size s.size) (((bl s).take (k + 1)).map numOf ++ (List.replicate s.size 0).drop (k + 1)) ∧ Below w.heap.size wr (wr.setCell ⟨g, k, none⟩ (.int .u8 z))) := fun z hz => by
          have := Own.store ho k _ z hz
          rw [hst] at this
          exact this
        generalize (numOf (bl s)[k]).toNat = d at hp1 HN
        generalize (bl s)[k].toNat = c at hix HI
        generalize plI (bl s)[k] = p at hp1 hp2 hp3 HI
        obtain ⟨p, rfl⟩ := Int.eq_ofNat_of_zero_le hp2
        have HP1 : Hid ((p : Int) % 256 = (d : Int)) := hp1
        have hp4 : p < 32 := by omega
        clear hc hbl ho hb HS hst hlen hp1 hp2 hp3
        go_wp2_with (go_at_call 42; refine (HI.out _).mono ?_; rintro e w' ⟨rfl, rfl⟩)
        go_roundw
        case rel => exact ⟨k + 1, by omega, by go_num, (HN.out _ (by have := HP1.out; omega)).1, Hb.out.trans (HN.out _ (by have := HP1.out; omega)).2, HP.out⟩
        case measure => simp [intOf]; omega
    · obtain rfl : k = s.size := by omega
      have HP : Hid ((bl s).all isLet = true) := by
        have := HA.out
        rw [List.take_of_length_le (by rw [bl_length]; omega)] at this
        exact this
      have Ho : Hid (Own 5 w.heap.size wr (.slice (some ⟨g, 0, none⟩) s.size s.size) (numsOf (bl s))) := by
        rw [List.take_of_length_le (by rw [bl_length]; omega)] at ho
        have h2 : Own 5 w.heap.size wr (.slice (some ⟨g, 0, none⟩) s.size s.size) (numsOf (bl s)) := by simpa [numsOf_eq] using ho
        exact h2
      clear ho hb
      go_wp2
      go_ret2
      rw [HP.out, rdL_ok HP.out]
      exact ⟨_, rfl, Ho.out, Hb.out⟩

theorem bl_cut (s : ByteArray) (a b : Nat) : bl (s.extract a b) = ((bl s).take b).drop a := by
  conv => lhs; rw [tx_bl s, tx_cut, bl_mk]
theorem bl_inj {s t : ByteArray} (h : bl s = bl t) : s = t := by rw [tx_bl s, tx_bl t, h]
theorem tx_ne {s t : ByteArray} (h : bl s ≠ bl t) : (s.toList == t.toList) = false := by
  rw [Lib.toList_data, Lib.toList_data]
  simpa [bl] using h
theorem tx_eq (s : ByteArray) : (s.toList == s.toList) = true := by simp

/-- Where the text is cut. -/
theorem cut_cases (s : ByteArray) : (pI (bl s) = -1 ∧ cutOk (bl s) = false) ∨ (∃ p : Nat, p < s.size ∧ s.size < p + 7 ∧ pI (bl s) = (p : Int) ∧ cutOk (bl s) = false) ∨
    (∃ p : Nat, p + 7 ≤ s.size ∧ pI (bl s) = (p : Int) ∧ cutOk (bl s) = true ∧ bl (s.extract 0 p) = headOf (bl s) ∧ bl (s.extract (p + 1) (s.size - 6)) = midOf (bl s)) := by
  by_cases h1 : behind (bl s) < (bl s).length
  · have hp : pI (bl s) = (place (bl s) : Int) := if_pos h1
    by_cases h2 : 6 ≤ behind (bl s)
    · refine .inr (.inr ⟨place (bl s), ?_, hp, ?_, ?_, ?_⟩)
      · rw [bl_length] at h1; unfold place; rw [bl_length]; omega
      · simp only [cutOk, h1, h2, decide_true, Bool.and_self]
      · rw [bl_cut]; rfl
      · rw [bl_cut, midOf, bl_length]
    · refine .inr (.inl ⟨place (bl s), ?_, ?_, hp, ?_⟩)
      · rw [bl_length] at h1; unfold place; rw [bl_length]; omega
      · rw [bl_length] at h1; unfold place; rw [bl_length]; omega
      · simp only [cutOk, h2, decide_false, Bool.and_false]
  · refine .inl ⟨if_neg h1, ?_⟩
    simp only [cutOk, h1, decide_false, Bool.false_and]

theorem encode_r (w : World) (s : ByteArray) (hs : s.size ≤ 100000) (B : Nat) (v : Value) (l : List UInt8) (h : Rd B w v l) (hl : l.length ≤ 100000) (ht : Tn w) (E : ByteArray) (x : Int) (hE : bl E = encL (bl s) l) (hx : encE (bl s) l = x) :
    Calls Tryd.prog 13 #[.string s, v] w fun e w' => e = .returned (.tuple #[.string E, .int .i64 x]) ∧ Below w.heap.size w w' := by
  subst hx
  have := encode_any w s hs B v l h hl ht
  rw [← hE, ← tx_bl] at this
  exact this
theorem lastIndex_r (w : World) (s : ByteArray) (hs : s.size ≤ 1000000) (x : Int) (hx : pI (bl s) = x) :
    Calls Tryd.prog 31 #[.string s, .string ⟨#[49]⟩] w fun e w' => e = .returned (.int .i64 x) ∧ w' = w := by
  subst hx; exact lastIndex_any w s hs

set_option maxHeartbeats 1000000 in
theorem decode_cut (w : World) (s : ByteArray) (hs : s.size ≤ 100000) (hc : cutOk (bl s) = false) :
    Calls Tryd.prog 15 #[.string s] w fun e w' => e = .returned (.tuple #[.string ⟨#[]⟩, .slice none 0 0, .int .i64 3]) ∧ Below w.heap.size w w' := by
  rcases cut_cases s with ⟨h1, h2⟩ | ⟨p, h1, h2, h3, _⟩ | ⟨p, _, _, h2, _⟩
  · have H1 : Hid (pI (bl s) = -1) := h1
    clear hc h1 h2
    go_enter Tryd.func15, Tryd.ntmps15
    go_wp2_with (go_at_call 31; refine (lastIndex_r _ s (by omega) _ H1.out).mono ?_; rintro e w' ⟨rfl, rfl⟩)
    go_ret3
    exact ⟨rfl, Below.refl _ _⟩
  · have H1 : Hid (pI (bl s) = (p : Int)) := h3
    have d : decide ((p : Int) + 1 > (s.size : Int) - 6) = true := by simp; omega
    clear hc h3
    go_enter Tryd.func15, Tryd.ntmps15
    go_wp2_with (go_at_call 31; refine (lastIndex_r _ s (by omega) _ H1.out).mono ?_; rintro e w' ⟨rfl, rfl⟩)
    go_ret3
    exact ⟨rfl, Below.refl _ _⟩
  · rw [hc] at h2; cases h2

set_option maxHeartbeats 1000000 in
theorem decode_go (w : World) (s : ByteArray) (hs : s.size ≤ 100000) (ht : Tn w) (p : Nat) (hp : p + 7 ≤ s.size) (hpI : pI (bl s) = (p : Int)) (hc : cutOk (bl s) = true) (hh : bl (s.extract 0 p) = headOf (bl s)) (hm : bl (s.extract (p + 1) (s.size - 6)) = midOf (bl s)) :
    Calls Tryd.prog 15 #[.string s] w fun e w' => ∃ v', e = .returned (.tuple #[.string ⟨(decH (bl s)).toArray⟩, v', .int .i64 (decF (bl s))]) ∧ Own 5 w.heap.size w' v' (decD (bl s)) ∧ Below w.heap.size w w' := by
  have HT : Hid (Tn w) := ht
  have H1 : Hid (pI (bl s) = (p : Int)) := hpI
  have HC : Hid (cutOk (bl s) = true) := hc
  have HH : Hid (bl (s.extract 0 p) = headOf (bl s)) := hh
  have HM : Hid (bl (s.extract (p + 1) (s.size - 6)) = midOf (bl s)) := hm
  clear ht hpI hc hh hm
  go_enter Tryd.func15, Tryd.ntmps15
  go_wp2_with (go_at_call 31; refine (lastIndex_r _ s (by omega) _ H1.out).mono ?_; rintro e w' ⟨rfl, rfl⟩)
  refine (read_any _ (s.extract (p + 1) (s.size - 6)) (by simp; omega)).mono ?_
  rw [HM.out]
  rintro e w1 ⟨v1, rfl, ho1, hb1⟩
  have Hb1 : Hid (Below _ _ w1) := hb1
  cases hall : (midOf (bl s)).all isLet with
  | false =>
    have HE : Hid (decH (bl s) = [] ∧ decD (bl s) = [] ∧ decF (bl s) = 3) := dec_no (by rw [decOk, hall]; simp)
    clear ho1 hb1 hall
    go_wp2
    go_ret3
    rw [HE.out.1, HE.out.2.1, HE.out.2.2]
    exact ⟨_, rfl, Own.nil _ _ _, Hb1.out⟩
  | true =>
    rw [rdL_ok hall] at ho1
    have HALL : Hid ((midOf (bl s)).all isLet = true) := hall
    have Ho1 : Hid (Own 5 _ w1 v1 (dataOf (bl s))) := ho1
    have Hlen : Hid ((dataOf (bl s)).length ≤ 100000) := by
      show _ ≤ _
      simp only [dataOf, numsOf, midOf, List.length_map, List.length_drop, List.length_take, bl_length]; omega
    have hz : (s.extract 0 p).size ≤ 100000 := by simp; omega
    clear ho1 hb1 hall
    cases hok : hdOk (headOf (bl s)) (dataOf (bl s)) with
    | false =>
      have HE : Hid (decH (bl s) = [] ∧ decD (bl s) = [] ∧ decF (bl s) = 3) := dec_no (by rw [decOk, hok]; simp)
      have HN : Hid (encL (headOf (bl s)) (dataOf (bl s)) = [] ∧ encE (headOf (bl s)) (dataOf (bl s)) = 1) := enc_no hok
      clear hok
      go_wp2_with fail
      refine (encode_r _ (s.extract 0 p) hz _ v1 _ Ho1.out.rd Hlen.out (HT.out.gr Hb1.out) ⟨#[]⟩ 1 (by rw [HH.out, HN.out.1]; rfl) (by rw [HH.out, HN.out.2])).mono ?_
      rintro e w2 ⟨rfl, hb2⟩
      have Hb2 : Hid (Below _ _ w2) := Gr.trans Hb1.out hb2
      clear hb2
      go_wp2
      go_ret3
      rw [HE.out.1, HE.out.2.1, HE.out.2.2]
      exact ⟨_, rfl, Own.nil _ _ _, Hb2.out⟩
    | true =>
      have HN : Hid (encL (headOf (bl s)) (dataOf (bl s)) = wordL (headOf (bl s)) (dataOf (bl s)) ∧ encE (headOf (bl s)) (dataOf (bl s)) = 0) := enc_ok hok
      by_cases hw : wordL (headOf (bl s)) (dataOf (bl s)) = bl s
      · have HE : Hid (decH (bl s) = headOf (bl s) ∧ decD (bl s) = dataOf (bl s) ∧ decF (bl s) = 0) := dec_ok (by rw [decOk, HC.out, HALL.out, hok]; simp [hw])
        have HW : Hid (wordL (headOf (bl s)) (dataOf (bl s)) = bl s) := hw
        clear hok hw
        go_wp2_with fail
        refine (encode_r _ (s.extract 0 p) hz _ v1 _ Ho1.out.rd Hlen.out (HT.out.gr Hb1.out) s 0 (by rw [HH.out, HN.out.1, HW.out]) (by rw [HH.out, HN.out.2])).mono ?_
        rintro e w2 ⟨rfl, hb2⟩
        have Hb2 : Hid (Below _ _ w2) := Gr.trans Hb1.out hb2
        have Ho2 : Hid (Own 5 _ w2 v1 (dataOf (bl s))) := Ho1.out.keep hb2
        clear hb2
        have hq := tx_eq s
        go_wp2
        go_ret3
        rw [HE.out.1, HE.out.2.1, HE.out.2.2, ← HH.out, ← tx_bl]
        exact ⟨_, rfl, Ho2.out, Hb2.out⟩
      · have HE : Hid (decH (bl s) = [] ∧ decD (bl s) = [] ∧ decF (bl s) = 3) := dec_no (by rw [decOk, decide_eq_false hw]; simp)
        have HW : Hid (wordL (headOf (bl s)) (dataOf (bl s)) ≠ bl s) := hw
        obtain ⟨X, HX⟩ : ∃ X : ByteArray, Hid (bl X = wordL (headOf (bl s)) (dataOf (bl s))) := ⟨⟨(wordL (headOf (bl s)) (dataOf (bl s))).toArray⟩, bl_mk _⟩
        clear hok hw
        go_wp2_with fail
        refine (encode_r _ (s.extract 0 p) hz _ v1 _ Ho1.out.rd Hlen.out (HT.out.gr Hb1.out) X 0 (by rw [HH.out, HN.out.1, HX.out]) (by rw [HH.out, HN.out.2])).mono ?_
        rintro e w2 ⟨rfl, hb2⟩
        have Hb2 : Hid (Below _ _ w2) := Gr.trans Hb1.out hb2
        clear hb2
        have hq : (X.toList == s.toList) = false := tx_ne (by rw [HX.out]; exact HW.out)
        go_wp2
        go_ret3
        rw [HE.out.1, HE.out.2.1, HE.out.2.2]
        exact ⟨_, rfl, Own.nil _ _ _, Hb2.out⟩

theorem decode_any (w : World) (s : ByteArray) (hs : s.size ≤ 100000) (ht : Tn w) :
    Calls Tryd.prog 15 #[.string s] w fun e w' => ∃ v', e = .returned (.tuple #[.string ⟨(decH (bl s)).toArray⟩, v', .int .i64 (decF (bl s))]) ∧ Own 5 w.heap.size w' v' (decD (bl s)) ∧ Below w.heap.size w w' := by
  rcases cut_cases s with ⟨_, hc⟩ | ⟨_, _, _, _, hc⟩ | ⟨p, h1, h2, h3, h4, h5⟩
  · obtain ⟨e1, e2, e3⟩ := dec_no (s := bl s) (by rw [decOk, hc]; rfl)
    rw [e1, e2, e3]
    exact (decode_cut w s hs hc).mono fun e w' ⟨he, hb⟩ => ⟨_, he, Own.nil _ _ _, hb⟩
  · obtain ⟨e1, e2, e3⟩ := dec_no (s := bl s) (by rw [decOk, hc]; rfl)
    rw [e1, e2, e3]
    exact (decode_cut w s hs hc).mono fun e w' ⟨he, hb⟩ => ⟨_, he, Own.nil _ _ _, hb⟩
  · exact decode_go w s hs ht p h1 h2 h3 h4 h5
end Go.Proofs.YtemgaoikngebeaaDoor
