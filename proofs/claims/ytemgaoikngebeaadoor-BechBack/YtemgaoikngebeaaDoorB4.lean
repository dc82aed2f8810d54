/-
  Contracts of Encode: package bech's, and the document's.
-/
import Derived.Test.YtemgaoikngebeaaDoorB3
namespace Go.Proofs.YtemgaoikngebeaaDoor
open Go.RowKit

theorem isHead_r (w : World) (s : ByteArray) (hs : s.size ≤ 1000000) (b : Bool) (hb : headOk (bl s) = b) :
    Calls Tryd.prog 25 #[.string s] w fun e w' => e = .returned (.bool b) ∧ w' = w := by
  subst hb; exact isHead_any w s hs
theorem isData_r (w : World) (B : Nat) (v : Value) (l : List UInt8) (h : Rd B w v l) (hl : l.length ≤ 1000000) (b : Bool) (hb : dataOk l = b) :
    Calls Tryd.prog 26 #[v] w fun e w' => e = .returned (.bool b) ∧ w' = w := by
  subst hb; exact isData_any w B v l h hl
theorem word_text (s : ByteArray) (d : List UInt8) : s ++ ⟨#[49]⟩ ++ ⟨(d.map letA).toArray⟩ ++ ⟨((closeL (bl s) d).map letA).toArray⟩ = (⟨(wordL (bl s) d).toArray⟩ : ByteArray) := by
  conv => lhs; rw [tx_bl s]
  rw [show (⟨#[49]⟩ : ByteArray) = ⟨([49] : List UInt8).toArray⟩ from rfl, tx_append, tx_append, bl_mk, tx_append]
  rfl

set_option maxHeartbeats 1000000 in
theorem encode_any (w : World) (s : ByteArray) (hs : s.size ≤ 100000) (B : Nat) (v : Value) (l : List UInt8) (h : Rd B w v l) (hl : l.length ≤ 100000) (ht : Tn w) :
    Calls Tryd.prog 13 #[.string s, v] w fun e w' => e = .returned (.tuple #[.string ⟨(encL (bl s) l).toArray⟩, .int .i64 (encE (bl s) l)]) ∧ Below w.heap.size w w' := by
  have hrd : Hid (Rs w v l) := h.rs
  have HT : Hid (Tn w) := ht
  clear h ht
  cases h1 : headOk (bl s) with
  | false =>
    have HE : Hid (encL (bl s) l = [] ∧ encE (bl s) l = 1) := enc_no (by rw [hdOk, h1]; rfl)
    have H1 : Hid (headOk (bl s) = false) := h1
    clear h1
    go_enter Tryd.func13, Tryd.ntmps13
    go_wp2_with (go_at_call 25; refine (isHead_r _ s (by omega) false H1.out).mono ?_; rintro e w' ⟨rfl, rfl⟩)
    go_ret2
    rw [HE.out.1, HE.out.2]
    exact ⟨rfl, Below.refl _ _⟩
  | true =>
    have H1 : Hid (headOk (bl s) = true) := h1
    cases h2 : dataOk l with
    | false =>
      have HE : Hid (encL (bl s) l = [] ∧ encE (bl s) l = 1) := enc_no (by rw [hdOk, h1, h2]; rfl)
      have H2 : Hid (dataOk l = false) := h2
      clear h1 h2
      go_enter Tryd.func13, Tryd.ntmps13
      go_wp2_with (first
        | (go_at_call 25; refine (isHead_r _ s (by omega) true H1.out).mono ?_; rintro e w' ⟨rfl, rfl⟩)
        | (go_at_call 26; refine (isData_r _ _ v l hrd.out (by omega) false H2.out).mono ?_; rintro e w' ⟨rfl, rfl⟩))
      go_ret2
      rw [HE.out.1, HE.out.2]
      exact ⟨rfl, Below.refl _ _⟩
    | true =>
      have HK : Hid (hdOk (bl s) l = true) := by show _ = _; rw [hdOk, h1, h2]; rfl
      have HE : Hid (encL (bl s) l = wordL (bl s) l ∧ encE (bl s) l = 0) := enc_ok HK.out
      have H2 : Hid (dataOk l = true) := h2
      have Hlen : Hid ((l.map letA).length ≤ 100000 ∧ ((closeL (bl s) l).map letA).length ≤ 100000) := by
        show _ ∧ _
        simp [closeL_length]; exact hl
      clear h1 h2
      go_enter Tryd.func13, Tryd.ntmps13
      go_wp2_with (first
        | (go_at_call 25; refine (isHead_r _ s (by omega) true H1.out).mono ?_; rintro e w' ⟨rfl, rfl⟩)
        | (go_at_call 26; refine (isData_r _ _ v l hrd.out (by omega) true H2.out).mono ?_; rintro e w' ⟨rfl, rfl⟩))
      refine (write_any _ _ v l hrd.out (by omega) (hdOk_len HK.out).2.2.2).mono ?_
      rintro e w1 ⟨rfl, hb1⟩
      have Hb1 : Hid (Below _ _ w1) := hb1
      have HW : Hid (s ++ ⟨#[49]⟩ ++ ⟨(l.map letA).toArray⟩ ++ ⟨((closeL (bl s) l).map letA).toArray⟩ = (⟨(wordL (bl s) l).toArray⟩ : ByteArray)) := word_text s l
      have hz1 : (⟨(l.map letA).toArray⟩ : ByteArray).size ≤ 100000 := by rw [tx_size]; exact Hlen.out.1
      generalize (⟨(l.map letA).toArray⟩ : ByteArray) = X at HW hz1
      clear hb1
      go_wp2_with fail
      refine (closed_any _ s hs _ v l (hrd.out.gr Hb1.out) hl (HT.out.gr Hb1.out)).mono ?_
      rintro e w2 ⟨v2, rfl, ho2, hb2⟩
      have Ho2 : Hid (Own 5 _ w2 v2 _) := ho2
      have Hb2 : Hid (Below _ _ w2) := Gr.trans Hb1.out hb2
      clear ho2 hb2
      go_wp2_with fail
      refine (write_any _ _ v2 _ Ho2.out.rd (by simp [closeL_length]) (closeL_lt _ _)).mono ?_
      rintro e w3 ⟨rfl, hb3⟩
      have Hb3 : Hid (Below _ _ w3) := Gr.trans Hb2.out hb3
      have hz2 : (⟨((closeL (bl s) l).map letA).toArray⟩ : ByteArray).size ≤ 100000 := by rw [tx_size]; exact Hlen.out.2
      generalize (⟨((closeL (bl s) l).map letA).toArray⟩ : ByteArray) = Y at HW hz2
      clear hb3
      go_wp2
      go_ret2
      rw [HE.out.1, HE.out.2, ← HW.out]
      exact ⟨rfl, Hb3.out⟩
end Go.Proofs.YtemgaoikngebeaaDoor
