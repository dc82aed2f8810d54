/-
  Contracts of Address: package bech's, and the document's.
-/
import Derived.Test.YtemgaoikngebeaaDoorB14
namespace Go.Proofs.YtemgaoikngebeaaDoor
open Go.RowKit

theorem bl_en : bl ⟨#[101, 110]⟩ = en := rfl
theorem adrD_len (c : List UInt8) (h : c.length ≤ 10000) : (adrD c).length ≤ 100000 := by simp only [adrD, List.length_cons, spr_length, List.length_drop]; omega

set_option maxHeartbeats 1000000 in
theorem address_ok (w : World) (B : Nat) (v : Value) (c : List UInt8) (h : Rd B w v c) (hl : c.length ≤ 10000) (ht : Tn w) (hk : scOk c = true) (E : ByteArray) (x : Int) (hE : bl E = adrL c) (hx : adrE c = x) :
    Calls Tryd.prog 21 #[v] w fun e w' => e = .returned (.tuple #[.string E, .int .i64 x]) ∧ Below w.heap.size w w' := by
  have HR : Hid (Rs w v c) := h.rs
  have HT : Hid (Tn w) := ht
  have HK : Hid (scOk c = true) := hk
  have HE : Hid (bl E = encL (bl ⟨#[101, 110]⟩) (adrD c)) := by show _ = _; rw [hE, (adr_ok hk).1]; rfl
  have HX : Hid (encE (bl ⟨#[101, 110]⟩) (adrD c) = x) := by show _ = _; rw [← hx, (adr_ok hk).2]; rfl
  have HD : Hid (adrD c = [verOf (c.getD 0 0)] ++ spr (c.drop 2)) := rfl
  have HL : Hid ((adrD c).length ≤ 100000) := adrD_len c hl
  have HS : Hid ((spr (c.drop 2)).length ≤ 90000) := by show _ ≤ _; rw [spr_length, List.length_drop]; omega
  clear h ht hk hE hx
  go_enter Tryd.func21, Tryd.ntmps21
  go_wp2_with fail
  refine (parts_ok w _ v c HR.out HK.out).mono ?_
  rintro e w1 ⟨v1, rfl, hr1, rfl⟩
  have HR1 : Hid (Rs w1 v1 (c.drop 2)) := hr1.rs
  generalize hver : verOf (c.getD 0 0) = ver at HD
  clear hr1 hver
  go_wp2_with fail
  refine (spread_any _ _ v1 (c.drop 2) (HR1.out.gr ((Below.refl _ _).alloc (Nat.le_refl _) _)) (by simp; omega)).mono ?_
  rintro e w2 ⟨v2, rfl, ho2, hb2⟩
  have hg2 : Gr w1 w2 := Gr.trans ((Below.refl _ _).alloc (Nat.le_refl _) _) hb2
  have hown : Own 5 w1.heap.size w2 (.slice (some ⟨w1.heap.size, 0, none⟩) 1 1) [ver] := (Own.one 5 w1.heap.size w1 ver _ rfl (Nat.le_refl _)).keep hb2
  have hrd2 := ho2.rd
  have HG2 : Hid (Gr w1 w2) := hg2
  clear ho2 hb2
  go_wp2_with (at_builtin; refine wpList_append_rd Tryd.bt rfl (.tmp 16) (.tmp 18) rfl w1.heap.size _ _ _ [ver] _ rfl hown rfl hrd2 (by have := HS.out; show 1 + _ ≤ _; omega) (Below.size hg2) ?_; intro v3 w3 ho3 hb3)
  have HG3 : Hid (Gr w1 w3) := Below.trans HG2.out hb3
  refine (encode_r _ ⟨#[101, 110]⟩ (by decide) _ v3 _ ho3.rd (by rw [← HD.out]; exact HL.out) (HT.out.gr HG3.out) E x (by rw [← HD.out]; exact HE.out) (by rw [← HD.out]; exact HX.out)).mono ?_
  rintro e w4 ⟨rfl, hb4⟩
  have HG4 : Hid (Gr w1 w4) := Gr.trans HG3.out hb4
  clear hb4 ho3 hb3 hown hrd2 hg2
  go_wp2
  go_ret2
  exact ⟨rfl, HG4.out⟩

theorem parts_no' (w : World) (B : Nat) (v : Value) (c : List UInt8) (h : Rd B w v c) (hl : c.length ≤ 100000) (hk : scOk c = false) :
    Calls Tryd.prog 37 #[v] w fun e w' => ∃ z v', e = .returned (.tuple #[z, v', .bool false]) ∧ w' = w :=
  (parts_no w B v c h hl hk).mono fun _ _ ⟨⟨z, v', he⟩, hw⟩ => ⟨z, v', he, hw⟩

set_option maxHeartbeats 1000000 in
theorem address_r (w : World) (B : Nat) (v : Value) (c : List UInt8) (h : Rd B w v c) (hl : c.length ≤ 10000) (ht : Tn w) (E : ByteArray) (x : Int) (hE : bl E = adrL c) (hx : adrE c = x) :
    Calls Tryd.prog 21 #[v] w fun e w' => e = .returned (.tuple #[.string E, .int .i64 x]) ∧ Below w.heap.size w w' := by
  cases hk : scOk c with
  | true => exact address_ok w B v c h hl ht hk E x hE hx
  | false =>
    rw [(adr_no hk).1] at hE
    rw [(adr_no hk).2] at hx
    subst hx
    obtain rfl : E = ⟨#[]⟩ := bl_inj (by rw [hE]; rfl)
    have hp := parts_no' w B v c h (by omega) hk
    clear h ht hk hE
    go_enter Tryd.func21, Tryd.ntmps21
    go_wp2_with (go_at_call 37; refine hp.mono ?_; rintro e w' ⟨z, v', rfl, rfl⟩)
    go_ret2
    exact ⟨rfl, Below.refl _ _⟩

set_option maxHeartbeats 1000000 in
theorem raddress_no (w : World) (B : Nat) (v : Value) (c : List UInt8) (h : Rd B w v c) (hl : c.length ≤ 10000) (hk : scOk c = false) :
    Calls Tryd.prog 22 #[v] w fun e w' => e = .returned (.tuple #[.string ⟨#[]⟩, .int .i64 1]) ∧ w' = w := by
  by_cases h4 : 4 ≤ c.length
  · obtain ⟨b0, off, cap, rfl, hcap, hB, hc⟩ := h.at (by omega)
    have d4 : decide ((c.length : Int) < 4) = false := by simp; omega
    by_cases h42 : c.length ≤ 42
    · have q0 := hc 0 (by omega)
      have q1 := hc 1 (by omega)
      rw [← getD_at] at q0 q1
      simp only [Nat.add_zero] at q0
      have d42 : decide ((c.length : Int) > 42) = false := by simp; omega
      have hf0 := (c.getD 0 0).toNat_lt
      have hf1 := (c.getD 1 0).toNat_lt
      have hk2 : (c.getD 1 0).toNat = c.length - 2 → 96 < (c.getD 0 0).toNat ∨ (0 < (c.getD 0 0).toNat ∧ (c.getD 0 0).toNat ≤ 80) := by
        intro he
        simp only [scOk, verOk, h4, h42, he, decide_true, Bool.true_and, Bool.or_eq_false_iff, Bool.and_eq_false_iff, decide_eq_false_iff_not] at hk
        omega
      generalize (c.getD 0 0).toNat = f at q0 hf0 hk2
      generalize (c.getD 1 0).toNat = g at q1 hf1 hk2
      clear h hk hc
      by_cases he : g = c.length - 2
      · have d2 : ((g : Int) != (c.length : Int) - 2) = false := by simp; omega
        rcases hk2 he with h96 | ⟨h0, h80⟩
        · have d96 : decide ((f : Int) > 96) = true := by simp; omega
          clear hk2 he
          go_enter Tryd.func22, Tryd.ntmps22
          go_wp2
          go_ret2
          exact ⟨rfl, rfl⟩
        · have d96 : decide ((f : Int) > 96) = false := by simp; omega
          have d80 : decide ((f : Int) ≤ 80) = true := by simp; omega
          clear hk2 he
          go_enter Tryd.func22, Tryd.ntmps22
          go_wp2
          go_ret2
          exact ⟨rfl, rfl⟩
      · have d2 : ((g : Int) != (c.length : Int) - 2) = true := by simp; omega
        clear hk2 he
        go_enter Tryd.func22, Tryd.ntmps22
        go_wp2
        go_ret2
        exact ⟨rfl, rfl⟩
    · have d42 : decide ((c.length : Int) > 42) = true := by simp; omega
      clear h hk hc h42
      go_enter Tryd.func22, Tryd.ntmps22
      go_wp2
      go_ret2
      exact ⟨rfl, rfl⟩
  · have d4 : decide ((c.length : Int) < 4) = true := by simp; omega
    obtain ⟨ao, cap, rfl⟩ := h.len
    clear h hk h4
    go_enter Tryd.func22, Tryd.ntmps22
    go_wp2
    go_ret2
    exact ⟨rfl, rfl⟩

set_option maxHeartbeats 2000000 in
theorem raddress_ok (w : World) (B : Nat) (v : Value) (c : List UInt8) (h : Rd B w v c) (hl : c.length ≤ 10000) (hk : scOk c = true) (E : ByteArray) (x : Int) (hE : bl E = adrL c) (hx : adrE c = x) :
    Calls Tryd.prog 22 #[v] w fun e w' => e = .returned (.tuple #[.string E, .int .i64 x]) ∧ Below w.heap.size w w' := by
  have HR : Hid (Rs w v c) := h.rs
  have HE : Hid (bl E = encL (bl ⟨#[101, 110]⟩) (adrD c)) := by show _ = _; rw [hE, (adr_ok hk).1]; rfl
  have HX : Hid (encE (bl ⟨#[101, 110]⟩) (adrD c) = x) := by show _ = _; rw [← hx, (adr_ok hk).2]; rfl
  have HD : Hid (adrD c = [verOf (c.getD 0 0)] ++ spr (c.drop 2)) := rfl
  have HL : Hid ((adrD c).length ≤ 100000) := adrD_len c hl
  have HS : Hid ((spr (c.drop 2)).length ≤ 90000) := by show _ ≤ _; rw [spr_length, List.length_drop]; omega
  obtain ⟨h1, h2, h3, h4⟩ := scOk_parts hk
  have hv := verOf_nat h4
  obtain ⟨b0, off, cap, rfl, hcap, hB, hc⟩ := h.at (by omega)
  have q0 := hc 0 (by omega)
  have q1 := hc 1 (by omega)
  rw [← getD_at] at q0 q1
  rw [h3] at q1
  simp only [Nat.add_zero] at q0
  have d2 : (((c.length - 2 : Nat) : Int) != (c.length : Int) - 2) = false := by simp; omega
  have d4 : decide ((c.length : Int) < 4) = false := by simp; omega
  have d42 : decide ((c.length : Int) > 42) = false := by simp; omega
  have HR2 : Hid (Rd w.heap.size w (.slice (some ⟨b0, off + 2, none⟩) (c.length - 2) (cap - 2)) (c.drop 2)) := Rd.drop HR.out (by omega) _ _ _ _ (.inr ⟨rfl, rfl⟩) rfl (by omega)
  generalize verOf (c.getD 0 0) = ver at HD hv
  generalize (c.getD 0 0).toNat = f at q0 hv
  clear h hk hE hx h3 h4 hc
  rcases hv with ⟨rfl, hv⟩ | ⟨hf1, hf2, hv⟩
  · have HV : Hid ((0 : Int) = (ver.toNat : Int)) := by show _ = _; omega
    clear hv
    go_enter Tryd.func22, Tryd.ntmps22
    go_wp2_with fail
    refine (rspread_any _ _ _ (c.drop 2) (HR2.out.rs.gr ((Below.refl _ _).alloc (Nat.le_refl _) _)) (by simp; omega)).mono ?_
    rintro e w2 ⟨v2, rfl, ho2, hb2⟩
    have hg2 : Gr w w2 := Gr.trans ((Below.refl _ _).alloc (Nat.le_refl _) _) hb2
    have hown : Own 5 w.heap.size w2 (.slice (some ⟨w.heap.size, 0, none⟩) 1 1) [ver] := (Own.one 5 w.heap.size w ver _ HV.out (Nat.le_refl _)).keep hb2
    have hrd2 := ho2.rd
    have HG2 : Hid (Gr w w2) := hg2
    clear ho2 hb2
    go_wp2_with (at_builtin; refine wpList_append_rd Tryd.bt rfl (.tmp 49) (.tmp 52) rfl w.heap.size _ _ _ [ver] _ rfl hown rfl hrd2 (by have := HS.out; show 1 + _ ≤ _; omega) (Below.size hg2) ?_; intro v3 w3 ho3 hb3)
    have HG3 : Hid (Gr w w3) := Below.trans HG2.out hb3
    refine (rencode_r _ ⟨#[101, 110]⟩ (by decide) _ v3 _ ho3.rd (by rw [← HD.out]; exact HL.out) E x (by rw [← HD.out]; exact HE.out) (by rw [← HD.out]; exact HX.out)).mono ?_
    rintro e w4 ⟨rfl, hb4⟩
    have HG4 : Hid (Gr w w4) := Gr.trans HG3.out hb4
    clear hb4 ho3 hb3 hown hrd2 hg2
    go_wp2
    go_ret2
    exact ⟨rfl, HG4.out⟩
  · have HV : Hid ((f : Int) - 80 = (ver.toNat : Int)) := by show _ = _; omega
    have d96 : decide ((f : Int) > 96) = false := by simp; omega
    have d80 : decide ((f : Int) ≤ 80) = false := by simp; omega
    clear hv
    go_enter Tryd.func22, Tryd.ntmps22
    go_wp2_with fail
    refine (rspread_any _ _ _ (c.drop 2) (HR2.out.rs.gr ((Below.refl _ _).alloc (Nat.le_refl _) _)) (by simp; omega)).mono ?_
    rintro e w2 ⟨v2, rfl, ho2, hb2⟩
    have hg2 : Gr w w2 := Gr.trans ((Below.refl _ _).alloc (Nat.le_refl _) _) hb2
    have hown : Own 5 w.heap.size w2 (.slice (some ⟨w.heap.size, 0, none⟩) 1 1) [ver] := (Own.one 5 w.heap.size w ver _ HV.out (Nat.le_refl _)).keep hb2
    have hrd2 := ho2.rd
    have HG2 : Hid (Gr w w2) := hg2
    clear ho2 hb2
    go_wp2_with (at_builtin; refine wpList_append_rd Tryd.bt rfl (.tmp 49) (.tmp 52) rfl w.heap.size _ _ _ [ver] _ rfl hown rfl hrd2 (by have := HS.out; show 1 + _ ≤ _; omega) (Below.size hg2) ?_; intro v3 w3 ho3 hb3)
    have HG3 : Hid (Gr w w3) := Below.trans HG2.out hb3
    refine (rencode_r _ ⟨#[101, 110]⟩ (by decide) _ v3 _ ho3.rd (by rw [← HD.out]; exact HL.out) E x (by rw [← HD.out]; exact HE.out) (by rw [← HD.out]; exact HX.out)).mono ?_
    rintro e w4 ⟨rfl, hb4⟩
    have HG4 : Hid (Gr w w4) := Gr.trans HG3.out hb4
    clear hb4 ho3 hb3 hown hrd2 hg2
    go_wp2
    go_ret2
    exact ⟨rfl, HG4.out⟩

theorem raddress_r (w : World) (B : Nat) (v : Value) (c : List UInt8) (h : Rd B w v c) (hl : c.length ≤ 10000) (E : ByteArray) (x : Int) (hE : bl E = adrL c) (hx : adrE c = x) :
    Calls Tryd.prog 22 #[v] w fun e w' => e = .returned (.tuple #[.string E, .int .i64 x]) ∧ Below w.heap.size w w' := by
  cases hk : scOk c with
  | true => exact raddress_ok w B v c h hl hk E x hE hx
  | false =>
    rw [(adr_no hk).1] at hE
    rw [(adr_no hk).2] at hx
    subst hx
    obtain rfl : E = ⟨#[]⟩ := bl_inj (by rw [hE]; rfl)
    exact (raddress_no w B v c h hl hk).mono fun e w' ⟨he, hw⟩ => ⟨he, hw ▸ Below.refl _ _⟩
end Go.Proofs.YtemgaoikngebeaaDoor
