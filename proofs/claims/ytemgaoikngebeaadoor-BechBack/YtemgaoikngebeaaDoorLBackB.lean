/-
  The law BechBack at few bytes: true, and nothing that was there has turned.
-/
import Derived.Test.YtemgaoikngebeaaDoorB17
namespace Go.Proofs.YtemgaoikngebeaaDoor
open Go.RowKit

set_option maxHeartbeats 2000000 in
set_option maxRecDepth 100000 in
theorem back_word_address (w : World) (s : ByteArray) (v : Value) (l : List UInt8) (h : Rs w v l) (hs : s.size ≤ 200) (hl : l.length ≤ 200) (ht : Tn w) (hd : hdOk (bl s) l = true) (hsc : scOk l = true) :
    Calls Tryd.prog 8 #[.string s, v] w fun e w' => e = .returned (.bool true) ∧ Below w.heap.size w w' := by
  have HT : Hid (Tn w) := ht
  have HR : Hid (Rs w v l) := h
  obtain ⟨ao, cap, rfl⟩ := Rd.len h
  have HB : Hid (gatL (spr l) = l ∧ gatE (spr l) = 0) := ⟨by show gatL (spr l) = l; rw [(gat_ok (gatOk_spr l)).1, gat_spr], (gat_ok (gatOk_spr l)).2⟩
  have HSl : Hid ((spr l).length ≤ 100000) := by show _ ≤ _; rw [spr_length]; omega
  obtain ⟨X, HX⟩ : ∃ X : ByteArray, Hid (bl X = wordL (bl s) l) := ⟨⟨(wordL (bl s) l).toArray⟩, bl_mk _⟩
  have HE : Hid (bl X = encL (bl s) l ∧ encE (bl s) l = 0) := ⟨by rw [(enc_ok hd).1]; exact HX.out, (enc_ok hd).2⟩
  have hXs : X.size = s.size + l.length + 7 := by rw [← bl_length, HX.out, wordL_length, bl_length]
  have HDc : Hid (bl s = decH (bl X) ∧ decD (bl X) = l ∧ decF (bl X) = 0) := by
    obtain ⟨d1, d2, d3⟩ := dec_word hd
    rw [← HX.out] at d1 d2 d3
    obtain ⟨e1, e2, e3⟩ := dec_ok d1
    exact ⟨by rw [e1, d2], by rw [e2, d3], e3⟩
  have HXz : Hid (X.size ≤ 100000) := by show _ ≤ _; omega
  have dz : ((X.size : Int) != (s.size : Int) + (l.length : Int) + 7) = false := by simp; omega
  have hq := tx_eq s
  obtain ⟨A, HAw⟩ : ∃ A : ByteArray, Hid (bl A = wordL en (adrD l)) := ⟨⟨(wordL en (adrD l)).toArray⟩, bl_mk _⟩
  have HA : Hid (bl A = adrL l ∧ adrE l = 0) := ⟨by rw [(adr_ok hsc).1, (enc_ok (adr_word hsc)).1]; exact HAw.out, by rw [(adr_ok hsc).2, (enc_ok (adr_word hsc)).2]⟩
  have HSc : Hid (scrL (bl A) = l ∧ scrF (bl A) = 0) := by
    have := scr_adr hsc
    rw [← HAw.out] at this
    exact this
  have HAs : Hid (A.size ≤ 100000) := by
    show _ ≤ _
    rw [← bl_length, HAw.out, wordL_length]
    have := adrD_len l (by omega)
    have h2 : (adrD l).length ≤ 1000 := by simp only [adrD, List.length_cons, spr_length, List.length_drop]; omega
    have h3 : en.length = 2 := rfl
    omega
  clear h ht hd hsc hXs
  go_enter Tryd.func8, Tryd.ntmps8
  go_wp2_with fail
  refine (spread_any w _ _ l HR.out (by omega)).mono ?_
  rintro e w1 ⟨v1, rfl, ho1, hb1⟩
  have HG1 : Hid (Gr w w1) := hb1
  have HO1 : Hid (Rs w1 v1 (spr l)) := ho1.rd
  clear ho1 hb1
  go_wp2_with fail
  refine (gather_r w1 _ v1 (spr l) HO1.out HSl.out l 0 HB.out.1 HB.out.2).mono ?_
  rintro e w2 ⟨v2, rfl, ho2, hb2⟩
  have HG2 : Hid (Gr w w2) := Gr.trans HG1.out hb2
  have c1 := run_conv_rd Tryd.bt 9 (by kernel_rfl) w2 _ _ _ ho2.rd
  have c2 := run_conv_rd Tryd.bt 9 (by kernel_rfl) w2 _ _ _ (HR.out.gr HG2.out)
  clear ho2 hb2
  go_wp2_with fail
  clear c1 c2
  refine (encode_r w2 s (by omega) _ _ l (HR.out.gr HG2.out) (by omega) (HT.out.gr HG2.out) X 0 HE.out.1 HE.out.2).mono ?_
  rintro e w3 ⟨rfl, hb3⟩
  have HG3 : Hid (Gr w w3) := Gr.trans HG2.out hb3
  clear hb3
  go_wp2_with fail
  refine (decode_r w3 X HXz.out (HT.out.gr HG3.out) s l 0 HDc.out.1 HDc.out.2.1 HDc.out.2.2).mono ?_
  rintro e w4 ⟨v4, rfl, ho4, hb4⟩
  have HG : Hid (Gr w w4) := Gr.trans HG3.out hb4
  have c3 := run_conv_rd Tryd.bt 9 (by kernel_rfl) w4 _ _ _ ho4.rd
  have c4 := run_conv_rd Tryd.bt 9 (by kernel_rfl) w4 _ _ _ (HR.out.gr HG.out)
  clear ho4 hb4
  go_wp2_with fail
  clear c3 c4
  refine (address_r w4 _ _ l (HR.out.gr HG.out) (by omega) (HT.out.gr HG.out) A 0 HA.out.1 HA.out.2).mono ?_
  rintro e wa ⟨rfl, hba⟩
  have HGa : Hid (Gr w wa) := Gr.trans HG.out hba
  clear hba
  go_wp2_with fail
  refine (script_r wa A HAs.out (HT.out.gr HGa.out) l 0 HSc.out.1 HSc.out.2).mono ?_
  rintro e wb ⟨vb, rfl, hob, hbb⟩
  have HGb : Hid (Gr w wb) := Gr.trans HGa.out hbb
  have HOb : Hid (Rs wb vb l) := hob.rd
  clear hob hbb
  go_wp2_with fail
  refine (alive_any wb (HT.out.gr HGb.out)).mono ?_
  rintro e wc ⟨rfl, hbc⟩
  have HGc : Hid (Gr w wc) := Gr.trans HGb.out hbc
  have k1 := run_conv_rd Tryd.bt 9 (by kernel_rfl) wc _ _ _ (HOb.out.gr hbc)
  have k2 := run_conv_rd Tryd.bt 9 (by kernel_rfl) wc _ _ _ (HR.out.gr HGc.out)
  clear hbc
  go_wp2
  go_ret
  exact ⟨rfl, HGc.out⟩

set_option maxHeartbeats 2000000 in
set_option maxRecDepth 100000 in
theorem back_word_none (w : World) (s : ByteArray) (v : Value) (l : List UInt8) (h : Rs w v l) (hs : s.size ≤ 200) (hl : l.length ≤ 200) (ht : Tn w) (hd : hdOk (bl s) l = true) (hsc : scOk l = false) :
    Calls Tryd.prog 8 #[.string s, v] w fun e w' => e = .returned (.bool true) ∧ Below w.heap.size w w' := by
  have HT : Hid (Tn w) := ht
  have HR : Hid (Rs w v l) := h
  obtain ⟨ao, cap, rfl⟩ := Rd.len h
  have HB : Hid (gatL (spr l) = l ∧ gatE (spr l) = 0) := ⟨by show gatL (spr l) = l; rw [(gat_ok (gatOk_spr l)).1, gat_spr], (gat_ok (gatOk_spr l)).2⟩
  have HSl : Hid ((spr l).length ≤ 100000) := by show _ ≤ _; rw [spr_length]; omega
  obtain ⟨X, HX⟩ : ∃ X : ByteArray, Hid (bl X = wordL (bl s) l) := ⟨⟨(wordL (bl s) l).toArray⟩, bl_mk _⟩
  have HE : Hid (bl X = encL (bl s) l ∧ encE (bl s) l = 0) := ⟨by rw [(enc_ok hd).1]; exact HX.out, (enc_ok hd).2⟩
  have hXs : X.size = s.size + l.length + 7 := by rw [← bl_length, HX.out, wordL_length, bl_length]
  have HDc : Hid (bl s = decH (bl X) ∧ decD (bl X) = l ∧ decF (bl X) = 0) := by
    obtain ⟨d1, d2, d3⟩ := dec_word hd
    rw [← HX.out] at d1 d2 d3
    obtain ⟨e1, e2, e3⟩ := dec_ok d1
    exact ⟨by rw [e1, d2], by rw [e2, d3], e3⟩
  have HXz : Hid (X.size ≤ 100000) := by show _ ≤ _; omega
  have dz : ((X.size : Int) != (s.size : Int) + (l.length : Int) + 7) = false := by simp; omega
  have hq := tx_eq s
  have HA : Hid (bl ⟨#[]⟩ = adrL l ∧ adrE l = 1) := ⟨by rw [(adr_no hsc).1]; rfl, (adr_no hsc).2⟩
  clear h ht hd hsc hXs
  go_enter Tryd.func8, Tryd.ntmps8
  go_wp2_with fail
  refine (spread_any w _ _ l HR.out (by omega)).mono ?_
  rintro e w1 ⟨v1, rfl, ho1, hb1⟩
  have HG1 : Hid (Gr w w1) := hb1
  have HO1 : Hid (Rs w1 v1 (spr l)) := ho1.rd
  clear ho1 hb1
  go_wp2_with fail
  refine (gather_r w1 _ v1 (spr l) HO1.out HSl.out l 0 HB.out.1 HB.out.2).mono ?_
  rintro e w2 ⟨v2, rfl, ho2, hb2⟩
  have HG2 : Hid (Gr w w2) := Gr.trans HG1.out hb2
  have c1 := run_conv_rd Tryd.bt 9 (by kernel_rfl) w2 _ _ _ ho2.rd
  have c2 := run_conv_rd Tryd.bt 9 (by kernel_rfl) w2 _ _ _ (HR.out.gr HG2.out)
  clear ho2 hb2
  go_wp2_with fail
  clear c1 c2
  refine (encode_r w2 s (by omega) _ _ l (HR.out.gr HG2.out) (by omega) (HT.out.gr HG2.out) X 0 HE.out.1 HE.out.2).mono ?_
  rintro e w3 ⟨rfl, hb3⟩
  have HG3 : Hid (Gr w w3) := Gr.trans HG2.out hb3
  clear hb3
  go_wp2_with fail
  refine (decode_r w3 X HXz.out (HT.out.gr HG3.out) s l 0 HDc.out.1 HDc.out.2.1 HDc.out.2.2).mono ?_
  rintro e w4 ⟨v4, rfl, ho4, hb4⟩
  have HG : Hid (Gr w w4) := Gr.trans HG3.out hb4
  have c3 := run_conv_rd Tryd.bt 9 (by kernel_rfl) w4 _ _ _ ho4.rd
  have c4 := run_conv_rd Tryd.bt 9 (by kernel_rfl) w4 _ _ _ (HR.out.gr HG.out)
  clear ho4 hb4
  go_wp2_with fail
  clear c3 c4
  refine (address_r w4 _ _ l (HR.out.gr HG.out) (by omega) (HT.out.gr HG.out) ⟨#[]⟩ 1 HA.out.1 HA.out.2).mono ?_
  rintro e wa ⟨rfl, hba⟩
  have HGa : Hid (Gr w wa) := Gr.trans HG.out hba
  clear hba
  go_wp2_with fail
  refine (alive_any wa (HT.out.gr HGa.out)).mono ?_
  rintro e wb ⟨rfl, hbb⟩
  have HGb : Hid (Gr w wb) := Gr.trans HGa.out hbb
  clear hbb
  go_wp2
  go_ret
  exact ⟨rfl, HGb.out⟩

set_option maxHeartbeats 2000000 in
set_option maxRecDepth 100000 in
theorem back_none_address (w : World) (s : ByteArray) (v : Value) (l : List UInt8) (h : Rs w v l) (hs : s.size ≤ 200) (hl : l.length ≤ 200) (ht : Tn w) (hd : hdOk (bl s) l = false) (hsc : scOk l = true) :
    Calls Tryd.prog 8 #[.string s, v] w fun e w' => e = .returned (.bool true) ∧ Below w.heap.size w w' := by
  have HT : Hid (Tn w) := ht
  have HR : Hid (Rs w v l) := h
  obtain ⟨ao, cap, rfl⟩ := Rd.len h
  have HB : Hid (gatL (spr l) = l ∧ gatE (spr l) = 0) := ⟨by show gatL (spr l) = l; rw [(gat_ok (gatOk_spr l)).1, gat_spr], (gat_ok (gatOk_spr l)).2⟩
  have HSl : Hid ((spr l).length ≤ 100000) := by show _ ≤ _; rw [spr_length]; omega
  have HE : Hid (bl ⟨#[]⟩ = encL (bl s) l ∧ encE (bl s) l = 1) := ⟨by rw [(enc_no hd).1]; rfl, (enc_no hd).2⟩
  obtain ⟨A, HAw⟩ : ∃ A : ByteArray, Hid (bl A = wordL en (adrD l)) := ⟨⟨(wordL en (adrD l)).toArray⟩, bl_mk _⟩
  have HA : Hid (bl A = adrL l ∧ adrE l = 0) := ⟨by rw [(adr_ok hsc).1, (enc_ok (adr_word hsc)).1]; exact HAw.out, by rw [(adr_ok hsc).2, (enc_ok (adr_word hsc)).2]⟩
  have HSc : Hid (scrL (bl A) = l ∧ scrF (bl A) = 0) := by
    have := scr_adr hsc
    rw [← HAw.out] at this
    exact this
  have HAs : Hid (A.size ≤ 100000) := by
    show _ ≤ _
    rw [← bl_length, HAw.out, wordL_length]
    have := adrD_len l (by omega)
    have h2 : (adrD l).length ≤ 1000 := by simp only [adrD, List.length_cons, spr_length, List.length_drop]; omega
    have h3 : en.length = 2 := rfl
    omega
  clear h ht hd hsc
  go_enter Tryd.func8, Tryd.ntmps8
  go_wp2_with fail
  refine (spread_any w _ _ l HR.out (by omega)).mono ?_
  rintro e w1 ⟨v1, rfl, ho1, hb1⟩
  have HG1 : Hid (Gr w w1) := hb1
  have HO1 : Hid (Rs w1 v1 (spr l)) := ho1.rd
  clear ho1 hb1
  go_wp2_with fail
  refine (gather_r w1 _ v1 (spr l) HO1.out HSl.out l 0 HB.out.1 HB.out.2).mono ?_
  rintro e w2 ⟨v2, rfl, ho2, hb2⟩
  have HG2 : Hid (Gr w w2) := Gr.trans HG1.out hb2
  have c1 := run_conv_rd Tryd.bt 9 (by kernel_rfl) w2 _ _ _ ho2.rd
  have c2 := run_conv_rd Tryd.bt 9 (by kernel_rfl) w2 _ _ _ (HR.out.gr HG2.out)
  clear ho2 hb2
  go_wp2_with fail
  clear c1 c2
  refine (encode_r w2 s (by omega) _ _ l (HR.out.gr HG2.out) (by omega) (HT.out.gr HG2.out) ⟨#[]⟩ 1 HE.out.1 HE.out.2).mono ?_
  rintro e w3 ⟨rfl, hb3⟩
  have HG : Hid (Gr w w3) := Gr.trans HG2.out hb3
  clear hb3
  go_wp2_with fail
  refine (address_r w3 _ _ l (HR.out.gr HG.out) (by omega) (HT.out.gr HG.out) A 0 HA.out.1 HA.out.2).mono ?_
  rintro e wa ⟨rfl, hba⟩
  have HGa : Hid (Gr w wa) := Gr.trans HG.out hba
  clear hba
  go_wp2_with fail
  refine (script_r wa A HAs.out (HT.out.gr HGa.out) l 0 HSc.out.1 HSc.out.2).mono ?_
  rintro e wb ⟨vb, rfl, hob, hbb⟩
  have HGb : Hid (Gr w wb) := Gr.trans HGa.out hbb
  have HOb : Hid (Rs wb vb l) := hob.rd
  clear hob hbb
  go_wp2_with fail
  refine (alive_any wb (HT.out.gr HGb.out)).mono ?_
  rintro e wc ⟨rfl, hbc⟩
  have HGc : Hid (Gr w wc) := Gr.trans HGb.out hbc
  have k1 := run_conv_rd Tryd.bt 9 (by kernel_rfl) wc _ _ _ (HOb.out.gr hbc)
  have k2 := run_conv_rd Tryd.bt 9 (by kernel_rfl) wc _ _ _ (HR.out.gr HGc.out)
  clear hbc
  go_wp2
  go_ret
  exact ⟨rfl, HGc.out⟩

set_option maxHeartbeats 2000000 in
set_option maxRecDepth 100000 in
theorem back_none_none (w : World) (s : ByteArray) (v : Value) (l : List UInt8) (h : Rs w v l) (hs : s.size ≤ 200) (hl : l.length ≤ 200) (ht : Tn w) (hd : hdOk (bl s) l = false) (hsc : scOk l = false) :
    Calls Tryd.prog 8 #[.string s, v] w fun e w' => e = .returned (.bool true) ∧ Below w.heap.size w w' := by
  have HT : Hid (Tn w) := ht
  have HR : Hid (Rs w v l) := h
  obtain ⟨ao, cap, rfl⟩ := Rd.len h
  have HB : Hid (gatL (spr l) = l ∧ gatE (spr l) = 0) := ⟨by show gatL (spr l) = l; rw [(gat_ok (gatOk_spr l)).1, gat_spr], (gat_ok (gatOk_spr l)).2⟩
  have HSl : Hid ((spr l).length ≤ 100000) := by show _ ≤ _; rw [spr_length]; omega
  have HE : Hid (bl ⟨#[]⟩ = encL (bl s) l ∧ encE (bl s) l = 1) := ⟨by rw [(enc_no hd).1]; rfl, (enc_no hd).2⟩
  have HA : Hid (bl ⟨#[]⟩ = adrL l ∧ adrE l = 1) := ⟨by rw [(adr_no hsc).1]; rfl, (adr_no hsc).2⟩
  clear h ht hd hsc
  go_enter Tryd.func8, Tryd.ntmps8
  go_wp2_with fail
  refine (spread_any w _ _ l HR.out (by omega)).mono ?_
  rintro e w1 ⟨v1, rfl, ho1, hb1⟩
  have HG1 : Hid (Gr w w1) := hb1
  have HO1 : Hid (Rs w1 v1 (spr l)) := ho1.rd
  clear ho1 hb1
  go_wp2_with fail
  refine (gather_r w1 _ v1 (spr l) HO1.out HSl.out l 0 HB.out.1 HB.out.2).mono ?_
  rintro e w2 ⟨v2, rfl, ho2, hb2⟩
  have HG2 : Hid (Gr w w2) := Gr.trans HG1.out hb2
  have c1 := run_conv_rd Tryd.bt 9 (by kernel_rfl) w2 _ _ _ ho2.rd
  have c2 := run_conv_rd Tryd.bt 9 (by kernel_rfl) w2 _ _ _ (HR.out.gr HG2.out)
  clear ho2 hb2
  go_wp2_with fail
  clear c1 c2
  refine (encode_r w2 s (by omega) _ _ l (HR.out.gr HG2.out) (by omega) (HT.out.gr HG2.out) ⟨#[]⟩ 1 HE.out.1 HE.out.2).mono ?_
  rintro e w3 ⟨rfl, hb3⟩
  have HG : Hid (Gr w w3) := Gr.trans HG2.out hb3
  clear hb3
  go_wp2_with fail
  refine (address_r w3 _ _ l (HR.out.gr HG.out) (by omega) (HT.out.gr HG.out) ⟨#[]⟩ 1 HA.out.1 HA.out.2).mono ?_
  rintro e wa ⟨rfl, hba⟩
  have HGa : Hid (Gr w wa) := Gr.trans HG.out hba
  clear hba
  go_wp2_with fail
  refine (alive_any wa (HT.out.gr HGa.out)).mono ?_
  rintro e wb ⟨rfl, hbb⟩
  have HGb : Hid (Gr w wb) := Gr.trans HGa.out hbb
  clear hbb
  go_wp2
  go_ret
  exact ⟨rfl, HGb.out⟩

theorem bback_small (w : World) (s : ByteArray) (v : Value) (l : List UInt8) (h : Rs w v l) (hs : s.size ≤ 200) (hl : l.length ≤ 200) (ht : Tn w) :
    Calls Tryd.prog 8 #[.string s, v] w fun e w' => e = .returned (.bool true) ∧ Below w.heap.size w w' := by
  cases hd : hdOk (bl s) l with
  | true => cases hsc : scOk l with
    | true => exact back_word_address w s v l h hs hl ht hd hsc
    | false => exact back_word_none w s v l h hs hl ht hd hsc
  | false => cases hsc : scOk l with
    | true => exact back_none_address w s v l h hs hl ht hd hsc
    | false => exact back_none_none w s v l h hs hl ht hd hsc
end Go.Proofs.YtemgaoikngebeaaDoor
