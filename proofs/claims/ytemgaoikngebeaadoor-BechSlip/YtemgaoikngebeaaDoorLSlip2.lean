/-
  The law BechSlip at a letter behind the 1: true, and nothing that was there has turned.
-/
import Derived.Test.YtemgaoikngebeaaDoorLSlip
namespace Go.Proofs.YtemgaoikngebeaaDoor
open Go.RowKit

set_option maxHeartbeats 4000000 in
set_option maxRecDepth 100000 in
theorem slip_near (w : World) (s : ByteArray) (v : Value) (l : List UInt8) (h : Rs w v l) (p : Nat) (u : UInt8) (hs : s.size ≤ 200) (hl : l.length ≤ 200) (ht : Tn w) (hu : u.toNat < 32) (hd : hdOk (bl s) l = true)
    (hf : s.size + l.length ≤ 83) (hp1 : s.size < p) (hp2 : p < s.size + l.length + 7) :
    Calls Tryd.prog 9 #[.string s, v, .agg #[.int .i64 (p : Int), .int .i64 (u.toNat : Int)]] w fun e w' => e = .returned (.bool true) ∧ Below w.heap.size w w' := by
  have HT : Hid (Tn w) := ht
  have HR : Hid (Rs w v l) := h
  obtain ⟨ao, cap, rfl⟩ := Rd.len h
  obtain ⟨X, HX⟩ : ∃ X : ByteArray, Hid (bl X = wordL (bl s) l) := ⟨⟨(wordL (bl s) l).toArray⟩, bl_mk _⟩
  have HE : Hid (bl X = encL (bl s) l ∧ encE (bl s) l = 0) := ⟨by rw [(enc_ok hd).1]; exact HX.out, (enc_ok hd).2⟩
  have hXs : X.size = s.size + l.length + 7 := by rw [← bl_length, HX.out, wordL_length, bl_length]
  obtain ⟨C, HC⟩ : ∃ C : ByteArray, Hid ((⟨#[letA u]⟩ : ByteArray) = C) := ⟨⟨#[letA u]⟩, rfl⟩
  have hCb : bl C = [letA u] := by rw [← HC.out]; rfl
  have hCs : C.size = 1 := by rw [← bl_length, hCb]; rfl
  have hlet := fun w => run_lets w u hu .i64 .i64 _ _ rfl rfl
  rw [HC.out] at hlet
  have hpX : p < (bl X).length := by rw [bl_length]; omega
  have HT2 : Hid (bl (X.extract 0 p ++ C ++ X.extract (p + 1) X.size) = (bl X).set p (letA u)) := tx_put X C p _ (by omega) hCb
  have HTs : Hid ((X.extract 0 p ++ C ++ X.extract (p + 1) X.size).size ≤ 100000) := by
    show _ ≤ _
    rw [← bl_length, HT2.out, List.length_set, bl_length]; omega
  have HL := tx_letter X p (by omega)
  have HY : Hid ((C.toList == (X.extract p (p + 1)).toList) = decide (decF (bl (X.extract 0 p ++ C ++ X.extract (p + 1) X.size)) = 0)) := by
    show _ = _
    rw [HT2.out]
    by_cases he : (bl X)[p] = letA u
    · have e1 : (bl X).set p (letA u) = bl X := by rw [← he]; exact List.set_getElem_self hpX
      have e2 : C = X.extract p (p + 1) := bl_inj (by rw [hCb, HL, he])
      rw [e1, HX.out, (dec_ok (dec_word hd).1).2.2, ← e2, tx_eq]
      rfl
    · have h3 : decOk ((bl X).set p (letA u)) = false := by
        have hp3 : p < (wordL (bl s) l).length := by rw [← HX.out]; exact hpX
        have := dec_slip hd p u hu (by rw [bl_length]; exact hp1) hp3 (by
          intro e
          apply he
          rw [← e]
          congr 1)
        rw [← HX.out] at this
        exact this
      rw [(dec_no h3).2.2, tx_ne (by rw [hCb, HL]; simpa using fun e => he e.symm)]
      rfl
  have HF : Hid (decF (bl (X.extract 0 p ++ C ++ X.extract (p + 1) X.size)) = 0 ∨ decF (bl (X.extract 0 p ++ C ++ X.extract (p + 1) X.size)) = 3) := by
    show _ ∨ _
    cases hk : decOk (bl (X.extract 0 p ++ C ++ X.extract (p + 1) X.size)) with
    | true => exact .inl (dec_ok hk).2.2
    | false => exact .inr (dec_no hk).2.2
  have HDc : Hid (∀ w, Tn w → Calls Tryd.prog 15 #[.string (X.extract 0 p ++ C ++ X.extract (p + 1) X.size)] w fun e w' => ∃ z v', e = .returned (.tuple #[z, v', .int .i64 (decF (bl (X.extract 0 p ++ C ++ X.extract (p + 1) X.size)))]) ∧ Below w.heap.size w w') := fun w ht =>
    (decode_any w _ HTs.out ht).mono fun e w' ⟨v', he, _, hb⟩ => ⟨_, v', he, hb⟩
  generalize decF (bl (X.extract 0 p ++ C ++ X.extract (p + 1) X.size)) = x at HY HF HDc
  obtain ⟨k, Hk⟩ : ∃ k : Nat, Hid (u.toNat = k) := ⟨u.toNat, rfl⟩
  rw [Hk.out] at hlet hu ⊢
  clear h ht hd hCb HL hpX HT2
  go_enter Tryd.func9, Tryd.ntmps9
  go_wp2_with (refine wpList_box_arr rfl 40 (.tmp 2) rfl [.int .i64 (p : Int), .int .i64 (k : Int)] rfl ?_; intro g w1 hg1 ha1 hb1)
  have q0 : w1.cell? ⟨g, 0, none⟩ = some (.int .i64 (p : Int)) := ha1.cell (by simp)
  have q1 : w1.cell? ⟨g, 1, none⟩ = some (.int .i64 (k : Int)) := ha1.cell (by simp)
  have HB1 : Hid (Below w.heap.size w w1) := hb1
  clear ha1 hb1
  go_quiet (fail)
  have HG : Hid (Gr w (w1.drewN nq)) := HB1.out.trans (Below.drewN' _ _ _)
  generalize w1.drewN nq = w2 at HG
  clear q0 q1 HB1 hg1
  go_wp2_with fail
  refine (encode_r w2 s (by omega) _ _ l (HR.out.gr HG.out) (by omega) (HT.out.gr HG.out) X 0 HE.out.1 HE.out.2).mono ?_
  rintro e w3 ⟨rfl, hb3⟩
  have HG3 : Hid (Gr w w3) := Gr.trans HG.out hb3
  have hX1 : X.size ≤ 90 := by omega
  have hX2 : p < X.size := by omega
  clear hb3 hXs
  go_wp2_with fail
  go_quiet (fail)
  have HG4 : Hid (Gr w (w3.drewN nq)) := Gr.trans HG3.out (Below.drewN' _ _ _)
  generalize w3.drewN nq = w4 at HG4
  generalize X.extract 0 p ++ C ++ X.extract (p + 1) X.size = T at HDc HTs
  go_wp2_with fail
  refine (HDc.out w4 (HT.out.gr HG4.out)).mono ?_
  rintro e w5 ⟨z, v', rfl, hb5⟩
  have HG5 : Hid (Gr w w5) := Gr.trans HG4.out hb5
  clear hb5
  go_wp2_with fail
  refine (alive_any w5 (HT.out.gr HG5.out)).mono ?_
  rintro e w6 ⟨rfl, hb6⟩
  have HG6 : Hid (Gr w w6) := Gr.trans HG5.out hb6
  clear hb6
  rcases HF.out with hx | hx
  · have hq : (C.toList == (X.extract p (p + 1)).toList) = true := by rw [HY.out, hx]; rfl
    subst hx
    clear HY HF HDc
    go_wp2
    go_ret
    exact ⟨rfl, HG6.out⟩
  · have hq : (C.toList == (X.extract p (p + 1)).toList) = false := by rw [HY.out, hx]; rfl
    subst hx
    clear HY HF HDc
    go_wp2
    go_ret
    exact ⟨rfl, HG6.out⟩

theorem slip_any (w : World) (s : ByteArray) (v : Value) (l : List UInt8) (h : Rs w v l) (a b : Int) (ht : Tn w) :
    Calls Tryd.prog 9 #[.string s, v, .agg #[.int .i64 a, .int .i64 b]] w fun e w' => e = .returned (.bool true) ∧ Below w.heap.size w w' := by
  by_cases hout : 200 < s.size ∨ 200 < l.length ∨ b < 0 ∨ 31 < b
  · obtain ⟨ao, cap, rfl⟩ := Rd.len h
    exact slip_out w s ao _ cap a b ht hout
  · have h1 : s.size ≤ 200 := by omega
    have h2 : l.length ≤ 200 := by omega
    have h3 : 0 ≤ b := by omega
    have h4 : b ≤ 31 := by omega
    cases hd : hdOk (bl s) l with
    | false => exact slip_none w s v l h a b h1 h2 ht h3 h4 hd
    | true =>
      by_cases hf : 83 < s.size + l.length ∨ a ≤ s.size ∨ (s.size + l.length + 7 : Nat) ≤ a
      · exact slip_far w s v l h a b h1 h2 ht h3 h4 hd hf
      · obtain ⟨p, rfl⟩ : ∃ p : Nat, a = (p : Int) := ⟨a.toNat, by omega⟩
        obtain ⟨k, rfl⟩ : ∃ k : Nat, b = (k : Int) := ⟨b.toNat, by omega⟩
        have e : ((UInt8.ofNat k).toNat : Int) = (k : Int) := by simp only [UInt8.toNat_ofNat']; omega
        have := slip_near w s v l h p (UInt8.ofNat k) h1 h2 ht (by omega) hd (by omega) (by omega) (by omega)
        rw [e] at this
        exact this
end Go.Proofs.YtemgaoikngebeaaDoor
