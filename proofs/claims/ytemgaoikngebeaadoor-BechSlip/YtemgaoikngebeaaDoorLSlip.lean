/-
  The law BechSlip: true, and nothing that was there has turned.
-/
import Derived.Test.YtemgaoikngebeaaDoorB17
namespace Go.Proofs.YtemgaoikngebeaaDoor
open Go.RowKit

/-- A letter in a text's place. -/
theorem tx_put (X C : ByteArray) (p : Nat) (d : UInt8) (hp : p < X.size) (hC : bl C = [d]) : bl (X.extract 0 p ++ C ++ X.extract (p + 1) X.size) = (bl X).set p d := by
  have e1 : X.extract 0 p = ⟨((bl X).take p).toArray⟩ := by conv => lhs; rw [tx_bl X, tx_take]
  have e2 : X.extract (p + 1) X.size = ⟨((bl X).drop (p + 1)).toArray⟩ := by
    have := tx_drop (bl X) (p + 1) X.size (bl_length X).symm
    rw [← tx_bl] at this
    exact this
  have e3 : C = ⟨[d].toArray⟩ := by rw [tx_bl C, hC]
  rw [e1, e2, e3, tx_append, tx_append, bl_mk, List.set_eq_take_append_cons_drop, if_pos (by rw [bl_length]; exact hp)]
  simp
theorem tx_letter (X : ByteArray) (p : Nat) (hp : p < X.size) : bl (X.extract p (p + 1)) = [(bl X)[p]'(by rw [bl_length]; exact hp)] := by
  rw [bl_cut, List.take_succ_eq_append_getElem (by rw [bl_length]; exact hp)]
  have hl : ((bl X).take p).length = p := by rw [List.length_take, bl_length]; omega
  conv => lhs; arg 1; rw [← hl]
  rw [List.drop_left]

set_option maxHeartbeats 2000000 in
set_option maxRecDepth 100000 in
theorem slip_out (w : World) (s : ByteArray) (ao : Option Addr) (n cap : Nat) (a b : Int) (ht : Tn w) (h : 200 < s.size ∨ 200 < n ∨ b < 0 ∨ 31 < b) :
    Calls Tryd.prog 9 #[.string s, .slice ao n cap, .agg #[.int .i64 a, .int .i64 b]] w fun e w' => e = .returned (.bool true) ∧ Below w.heap.size w w' := by
  have HT : Hid (Tn w) := ht
  have HC : Hid (200 < s.size ∨ 200 < n ∨ b < 0 ∨ 31 < b) := h
  clear ht h
  go_enter Tryd.func9, Tryd.ntmps9
  go_wp2_with (refine wpList_box_arr rfl 40 (.tmp 2) rfl [.int .i64 a, .int .i64 b] rfl ?_; intro g w1 hg1 ha1 hb1)
  have q0 : w1.cell? ⟨g, 0, none⟩ = some (.int .i64 a) := ha1.cell (by simp)
  have q1 : w1.cell? ⟨g, 1, none⟩ = some (.int .i64 b) := ha1.cell (by simp)
  have HB1 : Hid (Below w.heap.size w w1) := hb1
  clear ha1 hb1
  go_quiet (fail)
  have HG : Hid (Gr w (w1.drewN nq)) := HB1.out.trans (Below.drewN' _ _ _)
  generalize w1.drewN nq = w2 at HG
  clear q0 q1 HB1 hg1
  by_cases h1 : 200 < s.size
  · clear HC
    go_wp2_with fail
    refine (alive_any w2 (HT.out.gr HG.out)).mono ?_
    rintro e w3 ⟨rfl, hb3⟩
    have HG3 : Hid (Gr w w3) := Gr.trans HG.out hb3
    clear hb3
    go_wp2
    go_ret
    exact ⟨rfl, HG3.out⟩
  · by_cases h2 : 200 < n
    · clear HC
      go_wp2_with fail
      refine (alive_any w2 (HT.out.gr HG.out)).mono ?_
      rintro e w3 ⟨rfl, hb3⟩
      have HG3 : Hid (Gr w w3) := Gr.trans HG.out hb3
      clear hb3
      go_wp2
      go_ret
      exact ⟨rfl, HG3.out⟩
    · by_cases h3 : b < 0
      · clear HC
        go_wp2_with fail
        refine (alive_any w2 (HT.out.gr HG.out)).mono ?_
        rintro e w3 ⟨rfl, hb3⟩
        have HG3 : Hid (Gr w w3) := Gr.trans HG.out hb3
        clear hb3
        go_wp2
        go_ret
        exact ⟨rfl, HG3.out⟩
      · have h4 : 31 < b := by have := HC.out; omega
        clear HC
        go_wp2_with fail
        refine (alive_any w2 (HT.out.gr HG.out)).mono ?_
        rintro e w3 ⟨rfl, hb3⟩
        have HG3 : Hid (Gr w w3) := Gr.trans HG.out hb3
        clear hb3
        go_wp2
        go_ret
        exact ⟨rfl, HG3.out⟩

set_option maxHeartbeats 2000000 in
set_option maxRecDepth 100000 in
theorem slip_none (w : World) (s : ByteArray) (v : Value) (l : List UInt8) (h : Rs w v l) (a b : Int) (hs : s.size ≤ 200) (hl : l.length ≤ 200) (ht : Tn w) (hb : 0 ≤ b) (hb2 : b ≤ 31) (hd : hdOk (bl s) l = false) :
    Calls Tryd.prog 9 #[.string s, v, .agg #[.int .i64 a, .int .i64 b]] w fun e w' => e = .returned (.bool true) ∧ Below w.heap.size w w' := by
  have HT : Hid (Tn w) := ht
  have HR : Hid (Rs w v l) := h
  obtain ⟨ao, cap, rfl⟩ := Rd.len h
  have HE : Hid (bl ⟨#[]⟩ = encL (bl s) l ∧ encE (bl s) l = 1) := ⟨by rw [(enc_no hd).1]; rfl, (enc_no hd).2⟩
  clear h ht hd
  go_enter Tryd.func9, Tryd.ntmps9
  go_wp2_with (refine wpList_box_arr rfl 40 (.tmp 2) rfl [.int .i64 a, .int .i64 b] rfl ?_; intro g w1 hg1 ha1 hb1)
  have q0 : w1.cell? ⟨g, 0, none⟩ = some (.int .i64 a) := ha1.cell (by simp)
  have q1 : w1.cell? ⟨g, 1, none⟩ = some (.int .i64 b) := ha1.cell (by simp)
  have HB1 : Hid (Below w.heap.size w w1) := hb1
  clear ha1 hb1
  go_quiet (fail)
  have HG : Hid (Gr w (w1.drewN nq)) := HB1.out.trans (Below.drewN' _ _ _)
  generalize w1.drewN nq = w2 at HG
  clear q0 q1 HB1 hg1
  go_wp2_with fail
  refine (encode_r w2 s (by omega) _ _ l (HR.out.gr HG.out) (by omega) (HT.out.gr HG.out) ⟨#[]⟩ 1 HE.out.1 HE.out.2).mono ?_
  rintro e w3 ⟨rfl, hb3⟩
  have HG3 : Hid (Gr w w3) := Gr.trans HG.out hb3
  clear hb3
  go_wp2_with fail
  refine (alive_any w3 (HT.out.gr HG3.out)).mono ?_
  rintro e w4 ⟨rfl, hb4⟩
  have HG4 : Hid (Gr w w4) := Gr.trans HG3.out hb4
  clear hb4
  go_wp2
  go_ret
  exact ⟨rfl, HG4.out⟩

set_option maxHeartbeats 2000000 in
set_option maxRecDepth 100000 in
theorem slip_far (w : World) (s : ByteArray) (v : Value) (l : List UInt8) (h : Rs w v l) (a b : Int) (hs : s.size ≤ 200) (hl : l.length ≤ 200) (ht : Tn w) (hb : 0 ≤ b) (hb2 : b ≤ 31) (hd : hdOk (bl s) l = true)
    (hf : 83 < s.size + l.length ∨ a ≤ s.size ∨ (s.size + l.length + 7 : Nat) ≤ a) :
    Calls Tryd.prog 9 #[.string s, v, .agg #[.int .i64 a, .int .i64 b]] w fun e w' => e = .returned (.bool true) ∧ Below w.heap.size w w' := by
  have HT : Hid (Tn w) := ht
  have HR : Hid (Rs w v l) := h
  have HF : Hid (83 < s.size + l.length ∨ a ≤ s.size ∨ (s.size + l.length + 7 : Nat) ≤ a) := hf
  obtain ⟨ao, cap, rfl⟩ := Rd.len h
  obtain ⟨X, HX⟩ : ∃ X : ByteArray, Hid (bl X = wordL (bl s) l) := ⟨⟨(wordL (bl s) l).toArray⟩, bl_mk _⟩
  have HE : Hid (bl X = encL (bl s) l ∧ encE (bl s) l = 0) := ⟨by rw [(enc_ok hd).1]; exact HX.out, (enc_ok hd).2⟩
  have HXs : Hid (X.size = s.size + l.length + 7) := by show _ = _; rw [← bl_length, HX.out, wordL_length, bl_length]
  clear h ht hd hf
  go_enter Tryd.func9, Tryd.ntmps9
  go_wp2_with (refine wpList_box_arr rfl 40 (.tmp 2) rfl [.int .i64 a, .int .i64 b] rfl ?_; intro g w1 hg1 ha1 hb1)
  have q0 : w1.cell? ⟨g, 0, none⟩ = some (.int .i64 a) := ha1.cell (by simp)
  have q1 : w1.cell? ⟨g, 1, none⟩ = some (.int .i64 b) := ha1.cell (by simp)
  have HB1 : Hid (Below w.heap.size w w1) := hb1
  clear ha1 hb1
  go_quiet (fail)
  have HG : Hid (Gr w (w1.drewN nq)) := HB1.out.trans (Below.drewN' _ _ _)
  generalize w1.drewN nq = w2 at HG
  clear q0 q1 HB1 hg1
  go_wp2_with fail
  refine (encode_r w2 s (by omega) _ _ l (HR.out.gr HG.out) (by omega) (HT.out.gr HG.out) X 0 HE.out.1 HE.out.2).mono ?_
  rintro e w3 ⟨rfl, hb3⟩
  have HG3 : Hid (Gr w w3) := Gr.trans HG.out hb3
  clear hb3
  have done : Hid (∀ w4, Below w3.heap.size w3 w4 → Gr w w4) := fun w4 h => Gr.trans HG3.out h
  by_cases h90 : 90 < X.size
  · clear HF HXs
    go_wp2_with fail
    refine (alive_any w3 (HT.out.gr HG3.out)).mono ?_
    rintro e w4 ⟨rfl, hb4⟩
    have HG4 : Hid (Gr w w4) := done.out w4 hb4
    clear hb4 done
    go_wp2
    go_ret
    exact ⟨rfl, HG4.out⟩
  · by_cases ha : a ≤ s.size
    · have da : decide (a ≤ (s.size : Int)) = true := by simp; omega
      clear HF HXs
      go_wp2_with fail
      refine (alive_any w3 (HT.out.gr HG3.out)).mono ?_
      rintro e w4 ⟨rfl, hb4⟩
      have HG4 : Hid (Gr w w4) := done.out w4 hb4
      clear hb4 done
      go_wp2
      go_ret
      exact ⟨rfl, HG4.out⟩
    · have da : decide (a ≤ (s.size : Int)) = false := by simp; omega
      have db : decide (a ≥ (X.size : Int)) = true := by have h1 := HF.out; have h2 := HXs.out; simp; omega
      clear HF HXs
      go_wp2_with fail
      refine (alive_any w3 (HT.out.gr HG3.out)).mono ?_
      rintro e w4 ⟨rfl, hb4⟩
      have HG4 : Hid (Gr w w4) := done.out w4 hb4
      clear hb4 done
      go_wp2
      go_ret
      exact ⟨rfl, HG4.out⟩
end Go.Proofs.YtemgaoikngebeaaDoor
