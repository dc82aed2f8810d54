/-
  What the law CompactCut comes to: true, and nothing that was there has turned; for whatever number, strings and place.
-/
import Derived.Test.YtjobmpfnnfmonaaLBack
namespace Go.Proofs.Ytjobmpfnnfmonaa
open Go.RowKit

set_option maxRecDepth 100000 in
set_option maxHeartbeats 1000000 in
theorem cut_many (w : World) (z at0 : Int) (u : Value) (ls : List (List UInt8)) (hu : RsL w u ls) (hs : smallB ls = false) :
    Calls Try.prog 8 #[.int .u64 z, u, .int .i64 at0] w fun e w' => e = .returned (.bool true) ∧ Below w.heap.size w w' := by
  have Hs : Hid (smallB ls = false) := hs
  have Hu : Hid (RsL w u ls) := hu
  clear hs hu
  go_enter Try.func8, Try.ntmps8
  go_wp2_with fail
  refine (small_any _ _ _ Hu.out).mono ?_
  rintro e w0 ⟨rfl, rfl⟩
  rw [Hs.out]
  go_wp2_with (go_at_call 10; refine (alive_any _).mono ?_; rintro e w1 ⟨rfl, hb1⟩)
  go_ret
  exact ⟨rfl, hb1⟩

set_option maxRecDepth 100000 in
set_option maxHeartbeats 4000000 in
theorem cut_small (w : World) (u : Value) (ls : List (List UInt8)) (n : Nat) (at0 : Int) (hu : RsL w u ls) (hs : smallB ls = true) :
    Calls Try.prog 8 #[.int .u64 n, u, .int .i64 at0] w fun e w' => e = .returned (.bool true) ∧ Below w.heap.size w w' := by
  have hru : Hid (RsL w u ls) := hu
  obtain ⟨a1, c1, rfl⟩ := RdL.len hu
  have hsm : ls.length ≤ 40 ∧ ∀ x ∈ ls, x.length ≤ 300 := of_decide_eq_true hs
  have Hsm : Hid (ls.length ≤ 40 ∧ ∀ x ∈ ls, x.length ≤ 300) := hsm
  have Hs : Hid (smallB ls = true) := hs
  have T2 : Hid (∀ j, j < (sizeL n).length → takeSize ((sizeL n).take j) = (0, [], 2)) := takeSize_cut n
  have T3 : Hid (∀ j, j < (listL ls).length → takeList ((listL ls).take j) 40 300 = ([], [], 2)) := fun j hj => takeList_cut 40 300 ls j (by omega) (by omega) (fun x hx => by have := hsm.2 x hx; omega) hj
  have hsz := sizeL_length n
  have hsl := strsL_le 300 ls hsm.2
  have hsl3 := Nat.mul_le_mul_right 309 hsm.1
  have hsl2 := sizeL_length ls.length
  have hb1 : (sizeL n).length ≤ 9 := hsz
  have hb2 : (listL ls).length ≤ 20000 := by simp only [listL, List.length_append]; omega
  clear hu hsm hs hsz hsl hsl2 hsl3
  generalize hS : sizeL n = S at *
  generalize hL : listL ls = L at *
  have HS : Hid (sizeL n = S) := hS
  have HL : Hid (listL ls = L) := hL
  clear hS hL
  go_enter Try.func8, Try.ntmps8
  go_wp2_with fail
  refine (small_any _ _ _ hru.out).mono ?_
  rintro e w0 ⟨rfl, rfl⟩
  rw [Hs.out]
  go_wp2_with fail
  refine (putSize_any _ 0 _ [] n (Rd.nil _ _) (by simp)).mono ?_
  rintro e w1 ⟨v1, rfl, ho1, hg1⟩
  rw [HS.out, List.nil_append] at ho1
  go_wp2_with fail
  refine (putList_any _ 0 _ _ [] ls (Rd.nil _ _) (hru.out.gr hg1) (by simp) (by have := Hsm.out.1; omega) (fun x hx => by have := Hsm.out.2 x hx; omega)).mono ?_
  rintro e w2 ⟨v2, rfl, ho2, hg2⟩
  rw [HL.out, List.nil_append] at ho2
  have H2 : Hid (Gr w w2 ∧ Rs w2 v1 S ∧ Rs w2 v2 L) := ⟨Gr.trans hg1 hg2, (ho1.keep hg2).rd, ho2.rd⟩
  obtain ⟨s1, k1, rfl, hk1, -, -⟩ := (ho1.rd : Rd _ _ _ _)
  obtain ⟨s2, k2, rfl, hk2, -, -⟩ := (ho2.rd : Rd _ _ _ _)
  clear ho1 ho2 hg1 hg2
  rcases Int.lt_or_le at0 0 with hneg | hpos
  · go_wp2_with (go_at_call 10; refine (alive_any _).mono ?_; rintro e w3 ⟨rfl, hb3⟩)
    go_ret
    exact ⟨rfl, Gr.trans H2.out.1 hb3⟩
  · obtain ⟨k, rfl⟩ := Int.eq_ofNat_of_zero_le hpos
    clear hpos
    by_cases c1 : k < S.length
    · have Q1 : Hid (Rs w2 (.slice s1 k k1) (S.take k)) := Rd.take H2.out.2.1 (by omega) k rfl
      by_cases c2 : k < L.length
      · have Q2 : Hid (Rs w2 (.slice s2 k k2) (L.take k)) := Rd.take H2.out.2.2 (by omega) k rfl
        go_wp2_with fail
        refine (takeSize_r _ _ _ _ 0 [] 2 (T2.out k c1) Q1.out (by simp; omega)).mono ?_
        rintro e w3 ⟨v3, rfl, ho3, hg3⟩
        obtain ⟨s3, k3, rfl⟩ := ho3.rd.len
        go_wp2_with fail
        refine (takeList_r _ _ _ 40 300 (by omega) (by omega) (by omega) (by omega) [] [] 2 (T3.out k c2) (Q2.out.gr hg3) (by simp; omega)).mono ?_
        rintro e w4 ⟨v4, v5, rfl, ho4, ho5, hg4⟩
        obtain ⟨s4, k4, rfl⟩ := ho4.rd.len
        obtain ⟨s5, k5, rfl⟩ := ho5.rd.len
        have q : Hid (Gr w w4) := Gr.trans H2.out.1 (Gr.trans hg3 hg4)
        clear ho3 ho4 ho5 hg3 hg4
        go_wp2_with (go_at_call 10; refine (alive_any _).mono ?_; rintro e w5 ⟨rfl, hb5⟩)
        go_ret
        exact ⟨rfl, Gr.trans q.out hb5⟩
      · go_wp2_with fail
        refine (takeSize_r _ _ _ _ 0 [] 2 (T2.out k c1) Q1.out (by simp; omega)).mono ?_
        rintro e w3 ⟨v3, rfl, ho3, hg3⟩
        obtain ⟨s3, k3, rfl⟩ := ho3.rd.len
        have q : Hid (Gr w w3) := Gr.trans H2.out.1 hg3
        clear ho3 hg3
        go_wp2_with (go_at_call 10; refine (alive_any _).mono ?_; rintro e w5 ⟨rfl, hb5⟩)
        go_ret
        exact ⟨rfl, Gr.trans q.out hb5⟩
    · by_cases c2 : k < L.length
      · have Q2 : Hid (Rs w2 (.slice s2 k k2) (L.take k)) := Rd.take H2.out.2.2 (by omega) k rfl
        go_wp2_with fail
        refine (takeList_r _ _ _ 40 300 (by omega) (by omega) (by omega) (by omega) [] [] 2 (T3.out k c2) Q2.out (by simp; omega)).mono ?_
        rintro e w4 ⟨v4, v5, rfl, ho4, ho5, hg4⟩
        obtain ⟨s4, k4, rfl⟩ := ho4.rd.len
        obtain ⟨s5, k5, rfl⟩ := ho5.rd.len
        have q : Hid (Gr w w4) := Gr.trans H2.out.1 hg4
        clear ho4 ho5 hg4
        go_wp2_with (go_at_call 10; refine (alive_any _).mono ?_; rintro e w5 ⟨rfl, hb5⟩)
        go_ret
        exact ⟨rfl, Gr.trans q.out hb5⟩
      · go_wp2_with (go_at_call 10; refine (alive_any _).mono ?_; rintro e w5 ⟨rfl, hb5⟩)
        go_ret
        exact ⟨rfl, Gr.trans H2.out.1 hb5⟩

end Go.Proofs.Ytjobmpfnnfmonaa
