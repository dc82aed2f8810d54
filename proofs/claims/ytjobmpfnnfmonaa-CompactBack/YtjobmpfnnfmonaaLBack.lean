/-
  What the law CompactBack comes to: true, and nothing that was there has turned; for whatever number, strings and bytes.
-/
import Derived.Test.YtjobmpfnnfmonaaLOnly
import Derived.Test.YtjobmpfnnfmonaaLists2
namespace Go.Proofs.Ytjobmpfnnfmonaa
open Go.RowKit

theorem take64_r (w : World) (B : Nat) (v : Value) (l : List UInt8) (n : Nat) (rest : List UInt8) (er : Nat) (hr : takeNum 8 l = (n, rest, er)) (h : Rd B w v l) (hl : l.length ≤ 1000000) :
    Calls Try.prog 26 #[v] w fun e w' => ∃ v', e = .returned (.tuple #[.int .u64 (n : Nat), v', .int .i64 (er : Nat)]) ∧ Own 5 w.heap.size w' v' rest ∧ Below w.heap.size w w' := by
  have := take64_any w B v l h hl
  rw [hr] at this
  exact this

theorem takeSize_r (w : World) (B : Nat) (v : Value) (l : List UInt8) (n : Nat) (rest : List UInt8) (er : Nat) (hr : takeSize l = (n, rest, er)) (h : Rd B w v l) (hl : l.length ≤ 1000000) :
    Calls Try.prog 27 #[v] w fun e w' => ∃ v', e = .returned (.tuple #[.int .u64 (n : Nat), v', .int .i64 (er : Nat)]) ∧ Own 5 w.heap.size w' v' rest ∧ Below w.heap.size w w' := by
  have := takeSize_any w B v l h hl
  rw [hr] at this
  exact this

set_option maxRecDepth 100000 in
set_option maxHeartbeats 4000000 in
theorem back_small (w : World) (v u : Value) (l : List UInt8) (ls : List (List UInt8)) (n : Nat) (hn : n < 18446744073709551616) (h : Rs w v l) (hu : RsL w u ls) (hl : l.length ≤ 300) (hs : smallB ls = true) :
    Calls Try.prog 7 #[.int .u64 n, u, v] w fun e w' => e = .returned (.bool true) ∧ Below w.heap.size w w' := by
  have hrd : Hid (Rs w v l) := h
  have hru : Hid (RsL w u ls) := hu
  obtain ⟨ao, cap, rfl⟩ := Rd.len h
  obtain ⟨a1, c1, rfl⟩ := RdL.len hu
  have hsm : ls.length ≤ 40 ∧ ∀ x ∈ ls, x.length ≤ 300 := of_decide_eq_true hs
  have Hsm : Hid (ls.length ≤ 40 ∧ ∀ x ∈ ls, x.length ≤ 300) := hsm
  have Hs : Hid (smallB ls = true) := hs
  have T1 : Hid (takeNum 8 (le n 8 ++ l) = (n, l, 0)) := takeNum_back n 8 l (by simpa using hn)
  have T2 : Hid (takeSize (sizeL n ++ l) = (n, l, 0)) := takeSize_back n l hn
  have T3 : Hid (takeList (listL ls ++ l) 40 300 = (ls, l, 0)) := takeList_back 40 300 l ls (by omega) (by omega) (fun x hx => by have := hsm.2 x hx; omega)
  have hsz := sizeL_length n
  have hsl := strsL_le 300 ls hsm.2
  have hsl3 := Nat.mul_le_mul_right 309 hsm.1
  have hsl2 := sizeL_length ls.length
  have Hbd : Hid ((sizeL n).length ≤ 9 ∧ (listL ls).length ≤ 20000) := ⟨hsz, by simp only [listL, List.length_append]; omega⟩
  clear h hu hsm hs hn hsz hsl hsl2 hsl3
  go_enter Try.func7, Try.ntmps7
  go_wp2_with fail
  refine (small_any _ _ _ hru.out).mono ?_
  rintro e w0 ⟨rfl, rfl⟩
  rw [Hs.out]
  go_wp2_with fail
  refine (put64_any _ 0 _ [] n (Rd.nil _ _) (by simp)).mono ?_
  rintro e w1 ⟨v1, rfl, ho1, hb1⟩
  go_wp2_with (at_builtin; refine wpList_append_rd Try.bt rfl (.tmp 23) (.tmp 24) rfl w.heap.size w.heap.size _ _ _ l rfl ho1 rfl (hrd.out.below hb1) (by simp [le_length]; omega) hb1.size ?_; intro v2 w2 ho2 hb2)
  refine (take64_r _ _ _ _ n l 0 T1.out ho2.rd (by simp [le_length]; omega)).mono ?_
  rintro e w3 ⟨v3, rfl, ho3, hb3⟩
  have H3 : Hid (Gr w w3) := Gr.trans (hb1.trans hb2) hb3
  have k1 := run_conv_rd Try.bt 9 (by kernel_rfl) w3 _ v3 _ ho3.rd
  have k2 := run_conv_rd Try.bt 9 (by kernel_rfl) w3 _ (.slice ao l.length cap) _ (hrd.out.gr H3.out)
  clear ho1 hb1 ho2 hb2 ho3 hb3
  go_wp2_with fail
  refine (putSize_any _ 0 _ [] n (Rd.nil _ _) (by simp)).mono ?_
  rintro e w4 ⟨v4, rfl, ho4, hb4⟩
  clear k1 k2
  go_wp2_with (at_builtin; refine wpList_append_rd Try.bt rfl (.tmp 46) (.tmp 47) rfl w3.heap.size w3.heap.size _ _ _ l rfl ho4 rfl ((hrd.out.gr H3.out).below hb4) (by have := Hbd.out.1; simp; omega) hb4.size ?_; intro v5 w5 ho5 hb5)
  refine (takeSize_r _ _ _ _ n l 0 T2.out ho5.rd (by have := Hbd.out.1; simp; omega)).mono ?_
  rintro e w6 ⟨v6, rfl, ho6, hb6⟩
  have H6 : Hid (Gr w w6) := Gr.trans H3.out (Gr.trans (hb4.trans hb5) hb6)
  have k1 := run_conv_rd Try.bt 9 (by kernel_rfl) w6 _ v6 _ ho6.rd
  have k2 := run_conv_rd Try.bt 9 (by kernel_rfl) w6 _ (.slice ao l.length cap) _ (hrd.out.gr H6.out)
  clear ho4 hb4 ho5 hb5 ho6 hb6
  go_wp2_with fail
  refine (putList_any _ 0 _ _ [] ls (Rd.nil _ _) (hru.out.gr H6.out) (by simp) (by have := Hsm.out.1; omega) (fun x hx => by have := Hsm.out.2 x hx; omega)).mono ?_
  rintro e w7 ⟨v7, rfl, ho7, hb7⟩
  clear k1 k2
  go_wp2_with (at_builtin; refine wpList_append_rd Try.bt rfl (.tmp 69) (.tmp 70) rfl w6.heap.size w6.heap.size _ _ _ l rfl ho7 rfl ((hrd.out.gr H6.out).below hb7) (by have := Hbd.out.2; simp; omega) hb7.size ?_; intro v8 w8 ho8 hb8)
  refine (takeList_r _ _ _ 40 300 (by omega) (by omega) (by omega) (by omega) ls l 0 T3.out ho8.rd (by have := Hbd.out.2; simp; omega)).mono ?_
  rintro e w9 ⟨v9, v10, rfl, ho9, ho10, hb9⟩
  have H9 : Hid (Gr w w9) := Gr.trans H6.out (Gr.trans (hb7.trans hb8) hb9)
  have Q9 : Hid (RsL w9 v9 ls) := ho9.rd
  have Q10 : Hid (Rs w9 v10 l) := ho10.rd
  clear ho7 hb7 ho8 hb8 ho9 ho10 hb9
  go_wp2_with fail
  refine (alive_any _).mono ?_
  rintro e w10 ⟨rfl, hb10⟩
  go_wp2_with fail
  refine (same_any _ _ _ ls (hru.out.gr (Gr.trans H9.out hb10)) (Q9.out.gr hb10) (by have := Hsm.out.1; omega)).mono ?_
  rintro e w11 ⟨rfl, hb11⟩
  have H11 : Hid (Gr w w11) := Gr.trans H9.out (Gr.trans hb10 hb11)
  have k1 := run_conv_rd Try.bt 9 (by kernel_rfl) w11 _ v10 _ (Q10.out.gr (Gr.trans hb10 hb11))
  have k2 := run_conv_rd Try.bt 9 (by kernel_rfl) w11 _ (.slice ao l.length cap) _ (hrd.out.gr H11.out)
  clear hb10 hb11
  go_wp2
  go_ret
  exact ⟨rfl, H11.out⟩

set_option maxRecDepth 100000 in
set_option maxHeartbeats 1000000 in
theorem back_many (w : World) (z : Int) (u v : Value) (ls : List (List UInt8)) (hu : RsL w u ls) (hs : smallB ls = false) :
    Calls Try.prog 7 #[.int .u64 z, u, v] w fun e w' => e = .returned (.bool true) ∧ Below w.heap.size w w' := by
  have Hs : Hid (smallB ls = false) := hs
  have Hu : Hid (RsL w u ls) := hu
  clear hs hu
  go_enter Try.func7, Try.ntmps7
  go_wp2_with fail
  refine (small_any _ _ _ Hu.out).mono ?_
  rintro e w0 ⟨rfl, rfl⟩
  rw [Hs.out]
  go_wp2_with (go_at_call 10; refine (alive_any _).mono ?_; rintro e w1 ⟨rfl, hb1⟩)
  go_ret
  exact ⟨rfl, hb1⟩

set_option maxRecDepth 100000 in
set_option maxHeartbeats 1000000 in
theorem back_large (w : World) (z : Int) (u : Value) (ls : List (List UInt8)) (ao : Option Addr) (len cap : Nat) (hl : 300 < len) (hu : RsL w u ls) (hs : smallB ls = true) :
    Calls Try.prog 7 #[.int .u64 z, u, .slice ao len cap] w fun e w' => e = .returned (.bool true) ∧ Below w.heap.size w w' := by
  have Hs : Hid (smallB ls = true) := hs
  have Hu : Hid (RsL w u ls) := hu
  clear hs hu
  go_enter Try.func7, Try.ntmps7
  go_wp2_with fail
  refine (small_any _ _ _ Hu.out).mono ?_
  rintro e w0 ⟨rfl, rfl⟩
  rw [Hs.out]
  go_wp2_with (go_at_call 10; refine (alive_any _).mono ?_; rintro e w1 ⟨rfl, hb1⟩)
  go_ret
  exact ⟨rfl, hb1⟩

end Go.Proofs.Ytjobmpfnnfmonaa
