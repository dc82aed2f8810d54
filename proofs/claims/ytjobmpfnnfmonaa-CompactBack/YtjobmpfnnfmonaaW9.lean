/-
  Contracts of package compact, and of the document's own answers: lists that are taken.
-/
import Derived.Test.YtjobmpfnnfmonaaW8
import Derived.Test.YtjobmpfnnfmonaaLMem
namespace Go.Proofs.Ytjobmpfnnfmonaa
open Go.RowKit

theorem Try.bl : BL Try.prog 31 22 5 := ⟨by kernel_rfl, by decide, by kernel_rfl⟩

theorem readBytes_r (B : Nat) (w : World) (v : Value) (l : List UInt8) (most : Int) (h0 : -9223372036854775808 ≤ most) (h1 : most ≤ 9223372036854775807) (x rest : List UInt8) (er : Nat) (hr : takeBytes l most = (x, rest, er)) (h : Rd B w v l) (hl : l.length ≤ 1000000) :
    Calls Try.prog 43 #[v, .int .i64 most] w fun e w' => ∃ v1 v2, e = .returned (.tuple #[v1, v2, .int .i64 (er : Nat)]) ∧ Rd B w' v1 x ∧ Rd B w' v2 rest ∧ Below w.heap.size w w' := by
  have := readBytes_any w B v l most h0 h1 h hl
  rw [hr] at this
  exact this

theorem refTakeBytes_r (w : World) (v : Value) (l : List UInt8) (most : Int) (h0 : -9223372036854775808 ≤ most) (h1 : most ≤ 9223372036854775807) (x rest : List UInt8) (er : Nat) (hr : takeBytes l most = (x, rest, er)) (h : Rs w v l) (hl : l.length ≤ 1000000) :
    Calls Try.prog 30 #[v, .int .i64 most] w fun e w' => ∃ v1 v2, e = .returned (.tuple #[v1, v2, .int .i64 (er : Nat)]) ∧ Own 5 w.heap.size w' v1 x ∧ Own 5 w.heap.size w' v2 rest ∧ Below w.heap.size w w' := by
  have := refTakeBytes_any w _ v l most h0 h1 h hl
  rw [hr] at this
  exact this

set_option maxHeartbeats 2000000 in
theorem takeList_any (w : World) (v : Value) (l : List UInt8) (many most : Int) (g0 : -9223372036854775808 ≤ many) (g1 : many ≤ 9223372036854775807) (h0 : -9223372036854775808 ≤ most) (h1 : most ≤ 9223372036854775807) (h : Rs w v l) (hl : l.length ≤ 100000) :
    Calls Try.prog 31 #[v, .int .i64 many, .int .i64 most] w fun e w' => ∃ v1 v2, e = .returned (.tuple #[v1, v2, .int .i64 ((takeList l many most).2.2 : Nat)]) ∧ OwnL 22 5 w.heap.size w' v1 (takeList l many most).1 ∧ Own 5 w.heap.size w' v2 (takeList l many most).2.1 ∧ Below w.heap.size w w' := by
  unfold takeList
  obtain ⟨n, rest, er, hr⟩ : ∃ n rest er, takeSize l = (n, rest, er) := ⟨_, _, _, rfl⟩
  have hle := takeSize_le l
  rw [hr] at hle ⊢
  simp only at hle ⊢
  have Hr : Hid (takeSize l = (n, rest, er)) := hr
  clear hr
  have Hab : Hid (∀ w, Calls Try.prog 45 #[.int .u64 n, .int .i64 many] w fun e w' => e = .returned (.bool (over n many)) ∧ w = w') := fun w => above_any w n many g0 g1
  have Hrb : Hid (∀ (B : Nat) (w : World) (v : Value) (l x rest : List UInt8) (er : Nat), takeBytes l most = (x, rest, er) → Rd B w v l → l.length ≤ 1000000 → Calls Try.prog 43 #[v, .int .i64 most] w fun e w' => ∃ v1 v2, e = .returned (.tuple #[v1, v2, .int .i64 (er : Nat)]) ∧ Rd B w' v1 x ∧ Rd B w' v2 rest ∧ Below w.heap.size w w') :=
    fun B w v l x rest er hr h hl => readBytes_r B w v l most h0 h1 x rest er hr h hl
  clear h0 h1 g0 g1
  by_cases he : er = 0
  · subst he
    simp only [ne_eq, not_true_eq_false, if_false]
    have hov : over n many = decide (many < 0 ∨ many < (n : Int)) := rfl
    by_cases ho : many < 0 ∨ many < (n : Int)
    · simp only [ho, if_true]
      have Ho : Hid (over n many = true) := by show over n many = true; rw [hov]; simp [ho]
      clear ho hov
      go_enter Try.func31, Try.ntmps31
      go_wp2_with fail
      refine (readSize_r _ _ _ _ n rest 0 Hr.out h (by omega)).mono ?_
      rintro e w1 ⟨v1, rfl, hr1, hb1⟩
      go_wp2_with fail
      refine (Hab.out _).mono ?_
      rintro e w2 ⟨rfl, rfl⟩
      rw [Ho.out]
      go_wp2
      go_ret3
      exact ⟨_, _, rfl, OwnL.nil _ _ _ _, Own.nil _ _ _, hb1⟩
    · simp only [ho, if_false]
      have Ho : Hid (over n many = false) := by show over n many = false; rw [hov]; simp; omega
      clear ho hov
      rw [← takeFrom_nil]
      go_enter Try.func31, Try.ntmps31
      go_wp2_with fail
      refine (readSize_r _ _ _ _ n rest 0 Hr.out h (by omega)).mono ?_
      rintro e w1 ⟨v1, rfl, hr1, hb1⟩
      have q1 : Hid (Rd w.heap.size w1 v1 rest) := hr1
      have q2 : Hid (Below w.heap.size w w1) := hb1
      clear hr1 hb1
      go_wp2_with fail
      refine (Hab.out _).mono ?_
      rintro e w2 ⟨rfl, rfl⟩
      rw [Ho.out]
      go_wp2_with fail
      go_loopw [10, 11, 12, 13, 27] (fun rs _ lst _ i wr => ∃ (k : Nat) (acc : List (List UInt8)) (r : List UInt8), acc.length = k ∧ k ≤ n ∧ i = .int .u64 k ∧ Rd w.heap.size wr rs r ∧ OwnL 22 5 w.heap.size wr lst acc ∧ Below w.heap.size w wr ∧
          takeFrom most acc (n - k) r = takeFrom most [] n rest ∧ r.length + k ≤ rest.length)
        (fun _ _ _ _ i _ => n - (intOf i).toNat)
      case atStart => exact ⟨0, [], rest, rfl, Nat.zero_le _, rfl, q1.out, OwnL.nil _ _ _ _, q2.out, rfl, Nat.le_refl _⟩
      case round =>
        obtain ⟨k, acc, r, hacc, hk, rfl, hrs, hoL, hb, htf, hcons⟩ := hrel
        have Hacc : Hid (acc.length = k) := hacc
        have Htf : Hid (takeFrom most acc (n - k) r = takeFrom most [] n rest) := htf
        have HoL : Hid (OwnL 22 5 w.heap.size wr u12 acc) := hoL
        have Hrs : Hid (Rd w.heap.size wr u10 r) := hrs
        have Hb : Hid (Below w.heap.size w wr) := hb
        clear hacc htf hoL hrs hb
        by_cases hlt : k < n
        · obtain ⟨m, hm⟩ : ∃ m, n - k = m + 1 := ⟨n - k - 1, by omega⟩
          obtain ⟨x, r2, e2, hx⟩ : ∃ x r2 e2, takeBytes r most = (x, r2, e2) := ⟨_, _, _, rfl⟩
          have hxl := takeBytes_le r most
          rw [hx] at hxl
          simp only at hxl
          go_wp2_with fail
          refine (Hrb.out _ _ _ _ x r2 e2 hx Hrs.out (by omega)).mono ?_
          rintro e w3 ⟨x1, x2, rfl, hx1, hx2, hb3⟩
          by_cases he2 : e2 = 0
          · subst he2
            have hT : takeFrom most (acc ++ [x]) (n - (k + 1)) r2 = takeFrom most [] n rest := by
              have hgood := takeFrom_good most acc m r (by rw [hx])
              rw [hx] at hgood
              rw [show n - (k + 1) = m by omega, ← Htf.out, hm, hgood]
            have hcut := (takeBytes_only r most (by rw [hx])).2.2
            rw [hx] at hcut
            simp only at hcut
            have HT : Hid _ := hT
            have Hx2 : Hid (Rd w.heap.size w3 x2 r2) := hx2
            have Hb3 : Hid (Below wr.heap.size wr w3) := hb3
            clear hT hm hx hx2 hb3
            go_wp2_with fail
            refine (clone_any _ _ _ _ hx1 (by omega)).mono ?_
            rintro e w4 ⟨x4, rfl, hx4, hb4⟩
            have q3 : Below w.heap.size w w4 := Gr.trans (Gr.trans Hb.out Hb3.out) hb4
            have hoL4 : OwnL 22 5 w.heap.size w4 u12 acc := (HoL.out.keep Hb3.out).keep hb4
            have hal : Below w4.heap.size w4 (w4.alloc (.cells #[x4] 22)) := (Below.refl _ _).alloc (Nat.le_refl _) _
            have Hx4 : Hid (Own 5 w.heap.size (w4.alloc (.cells #[x4] 22)) x4 x) := (hx4.mono (Gr.trans Hb.out Hb3.out).size).keep hal
            have HoL4 : Hid (OwnL 22 5 w.heap.size (w4.alloc (.cells #[x4] 22)) u12 acc) := hoL4.keep hal
            have H3 : Hid (Gr wr w4 ∧ Gr w3 w4 ∧ Below w.heap.size w w4) := ⟨Gr.trans Hb3.out hb4, hb4, q3⟩
            obtain ⟨a4, c4, hv4⟩ := hx4.rd.len
            subst hv4
            clear hx1 hx4 hb4 q3 hoL4 hal
            go_wp2_with (at_builtin; refine wpList_append_ls Try.bl rfl (.tmp 39) (.tmp 42) rfl w.heap.size _ _ acc x _ _ rfl HoL4.out rfl (by simp) Hx4.out (by have := Hacc.out; omega) (by have := H3.out.2.2.size; simp; omega) ?_; intro v5 w5 ho5 hb5 hk5)
            have q5 : Below w.heap.size w w5 := (H3.out.2.2.alloc H3.out.2.2.size _).trans hb5
            have q6 : Rd w.heap.size w5 x2 r2 := ((Rd.grow Hx2.out H3.out.2.1).below ((Below.refl _ _).alloc H3.out.2.2.size _)).below hb5
            go_roundw
            case rel => exact ⟨k + 1, acc ++ [x], r2, by have := Hacc.out; simp [this], by omega, by go_num, q6, ho5, q5, HT.out, by omega⟩
            case measure => simp [intOf]; omega
          · have hT : takeFrom most [] n rest = ([], [], e2) := by
              rw [← Htf.out, hm, takeFrom_bad most acc m r (by rw [hx]; exact he2), hx]
            have d1 : ((e2 : Int) != 0) = true := by simp; omega
            have q5 : Hid (Below w.heap.size w w3) := Gr.trans Hb.out hb3
            have HT : Hid (takeFrom most [] n rest = ([], [], e2)) := hT
            clear hT hm hx hx1 hx2 hb3
            go_wp2
            go_ret3
            exact ⟨_, _, by rw [HT.out]; rfl, by rw [HT.out]; exact OwnL.nil _ _ _ _, by rw [HT.out]; exact Own.nil _ _ _, q5.out⟩
        · obtain rfl : k = n := by omega
          have hT : takeFrom most [] k rest = (acc, r, 0) := by
            rw [← Htf.out, Nat.sub_self, takeFrom_zero]
          have HT : Hid (takeFrom most [] k rest = (acc, r, 0)) := hT
          clear hT
          go_wp2_with fail
          refine (clone_any _ _ _ _ Hrs.out (by omega)).mono ?_
          rintro e w4 ⟨x4, rfl, hx4, hb4⟩
          go_wp2
          go_ret3
          exact ⟨_, _, by rw [HT.out]; rfl, by rw [HT.out]; exact HoL.out.keep hb4, by rw [HT.out]; exact hx4.mono Hb.out.size, Gr.trans Hb.out hb4⟩
  · simp only [ne_eq, he, not_false_eq_true, if_true]
    go_enter Try.func31, Try.ntmps31
    go_wp2_with fail
    refine (readSize_r _ _ _ _ n rest er Hr.out h (by omega)).mono ?_
    rintro e w1 ⟨v1, rfl, hr1, hb1⟩
    have d1 : ((er : Int) != 0) = true := by simp; omega
    go_wp2
    go_ret3
    exact ⟨_, _, rfl, OwnL.nil _ _ _ _, Own.nil _ _ _, hb1⟩

set_option maxHeartbeats 2000000 in
theorem refTakeList_any (w : World) (v : Value) (l : List UInt8) (many most : Int) (g0 : -9223372036854775808 ≤ many) (g1 : many ≤ 9223372036854775807) (h0 : -9223372036854775808 ≤ most) (h1 : most ≤ 9223372036854775807) (h : Rs w v l) (hl : l.length ≤ 100000) :
    Calls Try.prog 32 #[v, .int .i64 many, .int .i64 most] w fun e w' => ∃ v1 v2, e = .returned (.tuple #[v1, v2, .int .i64 ((takeList l many most).2.2 : Nat)]) ∧ OwnL 22 5 w.heap.size w' v1 (takeList l many most).1 ∧ Own 5 w.heap.size w' v2 (takeList l many most).2.1 ∧ Below w.heap.size w w' := by
  unfold takeList
  obtain ⟨n, rest, er, hr⟩ : ∃ n rest er, takeSize l = (n, rest, er) := ⟨_, _, _, rfl⟩
  have hle := takeSize_le l
  rw [hr] at hle ⊢
  simp only at hle ⊢
  have Hr : Hid (takeSize l = (n, rest, er)) := hr
  clear hr
  have Hab : Hid (∀ w, Calls Try.prog 44 #[.int .u64 n, .int .i64 many] w fun e w' => e = .returned (.bool (over n many)) ∧ w = w') := fun w => limited_any w n many g0 g1
  have Hrb : Hid (∀ (w : World) (v : Value) (l x rest : List UInt8) (er : Nat), takeBytes l most = (x, rest, er) → Rs w v l → l.length ≤ 1000000 → Calls Try.prog 30 #[v, .int .i64 most] w fun e w' => ∃ v1 v2, e = .returned (.tuple #[v1, v2, .int .i64 (er : Nat)]) ∧ Own 5 w.heap.size w' v1 x ∧ Own 5 w.heap.size w' v2 rest ∧ Below w.heap.size w w') :=
    fun w v l x rest er hr h hl => refTakeBytes_r w v l most h0 h1 x rest er hr h hl
  clear h0 h1 g0 g1
  by_cases he : er = 0
  · subst he
    simp only [ne_eq, not_true_eq_false, if_false]
    have hov : over n many = decide (many < 0 ∨ many < (n : Int)) := rfl
    by_cases ho : many < 0 ∨ many < (n : Int)
    · simp only [ho, if_true]
      have Ho : Hid (over n many = true) := by show over n many = true; rw [hov]; simp [ho]
      clear ho hov
      go_enter Try.func32, Try.ntmps32
      go_wp2_with fail
      refine (refTakeSize_r _ _ _ _ n rest 0 Hr.out h (by omega)).mono ?_
      rintro e w1 ⟨v1, rfl, hr1, hb1⟩
      go_wp2_with fail
      refine (Hab.out _).mono ?_
      rintro e w2 ⟨rfl, rfl⟩
      rw [Ho.out]
      go_wp2
      go_ret3
      exact ⟨_, _, rfl, OwnL.nil _ _ _ _, Own.nil _ _ _, hb1⟩
    · simp only [ho, if_false]
      have Ho : Hid (over n many = false) := by show over n many = false; rw [hov]; simp; omega
      clear ho hov
      rw [← takeFrom_nil]
      go_enter Try.func32, Try.ntmps32
      go_wp2_with fail
      refine (refTakeSize_r _ _ _ _ n rest 0 Hr.out h (by omega)).mono ?_
      rintro e w1 ⟨v1, rfl, hr1, hb1⟩
      have hal : Below w1.heap.size w1 (w1.alloc (.cells #[] 22)) := (Below.refl _ _).alloc (Nat.le_refl _) _
      have q1 : Hid (Own 5 w.heap.size (w1.alloc (.cells #[] 22)) v1 rest) := hr1.keep hal
      have q2 : Hid (Below w.heap.size w (w1.alloc (.cells #[] 22))) := Gr.trans hb1 hal
      have q3 : Hid (OwnL 22 5 w.heap.size (w1.alloc (.cells #[] 22)) (.slice (some ⟨w1.heap.size, 0, none⟩) 0 0) []) := OwnL.empty _ _ _ w1 hb1.size
      clear hr1 hb1 hal
      go_wp2_with fail
      refine (Hab.out _).mono ?_
      rintro e w2 ⟨rfl, rfl⟩
      rw [Ho.out]
      go_wp2_with fail
      go_loopw [10, 12, 13, 14, 15, 16] (fun rs lst i _ _ _ wr => ∃ (k : Nat) (acc : List (List UInt8)) (r : List UInt8), acc.length = k ∧ k ≤ n ∧ i = .int .u64 k ∧ Own 5 w.heap.size wr rs r ∧ OwnL 22 5 w.heap.size wr lst acc ∧ Below w.heap.size w wr ∧
          takeFrom most acc (n - k) r = takeFrom most [] n rest ∧ r.length + k ≤ rest.length)
        (fun _ _ i _ _ _ _ => n - (intOf i).toNat)
      case atStart => exact ⟨0, [], rest, rfl, Nat.zero_le _, rfl, q1.out, q3.out, q2.out, rfl, Nat.le_refl _⟩
      case round =>
        obtain ⟨k, acc, r, hacc, hk, rfl, hrs, hoL, hb, htf, hcons⟩ := hrel
        have Hacc : Hid (acc.length = k) := hacc
        have Htf : Hid (takeFrom most acc (n - k) r = takeFrom most [] n rest) := htf
        have HoL : Hid (OwnL 22 5 w.heap.size wr u12 acc) := hoL
        have Hrs : Hid (Own 5 w.heap.size wr u10 r) := hrs
        have Hb : Hid (Below w.heap.size w wr) := hb
        clear hacc htf hoL hrs hb
        by_cases hlt : k < n
        · obtain ⟨m, hm⟩ : ∃ m, n - k = m + 1 := ⟨n - k - 1, by omega⟩
          obtain ⟨x, r2, e2, hx⟩ : ∃ x r2 e2, takeBytes r most = (x, r2, e2) := ⟨_, _, _, rfl⟩
          have hxl := takeBytes_le r most
          rw [hx] at hxl
          simp only at hxl
          go_wp2_with fail
          refine (Hrb.out _ _ _ x r2 e2 hx Hrs.out.rd (by omega)).mono ?_
          rintro e w4 ⟨x4, x2, rfl, hx4, hx2, hb4⟩
          by_cases he2 : e2 = 0
          · subst he2
            have hT : takeFrom most (acc ++ [x]) (n - (k + 1)) r2 = takeFrom most [] n rest := by
              have hgood := takeFrom_good most acc m r (by rw [hx])
              rw [hx] at hgood
              rw [show n - (k + 1) = m by omega, ← Htf.out, hm, hgood]
            have hcut := (takeBytes_only r most (by rw [hx])).2.2
            rw [hx] at hcut
            simp only at hcut
            have HT : Hid _ := hT
            clear hT hm hx
            have q4 : Below w.heap.size w w4 := Gr.trans Hb.out hb4
            have hal : Below w4.heap.size w4 (w4.alloc (.cells #[x4] 22)) := (Below.refl _ _).alloc (Nat.le_refl _) _
            have Hx4 : Hid (Own 5 w.heap.size (w4.alloc (.cells #[x4] 22)) x4 x) := (hx4.mono Hb.out.size).keep hal
            have Hx2 : Hid (Own 5 w.heap.size (w4.alloc (.cells #[x4] 22)) x2 r2) := (hx2.mono Hb.out.size).keep hal
            have HoL4 : Hid (OwnL 22 5 w.heap.size (w4.alloc (.cells #[x4] 22)) u12 acc) := (HoL.out.keep hb4).keep hal
            have H3 : Hid (Below w.heap.size w w4) := q4
            obtain ⟨a4, c4, hv4⟩ := hx4.rd.len
            subst hv4
            clear hx4 hx2 hb4 q4 hal
            go_wp2_with (at_builtin; refine wpList_append_ls Try.bl rfl (.tmp 45) (.tmp 47) rfl w.heap.size _ _ acc x _ _ rfl HoL4.out rfl (by simp) Hx4.out (by have := Hacc.out; omega) (by have := H3.out.size; simp; omega) ?_; intro v5 w5 ho5 hb5 hk5)
            have q5 : Below w.heap.size w w5 := (H3.out.alloc H3.out.size _).trans hb5
            go_roundw
            case rel => exact ⟨k + 1, acc ++ [x], r2, by have := Hacc.out; simp [this], by omega, by go_num, hk5 _ _ _ Hx2.out, ho5, q5, HT.out, by omega⟩
            case measure => simp [intOf]; omega
          · have hT : takeFrom most [] n rest = ([], [], e2) := by
              rw [← Htf.out, hm, takeFrom_bad most acc m r (by rw [hx]; exact he2), hx]
            have d1 : ((e2 : Int) != 0) = true := by simp; omega
            have q5 : Hid (Below w.heap.size w w4) := Gr.trans Hb.out hb4
            have HT : Hid (takeFrom most [] n rest = ([], [], e2)) := hT
            clear hT hm hx hx4 hx2 hb4
            go_wp2
            go_ret3
            exact ⟨_, _, by rw [HT.out]; rfl, by rw [HT.out]; exact OwnL.nil _ _ _ _, by rw [HT.out]; exact Own.nil _ _ _, q5.out⟩
        · obtain rfl : k = n := by omega
          have hT : takeFrom most [] k rest = (acc, r, 0) := by
            rw [← Htf.out, Nat.sub_self, takeFrom_zero]
          have HT : Hid (takeFrom most [] k rest = (acc, r, 0)) := hT
          clear hT
          go_wp2
          go_ret3
          exact ⟨_, _, by rw [HT.out]; rfl, by rw [HT.out]; exact HoL.out, by rw [HT.out]; exact Hrs.out, Hb.out⟩
  · simp only [ne_eq, he, not_false_eq_true, if_true]
    go_enter Try.func32, Try.ntmps32
    go_wp2_with fail
    refine (refTakeSize_r _ _ _ _ n rest er Hr.out h (by omega)).mono ?_
    rintro e w1 ⟨v1, rfl, hr1, hb1⟩
    have d1 : ((er : Int) != 0) = true := by simp; omega
    go_wp2
    go_ret3
    exact ⟨_, _, rfl, OwnL.nil _ _ _ _, Own.nil _ _ _, hb1⟩

end Go.Proofs.Ytjobmpfnnfmonaa
