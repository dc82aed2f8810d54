/-
  The law MoneyParts, walked.
-/
import Derived.Test.YtfdbnkmjnmcnlaaDoorM12
namespace Go.Proofs.YtfdbnkmjnmcnlaaDoor
open Go.RowKit

theorem sum_app (a b : List Nat) : (a ++ b).sum = a.sum + b.sum := List.sum_append

set_option maxHeartbeats 2000000 in
set_option maxRecDepth 100000 in
theorem parts_large (w : World) (va vb : Value) (a b : List Nat) (ha : Rw w va a) (hb : Rw w vb b) (ht : Tb w) (hl : 200 < a.length ∨ 200 < b.length) :
    Calls Tryd.prog 8 #[va, vb] w fun e w' => e = .returned (.bool true) ∧ Below w.heap.size w w' := by
  have HT : Hid (Tb w) := ht
  obtain ⟨aa, ca, rfl⟩ := ha.len
  obtain ⟨ab, cb, rfl⟩ := hb.len
  clear ha hb ht
  have hl2 : 200 < a.length ∨ ¬ 200 < a.length ∧ 200 < b.length := by omega
  clear hl
  rcases hl2 with h1 | ⟨h1, h2⟩
  all_goals
    go_enter Tryd.func8, Tryd.ntmps8
    go_wp2_with fail
    refine (alive_any w HT.out).mono ?_
    rintro e w1 ⟨rfl, hb1⟩
    have HB1 : Hid (Below w.heap.size w w1) := hb1
    clear hb1
    go_wp2
    go_ret
    exact ⟨rfl, HB1.out⟩

set_option maxHeartbeats 2000000 in
set_option maxRecDepth 100000 in
theorem parts_small (w : World) (va vb : Value) (a b : List Nat) (ha : Rw w va a) (hb : Rw w vb b) (ht : Tb w) (h1 : ¬ 200 < a.length) (h2 : ¬ 200 < b.length) :
    Calls Tryd.prog 8 #[va, vb] w fun e w' => e = .returned (.bool true) ∧ Below w.heap.size w w' := by
  have HT : Hid (Tb w) := ht
  have HA : Hid (Rw w va a) := ha
  have HB : Hid (Rw w vb b) := hb
  obtain ⟨aa, ca, rfl⟩ := ha.len
  obtain ⟨ab, cb, rfl⟩ := hb.len
  clear ha hb ht
  obtain ⟨x, Hx⟩ : ∃ x : Nat, Hid (sumV a = x) := ⟨_, rfl⟩
  obtain ⟨e1, He1⟩ : ∃ y : Int, Hid (chk a.sum = y) := ⟨_, rfl⟩
  obtain ⟨y, Hy⟩ : ∃ x : Nat, Hid (sumV b = x) := ⟨_, rfl⟩
  obtain ⟨e2, He2⟩ : ∃ y : Int, Hid (chk b.sum = y) := ⟨_, rfl⟩
  obtain ⟨z, Hz⟩ : ∃ x : Nat, Hid (sumV (a ++ b) = x) := ⟨_, rfl⟩
  obtain ⟨e3, He3⟩ : ∃ y : Int, Hid (chk (a ++ b).sum = y) := ⟨_, rfl⟩
  have Hz2 : Hid (sumV (b ++ a) = z) := by show _ = _; rw [← Hz.out, sumV, sumV, sum_app, sum_app, Nat.add_comm]
  have He4 : Hid (chk (b ++ a).sum = e3) := by show _ = _; rw [← He3.out, sum_app, sum_app, Nat.add_comm]
  go_enter Tryd.func8, Tryd.ntmps8
  go_wp2_with fail
  refine (sum_r w _ a HA.out (by omega) x e1 Hx.out He1.out).mono ?_
  rintro e w1 ⟨rfl, rfl⟩
  go_wp2_with fail
  refine (sum_r w1 _ b HB.out (by omega) y e2 Hy.out He2.out).mono ?_
  rintro e w2 ⟨rfl, rfl⟩
  go_wp2_with (first | (at_builtin; refine wpList_append_rw Tryd.wt rfl (.tmp 35) (.tmp 36) rfl w2.heap.size _ _ [] a rfl (Ow.empty 23 _ _ (Nat.le_refl _)) rfl (HA.out.gr ((Below.refl _ _).alloc (Nat.le_refl _) _)) (by simp; omega) (by simp) ?_; intro v1 w3 ho1 hb1) | (at_builtin; refine wpList_append_rw Tryd.wt rfl (.tmp 37) (.tmp 38) rfl w2.heap.size _ _ a b rfl ho1 rfl (HB.out.gr (((Below.refl _ _).alloc (Nat.le_refl _) _).trans hb1)) (by omega) (by have := hb1.size; simp at this; omega) ?_; intro v2 w4 ho2 hb2))
  have HB4 : Hid (Below w2.heap.size w2 w4) := ((Below.refl _ _).alloc (Nat.le_refl _) _).trans (hb1.trans hb2)
  clear hb1 hb2 ho1
  refine (sum_r w4 _ (a ++ b) ho2.rw (by simp; omega) z e3 Hz.out He3.out).mono ?_
  clear ho2
  rintro e w5 ⟨rfl, rfl⟩
  have HA5 : Hid (Rw w5 (Value.slice aa a.length ca) a) := HA.out.gr HB4.out
  have HB5 : Hid (Rw w5 (Value.slice ab b.length cb) b) := HB.out.gr HB4.out
  go_wp2_with (first | (at_builtin; refine wpList_append_rw Tryd.wt rfl (.tmp 44) (.tmp 45) rfl w5.heap.size _ _ [] b rfl (Ow.empty 23 _ _ (Nat.le_refl _)) rfl (HB5.out.gr ((Below.refl _ _).alloc (Nat.le_refl _) _)) (by simp; omega) (by simp) ?_; intro v1 w6 ho1 hb1) | (at_builtin; refine wpList_append_rw Tryd.wt rfl (.tmp 46) (.tmp 47) rfl w5.heap.size _ _ b a rfl ho1 rfl (HA5.out.gr (((Below.refl _ _).alloc (Nat.le_refl _) _).trans hb1)) (by omega) (by have := hb1.size; simp at this; omega) ?_; intro v2 w7 ho2 hb2))
  have HB7 : Hid (Below w2.heap.size w2 w7) := HB4.out.trans ((((Below.refl _ _).alloc (Nat.le_refl _) _).trans (hb1.trans hb2)).mono HB4.out.size)
  clear hb1 hb2 ho1
  refine (sum_r w7 _ (b ++ a) ho2.rw (by simp; omega) z e3 Hz2.out He4.out).mono ?_
  clear ho2
  rintro e w8 ⟨rfl, rfl⟩
  by_cases hok : a.sum ≤ MM ∧ b.sum ≤ MM
  · obtain rfl : e1 = 0 := by rw [← He1.out]; exact chk_ok hok.1
    obtain rfl : e2 = 0 := by rw [← He2.out]; exact chk_ok hok.2
    have Hxy : Hid ([x, y].sum = (a ++ b).sum) := by
      show _ = _
      rw [← Hx.out, ← Hy.out, sumV_ok hok.1, sumV_ok hok.2, sum_app]; simp
    have Hz5 : Hid (sumV [x, y] = z) := by show _ = _; rw [← Hz.out, sumV, sumV, Hxy.out]
    have He5 : Hid (chk [x, y].sum = e3) := by show _ = _; rw [← He3.out, Hxy.out]
    clear hok
    go_wp2_with fail
    refine (sum_r _ _ [x, y] (Rw.lit 23 w8 [x, y] _ rfl 2 rfl) (by simp) z e3 Hz5.out He5.out).mono ?_
    rintro e w9 ⟨rfl, rfl⟩
    have HB9 : Hid (Below w2.heap.size w2 (w8.alloc (Obj.cells (c64 [x, y]).toArray 23))) := HB7.out.alloc HB7.out.size _
    generalize w8.alloc (Obj.cells (c64 [x, y]).toArray 23) = w9 at *
    go_wp2_with fail
    refine (alive_any w9 (HT.out.gr HB9.out)).mono ?_
    rintro e w10 ⟨rfl, hb10⟩
    have HB10 : Hid (Below w2.heap.size w2 w10) := HB9.out.trans (hb10.mono HB9.out.size)
    clear hb10
    go_wp2
    go_ret
    exact ⟨rfl, HB10.out⟩
  · obtain rfl : e3 = 31 := by rw [← He3.out]; exact chk_no (by rw [sum_app]; omega)
    by_cases ha : a.sum ≤ MM
    · obtain rfl : e1 = 0 := by rw [← He1.out]; exact chk_ok ha
      obtain rfl : e2 = 31 := by rw [← He2.out]; exact chk_no (fun h => hok ⟨ha, h⟩)
      clear hok ha
      go_wp2_with fail
      refine (alive_any w8 (HT.out.gr HB7.out)).mono ?_
      rintro e w10 ⟨rfl, hb10⟩
      have HB10 : Hid (Below w2.heap.size w2 w10) := HB7.out.trans (hb10.mono HB7.out.size)
      clear hb10
      go_wp2
      go_ret
      exact ⟨rfl, HB10.out⟩
    · obtain rfl : e1 = 31 := by rw [← He1.out]; exact chk_no ha
      clear hok ha
      go_wp2_with fail
      refine (alive_any w8 (HT.out.gr HB7.out)).mono ?_
      rintro e w10 ⟨rfl, hb10⟩
      have HB10 : Hid (Below w2.heap.size w2 w10) := HB7.out.trans (hb10.mono HB7.out.size)
      clear hb10
      go_wp2
      go_ret
      exact ⟨rfl, HB10.out⟩
end Go.Proofs.YtfdbnkmjnmcnlaaDoor
