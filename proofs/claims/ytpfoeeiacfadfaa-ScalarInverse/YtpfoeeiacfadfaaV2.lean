/-
  Contracts of package wide's Cmp, Len, timesPlus, Mul.
  Conditions: numbers below 2^256.
-/
import Derived.Test.YtpfoeeiacfadfaaV1
namespace Go.Proofs.Ytpfoeeiacfadfaa
open Go.RowKit

theorem wv_cells (n : Nat) : wv n = .agg (c64 (w4 n)).toArray := rfl

/-- Which one is greater. -/
def cmpN (a b : Nat) : Int := if a = b then 0 else if a < b then -1 else 1

set_option maxHeartbeats 1000000 in
theorem cmp_any (a b : Nat) (ha : a < M) (hb : b < M) (w : World) :
    Calls Try.prog 31 #[wv a, wv b] w fun e w' => e = .returned (.int .i64 (cmpN a b)) ∧ Below w.heap.size w w' := by
  have hs := fun w => sub_any a b ha hb w
  by_cases h : a = b
  · have hd : decide (w4 a = w4 b) = true := by rw [h]; exact decide_eq_true rfl
    have hr : cmpN a b = 0 := by simp [cmpN, h]
    rw [hr]
    clear hr hs h ha hb
    unfold wv
    have la := wl a
    have lb := wl b
    have xa := w4_length a
    have xb := w4_length b
    generalize w4 a = l at *
    generalize w4 b = m at *
    go_enter Try.func31, Try.ntmps31
    go_wp2_with ((first
      | (refine wpList_box_arr rfl _ (.tmp 0) rfl (c64 l) rfl ?_; intro g2 w2 hg2 ha2 hb2)
      | (refine wpList_box_arr rfl _ (.tmp 1) rfl (c64 m) rfl ?_; intro g3 w3 hg3 ha3 hb3)
      | (refine wpList_load_arr Try.aw rfl (.tmp 2) rfl g2 _ la rfl (ha2.gr hb3) ?_)
      | (refine wpList_load_arr Try.aw rfl (.tmp 3) rfl g3 _ lb rfl ha3 ?_)
      | (refine wpList_eql_c64 Try.aw Try.u64 Try.eqw rfl (.tmp 7) (.tmp 8) _ rfl l m true xa xb hd rfl rfl ?_)); try simp only [Act.put, List.setIfInBounds_toArray, List.set_cons_succ, List.set_cons_zero])
    go_ret
    exact ⟨rfl, Gr.trans hb2 hb3⟩
  · have hd : decide (w4 a = w4 b) = false := by simpa [w4_inj ha hb] using h
    have key : ∀ (d : Nat) (r : Int), (if a < b then 1 else 0) = d → cmpN a b = r → (d = 0 ∧ r = 1 ∨ d = 1 ∧ r = -1) := by
      intro d r h1 h2
      subst h1 h2
      by_cases hlt : a < b <;> simp [cmpN, h, hlt]
    obtain ⟨d, hd'⟩ : ∃ d : Nat, (if a < b then 1 else 0) = d := ⟨_, rfl⟩
    obtain ⟨r, hr'⟩ : ∃ r : Int, cmpN a b = r := ⟨_, rfl⟩
    have hk := key d r hd' hr'
    rw [hr']
    have HS : Hid (∀ w, Calls Try.prog 43 #[wv a, wv b] w fun e w' => e = .returned (.tuple #[wv ((a + M - b) % M), .int .u64 ((d : Nat) : Int)]) ∧ Below w.heap.size w w') := by
      intro w; have := hs w; rw [hd'] at this; exact this
    clear key hd' hr' hs h ha hb
    generalize hX : (a + M - b) % M = X at HS
    clear hX
    rcases hk with ⟨rfl, rfl⟩ | ⟨rfl, rfl⟩
    all_goals
      unfold wv at *
      have la := wl a
      have lb := wl b
      have lx := wl X
      have l0 := wl 0
      have xa := w4_length a
      have xb := w4_length b
      have hz := zeros4
      generalize w4 a = l at *
      generalize w4 b = m at *
      generalize w4 X = x at *
      generalize w4 0 = o at *
      go_enter Try.func31, Try.ntmps31
      go_wp2_with ((first
        | (refine wpList_box_arr rfl _ (.tmp 0) rfl (c64 l) rfl ?_; intro g2 w2 hg2 ha2 hb2)
        | (refine wpList_box_arr rfl _ (.tmp 1) rfl (c64 m) rfl ?_; intro g3 w3 hg3 ha3 hb3)
        | (refine wpList_load_arr Try.aw rfl (.tmp 2) rfl g2 _ la rfl (ha2.gr hb3) ?_)
        | (refine wpList_load_arr Try.aw rfl (.tmp 3) rfl g3 _ lb rfl ha3 ?_)
        | (refine wpList_eql_c64 Try.aw Try.u64 Try.eqw rfl (.tmp 7) (.tmp 8) _ rfl l m false xa xb hd rfl rfl ?_)
        | (go_at_call 43; refine (HS.out _).mono ?_; rintro e w4 ⟨rfl, hb4⟩)
        | (refine wpList_alloc_arr Try.aw rfl rfl 5 rfl ?_; rw [hz]; intro g5 w5 hg5 ha5 hb5)
        | (refine wpList_store_arr Try.aw rfl (.tmp 5) (.tmp 14) rfl rfl g5 _ _ l0 lx (c64_one _) rfl rfl ha5 ?_; intro w6 ha6 hb6)); try simp only [Act.put, List.setIfInBounds_toArray, List.set_cons_succ, List.set_cons_zero])
      go_ret
      exact ⟨rfl, Below.trans (Gr.trans (Gr.trans (Gr.trans hb2 hb3) hb4) hb5) (hb6.below (by have := hb2.size; have := hb3.size; have := hb4.size; omega))⟩

end Go.Proofs.Ytpfoeeiacfadfaa
