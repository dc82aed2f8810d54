/-
  Contract of the document's Mul.
  Conditions: numbers below 2^256.
-/
import Derived.Test.YtpfoeeiacfadfaaV17
import Derived.Deep.Cut
namespace Go.Proofs.Ytpfoeeiacfadfaa
open Go.RowKit

theorem halves (d : List Nat) (n : Nat) (hl : d.length = 32) (hd : ∀ x ∈ d, x < 65536) (hn : nd d = n) : nd ((d.drop 0).take 16) = n % M ∧ nd ((d.drop 16).take 16) = n / M := by
  have e : d = d.take 16 ++ d.drop 16 := (List.take_append_drop 16 d).symm
  have h2 : (d.drop 16).take 16 = d.drop 16 := List.take_of_length_le (by rw [List.length_drop]; omega)
  have hlt : nd (d.take 16) < M := by
    have := nd_lt (d.take 16) (fun x hx => hd x (List.mem_of_mem_take hx))
    rw [List.length_take, hl] at this; exact this
  have h3 : n = nd (d.take 16) + M * nd (d.drop 16) := by
    rw [← hn]
    conv => lhs; rw [e, nd_append, List.length_take, hl]
    rfl
  rw [List.drop_zero, h2, h3, Nat.add_mul_mod_self_left, Nat.mod_eq_of_lt hlt, Nat.add_mul_div_left _ _ (by decide), Nat.div_eq_of_lt hlt, Nat.zero_add]
  exact ⟨rfl, rfl⟩

set_option maxRecDepth 20000 in
set_option maxHeartbeats 2000000 in
theorem rmul_any (a b : Nat) (ha : a < M) (hb : b < M) (w : World) :
    Calls Try.prog 51 #[wv a, wv b] w fun e w' => e = .returned (.tuple #[wv (a * b % M), wv (a * b / M)]) ∧ Below w.heap.size w w' := by
  have HP : Hid (∀ w, Calls Try.prog 72 #[wv a, wv b] w fun e w' => ∃ v, e = .returned v ∧ NewP w.heap.size (a * b) v w' ∧ Below w.heap.size w w') := product_any a b ha hb
  obtain ⟨lo, elo⟩ : ∃ x, a * b % M = x := ⟨_, rfl⟩
  obtain ⟨hi, ehi⟩ : ∃ x, a * b / M = x := ⟨_, rfl⟩
  have ELO : Hid (a * b % M = lo) := elo
  have EHI : Hid (a * b / M = hi) := ehi
  rw [elo, ehi]
  clear ha hb elo ehi
  have m := Mem.start w
  go_enter Try.func51, Try.ntmps51
  go_upto_region 2 with ((first
    | (refine W.box m rfl (.tmp 0) rfl a rfl ?_; clear m; intro g2 wx2 m)
    | (refine W.box m rfl (.tmp 1) rfl b rfl ?_; clear m; intro g3 wx3 m)
    | (refine W.alloc m rfl rfl 4 rfl ?_; clear m; intro g4 wx4 m)
    | (refine W.alloc m rfl rfl 5 rfl ?_; clear m; intro g5 wx5 m)
    | (refine W.load m rfl (.tmp 2) rfl 3 rfl rfl ?_)
    | (refine W.load m rfl (.tmp 3) rfl 2 rfl rfl ?_)
    | (go_at_call 72; refine (HP.out _).mono ?_; rintro e wx9 ⟨v9, rfl, ⟨gd, cap, jd, d, rfl, hgd, had, hlen, hdl, hnd⟩, b9⟩; replace m := m.adopt b9 hgd had; clear b9 had hgd)); try simp only [Act.put, List.setIfInBounds_toArray, List.set_cons_succ, List.set_cons_zero])
  obtain ⟨k1, k2⟩ := halves d (a * b) hlen hdl hnd
  rw [ELO.out] at k1
  rw [EHI.out] at k2
  have HLO : Hid (nd ((d.drop 0).take 16) = lo) := k1
  have HHI : Hid (nd ((d.drop 16).take 16) = hi) := k2
  have HDL : Hid (∀ x ∈ d, x < 65536) := hdl
  clear k1 k2 hdl hnd ELO EHI
  go_wp2_with ((first
    | (have h11 := HLO.out; clear HLO; go_at_call 73; refine (whole_any _ gd 32 cap d jd 0 hlen (m.get 0 rfl) (by decide) (by decide) HDL.out).mono ?_; rintro e wx11 ⟨rfl, b11⟩; rw [h11]; replace m := m.gr b11; clear b11 h11)
    | (go_at_call 73; refine (whole_any _ gd 32 cap d jd 16 hlen (m.get 0 rfl) (by decide) (by decide) HDL.out).mono ?_; rintro e wx13 ⟨rfl, b13⟩; rw [HHI.out]; replace m := m.gr b13; clear b13)
    | (refine W.store m rfl (.tmp 4) (.tmp 11) rfl rfl 2 lo rfl (w4_length _) rfl rfl ?_; clear m; intro wx21 m)
    | (refine W.store m rfl (.tmp 5) (.tmp 13) rfl rfl 1 hi rfl (w4_length _) rfl rfl ?_; clear m; intro wx22 m)))
  refine bodyPost_ret (results_arr_arr Try.aw Try.results51 _ wx22 g4 g5 (c64 (w4 lo)) (c64 (w4 hi)) (wl lo) (wl hi) rfl rfl (m.get 2 rfl) (m.get 1 rfl)) rfl ⟨rfl, m.below⟩
end Go.Proofs.Ytpfoeeiacfadfaa
