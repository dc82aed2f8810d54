/-
  Roots modulo the prime: the law in numbers.
-/
import Derived.Test.YthlbdpmnljcapaaFR
namespace Go.Proofs.Ythlbdpmnljcapaa.Q
open Go.RowKit

theorem bnd_ex {α β : Type} {o : Option α} {k : α → Option β} {r : Option β} (Q : α → Prop) (h : ∃ y, o = some y ∧ Q y) (hk : ∀ y, Q y → k y = r) : bnd o k = r := by
  obtain ⟨y, rfl, hq⟩ := h
  exact hk y hq
theorem eq_z {n : Nat} (h : n < M) : eqD (.arr 4 (.int .u64)) (wl n) ([(0 : UInt64), 0, 0, 0] : List UInt64) = decide (n = 0) := (congrArg (fun l : List UInt64 => eqD (.arr 4 (.int .u64)) (wl n) l) wl_zero).trans (eq_wl h M_pos)
theorem roots_s {a : Nat} (ha : a < M) : m15 (wl a) = some true := by
  refine (m15_eq _).trans ?_
  unfold b15
  refine bnd_ex (fun v => v = wl (a * a % Pm)) ⟨_, mul_s ha ha, rfl⟩ ?_
  intro y0 hy0
  refine bnd_ex (fun u => u.1 = wl (rootN (a * a % Pm)).1 ∧ u.2 = true) (by rw [hy0]; obtain ⟨y, h1, h2, h3⟩ := root_y (lt_M (a := a * a)); exact ⟨y, h1, h2, h3.trans sq_is⟩) ?_
  intro y hy
  refine Eq.trans (cnd_f (by rw [hy.2]; rfl) _ _) ?_
  refine bnd_ex (fun v => v = wl (a % Pm)) ⟨_, reduce_s ha, rfl⟩ ?_
  intro y3 hy3
  by_cases h1 : (rootN (a * a % Pm)).1 = a % Pm
  · refine Eq.trans (cnd_f (by rw [hy.1, hy3, eq_wl (rootN_lt _) lt_M, decide_eq_true h1]; rfl) _ _) ?_
    refine bnd_ex (fun z => z.1 = wl (rootN a).1 ∧ z.2 = (rootN a).2) (root_y ha) ?_
    intro z hz
    obtain ⟨z1, z2⟩ := hz
    rcases hr : (rootN a).2 with _ | _
    · refine Eq.trans (cnd_f (z2.trans hr) _ _) ?_
      refine bnd_ex (fun v => v = wl ((Pm - a % Pm) % Pm)) ⟨_, neg_s ha, rfl⟩ ?_
      intro n hn
      refine bnd_ex (fun u => u.1 = wl (rootN ((Pm - a % Pm) % Pm)).1 ∧ u.2 = (rootN ((Pm - a % Pm) % Pm)).2) (by rw [hn]; exact root_y lt_M) ?_
      intro u hu
      refine bnd_ex (fun v => v = wl (a % Pm)) ⟨_, reduce_s ha, rfl⟩ ?_
      intro x hx
      refine bnd_ex (fun v => v = true) ⟨_, alive_s, rfl⟩ ?_
      intro al hal
      refine Eq.trans (cnd_t hal _ _) ?_
      have E : eqD (.arr 4 (.int .u64)) x [(0 : UInt64), (0 : UInt64), (0 : UInt64), (0 : UInt64)] = decide (a % Pm = 0) := by rw [hx]; exact eq_z lt_M
      by_cases h0 : a % Pm = 0
      · exact absurd ((zero_is h0).1.symm.trans hr) (by decide)
      · refine Eq.trans (cnd_f (E.trans (decide_eq_false h0)) _ _) ?_
        refine Eq.trans (cnd_t ((congrArg (fun b => !b) (E.trans (decide_eq_false h0)))) _ _) ?_
        rw [z2, hu.2, one_of h0, hr]
        rfl
    · obtain ⟨r1, r2, r3⟩ := root_has hr
      refine Eq.trans (cnd_t (z2.trans hr) _ _) ?_
      refine bnd_ex (fun v => v = wl ((rootN a).1 * (rootN a).1 % Pm)) ⟨_, by rw [z1]; exact mul_s (rootN_lt a) (rootN_lt a), rfl⟩ ?_
      intro v hv
      refine bnd_ex (fun v => v = wl (a % Pm)) ⟨_, reduce_s ha, rfl⟩ ?_
      intro x1 hx1
      refine Eq.trans (cnd_f (by rw [hv, hx1, eq_wl lt_M lt_M, decide_eq_true r1]; rfl) _ _) ?_
      refine Eq.trans (cnd_f (by rw [z1]; exact congrArg (fun b => !b) ((even_at (rootN_lt a)).trans (decide_eq_true r2))) _ _) ?_
      refine bnd_ex (fun v => v = wl Pm) ⟨_, prime_s, rfl⟩ ?_
      intro q hq
      refine bnd_ex (fun c => c = -1) ⟨_, by rw [z1, hq]; exact cmp_s (rootN_lt a) P_lt, by unfold cmpN; rw [if_neg (by omega), if_pos r3]⟩ ?_
      intro c hc
      refine Eq.trans (cnd_f (by rw [hc]; rfl) _ _) ?_
      refine bnd_ex (fun v => v = wl ((Pm - a % Pm) % Pm)) ⟨_, neg_s ha, rfl⟩ ?_
      intro n hn
      refine bnd_ex (fun u => u.1 = wl (rootN ((Pm - a % Pm) % Pm)).1 ∧ u.2 = (rootN ((Pm - a % Pm) % Pm)).2) (by rw [hn]; exact root_y lt_M) ?_
      intro u hu
      refine bnd_ex (fun v => v = wl (a % Pm)) ⟨_, reduce_s ha, rfl⟩ ?_
      intro x hx
      refine bnd_ex (fun v => v = true) ⟨_, alive_s, rfl⟩ ?_
      intro al hal
      refine Eq.trans (cnd_t hal _ _) ?_
      have E : eqD (.arr 4 (.int .u64)) x [(0 : UInt64), (0 : UInt64), (0 : UInt64), (0 : UInt64)] = decide (a % Pm = 0) := by rw [hx]; exact eq_z lt_M
      by_cases h0 : a % Pm = 0
      · refine Eq.trans (cnd_t (E.trans (decide_eq_true h0)) _ _) ?_
        refine Eq.trans (cnd_t (z2.trans hr) _ _) ?_
        exact cnd_t (hu.2.trans (zero_is h0).2) _ _
      · refine Eq.trans (cnd_f (E.trans (decide_eq_false h0)) _ _) ?_
        refine Eq.trans (cnd_t ((congrArg (fun b => !b) (E.trans (decide_eq_false h0)))) _ _) ?_
        rw [z2, hu.2, one_of h0, hr]
        rfl
  · refine Eq.trans (cnd_t (by rw [hy.1, hy3, eq_wl (rootN_lt _) lt_M, decide_eq_false h1]; rfl) _ _) ?_
    refine bnd_ex (fun v => v = wl ((Pm - a % Pm) % Pm)) ⟨_, neg_s ha, rfl⟩ ?_
    intro y4 hy4
    refine Eq.trans (cnd_f (by rw [hy.1, hy4, eq_wl (rootN_lt _) lt_M, decide_eq_true (root_sq.resolve_left h1)]; rfl) _ _) ?_
    refine bnd_ex (fun z => z.1 = wl (rootN a).1 ∧ z.2 = (rootN a).2) (root_y ha) ?_
    intro z hz
    obtain ⟨z1, z2⟩ := hz
    rcases hr : (rootN a).2 with _ | _
    · refine Eq.trans (cnd_f (z2.trans hr) _ _) ?_
      refine bnd_ex (fun v => v = wl ((Pm - a % Pm) % Pm)) ⟨_, neg_s ha, rfl⟩ ?_
      intro n hn
      refine bnd_ex (fun u => u.1 = wl (rootN ((Pm - a % Pm) % Pm)).1 ∧ u.2 = (rootN ((Pm - a % Pm) % Pm)).2) (by rw [hn]; exact root_y lt_M) ?_
      intro u hu
      refine bnd_ex (fun v => v = wl (a % Pm)) ⟨_, reduce_s ha, rfl⟩ ?_
      intro x hx
      refine bnd_ex (fun v => v = true) ⟨_, alive_s, rfl⟩ ?_
      intro al hal
      refine Eq.trans (cnd_t hal _ _) ?_
      have E : eqD (.arr 4 (.int .u64)) x [(0 : UInt64), (0 : UInt64), (0 : UInt64), (0 : UInt64)] = decide (a % Pm = 0) := by rw [hx]; exact eq_z lt_M
      by_cases h0 : a % Pm = 0
      · exact absurd ((zero_is h0).1.symm.trans hr) (by decide)
      · refine Eq.trans (cnd_f (E.trans (decide_eq_false h0)) _ _) ?_
        refine Eq.trans (cnd_t ((congrArg (fun b => !b) (E.trans (decide_eq_false h0)))) _ _) ?_
        rw [z2, hu.2, one_of h0, hr]
        rfl
    · obtain ⟨r1, r2, r3⟩ := root_has hr
      refine Eq.trans (cnd_t (z2.trans hr) _ _) ?_
      refine bnd_ex (fun v => v = wl ((rootN a).1 * (rootN a).1 % Pm)) ⟨_, by rw [z1]; exact mul_s (rootN_lt a) (rootN_lt a), rfl⟩ ?_
      intro v hv
      refine bnd_ex (fun v => v = wl (a % Pm)) ⟨_, reduce_s ha, rfl⟩ ?_
      intro x1 hx1
      refine Eq.trans (cnd_f (by rw [hv, hx1, eq_wl lt_M lt_M, decide_eq_true r1]; rfl) _ _) ?_
      refine Eq.trans (cnd_f (by rw [z1]; exact congrArg (fun b => !b) ((even_at (rootN_lt a)).trans (decide_eq_true r2))) _ _) ?_
      refine bnd_ex (fun v => v = wl Pm) ⟨_, prime_s, rfl⟩ ?_
      intro q hq
      refine bnd_ex (fun c => c = -1) ⟨_, by rw [z1, hq]; exact cmp_s (rootN_lt a) P_lt, by unfold cmpN; rw [if_neg (by omega), if_pos r3]⟩ ?_
      intro c hc
      refine Eq.trans (cnd_f (by rw [hc]; rfl) _ _) ?_
      refine bnd_ex (fun v => v = wl ((Pm - a % Pm) % Pm)) ⟨_, neg_s ha, rfl⟩ ?_
      intro n hn
      refine bnd_ex (fun u => u.1 = wl (rootN ((Pm - a % Pm) % Pm)).1 ∧ u.2 = (rootN ((Pm - a % Pm) % Pm)).2) (by rw [hn]; exact root_y lt_M) ?_
      intro u hu
      refine bnd_ex (fun v => v = wl (a % Pm)) ⟨_, reduce_s ha, rfl⟩ ?_
      intro x hx
      refine bnd_ex (fun v => v = true) ⟨_, alive_s, rfl⟩ ?_
      intro al hal
      refine Eq.trans (cnd_t hal _ _) ?_
      have E : eqD (.arr 4 (.int .u64)) x [(0 : UInt64), (0 : UInt64), (0 : UInt64), (0 : UInt64)] = decide (a % Pm = 0) := by rw [hx]; exact eq_z lt_M
      by_cases h0 : a % Pm = 0
      · refine Eq.trans (cnd_t (E.trans (decide_eq_true h0)) _ _) ?_
        refine Eq.trans (cnd_t (z2.trans hr) _ _) ?_
        exact cnd_t (hu.2.trans (zero_is h0).2) _ _
      · refine Eq.trans (cnd_f (E.trans (decide_eq_false h0)) _ _) ?_
        refine Eq.trans (cnd_t ((congrArg (fun b => !b) (E.trans (decide_eq_false h0)))) _ _) ?_
        rw [z2, hu.2, one_of h0, hr]
        rfl
end Go.Proofs.Ythlbdpmnljcapaa.Q
