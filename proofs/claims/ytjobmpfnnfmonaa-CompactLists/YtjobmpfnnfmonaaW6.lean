/-
  Contracts of package compact, and of the document's own answers: bytes and numbers that are taken.
-/
import Derived.Test.YtjobmpfnnfmonaaW5
namespace Go.Proofs.Ytjobmpfnnfmonaa
open Go.RowKit

/-- What bytes.Clone tells, to a statement that draws its order and begins in the world w0. -/
def cloneWord (w0 : World) (f : FuncId) (args : Array Value) (v : Value) (w : World) : Prop :=
  f = 39 ∧ ∀ l, Rs w0 (args.getD 0 undef) l → Own 5 w0.heap.size w v l

theorem cloneFit (w0 : World) : Mild.Fit Gr (fun w => Gr w0 w) (cloneWord w0) where
  refl := Gr.refl
  trans := fun _ _ _ => Gr.trans
  inC := fun _ _ => Gr.trans
  keep := by
    rintro f args v w w' ⟨h1, h2⟩ hg
    exact ⟨h1, fun l hl => (h2 l hl).keep hg⟩

theorem clone_word (w0 w : World) (v : Value) (l : List UInt8) (h : Rs w0 v l) (hg : Gr w0 w) (hl : l.length ≤ 1000000) :
    Calls Try.prog 39 #[v] w fun e w' => ∃ v', e = .returned v' ∧ Gr w w' ∧ cloneWord w0 39 #[v] v' w' :=
  (clone_any w _ v l (h.gr hg) hl).mono fun e w' ⟨v', he, ho, hb⟩ => ⟨v', he, hb, rfl, fun m hm => by
    obtain rfl := Rd.unique h hm
    exact ho.mono (Below.size hg)⟩

theorem Rd.dropIf {B : Nat} {w : World} {ao : Option Addr} {n cap k : Nat} {l : List UInt8} (h : Rd B w (.slice ao n cap) l) (hk : k ≤ l.length) :
    Rd B w (.slice (if cap = k then ao else Option.map (fun x => x.add k) ao) (l.length - k) (cap - k)) (l.drop k) := by
  have := Rd.sliced h hk (Nat.le_refl _)
  simpa [Go.sliced] using this

set_option maxHeartbeats 1000000 in
theorem take_ok (w : World) (B : Nat) (v : Value) (l : List UInt8) (k : Nat) (h : Rd B w v l) (hl : l.length ≤ 1000000) (hk : k ≤ l.length) :
    Calls Try.prog 22 #[v, .int .i64 k] w fun e w' => ∃ v1 v2, e = .returned (.tuple #[v1, v2, .int .i64 0]) ∧ Own 5 w.heap.size w' v1 (l.take k) ∧ Own 5 w.heap.size w' v2 (l.drop k) ∧ Below w.heap.size w w' := by
  have hrd : Hid (Rs w v l) := h.rs
  obtain ⟨ao, cap, rfl, hcap, _, _⟩ := h
  have F := cloneFit w
  go_enter Try.func22, Try.ntmps22
  go_wp2_with fail
  refine Mild.wp_region F (by kernel_rfl) (by kernel_rfl) (Below.drewN' _ _ 1) ?_
  repeat (refine Mild.step_quiet F rfl rfl rfl (fun w0 hC hF K hK => ?_); clear hF; go_big_quiet_op; refine hK _ ?_; clear hK K hC; clear w0)
  have h1 : Rs w (.slice ao k cap) (l.take k) := Rd.take hrd.out hk k rfl
  refine Mild.step_call rfl 39 #[.slice ao k cap] ?run1 (fun v w' => Own 5 w.heap.size w' v (l.take k)) (fun v w w' hg h => h.keep hg) (fun w' hC _ => clone_word w w' _ _ h1 hC (by simp; omega)) (fun v w' _ hK => hK.2 _ h1) ?_
  case run1 => intro w; go_simp
  intro r1 _
  simp only [Act.put, List.setIfInBounds_toArray, List.set_cons_succ, List.set_cons_zero]
  repeat (refine Mild.step_quiet F rfl rfl rfl (fun w0 hC hF K hK => ?_); clear hF; go_big_quiet_op; refine hK _ ?_; clear hK K hC; clear w0)
  have h2 : Rs w (.slice (if cap = k then ao else Option.map (fun x => x.add k) ao) (l.length - k) (cap - k)) (l.drop k) := Rd.dropIf hrd.out hk
  generalize (Value.slice (if cap = k then ao else Option.map (fun x => x.add k) ao) (l.length - k) (cap - k)) = u2 at h2 ⊢
  refine Mild.step_call rfl 39 #[u2] ?run2 (fun v w' => Own 5 w.heap.size w' v (l.drop k)) (fun v w w' hg h => h.keep hg) (fun w' hC _ => clone_word w w' _ _ h2 hC (by simp; omega)) (fun v w' _ hK => hK.2 _ h2) ?_
  case run2 => intro w; go_simp
  intro r2 _
  simp only [Act.put, List.setIfInBounds_toArray, List.set_cons_succ, List.set_cons_zero]
  repeat (refine Mild.step_quiet F rfl rfl rfl (fun w0 hC hF K hK => ?_); clear hF; go_big_quiet_op; refine hK _ ?_; clear hK K hC; clear w0)
  intro w5 hg5 hf5
  have q1 : Hid (Own 5 w.heap.size w5 r1 (l.take k)) := (hf5 16).1.2 rfl
  have q2 : Hid (Own 5 w.heap.size w5 r2 (l.drop k)) := (hf5 20).2 rfl
  have q3 : Hid (Gr w w5) := hg5
  clear hf5 hg5 h1 h2 F
  go_wp2
  go_ret3
  exact ⟨_, _, rfl, q1.out, q2.out, q3.out⟩

set_option maxHeartbeats 400000 in
theorem take_neg (w : World) (B : Nat) (v : Value) (l : List UInt8) (n : Int) (h : Rd B w v l) (hn : n < 0) :
    Calls Try.prog 22 #[v, .int .i64 n] w fun e w' => e = .returned (.tuple #[.slice none 0 0, .slice none 0 0, .int .i64 1]) ∧ w = w' := by
  obtain ⟨ao, cap, rfl⟩ := h.len
  clear h
  go_enter Try.func22, Try.ntmps22
  go_wp2
  go_ret3
  exact ⟨rfl, rfl⟩

set_option maxHeartbeats 400000 in
theorem take_short (w : World) (B : Nat) (v : Value) (l : List UInt8) (n : Int) (h : Rd B w v l) (h0 : 0 ≤ n) (hn : (l.length : Int) < n) :
    Calls Try.prog 22 #[v, .int .i64 n] w fun e w' => e = .returned (.tuple #[.slice none 0 0, .slice none 0 0, .int .i64 2]) ∧ w = w' := by
  obtain ⟨ao, cap, rfl⟩ := h.len
  clear h
  go_enter Try.func22, Try.ntmps22
  go_wp2
  go_ret3
  exact ⟨rfl, rfl⟩

/-- compact.Take. -/
theorem take_any (w : World) (B : Nat) (v : Value) (l : List UInt8) (n : Int) (h : Rd B w v l) (hl : l.length ≤ 1000000) :
    Calls Try.prog 22 #[v, .int .i64 n] w fun e w' => ∃ v1 v2, e = .returned (.tuple #[v1, v2, .int .i64 ((takeN n l).2.2 : Nat)]) ∧ Own 5 w.heap.size w' v1 (takeN n l).1 ∧ Own 5 w.heap.size w' v2 (takeN n l).2.1 ∧ Below w.heap.size w w' := by
  unfold takeN
  by_cases h0 : n < 0
  · simp only [h0, if_true]
    exact (take_neg w B v l n h h0).mono fun e w' ⟨he, hw⟩ => ⟨_, _, he, Own.nil _ _ _, Own.nil _ _ _, by rw [← hw]; exact Below.refl _ _⟩
  · simp only [h0, if_false]
    by_cases h1 : (l.length : Int) < n
    · simp only [h1, if_true]
      exact (take_short w B v l n h (by omega) h1).mono fun e w' ⟨he, hw⟩ => ⟨_, _, he, Own.nil _ _ _, Own.nil _ _ _, by rw [← hw]; exact Below.refl _ _⟩
    · simp only [h1, if_false]
      obtain ⟨k, rfl⟩ := Int.eq_ofNat_of_zero_le (show 0 ≤ n by omega)
      rw [Int.toNat_natCast]
      exact take_ok w B v l k h hl (by omega)

set_option maxHeartbeats 1000000 in
theorem refTake_ok (w : World) (B : Nat) (v : Value) (l : List UInt8) (k : Nat) (h : Rd B w v l) (hl : l.length ≤ 1000000) (hk : k ≤ l.length) :
    Calls Try.prog 23 #[v, .int .i64 k] w fun e w' => ∃ v1 v2, e = .returned (.tuple #[v1, v2, .int .i64 0]) ∧ Own 5 w.heap.size w' v1 (l.take k) ∧ Own 5 w.heap.size w' v2 (l.drop k) ∧ Below w.heap.size w w' := by
  have hrd : Rs w v l := h.rs
  obtain ⟨ao, cap, rfl, hcap, _, _⟩ := h
  have h1 : Hid (Rs w (.slice ao k cap) (l.take k)) := Rd.take hrd hk k rfl
  have h2 : Hid (Rs w (.slice (if cap = k then ao else Option.map (fun x => x.add k) ao) (l.length - k) (cap - k)) (l.drop k)) := Rd.dropIf hrd hk
  clear hrd
  have hb1 : Below w.heap.size w (w.alloc (.cells #[] 5)) := (Below.refl _ _).alloc (Nat.le_refl _) _
  have Hb1 : Hid (Below w.heap.size w (w.alloc (.cells #[] 5))) := hb1
  clear hb1
  go_enter Try.func23, Try.ntmps23
  go_wp2_with (first
    | (at_builtin; refine wpList_append_rd Try.bt rfl (.tmp 15) (.tmp 18) rfl w.heap.size _ _ _ [] (l.take k) rfl (Own.empty 5 _ w (Nat.le_refl _)) rfl (h1.out.below Hb1.out) (by simp; omega) Hb1.out.size ?_; intro v2 w2 ho2 hb2)
    | (at_builtin; refine wpList_append_rd Try.bt rfl (.tmp 20) (.tmp 23) rfl w2.heap.size _ _ _ [] (l.drop k) rfl (Own.empty 5 _ w2 (Nat.le_refl _)) rfl (h2.out.below ((Hb1.out.trans hb2).alloc (Hb1.out.trans hb2).size _)) (by simp; omega) (by simp) ?_; intro v3 w3 ho3 hb3))
  all_goals
    go_ret3
    have q2 : Below w2.heap.size w2 w3 := ((Below.refl _ _).alloc (Nat.le_refl _) _).trans hb3
    have q1 : Below w.heap.size w w2 := Hb1.out.trans hb2
    exact ⟨_, _, rfl, ho2.keep q2, ho3.mono q1.size, Gr.trans q1 q2⟩

set_option maxHeartbeats 400000 in
theorem refTake_neg (w : World) (B : Nat) (v : Value) (l : List UInt8) (n : Int) (h : Rd B w v l) (hn : n < 0) :
    Calls Try.prog 23 #[v, .int .i64 n] w fun e w' => e = .returned (.tuple #[.slice none 0 0, .slice none 0 0, .int .i64 1]) ∧ w = w' := by
  obtain ⟨ao, cap, rfl⟩ := h.len
  clear h
  go_enter Try.func23, Try.ntmps23
  go_wp2
  go_ret3
  exact ⟨rfl, rfl⟩

set_option maxHeartbeats 400000 in
theorem refTake_short (w : World) (B : Nat) (v : Value) (l : List UInt8) (n : Int) (h : Rd B w v l) (h0 : 0 ≤ n) (hn : (l.length : Int) < n) :
    Calls Try.prog 23 #[v, .int .i64 n] w fun e w' => e = .returned (.tuple #[.slice none 0 0, .slice none 0 0, .int .i64 2]) ∧ w = w' := by
  obtain ⟨ao, cap, rfl⟩ := h.len
  clear h
  go_enter Try.func23, Try.ntmps23
  go_wp2
  go_ret3
  exact ⟨rfl, rfl⟩

/-- The document's Take. -/
theorem refTake_any (w : World) (B : Nat) (v : Value) (l : List UInt8) (n : Int) (h : Rd B w v l) (hl : l.length ≤ 1000000) :
    Calls Try.prog 23 #[v, .int .i64 n] w fun e w' => ∃ v1 v2, e = .returned (.tuple #[v1, v2, .int .i64 ((takeN n l).2.2 : Nat)]) ∧ Own 5 w.heap.size w' v1 (takeN n l).1 ∧ Own 5 w.heap.size w' v2 (takeN n l).2.1 ∧ Below w.heap.size w w' := by
  unfold takeN
  by_cases h0 : n < 0
  · simp only [h0, if_true]
    exact (refTake_neg w B v l n h h0).mono fun e w' ⟨he, hw⟩ => ⟨_, _, he, Own.nil _ _ _, Own.nil _ _ _, by rw [← hw]; exact Below.refl _ _⟩
  · simp only [h0, if_false]
    by_cases h1 : (l.length : Int) < n
    · simp only [h1, if_true]
      exact (refTake_short w B v l n h (by omega) h1).mono fun e w' ⟨he, hw⟩ => ⟨_, _, he, Own.nil _ _ _, Own.nil _ _ _, by rw [← hw]; exact Below.refl _ _⟩
    · simp only [h1, if_false]
      obtain ⟨k, rfl⟩ := Int.eq_ofNat_of_zero_le (show 0 ≤ n by omega)
      rw [Int.toNat_natCast]
      exact refTake_ok w B v l k h hl (by omega)

set_option maxHeartbeats 400000 in
theorem take32_any (w : World) (B : Nat) (v : Value) (l : List UInt8) (h : Rd B w v l) (hl : l.length ≤ 1000000) :
    Calls Try.prog 24 #[v] w fun e w' => ∃ v', e = .returned (.tuple #[.int .u32 ((takeNum 4 l).1 : Nat), v', .int .i64 ((takeNum 4 l).2.2 : Nat)]) ∧ Own 5 w.heap.size w' v' (takeNum 4 l).2.1 ∧ Below w.heap.size w w' := by
  go_enter Try.func24, Try.ntmps24
  go_wp2_with (go_at_call 40; refine (readNum32 _ _ _ _ h hl).mono ?_; rintro e w1 ⟨v1, rfl, hr1, hb1⟩)
  refine (clone_any _ _ _ _ hr1 (by have := takeNum_le 4 l; omega)).mono ?_
  rintro e w2 ⟨v2, rfl, ho2, hb2⟩
  go_wp2
  go_ret3
  exact ⟨_, rfl, ho2.mono hb1.size, hb1.trans (hb2.mono hb1.size)⟩

set_option maxHeartbeats 400000 in
theorem take64_any (w : World) (B : Nat) (v : Value) (l : List UInt8) (h : Rd B w v l) (hl : l.length ≤ 1000000) :
    Calls Try.prog 26 #[v] w fun e w' => ∃ v', e = .returned (.tuple #[.int .u64 ((takeNum 8 l).1 : Nat), v', .int .i64 ((takeNum 8 l).2.2 : Nat)]) ∧ Own 5 w.heap.size w' v' (takeNum 8 l).2.1 ∧ Below w.heap.size w w' := by
  go_enter Try.func26, Try.ntmps26
  go_wp2_with (go_at_call 41; refine (readNum64 _ _ _ _ h hl).mono ?_; rintro e w1 ⟨v1, rfl, hr1, hb1⟩)
  refine (clone_any _ _ _ _ hr1 (by have := takeNum_le 8 l; omega)).mono ?_
  rintro e w2 ⟨v2, rfl, ho2, hb2⟩
  go_wp2
  go_ret3
  exact ⟨_, rfl, ho2.mono hb1.size, hb1.trans (hb2.mono hb1.size)⟩

theorem refTake_r (w : World) (B : Nat) (v : Value) (l : List UInt8) (n : Int) (x rest : List UInt8) (er : Nat) (hr : takeN n l = (x, rest, er)) (h : Rd B w v l) (hl : l.length ≤ 1000000) :
    Calls Try.prog 23 #[v, .int .i64 n] w fun e w' => ∃ v1 v2, e = .returned (.tuple #[v1, v2, .int .i64 (er : Nat)]) ∧ Own 5 w.heap.size w' v1 x ∧ Own 5 w.heap.size w' v2 rest ∧ Below w.heap.size w w' := by
  have := refTake_any w B v l n h hl
  rw [hr] at this
  exact this

theorem num_drop (x : List UInt8) (j : Nat) (h : j < x.length) : num (x.drop j) = x[j].toNat + 256 * num (x.drop (j + 1)) := by
  rw [List.drop_eq_getElem_cons h]
  rfl

theorem number_step (x : List UInt8) (j : Nat) (h : j < x.length) (hx : x.length ≤ 8) :
    IntKind.u64.wrap (IntKind.u64.wrap ((num (x.drop (j + 1)) : Int) * 256) + IntKind.u64.wrap (x[j].toNat : Int)) = (num (x.drop j) : Int) := by
  have h1 := num_drop x j h
  have h2 := num_lt (x.drop j)
  have h3 : 2 ^ (8 * (x.drop j).length) ≤ 2 ^ 64 := Nat.pow_le_pow_right (by decide) (by simp; omega)
  simp only [IntKind.wrap_u64]
  simp only [Nat.reducePow] at h3
  omega

set_option maxHeartbeats 1000000 in
theorem refNumber_any (w : World) (B : Nat) (v : Value) (l : List UInt8) (K : Nat) (hK : K ≤ 8) (h : Rd B w v l) (hl : l.length ≤ 1000000) :
    Calls Try.prog 25 #[v, .int .i64 K] w fun e w' => ∃ v', e = .returned (.tuple #[.int .u64 ((takeNum K l).1 : Nat), v', .int .i64 ((takeNum K l).2.2 : Nat)]) ∧ Own 5 w.heap.size w' v' (takeNum K l).2.1 ∧ Below w.heap.size w w' := by
  have hTN : (takeN (K : Int) l).1.length ≤ K ∧ (takeNum K l).1 = num (takeN (K : Int) l).1 ∧ (takeNum K l).2 = (takeN (K : Int) l).2 := by
    unfold takeN takeNum
    have h0 : ¬ ((K : Int) < 0) := by omega
    by_cases h1 : l.length < K
    · have h1' : (l.length : Int) < K := by omega
      simp [h0, h1, num]
    · have h1' : ¬ (l.length : Int) < K := by omega
      simp [h0, h1]
      omega
  rw [hTN.2.1, hTN.2.2]
  obtain ⟨hx, -⟩ := hTN
  obtain ⟨x, rest, er, hr⟩ : ∃ x rest er, takeN (K : Int) l = (x, rest, er) := ⟨_, _, _, rfl⟩
  rw [hr] at hx ⊢
  simp only at hx ⊢
  have Hr : Hid (takeN (K : Int) l = (x, rest, er)) := hr
  clear hr
  go_enter Try.func25, Try.ntmps25
  go_wp2_with fail
  refine (refTake_r _ _ _ _ _ x rest er Hr.out h hl).mono ?_
  rintro e w1 ⟨v1, v2, rfl, ho1, ho2, hb1⟩
  obtain ⟨ao, cap, rfl⟩ := ho1.rd.len
  have Ho1 : Hid (Own 5 w.heap.size w1 (.slice ao x.length cap) x) := ho1
  have Ho2 : Hid (Own 5 w.heap.size w1 v2 rest) := ho2
  have Hb1 : Hid (Below w.heap.size w w1) := hb1
  clear ho1 ho2 hb1 Hr h
  have hx8 : x.length ≤ 8 := by omega
  go_wp2
  go_loop [10, 11] (fun n i => ∃ j : Nat, j ≤ x.length ∧ i = .int .i64 ((j : Int) - 1) ∧ n = .int .u64 (num (x.drop j))) (fun _ i => (intOf i + 1).toNat)
  case atStart => exact ⟨x.length, Nat.le_refl _, rfl, by simp [num]⟩
  case round =>
    obtain ⟨j, hj, rfl, rfl⟩ := hrel
    by_cases hlt : 0 < j
    · obtain ⟨j, rfl⟩ : ∃ j', j = j' + 1 := ⟨j - 1, by omega⟩
      obtain ⟨b, off, cap', e, _, _, hc⟩ := Ho1.out.rd.at (by omega)
      simp only [Value.slice.injEq] at e
      obtain ⟨rfl, -, rfl⟩ := e
      have hc0 := hc j (by omega)
      clear hc
      go_wp2
      go_round
      case rel => exact ⟨j, by omega, rfl, congrArg _ (number_step x j (by omega) hx8)⟩
      case measure => simp [intOf]
    · obtain rfl : j = 0 := by omega
      go_wp2
      go_ret3
      exact ⟨_, rfl, Ho2.out, Hb1.out⟩

theorem refNumber_r (w : World) (B : Nat) (v : Value) (l : List UInt8) (z : Int) (K : Nat) (hz : z = K) (hK : K ≤ 8) (n : Nat) (rest : List UInt8) (er : Nat) (hr : takeNum K l = (n, rest, er)) (h : Rd B w v l) (hl : l.length ≤ 1000000) :
    Calls Try.prog 25 #[v, .int .i64 z] w fun e w' => ∃ v', e = .returned (.tuple #[.int .u64 (n : Nat), v', .int .i64 (er : Nat)]) ∧ Own 5 w.heap.size w' v' rest ∧ Below w.heap.size w w' := by
  subst hz
  have := refNumber_any w B v l K hK h hl
  rw [hr] at this
  exact this

theorem takeNum_one (c : UInt8) (r : List UInt8) : takeNum 1 (c :: r) = (c.toNat, r, 0) := by simp [takeNum, num]

set_option maxRecDepth 100000 in
set_option maxHeartbeats 1000000 in
theorem refTakeSize_any (w : World) (B : Nat) (v : Value) (l : List UInt8) (h : Rd B w v l) (hl : l.length ≤ 1000000) :
    Calls Try.prog 28 #[v] w fun e w' => ∃ v', e = .returned (.tuple #[.int .u64 ((takeSize l).1 : Nat), v', .int .i64 ((takeSize l).2.2 : Nat)]) ∧ Own 5 w.heap.size w' v' (takeSize l).2.1 ∧ Below w.heap.size w w' := by
  cases l with
  | nil =>
    go_enter Try.func28, Try.ntmps28
    go_wp2_with (go_at_call 25; refine (refNumber_r _ _ _ _ _ 1 rfl (by omega) 0 [] 2 rfl h hl).mono ?_; rintro e w1 ⟨v1, rfl, ho1, hb1⟩)
    go_ret3
    exact ⟨_, rfl, ho1, hb1⟩
  | cons c r =>
    have hN := takeNum_one c r
    unfold takeSize
    have HN : Hid (takeNum 1 (c :: r) = (c.toNat, r, 0)) := hN
    clear hN
    have hcl := c.toNat_lt
    simp only [List.length_cons] at hl
    by_cases h3 : c.toNat < 253
    · have e3 : ¬ c = 253 := by intro h; subst h; revert h3; decide
      have e4 : ¬ c = 254 := by intro h; subst h; revert h3; decide
      have e5 : ¬ c = 255 := by intro h; subst h; revert h3; decide
      simp only [e3, e4, e5, if_false]
      have d1 : decide ((c.toNat : Int) < 253) = true := by simp; omega
      clear h3 e3 e4 e5 hcl
      go_enter Try.func28, Try.ntmps28
      go_wp2_with (go_at_call 25; refine (refNumber_r _ _ _ _ _ 1 rfl (by omega) _ r 0 HN.out h (by simp; omega)).mono ?_; rintro e w1 ⟨v1, rfl, ho1, hb1⟩)
      go_ret3
      exact ⟨_, rfl, ho1, hb1⟩
    · have hc3 : c = 253 ∨ c = 254 ∨ c = 255 := by
        have : c.toNat = 253 ∨ c.toNat = 254 ∨ c.toNat = 255 := by omega
        rcases this with h | h | h
        · exact .inl (UInt8.toNat_inj.1 h)
        · exact .inr (.inl (UInt8.toNat_inj.1 h))
        · exact .inr (.inr (UInt8.toNat_inj.1 h))
      clear h3 hcl
      rcases hc3 with rfl | rfl | rfl
      · have ec : (253 : UInt8).toNat = 253 := by decide
        rw [ec] at HN
        clear ec
        simp only [reduceIte]
        unfold takeMarked
        have hT : takeNum 2 r = (if r.length < 2 then (0, [], 2) else (num (r.take 2), r.drop 2, 0)) := rfl
        by_cases hs : r.length < 2
        · simp only [hs, if_true] at hT ⊢
          have HT : Hid (takeNum 2 r = (0, [], 2)) := hT
          clear hT hs
          go_enter Try.func28, Try.ntmps28
          go_wp2_with fail
          refine (refNumber_r _ _ _ _ _ 1 rfl (by omega) _ r 0 HN.out h (by simp; omega)).mono ?_
          rintro e w1 ⟨v1, rfl, ho1, hb1⟩
          go_wp2_with fail
          refine (refNumber_r _ _ _ _ _ 2 rfl (by omega) _ _ _ HT.out ho1.rd (by omega)).mono ?_
          rintro e w2 ⟨v2, rfl, ho2, hb2⟩
          go_wp2
          go_ret3
          exact ⟨_, rfl, ho2.mono hb1.size, Gr.trans hb1 hb2⟩
        · simp only [hs, if_false] at hT ⊢
          obtain ⟨n, hn⟩ : ∃ n, n = num (r.take 2) := ⟨_, rfl⟩
          rw [← hn] at hT ⊢
          have HT : Hid (takeNum 2 r = (n, r.drop 2, 0)) := hT
          clear hT hs hn
          by_cases hL : n < 253
          · simp only [hL, if_true]
            have d1 : decide ((n : Int) < 253) = true := by simp; omega
            clear hL
            go_enter Try.func28, Try.ntmps28
            go_wp2_with fail
            refine (refNumber_r _ _ _ _ _ 1 rfl (by omega) _ r 0 HN.out h (by simp; omega)).mono ?_
            rintro e w1 ⟨v1, rfl, ho1, hb1⟩
            go_wp2_with fail
            refine (refNumber_r _ _ _ _ _ 2 rfl (by omega) _ _ _ HT.out ho1.rd (by omega)).mono ?_
            rintro e w2 ⟨v2, rfl, ho2, hb2⟩
            have q : Hid (Gr w w2) := Gr.trans hb1 hb2
            clear ho2 hb2 ho1 hb1 h HN HT hl
            go_wp2
            go_ret3
            exact ⟨_, rfl, Own.nil _ _ _, q.out⟩
          · simp only [hL, if_false]
            have d1 : decide ((n : Int) < 253) = false := by simp; omega
            clear hL
            go_enter Try.func28, Try.ntmps28
            go_wp2_with fail
            refine (refNumber_r _ _ _ _ _ 1 rfl (by omega) _ r 0 HN.out h (by simp; omega)).mono ?_
            rintro e w1 ⟨v1, rfl, ho1, hb1⟩
            go_wp2_with fail
            refine (refNumber_r _ _ _ _ _ 2 rfl (by omega) _ _ _ HT.out ho1.rd (by omega)).mono ?_
            rintro e w2 ⟨v2, rfl, ho2, hb2⟩
            have q : Hid (Gr w w2) := Gr.trans hb1 hb2
            have q1 : Hid (Own 5 w.heap.size w2 v2 _) := ho2.mono hb1.size
            clear ho2 hb2 ho1 hb1 h HN HT hl
            go_wp2
            go_ret3
            exact ⟨_, rfl, q1.out, q.out⟩
      · have ec : (254 : UInt8).toNat = 254 := by decide
        rw [ec] at HN
        clear ec
        simp only [reduceIte, show ¬ ((254 : UInt8) = 253) by decide]
        unfold takeMarked
        have hT : takeNum 4 r = (if r.length < 4 then (0, [], 2) else (num (r.take 4), r.drop 4, 0)) := rfl
        by_cases hs : r.length < 4
        · simp only [hs, if_true] at hT ⊢
          have HT : Hid (takeNum 4 r = (0, [], 2)) := hT
          clear hT hs
          go_enter Try.func28, Try.ntmps28
          go_wp2_with fail
          refine (refNumber_r _ _ _ _ _ 1 rfl (by omega) _ r 0 HN.out h (by simp; omega)).mono ?_
          rintro e w1 ⟨v1, rfl, ho1, hb1⟩
          go_wp2_with fail
          refine (refNumber_r _ _ _ _ _ 4 rfl (by omega) _ _ _ HT.out ho1.rd (by omega)).mono ?_
          rintro e w2 ⟨v2, rfl, ho2, hb2⟩
          go_wp2
          go_ret3
          exact ⟨_, rfl, ho2.mono hb1.size, Gr.trans hb1 hb2⟩
        · simp only [hs, if_false] at hT ⊢
          obtain ⟨n, hn⟩ : ∃ n, n = num (r.take 4) := ⟨_, rfl⟩
          rw [← hn] at hT ⊢
          have HT : Hid (takeNum 4 r = (n, r.drop 4, 0)) := hT
          clear hT hs hn
          by_cases hL : n < 65536
          · simp only [hL, if_true]
            have d1 : decide ((n : Int) < 65536) = true := by simp; omega
            clear hL
            go_enter Try.func28, Try.ntmps28
            go_wp2_with fail
            refine (refNumber_r _ _ _ _ _ 1 rfl (by omega) _ r 0 HN.out h (by simp; omega)).mono ?_
            rintro e w1 ⟨v1, rfl, ho1, hb1⟩
            go_wp2_with fail
            refine (refNumber_r _ _ _ _ _ 4 rfl (by omega) _ _ _ HT.out ho1.rd (by omega)).mono ?_
            rintro e w2 ⟨v2, rfl, ho2, hb2⟩
            have q : Hid (Gr w w2) := Gr.trans hb1 hb2
            clear ho2 hb2 ho1 hb1 h HN HT hl
            go_wp2
            go_ret3
            exact ⟨_, rfl, Own.nil _ _ _, q.out⟩
          · simp only [hL, if_false]
            have d1 : decide ((n : Int) < 65536) = false := by simp; omega
            clear hL
            go_enter Try.func28, Try.ntmps28
            go_wp2_with fail
            refine (refNumber_r _ _ _ _ _ 1 rfl (by omega) _ r 0 HN.out h (by simp; omega)).mono ?_
            rintro e w1 ⟨v1, rfl, ho1, hb1⟩
            go_wp2_with fail
            refine (refNumber_r _ _ _ _ _ 4 rfl (by omega) _ _ _ HT.out ho1.rd (by omega)).mono ?_
            rintro e w2 ⟨v2, rfl, ho2, hb2⟩
            have q : Hid (Gr w w2) := Gr.trans hb1 hb2
            have q1 : Hid (Own 5 w.heap.size w2 v2 _) := ho2.mono hb1.size
            clear ho2 hb2 ho1 hb1 h HN HT hl
            go_wp2
            go_ret3
            exact ⟨_, rfl, q1.out, q.out⟩
      · have ec : (255 : UInt8).toNat = 255 := by decide
        rw [ec] at HN
        clear ec
        simp only [reduceIte, show ¬ ((255 : UInt8) = 253) by decide, show ¬ ((255 : UInt8) = 254) by decide]
        unfold takeMarked
        have hT : takeNum 8 r = (if r.length < 8 then (0, [], 2) else (num (r.take 8), r.drop 8, 0)) := rfl
        by_cases hs : r.length < 8
        · simp only [hs, if_true] at hT ⊢
          have HT : Hid (takeNum 8 r = (0, [], 2)) := hT
          clear hT hs
          go_enter Try.func28, Try.ntmps28
          go_wp2_with fail
          refine (refNumber_r _ _ _ _ _ 1 rfl (by omega) _ r 0 HN.out h (by simp; omega)).mono ?_
          rintro e w1 ⟨v1, rfl, ho1, hb1⟩
          go_wp2_with fail
          refine (refNumber_r _ _ _ _ _ 8 rfl (by omega) _ _ _ HT.out ho1.rd (by omega)).mono ?_
          rintro e w2 ⟨v2, rfl, ho2, hb2⟩
          go_wp2
          go_ret3
          exact ⟨_, rfl, ho2.mono hb1.size, Gr.trans hb1 hb2⟩
        · simp only [hs, if_false] at hT ⊢
          obtain ⟨n, hn⟩ : ∃ n, n = num (r.take 8) := ⟨_, rfl⟩
          rw [← hn] at hT ⊢
          have HT : Hid (takeNum 8 r = (n, r.drop 8, 0)) := hT
          clear hT hs hn
          by_cases hL : n < 4294967296
          · simp only [hL, if_true]
            have d1 : decide ((n : Int) < 4294967296) = true := by simp; omega
            clear hL
            go_enter Try.func28, Try.ntmps28
            go_wp2_with fail
            refine (refNumber_r _ _ _ _ _ 1 rfl (by omega) _ r 0 HN.out h (by simp; omega)).mono ?_
            rintro e w1 ⟨v1, rfl, ho1, hb1⟩
            go_wp2_with fail
            refine (refNumber_r _ _ _ _ _ 8 rfl (by omega) _ _ _ HT.out ho1.rd (by omega)).mono ?_
            rintro e w2 ⟨v2, rfl, ho2, hb2⟩
            have q : Hid (Gr w w2) := Gr.trans hb1 hb2
            clear ho2 hb2 ho1 hb1 h HN HT hl
            go_wp2
            go_ret3
            exact ⟨_, rfl, Own.nil _ _ _, q.out⟩
          · simp only [hL, if_false]
            have d1 : decide ((n : Int) < 4294967296) = false := by simp; omega
            clear hL
            go_enter Try.func28, Try.ntmps28
            go_wp2_with fail
            refine (refNumber_r _ _ _ _ _ 1 rfl (by omega) _ r 0 HN.out h (by simp; omega)).mono ?_
            rintro e w1 ⟨v1, rfl, ho1, hb1⟩
            go_wp2_with fail
            refine (refNumber_r _ _ _ _ _ 8 rfl (by omega) _ _ _ HT.out ho1.rd (by omega)).mono ?_
            rintro e w2 ⟨v2, rfl, ho2, hb2⟩
            have q : Hid (Gr w w2) := Gr.trans hb1 hb2
            have q1 : Hid (Own 5 w.heap.size w2 v2 _) := ho2.mono hb1.size
            clear ho2 hb2 ho1 hb1 h HN HT hl
            go_wp2
            go_ret3
            exact ⟨_, rfl, q1.out, q.out⟩

end Go.Proofs.Ytjobmpfnnfmonaa
