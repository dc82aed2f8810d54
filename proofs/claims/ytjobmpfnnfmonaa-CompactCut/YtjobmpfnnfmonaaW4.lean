/-
  Contracts of package compact: a copy of bytes, sizes, strings that are taken.
-/
import Derived.Test.YtjobmpfnnfmonaaW3
namespace Go.Proofs.Ytjobmpfnnfmonaa
open Go.RowKit

set_option maxHeartbeats 400000 in
theorem clone_some (w : World) (B : Nat) (a : Addr) (n cap : Nat) (l : List UInt8) (h : Rd B w (.slice (some a) n cap) l) (hl : l.length ≤ 1000000) :
    Calls Try.prog 39 #[.slice (some a) n cap] w fun e w' => ∃ v', e = .returned v' ∧ Own 5 w.heap.size w' v' l ∧ Below w.heap.size w w' := by
  have hrd : Hid (Rd B w (.slice (some a) n cap) l) := h
  have hnil : (binOp .eql 22 (.slice (some a) n cap) (.slice none 0 0)).run Try.prog w = .ok (.bool false) w := Lib.run_eql_slice_nil w 22 5 (some a) n cap 0 0 Try.bt.sl
  clear h
  have hb1 : Below w.heap.size w (w.alloc (.cells #[] 5)) := (Below.refl _ _).alloc (Nat.le_refl _) _
  go_enter Try.func39, Try.ntmps39
  go_wp2_with (at_builtin; refine wpList_append_rd Try.bt rfl (.tmp 5) (.tmp 6) rfl w.heap.size w.heap.size _ _ [] l rfl (Own.empty 5 _ w (Nat.le_refl _)) rfl (hrd.out.self.below hb1) (by simp; omega) hb1.size ?_; intro v2 w2 ho2 hb2)
  go_ret
  exact ⟨_, rfl, ho2, hb1.trans hb2⟩

set_option maxHeartbeats 400000 in
theorem clone_nil (w : World) (n cap : Nat) :
    Calls Try.prog 39 #[.slice none n cap] w fun e w' => e = .returned (.slice none 0 0) ∧ w = w' := by
  have hnil : (binOp .eql 22 (.slice none n cap) (.slice none 0 0)).run Try.prog w = .ok (.bool true) w := Lib.run_eql_slice_nil w 22 5 none n cap 0 0 Try.bt.sl
  go_enter Try.func39, Try.ntmps39
  go_wp2
  go_ret
  exact ⟨rfl, rfl⟩

/-- bytes.Clone: new memory, the same bytes. -/
theorem clone_any (w : World) (B : Nat) (v : Value) (l : List UInt8) (h : Rd B w v l) (hl : l.length ≤ 1000000) :
    Calls Try.prog 39 #[v] w fun e w' => ∃ v', e = .returned v' ∧ Own 5 w.heap.size w' v' l ∧ Below w.heap.size w w' := by
  have hh := h
  obtain ⟨ao, cap, rfl, h1, h2, h3⟩ := h
  cases ao with
  | some a => exact clone_some w B a l.length cap l hh hl
  | none =>
    have := h2 rfl
    have hl0 : l = [] := List.eq_nil_of_length_eq_zero (by omega)
    subst hl0
    exact (clone_nil w _ cap).mono fun e w' ⟨he, hw⟩ => ⟨_, he, Own.nil _ _ _, by rw [← hw]; exact Below.refl _ _⟩

set_option maxRecDepth 100000 in
set_option maxHeartbeats 1000000 in
theorem readSize_any (w : World) (B : Nat) (v : Value) (l : List UInt8) (h : Rd B w v l) (hl : l.length ≤ 1000000) :
    Calls Try.prog 42 #[v] w fun e w' => ∃ v', e = .returned (.tuple #[.int .u64 ((takeSize l).1 : Nat), v', .int .i64 ((takeSize l).2.2 : Nat)]) ∧ Rd B w' v' (takeSize l).2.1 ∧ Below w.heap.size w w' := by
  cases l with
  | nil =>
    obtain ⟨ao, cap, rfl⟩ := h.len
    clear h
    go_enter Try.func42, Try.ntmps42
    go_wp2
    go_ret3
    exact ⟨_, rfl, Rd.nil _ _, Below.refl _ _⟩
  | cons c r =>
    unfold takeSize
    have hrd := h
    obtain ⟨b, off, cap, rfl, hcap, hbB, hc⟩ := h.at (by simp)
    clear h
    have hc0 := hc 0 (by simp)
    simp only [Nat.add_zero, List.getElem_cons_zero, List.length_cons] at hc0 hcap hl hrd ⊢
    clear hc
    have hd : ∀ (w1 : World) b' o' n' c', Rd B w1 (.slice (some ⟨b, off, none⟩) (r.length + 1) cap) (c :: r) → (r.length + 1 = 1 ∨ (b' = b ∧ o' = off + 1)) → n' = r.length + 1 - 1 → r.length ≤ c' → Rd B w1 (.slice (some ⟨b', o', none⟩) n' c') r := by
      intro w1 b' o' n' c' h1 h2 h3 h4
      exact h1.drop (k := 1) (by simp) b' o' n' c' (by simpa using h2) (by simpa using h3) (by simpa using h4)
    have hd' : Hid _ := hd
    clear hd
    have hcl := c.toNat_lt
    have hne : ∀ k : Nat, k < 256 → c ≠ UInt8.ofNat k → ((c.toNat : Int) == (k : Int)) = false := by
      intro k hk hne
      simp only [beq_eq_false_iff_ne, ne_eq]
      intro he
      apply hne
      apply UInt8.toNat_inj.1
      simp only [UInt8.toNat_ofNat']
      omega
    by_cases h3 : c = 253
    · subst h3
      simp only [if_true]
      clear hne hcl
      have e0 : (((253 : UInt8).toNat : Nat) : Int) = 253 := by decide
      rw [e0] at hc0
      clear e0
      by_cases hc1 : cap = 1
      · have hr0 : r = [] := List.eq_nil_of_length_eq_zero (by omega)
        have hz := hd'.out w b off 0 0 hrd (.inl (by rw [hr0]; rfl)) (by rw [hr0]; rfl) (by rw [hr0]; exact Nat.zero_le _)
        subst hr0 hc1
        clear hd'
        go_enter Try.func42, Try.ntmps42
        go_wp2_with (go_at_call 49; refine (readMarked16 _ B _ [] 253 hz (by simp)).mono ?_; rintro e w1 ⟨v1, rfl, hr1, hb1⟩)
        go_ret3
        exact ⟨_, rfl, hr1, hb1⟩
      · have hz := hd'.out w b (off + 1) r.length (cap - 1) hrd (.inr ⟨rfl, rfl⟩) rfl (by omega)
        clear hd'
        go_enter Try.func42, Try.ntmps42
        go_wp2_with (go_at_call 49; refine (readMarked16 _ B _ r 253 hz (by omega)).mono ?_; rintro e w1 ⟨v1, rfl, hr1, hb1⟩)
        go_ret3
        exact ⟨_, rfl, hr1, hb1⟩
    · have d3 : ((c.toNat : Int) == 253) = false := hne 253 (by decide) h3
      by_cases h4 : c = 254
      · subst h4
        simp only [h3, if_true, if_false]
        clear hne hcl
        have e0 : (((254 : UInt8).toNat : Nat) : Int) = 254 := by decide
        rw [e0] at hc0
        clear e0
        by_cases hc1 : cap = 1
        · have hr0 : r = [] := List.eq_nil_of_length_eq_zero (by omega)
          have hz := hd'.out w b off 0 0 hrd (.inl (by rw [hr0]; rfl)) (by rw [hr0]; rfl) (by rw [hr0]; exact Nat.zero_le _)
          subst hr0 hc1
          clear hd'
          go_enter Try.func42, Try.ntmps42
          go_wp2_with (go_at_call 50; refine (readMarked32 _ B _ [] 65536 hz (by simp)).mono ?_; rintro e w1 ⟨v1, rfl, hr1, hb1⟩)
          go_ret3
          exact ⟨_, rfl, hr1, hb1⟩
        · have hz := hd'.out w b (off + 1) r.length (cap - 1) hrd (.inr ⟨rfl, rfl⟩) rfl (by omega)
          clear hd'
          go_enter Try.func42, Try.ntmps42
          go_wp2_with (go_at_call 50; refine (readMarked32 _ B _ r 65536 hz (by omega)).mono ?_; rintro e w1 ⟨v1, rfl, hr1, hb1⟩)
          go_ret3
          exact ⟨_, rfl, hr1, hb1⟩
      · have d4 : ((c.toNat : Int) == 254) = false := hne 254 (by decide) h4
        by_cases h5 : c = 255
        · subst h5
          simp only [h3, h4, if_true, if_false]
          clear hne hcl
          have e0 : (((255 : UInt8).toNat : Nat) : Int) = 255 := by decide
          rw [e0] at hc0
          clear e0
          by_cases hc1 : cap = 1
          · have hr0 : r = [] := List.eq_nil_of_length_eq_zero (by omega)
            have hz := hd'.out w b off 0 0 hrd (.inl (by rw [hr0]; rfl)) (by rw [hr0]; rfl) (by rw [hr0]; exact Nat.zero_le _)
            subst hr0 hc1
            clear hd'
            go_enter Try.func42, Try.ntmps42
            go_wp2_with (go_at_call 51; refine (readMarked64 _ B _ [] 4294967296 hz (by simp)).mono ?_; rintro e w1 ⟨v1, rfl, hr1, hb1⟩)
            go_ret3
            exact ⟨_, rfl, hr1, hb1⟩
          · have hz := hd'.out w b (off + 1) r.length (cap - 1) hrd (.inr ⟨rfl, rfl⟩) rfl (by omega)
            clear hd'
            go_enter Try.func42, Try.ntmps42
            go_wp2_with (go_at_call 51; refine (readMarked64 _ B _ r 4294967296 hz (by omega)).mono ?_; rintro e w1 ⟨v1, rfl, hr1, hb1⟩)
            go_ret3
            exact ⟨_, rfl, hr1, hb1⟩
        · have d5 : ((c.toNat : Int) == 255) = false := hne 255 (by decide) h5
          simp only [h3, h4, h5, if_false]
          clear h3 h4 h5 hne
          go_enter Try.func42, Try.ntmps42
          go_wp2_with fail
          go_quiet (fail)
          go_wp2
          all_goals
            go_ret3
            exact ⟨_, rfl, (hd'.out _ _ _ _ _ hrd (by first | exact .inr ⟨rfl, rfl⟩ | (left; omega)) rfl (by omega)).drewN _, Below.drewN' _ _ _⟩

end Go.Proofs.Ytjobmpfnnfmonaa
