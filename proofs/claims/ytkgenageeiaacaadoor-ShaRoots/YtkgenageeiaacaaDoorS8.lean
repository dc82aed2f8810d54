/-
  Contracts of package sha's Hash.Write, Sum, Double; a hash that is nil.
  Conditions: the tables are as the program's text lays them; at most 900,000 bytes.
-/
import Derived.Test.YtkgenageeiaacaaDoorS7
namespace Go.Proofs.YtkgenageeiaacaaDoor
open Go.RowKit

section
variable {P : Program} {ρ : Operand → Value} {o : Oper} {w : World}
theorem x_subI (x y : Operand) (T U : TypeId) (ho : o.op = .binOp .sub T x y U) (X Y Z : Int) (hZ : X - Y = Z) (h1 : -9223372036854775808 ≤ Z) (h2 : Z < 9223372036854775808) (hx : ρ x = .int .i64 X) (hy : ρ y = .int .i64 Y) :
    (execOp ρ o).run P w = .ok (.value (.int .i64 Z)) w := by
  subst hZ
  unfold execOp
  simp only [ho, hx, hy, Sem.run_bind, run_eqGuard_no .sub (by decide), Result.andThen_ok, binOp, Op.intArith, ne_eq, not_true_eq_false, if_false, Sem.run_pure]
  rw [wrap_small _ h1 h2]
theorem exec_minI (x y : Operand) (ats : Array TypeId) (ho : o.op = .call { callee := .builtin .min, args := #[x, y], argTypes := ats }) (X Y Z : Int) (hZ : (if Y < X then Y else X) = Z) (hx : ρ x = .int .i64 X) (hy : ρ y = .int .i64 Y) :
    (execOp ρ o).run P w = .ok (.value (.int .i64 Z)) w := by
  subst hZ
  unfold execOp
  simp [ho, hx, hy, resolve, invoke, builtin, Builtin.min_, Builtin.min2]
end
theorem sliced_zero (b off n cap : Nat) : Go.sliced (some ⟨b, off, none⟩) 0 n cap 1 = .slice (some ⟨b, off, none⟩) n cap := by
  simp [Go.sliced, Addr.add]
theorem exec_slice_h0 {P : Program} {T E : TypeId} {ρ : Operand → Value} {o : Oper} {w : World} (hs : P.underlying T = some (.slice E)) (hz : (P.info? E).map (·.size) = some 1) (x y : Operand) (ho : o.op = .slice T x none (some y) none) (b off n cap hi : Nat) (u : Int) (hu : u = (hi : Int)) (h2 : hi ≤ cap)
    (hx : ρ x = .slice (some ⟨b, off, none⟩) n cap) (hy : ρ y = .int .i64 u) : (execOp ρ o).run P w = .ok (.value (.slice (some ⟨b, off, none⟩) hi cap)) w := by
  rw [← sliced_zero]
  exact exec_slice_h hs hz x y ho _ n cap hi u hu h2 hx hy
theorem Off.len {g b off n cap n' cap' : Nat} (h : Off g (.slice (some ⟨b, off, none⟩) n cap)) : Off g (.slice (some ⟨b, off, none⟩) n' cap') := by
  intro a k c e
  simp only [Value.slice.injEq, Option.some.injEq] at e
  obtain ⟨rfl, _, _⟩ := e
  exact h _ _ _ rfl
theorem Rd.off {B g : Nat} {w : World} {v : Value} {l : List UInt8} (h : Rd B w v l) (hl : 0 < l.length) (hg : w.heap.size ≤ g) : Off g v := by
  obtain ⟨b0, off, cap, rfl, _, hb, _⟩ := h.self.at hl
  intro a n c e
  simp only [Value.slice.injEq, Option.some.injEq] at e
  obtain ⟨rfl, _, _⟩ := e
  show b0 ≠ g
  omega

set_option maxHeartbeats 800000 in
theorem write_any (g B : Nat) (all b : List UInt8) (v : Value) (w : World) (h : Hash w g all) (ht : Tabs w) (hr : Rd B w v b) (ho : 0 < b.length → Off g v) (hN : all.length + b.length ≤ 900000) :
    Calls Tryd.prog 18 #[.pointer (some ⟨g, 0, none⟩), v] w fun e w' => e = .returned (.tuple #[]) ∧ Hash w' g (all ++ b) ∧ Gx g w w' := by
  have HT : Hid (Tabs w) := ht
  have HN : Hid (all.length + b.length ≤ 900000) := hN
  have H2 : Hid (2 ≤ g) := by obtain ⟨_, _, h⟩ := h; exact h.two
  have HR0 : Hid (Rd w.heap.size w v b) := hr.self
  have HO0 : Hid (0 < b.length → Off g v) := ho
  have HH : Hid (Hash w g all) := h
  clear hr ho h ht hN
  go_enter Tryd.func18, Tryd.ntmps18
  go_wp2
  go_loopw [1] (fun v wr => ∃ j : Nat, j ≤ b.length ∧ Rd wr.heap.size wr v (b.drop j) ∧ (j < b.length → Off g v) ∧ Hash wr g (all ++ b.take j) ∧ Gx g w wr) (fun v _ => slLen v)
  case atStart => exact ⟨0, Nat.zero_le _, by simpa using HR0.out, HO0.out, by simpa using HH.out, Gx.refl g w⟩
  case round =>
    obtain ⟨j, hj, hr, hoff, hh, hx⟩ := hrel
    by_cases hlt : j < b.length
    · have hoff := hoff hlt
      obtain ⟨A, eA⟩ : ∃ A, all ++ b.take j = A := ⟨_, rfl⟩
      obtain ⟨D, eD⟩ : ∃ D, b.drop j = D := ⟨_, rfl⟩
      have hAl : A.length = all.length + j := by rw [← eA, List.length_append, List.length_take]; omega
      have hdl : D.length = b.length - j := by rw [← eD, List.length_drop]
      rw [eA] at hh
      rw [eD] at hr
      obtain ⟨b0, off, cap, ev, hcap, hbl, hcc⟩ := hr.at (by omega)
      subst ev
      obtain ⟨L, eL⟩ : ∃ L, D.length = L := ⟨_, rfl⟩
      rw [eL] at hr hcap hoff hdl ⊢
      obtain ⟨r, er⟩ : ∃ r, A.length % 64 = r := ⟨_, rfl⟩
      obtain ⟨q, eq⟩ : ∃ q, 64 - r = q := ⟨_, rfl⟩
      obtain ⟨n, en⟩ : ∃ n, (if q < L then q else L) = n := ⟨_, rfl⟩
      have hN := HN.out
      have hn : 0 < n ∧ n ≤ L ∧ r + n ≤ 64 := by subst en; split <;> omega
      have HHE : Hid (Calls Tryd.prog 25 #[.pointer (some ⟨g, 0, none⟩)] wr fun e w' => e = .returned (.int .i64 (r : Int)) ∧ w' = wr) := by
        obtain ⟨_, _, hs⟩ := hh
        have h1 := held_any g A.length wr hs.n
        rw [er] at h1
        exact h1
      have HFI : Hid (Calls Tryd.prog 26 #[.pointer (some ⟨g, 0, none⟩), .slice (some ⟨b0, off, none⟩) n cap] wr fun e w' => e = .returned (.tuple #[]) ∧ Hash w' g (A ++ D.take n) ∧ Gx g wr w') := by
        exact fill_any g _ A (D.take n) _ wr hh (hx.tabs H2.out HT.out) (Rd.take hr (by omega) n rfl) hoff.len (by rw [List.length_take]; omega) (by rw [List.length_take]; omega) (by omega)
      have HNX : Hid (∀ w', Gx g wr w' → Rd w'.heap.size w' (Go.sliced (some ⟨b0, off, none⟩) n L cap 1) (b.drop (j + n))) := fun w' hw => by
        have h1 := Rd.sliced (lo := n) (hi := L) hr (by omega) (by omega)
        rw [List.take_of_length_le (by omega), ← eD, List.drop_drop] at h1
        exact (hw.rd h1 (sliced_off hoff)).self
      have HNH : Hid (A ++ D.take n = all ++ b.take (j + n)) := by
        show _ = _
        rw [← eA, ← eD, List.append_assoc, List.take_add]
      have HOF : Hid (Off g (.slice (some ⟨b0, off, none⟩) L cap)) := hoff
      have HX : Hid (Gx g w wr) := hx
      have HJ : Hid (j + n ≤ b.length) := by show _ ≤ _; omega
      have HD : Hid (decide ((L : Int) > 0) = true) := decide_eq_true (by omega)
      have HSB : Hid ((64 : Int) - (r : Int) = (q : Int) ∧ -9223372036854775808 ≤ (q : Int) ∧ (q : Int) < 9223372036854775808) := ⟨by omega, by omega, by omega⟩
      have HMN : Hid ((if (q : Int) < (L : Int) then (q : Int) else (L : Int)) = (n : Int)) := by
        show _ = _
        subst en
        by_cases h : q < L
        · rw [if_pos h, if_pos (by omega)]
        · rw [if_neg h, if_neg (by omega)]
      have HNL : Hid (n ≤ L ∧ n ≤ cap) := ⟨hn.2.1, by omega⟩
      have HLEN : Hid (slLen (Go.sliced (some ⟨b0, off, none⟩) n L cap 1) < L) := by show L - n < L; omega
      clear hr hoff hh hx hlt hj hdl hAl hbl hcc hcap hN hn er eq en eL eA eD
      go_wp2_with ((first
        | (refine wpList_val rfl (.bool true) (x_gtr (.tmp 8) (.const (.int .i64 0)) _ _ rfl L 0 true HD.out .i64 rfl rfl) ?_)
        | (go_at_call 25; refine HHE.out.mono ?_; rintro e w6 ⟨rfl, h6⟩; rw [h6]; clear h6 w6 HHE)
        | (refine wpList_val rfl (.int .i64 (q : Int)) (x_subI (.const (.int .i64 64)) (.tmp 13) _ _ rfl 64 r q HSB.out.1 HSB.out.2.1 HSB.out.2.2 rfl rfl) ?_)
        | (refine wpList_val rfl (.int .i64 (n : Int)) (exec_minI (.tmp 11) (.tmp 14) _ rfl L q n HMN.out rfl rfl) ?_)
        | (refine wpList_val rfl (.slice (some ⟨b0, off, none⟩) n cap) (exec_slice_h0 Tryd.bs Tryd.one8 (.tmp 17) (.tmp 18) rfl b0 off L cap n _ rfl HNL.out.2 rfl rfl) ?_)
        | (go_at_call 26; refine HFI.out.mono ?_; rintro e w8 ⟨rfl, hh8, hx8⟩; clear HFI)
        | (refine wpList_val rfl (Go.sliced (some ⟨b0, off, none⟩) n L cap 1) (exec_slice_l Tryd.bs Tryd.one8 (.tmp 21) (.tmp 22) rfl (some ⟨b0, off, none⟩) L cap n _ rfl HNL.out.1 rfl rfl) ?_)); try simp only [Act.put, List.setIfInBounds_toArray, List.set_cons_succ, List.set_cons_zero])
      go_roundw
      case rel => exact ⟨j + n, HJ.out, HNX.out _ hx8, fun _ => sliced_off HOF.out, by rw [← HNH.out]; exact hh8, HX.out.trans hx8⟩
      case measure => exact HLEN.out
    · obtain rfl : j = b.length := by omega
      rw [List.drop_length] at hr
      obtain ⟨ao, cap, ev⟩ := hr.len
      subst ev
      have HD : Hid (decide (((0 : Nat) : Int) > 0) = false) := by show _ = _; decide
      rw [List.take_length] at hh
      clear hr hoff hlt hj
      go_wp2_with ((first
        | (refine wpList_val rfl (.bool false) (x_gtr (.tmp 8) (.const (.int .i64 0)) _ _ rfl (0 : Nat) 0 false HD.out .i64 rfl rfl) ?_)); try simp only [Act.put, List.setIfInBounds_toArray, List.set_cons_succ, List.set_cons_zero])
      refine bodyPost_end (results_none rfl _ _ _) rfl ?_
      exact ⟨rfl, hh, hx⟩

set_option maxHeartbeats 1000000 in
theorem write_nil (v : Value) (w : World) :
    Calls Tryd.prog 18 #[.pointer none, v] w fun e w' => e = .returned (.tuple #[]) ∧ w' = w := by
  go_enter Tryd.func18, Tryd.ntmps18
  go_wp2
  first
    | refine bodyPost_ret (results_none rfl _ _ _) rfl ?_
    | refine bodyPost_end (results_none rfl _ _ _) rfl ?_
  exact ⟨rfl, rfl⟩
set_option maxHeartbeats 1000000 in
theorem len_nil (w : World) :
    Calls Tryd.prog 20 #[.pointer none] w fun e w' => e = .returned (.int .u64 0) ∧ w' = w := by
  go_enter Tryd.func20, Tryd.ntmps20
  go_wp2
  go_ret
  exact ⟨rfl, rfl⟩
set_option maxHeartbeats 1000000 in
theorem sum_nil (w : World) (ht : Tabs w) (h2 : 2 ≤ w.heap.size) :
    Calls Tryd.prog 19 #[.pointer none] w fun e w' => e = .returned (.agg (cellsOf (hsh [])).toArray) ∧ Below w.heap.size w w' := by
  have HNW : Hid (∀ w', Below w.heap.size w w' → Calls Tryd.prog 17 #[] w' fun e w'' => ∃ g, e = .returned (.pointer (some ⟨g, 0, none⟩)) ∧ w'.heap.size ≤ g ∧ Hash w'' g [] ∧ Below w'.heap.size w' w'') := fun w' hw => new_any w' (Nat.le_trans h2 (Below.size hw))
  have HSU : Hid (∀ g w', Below w.heap.size w w' → Hash w' g [] → Calls Tryd.prog 19 #[.pointer (some ⟨g, 0, none⟩)] w' fun e w'' => e = .returned (.agg (cellsOf (hsh [])).toArray) ∧ Below w'.heap.size w' w'') := fun g w' hw hh => sum_any g [] w' hh (ht.gr hw) (by decide)
  have HL : Hid ((cellsOf (hsh [])).length = 32) := by show _ = _; rw [cellsOf_length, hsh_length]
  obtain ⟨H, eH⟩ : ∃ H, hsh [] = H := ⟨_, rfl⟩
  rw [eH] at HSU HL ⊢
  have m := Mem.start w
  clear eH ht h2
  go_enter Tryd.func19, Tryd.ntmps19
  go_wp2_with ((first
    | (refine wpList_alloc_mem Tryd.ah m rfl rfl 2 rfl _ zeros32 ?_; clear m; intro g2 wx2 m)
    | (go_at_call 17; refine (HNW.out _ m.below).mono ?_; rintro e wx3 ⟨g, rfl, hg, hh, b3⟩; replace m := m.gr b3; clear b3 HNW)
    | (go_at_call 19; refine (HSU.out g _ m.below hh).mono ?_; rintro e wx4 ⟨rfl, b4⟩; replace m := m.gr b4; clear b4 HSU hh)
    | (refine wpList_store_mem Tryd.ah m rfl (.tmp 2) (.tmp 11) rfl rfl 0 (cellsOf H) rfl rfl HL.out (cellsOf_one _) rfl rfl ?_; clear m; intro wx9 m)); try simp only [Act.put, List.setIfInBounds_toArray, List.set_cons_succ, List.set_cons_zero])
  refine bodyPost_ret (results_arr Tryd.ah Tryd.results19 _ wx9 g2 (cellsOf H) HL.out rfl (m.get 0 rfl)) rfl ⟨rfl, m.below⟩

set_option maxHeartbeats 1000000 in
theorem shasum_any (B : Nat) (b : List UInt8) (v : Value) (w : World) (hr : Rd B w v b) (ht : Tabs w) (h2 : 2 ≤ w.heap.size) (hN : b.length ≤ 900000) :
    Calls Tryd.prog 11 #[v] w fun e w' => e = .returned (.agg (cellsOf (hsh b)).toArray) ∧ Below w.heap.size w w' := by
  have HNW : Hid (∀ w', Below w.heap.size w w' → Calls Tryd.prog 17 #[] w' fun e w'' => ∃ g, e = .returned (.pointer (some ⟨g, 0, none⟩)) ∧ w'.heap.size ≤ g ∧ Hash w'' g [] ∧ Below w'.heap.size w' w'') := fun w' hw => new_any w' (Nat.le_trans h2 (Below.size hw))
  have HWR : Hid (∀ g w', Below w.heap.size w w' → w.heap.size ≤ g → Hash w' g [] → Calls Tryd.prog 18 #[.pointer (some ⟨g, 0, none⟩), v] w' fun e w'' => e = .returned (.tuple #[]) ∧ Hash w'' g b ∧ Gx g w' w'') := fun g w' hw hg hh => by
    have h1 := write_any g _ [] b v w' hh (ht.gr hw) (hr.self.grow hw) (fun hl => hr.off hl hg) (by simpa using hN)
    rw [List.nil_append] at h1
    exact h1
  have HSU : Hid (∀ g w', Below w.heap.size w w' → Hash w' g b → Calls Tryd.prog 19 #[.pointer (some ⟨g, 0, none⟩)] w' fun e w'' => e = .returned (.agg (cellsOf (hsh b)).toArray) ∧ Below w'.heap.size w' w'') := fun g w' hw hh => sum_any g b w' hh (ht.gr hw) hN
  have HL : Hid ((cellsOf (hsh b)).length = 32) := by show _ = _; rw [cellsOf_length, hsh_length]
  obtain ⟨H, eH⟩ : ∃ H, hsh b = H := ⟨_, rfl⟩
  rw [eH] at HSU HL ⊢
  have m := Mem.start w
  clear eH ht h2 hr hN
  go_enter Tryd.func11, Tryd.ntmps11
  go_wp2_with ((first
    | (refine wpList_alloc_mem Tryd.ah m rfl rfl 2 rfl _ zeros32 ?_; clear m; intro g2 wx2 m)
    | (go_at_call 17; refine (HNW.out _ m.below).mono ?_; rintro e wx3 ⟨g, rfl, hg, hh, b3⟩; clear HNW)
    | (go_at_call 18; refine (HWR.out g _ (m.below.trans (Below.mono b3 m.below.size)) (Nat.le_trans m.below.size hg) hh).mono ?_; rintro e wx5 ⟨rfl, hh5, hx5⟩; replace m := m.gr (Below.trans b3 (hx5.below hg (Below.size b3))); clear b3 HWR hh hx5 hg)
    | (go_at_call 19; refine (HSU.out g _ m.below hh5).mono ?_; rintro e wx4 ⟨rfl, b4⟩; replace m := m.gr b4; clear b4 HSU hh5)
    | (refine wpList_store_mem Tryd.ah m rfl (.tmp 2) (.tmp 9) rfl rfl 0 (cellsOf H) rfl rfl HL.out (cellsOf_one _) rfl rfl ?_; clear m; intro wx9 m)); try simp only [Act.put, List.setIfInBounds_toArray, List.set_cons_succ, List.set_cons_zero])
  refine bodyPost_ret (results_arr Tryd.ah Tryd.results11 _ wx9 g2 (cellsOf H) HL.out rfl (m.get 0 rfl)) rfl ⟨rfl, m.below⟩

set_option maxHeartbeats 1000000 in
theorem double_any (B : Nat) (b : List UInt8) (v : Value) (w : World) (hr : Rd B w v b) (ht : Tabs w) (h2 : 2 ≤ w.heap.size) (hN : b.length ≤ 900000) :
    Calls Tryd.prog 13 #[v] w fun e w' => e = .returned (.agg (cellsOf (hsh (hsh b))).toArray) ∧ Below w.heap.size w w' := by
  have HS1 : Hid (∀ w', Below w.heap.size w w' → Calls Tryd.prog 11 #[v] w' fun e w'' => e = .returned (.agg (cellsOf (hsh b)).toArray) ∧ Below w'.heap.size w' w'') := fun w' hw => shasum_any _ b v w' (hr.self.grow hw) (ht.gr hw) (Nat.le_trans h2 (Below.size hw)) hN
  have hl : (hsh b).length = 32 := hsh_length b
  obtain ⟨H, eH⟩ : ∃ H, hsh b = H := ⟨_, rfl⟩
  rw [eH] at HS1 hl ⊢
  have HS2 : Hid (∀ g w', Below w.heap.size w w' → Arr 24 w' g (cellsOf H) → Calls Tryd.prog 11 #[.slice (some ⟨g, 0, none⟩) 32 32] w' fun e w'' => e = .returned (.agg (cellsOf (hsh H)).toArray) ∧ Below w'.heap.size w' w'') := fun g w' hw ha => shasum_any _ H _ w' (ha.rd 32 hl.symm) (ht.gr hw) (Nat.le_trans h2 (Below.size hw)) (by omega)
  have HL1 : Hid ((cellsOf H).length = 32) := by show _ = _; rw [cellsOf_length, hl]
  have HL2 : Hid ((cellsOf (hsh H)).length = 32) := by show _ = _; rw [cellsOf_length, hsh_length]
  obtain ⟨H2, eH2⟩ : ∃ H2, hsh H = H2 := ⟨_, rfl⟩
  rw [eH2] at HS2 HL2 ⊢
  have m := Mem.start w
  clear eH ht h2 hr hN eH2 hl
  go_enter Tryd.func13, Tryd.ntmps13
  go_wp2_with ((first
    | (refine wpList_alloc_mem Tryd.ah m rfl rfl 2 rfl _ zeros32 ?_; clear m; intro g2 wx2 m)
    | (go_at_call 11; refine (HS1.out _ m.below).mono ?_; rintro e wx4 ⟨rfl, b4⟩; replace m := m.gr b4; clear b4 HS1)
    | (refine wpList_alloc_mem Tryd.ah m rfl rfl 3 rfl _ zeros32 ?_; clear m; intro g3 wx3 m)
    | (refine wpList_store_mem Tryd.ah m rfl (.tmp 3) (.tmp 5) rfl rfl 0 (cellsOf H) rfl rfl HL1.out (cellsOf_one _) rfl rfl ?_; clear m; intro wx5 m)
    | (refine wpList_slice_arr Tryd.ah rfl (.tmp 3) rfl g3 rfl ?_)
    | (go_at_call 11; refine (HS2.out g3 _ m.below (m.get 0 rfl)).mono ?_; rintro e wx7 ⟨rfl, b7⟩; replace m := m.gr b7; clear b7 HS2)
    | (refine wpList_store_mem Tryd.ah m rfl (.tmp 2) (.tmp 7) rfl rfl 1 (cellsOf H2) rfl rfl HL2.out (cellsOf_one _) rfl rfl ?_; clear m; intro wx9 m)); try simp only [Act.put, List.setIfInBounds_toArray, List.set_cons_succ, List.set_cons_zero])
  refine bodyPost_ret (results_arr Tryd.ah Tryd.results13 _ wx9 g2 (cellsOf H2) HL2.out rfl (m.get 1 rfl)) rfl ⟨rfl, m.below⟩
end Go.Proofs.YtkgenageeiaacaaDoor
