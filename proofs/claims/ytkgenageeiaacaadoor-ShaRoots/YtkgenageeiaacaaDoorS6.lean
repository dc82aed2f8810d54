/-
  Contract of package sha's padded.
  Conditions: at most 1,000,000 bytes.
-/
import Derived.Test.YtkgenageeiaacaaDoorS5
namespace Go.Proofs.YtkgenageeiaacaaDoor
open Go.RowKit

theorem Tryd.a73 : AT Tryd.prog 53 5 73 (.int .u8 0) := ⟨by kernel_rfl, by kernel_rfl, by kernel_rfl, by kernel_rfl⟩
theorem zeros73 : List.replicate 73 (Value.int .u8 0) = cellsOf (List.replicate 73 0) := rfl
/-- The tail, so far. -/
def tl (z n k : Nat) : List UInt8 := (128 :: (List.replicate z 0 ++ (bits8 n).take k)) ++ List.replicate (72 - z - k) 0
theorem tl_zero (z n : Nat) (hz : z < 64) : (List.replicate 73 (0 : UInt8)).set 0 128 = tl z n 0 := by
  have e : List.replicate 73 (0 : UInt8) = 0 :: (List.replicate z 0 ++ List.replicate (72 - z) 0) := by
    rw [List.replicate_append_replicate, ← List.replicate_succ]; congr 1; omega
  rw [e]; simp [tl]
theorem bits8_length (n : Nat) : (bits8 n).length = 8 := rfl
theorem bits8_take (n k : Nat) (h : k < 8) : (bits8 n).take (k + 1) = (bits8 n).take k ++ [by8 n k] := by
  match k, h with
  | 0, _ | 1, _ | 2, _ | 3, _ | 4, _ | 5, _ | 6, _ | 7, _ => rfl
theorem tl_length (z n k : Nat) (hz : z < 64) (hk : k ≤ 8) : (tl z n k).length = 73 := by simp [tl, bits8_length]; omega
theorem tl_set (z n k : Nat) (hz : z < 64) (hk : k < 8) : (tl z n k).set (1 + z + k) (by8 n k) = tl z n (k + 1) := by
  have e : 72 - z - k = (72 - z - (k + 1)) + 1 := by omega
  have hl : (128 :: (List.replicate z (0 : UInt8) ++ (bits8 n).take k)).length = 1 + z + k := by simp [bits8_length]; omega
  unfold tl
  rw [e, List.replicate_succ, List.set_append_right _ _ (by omega), hl, bits8_take n k hk]
  simp
theorem tl_all (z n : Nat) : (tl z n 8).take (1 + z + 8) = 128 :: (List.replicate z 0 ++ bits8 n) := by
  have hl : (128 :: (List.replicate z (0 : UInt8) ++ bits8 n)).length = 1 + z + 8 := by simp [bits8_length]; omega
  have e : (bits8 n).take 8 = bits8 n := List.take_of_length_le (by rw [bits8_length]; exact Nat.le_refl _)
  unfold tl
  rw [e, List.take_append_of_le_length (by omega), List.take_of_length_le (by omega)]

/-- The slice lies in blocks from B on. -/
def Nw (B : Nat) (v : Value) : Prop := ∀ a n c, v = .slice (some a) n c → B ≤ a.block
/-- p[:hi] of an array. -/
theorem exec_slice_arr_h {P : Program} {A E : TypeId} {N : Nat} {z : Value} (t : AT P A E N z) {ρ : Operand → Value} {o : Oper} {w : World} (x y : Operand) (ho : o.op = .slice A x none (some y) none) (g hi : Nat) (u : Int) (hu : u = (hi : Int)) (h1 : hi ≤ N)
    (hx : ρ x = .pointer (some ⟨g, 0, none⟩)) (hy : ρ y = .int .i64 u) : (execOp ρ o).run P w = .ok (.value (.slice (some ⟨g, 0, none⟩) hi N)) w := by
  subst hu
  obtain ⟨j, hj, _⟩ := t.elem
  have b2 : ∀ e : BoundsCode, (Instr.sliceBound (.int .i64 (hi : Int)) N e).run P w = .ok hi w := fun e => by simp [Instr.sliceBound, asIntOf]; omega
  unfold execOp
  simp [ho, hx, hy, Instr.sliceAt, run_underlying t.ar, Instr.sureAddr, Instr.sliceBounds, b2, sizeOf, typeInfo, hj, Addr.add_lit]
/-- append, where there is no room: new memory. -/
theorem wpList_append_new {P : Program} {T E : TypeId} (t : BT P T E) {o : Oper} {w : World} {ops : Array Oper} {rest' : List Oper} {a : Act} {Q : Exit → Act → World → Prop} (hgd : o.guard = none) (s x : Operand) (ho : o.op = .call { callee := .builtin .append, args := #[s, x], argTypes := #[T, T] })
    (g off n B C : Nat) (l p : List UInt8) (u : Value) (hn : n = l.length) (hs : a.eval s = .slice (some ⟨g, off, none⟩) n n) (hx : a.eval x = u) (hl : Rd B w (.slice (some ⟨g, off, none⟩) n n) l) (hrd : Rd C w u p) (hp : 0 < p.length) (hb : l.length + p.length ≤ 1000000)
    (h : ∀ v' w', Rd w'.heap.size w' v' (l ++ p) → Gr w w' → Nw w.heap.size v' → wpList P ops Q rest' (a.put o.dst v') w') : wpList P ops Q (o :: rest') a w := by
  subst hn
  obtain ⟨i0, hi, hz0, hz1, hz2⟩ := info_parts t.info
  obtain ⟨b, ob, cap, rfl, h1, h2, h3⟩ := hrd.at hp
  have hlo : ∀ j v, (cellsOf l)[j]? = some v → w.cell? ((⟨g, off, none⟩ : Addr).add j) = some v := by
    intro j v hv
    obtain ⟨ao, cap', e, _, _, h5⟩ := hl
    simp only [Value.slice.injEq] at e
    obtain ⟨rfl, _, _⟩ := e
    exact (h5 _ rfl j v hv).1
  have hrun := run_append_grow (P := P) w T o.type E i0 (.int .u8 0) t.sl hi hz0 ⟨g, off, none⟩ l.length l.length (cellsOf l) (by rw [hz1, cellsOf_length]; omega) hlo ⟨b, ob, none⟩ p.length cap (cellsOf p) (by rw [hz1, cellsOf_length]; omega) (fun j v hv => by obtain ⟨hj, rfl⟩ := cellsOf_get hv; rw [Addr.add_lit]; exact h3 j hj)
    (by omega) (by omega) (growslice_fits (by omega) (by rw [hz2]; omega))
  refine wpList_plain hgd fun K hK => ?_
  unfold Oper.wp execOp
  simp only [ho, resolve, invoke, builtin, Sem.run_bind, Sem.run_pure, Result.andThen_ok, List.map_toArray, List.map_cons, List.map_nil, hs, hx, hrun]
  refine hK _ _ (h _ _ ?_ ?_ ?_)
  · refine ⟨_, grownCap w (l.length + p.length) l.length E, by rw [List.length_append], by rw [List.length_append]; exact grownCap_ge _ _ _ _, (fun h => by cases h), fun a' ha' j u hu => ?_⟩
    obtain rfl := Option.some.inj ha'
    rw [Addr.add_lit]
    refine ⟨?_, by simp⟩
    have hsz : w.heap.size = (w.drew).heap.size := rfl
    rw [World.cell?_alloc_at _ _ _ _ (by simp)]
    rw [cellsOf_append] at hu
    have hj := (List.getElem?_eq_some_iff.1 hu).1
    rw [Nat.zero_add, Array.getElem?_append_left (by simpa using hj)]
    simpa using hu
  · exact (Below.drewN' w.heap.size w 1).trans ((Below.refl w.heap.size w.drew).alloc (Nat.le_refl _) _)
  · intro a' n' c' e
    simp only [Value.slice.injEq, Option.some.injEq] at e
    rw [← e.1]; exact Nat.le_refl _

set_option maxRecDepth 20000 in
set_option maxHeartbeats 2000000 in
theorem padded_any (g : Nat) (all : List UInt8) (nums : List Nat) (rest : List UInt8) (w : World) (h : Hs w g all nums rest) (hN : all.length ≤ 1000000) :
    Calls Tryd.prog 28 #[.pointer (some ⟨g, 0, none⟩)] w fun e w' => ∃ v, e = .returned v ∧ Rd w'.heap.size w' v (all.drop (64 * (all.length / 64)) ++ tailL all.length) ∧ Nw w.heap.size v ∧ Below w.heap.size w w' := by
  have HHD : Hid (∀ w', Below w.heap.size w w' → Calls Tryd.prog 25 #[.pointer (some ⟨g, 0, none⟩)] w' fun e w'' => e = .returned (.int .i64 ((all.length % 64 : Nat) : Int)) ∧ w'' = w') := fun w' hw => held_any g all.length w' (h.gr hw).n
  have HNC : Hid (∀ w', Below w.heap.size w w' → w'.cell? ⟨g, 72, none⟩ = some (.int .u64 (all.length : Int))) := fun w' hw => (h.gr hw).n
  have HRD : Hid (∀ w', Below w.heap.size w w' → Rd (g + 1) w' (.slice (some ⟨g, 8, none⟩) (all.length % 64) (all.length % 64)) (all.drop (64 * (all.length / 64)))) := fun w' hw => by
    rw [← h.held]; exact (h.gr hw).rd _ (by omega) _ (Nat.le_refl _)
  have HDL : Hid (all.length % 64 = (all.drop (64 * (all.length / 64))).length) := by show _ = _; rw [List.length_drop]; omega
  have HTL : Hid (tailL all.length = 128 :: (List.replicate (nz all.length) 0 ++ bits8 all.length)) := rfl
  obtain ⟨n, en⟩ : ∃ n, all.length = n := ⟨_, rfl⟩
  rw [en] at HHD HNC HRD HDL HTL hN ⊢
  obtain ⟨D, eD⟩ : ∃ D, all.drop (64 * (n / 64)) = D := ⟨_, rfl⟩
  rw [eD] at HRD HDL ⊢
  obtain ⟨k, ek⟩ : ∃ k, n % 64 = k := ⟨_, rfl⟩
  rw [ek] at HHD HRD HDL
  obtain ⟨z, ez⟩ : ∃ z, nz n = z := ⟨_, rfl⟩
  have hz : z < 64 := ez ▸ nz_lt n
  have HZ : Hid (z < 64) := hz
  have HK : Hid (k < 64) := by show _ < _; omega
  have HQ : Hid ((119 - k) % 64 = z) := by show _ = _; rw [← ez, ← ek]; rfl
  rw [ez] at HTL
  obtain ⟨n8, e8⟩ : ∃ x, n * 8 % 18446744073709551616 = x := ⟨_, rfl⟩
  have H8 : Hid (n * 8 % 18446744073709551616 = n8) := e8
  have HB8 : Hid (∀ i, by8 n i = UInt8.ofNat (n8 / 2 ^ (56 - 8 * i))) := fun i => by show _ = _; rw [← e8]; rfl
  have H64 : Hid (64 ≠ 0) := by show _ ≠ _; decide
  have HNN : Hid (n ≤ 1000000) := hN
  have HS0 : Hid ((cellsOf (List.replicate 73 (0 : UInt8))).set 0 (.int .u8 128) = cellsOf (tl z n 0)) := by
    show _ = _
    rw [← tl_zero z n hz]; exact cellsOf_set _ 0 128
  clear h en eD ek ez e8 hN hz
  have m := Mem.start w
  go_enter Tryd.func28, Tryd.ntmps28
  obtain ⟨k9, e9⟩ : ∃ x, 119 - k = x := ⟨_, rfl⟩
  have H9 : Hid ((119 : Int) - (k : Int) = (k9 : Int) ∧ -9223372036854775808 ≤ (k9 : Int) ∧ (k9 : Int) < 9223372036854775808) := by have := HK.out; exact ⟨by omega, by omega, by omega⟩
  have HQ9 : Hid (k9 % 64 = z) := by show _ = _; rw [← e9]; exact HQ.out
  clear e9
  go_wp2_with ((first
    | (go_at_call 25; refine (HHD.out _ m.below).mono ?_; rintro e w6 ⟨rfl, h6⟩; rw [h6]; clear h6 w6 HHD)
    | (refine wpList_val rfl (.int .i64 (k9 : Int)) (exec_subI (.const (.int .i64 119)) (.tmp 9) _ _ rfl 119 k k9 H9.out.1 H9.out.2.1 H9.out.2.2 rfl rfl) ?_)
    | (refine wpList_val rfl (.int .i64 (z : Int)) (exec_remN (.tmp 10) (.const (.int .i64 64)) _ _ rfl k9 64 z HQ9.out H64.out .i64 rfl rfl) ?_)
    | (refine wpList_alloc_mem Tryd.a73 m rfl rfl 5 rfl _ zeros73 ?_; clear m; intro g5 wx5 m)
    | (refine wpList_indexAt_arr Tryd.a73 rfl (.tmp 5) (.const (.int .i64 0)) rfl g5 0 .i64 0 rfl (by decide) rfl rfl ?_)
    | (refine wpList_set_mem m rfl 5 (.tmp 12) (.const (.int .u8 128)) rfl rfl Tryd.one8 0 0 (.int .u8 128) (cellsOf (tl z n 0)) HS0.out rfl (by decide) rfl rfl rfl ?_; clear m; intro wx9 m)); try simp only [Act.put, List.setIfInBounds_toArray, List.set_cons_succ, List.set_cons_zero])
  go_loopw [13] (fun i wr => ∃ j : Nat, j ≤ 8 ∧ i = .int .i64 (j : Int) ∧ Mem w wr [⟨g5, 53, cellsOf (tl z n j)⟩]) (fun i _ => 8 - (intOf i).toNat)
  case atStart => exact ⟨0, by omega, rfl, m⟩
  case round =>
    clear m
    obtain ⟨j, hj, rfl, m⟩ := hrel
    by_cases hlt : j < 8
    · have HLT : Hid (j < 8) := hlt
      obtain ⟨p, ep⟩ : ∃ p, 1 + z + j = p := ⟨_, rfl⟩
      obtain ⟨s, es⟩ : ∃ s, 56 - 8 * j = s := ⟨_, rfl⟩
      obtain ⟨q, eq⟩ : ∃ y, n8 / 2 ^ s = y := ⟨_, rfl⟩
      have HP : Hid ((1 : Int) + (z : Int) + (j : Int) = (p : Int)) := by show _ = _; omega
      have HP2 : Hid (-9223372036854775808 ≤ (p : Int) ∧ (p : Int) < 9223372036854775808 ∧ p < 73) := by have := HZ.out; exact ⟨by omega, by omega, by omega⟩
      have HS : Hid ((8 : Int) * ((7 : Int) - (j : Int)) = (s : Int) ∧ -9223372036854775808 ≤ (s : Int) ∧ (s : Int) < 9223372036854775808 ∧ s ≤ 64) := ⟨by omega, by omega, by omega, by omega⟩
      have HY : Hid (n8 / 2 ^ s = q) := eq
      have HST : Hid ((cellsOf (tl z n j)).set p (.int .u8 ((UInt8.ofNat q).toNat : Int)) = cellsOf (tl z n (j + 1))) := by
        show _ = _
        rw [cellsOf_set, ← eq, ← es, ← HB8.out, ← ep, tl_set z n j HZ.out hlt]
      have HLB : Hid (p < (cellsOf (tl z n j)).length) := by show _ < _; rw [cellsOf_length, tl_length z n j HZ.out (by omega)]; exact HP2.out.2.2
      have HW8 : Hid (IntKind.u8.wrap ((q : Nat) : Int) = ((UInt8.ofNat q).toNat : Int)) := wrapU8 q
      have H1Z : Hid ((1 : Int) + (z : Int) = (((1 + z : Nat)) : Int) ∧ -9223372036854775808 ≤ (((1 + z : Nat)) : Int) ∧ (((1 + z : Nat)) : Int) < 9223372036854775808) := by have := HZ.out; exact ⟨by omega, by omega, by omega⟩
      have HPZ : Hid ((((1 + z : Nat)) : Int) + (j : Int) = (p : Int)) := by show _ = _; omega
      have H7 : Hid ((7 : Int) - (j : Int) = ((7 - j : Nat) : Int) ∧ -9223372036854775808 ≤ ((7 - j : Nat) : Int) ∧ ((7 - j : Nat) : Int) < 9223372036854775808) := ⟨by omega, by omega, by omega⟩
      have HS7 : Hid ((8 : Int) * ((7 - j : Nat) : Int) = (s : Int)) := by show _ = _; omega
      obtain ⟨z1, ez1⟩ : ∃ x, 1 + z = x := ⟨_, rfl⟩
      rw [ez1] at H1Z HPZ
      obtain ⟨j7, ej7⟩ : ∃ x, 7 - j = x := ⟨_, rfl⟩
      rw [ej7] at H7 HS7
      clear ep es eq ez1 ej7 HP
      go_wp2_with ((first
        | (refine wpList_val rfl (.int .i64 (z1 : Int)) (x_addI (.const (.int .i64 1)) (.tmp 16) _ _ rfl 1 z z1 H1Z.out.1 H1Z.out.2.1 H1Z.out.2.2 rfl rfl) ?_)
        | (refine wpList_val rfl (.int .i64 (p : Int)) (x_addI (.tmp 17) (.tmp 18) _ _ rfl z1 j p HPZ.out HP2.out.1 HP2.out.2.1 rfl rfl) ?_)
        | (refine wpList_val rfl (.int .u64 (n : Int)) (exec_cell Tryd.u64' (.tmp 22) rfl g 72 _ (HNC.out _ m.below) rfl) ?_)
        | (refine wpList_val rfl (.int .u64 (n8 : Int)) (x_mulU (.tmp 23) (.const (.int .u64 8)) _ _ rfl n 8 n8 H8.out rfl rfl) ?_)
        | (refine wpList_val rfl (.int .i64 (j7 : Int)) (exec_subI (.const (.int .i64 7)) (.tmp 25) _ _ rfl 7 j j7 H7.out.1 H7.out.2.1 H7.out.2.2 rfl rfl) ?_)
        | (refine wpList_val rfl (.int .i64 (s : Int)) (x_mulI (.const (.int .i64 8)) (.tmp 26) _ _ rfl 8 j7 s HS7.out HS.out.2.1 HS.out.2.2.1 rfl rfl) ?_)
        | (refine wpList_val rfl (.int .u64 (q : Int)) (exec_shrZ (.tmp 24) (.tmp 27) _ _ rfl n8 s q HY.out .i64 s rfl HS.out.2.2.2 rfl rfl) ?_)
        | (refine wpList_val rfl (.int .u8 ((UInt8.ofNat q).toNat : Int)) (exec_conv Tryd.u64' Tryd.u8 (.tmp 28) rfl _ _ HW8.out rfl) ?_)
        | (refine wpList_indexAt_arr Tryd.a73 rfl (.tmp 5) (.tmp 19) rfl g5 p .i64 p rfl HP2.out.2.2 rfl rfl ?_)
        | (refine wpList_set_mem m rfl 5 (.tmp 30) (.tmp 29) rfl rfl Tryd.one8 0 p (.int .u8 ((UInt8.ofNat q).toNat : Int)) (cellsOf (tl z n (j + 1))) HST.out rfl HLB.out rfl rfl rfl ?_; clear m; intro wx9 m)); try simp only [Act.put, List.setIfInBounds_toArray, List.set_cons_succ, List.set_cons_zero])
      go_roundw
      case rel => exact ⟨j + 1, by have := HLT.out; omega, by go_num, m⟩
      case measure => have := HLT.out; simp [intOf]; omega
    · obtain rfl : j = 8 := by omega
      have HTA : Hid ((tl z n 8).take (1 + z + 8) = 128 :: (List.replicate z 0 ++ bits8 n)) := tl_all z n
      have HTLL : Hid ((tl z n 8).length = 73) := tl_length z n 8 HZ.out (Nat.le_refl _)
      go_wp2
      replace m := m.gr (Below.drewN' _ _ 1)
      have HRT : Hid (Rd wr.heap.size (wr.drewN 1) (.slice (some ⟨g5, 0, none⟩) (1 + z + 8) 73) (tailL n)) := by
        show Rd _ _ _ _
        rw [HTL.out, ← HTA.out]
        have h1 := (m.get 0 rfl).rd 73 HTLL.out.symm
        exact (Rd.take h1.self (by rw [HTLL.out]; have := HZ.out; omega) _ rfl)
      refine Seq.wp_region (fun _ => True) [0, 0, 0, 0, 0, 0, 0, 0, 0, 0, 2, 0] (by kernel_rfl) (by kernel_rfl) (by kernel_rfl) (trivial) ?_
      refine Seq.st rfl rfl (.pointer (some ⟨g, 0, none⟩)) (fun w' hC => exec_move (.tmp 0) (.inl rfl) _ rfl) ?_
      simp only [Act.put, List.setIfInBounds_toArray, List.set_cons_succ, List.set_cons_zero]
      refine Seq.st rfl rfl (.pointer (some ⟨g, 0, none⟩)) (fun w' hC => by go_simp) ?_
      simp only [Act.put, List.setIfInBounds_toArray, List.set_cons_succ, List.set_cons_zero]
      refine Seq.st rfl rfl (.pointer (some ⟨g, 8, none⟩)) (fun w' hC => by go_simp) ?_
      simp only [Act.put, List.setIfInBounds_toArray, List.set_cons_succ, List.set_cons_zero]
      refine Seq.st rfl rfl (.int .i64 ((k : Nat) : Int)) (fun w' hC => exec_move (.tmp 3) (.inl rfl) _ rfl) ?_
      simp only [Act.put, List.setIfInBounds_toArray, List.set_cons_succ, List.set_cons_zero]
      refine Seq.st rfl rfl (.int .i64 ((k : Nat) : Int)) (fun w' hC => exec_move (.tmp 3) (.inl rfl) _ rfl) ?_
      simp only [Act.put, List.setIfInBounds_toArray, List.set_cons_succ, List.set_cons_zero]
      refine Seq.st rfl rfl (.slice (some ⟨g, 8, none⟩) k k) (fun w' hC => exec_slice_arr_hm Tryd.ab (.tmp 34) (.tmp 35) (.tmp 36) rfl g 8 k k _ _ rfl rfl (Nat.le_refl _) (by have := HK.out; omega) rfl rfl rfl) ?_
      simp only [Act.put, List.setIfInBounds_toArray, List.set_cons_succ, List.set_cons_zero]
      refine Seq.st rfl rfl (.int .i64 ((z : Nat) : Int)) (fun w' hC => exec_move (.tmp 4) (.inl rfl) _ rfl) ?_
      simp only [Act.put, List.setIfInBounds_toArray, List.set_cons_succ, List.set_cons_zero]
      refine Seq.st rfl rfl (.int .i64 ((1 + z : Nat) : Int)) (fun w' hC => x_addI (.const (.int .i64 1)) (.tmp 38) _ _ rfl 1 ((z : Nat) : Int) (((1 + z : Nat) : Int)) (by omega) (by have := HZ.out; omega) (by have := HZ.out; omega) rfl rfl) ?_
      simp only [Act.put, List.setIfInBounds_toArray, List.set_cons_succ, List.set_cons_zero]
      refine Seq.st rfl rfl (.int .i64 (((1 + z) + 8 : Nat) : Int)) (fun w' hC => x_addI (.tmp 39) (.const (.int .i64 8)) _ _ rfl ((1 + z : Nat) : Int) 8 ((((1 + z) + 8 : Nat) : Int)) (by omega) (by have := HZ.out; omega) (by have := HZ.out; omega) rfl rfl) ?_
      simp only [Act.put, List.setIfInBounds_toArray, List.set_cons_succ, List.set_cons_zero]
      refine Seq.st rfl rfl (.slice (some ⟨g5, 0, none⟩) (1 + z + 8) 73) (fun w' hC => exec_slice_arr_h Tryd.a73 (.tmp 5) (.tmp 40) rfl g5 (1 + z + 8) _ rfl (by have := HZ.out; omega) rfl rfl) ?_
      simp only [Act.put, List.setIfInBounds_toArray, List.set_cons_succ, List.set_cons_zero]
      refine Seq.ef rfl rfl ?_
      refine wpList_append_new Tryd.bt rfl (.tmp 37) (.tmp 41) rfl g 8 k _ _ D (tailL n) _ HDL.out rfl rfl (HRD.out _ m.below) HRT.out (by rw [tailL_length]; omega) (by rw [← HDL.out, tailL_length]; have := HK.out; have := nz_lt n; omega) ?_
      intro v9 w9 hr9 b9 n9
      refine Seq.done (trivial) ?_
      try simp only [Act.put, List.setIfInBounds_toArray, List.set_cons_succ, List.set_cons_zero]
      refine Seq.st rfl rfl (v9) (fun w' hC => exec_move (.tmp 42) (.inr rfl) _ rfl) ?_
      simp only [Act.put, List.setIfInBounds_toArray, List.set_cons_succ, List.set_cons_zero]
      refine Seq.fin ?_
      go_wp2
      go_ret
      exact ⟨_, rfl, hr9, fun a n c e => Nat.le_trans m.below.size (n9 a n c e), m.below.trans (Below.mono b9 m.below.size)⟩
end Go.Proofs.YtkgenageeiaacaaDoor
