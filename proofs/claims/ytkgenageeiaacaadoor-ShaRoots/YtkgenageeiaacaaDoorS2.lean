/-
  Contract of package sha's spread.
-/
import Derived.Test.YtkgenageeiaacaaDoorS1
namespace Go.Proofs.YtkgenageeiaacaaDoor
open Go.RowKit

theorem zeros64 : List.replicate 64 (Value.int .u32 0) = c32 (List.replicate 64 0) := rfl
/-- x[lo:hi] -/
theorem exec_slice_lh {P : Program} {T E : TypeId} {ρ : Operand → Value} {o : Oper} {w : World} (hs : P.underlying T = some (.slice E)) (hz : (P.info? E).map (·.size) = some 1) (x y z : Operand) (ho : o.op = .slice T x (some y) (some z) none) (g off n cap lo hi : Nat) (u v : Int) (hu : u = (lo : Int)) (hv : v = (hi : Int)) (h1 : lo ≤ hi) (h2 : hi ≤ cap) (h3 : lo < cap)
    (hx : ρ x = .slice (some ⟨g, off, none⟩) n cap) (hy : ρ y = .int .i64 u) (hw : ρ z = .int .i64 v) : (execOp ρ o).run P w = .ok (.value (.slice (some ⟨g, off + lo, none⟩) (hi - lo) (cap - lo))) w := by
  subst hu hv
  obtain ⟨j, hj, hs1⟩ := Option.map_eq_some_iff.1 hz
  have b1 : ∀ e : BoundsCode, (Instr.sliceBound (.int .i64 (lo : Int)) hi e).run P w = .ok lo w := fun e => by simp [Instr.sliceBound, asIntOf]; omega
  have b2 : ∀ e : BoundsCode, (Instr.sliceBound (.int .i64 (hi : Int)) cap e).run P w = .ok hi w := fun e => by simp [Instr.sliceBound, asIntOf]; omega
  have b3 : cap ≠ lo := by omega
  unfold execOp
  simp [ho, hx, hy, hw, Instr.sliceAt, Instr.slice, run_underlying hs, Instr.sliceBounds, b1, b2, sizeOf, typeInfo, hj, hs1, b3, Addr.add_lit]

theorem cell_of_arr {T : TypeId} {w : World} {g i : Nat} {cs : List Value} {v : Value} (h : Arr T w g cs) (hv : cs[i]? = some v) : w.cell? ⟨g, i, none⟩ = some v := by
  rw [cell_of_row w g i _ T (0, 0) h]; simpa using hv
/-- The numbers of a block, so far. -/
def wz (b : List UInt8) (k : Nat) : List Nat := ws b k ++ List.replicate (64 - k) 0
theorem wz_length (b : List UInt8) (k : Nat) (h : k ≤ 64) : (wz b k).length = 64 := by simp [wz, ws_length]; omega
theorem wz_at (b : List UInt8) (k i : Nat) (h : i < k) : at32 (wz b k) i = at32 (ws b k) i := by
  unfold at32 wz
  rw [List.getD_eq_getElem?_getD, List.getD_eq_getElem?_getD, List.getElem?_append_left (by rw [ws_length]; exact h)]
theorem wz_set (b : List UInt8) (k x : Nat) (h : k < 64) (hx : ws b (k + 1) = ws b k ++ [x]) : (wz b k).set k x = wz b (k + 1) := by
  have e : 64 - k = (64 - (k + 1)) + 1 := by omega
  unfold wz
  rw [hx, e, List.replicate_succ, List.set_append_right _ _ (by rw [ws_length]; exact Nat.le_refl _), ws_length]
  simp
theorem wz_zero (b : List UInt8) : wz b 0 = List.replicate 64 0 := rfl
theorem wz_all (b : List UInt8) : wz b 64 = ws b 64 := by simp [wz]

set_option maxRecDepth 20000 in
set_option maxHeartbeats 4000000 in
theorem spread_any (B : Nat) (v : Value) (b : List UInt8) (w : World) (h : Rd B w v b) (hb : b.length = 64) :
    Calls Tryd.prog 33 #[v] w fun e w' => e = .returned (.agg (c32 (ws b 64)).toArray) ∧ Below w.heap.size w w' := by
  obtain ⟨b0, off, cap, rfl, hcap, _, _⟩ := h.at (by omega)
  have HRD : Hid (∀ w', Below w.heap.size w w' → Rd w.heap.size w' (.slice (some ⟨b0, off, none⟩) 64 cap) b) := fun w' hw' => by have := h.self.below hw'; rwa [hb] at this
  have HCAP : Hid (64 ≤ cap) := by show _ ≤ _; omega
  have HBL : Hid (b.length = 64) := hb
  rw [hb]
  clear h hb hcap
  have m := Mem.start w
  go_enter Tryd.func33, Tryd.ntmps33
  go_wp2_with ((first
    | (refine wpList_alloc_mem Tryd.a64 m rfl rfl 2 rfl _ zeros64 ?_; clear m; intro g2 wx2 m)
    | (refine wpList_alloc_mem Tryd.a64 m rfl rfl 3 rfl _ zeros64 ?_; clear m; intro g3 wx3 m)); try simp only [Act.put, List.setIfInBounds_toArray, List.set_cons_succ, List.set_cons_zero])
  go_loopw [11] (fun i wr => ∃ k : Nat, k ≤ 16 ∧ i = .int .i64 (k : Int) ∧ Mem w wr [⟨g3, 54, c32 (wz b k)⟩, ⟨g2, 54, c32 (List.replicate 64 0)⟩]) (fun i _ => 16 - (intOf i).toNat)
  case atStart => exact ⟨0, by omega, rfl, m⟩
  case round =>
    clear m
    obtain ⟨k, hk, rfl, m⟩ := hrel
    by_cases hlt : k < 16
    · have HLT : Hid (k < 16) := hlt
      obtain ⟨o4, eo⟩ : ∃ x, off + 4 * k = x := ⟨_, rfl⟩
      obtain ⟨c4, ecc⟩ : ∃ x, cap - 4 * k = x := ⟨_, rfl⟩
      have HSL : Hid (∀ (ρ : Operand → Value) (o : Oper) (w : World), o.op = .slice 22 (.tmp 14) (some (.tmp 16)) (some (.tmp 19)) none → ρ (.tmp 14) = .slice (some ⟨b0, off, none⟩) 64 cap → ρ (.tmp 16) = .int .i64 (4 * (k : Int)) → ρ (.tmp 19) = .int .i64 (4 * (k : Int) + 4) → (execOp ρ o).run Tryd.prog w = .ok (.value (.slice (some ⟨b0, o4, none⟩) 4 c4)) w) := fun ρ o w ho h1 h2 h3 => by
        have := HCAP.out
        have h := exec_slice_lh Tryd.bs Tryd.one8 (.tmp 14) (.tmp 16) (.tmp 19) ho b0 off 64 cap (4 * k) (4 * k + 4) (w := w) _ _ (by omega) (by omega) (by omega) (by omega) (by omega) h1 h2 h3
        rw [h, eo, ecc]
        simp
      have HCELL : Hid (∀ w', Below w.heap.size w w' → ∀ i, i < 4 → w'.cell? ⟨b0, o4 + i, none⟩ = some (.int .u8 (((at8 b (4 * k + i)).toNat : Nat) : Int))) := fun w' hw' i hi => by
        rw [← eo, Nat.add_assoc]
        exact (HRD.out w' hw').cell8 (by have := HBL.out; omega)
      have HO : Hid (off + 4 * k = o4) := eo
      have HL : Hid ((wz b k).length = 64) := wz_length b k (by omega)
      clear eo ecc
      go_wp2_with ((first
        | (refine wpList_val rfl (.slice (some ⟨b0, o4, none⟩) 4 c4) (HSL.out _ _ _ rfl rfl rfl rfl) ?_)); try simp only [Act.put, List.setIfInBounds_toArray, List.set_cons_succ, List.set_cons_zero])
      replace m := m.gr (Below.drewN' _ _ 1)
      refine Seq.wp_region (fun w' => Below w.heap.size w w') [0, 0, 0, 0, 0, 0, 0, 0, 0, 0, 0, 0, 0, 0, 0, 0, 0, 0, 0, 0, 0, 0, 0, 0, 2] (by kernel_rfl) (by kernel_rfl) (by kernel_rfl) m.below ?_
      refine Seq.st rfl rfl (.int .i64 ((k : Nat) : Int)) (fun w' hC => exec_move (.tmp 4) (.inl rfl) _ rfl) ?_
      simp only [Act.put, List.setIfInBounds_toArray, List.set_cons_succ, List.set_cons_zero]
      refine Seq.st rfl rfl (.slice (some ⟨b0, o4, none⟩) 4 c4) (fun w' hC => exec_move (.tmp 5) (.inl rfl) _ rfl) ?_
      simp only [Act.put, List.setIfInBounds_toArray, List.set_cons_succ, List.set_cons_zero]
      refine Seq.st rfl rfl (.pointer (some ⟨b0, o4 + 0, none⟩)) (fun w' hC => exec_slx Tryd.bs Tryd.one8 (.tmp 22) (.const (.int .i64 0)) rfl b0 o4 4 c4 0 .i64 0 rfl (by decide) rfl rfl) ?_
      simp only [Act.put, List.setIfInBounds_toArray, List.set_cons_succ, List.set_cons_zero]
      refine Seq.st rfl rfl (.int .u8 (((at8 b (4 * k) : UInt8).toNat : Nat) : Int)) (fun w' hC => exec_cell Tryd.u8 (.tmp 23) rfl b0 (o4 + 0) (.int .u8 (((at8 b (4 * k) : UInt8).toNat : Nat) : Int)) (HCELL.out w' hC 0 (by decide)) rfl) ?_
      simp only [Act.put, List.setIfInBounds_toArray, List.set_cons_succ, List.set_cons_zero]
      refine Seq.st rfl rfl (.int .u32 (((at8 b (4 * k) : UInt8).toNat : Nat) : Int)) (fun w' hC => exec_conv Tryd.u8 Tryd.u32 (.tmp 24) rfl (((at8 b (4 * k) : UInt8).toNat : Nat) : Int) ((at8 b (4 * k) : UInt8).toNat : Int) (wrap8U32 (at8 b (4 * k))) rfl) ?_
      simp only [Act.put, List.setIfInBounds_toArray, List.set_cons_succ, List.set_cons_zero]
      refine Seq.st rfl rfl (.int .u32 ((lS 24 ((at8 b (4 * k) : UInt8).toNat) : Nat) : Int)) (fun w' hC => exec_lS (.tmp 25) (.const (.int .u64 24)) _ _ rfl ((at8 b (4 * k) : UInt8).toNat) 24 .u64 24 rfl (by decide) rfl rfl) ?_
      simp only [Act.put, List.setIfInBounds_toArray, List.set_cons_succ, List.set_cons_zero]
      refine Seq.st rfl rfl (.slice (some ⟨b0, o4, none⟩) 4 c4) (fun w' hC => exec_move (.tmp 5) (.inl rfl) _ rfl) ?_
      simp only [Act.put, List.setIfInBounds_toArray, List.set_cons_succ, List.set_cons_zero]
      refine Seq.st rfl rfl (.pointer (some ⟨b0, o4 + 1, none⟩)) (fun w' hC => exec_slx Tryd.bs Tryd.one8 (.tmp 27) (.const (.int .i64 1)) rfl b0 o4 4 c4 1 .i64 1 rfl (by decide) rfl rfl) ?_
      simp only [Act.put, List.setIfInBounds_toArray, List.set_cons_succ, List.set_cons_zero]
      refine Seq.st rfl rfl (.int .u8 (((at8 b (4 * k + 1) : UInt8).toNat : Nat) : Int)) (fun w' hC => exec_cell Tryd.u8 (.tmp 28) rfl b0 (o4 + 1) (.int .u8 (((at8 b (4 * k + 1) : UInt8).toNat : Nat) : Int)) (HCELL.out w' hC 1 (by decide)) rfl) ?_
      simp only [Act.put, List.setIfInBounds_toArray, List.set_cons_succ, List.set_cons_zero]
      refine Seq.st rfl rfl (.int .u32 (((at8 b (4 * k + 1) : UInt8).toNat : Nat) : Int)) (fun w' hC => exec_conv Tryd.u8 Tryd.u32 (.tmp 29) rfl (((at8 b (4 * k + 1) : UInt8).toNat : Nat) : Int) ((at8 b (4 * k + 1) : UInt8).toNat : Int) (wrap8U32 (at8 b (4 * k + 1))) rfl) ?_
      simp only [Act.put, List.setIfInBounds_toArray, List.set_cons_succ, List.set_cons_zero]
      refine Seq.st rfl rfl (.int .u32 ((lS 16 ((at8 b (4 * k + 1) : UInt8).toNat) : Nat) : Int)) (fun w' hC => exec_lS (.tmp 30) (.const (.int .u64 16)) _ _ rfl ((at8 b (4 * k + 1) : UInt8).toNat) 16 .u64 16 rfl (by decide) rfl rfl) ?_
      simp only [Act.put, List.setIfInBounds_toArray, List.set_cons_succ, List.set_cons_zero]
      refine Seq.st rfl rfl (.int .u32 ((og (lS 24 ((at8 b (4 * k) : UInt8).toNat)) (lS 16 ((at8 b (4 * k + 1) : UInt8).toNat)) : Nat) : Int)) (fun w' hC => exec_og (.tmp 26) (.tmp 31) _ _ rfl (lS 24 ((at8 b (4 * k) : UInt8).toNat)) (lS 16 ((at8 b (4 * k + 1) : UInt8).toNat)) rfl rfl) ?_
      simp only [Act.put, List.setIfInBounds_toArray, List.set_cons_succ, List.set_cons_zero]
      refine Seq.st rfl rfl (.slice (some ⟨b0, o4, none⟩) 4 c4) (fun w' hC => exec_move (.tmp 5) (.inl rfl) _ rfl) ?_
      simp only [Act.put, List.setIfInBounds_toArray, List.set_cons_succ, List.set_cons_zero]
      refine Seq.st rfl rfl (.pointer (some ⟨b0, o4 + 2, none⟩)) (fun w' hC => exec_slx Tryd.bs Tryd.one8 (.tmp 33) (.const (.int .i64 2)) rfl b0 o4 4 c4 2 .i64 2 rfl (by decide) rfl rfl) ?_
      simp only [Act.put, List.setIfInBounds_toArray, List.set_cons_succ, List.set_cons_zero]
      refine Seq.st rfl rfl (.int .u8 (((at8 b (4 * k + 2) : UInt8).toNat : Nat) : Int)) (fun w' hC => exec_cell Tryd.u8 (.tmp 34) rfl b0 (o4 + 2) (.int .u8 (((at8 b (4 * k + 2) : UInt8).toNat : Nat) : Int)) (HCELL.out w' hC 2 (by decide)) rfl) ?_
      simp only [Act.put, List.setIfInBounds_toArray, List.set_cons_succ, List.set_cons_zero]
      refine Seq.st rfl rfl (.int .u32 (((at8 b (4 * k + 2) : UInt8).toNat : Nat) : Int)) (fun w' hC => exec_conv Tryd.u8 Tryd.u32 (.tmp 35) rfl (((at8 b (4 * k + 2) : UInt8).toNat : Nat) : Int) ((at8 b (4 * k + 2) : UInt8).toNat : Int) (wrap8U32 (at8 b (4 * k + 2))) rfl) ?_
      simp only [Act.put, List.setIfInBounds_toArray, List.set_cons_succ, List.set_cons_zero]
      refine Seq.st rfl rfl (.int .u32 ((lS 8 ((at8 b (4 * k + 2) : UInt8).toNat) : Nat) : Int)) (fun w' hC => exec_lS (.tmp 36) (.const (.int .u64 8)) _ _ rfl ((at8 b (4 * k + 2) : UInt8).toNat) 8 .u64 8 rfl (by decide) rfl rfl) ?_
      simp only [Act.put, List.setIfInBounds_toArray, List.set_cons_succ, List.set_cons_zero]
      refine Seq.st rfl rfl (.int .u32 ((og (og (lS 24 ((at8 b (4 * k) : UInt8).toNat)) (lS 16 ((at8 b (4 * k + 1) : UInt8).toNat))) (lS 8 ((at8 b (4 * k + 2) : UInt8).toNat)) : Nat) : Int)) (fun w' hC => exec_og (.tmp 32) (.tmp 37) _ _ rfl (og (lS 24 ((at8 b (4 * k) : UInt8).toNat)) (lS 16 ((at8 b (4 * k + 1) : UInt8).toNat))) (lS 8 ((at8 b (4 * k + 2) : UInt8).toNat)) rfl rfl) ?_
      simp only [Act.put, List.setIfInBounds_toArray, List.set_cons_succ, List.set_cons_zero]
      refine Seq.st rfl rfl (.slice (some ⟨b0, o4, none⟩) 4 c4) (fun w' hC => exec_move (.tmp 5) (.inl rfl) _ rfl) ?_
      simp only [Act.put, List.setIfInBounds_toArray, List.set_cons_succ, List.set_cons_zero]
      refine Seq.st rfl rfl (.pointer (some ⟨b0, o4 + 3, none⟩)) (fun w' hC => exec_slx Tryd.bs Tryd.one8 (.tmp 39) (.const (.int .i64 3)) rfl b0 o4 4 c4 3 .i64 3 rfl (by decide) rfl rfl) ?_
      simp only [Act.put, List.setIfInBounds_toArray, List.set_cons_succ, List.set_cons_zero]
      refine Seq.st rfl rfl (.int .u8 (((at8 b (4 * k + 3) : UInt8).toNat : Nat) : Int)) (fun w' hC => exec_cell Tryd.u8 (.tmp 40) rfl b0 (o4 + 3) (.int .u8 (((at8 b (4 * k + 3) : UInt8).toNat : Nat) : Int)) (HCELL.out w' hC 3 (by decide)) rfl) ?_
      simp only [Act.put, List.setIfInBounds_toArray, List.set_cons_succ, List.set_cons_zero]
      refine Seq.st rfl rfl (.int .u32 (((at8 b (4 * k + 3) : UInt8).toNat : Nat) : Int)) (fun w' hC => exec_conv Tryd.u8 Tryd.u32 (.tmp 41) rfl (((at8 b (4 * k + 3) : UInt8).toNat : Nat) : Int) ((at8 b (4 * k + 3) : UInt8).toNat : Int) (wrap8U32 (at8 b (4 * k + 3))) rfl) ?_
      simp only [Act.put, List.setIfInBounds_toArray, List.set_cons_succ, List.set_cons_zero]
      refine Seq.st rfl rfl (.int .u32 ((og (og (og (lS 24 ((at8 b (4 * k) : UInt8).toNat)) (lS 16 ((at8 b (4 * k + 1) : UInt8).toNat))) (lS 8 ((at8 b (4 * k + 2) : UInt8).toNat))) ((at8 b (4 * k + 3) : UInt8).toNat) : Nat) : Int)) (fun w' hC => exec_og (.tmp 38) (.tmp 42) _ _ rfl (og (og (lS 24 ((at8 b (4 * k) : UInt8).toNat)) (lS 16 ((at8 b (4 * k + 1) : UInt8).toNat))) (lS 8 ((at8 b (4 * k + 2) : UInt8).toNat))) ((at8 b (4 * k + 3) : UInt8).toNat) rfl rfl) ?_
      simp only [Act.put, List.setIfInBounds_toArray, List.set_cons_succ, List.set_cons_zero]
      refine Seq.st rfl rfl (.pointer (some ⟨g3, k, none⟩)) (fun w' hC => exec_indexAt_arr Tryd.a64 (.tmp 3) (.tmp 21) rfl g3 k .i64 ((k : Nat) : Int) rfl (by have := HLT.out; omega) rfl rfl) ?_
      simp only [Act.put, List.setIfInBounds_toArray, List.set_cons_succ, List.set_cons_zero]
      refine Seq.ef rfl rfl ?_
      refine wpList_set_mem m rfl 38 (.tmp 44) (.tmp 43) rfl rfl Tryd.one32 0 k (.int .u32 ((wd b k : Nat) : Int)) (c32 (wz b (k + 1))) (by rw [c32_set, wz_set b k _ (by have := HLT.out; omega) (ws_low b k HLT.out)]) rfl (by rw [c32_length, HL.out]; have := HLT.out; omega) rfl rfl rfl ?_
      clear m
      intro wx9 m
      refine Seq.done (m.below) ?_
      try simp only [Act.put, List.setIfInBounds_toArray, List.set_cons_succ, List.set_cons_zero]
      refine Seq.fin ?_
      go_wp2
      go_roundw
      case rel => exact ⟨k + 1, by have := HLT.out; omega, by go_num, m⟩
      case measure => have := HLT.out; simp [intOf]; omega
    · obtain rfl : k = 16 := by omega
      go_wp2
      go_loopw [6] (fun i wr => ∃ k : Nat, 16 ≤ k ∧ k ≤ 64 ∧ i = .int .i64 (k : Int) ∧ Mem w wr [⟨g3, 54, c32 (wz b k)⟩, ⟨g2, 54, c32 (List.replicate 64 0)⟩]) (fun i _ => 64 - (intOf i).toNat)
      case atStart => exact ⟨16, by omega, by omega, rfl, m⟩
      case round =>
        clear m hk hlt
        obtain ⟨k, hk0, hk, rfl, m⟩ := hrel
        by_cases hlt : k < 64
        · have HLT : Hid (16 ≤ k ∧ k < 64) := ⟨hk0, hlt⟩
          have HL : Hid ((wz b k).length = 64) := wz_length b k (by omega)
          obtain ⟨x, ex⟩ : ∃ x, at32 (ws b k) (k - 2) = x := ⟨_, rfl⟩
          obtain ⟨y, ey⟩ : ∃ x, at32 (ws b k) (k - 15) = x := ⟨_, rfl⟩
          obtain ⟨p, ep⟩ : ∃ x, at32 (ws b k) (k - 7) = x := ⟨_, rfl⟩
          obtain ⟨q, eq⟩ : ∃ x, at32 (ws b k) (k - 16) = x := ⟨_, rfl⟩
          have HW : Hid (ws b (k + 1) = ws b k ++ [ad (ad (ad (sg1 x) p) (sg0 y)) q]) := by show _ = _; rw [ws_high b k hk0, ex, ey, ep, eq]
          have HX : Hid ((c32 (wz b k))[k - 2]? = some (.int .u32 ((x : Nat) : Int))) := by show _ = _; rw [c32_get (by rw [HL.out]; omega), wz_at b k _ (by omega), ex]
          have HY : Hid ((c32 (wz b k))[k - 15]? = some (.int .u32 ((y : Nat) : Int))) := by show _ = _; rw [c32_get (by rw [HL.out]; omega), wz_at b k _ (by omega), ey]
          have HP : Hid ((c32 (wz b k))[k - 7]? = some (.int .u32 ((p : Nat) : Int))) := by show _ = _; rw [c32_get (by rw [HL.out]; omega), wz_at b k _ (by omega), ep]
          have HQ : Hid ((c32 (wz b k))[k - 16]? = some (.int .u32 ((q : Nat) : Int))) := by show _ = _; rw [c32_get (by rw [HL.out]; omega), wz_at b k _ (by omega), eq]
          clear ex ey ep eq
          have H17 : Hid (∀ w : World, Calls Tryd.prog 37 #[.int .u32 (x : Int), .int .i64 17] w fun e w' => e = .returned (.int .u32 ((rr 17 x : Nat) : Int)) ∧ w' = w) := fun w => rotated_any 17 x (by decide) (by decide) w
          have H19 : Hid (∀ w : World, Calls Tryd.prog 37 #[.int .u32 (x : Int), .int .i64 19] w fun e w' => e = .returned (.int .u32 ((rr 19 x : Nat) : Int)) ∧ w' = w) := fun w => rotated_any 19 x (by decide) (by decide) w
          have H7 : Hid (∀ w : World, Calls Tryd.prog 37 #[.int .u32 (y : Int), .int .i64 7] w fun e w' => e = .returned (.int .u32 ((rr 7 y : Nat) : Int)) ∧ w' = w) := fun w => rotated_any 7 y (by decide) (by decide) w
          have H18 : Hid (∀ w : World, Calls Tryd.prog 37 #[.int .u32 (y : Int), .int .i64 18] w fun e w' => e = .returned (.int .u32 ((rr 18 y : Nat) : Int)) ∧ w' = w) := fun w => rotated_any 18 y (by decide) (by decide) w
          go_wp2
          replace m := m.gr (Below.drewN' _ _ 1)
          refine Seq.wp_region (fun w' => Below w.heap.size w w') [0, 0, 0, 1, 0, 0, 0, 1, 0, 0] (by kernel_rfl) (by kernel_rfl) (by kernel_rfl) (m.below) ?_
          refine Seq.st rfl rfl (.int .i64 ((k : Nat) : Int)) (fun w' hC => exec_move (.tmp 6) (.inl rfl) _ rfl) ?_
          simp only [Act.put, List.setIfInBounds_toArray, List.set_cons_succ, List.set_cons_zero]
          refine Seq.st rfl rfl (.int .i64 ((k - 2 : Nat) : Int)) (fun w' hC => exec_subI (.tmp 50) (.const (.int .i64 2)) _ _ rfl ((k : Nat) : Int) 2 (((k - 2 : Nat) : Int)) (by have := HLT.out; omega) (by have := HLT.out; omega) (by have := HLT.out; omega) rfl rfl) ?_
          simp only [Act.put, List.setIfInBounds_toArray, List.set_cons_succ, List.set_cons_zero]
          refine Seq.st rfl rfl (.pointer (some ⟨g3, (k - 2), none⟩)) (fun w' hC => exec_indexAt_arr Tryd.a64 (.tmp 3) (.tmp 51) rfl g3 (k - 2) .i64 ((k - 2 : Nat) : Int) rfl (by have := HLT.out; omega) rfl rfl) ?_
          simp only [Act.put, List.setIfInBounds_toArray, List.set_cons_succ, List.set_cons_zero]
          refine Seq.rd rfl rfl (.int .u32 ((x : Nat) : Int)) (exec_cell Tryd.u32 (.tmp 52) rfl g3 ((k - 2)) (.int .u32 ((x : Nat) : Int)) (cell_of_arr (m.get 0 rfl) HX.out) rfl) ?_
          simp only [Act.put, List.setIfInBounds_toArray, List.set_cons_succ, List.set_cons_zero]
          refine Seq.st rfl rfl (.int .i64 ((k : Nat) : Int)) (fun w' hC => exec_move (.tmp 6) (.inl rfl) _ rfl) ?_
          simp only [Act.put, List.setIfInBounds_toArray, List.set_cons_succ, List.set_cons_zero]
          refine Seq.st rfl rfl (.int .i64 ((k - 15 : Nat) : Int)) (fun w' hC => exec_subI (.tmp 54) (.const (.int .i64 15)) _ _ rfl ((k : Nat) : Int) 15 (((k - 15 : Nat) : Int)) (by have := HLT.out; omega) (by have := HLT.out; omega) (by have := HLT.out; omega) rfl rfl) ?_
          simp only [Act.put, List.setIfInBounds_toArray, List.set_cons_succ, List.set_cons_zero]
          refine Seq.st rfl rfl (.pointer (some ⟨g3, (k - 15), none⟩)) (fun w' hC => exec_indexAt_arr Tryd.a64 (.tmp 3) (.tmp 55) rfl g3 (k - 15) .i64 ((k - 15 : Nat) : Int) rfl (by have := HLT.out; omega) rfl rfl) ?_
          simp only [Act.put, List.setIfInBounds_toArray, List.set_cons_succ, List.set_cons_zero]
          refine Seq.rd rfl rfl (.int .u32 ((y : Nat) : Int)) (exec_cell Tryd.u32 (.tmp 56) rfl g3 ((k - 15)) (.int .u32 ((y : Nat) : Int)) (cell_of_arr (m.get 0 rfl) HY.out) rfl) ?_
          simp only [Act.put, List.setIfInBounds_toArray, List.set_cons_succ, List.set_cons_zero]
          refine Seq.st rfl rfl (.int .u32 ((x : Nat) : Int)) (fun w' hC => exec_move (.tmp 53) (.inr rfl) _ rfl) ?_
          simp only [Act.put, List.setIfInBounds_toArray, List.set_cons_succ, List.set_cons_zero]
          refine Seq.st rfl rfl (.int .u32 ((y : Nat) : Int)) (fun w' hC => exec_move (.tmp 57) (.inr rfl) _ rfl) ?_
          simp only [Act.put, List.setIfInBounds_toArray, List.set_cons_succ, List.set_cons_zero]
          refine Seq.fin ?_
          go_wp2_with ((first
            | (go_at_call 37; refine (H17.out _).mono ?_; rintro e w7 ⟨rfl, rfl⟩; clear H17)
            | (go_at_call 37; refine (H19.out _).mono ?_; rintro e w7 ⟨rfl, rfl⟩; clear H19)
            | (refine wpList_val rfl (.int .u32 ((xo (rr 17 x) (rr 19 x) : Nat) : Int)) (exec_xo (.tmp 59) (.tmp 61) _ _ rfl (rr 17 x) (rr 19 x) rfl rfl) ?_)
            | (refine wpList_val rfl (.int .u32 ((rS 10 x : Nat) : Int)) (exec_rS (.tmp 63) (.const (.int .u64 10)) _ _ rfl x 10 .u64 10 rfl (by decide) rfl rfl) ?_)
            | (refine wpList_val rfl (.int .u32 ((xo (xo (rr 17 x) (rr 19 x)) (rS 10 x) : Nat) : Int)) (exec_xo (.tmp 62) (.tmp 64) _ _ rfl (xo (rr 17 x) (rr 19 x)) (rS 10 x) rfl rfl) ?_)
            | (go_at_call 37; refine (H7.out _).mono ?_; rintro e w7 ⟨rfl, rfl⟩; clear H7)
            | (go_at_call 37; refine (H18.out _).mono ?_; rintro e w7 ⟨rfl, rfl⟩; clear H18)
            | (refine wpList_val rfl (.int .u32 ((xo (rr 7 y) (rr 18 y) : Nat) : Int)) (exec_xo (.tmp 67) (.tmp 69) _ _ rfl (rr 7 y) (rr 18 y) rfl rfl) ?_)
            | (refine wpList_val rfl (.int .u32 ((rS 3 y : Nat) : Int)) (exec_rS (.tmp 71) (.const (.int .u64 3)) _ _ rfl y 3 .u64 3 rfl (by decide) rfl rfl) ?_)
            | (refine wpList_val rfl (.int .u32 ((xo (xo (rr 7 y) (rr 18 y)) (rS 3 y) : Nat) : Int)) (exec_xo (.tmp 70) (.tmp 72) _ _ rfl (xo (rr 7 y) (rr 18 y)) (rS 3 y) rfl rfl) ?_)); try simp only [Act.put, List.setIfInBounds_toArray, List.set_cons_succ, List.set_cons_zero])
          replace m := m.gr (Below.drewN' _ _ 1)
          refine Seq.wp_region (fun w' => Below w.heap.size w w') [0, 0, 0, 0, 0, 1, 0, 0, 0, 0, 0, 0, 1, 0, 0, 2] (by kernel_rfl) (by kernel_rfl) (by kernel_rfl) (m.below) ?_
          refine Seq.st rfl rfl (.int .i64 ((k : Nat) : Int)) (fun w' hC => exec_move (.tmp 6) (.inl rfl) _ rfl) ?_
          simp only [Act.put, List.setIfInBounds_toArray, List.set_cons_succ, List.set_cons_zero]
          refine Seq.st rfl rfl (.int .u32 ((xo (xo (rr 17 x) (rr 19 x)) (rS 10 x) : Nat) : Int)) (fun w' hC => exec_move (.tmp 9) (.inl rfl) _ rfl) ?_
          simp only [Act.put, List.setIfInBounds_toArray, List.set_cons_succ, List.set_cons_zero]
          refine Seq.st rfl rfl (.int .i64 ((k : Nat) : Int)) (fun w' hC => exec_move (.tmp 6) (.inl rfl) _ rfl) ?_
          simp only [Act.put, List.setIfInBounds_toArray, List.set_cons_succ, List.set_cons_zero]
          refine Seq.st rfl rfl (.int .i64 ((k - 7 : Nat) : Int)) (fun w' hC => exec_subI (.tmp 76) (.const (.int .i64 7)) _ _ rfl ((k : Nat) : Int) 7 (((k - 7 : Nat) : Int)) (by have := HLT.out; omega) (by have := HLT.out; omega) (by have := HLT.out; omega) rfl rfl) ?_
          simp only [Act.put, List.setIfInBounds_toArray, List.set_cons_succ, List.set_cons_zero]
          refine Seq.st rfl rfl (.pointer (some ⟨g3, (k - 7), none⟩)) (fun w' hC => exec_indexAt_arr Tryd.a64 (.tmp 3) (.tmp 77) rfl g3 (k - 7) .i64 ((k - 7 : Nat) : Int) rfl (by have := HLT.out; omega) rfl rfl) ?_
          simp only [Act.put, List.setIfInBounds_toArray, List.set_cons_succ, List.set_cons_zero]
          refine Seq.rd rfl rfl (.int .u32 ((p : Nat) : Int)) (exec_cell Tryd.u32 (.tmp 78) rfl g3 ((k - 7)) (.int .u32 ((p : Nat) : Int)) (cell_of_arr (m.get 0 rfl) HP.out) rfl) ?_
          simp only [Act.put, List.setIfInBounds_toArray, List.set_cons_succ, List.set_cons_zero]
          refine Seq.st rfl rfl (.int .u32 ((ad (xo (xo (rr 17 x) (rr 19 x)) (rS 10 x)) p : Nat) : Int)) (fun w' hC => exec_ad (.tmp 75) (.tmp 79) _ _ rfl (xo (xo (rr 17 x) (rr 19 x)) (rS 10 x)) p rfl rfl) ?_
          simp only [Act.put, List.setIfInBounds_toArray, List.set_cons_succ, List.set_cons_zero]
          refine Seq.st rfl rfl (.int .u32 ((xo (xo (rr 7 y) (rr 18 y)) (rS 3 y) : Nat) : Int)) (fun w' hC => exec_move (.tmp 10) (.inl rfl) _ rfl) ?_
          simp only [Act.put, List.setIfInBounds_toArray, List.set_cons_succ, List.set_cons_zero]
          refine Seq.st rfl rfl (.int .u32 ((ad (ad (xo (xo (rr 17 x) (rr 19 x)) (rS 10 x)) p) (xo (xo (rr 7 y) (rr 18 y)) (rS 3 y)) : Nat) : Int)) (fun w' hC => exec_ad (.tmp 80) (.tmp 81) _ _ rfl (ad (xo (xo (rr 17 x) (rr 19 x)) (rS 10 x)) p) (xo (xo (rr 7 y) (rr 18 y)) (rS 3 y)) rfl rfl) ?_
          simp only [Act.put, List.setIfInBounds_toArray, List.set_cons_succ, List.set_cons_zero]
          refine Seq.st rfl rfl (.int .i64 ((k : Nat) : Int)) (fun w' hC => exec_move (.tmp 6) (.inl rfl) _ rfl) ?_
          simp only [Act.put, List.setIfInBounds_toArray, List.set_cons_succ, List.set_cons_zero]
          refine Seq.st rfl rfl (.int .i64 ((k - 16 : Nat) : Int)) (fun w' hC => exec_subI (.tmp 83) (.const (.int .i64 16)) _ _ rfl ((k : Nat) : Int) 16 (((k - 16 : Nat) : Int)) (by have := HLT.out; omega) (by have := HLT.out; omega) (by have := HLT.out; omega) rfl rfl) ?_
          simp only [Act.put, List.setIfInBounds_toArray, List.set_cons_succ, List.set_cons_zero]
          refine Seq.st rfl rfl (.pointer (some ⟨g3, (k - 16), none⟩)) (fun w' hC => exec_indexAt_arr Tryd.a64 (.tmp 3) (.tmp 84) rfl g3 (k - 16) .i64 ((k - 16 : Nat) : Int) rfl (by have := HLT.out; omega) rfl rfl) ?_
          simp only [Act.put, List.setIfInBounds_toArray, List.set_cons_succ, List.set_cons_zero]
          refine Seq.rd rfl rfl (.int .u32 ((q : Nat) : Int)) (exec_cell Tryd.u32 (.tmp 85) rfl g3 ((k - 16)) (.int .u32 ((q : Nat) : Int)) (cell_of_arr (m.get 0 rfl) HQ.out) rfl) ?_
          simp only [Act.put, List.setIfInBounds_toArray, List.set_cons_succ, List.set_cons_zero]
          refine Seq.st rfl rfl (.int .u32 ((ad (ad (ad (xo (xo (rr 17 x) (rr 19 x)) (rS 10 x)) p) (xo (xo (rr 7 y) (rr 18 y)) (rS 3 y))) q : Nat) : Int)) (fun w' hC => exec_ad (.tmp 82) (.tmp 86) _ _ rfl (ad (ad (xo (xo (rr 17 x) (rr 19 x)) (rS 10 x)) p) (xo (xo (rr 7 y) (rr 18 y)) (rS 3 y))) q rfl rfl) ?_
          simp only [Act.put, List.setIfInBounds_toArray, List.set_cons_succ, List.set_cons_zero]
          refine Seq.st rfl rfl (.pointer (some ⟨g3, k, none⟩)) (fun w' hC => exec_indexAt_arr Tryd.a64 (.tmp 3) (.tmp 74) rfl g3 k .i64 ((k : Nat) : Int) rfl (by have := HLT.out; omega) rfl rfl) ?_
          simp only [Act.put, List.setIfInBounds_toArray, List.set_cons_succ, List.set_cons_zero]
          refine Seq.ef rfl rfl ?_
          refine wpList_set_mem m rfl 38 (.tmp 88) (.tmp 87) rfl rfl Tryd.one32 0 k (.int .u32 ((ad (ad (ad (sg1 x) p) (sg0 y)) q : Nat) : Int)) (c32 (wz b (k + 1))) (by rw [c32_set, wz_set b k _ HLT.out.2 HW.out]) rfl (by rw [c32_length, HL.out]; exact HLT.out.2) rfl rfl rfl ?_
          clear m
          intro wx9 m
          refine Seq.done (m.below) ?_
          try simp only [Act.put, List.setIfInBounds_toArray, List.set_cons_succ, List.set_cons_zero]
          refine Seq.fin ?_
          go_wp2
          go_roundw
          case rel => exact ⟨k + 1, by have := HLT.out; omega, by have := HLT.out; omega, by go_num, m⟩
          case measure => have := HLT.out; simp [intOf]; omega
        · obtain rfl : k = 64 := by omega
          rw [wz_all] at m
          have hl' : (c32 (ws b 64)).length = 64 := by rw [c32_length, ws_length]
          obtain ⟨L, eL⟩ : ∃ L, ws b 64 = L := ⟨_, rfl⟩
          have HLL : Hid (ws b 64 = L) := eL
          rw [eL] at m hl'
          clear eL
          go_wp2_with ((first
            | (refine wpList_load_mem Tryd.a64 m rfl (.tmp 3) rfl 0 rfl hl' rfl ?_)
            | (refine wpList_store_mem Tryd.a64 m rfl (.tmp 2) (.tmp 89) rfl rfl 1 (c32 L) rfl rfl hl' (c32_one _) rfl rfl ?_; clear m; intro wx9 m)); try simp only [Act.put, List.setIfInBounds_toArray, List.set_cons_succ, List.set_cons_zero])
          refine bodyPost_ret (results_arr Tryd.a64 Tryd.results33 _ wx9 g2 (c32 L) hl' rfl (m.get 1 rfl)) rfl ⟨by rw [HLL.out], m.below⟩
end Go.Proofs.YtkgenageeiaacaaDoor
