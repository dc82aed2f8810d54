/-
  Contracts of package sha's New, fill.
  Conditions: the tables are as the program's text lays them; at most 1,000,000 bytes.
-/
import Derived.Test.YtkgenageeiaacaaDoorS4
namespace Go.Proofs.YtkgenageeiaacaaDoor
open Go.RowKit

section
variable {P : Program} {ρ : Operand → Value} {o : Oper} {w : World} {ops : Array Oper} {rest' : List Oper} {a : Act} {Q : Exit → Act → World → Prop}
/-- append(x[..], y...) where there is room. -/
theorem wpList_append_in {T E : TypeId} (t : BT P T E) (hgd : o.guard = none) (s x : Operand) (ho : o.op = .call { callee := .builtin .append, args := #[s, x], argTypes := #[T, T] })
    (g off sLen sCap B : Nat) (A : TypeId) (cs : List Value) (u : Value) (p : List UInt8) (hs : a.eval s = .slice (some ⟨g, off, none⟩) sLen sCap) (hx : a.eval x = u) (hrd : Rd B w u p) (hp : 0 < p.length) (hroom : sLen + p.length ≤ sCap) (hr : Arr A w g cs) (hfit : off + sLen + p.length ≤ cs.length)
    (h : ∀ w', Arr A w' g (cs.take (off + sLen) ++ cellsOf p ++ cs.drop (off + sLen + p.length)) → But g w w' → wpList P ops Q rest' (a.put o.dst (.slice (some ⟨g, off, none⟩) (sLen + p.length) sCap)) w') : wpList P ops Q (o :: rest') a w := by
  obtain ⟨i0, hi, hz0, hz1, hz2⟩ := info_parts t.info
  obtain ⟨b, ob, cap, rfl, h1, h2, h3⟩ := hrd.at hp
  have hf := run_firstCells_some (P := P) w 1 p.length ⟨b, ob, none⟩ p.length cap (cellsOf p) (by rw [cellsOf_length]; omega) (fun j v hv => by obtain ⟨hj, rfl⟩ := cellsOf_get hv; rw [Addr.add_lit]; exact h3 j hj)
  have hst := run_storeCells_at P g (off + sLen) A (cellsOf p) 0 cs.toArray w hr (by simp [cellsOf_length]; omega) (cellsOf_one p)
  simp only [Nat.add_zero] at hst
  have hrun : (Builtin.append_ #[T, T] o.type #[.slice (some ⟨g, off, none⟩) sLen sCap, .slice (some ⟨b, ob, none⟩) p.length cap]).run P w = .ok (.slice (some ⟨g, off, none⟩) (sLen + p.length) sCap) (w.setRow g (cs.take (off + sLen) ++ cellsOf p ++ cs.drop (off + sLen + p.length)).toArray) := by
    simp [cellsOf_length] at hst
    simp [Builtin.append_, run_underlying t.sl, sizeOf, typeInfo, hi, hz1, Builtin.lenOf, hroom, hf, Addr.add_lit, hst, List.append_assoc]
  refine wpList_plain hgd fun K hK => ?_
  unfold Oper.wp execOp
  simp only [ho, resolve, invoke, builtin, Sem.run_bind, Sem.run_pure, Result.andThen_ok, List.map_toArray, List.map_cons, List.map_nil, hs, hx, hrun]
  exact hK _ _ (h _ (setRow_heap w g _ _ A _ hr) (But.row g w _))
/-- An array is written into a block that it is the beginning of. -/
theorem wpList_store_part {A E : TypeId} {N : Nat} {z : Value} (t : AT P A E N z) (hgd : o.guard = none) (x y : Operand) (ho : o.op = .store A x y) (hd : o.dst = none) (g : Nat) (T : TypeId) (cs ds : List Value) (hds : ds.length = N) (hc : N ≤ cs.length) (h1 : ∀ v ∈ ds, v.oneCell' = true)
    (hx : a.eval x = .pointer (some ⟨g, 0, none⟩)) (hy : a.eval y = .agg ds.toArray) (hr : Arr T w g cs) (h : ∀ w', Arr T w' g (ds ++ cs.drop N) → But g w w' → wpList P ops Q rest' a w') : wpList P ops Q (o :: rest') a w := by
  obtain ⟨i, hi, hz, hs⟩ := t.parts
  refine wpList_plain hgd fun K hK => ?_
  have hst := run_storeCells_at P g 0 T ds 0 cs.toArray w hr (by simp [hds]; omega) h1
  have e : (cs.toArray.toList.take (0 + 0) ++ ds ++ cs.toArray.toList.drop (0 + 0 + ds.length)) = ds ++ cs.drop N := by simp [hds]
  rw [e] at hst
  unfold Oper.wp execOp
  simp only [ho, hx, hy, Instr.storeAt, Instr.sureAddr, storeVar, sizeOf, typeInfo, hi, hs, Value.cells, Sem.run_bind, Sem.run_pure, Result.andThen_ok, run_program, List.size_toArray, hds, ne_eq, not_true_eq_false, if_false, hst]
  have hq := hK a (w.setRow g (ds ++ cs.drop N).toArray) (h _ (setRow_heap w g _ _ T _ hr) (But.row g w _))
  simpa [Oper.upon, Act.put, hd] using hq
end
theorem Tryd.one64 : (Tryd.prog.info? 34).map (·.size) = some 1 := by kernel_rfl
theorem Tryd.ab : AT Tryd.prog 45 5 64 (.int .u8 0) := ⟨by kernel_rfl, by kernel_rfl, by kernel_rfl, by kernel_rfl⟩
/-- p[:hi:max] of an array that lies anywhere. -/
theorem exec_slice_arr_hm {P : Program} {A E : TypeId} {N : Nat} {z : Value} (t : AT P A E N z) {ρ : Operand → Value} {o : Oper} {w : World} (x y m : Operand) (ho : o.op = .slice A x none (some y) (some m)) (g off hi mx : Nat) (u v : Int) (hu : u = (hi : Int)) (hv : v = (mx : Int)) (h1 : hi ≤ mx) (h2 : mx ≤ N)
    (hx : ρ x = .pointer (some ⟨g, off, none⟩)) (hy : ρ y = .int .i64 u) (hm : ρ m = .int .i64 v) : (execOp ρ o).run P w = .ok (.value (.slice (some ⟨g, off, none⟩) hi mx)) w := by
  subst hu hv
  obtain ⟨j, hj, _⟩ := t.elem
  have b1 : ∀ e : BoundsCode, (Instr.sliceBound (.int .i64 (mx : Int)) N e).run P w = .ok mx w := fun e => by simp [Instr.sliceBound, asIntOf]; omega
  have b2 : ∀ e : BoundsCode, (Instr.sliceBound (.int .i64 (hi : Int)) mx e).run P w = .ok hi w := fun e => by simp [Instr.sliceBound, asIntOf]; omega
  unfold execOp
  simp [ho, hx, hy, hm, Instr.sliceAt, run_underlying t.ar, Instr.sureAddr, Instr.sliceBounds, b1, b2, sizeOf, typeInfo, hj, Addr.add_lit]
theorem Mem.gx {w0 w w' : World} {L : List Blk} {g : Nat} (m : Mem w0 w L) (h : Gx g w w') (hg : ∀ b ∈ L, b.g ≠ g) : ∀ b ∈ L, Arr b.T w' b.g b.cs := fun b hb => h.arr (m.arr b hb) (hg b hb)

/-- The new rest. -/
def rs (rest : List UInt8) (k : Nat) (p : List UInt8) : List UInt8 := rest.take k ++ p ++ rest.drop (k + p.length)
theorem rs_length (rest : List UInt8) (k : Nat) (p : List UInt8) (h : rest.length = 64) (hk : k + p.length ≤ 64) : (rs rest k p).length = 64 := by simp [rs, h]; omega
theorem rs_take (rest : List UInt8) (k : Nat) (p : List UInt8) (h : rest.length = 64) (hk : k + p.length ≤ 64) : (rs rest k p).take (k + p.length) = rest.take k ++ p := by
  unfold rs
  rw [List.take_append_of_le_length (by simp [h]; omega), List.take_of_length_le (by simp; omega)]

/-- The state behind a piece that ends no block. -/
theorem Hs.less {w : World} {g : Nat} {all p : List UInt8} {nums : List Nat} {rest : List UInt8} (ln : nums.length = 8) (lr : rest.length = 64) (num : 64 ≤ all.length → nums = sofar all) (held : rest.take (all.length % 64) = all.drop (64 * (all.length / 64))) (two : 2 ≤ g)
    (hk : all.length % 64 + p.length < 64) (ha : Arr 47 w g (hc nums (rs rest (all.length % 64) p) (all.length + p.length))) : Hash w g (all ++ p) := by
  refine ⟨nums, rs rest (all.length % 64) p, by rw [List.length_append]; exact ha, ln, rs_length _ _ _ lr (by omega), fun h => ?_, ?_, two⟩
  · rw [sofar_less all p hk]
    exact num (by rw [List.length_append] at h; omega)
  · have e1 : (all ++ p).length % 64 = all.length % 64 + p.length := by rw [List.length_append]; omega
    have e2 : 64 * ((all ++ p).length / 64) = 64 * (all.length / 64) := by rw [List.length_append]; omega
    rw [e1, e2, rs_take _ _ _ lr (by omega), held, List.drop_append_of_le_length (by omega)]
theorem Hs.full {w : World} {g : Nat} {all p : List UInt8} {nums : List Nat} {rest : List UInt8} (lr : rest.length = 64) (held : rest.take (all.length % 64) = all.drop (64 * (all.length / 64))) (two : 2 ≤ g)
    (hk : all.length % 64 + p.length = 64) (hnums : nums = tk (sofar all) ((rs rest (all.length % 64) p))) (ha : Arr 47 w g (hc nums (rs rest (all.length % 64) p) (all.length + p.length))) : Hash w g (all ++ p) := by
  have e : rs rest (all.length % 64) p = all.drop (64 * (all.length / 64)) ++ p := by
    rw [← held, ← rs_take _ _ _ lr (by omega), List.take_of_length_le (by rw [rs_length _ _ _ lr (by omega)]; omega)]
  refine ⟨nums, rs rest (all.length % 64) p, by rw [List.length_append]; exact ha, by rw [hnums, tk_length, sofar_length], rs_length _ _ _ lr (by omega), fun _ => ?_, ?_, two⟩
  · rw [hnums, sofar_block all p hk, e]
  · have e1 : (all ++ p).length % 64 = 0 := by rw [List.length_append]; omega
    have e2 : 64 * ((all ++ p).length / 64) = (all ++ p).length := by rw [List.length_append]; omega
    rw [e1, e2, List.drop_length]; rfl

set_option maxRecDepth 20000 in
set_option maxHeartbeats 2000000 in
theorem fill_any (g B : Nat) (all p : List UInt8) (v : Value) (w : World) (h : Hash w g all) (ht : Tabs w) (hr : Rd B w v p) (ho : Off g v) (hp : 0 < p.length) (hk : all.length % 64 + p.length ≤ 64) (hN : all.length ≤ 1000000) :
    Calls Tryd.prog 26 #[.pointer (some ⟨g, 0, none⟩), v] w fun e w' => e = .returned (.tuple #[]) ∧ Hash w' g (all ++ p) ∧ Gx g w w' := by
  obtain ⟨nums, rest, h⟩ := h
  have HG : Hid (g < w.heap.size) := h.arr.lt
  have HSF : Hid (∀ w', Below w.heap.size w w' → Calls Tryd.prog 27 #[.pointer (some ⟨g, 0, none⟩)] w' fun e w'' => e = .returned (.agg (c32 (sofar all)).toArray) ∧ Below w'.heap.size w' w'') := fun w' hw => soFar_any g all nums rest w' (h.gr hw) (ht.gr hw)
  have HHD : Hid (∀ w', Below w.heap.size w w' → Calls Tryd.prog 25 #[.pointer (some ⟨g, 0, none⟩)] w' fun e w'' => e = .returned (.int .i64 ((all.length % 64 : Nat) : Int)) ∧ w'' = w') := fun w' hw => held_any g all.length w' (h.gr hw).n
  have HRD : Hid (∀ w', Below w.heap.size w w' → Rd w.heap.size w' v p) := fun w' hw => hr.self.below hw
  have HA : Hid (∀ w', Below w.heap.size w w' → Arr 47 w' g (hc nums rest all.length)) := fun w' hw => (h.gr hw).arr
  obtain ⟨k, ek⟩ : ∃ k, all.length % 64 = k := ⟨_, rfl⟩
  have HLS : Hid (k + p.length < 64 → ∀ w', Arr 47 w' g (hc nums (rs rest k p) (all.length + p.length)) → Hash w' g (all ++ p)) := fun hh w' ha => by
    subst ek
    exact Hs.less h.ln h.lr h.num h.held h.two hh ha
  have HFL : Hid (k + p.length = 64 → ∀ w', Arr 47 w' g (hc (tk (sofar all) (rs rest k p)) (rs rest k p) (all.length + p.length)) → Hash w' g (all ++ p)) := fun hh w' ha => by
    subst ek
    exact Hs.full h.lr h.held h.two hh rfl ha
  have HAP : Hid ((hc nums rest all.length).take (8 + k) ++ cellsOf p ++ (hc nums rest all.length).drop (8 + k + p.length) = hc nums (rs rest k p) all.length) := hc_append h.ln h.lr k p (by omega)
  have HL73 : Hid ((hc nums rest all.length).length = 73) := hc_length h.ln h.lr
  have HRL : Hid ((rs rest k p).length = 64) := rs_length _ _ _ h.lr (by omega)
  have HLN : Hid (nums.length = 8) := h.ln
  have HSL : Hid ((c32 (sofar all)).length = 8 ∧ (sofar all).length = 8) := ⟨by rw [c32_length, sofar_length], sofar_length all⟩
  have HT : Hid (Tabs w) := ht
  have H2 : Hid (2 ≤ g) := h.two
  rw [ek] at HHD
  have HPL : Hid (0 < p.length ∧ k + p.length ≤ 64 ∧ all.length ≤ 1000000) := ⟨hp, by omega, hN⟩
  obtain ⟨ao, cap, ev⟩ := hr.len
  subst ev
  clear h ht hr ho hp hk hN ek
  generalize sofar all = SF at *
  generalize all.length = n at *
  obtain ⟨q, eq⟩ : ∃ q, p.length = q := ⟨_, rfl⟩
  rw [eq] at HLS HFL HAP HPL HRD ⊢
  have HQ : Hid (p.length = q) := eq
  have HNN : Hid ((n + q) % 18446744073709551616 = n + q) := by show _ = _; have := HPL.out; omega
  have HCV : Hid (IntKind.u64.wrap ((q : Nat) : Int) = ((q : Nat) : Int)) := by show _ = _; rw [IntKind.wrap_u64]; have := HPL.out; omega
  clear eq
  have m := Mem.start w
  go_enter Tryd.func26, Tryd.ntmps26
  go_wp2_with ((first
    | (go_at_call 27; refine (HSF.out _ m.below).mono ?_; rintro e wx6 ⟨rfl, b6⟩; replace m := m.gr b6; clear b6 HSF)
    | (refine wpList_alloc_mem Tryd.a8 m rfl rfl 4 rfl _ zeros8 ?_; clear m; intro g4 wx4 m)
    | (refine wpList_store_mem Tryd.a8 m rfl (.tmp 4) (.tmp 7) rfl rfl 0 (c32 SF) rfl rfl HSL.out.1 (c32_one _) rfl rfl ?_; clear m; intro wx7 m)); try simp only [Act.put, List.setIfInBounds_toArray, List.set_cons_succ, List.set_cons_zero])
  replace m := m.gr (Below.drewN' _ _ 1)
  have hg4 : g4 ≠ g := by have h1 : w.heap.size ≤ g4 := m.lt 0 rfl; have := HG.out; omega
  refine Seq.wp_region (fun _ => True) [0, 0, 0, 0, 2, 0, 0, 2, 0] (by kernel_rfl) (by kernel_rfl) (by kernel_rfl) (trivial) ?_
  refine Seq.st rfl rfl (.pointer (some ⟨g, 0, none⟩)) (fun w' hC => exec_move (.tmp 0) (.inl rfl) _ rfl) ?_
  simp only [Act.put, List.setIfInBounds_toArray, List.set_cons_succ, List.set_cons_zero]
  refine Seq.st rfl rfl (.pointer (some ⟨g, 0, none⟩)) (fun w' hC => by go_simp) ?_
  simp only [Act.put, List.setIfInBounds_toArray, List.set_cons_succ, List.set_cons_zero]
  refine Seq.st rfl rfl (.pointer (some ⟨g, 8, none⟩)) (fun w' hC => by go_simp) ?_
  simp only [Act.put, List.setIfInBounds_toArray, List.set_cons_succ, List.set_cons_zero]
  refine Seq.st rfl rfl (.pointer (some ⟨g, 0, none⟩)) (fun w' hC => exec_move (.tmp 0) (.inl rfl) _ rfl) ?_
  simp only [Act.put, List.setIfInBounds_toArray, List.set_cons_succ, List.set_cons_zero]
  refine Seq.ef rfl rfl ?_
  refine wpList_callc rfl 25 #[.pointer (some ⟨g, 0, none⟩)] (by go_simp) (HHD.out _ m.below) ?_
  rintro e w7 ⟨rfl, rfl⟩
  clear HHD
  refine Seq.done (trivial) ?_
  try simp only [Act.put, List.setIfInBounds_toArray, List.set_cons_succ, List.set_cons_zero]
  refine Seq.st rfl rfl (.slice (some ⟨g, 8, none⟩) k 64) (fun w' hC => exec_slice_arr_hm Tryd.ab (.tmp 10) (.tmp 12) (.const (.int .i64 64)) rfl g 8 k 64 _ _ rfl rfl (by have := HPL.out; omega) (by decide) rfl rfl rfl) ?_
  simp only [Act.put, List.setIfInBounds_toArray, List.set_cons_succ, List.set_cons_zero]
  refine Seq.st rfl rfl (.slice ao q cap) (fun w' hC => exec_move (.tmp 1) (.inl rfl) _ rfl) ?_
  simp only [Act.put, List.setIfInBounds_toArray, List.set_cons_succ, List.set_cons_zero]
  refine Seq.ef rfl rfl ?_
  refine wpList_append_in Tryd.bt rfl (.tmp 13) (.tmp 14) rfl g 8 k 64 _ 47 (hc nums rest n) _ p rfl rfl (HRD.out _ m.below) (by rw [HQ.out]; exact HPL.out.1) (by rw [HQ.out]; exact HPL.out.2.1) (HA.out _ m.below) (by rw [HL73.out, HQ.out]; have := HPL.out; omega) ?_
  rw [HQ.out, HAP.out]
  intro w8 ha8 b8
  refine Seq.done (trivial) ?_
  try simp only [Act.put, List.setIfInBounds_toArray, List.set_cons_succ, List.set_cons_zero]
  refine Seq.st rfl rfl (.slice (some ⟨g, 8, none⟩) (k + q) 64) (fun w' hC => exec_move (.tmp 15) (.inr rfl) _ rfl) ?_
  simp only [Act.put, List.setIfInBounds_toArray, List.set_cons_succ, List.set_cons_zero]
  refine Seq.fin ?_
  have hx8 : Gx g w w8 := (Gr.gx m.below g).trans b8.gx
  have a4 := (m.get 0 rfl).but b8 hg4
  clear m b8
  have HC : Hid (w8.cell? ⟨g, 72, none⟩ = some (.int .u64 (n : Int))) := cell_of_arr ha8 (hc_n HLN.out HRL.out)
  by_cases hf : k + q = 64
  · have HF : Hid (k + q = 64) := hf
    have hd : (((k + q : Nat) : Int) == 64) = true := by simp; omega
    have HTK : Hid (∀ w', Gx g w w' → Arr 47 w' g (hc nums (rs rest k p) (n + q)) → Calls Tryd.prog 29 #[.agg (c32 SF).toArray, .slice (some ⟨g, 8, none⟩) (k + q) 64] w' fun e w'' => e = .returned (.agg (c32 (tk SF (rs rest k p))).toArray) ∧ Below w'.heap.size w' w'') := fun w' hx ha => by
      rw [hf]
      refine take_any SF HSL.out.2 (g + 1) _ (rs rest k p) w' ?_ HRL.out (hx.tabs H2.out HT.out)
      refine ⟨_, 64, by rw [HRL.out], by rw [HRL.out]; exact Nat.le_refl _, (fun h => by cases h), fun a ha' j u hu => ?_⟩
      obtain rfl := Option.some.inj ha'
      rw [Addr.add_lit]
      exact ⟨cell_of_arr ha (hc_rest HLN.out j u hu), Nat.lt_succ_self _⟩
    obtain ⟨z, ez⟩ : ∃ z, k + q = z := ⟨_, rfl⟩
    rw [ez] at hd HTK ⊢
    have HZ : Hid (k + q = z) := ez
    clear hf ez
    go_wp2_with ((first
      | (refine wpList_val rfl (.int .u64 (n : Int)) (exec_cell Tryd.u64' (.tmp 18) rfl g 72 _ HC.out rfl) ?_)
      | (refine wpList_val rfl (.int .u64 ((q : Nat) : Int)) (exec_conv Tryd.i64 Tryd.u64' (.tmp 21) rfl _ _ HCV.out rfl) ?_)
      | (refine wpList_val rfl (.int .u64 ((n + q : Nat) : Int)) (x_addU (.tmp 19) (.tmp 22) _ _ rfl n q (n + q) HNN.out rfl rfl) ?_)
      | (refine wpList_store_cell rfl _ (.tmp 25) (.tmp 23) rfl rfl Tryd.one64 g 72 (hc nums (rs rest k p) n) (.int .u64 ((n + q : Nat) : Int)) (by rw [hc_length HLN.out HRL.out]; decide) rfl rfl rfl 47 ha8 ?_; rw [hc_setn HLN.out HRL.out]; intro w9 ha9 b9)
      | (refine wpList_load_arr Tryd.a8 rfl (.tmp 4) rfl g4 _ HSL.out.1 rfl (a4.but b9 hg4) ?_)
      | (go_at_call 29; refine (HTK.out _ (hx8.trans b9.gx) ha9).mono ?_; rintro e w10 ⟨rfl, b10⟩; clear HTK)
      | (refine wpList_store_part Tryd.a8 rfl (.tmp 34) (.tmp 32) rfl rfl g 47 (hc nums (rs rest k p) (n + q)) (c32 (tk SF (rs rest k p))) (by rw [c32_length, tk_length]; exact HSL.out.2) (by rw [hc_length HLN.out HRL.out]; decide) (c32_one _) rfl rfl (ha9.gr b10) ?_; rw [hc_setnums HLN.out]; intro w11 ha11 b11)); try simp only [Act.put, List.setIfInBounds_toArray, List.set_cons_succ, List.set_cons_zero])
    refine bodyPost_end (results_none rfl _ _ _) rfl ?_
    exact ⟨rfl, HFL.out HF.out _ ha11, ((hx8.trans b9.gx).trans (Gr.gx b10 g)).trans b11.gx⟩
  · have HF : Hid (k + q < 64) := by show _ < _; have := HPL.out; omega
    have hd : (((k + q : Nat) : Int) == 64) = false := by simp; omega
    obtain ⟨z, ez⟩ : ∃ z, k + q = z := ⟨_, rfl⟩
    rw [ez] at hd ⊢
    clear hf ez
    go_wp2_with ((first
      | (refine wpList_val rfl (.int .u64 (n : Int)) (exec_cell Tryd.u64' (.tmp 18) rfl g 72 _ HC.out rfl) ?_)
      | (refine wpList_val rfl (.int .u64 ((q : Nat) : Int)) (exec_conv Tryd.i64 Tryd.u64' (.tmp 21) rfl _ _ HCV.out rfl) ?_)
      | (refine wpList_val rfl (.int .u64 ((n + q : Nat) : Int)) (x_addU (.tmp 19) (.tmp 22) _ _ rfl n q (n + q) HNN.out rfl rfl) ?_)
      | (refine wpList_store_cell rfl _ (.tmp 25) (.tmp 23) rfl rfl Tryd.one64 g 72 (hc nums (rs rest k p) n) (.int .u64 ((n + q : Nat) : Int)) (by rw [hc_length HLN.out HRL.out]; decide) rfl rfl rfl 47 ha8 ?_; rw [hc_setn HLN.out HRL.out]; intro w9 ha9 b9)); try simp only [Act.put, List.setIfInBounds_toArray, List.set_cons_succ, List.set_cons_zero])
    refine bodyPost_end (results_none rfl _ _ _) rfl ?_
    exact ⟨rfl, HLS.out HF.out _ ha9, hx8.trans b9.gx⟩
end Go.Proofs.YtkgenageeiaacaaDoor
