/-
  Contracts of package sha's New, Hash.Sum, Hash.Write, Sum.
  Conditions: the tables are as the program's text lays them; at most 1,000,000 bytes.
-/
import Derived.Test.YtkgenageeiaacaaDoorS6
namespace Go.Proofs.YtkgenageeiaacaaDoor
open Go.RowKit

theorem zeros32 : List.replicate 32 (Value.int .u8 0) = cellsOf (List.replicate 32 0) := rfl
def slLen : Value → Nat
  | .slice _ n _ => n
  | _ => 0
section
variable {P : Program} {T E : TypeId} {ρ : Operand → Value} {o : Oper} {w : World}
/-- x[:hi] -/
theorem exec_slice_h (hs : P.underlying T = some (.slice E)) (hz : (P.info? E).map (·.size) = some 1) (x y : Operand) (ho : o.op = .slice T x none (some y) none) (ao : Option Addr) (n cap hi : Nat) (u : Int) (hu : u = (hi : Int)) (h2 : hi ≤ cap)
    (hx : ρ x = .slice ao n cap) (hy : ρ y = .int .i64 u) : (execOp ρ o).run P w = .ok (.value (Go.sliced ao 0 hi cap 1)) w := by
  subst hu
  obtain ⟨j, hj, _⟩ := Option.map_eq_some_iff.1 hz
  have b2 : ∀ e : BoundsCode, (Instr.sliceBound (.int .i64 (hi : Int)) cap e).run P w = .ok hi w := fun e => by simp [Instr.sliceBound, asIntOf]; omega
  unfold execOp
  simp [ho, hx, hy, Instr.sliceAt, Instr.slice, run_underlying hs, Instr.sliceBounds, b2, sizeOf, typeInfo, hj, Go.sliced]
/-- x[lo:] -/
theorem exec_slice_l (hs : P.underlying T = some (.slice E)) (hz : (P.info? E).map (·.size) = some 1) (x y : Operand) (ho : o.op = .slice T x (some y) none none) (ao : Option Addr) (n cap lo : Nat) (u : Int) (hu : u = (lo : Int)) (h2 : lo ≤ n)
    (hx : ρ x = .slice ao n cap) (hy : ρ y = .int .i64 u) : (execOp ρ o).run P w = .ok (.value (Go.sliced ao lo n cap 1)) w := by
  subst hu
  obtain ⟨j, hj, hs1⟩ := Option.map_eq_some_iff.1 hz
  have b2 : ∀ e : BoundsCode, (Instr.sliceBound (.int .i64 (lo : Int)) n e).run P w = .ok lo w := fun e => by simp [Instr.sliceBound, asIntOf]; omega
  unfold execOp
  simp [ho, hx, hy, Instr.sliceAt, Instr.slice, run_underlying hs, Instr.sliceBounds, b2, sizeOf, typeInfo, hj, hs1, Go.sliced]
end
/-- *p = y, whole, of a block that a call has made; nothing else turns. -/
theorem wpList_store_memx {P : Program} {A E : TypeId} {N : Nat} {z : Value} (t : AT P A E N z) {w0 w : World} {L : List Blk} {ops : Array Oper} {rest : List Oper} {o : Oper} {a : Act} {Q : Exit → Act → World → Prop} (m : Mem w0 w L) (hgd : o.guard = none) (x y : Operand) (ho : o.op = .store A x y) (hd : o.dst = none) (i : Nat) {g : Nat} {cs : List Value} (ds : List Value) (hi : Blk.at L i ⟨g, A, cs⟩) (hc : cs.length = N) (hds : ds.length = N) (h1 : ∀ v ∈ ds, v.oneCell' = true)
    (hx : a.eval x = .pointer (some ⟨g, 0, none⟩)) (hy : a.eval y = .agg ds.toArray) (h : ∀ w', Mem w0 w' (Blk.put L i ds) → Gx g w w' → wpList P ops Q rest a w') : wpList P ops Q (o :: rest) a w :=
  wpList_store_arr t hgd x y ho hd g cs ds hc hds h1 hx hy (m.get i hi) fun w' h1 h2 => h w' (m.put i hi h2 h1) h2.gx
theorem sliced_len (ao : Option Addr) (lo hi cap : Nat) : ∃ a, Go.sliced ao lo hi cap 1 = .slice a (hi - lo) (cap - lo) := ⟨_, rfl⟩
theorem sliced_off {g : Nat} {ao : Option Addr} {n cap lo hi : Nat} (h : Off g (.slice ao n cap)) : Off g (Go.sliced ao lo hi cap 1) := by
  intro a n' c' e
  simp only [Go.sliced, Value.slice.injEq] at e
  obtain ⟨e, _, _⟩ := e
  split at e
  · exact h a n cap (by rw [e])
  · cases ao with
    | none => simp at e
    | some a0 => simp at e; rw [← e, add_block]; exact h a0 n cap rfl

theorem exec_new {ρ : Operand → Value} {o : Oper} {w : World} (ho : o.op = .build 47 #[]) : (execOp ρ o).run Tryd.prog w = .ok (.value (.agg (hc (List.replicate 8 0) (List.replicate 64 0) 0).toArray)) w := by
  have h : (Instr.build 47 #[]).run Tryd.prog w = .ok (.agg (hc (List.replicate 8 0) (List.replicate 64 0) 0).toArray) w := by kernel_rfl
  unfold execOp
  simp only [ho, List.map_toArray, List.map_nil, Sem.run_bind, Sem.run_pure, Result.andThen_ok, h]
set_option maxHeartbeats 1000000 in
theorem new_any (w : World) (h2 : 2 ≤ w.heap.size) :
    Calls Tryd.prog 17 #[] w fun e w' => ∃ g, e = .returned (.pointer (some ⟨g, 0, none⟩)) ∧ w.heap.size ≤ g ∧ Hash w' g [] ∧ Below w.heap.size w w' := by
  go_enter Tryd.func17, Tryd.ntmps17
  go_wp2_with ((first
    | (refine wpList_val rfl (.agg (hc (List.replicate 8 0) (List.replicate 64 0) 0).toArray) (exec_new rfl) ?_)
    | (refine wpList_box_arr rfl _ (.tmp 1) rfl (hc (List.replicate 8 0) (List.replicate 64 0) 0) rfl ?_; intro g w1 hg ha hb)); try simp only [Act.put, List.setIfInBounds_toArray, List.set_cons_succ, List.set_cons_zero])
  go_ret
  exact ⟨g, rfl, hg, ⟨List.replicate 8 0, List.replicate 64 0, ha, rfl, rfl, fun h => by simp at h, rfl, by omega⟩, hb⟩

/-- Four bytes more. -/
theorem outL_four (n : List Nat) (k x : Nat) (hx : at32 n k = x) : ((((outL n (4 * k)).set (4 * k) (UInt8.ofNat (rS 24 x))).set (4 * k + 1) (UInt8.ofNat (rS 16 x))).set (4 * k + 2) (UInt8.ofNat (rS 8 x))).set (4 * k + 3) (UInt8.ofNat x) = outL n (4 * (k + 1)) := by
  have e : 4 * (k + 1) = 4 * k + 1 + 1 + 1 + 1 := by omega
  have q : ∀ i, i < 4 → outB n (4 * k + i) = UInt8.ofNat (rS (24 - 8 * i) x) := fun i hi => by
    unfold outB
    have h1 : (4 * k + i) % 4 = i := by omega
    have h2 : (4 * k + i) / 4 = k := by omega
    rw [h1, h2, hx]
  have q0 := q 0 (by decide)
  have q1 := q 1 (by decide)
  have q2 := q 2 (by decide)
  have q3 := q 3 (by decide)
  have r0 : rS 0 x = x := by unfold rS; rw [Nat.pow_zero, Nat.div_one]
  simp only [Nat.add_zero, Nat.mul_zero, Nat.sub_zero, Nat.mul_one, Nat.reduceMul, Nat.reduceSub, r0] at q0 q1 q2 q3
  rw [e]
  simp only [outL]
  rw [q0, q1, q2, q3]

set_option maxRecDepth 20000 in
set_option maxHeartbeats 2000000 in
theorem sum_any (g : Nat) (all : List UInt8) (w : World) (h : Hash w g all) (ht : Tabs w) (hN : all.length ≤ 900000) :
    Calls Tryd.prog 19 #[.pointer (some ⟨g, 0, none⟩)] w fun e w' => e = .returned (.agg (cellsOf (hsh all)).toArray) ∧ Below w.heap.size w w' := by
  obtain ⟨nums, rest, h⟩ := h
  have HSF : Hid (∀ w', Below w.heap.size w w' → Calls Tryd.prog 27 #[.pointer (some ⟨g, 0, none⟩)] w' fun e w'' => e = .returned (.agg (c32 (sofar all)).toArray) ∧ Below w'.heap.size w' w'') := fun w' hw => soFar_any g all nums rest w' (h.gr hw) (ht.gr hw)
  obtain ⟨PD, eP⟩ : ∃ P, all.drop (64 * (all.length / 64)) ++ tailL all.length = P := ⟨_, rfl⟩
  have HPA : Hid (∀ w', Below w.heap.size w w' → Calls Tryd.prog 28 #[.pointer (some ⟨g, 0, none⟩)] w' fun e w'' => ∃ v, e = .returned v ∧ Rd w''.heap.size w'' v PD ∧ Nw w'.heap.size v ∧ Below w'.heap.size w' w'') := fun w' hw => by rw [← eP]; exact padded_any g all nums rest w' (h.gr hw) (by omega)
  obtain ⟨K, eK⟩ : ∃ K, (all.length % 64 + (tailL all.length).length) / 64 = K := ⟨_, rfl⟩
  have HPL : Hid (PD.length = 64 * K) := by
    show _ = _
    rw [← eP, ← eK, ← pad_whole, List.length_append, List.length_drop]
    omega
  have HE : Hid (hsh all = outL (ab (sofar all) K PD) 32) := by show _ = _; rw [hsh_eq, eK, eP]
  have HSL : Hid ((c32 (sofar all)).length = 8 ∧ (sofar all).length = 8) := ⟨by rw [c32_length, sofar_length], sofar_length all⟩
  have HT : Hid (Tabs w) := ht
  clear h ht hN eP eK
  rw [HE.out]
  generalize sofar all = SF at *
  clear HE
  have m := Mem.start w
  go_enter Tryd.func19, Tryd.ntmps19
  go_wp2_with ((first
    | (refine wpList_alloc_mem Tryd.ah m rfl rfl 2 rfl _ zeros32 ?_; clear m; intro g2 wx2 m)
    | (go_at_call 27; refine (HSF.out _ m.below).mono ?_; rintro e wx6 ⟨rfl, b6⟩; replace m := m.gr b6; clear b6 HSF)
    | (refine wpList_alloc_mem Tryd.a8 m rfl rfl 3 rfl _ zeros8 ?_; clear m; intro g3 wx4 m)
    | (refine wpList_store_mem Tryd.a8 m rfl (.tmp 3) (.tmp 13) rfl rfl 0 (c32 SF) rfl rfl HSL.out.1 (c32_one _) rfl rfl ?_; clear m; intro wx7 m)
    | (go_at_call 28; refine (HPA.out _ m.below).mono ?_; rintro e wx8 ⟨v8, rfl, hr8, n8, b8⟩; replace n8 : Off g3 v8 := (fun a n c e => by have h1 := n8 a n c e; have h2 : g3 < _ := (m.get (g := g3) 0 rfl).lt; omega); replace m := m.gr b8; clear b8 HPA)); try simp only [Act.put, List.setIfInBounds_toArray, List.set_cons_succ, List.set_cons_zero])
  go_loopw [4] (fun v wr => ∃ j : Nat, j ≤ K ∧ Rd wr.heap.size wr v (PD.drop (64 * j)) ∧ Off g3 v ∧ Mem w wr [⟨g3, 44, c32 (ab SF j PD)⟩, ⟨g2, 24, cellsOf (List.replicate 32 0)⟩]) (fun v _ => slLen v)
  case atStart => exact ⟨0, by omega, by simpa using hr8, n8, m⟩
  case round =>
    clear m hr8 n8
    obtain ⟨j, hj, hr, hoff, m⟩ := hrel
    have HAL : Hid ((c32 (ab SF j PD)).length = 8 ∧ (ab SF j PD).length = 8) := ⟨by rw [c32_length, ab_length]; exact HSL.out.2, by rw [ab_length]; exact HSL.out.2⟩
    by_cases hlt : j < K
    · have hdl : (PD.drop (64 * j)).length = 64 * (K - j) := by rw [List.length_drop, HPL.out]; omega
      have HLT : Hid (j < K) := hlt
      obtain ⟨b0, off, cap, ev, hcap, hbl, hcc⟩ := hr.at (by rw [hdl]; omega)
      subst ev
      have hoff' := hoff
      rw [hdl] at hr hcap ⊢
      obtain ⟨L, eL⟩ : ∃ L, 64 * (K - j) = L := ⟨_, rfl⟩
      rw [eL] at hr hcap ⊢
      have hL : 64 ≤ L := by omega
      have HD : Hid (decide ((L : Int) > 0) = true) := decide_eq_true (by omega)
      have HOF : Hid (Off g3 (.slice (some ⟨b0, off, none⟩) (PD.drop (64 * j)).length cap)) := hoff
      have HRD : Hid (Rd wr.heap.size wr (.slice (some ⟨b0, off, none⟩) L cap) (PD.drop (64 * j))) := hr
      have HLL : Hid ((PD.drop (64 * j)).length = L ∧ 64 ≤ L ∧ L ≤ cap) := ⟨by rw [hdl, eL], hL, hcap⟩
      have HAB : Hid (ab SF (j + 1) PD = tk (ab SF j PD) ((PD.drop (64 * j)).take 64)) := ab_last SF j PD (by rw [HPL.out]; omega)
      have HTK : Hid (∀ w', Gr wr w' → Calls Tryd.prog 29 #[.agg (c32 (ab SF j PD)).toArray, Go.sliced (some ⟨b0, off, none⟩) 0 64 cap 1] w' fun e w'' => e = .returned (.agg (c32 (ab SF (j + 1) PD)).toArray) ∧ Below w'.heap.size w' w'') := fun w' hw => by
        rw [HAB.out]
        have h1 := Rd.sliced (lo := 0) (hi := 64) (HRD.out.grow hw) (by omega) (by rw [HLL.out.1]; exact HLL.out.2.1)
        rw [List.drop_zero] at h1
        exact take_any _ HAL.out.2 _ _ _ w' h1 (by rw [List.length_take, HLL.out.1]; omega) (HT.out.gr (m.below.trans (Below.mono hw m.below.size)))
      have HTL2 : Hid ((c32 (ab SF (j + 1) PD)).length = 8) := by show _ = _; rw [c32_length, ab_length]; exact HSL.out.2
      have HNX : Hid (∀ w', Gr wr w' → Rd w'.heap.size w' (Go.sliced (some ⟨b0, off, none⟩) 64 L cap 1) (PD.drop (64 * (j + 1)))) := fun w' hw => by
        have h1 := Rd.sliced (lo := 64) (hi := L) (HRD.out.grow hw) HLL.out.2.1 (by rw [HLL.out.1]; exact Nat.le_refl _)
        rw [List.take_of_length_le (by rw [HLL.out.1]; exact Nat.le_refl _), List.drop_drop] at h1
        rw [show 64 * (j + 1) = 64 * j + 64 by omega]
        exact h1.self
      have HLEN : Hid (slLen (Go.sliced (some ⟨b0, off, none⟩) 64 L cap 1) < L) := by show L - 64 < L; omega
      generalize hab : ab SF j PD = A0 at *
      generalize hab2 : ab SF (j + 1) PD = A1 at *
      clear hr hdl eL hbl hcc hL hoff hoff'
      go_wp2_with ((first
        | (refine wpList_val rfl (.bool true) (x_gtr (.tmp 17) (.const (.int .i64 0)) _ _ rfl L 0 true HD.out .i64 rfl rfl) ?_)); try simp only [Act.put, List.setIfInBounds_toArray, List.set_cons_succ, List.set_cons_zero])
      replace m := m.gr (Below.drewN' _ _ 1)
      have hgr : Gr wr (wr.drewN 1) := Below.drewN' _ _ 1
      refine Seq.wp_region (fun _ => True) [1, 0, 0, 2, 2] (by kernel_rfl) (by kernel_rfl) (by kernel_rfl) (trivial) ?_
      refine Seq.rd rfl rfl (.agg (c32 A0).toArray) (exec_load_arr Tryd.a8 (.tmp 3) rfl g3 (c32 A0) HAL.out.1 rfl (m.get 0 rfl)) ?_
      simp only [Act.put, List.setIfInBounds_toArray, List.set_cons_succ, List.set_cons_zero]
      refine Seq.st rfl rfl (.slice (some ⟨b0, off, none⟩) L cap) (fun w' hC => exec_move (.tmp 4) (.inl rfl) _ rfl) ?_
      simp only [Act.put, List.setIfInBounds_toArray, List.set_cons_succ, List.set_cons_zero]
      refine Seq.st rfl rfl (Go.sliced (some ⟨b0, off, none⟩) 0 64 cap 1) (fun w' hC => exec_slice_h Tryd.bs Tryd.one8 (.tmp 22) (.const (.int .i64 64)) rfl (some ⟨b0, off, none⟩) L cap 64 _ rfl (by have := HLL.out; omega) rfl rfl) ?_
      simp only [Act.put, List.setIfInBounds_toArray, List.set_cons_succ, List.set_cons_zero]
      refine Seq.ef rfl rfl ?_
      refine wpList_callc rfl 29 #[.agg (c32 A0).toArray, Go.sliced (some ⟨b0, off, none⟩) 0 64 cap 1] (by go_simp) (HTK.out _ hgr) ?_
      rintro e w7 ⟨rfl, b7⟩
      replace m := m.gr b7
      replace hgr := Gr.trans hgr b7
      clear HTK b7
      refine Seq.done (trivial) ?_
      try simp only [Act.put, List.setIfInBounds_toArray, List.set_cons_succ, List.set_cons_zero]
      refine Seq.ef rfl rfl ?_
      refine wpList_store_memx Tryd.a8 m rfl (.tmp 3) (.tmp 24) rfl rfl 0 (c32 A1) rfl HAL.out.1 HTL2.out (c32_one _) rfl rfl ?_
      clear m
      intro w8 m hx8
      refine Seq.done (trivial) ?_
      try simp only [Act.put, List.setIfInBounds_toArray, List.set_cons_succ, List.set_cons_zero]
      refine Seq.fin ?_
      have hn8 : Rd w8.heap.size w8 (Go.sliced (some ⟨b0, off, none⟩) 64 L cap 1) (PD.drop (64 * (j + 1))) := by
        have h1 := hx8.rd (HNX.out _ hgr) (sliced_off HOF.out)
        exact h1.self
      go_wp2_with ((first
        | (refine wpList_val rfl (Go.sliced (some ⟨b0, off, none⟩) 64 L cap 1) (exec_slice_l Tryd.bs Tryd.one8 (.tmp 19) (.const (.int .i64 64)) rfl (some ⟨b0, off, none⟩) L cap 64 _ rfl HLL.out.2.1 rfl rfl) ?_)); try simp only [Act.put, List.setIfInBounds_toArray, List.set_cons_succ, List.set_cons_zero])
      go_roundw
      case rel => exact ⟨j + 1, HLT.out, hn8, sliced_off HOF.out, by rw [hab2]; exact m⟩
      case measure => exact HLEN.out
    · obtain rfl : j = K := by omega
      have hdl : (PD.drop (64 * j)).length = 0 := by rw [List.length_drop, HPL.out]; omega
      obtain ⟨ao, cap, ev⟩ := hr.len
      rw [hdl] at ev
      subst ev
      have HD : Hid (decide (((0 : Nat) : Int) > 0) = false) := by show _ = _; decide
      have HNL : Hid ((ab SF j PD).length = 8) := HAL.out.2
      have HCL : Hid ((c32 (ab SF j PD)).length = 8) := HAL.out.1
      obtain ⟨N, eN⟩ : ∃ N, ab SF j PD = N := ⟨_, rfl⟩
      have HEN : Hid (ab SF j PD = N) := eN
      rw [eN] at m HNL HCL
      clear eN
      clear hr hdl hoff HAL hj hlt
      go_wp2_with ((first
        | (refine wpList_val rfl (.bool false) (x_gtr (.tmp 17) (.const (.int .i64 0)) _ _ rfl (0 : Nat) 0 false HD.out .i64 rfl rfl) ?_)
        | (refine wpList_alloc_mem Tryd.ah m rfl rfl 5 rfl _ zeros32 ?_; clear m; intro g5 wx5 m)
        | (refine wpList_load_mem Tryd.a8 m rfl (.tmp 3) rfl 1 rfl HCL.out rfl ?_)); try simp only [Act.put, List.setIfInBounds_toArray, List.set_cons_succ, List.set_cons_zero])
      go_loopw [26] (fun i wr => ∃ k : Nat, k ≤ 8 ∧ i = .int .i64 (k : Int) ∧ Mem w wr [⟨g5, 24, cellsOf (outL N (4 * k))⟩, ⟨g3, 44, c32 N⟩, ⟨g2, 24, cellsOf (List.replicate 32 0)⟩]) (fun i _ => 8 - (intOf i).toNat)
      case atStart => exact ⟨0, by omega, rfl, m⟩
      case round =>
        clear m
        obtain ⟨k, hk, rfl, m⟩ := hrel
        by_cases hlt : k < 8
        · obtain ⟨x, ex⟩ : ∃ x, at32 N k = x := ⟨_, rfl⟩
          have HX : Hid ((c32 N)[k]? = some (.int .u32 ((x : Nat) : Int))) := by show _ = _; rw [c32_get (by rw [HNL.out]; exact hlt), ex]
          have HO4 := outL_four N k x ex
          obtain ⟨B0, eB0⟩ : ∃ B, outL N (4 * k) = B := ⟨_, rfl⟩
          have hB0 : B0.length = 32 := eB0 ▸ outL_length N _
          rw [eB0] at m HO4
          obtain ⟨B4, eB4⟩ : ∃ B, outL N (4 * (k + 1)) = B := ⟨_, rfl⟩
          rw [eB4] at HO4
          have HB4 : Hid (outL N (4 * (k + 1)) = B4) := eB4
          obtain ⟨B1, eB1⟩ : ∃ B, B0.set (4 * k) (UInt8.ofNat (rS 24 x)) = B := ⟨_, rfl⟩
          have hB1 : B1.length = 32 := by rw [← eB1, List.length_set]; exact hB0
          rw [eB1] at HO4
          obtain ⟨B2, eB2⟩ : ∃ B, B1.set (4 * k + 1) (UInt8.ofNat (rS 16 x)) = B := ⟨_, rfl⟩
          have hB2 : B2.length = 32 := by rw [← eB2, List.length_set]; exact hB1
          rw [eB2] at HO4
          obtain ⟨B3, eB3⟩ : ∃ B, B2.set (4 * k + 2) (UInt8.ofNat (rS 8 x)) = B := ⟨_, rfl⟩
          have hB3 : B3.length = 32 := by rw [← eB3, List.length_set]; exact hB2
          rw [eB3] at HO4
          obtain ⟨p0, ep0⟩ : ∃ p, 4 * k = p := ⟨_, rfl⟩
          obtain ⟨p1, ep1⟩ : ∃ p, 4 * k + 1 = p := ⟨_, rfl⟩
          obtain ⟨p2, ep2⟩ : ∃ p, 4 * k + 2 = p := ⟨_, rfl⟩
          obtain ⟨p3, ep3⟩ : ∃ p, 4 * k + 3 = p := ⟨_, rfl⟩
          have HS0 : Hid ((cellsOf B0).set p0 (.int .u8 ((UInt8.ofNat (rS 24 x)).toNat : Int)) = cellsOf B1) := by show _ = _; rw [cellsOf_set, ← ep0, eB1]
          have HL0 : Hid (p0 < (cellsOf B0).length ∧ p0 < 32) := ⟨by rw [cellsOf_length, hB0]; omega, by omega⟩
          have HS1 : Hid ((cellsOf B1).set p1 (.int .u8 ((UInt8.ofNat (rS 16 x)).toNat : Int)) = cellsOf B2) := by show _ = _; rw [cellsOf_set, ← ep1, eB2]
          have HL1 : Hid (p1 < (cellsOf B1).length ∧ p1 < 32) := ⟨by rw [cellsOf_length, hB1]; omega, by omega⟩
          have HS2 : Hid ((cellsOf B2).set p2 (.int .u8 ((UInt8.ofNat (rS 8 x)).toNat : Int)) = cellsOf B3) := by show _ = _; rw [cellsOf_set, ← ep2, eB3]
          have HL2 : Hid (p2 < (cellsOf B2).length ∧ p2 < 32) := ⟨by rw [cellsOf_length, hB2]; omega, by omega⟩
          have HS3 : Hid ((cellsOf B3).set p3 (.int .u8 ((UInt8.ofNat x).toNat : Int)) = cellsOf B4) := by show _ = _; rw [cellsOf_set, ← ep3, HO4]
          have HL3 : Hid (p3 < (cellsOf B3).length ∧ p3 < 32) := ⟨by rw [cellsOf_length, hB3]; omega, by omega⟩
          have HM0 : Hid ((4 : Int) * (k : Int) = (p0 : Int) ∧ -9223372036854775808 ≤ (p0 : Int) ∧ (p0 : Int) < 9223372036854775808) := ⟨by omega, by omega, by omega⟩
          have HM1 : Hid ((p0 : Int) + 1 = (p1 : Int) ∧ -9223372036854775808 ≤ (p1 : Int) ∧ (p1 : Int) < 9223372036854775808) := ⟨by omega, by omega, by omega⟩
          have HM2 : Hid ((p0 : Int) + 2 = (p2 : Int) ∧ -9223372036854775808 ≤ (p2 : Int) ∧ (p2 : Int) < 9223372036854775808) := ⟨by omega, by omega, by omega⟩
          have HM3 : Hid ((p0 : Int) + 3 = (p3 : Int) ∧ -9223372036854775808 ≤ (p3 : Int) ∧ (p3 : Int) < 9223372036854775808) := ⟨by omega, by omega, by omega⟩
          have HLT : Hid (k < 8) := hlt
          clear ex HO4 eB0 eB4 eB1 eB2 eB3 hB0 hB1 hB2 hB3 ep0 ep1 ep2 ep3
          go_wp2_with ((first
            | (refine wpList_val rfl (.int .u32 ((x : Nat) : Int)) (exec_index_arr Tryd.a8 (.tmp 25) (.tmp 26) rfl (c32 N) k .i64 _ HCL.out HX.out _ rfl rfl rfl) ?_)
            | (refine wpList_val rfl (.int .i64 (p0 : Int)) (x_mulI (.const (.int .i64 4)) (.tmp 30) _ _ rfl 4 k p0 HM0.out.1 HM0.out.2.1 HM0.out.2.2 rfl rfl) ?_)
            | (refine wpList_val rfl (.int .i64 (p0 : Int)) (x_mulI (.const (.int .i64 4)) (.tmp 32) _ _ rfl 4 k p0 HM0.out.1 HM0.out.2.1 HM0.out.2.2 rfl rfl) ?_)
            | (refine wpList_val rfl (.int .i64 (p0 : Int)) (x_mulI (.const (.int .i64 4)) (.tmp 35) _ _ rfl 4 k p0 HM0.out.1 HM0.out.2.1 HM0.out.2.2 rfl rfl) ?_)
            | (refine wpList_val rfl (.int .i64 (p0 : Int)) (x_mulI (.const (.int .i64 4)) (.tmp 38) _ _ rfl 4 k p0 HM0.out.1 HM0.out.2.1 HM0.out.2.2 rfl rfl) ?_)
            | (refine wpList_val rfl (.int .i64 (p1 : Int)) (x_addI (.tmp 33) (.const (.int .i64 1)) _ _ rfl p0 1 p1 HM1.out.1 HM1.out.2.1 HM1.out.2.2 rfl rfl) ?_)
            | (refine wpList_val rfl (.int .i64 (p2 : Int)) (x_addI (.tmp 36) (.const (.int .i64 2)) _ _ rfl p0 2 p2 HM2.out.1 HM2.out.2.1 HM2.out.2.2 rfl rfl) ?_)
            | (refine wpList_val rfl (.int .i64 (p3 : Int)) (x_addI (.tmp 39) (.const (.int .i64 3)) _ _ rfl p0 3 p3 HM3.out.1 HM3.out.2.1 HM3.out.2.2 rfl rfl) ?_)
            | (refine wpList_val rfl (.int .u32 ((rS 24 x : Nat) : Int)) (exec_rS (.tmp 41) (.const (.int .u64 24)) _ _ rfl x 24 .u64 24 rfl (by decide) rfl rfl) ?_)
            | (refine wpList_val rfl (.int .u32 ((rS 16 x : Nat) : Int)) (exec_rS (.tmp 44) (.const (.int .u64 16)) _ _ rfl x 16 .u64 16 rfl (by decide) rfl rfl) ?_)
            | (refine wpList_val rfl (.int .u32 ((rS 8 x : Nat) : Int)) (exec_rS (.tmp 47) (.const (.int .u64 8)) _ _ rfl x 8 .u64 8 rfl (by decide) rfl rfl) ?_)
            | (refine wpList_val rfl (.int .u8 ((UInt8.ofNat (rS 24 x)).toNat : Int)) (exec_conv Tryd.u32 Tryd.u8 (.tmp 42) rfl (((rS 24 x : Nat)) : Int) _ (wrapU8 (rS 24 x)) rfl) ?_)
            | (refine wpList_val rfl (.int .u8 ((UInt8.ofNat (rS 16 x)).toNat : Int)) (exec_conv Tryd.u32 Tryd.u8 (.tmp 45) rfl (((rS 16 x : Nat)) : Int) _ (wrapU8 (rS 16 x)) rfl) ?_)
            | (refine wpList_val rfl (.int .u8 ((UInt8.ofNat (rS 8 x)).toNat : Int)) (exec_conv Tryd.u32 Tryd.u8 (.tmp 48) rfl (((rS 8 x : Nat)) : Int) _ (wrapU8 (rS 8 x)) rfl) ?_)
            | (refine wpList_val rfl (.int .u8 ((UInt8.ofNat x).toNat : Int)) (exec_conv Tryd.u32 Tryd.u8 (.tmp 50) rfl (((x : Nat)) : Int) _ (wrapU8 (x)) rfl) ?_)
            | (refine wpList_indexAt_arr Tryd.ah rfl (.tmp 5) (.tmp 31) rfl g5 p0 .i64 p0 rfl HL0.out.2 rfl rfl ?_)
            | (refine wpList_set_mem m rfl 5 (.tmp 52) (.tmp 43) rfl rfl Tryd.one8 0 p0 (.int .u8 ((UInt8.ofNat (rS 24 x)).toNat : Int)) (cellsOf B1) HS0.out rfl HL0.out.1 rfl rfl rfl ?_; clear m; intro wy0 m)
            | (refine wpList_indexAt_arr Tryd.ah rfl (.tmp 5) (.tmp 34) rfl g5 p1 .i64 p1 rfl HL1.out.2 rfl rfl ?_)
            | (refine wpList_set_mem m rfl 5 (.tmp 53) (.tmp 46) rfl rfl Tryd.one8 0 p1 (.int .u8 ((UInt8.ofNat (rS 16 x)).toNat : Int)) (cellsOf B2) HS1.out rfl HL1.out.1 rfl rfl rfl ?_; clear m; intro wy1 m)
            | (refine wpList_indexAt_arr Tryd.ah rfl (.tmp 5) (.tmp 37) rfl g5 p2 .i64 p2 rfl HL2.out.2 rfl rfl ?_)
            | (refine wpList_set_mem m rfl 5 (.tmp 54) (.tmp 49) rfl rfl Tryd.one8 0 p2 (.int .u8 ((UInt8.ofNat (rS 8 x)).toNat : Int)) (cellsOf B3) HS2.out rfl HL2.out.1 rfl rfl rfl ?_; clear m; intro wy2 m)
            | (refine wpList_indexAt_arr Tryd.ah rfl (.tmp 5) (.tmp 40) rfl g5 p3 .i64 p3 rfl HL3.out.2 rfl rfl ?_)
            | (refine wpList_set_mem m rfl 5 (.tmp 55) (.tmp 51) rfl rfl Tryd.one8 0 p3 (.int .u8 ((UInt8.ofNat x).toNat : Int)) (cellsOf B4) HS3.out rfl HL3.out.1 rfl rfl rfl ?_; clear m; intro wy3 m)); try simp only [Act.put, List.setIfInBounds_toArray, List.set_cons_succ, List.set_cons_zero])
          go_roundw
          case rel => exact ⟨k + 1, by have := HLT.out; omega, by go_num, by rw [HB4.out]; exact m⟩
          case measure => have := HLT.out; simp [intOf]; omega
        · obtain rfl : k = 8 := by omega
          have hl' : (cellsOf (outL N 32)).length = 32 := by rw [cellsOf_length, outL_length]
          have m' : Mem w wr [⟨g5, 24, cellsOf (outL N 32)⟩, ⟨g3, 44, c32 N⟩, ⟨g2, 24, cellsOf (List.replicate 32 0)⟩] := m
          clear m
          obtain ⟨OB, eO⟩ : ∃ B, outL N 32 = B := ⟨_, rfl⟩
          have HOB : Hid (outL N 32 = OB) := eO
          rw [eO] at m' hl'
          clear eO
          go_wp2_with ((first
            | (refine wpList_load_mem Tryd.ah m' rfl (.tmp 5) rfl 0 rfl hl' rfl ?_)
            | (refine wpList_store_mem Tryd.ah m' rfl (.tmp 2) (.tmp 57) rfl rfl 2 (cellsOf OB) rfl rfl hl' (cellsOf_one _) rfl rfl ?_; clear m'; intro wx9 m')); try simp only [Act.put, List.setIfInBounds_toArray, List.set_cons_succ, List.set_cons_zero])
          refine bodyPost_ret (results_arr Tryd.ah Tryd.results19 _ wx9 g2 (cellsOf OB) hl' rfl (m'.get 2 rfl)) rfl ⟨by rw [HEN.out, HOB.out], m'.below⟩
end Go.Proofs.YtkgenageeiaacaaDoor
