/-
  Contracts of the document's Product and Mul.
  Conditions: numbers below 2^256.
-/
import Derived.Test.YtpfoeeiacfadfaaV16
namespace Go.Proofs.Ytpfoeeiacfadfaa
open Go.RowKit

/-- make([]uint64, n) -/
theorem wpList_make_u64 {P : Program} {T E : TypeId} (t : WT P T E) {w : World} {ops : Array Oper} {rest : List Oper} {o : Oper} {a : Act} {Q : Exit → Act → World → Prop} (hgd : o.guard = none) (s c : Operand)
    (ho : o.op = Op.makeSlice T s c) (kl kc : IntKind) (n : Nat) (hs : a.eval s = .int kl (n : Int)) (hc : a.eval c = .int kc (n : Int)) (h0 : 0 < n) (h1 : n ≤ 1099511627776)
    (h : ∀ g junk w', w.heap.size ≤ g → Arr E w' g (c64 (List.replicate n 0) ++ junk) → Below w.heap.size w w' → wpList P ops Q rest (a.put o.dst (.slice (some ⟨g, 0, none⟩) n n)) w') : wpList P ops Q (o :: rest) a w := by
  obtain ⟨i0, hi, hz0, hz1, hz2⟩ := info_parts t.info
  refine wpList_make_full w hgd s c T ho w.heap.size E i0 (.int .u64 0) 1 t.sl hi hz0 hz1 kl kc _ _ n hs hc rfl rfl (by rw [hz2]; omega) (by unfold maxLen; omega) (Nat.le_refl _) fun w' h2 h3 => ?_
  have e : (madeCells (Value.int IntKind.u64 0).cells (n * 1)).toList = c64 (List.replicate n 0) := by
    rw [Nat.mul_one]
    show (madeCells #[Value.int IntKind.u64 0] n).toList = _
    rw [toList_madeCells_one]
    simp [c64]
  rw [e] at h2
  have h2' : Ow E w.heap.size w' (.slice (some ⟨w.heap.size, 0, none⟩) n n) (List.replicate n 0) := by unfold Ow; rw [List.length_replicate]; exact h2
  obtain ⟨g, cap, junk, eg, hg, ha⟩ := h2'.shape (fun e => by have := congrArg List.length e; rw [List.length_replicate] at this; simp at this; omega)
  simp only [Value.slice.injEq, Option.some.injEq, Addr.mk.injEq, and_true] at eg
  obtain ⟨rfl, _, _⟩ := eg
  exact h _ junk w' (Nat.le_refl _) ha ((Below.refl w.heap.size w).grown h3 (Nat.le_refl _) fun k hk => by cases hk)
theorem nd_zeros (n : Nat) : nd (List.replicate n 0) = 0 := by
  induction n with
  | zero => rfl
  | succ n ih => simp [List.replicate_succ, nd, ih]
theorem gw_zeros (n j : Nat) : gw (List.replicate n 0) j = 0 := by
  by_cases h : j < n
  · simp [gw, List.getD, h]
  · simp [gw, List.getD, h]
theorem gw_set_ne (l : List Nat) (i j v : Nat) (h : j ≠ i) : gw (l.set i v) j = gw l j := by
  simp [gw, List.getD, Ne.symm h]
theorem cell_but {w w' : World} {g k j : Nat} (hb : But g w w') (hk : k ≠ g) : w'.cell? ⟨k, j, none⟩ = w.cell? ⟨k, j, none⟩ := by
  unfold World.cell?; rw [hb.block k hk]
/-- The digits of a product. -/
def NewP (B n : Nat) (v : Value) (w : World) : Prop := ∃ g cap junk d, v = .slice (some ⟨g, 0, none⟩) 32 cap ∧ B ≤ g ∧ Arr 22 w g (c64 d ++ junk) ∧ d.length = 32 ∧ (∀ x ∈ d, x < 65536) ∧ nd d = n
theorem prod_bound (x y c d : Nat) (hx : x < 65536) (hy : y < 65536) (hc : c < 65536) (hd : d < 65536) : x * y < 4294967296 ∧ c + d + x * y < 4294967296 := by
  have := Nat.mul_le_mul (show x ≤ 65535 by omega) (show y ≤ 65535 by omega)
  omega
theorem row_step (A b x pi Yk y pk : Nat) : A * b + x * pi * Yk + x * y * (pi * pk) = A * b + x * pi * (Yk + y * pk) := by
  rw [Nat.mul_add, Nat.add_assoc]; congr 2
  simp only [Nat.mul_left_comm, Nat.mul_comm]
theorem row_end (A b x pi : Nat) : A * b + x * pi * b = (A + x * pi) * b := by rw [Nat.add_mul]

set_option maxRecDepth 20000 in
set_option maxHeartbeats 8000000 in
theorem product_any (a b : Nat) (ha : a < M) (hb : b < M) (w : World) :
    Calls Try.prog 72 #[wv a, wv b] w fun e w' => ∃ v, e = .returned v ∧ NewP w.heap.size (a * b) v w' ∧ Below w.heap.size w w' := by
  have HA : Hid (a < M) := ha
  have HB : Hid (b < M) := hb
  have HD1 : Hid (∀ w, Calls Try.prog 81 #[wv a] w fun e w' => ∃ v, e = .returned v ∧ NewD w.heap.size 16 (dgP a 16) v w' ∧ Below w.heap.size w w') := digits_any a ha
  have HD2 : Hid (∀ w, Calls Try.prog 81 #[wv b] w fun e w' => ∃ v, e = .returned v ∧ NewD w.heap.size 16 (dgP b 16) v w' ∧ Below w.heap.size w w') := digits_any b hb
  clear ha hb
  have m := Mem.start w
  go_enter Try.func72, Try.ntmps72
  go_wp2_with ((first
    | (refine W.box m rfl (.tmp 0) rfl a rfl ?_; clear m; intro g2 wx2 m)
    | (refine W.box m rfl (.tmp 1) rfl b rfl ?_; clear m; intro g3 wx3 m)); try simp only [Act.put, List.setIfInBounds_toArray, List.set_cons_succ, List.set_cons_zero])
  have F := G_fit wx3 (DgK wx3.heap.size a b) DgK.keep
  refine Mild2.wp_region F (by kernel_rfl) (by kernel_rfl) (gr_draw _) ?_
  refine Mild2.step_known F rfl rfl (wv a) (fun w0 hC _ => W.xload m hC (.tmp 2) rfl 1 rfl rfl) ?_
  simp only [Act.put, List.setIfInBounds_toArray, List.set_cons_succ, List.set_cons_zero]
  refine Mild2.step_call rfl 81 #[wv a] (fun w => by go_simp) (NewD wx3.heap.size 16 (dgP a 16)) (fun v w w' hg h => h.gr hg) (fun w0 hC _ => (HD1.out w0).mono fun e w' ⟨v, h1, h2, h3⟩ => ⟨v, h1, h3, DgK.at1 HA.out HB.out _ (h2.mono hC.size)⟩) (fun v w' _ h => h.1 rfl) ?_
  intro v1 hv1
  obtain ⟨_, _, gx, capx, _, rfl, hgx, _⟩ := hv1 (by simp)
  simp only [Act.put, List.setIfInBounds_toArray, List.set_cons_succ, List.set_cons_zero]
  refine Mild2.step_known F rfl rfl (wv b) (fun w0 hC _ => W.xload m hC (.tmp 3) rfl 0 rfl rfl) ?_
  simp only [Act.put, List.setIfInBounds_toArray, List.set_cons_succ, List.set_cons_zero]
  refine Mild2.step_call rfl 81 #[wv b] (fun w => by go_simp) (NewD wx3.heap.size 16 (dgP b 16)) (fun v w w' hg h => h.gr hg) (fun w0 hC _ => (HD2.out w0).mono fun e w' ⟨v, h1, h2, h3⟩ => ⟨v, h1, h3, DgK.at2 HA.out HB.out _ (h2.mono hC.size)⟩) (fun v w' _ h => h.2 rfl) ?_
  intro v2 hv2
  obtain ⟨_, _, gy, capy, _, rfl, hgy, _⟩ := hv2 (by simp)
  simp only [Act.put, List.setIfInBounds_toArray, List.set_cons_succ, List.set_cons_zero]
  iterate 2 (refine Mild2.step_quiet F rfl rfl rfl (fun w0 hC hF K hK => ?_); clear hF; go_big_quiet_op; refine hK _ ?_; clear hK K hC; clear w0)
  intro w8 hw8 hf8
  obtain ⟨gx', capx', jx, ex, _, hx⟩ := (hf8 (some 12)).1.2 rfl
  simp only [Value.slice.injEq, Option.some.injEq, Addr.mk.injEq, and_true, true_and] at ex
  obtain ⟨rfl, rfl⟩ := ex
  obtain ⟨gy', capy', jy, ey, _, hy⟩ := (hf8 (some 14)).2 rfl
  simp only [Value.slice.injEq, Option.some.injEq, Addr.mk.injEq, and_true, true_and] at ey
  obtain ⟨rfl, rfl⟩ := ey
  replace m := m.gr hw8
  clear hf8 hw8 F hv1 hv2
  have HX0 : Hid (∀ j, j < 16 → w8.cell? ⟨gx, j, none⟩ = some (.int .u64 (gw (dgP a 16) j : Nat))) := fun j hj => row_cell hx (by rw [dgP_length]; exact hj)
  have HY0 : Hid (∀ j, j < 16 → w8.cell? ⟨gy, j, none⟩ = some (.int .u64 (gw (dgP b 16) j : Nat))) := fun j hj => row_cell hy (by rw [dgP_length]; exact hj)
  have lx := hx.lt
  have ly := hy.lt
  clear hx hy hgx hgy
  go_wp2_with ((first
    | (refine wpList_make_u64 Try.ws rfl (.const (.int .i64 32)) (.const (.int .i64 32)) rfl .i64 .i64 32 rfl rfl (by decide) (by decide) ?_; intro gd jd wd hgd had bd)); try simp only [Act.put, List.setIfInBounds_toArray, List.set_cons_succ, List.set_cons_zero])
  have hxd : gx ≠ gd := by omega
  have hyd : gy ≠ gd := by omega
  have HXd : Hid (∀ j, j < 16 → wd.cell? ⟨gx, j, none⟩ = some (.int .u64 (gw (dgP a 16) j : Nat))) := fun j hj => cell_gr (HX0.out j hj) bd
  have HYd : Hid (∀ j, j < 16 → wd.cell? ⟨gy, j, none⟩ = some (.int .u64 (gw (dgP b 16) j : Nat))) := fun j hj => cell_gr (HY0.out j hj) bd
  have HG : Hid (w.heap.size ≤ gd) := Nat.le_trans (Nat.le_trans m.size (Nat.le_refl _)) hgd
  replace m := m.adopt bd hgd had
  clear had bd hgd lx ly HX0 HY0
  go_loopw [8] (fun iv wr => ∃ (i : Nat) (d : List Nat), i ≤ 16 ∧ iv = .int .i64 (i : Int) ∧ d.length = 32 ∧ (∀ x ∈ d, x < 65536) ∧ nd d = nd ((dgP a 16).take i) * b ∧ (∀ j, i + 16 ≤ j → j < 32 → gw d j = 0) ∧ (∀ j, j < 16 → wr.cell? ⟨gx, j, none⟩ = some (.int .u64 (gw (dgP a 16) j : Nat))) ∧ (∀ j, j < 16 → wr.cell? ⟨gy, j, none⟩ = some (.int .u64 (gw (dgP b 16) j : Nat))) ∧ Mem w wr [⟨gd, 22, c64 d ++ jd⟩, ⟨g3, 24, c64 (w4 b)⟩, ⟨g2, 24, c64 (w4 a)⟩]) (fun iv _ => 16 - (intOf iv).toNat)
  case atStart => exact ⟨0, List.replicate 32 0, by omega, rfl, List.length_replicate, fun x hx => by rw [List.eq_of_mem_replicate hx]; decide, by rw [nd_zeros]; simp [nd], fun j _ _ => gw_zeros 32 j, HXd.out, HYd.out, m⟩
  case round =>
    clear m HD1 HD2 HXd HYd
    obtain ⟨i, d, hi, rfl, hlen, hdl, hinv, hzero, hxc, hyc, m⟩ := hrel
    by_cases hlt : i < 16
    · obtain ⟨x, ex⟩ : ∃ x, gw (dgP a 16) i = x := ⟨_, rfl⟩
      have hxl : x < 65536 := ex ▸ gw_lt16 (dgP_lt a 16) i
      have htx := nd_take (dgP a 16) i (by rw [dgP_length]; exact hlt)
      rw [ex] at htx
      obtain ⟨A, eA⟩ : ∃ A, nd ((dgP a 16).take i) = A := ⟨_, rfl⟩
      rw [eA] at htx hinv
      have HTX : Hid (nd ((dgP a 16).take (i + 1)) = A + x * 65536 ^ i) := htx
      have HXE : Hid (gw (dgP a 16) i = x) := ex
      have HXL : Hid (x < 65536) := hxl
      have HI0 : Hid (d.length = 32 ∧ (∀ x ∈ d, x < 65536) ∧ nd d = A * b ∧ (∀ j, i + 16 ≤ j → j < 32 → gw d j = 0)) := ⟨hlen, hdl, hinv, hzero⟩
      have HXC : Hid (∀ j, j < 16 → wr.cell? ⟨gx, j, none⟩ = some (.int .u64 (gw (dgP a 16) j : Nat))) := hxc
      have HYC : Hid (∀ j, j < 16 → wr.cell? ⟨gy, j, none⟩ = some (.int .u64 (gw (dgP b 16) j : Nat))) := hyc
      clear hlen hdl hinv hzero hxc hyc ex hxl htx eA
      go_wp2
      go_loopw [9, 10] (fun cv kv wr => ∃ (k : Nat) (d : List Nat) (c : Nat), k ≤ 16 ∧ kv = .int .i64 (k : Int) ∧ cv = .int .u64 (c : Int) ∧ c < 65536 ∧ d.length = 32 ∧ (∀ x ∈ d, x < 65536) ∧ nd d + c * 65536 ^ (i + k) = A * b + x * 65536 ^ i * nd ((dgP b 16).take k) ∧ (∀ j, i + 16 ≤ j → j < 32 → gw d j = 0) ∧ (∀ j, j < 16 → wr.cell? ⟨gx, j, none⟩ = some (.int .u64 (gw (dgP a 16) j : Nat))) ∧ (∀ j, j < 16 → wr.cell? ⟨gy, j, none⟩ = some (.int .u64 (gw (dgP b 16) j : Nat))) ∧ Mem w wr [⟨gd, 22, c64 d ++ jd⟩, ⟨g3, 24, c64 (w4 b)⟩, ⟨g2, 24, c64 (w4 a)⟩]) (fun _ kv _ => 16 - (intOf kv).toNat)
      case atStart => exact ⟨0, d, 0, by omega, rfl, rfl, by decide, HI0.out.1, HI0.out.2.1, by rw [HI0.out.2.2.1]; simp [nd], HI0.out.2.2.2, HXC.out, HYC.out, m⟩
      case round =>
        clear m HI0 HXC HYC
        obtain ⟨k, d, c, hk, rfl, rfl, hc, hlen, hdl, hinv, hzero, hxc, hyc, m⟩ := hrel
        by_cases hl2 : k < 16
        · obtain ⟨p, ep⟩ : ∃ p, i + k = p := ⟨_, rfl⟩
          have hp : p < 32 := by omega
          obtain ⟨dj, ed⟩ : ∃ x, gw d p = x := ⟨_, rfl⟩
          obtain ⟨y, ey⟩ : ∃ x, gw (dgP b 16) k = x := ⟨_, rfl⟩
          have hyl : y < 65536 := ey ▸ gw_lt16 (dgP_lt b 16) k
          have hdjl : dj < 65536 := ed ▸ gw_lt16 hdl p
          have hxl := HXL.out
          obtain ⟨hb1, hb2⟩ := prod_bound x y c dj hxl hyl hc hdjl
          obtain ⟨s1, es1⟩ : ∃ v, c + dj = v := ⟨_, rfl⟩
          obtain ⟨pr, epr⟩ : ∃ v, x * y = v := ⟨_, rfl⟩
          obtain ⟨v, ev⟩ : ∃ v, s1 + pr = v := ⟨_, rfl⟩
          obtain ⟨r, er⟩ : ∃ r, v % 65536 = r := ⟨_, rfl⟩
          obtain ⟨c1, ec1⟩ : ∃ r, v / 65536 = r := ⟨_, rfl⟩
          rw [epr] at hb1 hb2
          have hset := nd_set d p r (by omega)
          rw [ed] at hset
          have htk := nd_take (dgP b 16) k (by rw [dgP_length]; exact hl2)
          rw [ey] at htk
          have hinv2 : nd (d.set p r) + c1 * 65536 ^ (i + (k + 1)) = A * b + x * 65536 ^ i * nd ((dgP b 16).take (k + 1)) := by
            rw [ep] at hinv
            have := mul_step16 (nd d) _ (nd (d.set p r)) c dj pr c1 (65536 ^ p) v hinv (by rw [er]; exact hset) (by omega) ec1
            rw [htk, ← row_step, epr, ← Nat.pow_add, ep, ← this, ← Nat.add_assoc, ep, Nat.pow_succ]
          have HNX : Hid (c1 < 65536 ∧ (d.set p r).length = 32 ∧ (∀ x ∈ d.set p r, x < 65536) ∧ nd (d.set p r) + c1 * 65536 ^ (i + (k + 1)) = A * b + x * 65536 ^ i * nd ((dgP b 16).take (k + 1)) ∧ (∀ j, i + 16 ≤ j → j < 32 → gw (d.set p r) j = 0)) :=
            ⟨by omega, by rw [List.length_set]; exact hlen, set_lt hdl p r (by omega), hinv2, fun j h1 h2 => by rw [gw_set_ne d p j r (by omega)]; exact hzero j h1 h2⟩
          have HP : Hid ((i : Int) + (k : Int) = (p : Int) ∧ -9223372036854775808 ≤ (p : Int) ∧ (p : Int) < 9223372036854775808) := ⟨by omega, by omega, by omega⟩
          have HDJ : Hid (gw d p = dj) := ed
          have HDP : Hid (p < d.length) := by show _ < _; omega
          have HLC : Hid (p < (c64 d ++ jd).length) := by show _ < _; rw [List.length_append, c64_length]; omega
          have HXI : Hid (wr.cell? ⟨gx, i, none⟩ = some (.int .u64 (x : Nat))) := by have := hxc i hlt; rw [HXE.out] at this; exact this
          have HYK : Hid (wr.cell? ⟨gy, k, none⟩ = some (.int .u64 (y : Nat))) := by have := hyc k hl2; rw [ey] at this; exact this
          have HS1 : Hid (c + dj = s1 ∧ s1 < 18446744073709551616) := ⟨es1, by omega⟩
          have HPR : Hid (x * y = pr ∧ pr < 18446744073709551616) := ⟨epr, by omega⟩
          have HV : Hid (s1 + pr = v ∧ v < 18446744073709551616) := ⟨ev, by omega⟩
          have HR : Hid (v % 65536 = r) := er
          have HC1 : Hid (v / 65536 = c1) := ec1
          have H0 : Hid (65536 ≠ 0) := by show _ ≠ _; decide
          have HXC : Hid (∀ j, j < 16 → wr.cell? ⟨gx, j, none⟩ = some (.int .u64 (gw (dgP a 16) j : Nat))) := hxc
          have HYC : Hid (∀ j, j < 16 → wr.cell? ⟨gy, j, none⟩ = some (.int .u64 (gw (dgP b 16) j : Nat))) := hyc
          clear hxc hyc ep ed ey hyl hdjl hxl hb1 hb2 es1 epr ev er ec1 hset htk hinv2 hc hdl hinv hzero
          go_wp2
          have F := G_fit wr (fun _ _ _ _ => False) (fun _ _ _ _ _ h _ => h)
          refine Mild2.wp_region F (by kernel_rfl) (by kernel_rfl) (gr_draw _) ?_
          iterate 4 (refine Mild2.step_quiet F rfl rfl rfl (fun w0 hC hF K hK => ?_); clear hF; go_big_quiet_op; refine hK _ ?_; clear hK K hC; clear w0)
          refine Mild2.step_known F rfl rfl (.int .i64 (p : Int)) (fun w0 hC _ => exec_addI (.tmp 26) (.tmp 27) _ _ rfl i k p HP.out.1 HP.out.2.1 HP.out.2.2 rfl rfl) ?_
          simp only [Act.put, List.setIfInBounds_toArray, List.set_cons_succ, List.set_cons_zero]
          refine Mild2.step_known F rfl rfl (.pointer (some ⟨gd, p, none⟩)) (fun w0 hC _ => exec_sidx Try.ws (.tmp 25) (.tmp 28) rfl gd 32 32 p .i64 p rfl hp rfl rfl) ?_
          simp only [Act.put, List.setIfInBounds_toArray, List.set_cons_succ, List.set_cons_zero]
          refine Mild2.step_known F rfl rfl (.int .u64 (dj : Nat)) (fun w0 hC _ => exec_getc Try.u64 (.tmp 29) rfl gd p _ (row_cellv ((m.get 0 rfl).gr hC) HDP.out HDJ.out) rfl) ?_
          simp only [Act.put, List.setIfInBounds_toArray, List.set_cons_succ, List.set_cons_zero]
          refine Mild2.step_known F rfl rfl (.int .u64 (s1 : Nat)) (fun w0 hC _ => exec_addU (.tmp 24) (.tmp 30) _ _ rfl c dj s1 HS1.out.1 HS1.out.2 rfl rfl) ?_
          simp only [Act.put, List.setIfInBounds_toArray, List.set_cons_succ, List.set_cons_zero]
          iterate 2 (refine Mild2.step_quiet F rfl rfl rfl (fun w0 hC hF K hK => ?_); clear hF; go_big_quiet_op; refine hK _ ?_; clear hK K hC; clear w0)
          refine Mild2.step_known F rfl rfl (.pointer (some ⟨gx, i, none⟩)) (fun w0 hC _ => exec_sidx Try.ws (.tmp 32) (.tmp 33) rfl gx 16 capx i .i64 i rfl hlt rfl rfl) ?_
          simp only [Act.put, List.setIfInBounds_toArray, List.set_cons_succ, List.set_cons_zero]
          refine Mild2.step_known F rfl rfl (.int .u64 (x : Nat)) (fun w0 hC _ => exec_getc Try.u64 (.tmp 34) rfl gx i _ (cell_gr HXI.out hC) rfl) ?_
          simp only [Act.put, List.setIfInBounds_toArray, List.set_cons_succ, List.set_cons_zero]
          iterate 2 (refine Mild2.step_quiet F rfl rfl rfl (fun w0 hC hF K hK => ?_); clear hF; go_big_quiet_op; refine hK _ ?_; clear hK K hC; clear w0)
          refine Mild2.step_known F rfl rfl (.pointer (some ⟨gy, k, none⟩)) (fun w0 hC _ => exec_sidx Try.ws (.tmp 36) (.tmp 37) rfl gy 16 capy k .i64 k rfl hl2 rfl rfl) ?_
          simp only [Act.put, List.setIfInBounds_toArray, List.set_cons_succ, List.set_cons_zero]
          refine Mild2.step_known F rfl rfl (.int .u64 (y : Nat)) (fun w0 hC _ => exec_getc Try.u64 (.tmp 38) rfl gy k _ (cell_gr HYK.out hC) rfl) ?_
          simp only [Act.put, List.setIfInBounds_toArray, List.set_cons_succ, List.set_cons_zero]
          refine Mild2.step_known F rfl rfl (.int .u64 (pr : Nat)) (fun w0 hC _ => exec_mulU (.tmp 35) (.tmp 39) _ _ rfl x y pr HPR.out.1 HPR.out.2 rfl rfl) ?_
          simp only [Act.put, List.setIfInBounds_toArray, List.set_cons_succ, List.set_cons_zero]
          refine Mild2.step_known F rfl rfl (.int .u64 (v : Nat)) (fun w0 hC _ => exec_addU (.tmp 31) (.tmp 40) _ _ rfl s1 pr v HV.out.1 HV.out.2 rfl rfl) ?_
          simp only [Act.put, List.setIfInBounds_toArray, List.set_cons_succ, List.set_cons_zero]
          iterate 1 (refine Mild2.step_quiet F rfl rfl rfl (fun w0 hC hF K hK => ?_); clear hF; go_big_quiet_op; refine hK _ ?_; clear hK K hC; clear w0)
          intro w9 hw9 hf9
          have HX9 : Hid (∀ j, j < 16 → w9.cell? ⟨gx, j, none⟩ = some (.int .u64 (gw (dgP a 16) j : Nat))) := fun j hj => cell_gr (HXC.out j hj) hw9
          have HY9 : Hid (∀ j, j < 16 → w9.cell? ⟨gy, j, none⟩ = some (.int .u64 (gw (dgP b 16) j : Nat))) := fun j hj => cell_gr (HYC.out j hj) hw9
          replace m := m.gr hw9
          clear hf9 hw9 F HXC HYC HXI HYK
          go_wp2_with ((first
            | (refine wpList_val rfl (.int .i64 (p : Int)) (exec_addI (.tmp 43) (.tmp 44) _ _ rfl i k p HP.out.1 HP.out.2.1 HP.out.2.2 rfl rfl) ?_)
            | (refine wpList_val rfl (.int .u64 (r : Int)) (exec_remN (.tmp 46) (.const (.int .u64 65536)) _ _ rfl v 65536 r HR.out H0.out .u64 rfl rfl) ?_)
            | (refine wpList_val rfl (.pointer (some ⟨gd, p, none⟩)) (exec_sidx Try.ws (.tmp 42) (.tmp 45) rfl gd 32 32 p .i64 p rfl hp rfl rfl) ?_)
            | (refine wpList_store_cell rfl 22 (.tmp 48) (.tmp 47) rfl rfl Try.one64 gd p _ (.int .u64 (r : Nat)) HLC.out rfl rfl rfl 22 (m.get 0 rfl) ?_; intro w10 ha10 b10)
            | (refine wpList_val rfl (.int .u64 (c1 : Int)) (exec_quoU (.tmp 49) (.const (.int .u64 65536)) _ _ rfl v 65536 c1 HC1.out HV.out.2 H0.out rfl rfl) ?_)); try simp only [Act.put, List.setIfInBounds_toArray, List.set_cons_succ, List.set_cons_zero])
          have m10 := m.put 0 rfl b10 ha10
          rw [row_set d jd p r HDP.out] at m10
          have hx10 : (∀ j, j < 16 → w10.cell? ⟨gx, j, none⟩ = some (.int .u64 (gw (dgP a 16) j : Nat))) := fun j hj => (cell_but b10 hxd).trans (HX9.out j hj)
          have hy10 : (∀ j, j < 16 → w10.cell? ⟨gy, j, none⟩ = some (.int .u64 (gw (dgP b 16) j : Nat))) := fun j hj => (cell_but b10 hyd).trans (HY9.out j hj)
          clear ha10 b10 m HX9 HY9
          go_roundw
          case rel => exact ⟨k + 1, d.set p r, c1, by omega, by go_num, rfl, HNX.out.1, HNX.out.2.1, HNX.out.2.2.1, HNX.out.2.2.2.1, HNX.out.2.2.2.2, hx10, hy10, m10⟩
          case measure => simp [intOf]; omega
        · obtain rfl : k = 16 := by omega
          obtain ⟨p, ep⟩ : ∃ p, i + 16 = p := ⟨_, rfl⟩
          have hp : p < 32 := by omega
          have htl : (dgP b 16).take 16 = dgP b 16 := List.take_of_length_le (by rw [dgP_length]; omega)
          rw [htl, nd_all b HB.out, row_end, ← HTX.out, ep] at hinv
          have hset := nd_set d p c (by omega)
          rw [hzero p (by omega) hp, Nat.zero_mul, Nat.add_zero] at hset
          have HNX : Hid ((d.set p c).length = 32 ∧ (∀ x ∈ d.set p c, x < 65536) ∧ nd (d.set p c) = nd ((dgP a 16).take (i + 1)) * b ∧ (∀ j, i + 1 + 16 ≤ j → j < 32 → gw (d.set p c) j = 0)) :=
            ⟨by rw [List.length_set]; exact hlen, set_lt hdl p c hc, by rw [hset]; exact hinv, fun j h1 h2 => by rw [gw_set_ne d p j c (by omega)]; exact hzero j (by omega) h2⟩
          have HP : Hid ((i : Int) + 16 = (p : Int) ∧ -9223372036854775808 ≤ (p : Int) ∧ (p : Int) < 9223372036854775808) := ⟨by omega, by omega, by omega⟩
          have HDP : Hid (p < d.length) := by show _ < _; omega
          have HLC : Hid (p < (c64 d ++ jd).length) := by show _ < _; rw [List.length_append, c64_length]; omega
          have HX9 : Hid (∀ j, j < 16 → wr.cell? ⟨gx, j, none⟩ = some (.int .u64 (gw (dgP a 16) j : Nat))) := hxc
          have HY9 : Hid (∀ j, j < 16 → wr.cell? ⟨gy, j, none⟩ = some (.int .u64 (gw (dgP b 16) j : Nat))) := hyc
          clear hxc hyc ep htl hset hc hdl hinv hzero
          go_wp2_with ((first
            | (refine wpList_val rfl (.int .i64 (p : Int)) (exec_addI (.tmp 52) (.const (.int .i64 16)) _ _ rfl i 16 p HP.out.1 HP.out.2.1 HP.out.2.2 rfl rfl) ?_)
            | (refine wpList_val rfl (.pointer (some ⟨gd, p, none⟩)) (exec_sidx Try.ws (.tmp 51) (.tmp 53) rfl gd 32 32 p .i64 p rfl hp rfl rfl) ?_)
            | (refine wpList_store_cell rfl 22 (.tmp 55) (.tmp 54) rfl rfl Try.one64 gd p _ (.int .u64 (c : Nat)) HLC.out rfl rfl rfl 22 (m.get 0 rfl) ?_; intro w10 ha10 b10)); try simp only [Act.put, List.setIfInBounds_toArray, List.set_cons_succ, List.set_cons_zero])
          have m10 := m.put 0 rfl b10 ha10
          rw [row_set d jd p c HDP.out] at m10
          have hx10 : (∀ j, j < 16 → w10.cell? ⟨gx, j, none⟩ = some (.int .u64 (gw (dgP a 16) j : Nat))) := fun j hj => (cell_but b10 hxd).trans (HX9.out j hj)
          have hy10 : (∀ j, j < 16 → w10.cell? ⟨gy, j, none⟩ = some (.int .u64 (gw (dgP b 16) j : Nat))) := fun j hj => (cell_but b10 hyd).trans (HY9.out j hj)
          clear ha10 b10 m HX9 HY9
          go_roundw
          case rel => exact ⟨i + 1, d.set p c, by omega, by go_num, HNX.out.1, HNX.out.2.1, HNX.out.2.2.1, HNX.out.2.2.2, hx10, hy10, m10⟩
          case measure => simp [intOf]; omega
    · obtain rfl : i = 16 := by omega
      have htl : (dgP a 16).take 16 = dgP a 16 := List.take_of_length_le (by rw [dgP_length]; omega)
      rw [htl, nd_all a HA.out] at hinv
      have HE : Hid (d.length = 32 ∧ (∀ x ∈ d, x < 65536) ∧ nd d = a * b) := ⟨hlen, hdl, hinv⟩
      clear hxc hyc htl hdl hinv hzero hlen
      go_wp2
      go_ret
      exact ⟨_, rfl, ⟨gd, 32, jd, d, rfl, HG.out, m.get 0 rfl, HE.out⟩, m.below⟩
end Go.Proofs.Ytpfoeeiacfadfaa
