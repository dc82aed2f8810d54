/-
  Contracts of the document's Add and Sub.
  Conditions: numbers below 2^256.
-/
import Derived.Test.YtpfoeeiacfadfaaV15
namespace Go.Proofs.Ytpfoeeiacfadfaa
open Go.RowKit

theorem wv_inj {a b : Nat} (ha : a < M) (hb : b < M) (h : wv a = wv b) : a = b := by
  unfold wv at h
  have h1 : c64 (w4 a) = c64 (w4 b) := by simpa using h
  have h2 : w4 a = w4 b := by
    rw [c64_ints, c64_ints] at h1
    have h3 := List.map_inj_right (fun x y h => by simpa using h) |>.1 h1
    exact (map_cast_inj _ _).1 h3
  exact (w4_inj ha hb).1 h2
theorem cell_gr {w w' : World} {a : Addr} {v : Value} (h : w.cell? a = some v) (hb : Gr w w') : w'.cell? a = some v := by
  rw [Below.cell hb (World.block_lt_of_cell? w _ h)]; exact h
theorem G_fit (w : World) (K0 : FuncId → Array Value → Value → World → Prop) (hK : ∀ f args v w w', K0 f args v w → Gr w w' → K0 f args v w') : Mild2.Fit Gr (Gr w) K0 where
  refl := Gr.refl
  trans := fun _ _ _ => Gr.trans
  inC := fun _ _ => Gr.trans
  keep := fun _ _ _ _ _ h hg => hK _ _ _ _ _ h hg
theorem gr_draw (w : World) : Gr w { w with drawn := w.drawn + 1 } := Below.drewN' _ _ 1
theorem Mem.adopt {w0 w w' : World} {L : List Blk} {g : Nat} {T : TypeId} {cs : List Value} (m : Mem w0 w L) (hw : Gr w w') (hg : w.heap.size ≤ g) (ha : Arr T w' g cs) : Mem w0 w' (⟨g, T, cs⟩ :: L) := by
  refine ⟨(m.gr hw).below, fun b h => ?_, List.pairwise_cons.2 ⟨fun b h => ?_, m.nd⟩, fun b h => ?_⟩
  · rcases List.mem_cons.1 h with rfl | h
    · have := m.below.size; show _ ≤ g; omega
    · exact m.own b h
  · have := (m.arr b h).lt; show g ≠ b.g; omega
  · rcases List.mem_cons.1 h with rfl | h
    · exact ha
    · exact (m.arr b h).gr hw
/-- What the two calls of Digits tell. -/
def DgK (B a b : Nat) : FuncId → Array Value → Value → World → Prop := fun _ args v w => (args = #[wv a] → NewD B 16 (dgP a 16) v w) ∧ (args = #[wv b] → NewD B 16 (dgP b 16) v w)
theorem DgK.keep {B a b : Nat} : ∀ f args v w w', DgK B a b f args v w → Gr w w' → DgK B a b f args v w' := fun _ _ _ _ _ h hg => ⟨fun e => (h.1 e).gr hg, fun e => (h.2 e).gr hg⟩
theorem DgK.at1 {B a b : Nat} (ha : a < M) (hb : b < M) {v : Value} {w : World} (f : FuncId) (h : NewD B 16 (dgP a 16) v w) : DgK B a b f #[wv a] v w := ⟨fun _ => h, fun e => by
  have := wv_inj ha hb (by simpa using e); rw [← this]; exact h⟩
theorem DgK.at2 {B a b : Nat} (ha : a < M) (hb : b < M) {v : Value} {w : World} (f : FuncId) (h : NewD B 16 (dgP b 16) v w) : DgK B a b f #[wv b] v w := ⟨fun e => by
  have := wv_inj hb ha (by simpa using e); rw [← this]; exact h, fun _ => h⟩
theorem NewD.mono {B B' n : Nat} {l : List Nat} {v : Value} {w : World} (h : NewD B n l v w) (hB : B' ≤ B) : NewD B' n l v w := by
  obtain ⟨g, cap, junk, e, h1, h2⟩ := h
  exact ⟨g, cap, junk, e, Nat.le_trans hB h1, h2⟩
theorem len16 (l : List Nat) (h : l.length = 16) : (l.drop 0).take 16 = l := by rw [List.drop_zero]; exact List.take_of_length_le (by omega)
theorem set_lt {l : List Nat} (h : ∀ x ∈ l, x < 65536) (i v : Nat) (hv : v < 65536) : ∀ x ∈ l.set i v, x < 65536 := by
  intro x hx
  rcases List.mem_or_eq_of_mem_set hx with h1 | h1
  · exact h x h1
  · rw [h1]; exact hv
theorem row_cellv {T : TypeId} {w : World} {g j v : Nat} {l : List Nat} {junk : List Value} (h : Arr T w g (c64 l ++ junk)) (hj : j < l.length) (hv : gw l j = v) : w.cell? ⟨g, j, none⟩ = some (.int .u64 (v : Nat)) := by rw [← hv]; exact row_cell h hj

set_option maxRecDepth 20000 in
set_option maxHeartbeats 4000000 in
theorem radd_any (a b : Nat) (ha : a < M) (hb : b < M) (w : World) :
    Calls Try.prog 64 #[wv a, wv b] w fun e w' => e = .returned (.tuple #[wv ((a + b) % M), .int .u64 (((a + b) / M : Nat) : Int)]) ∧ Below w.heap.size w w' := by
  have HA : Hid (a < M) := ha
  have HB : Hid (b < M) := hb
  have HD1 : Hid (∀ w, Calls Try.prog 81 #[wv a] w fun e w' => ∃ v, e = .returned v ∧ NewD w.heap.size 16 (dgP a 16) v w' ∧ Below w.heap.size w w') := digits_any a ha
  have HD2 : Hid (∀ w, Calls Try.prog 81 #[wv b] w fun e w' => ∃ v, e = .returned v ∧ NewD w.heap.size 16 (dgP b 16) v w' ∧ Below w.heap.size w w') := digits_any b hb
  obtain ⟨N0, HN0⟩ : ∃ N, Hid ((a + b) % M = N) := ⟨_, rfl⟩
  obtain ⟨C0, HC0⟩ : ∃ N : Nat, Hid ((a + b) / M = N) := ⟨_, rfl⟩
  rw [HN0.out, HC0.out]
  clear ha hb
  have m := Mem.start w
  go_enter Try.func64, Try.ntmps64
  go_wp2_with ((first
    | (refine W.box m rfl (.tmp 0) rfl a rfl ?_; clear m; intro g2 wx2 m)
    | (refine W.box m rfl (.tmp 1) rfl b rfl ?_; clear m; intro g3 wx3 m)
    | (refine W.alloc m rfl rfl 4 rfl ?_; clear m; intro g4 wx4 m)); try simp only [Act.put, List.setIfInBounds_toArray, List.set_cons_succ, List.set_cons_zero])
  have F := G_fit wx4 (DgK wx4.heap.size a b) DgK.keep
  refine Mild2.wp_region F (by kernel_rfl) (by kernel_rfl) (gr_draw _) ?_
  refine Mild2.step_known F rfl rfl (wv a) (fun w0 hC _ => W.xload m hC (.tmp 2) rfl 2 rfl rfl) ?_
  simp only [Act.put, List.setIfInBounds_toArray, List.set_cons_succ, List.set_cons_zero]
  refine Mild2.step_call rfl 81 #[wv a] (fun w => by go_simp) (NewD wx4.heap.size 16 (dgP a 16)) (fun v w w' hg h => h.gr hg) (fun w0 hC _ => (HD1.out w0).mono fun e w' ⟨v, h1, h2, h3⟩ => ⟨v, h1, h3, DgK.at1 HA.out HB.out _ (h2.mono hC.size)⟩) (fun v w' _ h => h.1 rfl) ?_
  intro v1 hv1
  obtain ⟨_, _, gx, capx, _, rfl, hgx, _⟩ := hv1 (by simp)
  simp only [Act.put, List.setIfInBounds_toArray, List.set_cons_succ, List.set_cons_zero]
  refine Mild2.step_known F rfl rfl (wv b) (fun w0 hC _ => W.xload m hC (.tmp 3) rfl 1 rfl rfl) ?_
  simp only [Act.put, List.setIfInBounds_toArray, List.set_cons_succ, List.set_cons_zero]
  refine Mild2.step_call rfl 81 #[wv b] (fun w => by go_simp) (NewD wx4.heap.size 16 (dgP b 16)) (fun v w w' hg h => h.gr hg) (fun w0 hC _ => (HD2.out w0).mono fun e w' ⟨v, h1, h2, h3⟩ => ⟨v, h1, h3, DgK.at2 HA.out HB.out _ (h2.mono hC.size)⟩) (fun v w' _ h => h.2 rfl) ?_
  intro v2 hv2
  obtain ⟨_, _, gy, capy, _, rfl, hgy, _⟩ := hv2 (by simp)
  simp only [Act.put, List.setIfInBounds_toArray, List.set_cons_succ, List.set_cons_zero]
  iterate 2 (refine Mild2.step_quiet F rfl rfl rfl (fun w0 hC hF K hK => ?_); clear hF; go_big_quiet_op; refine hK _ ?_; clear hK K hC; clear w0)
  intro w8 hw8 hf8
  obtain ⟨gx', capx', jx, ex, _, hx⟩ := (hf8 (some 11)).1.2 rfl
  simp only [Value.slice.injEq, Option.some.injEq, Addr.mk.injEq, and_true, true_and] at ex
  obtain ⟨rfl, rfl⟩ := ex
  obtain ⟨gy', capy', jy, ey, _, hy⟩ := (hf8 (some 13)).2 rfl
  simp only [Value.slice.injEq, Option.some.injEq, Addr.mk.injEq, and_true, true_and] at ey
  obtain ⟨rfl, rfl⟩ := ey
  replace m := m.adopt hw8 hgx hx
  clear hf8 hw8 F hv1 hv2
  have HY0 : Hid (∀ j, j < 16 → w8.cell? ⟨gy, j, none⟩ = some (.int .u64 (gw (dgP b 16) j : Nat))) := fun j hj => row_cell hy (by rw [dgP_length]; exact hj)
  clear hx hy hgx hgy
  go_wp2
  go_loopw [8, 9] (fun cv iv wr => ∃ (k : Nat) (l : List Nat) (c : Nat), k ≤ 16 ∧ iv = .int .i64 (k : Int) ∧ cv = .int .u64 (c : Int) ∧ c ≤ 1 ∧ l.length = 16 ∧ (∀ x ∈ l, x < 65536) ∧ nd l + c * 65536 ^ k = a + nd ((dgP b 16).take k) ∧ (∀ j, k ≤ j → j < 16 → wr.cell? ⟨gy, j, none⟩ = some (.int .u64 (gw (dgP b 16) j : Nat))) ∧ Mem w wr [⟨gx, 22, c64 l ++ jx⟩, ⟨g4, 24, c64 (w4 0)⟩, ⟨g3, 24, c64 (w4 b)⟩, ⟨g2, 24, c64 (w4 a)⟩]) (fun _ iv _ => 16 - (intOf iv).toNat)
  case atStart => exact ⟨0, dgP a 16, 0, by omega, rfl, rfl, by omega, dgP_length a 16, dgP_lt a 16, by rw [nd_all a HA.out]; simp [nd], fun j _ hj => HY0.out j hj, m⟩
  case round =>
    clear m HY0 HD1 HD2
    obtain ⟨k, l, c, hk, rfl, rfl, hc, hlen, hd, hinv, hyc, m⟩ := hrel
    by_cases hlt : k < 16
    · have hyk := hyc k (Nat.le_refl _) hlt
      obtain ⟨x, ex⟩ : ∃ x, gw l k = x := ⟨_, rfl⟩
      obtain ⟨y, eyk⟩ : ∃ x, gw (dgP b 16) k = x := ⟨_, rfl⟩
      have hxl : x < 65536 := ex ▸ gw_lt16 hd k
      have hyl : y < 65536 := eyk ▸ gw_lt16 (dgP_lt b 16) k
      rw [eyk] at hyk
      obtain ⟨s1, es1⟩ : ∃ v, c + x = v := ⟨_, rfl⟩
      obtain ⟨v, ev⟩ : ∃ v, s1 + y = v := ⟨_, rfl⟩
      obtain ⟨r, er⟩ : ∃ r, v % 65536 = r := ⟨_, rfl⟩
      obtain ⟨c1, ec1⟩ : ∃ r, v / 65536 = r := ⟨_, rfl⟩
      have hset := nd_set l k r (by omega)
      have htk := nd_take (dgP b 16) k (by rw [dgP_length]; exact hlt)
      rw [eyk] at htk
      rw [ex] at hset
      have hinv2 : nd (l.set k r) + c1 * 65536 ^ (k + 1) = a + nd ((dgP b 16).take (k + 1)) := by
        rw [htk, Nat.pow_succ]; exact add_step (nd l) a _ (nd (l.set k r)) c x y c1 (65536 ^ k) v hinv (by rw [er]; exact hset) (by omega) ec1
      have HS1 : Hid (c + x = s1 ∧ s1 < 18446744073709551616) := ⟨es1, by omega⟩
      have HV : Hid (s1 + y = v ∧ v < 18446744073709551616) := ⟨ev, by omega⟩
      have hc1 : c1 ≤ 1 := by omega
      have hrl : r < 65536 := by omega
      have HYC : Hid (∀ j, k ≤ j → j < 16 → wr.cell? ⟨gy, j, none⟩ = some (.int .u64 (gw (dgP b 16) j : Nat))) := hyc
      have HX : Hid (gw l k = x) := ex
      have HYK : Hid (wr.cell? ⟨gy, k, none⟩ = some (.int .u64 (y : Nat))) := hyk
      have HLK : Hid (k < l.length) := by show _ < _; omega
      have HLC : Hid (k < (c64 l ++ jx).length) := by show _ < _; rw [List.length_append, c64_length]; omega
      have HR : Hid (v % 65536 = r) := er
      have HC1 : Hid (v / 65536 = c1) := ec1
      have LV : Hid (v < 18446744073709551616) := by show _ < _; omega
      have H0 : Hid (65536 ≠ 0) := by show _ ≠ _; decide
      have HNX : Hid (c1 ≤ 1 ∧ (l.set k r).length = 16 ∧ (∀ x ∈ l.set k r, x < 65536) ∧ nd (l.set k r) + c1 * 65536 ^ (k + 1) = a + nd ((dgP b 16).take (k + 1))) := ⟨hc1, by rw [List.length_set]; exact hlen, set_lt hd k r hrl, hinv2⟩
      clear hyc hyk ex eyk hxl hyl er ev hset htk hinv2 hc1 hrl hc hd hinv es1 ec1
      go_wp2
      have F := G_fit wr (fun _ _ _ _ => False) (fun _ _ _ _ _ h _ => h)
      refine Mild2.wp_region F (by kernel_rfl) (by kernel_rfl) (gr_draw _) ?_
      iterate 3 (refine Mild2.step_quiet F rfl rfl rfl (fun w0 hC hF K hK => ?_); clear hF; go_big_quiet_op; refine hK _ ?_; clear hK K hC; clear w0)
      refine Mild2.step_known F rfl rfl (.pointer (some ⟨gx, k, none⟩)) (fun w0 hC _ => exec_sidx Try.ws (.tmp 19) (.tmp 20) rfl gx 16 capx k .i64 k rfl hlt rfl rfl) ?_
      simp only [Act.put, List.setIfInBounds_toArray, List.set_cons_succ, List.set_cons_zero]
      refine Mild2.step_known F rfl rfl (.int .u64 (x : Nat)) (fun w0 hC _ => exec_getc Try.u64 (.tmp 21) rfl gx k _ (row_cellv ((m.get 0 rfl).gr hC) HLK.out HX.out) rfl) ?_
      simp only [Act.put, List.setIfInBounds_toArray, List.set_cons_succ, List.set_cons_zero]
      refine Mild2.step_known F rfl rfl (.int .u64 (s1 : Nat)) (fun w0 hC _ => exec_addU (.tmp 18) (.tmp 22) _ _ rfl c x s1 HS1.out.1 HS1.out.2 rfl rfl) ?_
      simp only [Act.put, List.setIfInBounds_toArray, List.set_cons_succ, List.set_cons_zero]
      iterate 2 (refine Mild2.step_quiet F rfl rfl rfl (fun w0 hC hF K hK => ?_); clear hF; go_big_quiet_op; refine hK _ ?_; clear hK K hC; clear w0)
      refine Mild2.step_known F rfl rfl (.pointer (some ⟨gy, k, none⟩)) (fun w0 hC _ => exec_sidx Try.ws (.tmp 24) (.tmp 25) rfl gy 16 capy k .i64 k rfl hlt rfl rfl) ?_
      simp only [Act.put, List.setIfInBounds_toArray, List.set_cons_succ, List.set_cons_zero]
      refine Mild2.step_known F rfl rfl (.int .u64 (y : Nat)) (fun w0 hC _ => exec_getc Try.u64 (.tmp 26) rfl gy k _ (cell_gr HYK.out hC) rfl) ?_
      simp only [Act.put, List.setIfInBounds_toArray, List.set_cons_succ, List.set_cons_zero]
      refine Mild2.step_known F rfl rfl (.int .u64 (v : Nat)) (fun w0 hC _ => exec_addU (.tmp 23) (.tmp 27) _ _ rfl s1 y v HV.out.1 HV.out.2 rfl rfl) ?_
      simp only [Act.put, List.setIfInBounds_toArray, List.set_cons_succ, List.set_cons_zero]
      iterate 1 (refine Mild2.step_quiet F rfl rfl rfl (fun w0 hC hF K hK => ?_); clear hF; go_big_quiet_op; refine hK _ ?_; clear hK K hC; clear w0)
      intro w9 hw9 hf9
      have HY9 : Hid (∀ j, k ≤ j → j < 16 → w9.cell? ⟨gy, j, none⟩ = some (.int .u64 (gw (dgP b 16) j : Nat))) := fun j h1 h2 => cell_gr (HYC.out j h1 h2) hw9
      replace m := m.gr hw9
      clear hf9 hw9 F HYC HYK
      go_wp2_with ((first
        | (refine wpList_val rfl (.int .u64 (r : Int)) (exec_remN (.tmp 31) (.const (.int .u64 65536)) _ _ rfl v 65536 r HR.out H0.out .u64 rfl rfl) ?_)
        | (refine wpList_val rfl (.pointer (some ⟨gx, k, none⟩)) (exec_sidx Try.ws (.tmp 29) (.tmp 30) rfl gx 16 capx k .i64 k rfl hlt rfl rfl) ?_)
        | (refine wpList_store_cell rfl 22 (.tmp 33) (.tmp 32) rfl rfl Try.one64 gx k _ (.int .u64 (r : Nat)) HLC.out rfl rfl rfl 22 (m.get 0 rfl) ?_; intro w10 ha10 b10)
        | (refine wpList_val rfl (.int .u64 (c1 : Int)) (exec_quoU (.tmp 34) (.const (.int .u64 65536)) _ _ rfl v 65536 c1 HC1.out LV.out H0.out rfl rfl) ?_)); try simp only [Act.put, List.setIfInBounds_toArray, List.set_cons_succ, List.set_cons_zero])
      have hm0 := m.get 0 rfl
      have m10 := m.put 0 rfl b10 ha10
      rw [row_set l jx k r HLK.out] at m10
      have hy10 : ∀ j, k + 1 ≤ j → j < 16 → w10.cell? ⟨gy, j, none⟩ = some (.int .u64 (gw (dgP b 16) j : Nat)) := fun j h1 h2 => (cell_same hm0 ha10 b10 (by omega)).trans (HY9.out j (by omega) h2)
      clear ha10 b10 hm0 m HY9
      go_roundw
      case rel => exact ⟨k + 1, l.set k r, c1, by omega, by go_num, rfl, HNX.out.1, HNX.out.2.1, HNX.out.2.2.1, HNX.out.2.2.2, hy10, m10⟩
      case measure => simp [intOf]; omega
    · obtain rfl : k = 16 := by omega
      have hfin : nd l < M := by have := nd_lt l hd; rw [hlen] at this; exact this
      have htl : (dgP b 16).take 16 = dgP b 16 := List.take_of_length_le (by rw [dgP_length]; omega)
      rw [htl, nd_all b HB.out] at hinv
      have hinv' : a + b = nd l + M * c := by rw [← hinv, Nat.mul_comm M c]; rfl
      have EN : Hid ((a + b) % M = nd l) := by show _ = _; rw [hinv', Nat.add_mul_mod_self_left, Nat.mod_eq_of_lt hfin]
      have EC : Hid ((a + b) / M = c) := by show _ = _; rw [hinv', Nat.add_mul_div_left _ _ (by decide), Nat.div_eq_of_lt hfin, Nat.zero_add]
      have E1 : Hid (N0 = nd l) := by show _ = _; rw [← HN0.out, EN.out]
      have E2 : Hid (C0 = c) := by show _ = _; rw [← HC0.out, EC.out]
      have HD : Hid (∀ x ∈ l, x < 65536) := hd
      clear hyc hinv hinv' hfin htl hd hc EN EC HN0 HC0 
      go_wp2_with ((first
        | (go_at_call 73; refine (whole_any _ gx 16 capx l jx 0 hlen (m.get 0 rfl) (by decide) (by decide) HD.out).mono ?_; rintro e w20 ⟨rfl, b20⟩; rw [len16 l hlen]; replace m := m.gr b20; clear b20)
        | (refine W.store m rfl (.tmp 4) (.tmp 37) rfl rfl 1 (nd l) rfl (w4_length _) rfl rfl ?_; clear m; intro w21 m)))
      refine bodyPost_ret (results_arr_tmp Try.aw Try.results64 _ w21 g4 (c64 (w4 (nd l))) (wl (nd l)) rfl (m.get 1 rfl)) rfl ⟨by rw [E1.out, E2.out]; rfl, m.below⟩

set_option maxRecDepth 20000 in
set_option maxHeartbeats 4000000 in
theorem rsub_any (a b : Nat) (ha : a < M) (hb : b < M) (w : World) :
    Calls Try.prog 76 #[wv a, wv b] w fun e w' => e = .returned (.tuple #[wv ((a + M - b) % M), .int .u64 ((if a < b then 1 else 0 : Nat) : Int)]) ∧ Below w.heap.size w w' := by
  have HA : Hid (a < M) := ha
  have HB : Hid (b < M) := hb
  have HD1 : Hid (∀ w, Calls Try.prog 81 #[wv a] w fun e w' => ∃ v, e = .returned v ∧ NewD w.heap.size 16 (dgP a 16) v w' ∧ Below w.heap.size w w') := digits_any a ha
  have HD2 : Hid (∀ w, Calls Try.prog 81 #[wv b] w fun e w' => ∃ v, e = .returned v ∧ NewD w.heap.size 16 (dgP b 16) v w' ∧ Below w.heap.size w w') := digits_any b hb
  obtain ⟨N0, HN0⟩ : ∃ N, Hid ((a + M - b) % M = N) := ⟨_, rfl⟩
  obtain ⟨C0, HC0⟩ : ∃ N : Nat, Hid ((if a < b then 1 else 0) = N) := ⟨_, rfl⟩
  rw [HN0.out, HC0.out]
  clear ha hb
  have m := Mem.start w
  go_enter Try.func76, Try.ntmps76
  go_wp2_with ((first
    | (refine W.box m rfl (.tmp 0) rfl a rfl ?_; clear m; intro g2 wx2 m)
    | (refine W.box m rfl (.tmp 1) rfl b rfl ?_; clear m; intro g3 wx3 m)
    | (refine W.alloc m rfl rfl 4 rfl ?_; clear m; intro g4 wx4 m)); try simp only [Act.put, List.setIfInBounds_toArray, List.set_cons_succ, List.set_cons_zero])
  have F := G_fit wx4 (DgK wx4.heap.size a b) DgK.keep
  refine Mild2.wp_region F (by kernel_rfl) (by kernel_rfl) (gr_draw _) ?_
  refine Mild2.step_known F rfl rfl (wv a) (fun w0 hC _ => W.xload m hC (.tmp 2) rfl 2 rfl rfl) ?_
  simp only [Act.put, List.setIfInBounds_toArray, List.set_cons_succ, List.set_cons_zero]
  refine Mild2.step_call rfl 81 #[wv a] (fun w => by go_simp) (NewD wx4.heap.size 16 (dgP a 16)) (fun v w w' hg h => h.gr hg) (fun w0 hC _ => (HD1.out w0).mono fun e w' ⟨v, h1, h2, h3⟩ => ⟨v, h1, h3, DgK.at1 HA.out HB.out _ (h2.mono hC.size)⟩) (fun v w' _ h => h.1 rfl) ?_
  intro v1 hv1
  obtain ⟨_, _, gx, capx, _, rfl, hgx, _⟩ := hv1 (by simp)
  simp only [Act.put, List.setIfInBounds_toArray, List.set_cons_succ, List.set_cons_zero]
  refine Mild2.step_known F rfl rfl (wv b) (fun w0 hC _ => W.xload m hC (.tmp 3) rfl 1 rfl rfl) ?_
  simp only [Act.put, List.setIfInBounds_toArray, List.set_cons_succ, List.set_cons_zero]
  refine Mild2.step_call rfl 81 #[wv b] (fun w => by go_simp) (NewD wx4.heap.size 16 (dgP b 16)) (fun v w w' hg h => h.gr hg) (fun w0 hC _ => (HD2.out w0).mono fun e w' ⟨v, h1, h2, h3⟩ => ⟨v, h1, h3, DgK.at2 HA.out HB.out _ (h2.mono hC.size)⟩) (fun v w' _ h => h.2 rfl) ?_
  intro v2 hv2
  obtain ⟨_, _, gy, capy, _, rfl, hgy, _⟩ := hv2 (by simp)
  simp only [Act.put, List.setIfInBounds_toArray, List.set_cons_succ, List.set_cons_zero]
  iterate 2 (refine Mild2.step_quiet F rfl rfl rfl (fun w0 hC hF K hK => ?_); clear hF; go_big_quiet_op; refine hK _ ?_; clear hK K hC; clear w0)
  intro w8 hw8 hf8
  obtain ⟨gx', capx', jx, ex, _, hx⟩ := (hf8 (some 12)).1.2 rfl
  simp only [Value.slice.injEq, Option.some.injEq, Addr.mk.injEq, and_true, true_and] at ex
  obtain ⟨rfl, rfl⟩ := ex
  obtain ⟨gy', capy', jy, ey, _, hy⟩ := (hf8 (some 14)).2 rfl
  simp only [Value.slice.injEq, Option.some.injEq, Addr.mk.injEq, and_true, true_and] at ey
  obtain ⟨rfl, rfl⟩ := ey
  replace m := m.adopt hw8 hgx hx
  clear hf8 hw8 F hv1 hv2
  have HY0 : Hid (∀ j, j < 16 → w8.cell? ⟨gy, j, none⟩ = some (.int .u64 (gw (dgP b 16) j : Nat))) := fun j hj => row_cell hy (by rw [dgP_length]; exact hj)
  clear hx hy hgx hgy
  go_wp2
  go_loopw [8, 9] (fun cv iv wr => ∃ (k : Nat) (l : List Nat) (c : Nat), k ≤ 16 ∧ iv = .int .i64 (k : Int) ∧ cv = .int .u64 (c : Int) ∧ c ≤ 1 ∧ l.length = 16 ∧ (∀ x ∈ l, x < 65536) ∧ nd l + nd ((dgP b 16).take k) = a + c * 65536 ^ k ∧ (∀ j, k ≤ j → j < 16 → wr.cell? ⟨gy, j, none⟩ = some (.int .u64 (gw (dgP b 16) j : Nat))) ∧ Mem w wr [⟨gx, 22, c64 l ++ jx⟩, ⟨g4, 24, c64 (w4 0)⟩, ⟨g3, 24, c64 (w4 b)⟩, ⟨g2, 24, c64 (w4 a)⟩]) (fun _ iv _ => 16 - (intOf iv).toNat)
  case atStart => exact ⟨0, dgP a 16, 0, by omega, rfl, rfl, by omega, dgP_length a 16, dgP_lt a 16, by rw [nd_all a HA.out]; simp [nd], fun j _ hj => HY0.out j hj, m⟩
  case round =>
    clear m HY0 HD1 HD2
    obtain ⟨k, l, c, hk, rfl, rfl, hc, hlen, hd, hinv, hyc, m⟩ := hrel
    by_cases hlt : k < 16
    · have hyk := hyc k (Nat.le_refl _) hlt
      obtain ⟨x, ex⟩ : ∃ x, gw l k = x := ⟨_, rfl⟩
      obtain ⟨y, eyk⟩ : ∃ x, gw (dgP b 16) k = x := ⟨_, rfl⟩
      have hxl : x < 65536 := ex ▸ gw_lt16 hd k
      have hyl : y < 65536 := eyk ▸ gw_lt16 (dgP_lt b 16) k
      rw [eyk] at hyk
      obtain ⟨s1, es1⟩ : ∃ v, x + 65536 = v := ⟨_, rfl⟩
      obtain ⟨s2, es2⟩ : ∃ v, s1 - y = v := ⟨_, rfl⟩
      obtain ⟨v, ev⟩ : ∃ v, s2 - c = v := ⟨_, rfl⟩
      obtain ⟨r, er⟩ : ∃ r, v % 65536 = r := ⟨_, rfl⟩
      obtain ⟨q, eq⟩ : ∃ r, v / 65536 = r := ⟨_, rfl⟩
      obtain ⟨c1, ec1⟩ : ∃ r, 1 - q = r := ⟨_, rfl⟩
      have hset := nd_set l k r (by omega)
      have htk := nd_take (dgP b 16) k (by rw [dgP_length]; exact hlt)
      rw [eyk] at htk
      rw [ex] at hset
      have hst := sub_step16 (nd l) a _ (nd (l.set k r)) c x y c1 (65536 ^ k) v hinv (by rw [er]; exact hset) hyl hxl hc (by omega) (by rw [eq]; exact ec1)
      have hinv2 : nd (l.set k r) + nd ((dgP b 16).take (k + 1)) = a + c1 * 65536 ^ (k + 1) := by rw [htk, Nat.pow_succ]; exact hst.1
      have HS1 : Hid (x + 65536 = s1 ∧ s1 < 18446744073709551616) := ⟨es1, by omega⟩
      have HS2 : Hid (s2 + y = s1 ∧ s2 < 18446744073709551616) := ⟨by omega, by omega⟩
      have HV : Hid (v + c = s2) := by show _ = _; omega
      have HQ : Hid (v / 65536 = q) := eq
      have H1 : Hid (1 < 18446744073709551616) := by show _ < _; decide
      have hc1 : c1 ≤ 1 := by omega
      have hrl : r < 65536 := by omega
      have HYC : Hid (∀ j, k ≤ j → j < 16 → wr.cell? ⟨gy, j, none⟩ = some (.int .u64 (gw (dgP b 16) j : Nat))) := hyc
      have HX : Hid (gw l k = x) := ex
      have HYK : Hid (wr.cell? ⟨gy, k, none⟩ = some (.int .u64 (y : Nat))) := hyk
      have HLK : Hid (k < l.length) := by show _ < _; omega
      have HLC : Hid (k < (c64 l ++ jx).length) := by show _ < _; rw [List.length_append, c64_length]; omega
      have HR : Hid (v % 65536 = r) := er
      have HC1 : Hid (c1 + q = 1) := by show _ = _; omega
      have LV : Hid (v < 18446744073709551616) := by show _ < _; omega
      have H0 : Hid (65536 ≠ 0) := by show _ ≠ _; decide
      have HNX : Hid (c1 ≤ 1 ∧ (l.set k r).length = 16 ∧ (∀ x ∈ l.set k r, x < 65536) ∧ nd (l.set k r) + nd ((dgP b 16).take (k + 1)) = a + c1 * 65536 ^ (k + 1)) := ⟨hc1, by rw [List.length_set]; exact hlen, set_lt hd k r hrl, hinv2⟩
      clear hyc hyk ex eyk hxl hyl er ev hset htk hinv2 hc1 hrl hc hd hinv es1 es2 eq ec1 hst
      go_wp2
      have F := G_fit wr (fun _ _ _ _ => False) (fun _ _ _ _ _ h _ => h)
      refine Mild2.wp_region F (by kernel_rfl) (by kernel_rfl) (gr_draw _) ?_
      iterate 2 (refine Mild2.step_quiet F rfl rfl rfl (fun w0 hC hF K hK => ?_); clear hF; go_big_quiet_op; refine hK _ ?_; clear hK K hC; clear w0)
      refine Mild2.step_known F rfl rfl (.pointer (some ⟨gx, k, none⟩)) (fun w0 hC _ => exec_sidx Try.ws (.tmp 19) (.tmp 20) rfl gx 16 capx k .i64 k rfl hlt rfl rfl) ?_
      simp only [Act.put, List.setIfInBounds_toArray, List.set_cons_succ, List.set_cons_zero]
      refine Mild2.step_known F rfl rfl (.int .u64 (x : Nat)) (fun w0 hC _ => exec_getc Try.u64 (.tmp 21) rfl gx k _ (row_cellv ((m.get 0 rfl).gr hC) HLK.out HX.out) rfl) ?_
      simp only [Act.put, List.setIfInBounds_toArray, List.set_cons_succ, List.set_cons_zero]
      refine Mild2.step_known F rfl rfl (.int .u64 (s1 : Nat)) (fun w0 hC _ => exec_addU (.tmp 22) (.const (.int .u64 65536)) _ _ rfl x 65536 s1 HS1.out.1 HS1.out.2 rfl rfl) ?_
      simp only [Act.put, List.setIfInBounds_toArray, List.set_cons_succ, List.set_cons_zero]
      iterate 2 (refine Mild2.step_quiet F rfl rfl rfl (fun w0 hC hF K hK => ?_); clear hF; go_big_quiet_op; refine hK _ ?_; clear hK K hC; clear w0)
      refine Mild2.step_known F rfl rfl (.pointer (some ⟨gy, k, none⟩)) (fun w0 hC _ => exec_sidx Try.ws (.tmp 24) (.tmp 25) rfl gy 16 capy k .i64 k rfl hlt rfl rfl) ?_
      simp only [Act.put, List.setIfInBounds_toArray, List.set_cons_succ, List.set_cons_zero]
      refine Mild2.step_known F rfl rfl (.int .u64 (y : Nat)) (fun w0 hC _ => exec_getc Try.u64 (.tmp 26) rfl gy k _ (cell_gr HYK.out hC) rfl) ?_
      simp only [Act.put, List.setIfInBounds_toArray, List.set_cons_succ, List.set_cons_zero]
      refine Mild2.step_known F rfl rfl (.int .u64 (s2 : Nat)) (fun w0 hC _ => exec_subU (.tmp 23) (.tmp 27) _ _ rfl s1 y s2 HS2.out.1 HS1.out.2 rfl rfl) ?_
      simp only [Act.put, List.setIfInBounds_toArray, List.set_cons_succ, List.set_cons_zero]
      iterate 1 (refine Mild2.step_quiet F rfl rfl rfl (fun w0 hC hF K hK => ?_); clear hF; go_big_quiet_op; refine hK _ ?_; clear hK K hC; clear w0)
      refine Mild2.step_known F rfl rfl (.int .u64 (v : Nat)) (fun w0 hC _ => exec_subU (.tmp 28) (.tmp 29) _ _ rfl s2 c v HV.out HS2.out.2 rfl rfl) ?_
      simp only [Act.put, List.setIfInBounds_toArray, List.set_cons_succ, List.set_cons_zero]
      iterate 1 (refine Mild2.step_quiet F rfl rfl rfl (fun w0 hC hF K hK => ?_); clear hF; go_big_quiet_op; refine hK _ ?_; clear hK K hC; clear w0)
      intro w9 hw9 hf9
      have HY9 : Hid (∀ j, k ≤ j → j < 16 → w9.cell? ⟨gy, j, none⟩ = some (.int .u64 (gw (dgP b 16) j : Nat))) := fun j h1 h2 => cell_gr (HYC.out j h1 h2) hw9
      replace m := m.gr hw9
      clear hf9 hw9 F HYC HYK
      go_wp2_with ((first
        | (refine wpList_val rfl (.int .u64 (q : Int)) (exec_quoU (.tmp 31) (.const (.int .u64 65536)) _ _ rfl v 65536 q HQ.out LV.out H0.out rfl rfl) ?_)
        | (refine wpList_val rfl (.int .u64 (c1 : Int)) (exec_subU (.const (.int .u64 1)) (.tmp 32) _ _ rfl 1 q c1 HC1.out H1.out rfl rfl) ?_)
        | (refine wpList_val rfl (.int .u64 (r : Int)) (exec_remN (.tmp 36) (.const (.int .u64 65536)) _ _ rfl v 65536 r HR.out H0.out .u64 rfl rfl) ?_)
        | (refine wpList_val rfl (.pointer (some ⟨gx, k, none⟩)) (exec_sidx Try.ws (.tmp 34) (.tmp 35) rfl gx 16 capx k .i64 k rfl hlt rfl rfl) ?_)
        | (refine wpList_store_cell rfl 22 (.tmp 38) (.tmp 37) rfl rfl Try.one64 gx k _ (.int .u64 (r : Nat)) HLC.out rfl rfl rfl 22 (m.get 0 rfl) ?_; intro w10 ha10 b10)); try simp only [Act.put, List.setIfInBounds_toArray, List.set_cons_succ, List.set_cons_zero])
      have hm0 := m.get 0 rfl
      have m10 := m.put 0 rfl b10 ha10
      rw [row_set l jx k r HLK.out] at m10
      have hy10 : ∀ j, k + 1 ≤ j → j < 16 → w10.cell? ⟨gy, j, none⟩ = some (.int .u64 (gw (dgP b 16) j : Nat)) := fun j h1 h2 => (cell_same hm0 ha10 b10 (by omega)).trans (HY9.out j (by omega) h2)
      clear ha10 b10 hm0 m HY9
      go_roundw
      case rel => exact ⟨k + 1, l.set k r, c1, by omega, by go_num, rfl, HNX.out.1, HNX.out.2.1, HNX.out.2.2.1, HNX.out.2.2.2, hy10, m10⟩
      case measure => simp [intOf]; omega
    · obtain rfl : k = 16 := by omega
      have hfin : nd l < M := by have := nd_lt l hd; rw [hlen] at this; exact this
      have htl : (dgP b 16).take 16 = dgP b 16 := List.take_of_length_le (by rw [dgP_length]; omega)
      rw [htl, nd_all b HB.out] at hinv
      have hinv' : a + M * c = nd l + b := by rw [hinv, Nat.mul_comm M c]; rfl
      obtain ⟨k1, k2⟩ := sub_fin a b (nd l) c M hc hinv' hfin
      have EN : Hid ((a + M - b) % M = nd l) := k1
      have EC : Hid ((if a < b then 1 else 0) = c) := k2
      have E1 : Hid (N0 = nd l) := by show _ = _; rw [← HN0.out, EN.out]
      have E2 : Hid (C0 = c) := by show _ = _; rw [← HC0.out, EC.out]
      have HD : Hid (∀ x ∈ l, x < 65536) := hd
      clear hyc hinv hinv' hfin htl hd hc EN EC HN0 HC0 k1 k2
      go_wp2_with ((first
        | (go_at_call 73; refine (whole_any _ gx 16 capx l jx 0 hlen (m.get 0 rfl) (by decide) (by decide) HD.out).mono ?_; rintro e w20 ⟨rfl, b20⟩; rw [len16 l hlen]; replace m := m.gr b20; clear b20)
        | (refine W.store m rfl (.tmp 4) (.tmp 40) rfl rfl 1 (nd l) rfl (w4_length _) rfl rfl ?_; clear m; intro w21 m)))
      refine bodyPost_ret (results_arr_tmp Try.aw Try.results76 _ w21 g4 (c64 (w4 (nd l))) (wl (nd l)) rfl (m.get 1 rfl)) rfl ⟨by rw [E1.out, E2.out]; rfl, m.below⟩
end Go.Proofs.Ytpfoeeiacfadfaa
