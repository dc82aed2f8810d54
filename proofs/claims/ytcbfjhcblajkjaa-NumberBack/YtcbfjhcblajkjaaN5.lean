/-
  Contracts of the document's Decode.
-/
import Derived.Test.YtcbfjhcblajkjaaN4
namespace Go.Proofs.Ytcbfjhcblajkjaa
open Go.RowKit

theorem rencode_r (w : World) (z n : Int) (hz : z = n) (h1 : -9223372036854775808 ≤ n) (h2 : n ≤ 9223372036854775807) :
    Calls Try.prog 10 #[.int .i64 z] w fun e w' => ∃ v', e = .returned v' ∧ Own 5 w.heap.size w' v' (encN n) ∧ Below w.heap.size w w' := by
  subst hz; exact rencode_any w z h1 h2

/-- What the callee of Decode's comparison tells. -/
def encWord (b : List UInt8) (f : FuncId) (_args : Array Value) (v : Value) (w : World) : Prop := f = 10 ∧ Rs w v b
theorem encFit (w0 : World) (b : List UInt8) : Mild.Fit Gr (fun w => Gr w0 w) (encWord b) where
  refl := Gr.refl
  trans := fun _ _ _ => Gr.trans
  inC := fun _ _ => Gr.trans
  keep := fun _ _ _ _ _ h hg => ⟨h.1, h.2.gr hg⟩

set_option maxHeartbeats 1000000 in
theorem rdecode_long (w : World) (v : Value) (B : Nat) (l : List UInt8) (most : Int) (h : Rd B w v l) (hl : l.length ≤ 1000000) (hm : (l.length : Int) > most ∨ 8 < l.length) :
    Calls Try.prog 14 #[v, .int .i64 most] w fun e w' => e = .returned (.tuple #[.int .i64 (decN l most), .int .i64 (decE l most)]) ∧ Below w.heap.size w w' := by
  obtain ⟨ao, cap, rfl⟩ := h.len
  have HE : Hid (decN l most = 0 ∧ decE l most = 15) := ok_long l most hm
  by_cases h8 : (l.length : Int) > most
  · have d : decide ((l.length : Int) > most) = true := by simp; omega
    clear h hm h8
    go_enter Try.func14, Try.ntmps14
    go_wp2
    go_ret2
    rw [HE.out.1, HE.out.2]
    exact ⟨rfl, Below.refl _ _⟩
  · have d : decide ((l.length : Int) > most) = false := by simp; omega
    have d2 : decide ((l.length : Int) > 8) = true := by simp; omega
    clear h hm h8
    go_enter Try.func14, Try.ntmps14
    go_wp2
    go_ret2
    rw [HE.out.1, HE.out.2]
    exact ⟨rfl, Below.refl _ _⟩

/-- Byte by byte from the last one. -/
theorem num_drop (l : List UInt8) (k : Nat) (h : k < l.length) : num (l.drop k) = l[k].toNat + 256 * num (l.drop (k + 1)) := by
  rw [List.drop_eq_getElem_cons h, num]
theorem back_step (a cc y : Nat) (h : y = cc + 256 * a) (hy : y < 9223372036854775808) : wrap64 (wrap64 ((a : Int) * 256) + (cc : Int)) = (y : Int) := by
  have e1 : wrap64 ((a : Int) * 256) = (a : Int) * 256 := by unfold wrap64; omega
  rw [e1]; unfold wrap64; omega
theorem num_drop_le (l : List UInt8) (k : Nat) : num (l.drop k) ≤ num l := by
  have : num l = num (l.take k) + 2 ^ (8 * (l.take k).length) * num (l.drop k) := by rw [← num_append, List.take_append_drop]
  have h2 := Nat.le_mul_of_pos_left (num (l.drop k)) (Nat.two_pow_pos (8 * (l.take k).length))
  omega
theorem mag_low (r : List UInt8) (c : UInt8) : num (r ++ [UInt8.ofNat (c.toNat % 128)]) = mag (r ++ [c]) := by
  rw [num_app, mag_app]
  have : (UInt8.ofNat (c.toNat % 128)).toNat = c.toNat % 128 := by simp only [UInt8.toNat_ofNat']; omega
  rw [this]

set_option maxHeartbeats 2000000 in
theorem rdecode_nil (w : World) (v : Value) (B : Nat) (l : List UInt8) (most : Int) (h : Rd B w v l) (h1 : (l.length : Int) ≤ most) (h2 : l.length ≤ 8) (h0 : l = []) :
    Calls Try.prog 14 #[v, .int .i64 most] w fun e w' => e = .returned (.tuple #[.int .i64 (decN l most), .int .i64 (decE l most)]) ∧ Below w.heap.size w w' := by
  have hrd0 := h.rs
  obtain ⟨ao, cap, rfl⟩ := h.len
  have HB := rdN_lt8 l h2
  have HR : Hid (-9223372036854775808 ≤ rdN l ∧ rdN l ≤ 9223372036854775807) := ⟨by omega, by omega⟩
  have HY : Hid (encN (rdN l) = l → decN l most = rdN l ∧ decE l most = 0) := fun h => ok_yes l most h1 h2 h
  have HN : Hid (encN (rdN l) ≠ l → decN l most = 0 ∧ decE l most = 15) := fun h => ok_not l most h
  have HZ : Hid (0 = rdN l) := by show _ = _; rw [h0, rdN_nil]
  have hl0 : l.length = 0 := by rw [h0]; rfl
  rw [hl0] at hrd0 h1 ⊢
  have hrd : Hid (Rs w (.slice ao 0 cap) l) := hrd0
  have hm0 : 0 ≤ most := h1
  clear h HB h0 h1 h2 hl0 hrd0
  go_enter Try.func14, Try.ntmps14
  go_wp2
  go_loop [6, 7] (fun n i => n = .int .i64 0 ∧ i = .int .i64 (-1)) (fun _ _ => 0)
  case atStart => exact ⟨rfl, rfl⟩
  case round =>
    obtain ⟨rfl, rfl⟩ := hrel
    go_wp2_with fail
    have F := encFit w (encN (rdN l))
    refine Mild.wp_region F (by kernel_rfl) (by kernel_rfl) (Below.drewN' _ _ 1) ?_
    repeat (refine Mild.step_quiet F rfl rfl rfl (fun w0 hC hF K hK => ?_); clear hF; go_big_quiet_op; refine hK _ ?_; clear hK K hC; clear w0)
    refine Mild.step_call rfl 10 #[.int .i64 (0)] ?run1 (fun v w' => Rs w' v (encN (rdN l))) (fun v w w' hg h => h.gr hg) (fun w' hC _ => (rencode_r w' (0) (rdN l) HZ.out HR.out.1 HR.out.2).mono fun e w' ⟨v', he, ho, hb⟩ => ⟨v', he, hb, rfl, ho.rd⟩) (fun v w' _ hK => hK.2) ?_
    case run1 => intro w; go_simp
    intro r1 _
    simp only [Act.put, List.setIfInBounds_toArray, List.set_cons_succ, List.set_cons_zero]
    refine Mild.step_quiet F rfl rfl rfl (fun w0 hC hF K hK => ?_)
    have hcv := fun k => run_conv_rd Try.bt 9 (by kernel_rfl) (w0.drewN k) _ r1 (encN (rdN l)) (((hF 58 (by simp [Oper.looksAt, Op.operands])).2 rfl).drewN k)
    clear hC hF
    go_big_quiet_op
    refine hK _ ?_
    clear hK K hcv
    clear w0
    have c0 := fun w0 k (hC : Gr w w0) => run_conv_rd Try.bt 9 (by kernel_rfl) (w0.drewN k) _ (.slice ao 0 cap) _ ((hrd.out.gr hC).drewN k)
    repeat (refine Mild.step_quiet F rfl rfl rfl (fun w0 hC hF K hK => ?_); clear hF; go_big_quiet_op; refine hK _ ?_; clear hK K hC; clear w0)
    intro w2 hg2 _
    have Hb2 : Hid (Below w.heap.size w w2) := hg2
    clear hg2 F c0
    by_cases he : encN (rdN l) = l
    · have HG : Hid (decN l most = rdN l ∧ decE l most = 0) := HY.out he
      have hq : (encN (rdN l) == l) = true := by simp [he]
      clear he
      rw [hq]
      clear hq
      go_wp2
      go_ret2
      rw [HG.out.1, HG.out.2, ← HZ.out]
      exact ⟨rfl, Hb2.out⟩
    · have HG : Hid (decN l most = 0 ∧ decE l most = 15) := HN.out he
      have hq : (encN (rdN l) == l) = false := by simp [he]
      clear he
      rw [hq]
      clear hq
      go_wp2
      go_ret2
      rw [HG.out.1, HG.out.2]
      exact ⟨rfl, Hb2.out⟩

set_option maxRecDepth 100000 in
set_option maxHeartbeats 2000000 in
theorem rdecode_app (w : World) (v : Value) (B : Nat) (l : List UInt8) (most : Int) (h : Rd B w v l) (h1 : (l.length : Int) ≤ most) (h2 : l.length ≤ 8) (r : List UInt8) (c : UInt8) (h0 : l = r ++ [c]) :
    Calls Try.prog 14 #[v, .int .i64 most] w fun e w' => e = .returned (.tuple #[.int .i64 (decN l most), .int .i64 (decE l most)]) ∧ Below w.heap.size w w' := by
  have hrd0 := h.rs
  have hlen : l.length = r.length + 1 := by rw [h0]; simp
  obtain ⟨b, off, cap, rfl, hcap, hbB, hc⟩ := h.at (by omega)
  have HB := rdN_lt8 l h2
  have HR : Hid (-9223372036854775808 ≤ rdN l ∧ rdN l ≤ 9223372036854775807) := ⟨by omega, by omega⟩
  have HY : Hid (encN (rdN l) = l → decN l most = rdN l ∧ decE l most = 0) := fun h => ok_yes l most h1 h2 h
  have HN : Hid (encN (rdN l) ≠ l → decN l most = 0 ∧ decE l most = 15) := fun h => ok_not l most h
  have h2' : r.length ≤ 7 := by omega
  have h1' : (r.length : Int) + 1 ≤ most := by omega
  have d : decide ((r.length : Int) + 1 > most) = false := by simp; omega
  have d2 : decide ((r.length : Int) + 1 > 8) = false := by simp; omega
  have HC : Hid (∀ i (hi : i < l.length), w.cell? ⟨b, off + i, none⟩ = some (.int .u8 (l[i].toNat : Int))) := hc
  have H0 : Hid (l = r ++ [c]) := h0
  have HLen : Hid (l.length = r.length + 1) := hlen
  have HM : Hid (num (r ++ [UInt8.ofNat (c.toNat % 128)]) = mag l ∧ mag l < 9223372036854775808) := by
    refine ⟨by rw [mag_low, h0], ?_⟩
    have := mag_lt_of l 7 h2
    simpa using this
  rw [hlen] at hrd0 hcap ⊢
  have hrd : Hid (Rs w (.slice (some ⟨b, off, none⟩) (r.length + 1) cap) l) := hrd0
  clear h HB h0 h1 h2 hc hlen hrd0
  go_enter Try.func14, Try.ntmps14
  go_wp2
  go_loop [6, 7] (fun n i => ∃ k : Nat, k ≤ r.length + 1 ∧ i = .int .i64 ((k : Int) - 1) ∧ n = .int .i64 (num ((r ++ [UInt8.ofNat (c.toNat % 128)]).drop k) : Nat)) (fun _ i => (intOf i + 1).toNat)
  case atStart => exact ⟨r.length + 1, by omega, by go_num, by simp [num]⟩
  case round =>
    obtain ⟨k, hk, rfl, rfl⟩ := hrel
    cases k with
    | zero =>
      rw [List.drop_zero, HM.out.1]
      have hck := HC.out r.length (by have := HLen.out; omega)
      have hcc : l[r.length]'(by have := HLen.out; omega) = c := by
        have := H0.out
        simp only [this, List.getElem_concat_length]
      rw [hcc] at hck
      have d3 : decide ((r.length : Int) + 1 > 0) = true := by simp
      have ez : (((0 : Nat) : Int) - 1) = -1 := rfl
      rw [ez]
      by_cases hb : 128 ≤ c.toNat
      · have d4 : decide ((c.toNat : Int) ≥ 128) = true := by simp; omega
        have HZ : Hid (wrap64 (-(mag l : Int)) = rdN l) := by
          have := HM.out.2
          show _ = _
          rw [H0.out, rdN_neg r c hb, ← H0.out]; unfold wrap64; omega
        clear hb hcc ez HC H0
        generalize c.toNat = cc at hck d4
        generalize mag l = M at HZ
        go_wp2_with fail
        have F := encFit w (encN (rdN l))
        refine Mild.wp_region F (by kernel_rfl) (by kernel_rfl) (Below.drewN' _ _ 1) ?_
        repeat (refine Mild.step_quiet F rfl rfl rfl (fun w0 hC hF K hK => ?_); clear hF; go_big_quiet_op; refine hK _ ?_; clear hK K hC; clear w0)
        refine Mild.step_call rfl 10 #[.int .i64 (wrap64 (-(M : Int)))] ?run1 (fun v w' => Rs w' v (encN (rdN l))) (fun v w w' hg h => h.gr hg) (fun w' hC _ => (rencode_r w' (wrap64 (-(M : Int))) (rdN l) HZ.out HR.out.1 HR.out.2).mono fun e w' ⟨v', he, ho, hb⟩ => ⟨v', he, hb, rfl, ho.rd⟩) (fun v w' _ hK => hK.2) ?_
        case run1 => intro w; go_simp
        intro r1 _
        simp only [Act.put, List.setIfInBounds_toArray, List.set_cons_succ, List.set_cons_zero]
        refine Mild.step_quiet F rfl rfl rfl (fun w0 hC hF K hK => ?_)
        have hcv := fun k => run_conv_rd Try.bt 9 (by kernel_rfl) (w0.drewN k) _ r1 (encN (rdN l)) (((hF 58 (by simp [Oper.looksAt, Op.operands])).2 rfl).drewN k)
        clear hC hF
        go_big_quiet_op
        refine hK _ ?_
        clear hK K hcv
        clear w0
        have c0 := fun w0 k (hC : Gr w w0) => run_conv_rd Try.bt 9 (by kernel_rfl) (w0.drewN k) _ (.slice (some ⟨b, off, none⟩) (r.length + 1) cap) _ ((hrd.out.gr hC).drewN k)
        repeat (refine Mild.step_quiet F rfl rfl rfl (fun w0 hC hF K hK => ?_); clear hF; go_big_quiet_op; refine hK _ ?_; clear hK K hC; clear w0)
        intro w2 hg2 _
        have Hb2 : Hid (Below w.heap.size w w2) := hg2
        clear hg2 F c0
        by_cases he : encN (rdN l) = l
        · have HG : Hid (decN l most = rdN l ∧ decE l most = 0) := HY.out he
          have hq : (encN (rdN l) == l) = true := by simp [he]
          clear he
          rw [hq]
          clear hq
          go_wp2
          go_ret2
          rw [HG.out.1, HG.out.2, ← HZ.out]
          exact ⟨rfl, Hb2.out⟩
        · have HG : Hid (decN l most = 0 ∧ decE l most = 15) := HN.out he
          have hq : (encN (rdN l) == l) = false := by simp [he]
          clear he
          rw [hq]
          clear hq
          go_wp2
          go_ret2
          rw [HG.out.1, HG.out.2]
          exact ⟨rfl, Hb2.out⟩
      · have d4 : decide ((c.toNat : Int) ≥ 128) = false := by simp; omega
        have HZ : Hid ((mag l : Int) = rdN l) := by
          show _ = _
          rw [H0.out, rdN_pos r c (by omega), ← H0.out]
        clear hb hcc ez HC H0
        generalize c.toNat = cc at hck d4
        generalize mag l = M at HZ
        go_wp2_with fail
        have F := encFit w (encN (rdN l))
        refine Mild.wp_region F (by kernel_rfl) (by kernel_rfl) (Below.drewN' _ _ 1) ?_
        repeat (refine Mild.step_quiet F rfl rfl rfl (fun w0 hC hF K hK => ?_); clear hF; go_big_quiet_op; refine hK _ ?_; clear hK K hC; clear w0)
        refine Mild.step_call rfl 10 #[.int .i64 ((M : Int))] ?run1 (fun v w' => Rs w' v (encN (rdN l))) (fun v w w' hg h => h.gr hg) (fun w' hC _ => (rencode_r w' ((M : Int)) (rdN l) HZ.out HR.out.1 HR.out.2).mono fun e w' ⟨v', he, ho, hb⟩ => ⟨v', he, hb, rfl, ho.rd⟩) (fun v w' _ hK => hK.2) ?_
        case run1 => intro w; go_simp
        intro r1 _
        simp only [Act.put, List.setIfInBounds_toArray, List.set_cons_succ, List.set_cons_zero]
        refine Mild.step_quiet F rfl rfl rfl (fun w0 hC hF K hK => ?_)
        have hcv := fun k => run_conv_rd Try.bt 9 (by kernel_rfl) (w0.drewN k) _ r1 (encN (rdN l)) (((hF 58 (by simp [Oper.looksAt, Op.operands])).2 rfl).drewN k)
        clear hC hF
        go_big_quiet_op
        refine hK _ ?_
        clear hK K hcv
        clear w0
        have c0 := fun w0 k (hC : Gr w w0) => run_conv_rd Try.bt 9 (by kernel_rfl) (w0.drewN k) _ (.slice (some ⟨b, off, none⟩) (r.length + 1) cap) _ ((hrd.out.gr hC).drewN k)
        repeat (refine Mild.step_quiet F rfl rfl rfl (fun w0 hC hF K hK => ?_); clear hF; go_big_quiet_op; refine hK _ ?_; clear hK K hC; clear w0)
        intro w2 hg2 _
        have Hb2 : Hid (Below w.heap.size w w2) := hg2
        clear hg2 F c0
        by_cases he : encN (rdN l) = l
        · have HG : Hid (decN l most = rdN l ∧ decE l most = 0) := HY.out he
          have hq : (encN (rdN l) == l) = true := by simp [he]
          clear he
          rw [hq]
          clear hq
          go_wp2
          go_ret2
          rw [HG.out.1, HG.out.2, ← HZ.out]
          exact ⟨rfl, Hb2.out⟩
        · have HG : Hid (decN l most = 0 ∧ decE l most = 15) := HN.out he
          have hq : (encN (rdN l) == l) = false := by simp [he]
          clear he
          rw [hq]
          clear hq
          go_wp2
          go_ret2
          rw [HG.out.1, HG.out.2]
          exact ⟨rfl, Hb2.out⟩
    | succ j =>
      have hj : j ≤ r.length := by omega
      have hck := HC.out j (by have := HLen.out; omega)
      have ek : ((j + 1 : Nat) : Int) - 1 = (j : Int) := by omega
      rw [ek]
      by_cases he : j = r.length
      · subst he
        have hcc : l[r.length]'(by have := HLen.out; omega) = c := by
          have := H0.out
          simp only [this, List.getElem_concat_length]
        rw [hcc] at hck
        have HV : Hid ((c.toNat : Int) % 128 = (num ((r ++ [UInt8.ofNat (c.toNat % 128)]).drop r.length) : Nat)) := by
          show _ = _
          simp [num, UInt8.toNat_ofNat']; omega
        have en : num ((r ++ [UInt8.ofNat (c.toNat % 128)]).drop (r.length + 1)) = 0 := by simp [num]
        rw [en]
        clear hcc ek HC H0 en
        go_wp2
        go_round
        case rel => exact ⟨r.length, by omega, rfl, by rw [HV.out]⟩
        case measure => simp [intOf]
      · have hjl : j < l.length := by have := HLen.out; omega
        have hjr : j < r.length := by omega
        have e1 : (r ++ [UInt8.ofNat (c.toNat % 128)])[j]'(by simp; omega) = l[j] := by
          have := H0.out
          simp only [this, List.getElem_append_left hjr]
        have HS : num ((r ++ [UInt8.ofNat (c.toNat % 128)]).drop j) = l[j].toNat + 256 * num ((r ++ [UInt8.ofNat (c.toNat % 128)]).drop (j + 1)) := by
          rw [num_drop _ j (by simp; omega), e1]
        have hle := num_drop_le (r ++ [UInt8.ofNat (c.toNat % 128)]) j
        have d5 : ((j : Int) == (r.length : Int)) = false := by simp; omega
        have hM := HM.out
        have hcl := l[j].toNat_lt
        generalize l[j].toNat = cc at hck HS hcl
        have HV : Hid (wrap64 (wrap64 ((num ((r ++ [UInt8.ofNat (c.toNat % 128)]).drop (j + 1)) : Int) * 256) + (cc : Int)) = (num ((r ++ [UInt8.ofNat (c.toNat % 128)]).drop j) : Int)) := by
          have hy := Nat.lt_of_le_of_lt hle (hM.1 ▸ hM.2)
          exact back_step _ _ _ HS hy
        clear hM hle HS e1 ek HC H0 he hjl hk hj
        go_wp2
        go_round
        case rel => exact ⟨j, by omega, rfl, by rw [← HV.out]⟩
        case measure => simp [intOf]

/-- The document's Decode: what is told of any bytes. -/
theorem rdecode_any (w : World) (v : Value) (B : Nat) (l : List UInt8) (most : Int) (h : Rd B w v l) (hl : l.length ≤ 1000000) :
    Calls Try.prog 14 #[v, .int .i64 most] w fun e w' => e = .returned (.tuple #[.int .i64 (decN l most), .int .i64 (decE l most)]) ∧ Below w.heap.size w w' := by
  by_cases hm : (l.length : Int) > most ∨ 8 < l.length
  · exact rdecode_long w v B l most h hl hm
  · rcases nil_or_app l with h0 | ⟨r, c, h0⟩
    · exact rdecode_nil w v B l most h (by omega) (by omega) h0
    · exact rdecode_app w v B l most h (by omega) (by omega) r c h0
end Go.Proofs.Ytcbfjhcblajkjaa
