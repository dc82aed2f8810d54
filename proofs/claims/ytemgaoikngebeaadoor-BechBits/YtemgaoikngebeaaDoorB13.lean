/-
  Contracts of the document's answer: Spread, Gather.
-/
import Derived.Test.YtemgaoikngebeaaDoorB12
namespace Go.Proofs.YtemgaoikngebeaaDoor
open Go.RowKit

theorem packed85_r (w : World) (B : Nat) (v : Value) (l : List UInt8) (h : Rd B w v l) (m : Nat) (hm : m ≤ 200000) (hl : l.length ≤ 100000) (z : Int) (hz : z = (m : Int)) (r : List UInt8) (hr : pk l 8 5 m = r) :
    Calls Tryd.prog 36 #[v, .int .i64 8, .int .i64 5, .int .i64 z] w fun x w' => ∃ v', x = .returned v' ∧ Own 5 w.heap.size w' v' r ∧ Below w.heap.size w w' := by
  subst hz hr; exact packed85 w B v l h m hm hl
theorem packed58_r (w : World) (B : Nat) (v : Value) (l : List UInt8) (h : Rd B w v l) (m : Nat) (hm : m ≤ 200000) (hl : l.length ≤ 100000) (z : Int) (hz : z = (m : Int)) (r : List UInt8) (hr : pk l 5 8 m = r) :
    Calls Tryd.prog 36 #[v, .int .i64 5, .int .i64 8, .int .i64 z] w fun x w' => ∃ v', x = .returned v' ∧ Own 5 w.heap.size w' v' r ∧ Below w.heap.size w w' := by
  subst hz hr; exact packed58 w B v l h m hm hl

set_option maxHeartbeats 1000000 in
theorem rspread_any (w : World) (B : Nat) (v : Value) (l : List UInt8) (h : Rd B w v l) (hl : l.length ≤ 100000) :
    Calls Tryd.prog 20 #[v] w fun e w' => ∃ v', e = .returned v' ∧ Own 5 w.heap.size w' v' (spr l) ∧ Below w.heap.size w w' := by
  have hrd : Hid (Rd B w v l) := h
  obtain ⟨ao, cap, rfl⟩ := h.len
  clear h
  go_enter Tryd.func20, Tryd.ntmps20
  go_wp2_with fail
  refine (packed85_r w _ _ l hrd.out ((l.length * 8 + 4) / 5) (by omega) hl _ (by go_num) _ (pk_spr l)).mono ?_
  rintro e w1 ⟨v1, rfl, ho1, hb1⟩
  go_wp2
  go_ret
  exact ⟨_, rfl, ho1, hb1⟩

/-- What the callee of Gather's comparison tells. -/
def sprWord (b : List UInt8) (f : FuncId) (_args : Array Value) (v : Value) (w : World) : Prop := f = 20 ∧ Rs w v (spr b)
theorem sprFit (w0 : World) (b : List UInt8) : Mild.Fit Gr (fun w => Gr w0 w) (sprWord b) where
  refl := Gr.refl
  trans := fun _ _ _ => Gr.trans
  inC := fun _ _ => Gr.trans
  keep := fun _ _ _ _ _ h hg => ⟨h.1, h.2.gr hg⟩

set_option maxHeartbeats 1000000 in
theorem rgather_any (w : World) (B : Nat) (v : Value) (l : List UInt8) (h : Rd B w v l) (hl : l.length ≤ 100000) :
    Calls Tryd.prog 18 #[v] w fun e w' => ∃ v', e = .returned (.tuple #[v', .int .i64 (gatE l)]) ∧ Own 5 w.heap.size w' v' (gatL l) ∧ Below w.heap.size w w' := by
  have hrd : Hid (Rs w v l) := h.rs
  obtain ⟨ao, cap, rfl⟩ := h.len
  clear h
  go_enter Tryd.func18, Tryd.ntmps18
  go_wp2
  go_loop [4] (fun i => ∃ k : Nat, k ≤ l.length ∧ i = .int .i64 k ∧ Hid ((l.take k).all (fun c => decide (c.toNat ≤ 31)) = true)) (fun i => l.length - (intOf i).toNat)
  case atStart => exact ⟨0, by omega, rfl, rfl⟩
  case round =>
    obtain ⟨k, hk, rfl, HA⟩ := hrel
    by_cases hlt : k < l.length
    · obtain ⟨b0, off, cap', ev, hcap, _, hc⟩ := hrd.out.at (by omega)
      simp only [Value.slice.injEq] at ev
      obtain ⟨rfl, _, rfl⟩ := ev
      have hck := hc k hlt
      have HS : Hid ((l.take (k + 1)).all (fun c => decide (c.toNat ≤ 31)) = ((l.take k).all (fun c => decide (c.toNat ≤ 31)) && decide (l[k].toNat ≤ 31))) := all_take_succ _ _ k hlt
      have HF : Hid (decide (l[k].toNat ≤ 31) = false → gatOk l = false) := by
        show _ → _
        intro h; rw [gatOk, all_false_of _ _ k hlt h]; simp
      generalize l[k].toNat = c at hck HS HF
      clear hc
      by_cases h1 : 31 < c
      · have d1 : decide ((c : Int) > 31) = true := by simp; omega
        have HE : Hid (gatL l = [] ∧ gatE l = 3) := gat_no (HF.out (by simp; omega))
        clear h1 HF
        go_wp2
        go_ret2
        rw [HE.out.1, HE.out.2]
        exact ⟨_, rfl, Own.nil _ _ _, Below.refl _ _⟩
      · have d1 : decide ((c : Int) > 31) = false := by simp; omega
        have HP : Hid ((l.take (k + 1)).all (fun c => decide (c.toNat ≤ 31)) = true) := by show _ = _; rw [HS.out, HA.out]; simp; omega
        clear h1 HF
        go_wp2
        go_round
        case rel => exact ⟨k + 1, by omega, by go_num, HP.out⟩
        case measure => simp [intOf]; omega
    · have hall : l.all (fun c => decide (c.toNat ≤ 31)) = true := by
        have := HA.out
        rw [List.take_of_length_le (by omega)] at this
        exact this
      have hsm : ∀ v ∈ l, v.toNat < 32 := by
        intro v hv
        rw [List.all_eq_true] at hall
        have := hall v hv
        simp at this; omega
      have HG : Hid (gatOk l = decide (spr (gat l) = l)) := by show _ = _; rw [gatOk, hall]; rfl
      have HK : Hid (pk l 5 8 (l.length * 5 / 8) = gat l) := pk_gat l hsm
      clear hall hsm HA
      go_wp2_with fail
      refine (packed58_r w _ _ l hrd.out (l.length * 5 / 8) (by omega) hl _ (by go_num) _ HK.out).mono ?_
      rintro e w1 ⟨v1, rfl, ho1, hb1⟩
      have Ho1 : Hid (Own 5 w.heap.size w1 v1 (gat l)) := ho1
      have Hb1 : Hid (Below w.heap.size w w1) := hb1
      have Hl : Hid ((gat l).length ≤ 100000) := by show _ ≤ _; rw [gat_length]; omega
      have Hr1 : Hid (Rs w1 (.slice ao l.length cap) l) := hrd.out.gr hb1
      clear ho1 hb1
      go_wp2_with fail
      have F := sprFit w1 (gat l)
      refine Mild.wp_region F (by kernel_rfl) (by kernel_rfl) (Below.drewN' _ _ 1) ?_
      repeat (refine Mild.step_quiet F rfl rfl rfl (fun w0 hC hF K hK => ?_); clear hF; go_big_quiet_op; refine hK _ ?_; clear hK K hC; clear w0)
      refine Mild.step_call rfl 20 #[v1] ?run1 (fun v w' => Rs w' v (spr (gat l))) (fun v w w' hg h => h.gr hg) (fun w' hC _ => (rspread_any w' _ v1 (gat l) (Ho1.out.rd.rs.gr hC) Hl.out).mono fun e w' ⟨v', he, ho, hb⟩ => ⟨v', he, hb, rfl, ho.rd⟩) (fun v w' _ hK => hK.2) ?_
      case run1 => intro w; go_simp
      intro r1 _
      simp only [Act.put, List.setIfInBounds_toArray, List.set_cons_succ, List.set_cons_zero]
      refine Mild.step_quiet F rfl rfl rfl (fun w0 hC hF K hK => ?_)
      have hcv := fun k => run_conv_rd Tryd.bt 9 (by kernel_rfl) (w0.drewN k) _ r1 (spr (gat l)) (((hF 24 (by simp [Oper.looksAt, Op.operands])).2 rfl).drewN k)
      clear hC hF
      go_big_quiet_op
      refine hK _ ?_
      clear hK K hcv
      clear w0
      have c0 := fun w0 k (hC : Gr w1 w0) => run_conv_rd Tryd.bt 9 (by kernel_rfl) (w0.drewN k) _ (.slice ao l.length cap) _ ((Hr1.out.gr hC).drewN k)
      repeat (refine Mild.step_quiet F rfl rfl rfl (fun w0 hC hF K hK => ?_); clear hF; go_big_quiet_op; refine hK _ ?_; clear hK K hC; clear w0)
      intro w2 hg2 _
      have Hb2 : Hid (Below w.heap.size w w2) := Gr.trans Hb1.out hg2
      have Ho2 : Hid (Own 5 w.heap.size w2 v1 (gat l)) := Ho1.out.keep hg2
      clear hg2 F c0
      cases hk2 : gatOk l with
      | true =>
        have hq : (spr (gat l) == l) = true := by have := HG.out; rw [hk2] at this; simpa using this.symm
        have HE : Hid (gatL l = gat l ∧ gatE l = 0) := gat_ok hk2
        clear hk2
        rw [hq]
        clear hq
        go_wp2
        go_ret2
        rw [HE.out.1, HE.out.2]
        exact ⟨_, rfl, Ho2.out, Hb2.out⟩
      | false =>
        have hq : (spr (gat l) == l) = false := by have := HG.out; rw [hk2] at this; simpa using this.symm
        have HE : Hid (gatL l = [] ∧ gatE l = 3) := gat_no hk2
        clear hk2
        rw [hq]
        clear hq
        go_wp2
        go_ret2
        rw [HE.out.1, HE.out.2]
        exact ⟨_, rfl, Own.nil _ _ _, Hb2.out⟩

theorem live1 : spr [255] = [31, 28] ∧ gatL [31, 28] = [255] ∧ gatE [31, 28] = 0 ∧ gatE [31, 29] = 3 ∧ ck [] = 1 := by decide +kernel
theorem spread_r (w : World) (B : Nat) (v : Value) (l : List UInt8) (h : Rd B w v l) (hl : l.length ≤ 100000) (r : List UInt8) (hr : spr l = r) :
    Calls Tryd.prog 19 #[v] w fun e w' => ∃ v', e = .returned v' ∧ Own 5 w.heap.size w' v' r ∧ Below w.heap.size w w' := by
  subst hr; exact spread_any w B v l h hl
theorem gather_r (w : World) (B : Nat) (v : Value) (l : List UInt8) (h : Rd B w v l) (hl : l.length ≤ 100000) (r : List UInt8) (x : Int) (hr : gatL l = r) (hx : gatE l = x) :
    Calls Tryd.prog 17 #[v] w fun e w' => ∃ v', e = .returned (.tuple #[v', .int .i64 x]) ∧ Own 5 w.heap.size w' v' r ∧ Below w.heap.size w w' := by
  subst hr hx; exact gather_any w B v l h hl
theorem rgather_r (w : World) (B : Nat) (v : Value) (l : List UInt8) (h : Rd B w v l) (hl : l.length ≤ 100000) (r : List UInt8) (x : Int) (hr : gatL l = r) (hx : gatE l = x) :
    Calls Tryd.prog 18 #[v] w fun e w' => ∃ v', e = .returned (.tuple #[v', .int .i64 x]) ∧ Own 5 w.heap.size w' v' r ∧ Below w.heap.size w w' := by
  subst hr hx; exact rgather_any w B v l h hl

set_option maxHeartbeats 1000000 in
theorem alive_any (w : World) (ht : Tn w) : Calls Tryd.prog 10 #[] w fun e w' => e = .returned (.bool true) ∧ Below w.heap.size w w' := by
  have HL : Hid (spr [255] = [31, 28] ∧ gatL [31, 28] = [255] ∧ gatE [31, 28] = 0 ∧ gatE [31, 29] = 3 ∧ ck [] = 1) := live1
  have HT : Hid (Tn w) := ht
  clear ht
  go_enter Tryd.func10, Tryd.ntmps10
  go_wp2_with fail
  refine (spread_r _ _ _ [255] (Rd.lit 5 w [255] _ rfl 1 rfl) (by decide) _ HL.out.1).mono ?_
  rintro e w1 ⟨v1, rfl, ho1, hb1⟩
  have Hb1 : Hid (Gr w w1) := Gr.trans ((Below.refl _ _).alloc (Nat.le_refl _) _) hb1
  have Ho1 : Hid (Rs w1 v1 [31, 28]) := ho1.rd
  clear ho1 hb1
  go_wp2_with fail
  refine (gather_r _ _ _ [31, 28] (Rd.lit 5 w1 [31, 28] _ rfl 2 rfl) (by decide) _ _ HL.out.2.1 HL.out.2.2.1).mono ?_
  rintro e w2 ⟨v2, rfl, ho2, hb2⟩
  have hg2 : Gr w1 w2 := Gr.trans ((Below.refl _ _).alloc (Nat.le_refl _) _) hb2
  have Hb2 : Hid (Gr w w2) := Gr.trans Hb1.out hg2
  have Ho12 : Hid (Rs w2 v1 [31, 28]) := Ho1.out.gr hg2
  have Ho2 : Hid (Rs w2 v2 [255]) := ho2.rd
  clear ho2 hb2 hg2 Ho1 Hb1
  go_wp2_with fail
  refine (gather_r _ _ _ [31, 29] (Rd.lit 5 w2 [31, 29] _ rfl 2 rfl) (by decide) _ _ rfl HL.out.2.2.2.1).mono ?_
  rintro e w3 ⟨v3, rfl, ho3, hb3⟩
  have hg3 : Gr w2 w3 := Gr.trans ((Below.refl _ _).alloc (Nat.le_refl _) _) hb3
  have Hb3 : Hid (Gr w w3) := Gr.trans Hb2.out hg3
  have Ho13 : Hid (Rs w3 v1 [31, 28]) := Ho12.out.gr hg3
  have Ho23 : Hid (Rs w3 v2 [255]) := Ho2.out.gr hg3
  clear ho3 hb3 hg3 Ho12 Ho2 Hb2
  obtain ⟨b1, o1, c1, rfl, hc1, _, hv1⟩ := Ho13.out.at (by decide)
  obtain ⟨b2, o2, c2, rfl, hc2, _, hv2⟩ := Ho23.out.at (by decide)
  have q1 := hv1 0 (by decide)
  have q2 := hv1 1 (by decide)
  have q3 := hv2 0 (by decide)
  have HC := HL.out.2.2.2.2
  have HC2 : Hid (ck [] = 1) := HC
  clear hv1 hv2 HC HL
  simp at q1 q2 q3
  go_wp2_with (go_at_call 11; refine (check_r _ 0 _ [] (Rd.nil _ _) (by decide) (HT.out.gr Hb3.out) 1 HC2.out).mono ?_; rintro e w' ⟨rfl, rfl⟩)
  go_ret
  exact ⟨rfl, Hb3.out⟩
end Go.Proofs.YtemgaoikngebeaaDoor
