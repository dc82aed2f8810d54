/-
  What the law CompactOnly comes to: true, and nothing that was there has turned; for whatever bytes and limits.
-/
import Derived.Test.YtjobmpfnnfmonaaW10
namespace Go.Proofs.Ytjobmpfnnfmonaa
open Go.RowKit

theorem strsL_ge : ∀ (ls : List (List UInt8)), ls.length ≤ (strsL ls).length ∧ ∀ x ∈ ls, x.length ≤ (strsL ls).length
  | [] => by simp [strsL]
  | x :: ls => by
    obtain ⟨h1, h2⟩ := strsL_ge ls
    have hp : 0 < (sizeL x.length).length := by
      unfold sizeL
      split
      · simp [le_length]
      · split
        · simp
        · split <;> simp
    rw [strsL_cons]
    simp only [strL, List.length_append, List.length_cons]
    refine ⟨by omega, fun y hy => ?_⟩
    rcases List.mem_cons.1 hy with rfl | hy
    · omega
    · have := h2 y hy; omega

/-- What the callees of the law's last statement tell. -/
def onlyWord (ls : List (List UInt8)) (f : FuncId) (_args : Array Value) (v : Value) (w : World) : Prop :=
  (f = 10 ∧ v = .bool true) ∨ (f = 18 ∧ Rs w v (listL ls))

theorem onlyFit (w0 : World) (ls : List (List UInt8)) : Mild.Fit Gr (fun w => Gr w0 w) (onlyWord ls) where
  refl := Gr.refl
  trans := fun _ _ _ => Gr.trans
  inC := fun _ _ => Gr.trans
  keep := by
    rintro f args v w w' (h | ⟨h1, h3⟩) hg
    · exact .inl h
    · exact .inr ⟨h1, h3.gr hg⟩

theorem takeList_r (w : World) (v : Value) (l : List UInt8) (many most : Int) (g0 : -9223372036854775808 ≤ many) (g1 : many ≤ 9223372036854775807) (h0 : -9223372036854775808 ≤ most) (h1 : most ≤ 9223372036854775807) (ls : List (List UInt8)) (rest : List UInt8) (er : Nat) (hr : takeList l many most = (ls, rest, er)) (h : Rs w v l) (hl : l.length ≤ 100000) :
    Calls Try.prog 31 #[v, .int .i64 many, .int .i64 most] w fun e w' => ∃ v1 v2, e = .returned (.tuple #[v1, v2, .int .i64 (er : Nat)]) ∧ OwnL 22 5 w.heap.size w' v1 ls ∧ Own 5 w.heap.size w' v2 rest ∧ Below w.heap.size w w' := by
  have := takeList_any w v l many most g0 g1 h0 h1 h hl
  rw [hr] at this
  exact this

set_option maxRecDepth 100000 in
set_option maxHeartbeats 2000000 in
theorem only_small (w : World) (v : Value) (l : List UInt8) (many most : Int) (g0 : -9223372036854775808 ≤ many) (g1 : many ≤ 9223372036854775807) (h0 : -9223372036854775808 ≤ most) (h1 : most ≤ 9223372036854775807) (h : Rs w v l) (hl : l.length ≤ 300) :
    Calls Try.prog 9 #[v, .int .i64 many, .int .i64 most] w fun e w' => e = .returned (.bool true) ∧ Below w.heap.size w w' := by
  have hrd : Hid (Rs w v l) := h
  obtain ⟨ao, cap, rfl⟩ := Rd.len h
  obtain ⟨ls, rest, er, hr⟩ : ∃ ls rest er, takeList l many most = (ls, rest, er) := ⟨_, _, _, rfl⟩
  have HT : Hid (Calls Try.prog 31 #[.slice ao l.length cap, .int .i64 many, .int .i64 most] w fun e w' => ∃ v1 v2, e = .returned (.tuple #[v1, v2, .int .i64 (er : Nat)]) ∧ OwnL 22 5 w.heap.size w' v1 ls ∧ Own 5 w.heap.size w' v2 rest ∧ Below w.heap.size w w') := takeList_r w _ l many most g0 g1 h0 h1 ls rest er hr h (by omega)
  have honly := takeList_only l many most
  have herr := takeList_err l many most
  rw [hr] at honly herr
  simp only at honly herr
  clear h hr g0 g1 h0 h1
  by_cases he : er = 0
  · subst he
    obtain ⟨k1, k2⟩ := honly rfl
    clear honly herr
    have hlen := congrArg List.length k1
    have hge := strsL_ge ls
    have hls : ls.length ≤ 300 ∧ ∀ x ∈ ls, x.length ≤ 300 := by
      simp only [listL, List.length_append] at hlen
      exact ⟨by omega, fun x hx => by have := hge.2 x hx; omega⟩
    have Hk1 : Hid (listL ls ++ rest = l) := k1
    have Hls : Hid (ls.length ≤ 300 ∧ ∀ x ∈ ls, x.length ≤ 300) := hls
    clear k1 hlen hge hls
    go_enter Try.func9, Try.ntmps9
    go_wp2_with fail
    refine HT.out.mono ?_
    rintro e w1 ⟨v1, v2, rfl, ho1, ho2, hb1⟩
    have Q1 : Hid (RsL w1 v1 ls) := ho1.rd
    have h2 : Rs w1 v2 rest := ho2.rd
    obtain ⟨a1, c1, rfl⟩ := ho1.rd.len
    have h0 : Rs w1 (.slice ao l.length cap) l := hrd.out.gr hb1
    have Hb1 : Hid (Gr w w1) := hb1
    clear ho1 ho2 hb1
    go_wp2_with fail
    have F := onlyFit w1 ls
    refine Mild.wp_region F (by kernel_rfl) (by kernel_rfl) (Below.drewN' _ _ 1) ?_
    refine Mild.step_call rfl 10 #[] ?run (fun v _ => v = .bool true) (fun v w w' _ h => h) (fun w _ _ => (alive_any w).mono fun e w' ⟨he, hb⟩ => ⟨_, he, hb, .inl ⟨rfl, rfl⟩⟩) ?hk ?_
    case run => intro w; go_simp
    case hk =>
      rintro v w' _ (⟨_, hv⟩ | ⟨hf, _⟩)
      · exact hv
      · exact absurd hf (by decide)
    intro v hv
    obtain ⟨_, _, rfl⟩ := hv (by simp)
    simp only [Act.put, List.setIfInBounds_toArray, List.set_cons_succ, List.set_cons_zero]
    have c0 := fun w0 k (hC : Gr w1 w0) => run_conv_rd Try.bt 9 (by kernel_rfl) (w0.drewN k) _ (.slice ao l.length cap) _ ((h0.gr hC).drewN k)
    have c2 := fun w0 k (hC : Gr w1 w0) => run_conv_rd Try.bt 9 (by kernel_rfl) (w0.drewN k) _ v2 _ ((h2.gr hC).drewN k)
    repeat (refine Mild.step_quiet F rfl rfl rfl (fun w0 hC hF K hK => ?_); clear hF; go_big_quiet_op; refine hK _ ?_; clear hK K hC; clear w0)
    refine Mild.step_call rfl 18 #[.slice none 0 0, .slice a1 ls.length c1] ?run1 (fun v w => Rs w v (listL ls)) (fun v w w' hg h => h.gr hg) (fun w hC _ => (putList_any w 0 _ _ [] ls (Rd.nil _ _) (Q1.out.gr hC) (by simp) (by have := Hls.out.1; omega) (fun x hx => by have := Hls.out.2 x hx; omega)).mono fun e w' ⟨v', he, ho, hb⟩ => ⟨v', he, hb, .inr ⟨rfl, ho.rd⟩⟩) ?hk1 ?_
    case run1 => intro w; go_simp
    case hk1 =>
      rintro v w' _ (⟨hf, _⟩ | ⟨hf, hv⟩)
      · exact absurd hf (by decide)
      · exact hv
    intro r1 _
    simp only [Act.put, List.setIfInBounds_toArray, List.set_cons_succ, List.set_cons_zero]
    refine Mild.step_quiet F rfl rfl rfl (fun w0 hC hF K hK => ?_)
    have hcv := fun k => run_conv_rd Try.bt 9 (by kernel_rfl) (w0.drewN k) _ r1 (listL ls) (((hF 44 (by simp [Oper.looksAt, Op.operands])).2 rfl).drewN k)
    clear hC hF
    go_big_quiet_op
    refine hK _ ?_
    clear hK K hcv
    clear w0
    repeat (refine Mild.step_quiet F rfl rfl rfl (fun w0 hC hF K hK => ?_); clear hF; go_big_quiet_op; refine hK _ ?_; clear hK K hC; clear w0)
    have hlen := congrArg List.length Hk1.out
    have hadd : ∀ w, (Op.stringOp .add ⟨(listL ls).toArray⟩ ⟨rest.toArray⟩).run Try.prog w = .ok (.string ⟨l.toArray⟩) w := by
      intro w
      have e1 : (⟨(listL ls).toArray⟩ : ByteArray).size = (listL ls).length := rfl
      have e2 : (⟨rest.toArray⟩ : ByteArray).size = rest.length := rfl
      rw [run_string_add_sum (P := Try.prog) w _ _ (by rw [e1, e2]; simp at hlen; omega)]
      congr 2
      have := Hk1.out
      apply ByteArray.ext
      simp [← this]
    clear hlen
    repeat (refine Mild.step_quiet F rfl rfl rfl (fun w0 hC hF K hK => ?_); clear hF; go_big_quiet_op; refine hK _ ?_; clear hK K hC; clear w0)
    intro w5 hg5 _
    have hfin : Hid (Below w.heap.size w w5) := Gr.trans Hb1.out hg5
    clear c0 c2 h0 h2 hg5 F hadd
    go_wp2
    go_ret
    exact ⟨rfl, hfin.out⟩
  · obtain ⟨rfl, rfl⟩ := herr he
    clear honly herr
    have d1 : ((er : Int) != 0) = true := by simp; omega
    go_enter Try.func9, Try.ntmps9
    go_wp2_with fail
    refine HT.out.mono ?_
    rintro e w1 ⟨v1, v2, rfl, ho1, ho2, hb1⟩
    obtain ⟨a1, c1, rfl⟩ := ho1.rd.len
    obtain ⟨a2, c2, rfl⟩ := ho2.rd.len
    have Hb1 : Hid (Gr w w1) := hb1
    clear ho1 ho2 hb1
    go_wp2_with fail
    refine (alive_any _).mono ?_
    rintro e w2 ⟨rfl, hb2⟩
    have hfin : Hid (Below w.heap.size w w2) := Gr.trans Hb1.out hb2
    clear hb2
    go_wp2
    go_ret
    exact ⟨rfl, hfin.out⟩

set_option maxRecDepth 100000 in
set_option maxHeartbeats 400000 in
theorem only_large (w : World) (ao : Option Addr) (len cap : Nat) (z z' : Int) (hl : 300 < len) :
    Calls Try.prog 9 #[.slice ao len cap, .int .i64 z, .int .i64 z'] w fun e w' => e = .returned (.bool true) ∧ Below w.heap.size w w' := by
  go_enter Try.func9, Try.ntmps9
  go_wp2_with (go_at_call 10; refine (alive_any _).mono ?_; rintro e w1 ⟨rfl, hb1⟩)
  go_ret
  exact ⟨rfl, hb1⟩

end Go.Proofs.Ytjobmpfnnfmonaa
