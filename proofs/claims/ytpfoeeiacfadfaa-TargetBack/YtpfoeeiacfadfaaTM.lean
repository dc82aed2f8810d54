/-
  Package target's Meets, as the reckoner calls it: it turns its own copy of the hash about.
-/
import Derived.Test.YtpfoeeiacfadfaaQT
import Derived.Test.YtpfoeeiacfadfaaTRv
namespace Go.Proofs.Ytpfoeeiacfadfaa
open Go.RowKit

theorem Try.ahM : AT Try.prog 30 5 32 (.int .u8 0) := ⟨by kernel_rfl, by kernel_rfl, by kernel_rfl, by kernel_rfl⟩
theorem x_leqZ {P : Program} {ρ : Operand → Value} {o : Oper} {w : World} (x y : Operand) (T U : TypeId) (ho : o.op = .binOp .leq T x y U) (X Y : Int) (k : IntKind) (hx : ρ x = .int k X) (hy : ρ y = .int k Y) : (execOp ρ o).run P w = .ok (.value (.bool (decide (X ≤ Y)))) w := by
  unfold execOp
  simp only [ho, hx, hy, Sem.run_bind, run_eqGuard_no .leq (by decide), Result.andThen_ok, binOp, Op.intCmp, ne_eq, not_true_eq_false, if_false, Sem.run_pure]
theorem z4w : List.replicate 4 (Value.int .u64 0) = c64 (w4 0) := by rw [w4_eq]; rfl
theorem c64w_len (n : Nat) : (c64 (w4 n)).length = 4 := by rw [w4_eq]; rfl
theorem c64w_one (n : Nat) : ∀ c ∈ c64 (w4 n), c.oneCell' = true := fun c hc => by
  unfold c64 at hc
  obtain ⟨x, _, rfl⟩ := List.mem_map.1 hc
  rfl

set_option maxHeartbeats 1000000 in
theorem meets_any (l : List UInt8) (hl : l.length = 32) (bv : Value) (t a : Nat) (e : Int) (r : Bool) (hr : r = (decide (e = 0) && decide (cmpN a t ≤ 0)))
    (HE : ∀ w, Calls Try.prog 32 #[bv] w fun en w' => (t < M ∧ en = .returned (.tuple #[wv t, .int .i64 e])) ∧ Below w.heap.size w w')
    (HR : e = 0 → ∀ w, Calls Try.prog 55 #[.agg (cellsOf l.reverse).toArray] w fun en w' => (a < M ∧ en = .returned (wv a)) ∧ Below w.heap.size w w') (w : World) :
    Calls Try.prog 37 #[.agg (cellsOf l).toArray, bv] w fun en w' => en = .returned (.bool r) ∧ Below w.heap.size w w' := by
  have m0 := Mo.start w
  obtain ⟨W, hW⟩ : ∃ W : Value, W = wv t := ⟨_, rfl⟩
  rw [← hW] at HE
  have hWc : W.cells = (c64 (w4 t)).toArray := by rw [hW]; rfl
  refine enter [.agg (cellsOf l).toArray, bv] 23 Try.func37 rfl Try.ntmps37 (Nat.le_of_ble_eq_true rfl) ?_
  refine sq ?_
  refine cz [(0, .agg (cellsOf l).toArray), (1, bv)] ⟨rfl, rfl, trivial⟩ (fun _ => ?_)
  refine rp [2, 0] ?_
  refine k2 (wt_none rfl _) rfl (x_box 30 (.tmp 0) rfl m0 (cellsOf l) rfl) ?_
  rintro _ w1 ⟨g, rfl, m1⟩
  refine ⟨trivial, ?_⟩
  refine k0 (wt_none rfl _) rfl (.bool false) (fun _ _ => exec_move (.const (.bool false)) (.inr rfl) _ rfl) ?_
  refine kend ?_
  refine th_n ?_
  refine sq ?_
  refine cz [(1, bv), (2, .pointer (some ⟨g, 0, none⟩)), (4, .bool false)] ⟨rfl, rfl, rfl, trivial⟩ (fun _ => ?_)
  refine rp [0, 2, 0, 0, 0, 2, 2, 0] ?_
  refine k0 (wt_none rfl _) rfl bv (fun _ _ => exec_move (.tmp 1) (.inl rfl) _ rfl) ?_
  refine kc (wt_none rfl _) rfl (x_cl1 (v0 := bv) rfl rfl (by kernel_rfl)) (HE _) ?_
  rintro _ w2 ⟨⟨ht, rfl⟩, b2⟩
  have m2 : Mo w w2 [.arr g 30 (cellsOf l)] := m1.gr b2
  refine ⟨_, rfl, trivial, ?_⟩
  refine k0 (wt_none rfl _) rfl (.tuple #[W, .int .i64 e]) (fun _ _ => exec_move (.tmp 9) (.inl rfl) _ rfl) ?_
  refine k0 (wt_none rfl _) rfl W (fun _ _ => exec_extract (.tmp 7) 0 rfl [W, .int .i64 e] _ rfl rfl) ?_
  refine k0 (wt_none rfl _) rfl (.int .i64 e) (fun _ _ => exec_extract (.tmp 7) 1 rfl [W, .int .i64 e] _ rfl rfl) ?_
  refine k2 (wt_none rfl _) rfl (x_alc Try.aw rfl m2 (c64 (w4 0)) z4w) ?_
  rintro _ w3 ⟨g2, rfl, m3⟩
  refine ⟨trivial, ?_⟩
  refine ks (wt_none rfl _) rfl rfl (x_sta (.tmp 5) (.tmp 10) rfl m3 0 rfl 0 (c64 (w4 t)) (c64 (w4 t)) (at_size Try.aw (c64w_len t)) (sta_len (c64w_len 0) (c64w_len t)) (c64w_one t) (sta_all (c64w_len 0) (c64w_len t)) rfl W hWc rfl) ?_
  rintro w4 m4
  have m5 : Mo w w4 [.arr g2 24 (c64 (_root_.Go.Proofs.Ytpfoeeiacfadfaa.w4 t)), .arr g 30 (cellsOf l)] := m4
  refine ⟨trivial, ?_⟩
  refine k0 (wt_none rfl _) rfl (.int .i64 e) (fun _ _ => exec_move (.tmp 11) (.inr rfl) _ rfl) ?_
  refine kend ?_
  refine th_n ?_
  refine sq ?_
  refine cz [(2, .pointer (some ⟨g, 0, none⟩)), (4, .bool false), (5, .pointer (some ⟨g2, 0, none⟩)), (6, .int .i64 e)] ⟨rfl, rfl, rfl, rfl, trivial⟩ (fun _ => ?_)
  refine rp [0, 2] ?_
  refine k0 (wt_none rfl _) rfl (.slice (some ⟨g, 0, none⟩) 32 32) (fun _ _ => x_sla Try.ahM (.tmp 2) rfl g rfl) ?_
  refine kc (wt_none rfl _) rfl (x_cl1 (v0 := .slice (some ⟨g, 0, none⟩) 32 32) rfl rfl (by kernel_rfl)) (reverse_any m5 1 g 30 l hl rfl) ?_
  rintro _ w6 ⟨rfl, m6⟩
  have m7 : Mo w w6 [.arr g2 24 (c64 (_root_.Go.Proofs.Ytpfoeeiacfadfaa.w4 t)), .arr g 30 (cellsOf l.reverse)] := m6
  refine ⟨_, rfl, trivial, ?_⟩
  refine kend ?_
  refine th_n ?_
  refine sq ?_
  refine cz [(2, .pointer (some ⟨g, 0, none⟩)), (4, .bool false), (5, .pointer (some ⟨g2, 0, none⟩)), (6, .int .i64 e)] ⟨rfl, rfl, rfl, rfl, trivial⟩ (fun _ => ?_)
  have m8 := m7.drew
  have hrl : (cellsOf l.reverse).length = 32 := by rw [cellsOf_length, List.length_reverse, hl]
  refine rq (fun w2 => Mo w w2 [.arr g2 24 (c64 (_root_.Go.Proofs.Ytpfoeeiacfadfaa.w4 t)), .arr g 30 (cellsOf l.reverse)]) [0, 0, 0, 0, 2, 0, 2, 0, 0, 0] (by kernel_rfl) (by kernel_rfl) (by kernel_rfl) m8 ?_
  refine k0 (wt_none rfl _) rfl (.int .i64 e) (fun _ _ => exec_move (.tmp 6) (.inl rfl) _ rfl) ?_
  by_cases he : e = 0
  · have he' : (e == (0 : Int)) = true := by rw [he]; rfl
    refine k0 (wt_none rfl _) rfl (.bool true) (fun _ _ => (x_eqi (.tmp 14) (.const (.int .i64 0)) _ _ rfl e 0 .i64 rfl rfl).trans (by rw [he'])) ?_
    refine k0 (wt_none rfl _) rfl (.bool true) (fun _ _ => exec_move (.tmp 15) (.inl rfl) _ rfl) ?_
    refine k0 (wt_some rfl rfl rfl rfl) rfl (.agg (cellsOf l.reverse).toArray) (fun _ m' => x_lda Try.ahM (.tmp 2) rfl (m'.arc 1 rfl 32) 0 (by decide) (cellsOf l.reverse) hrl (by decide) (fun i u hu => by rw [Nat.zero_add]; exact hu) rfl) ?_
    refine kc (wt_some rfl rfl rfl rfl) rfl (x_cl1 (v0 := .agg (cellsOf l.reverse).toArray) rfl rfl (by kernel_rfl)) (HR he _) ?_
    rintro _ w9 ⟨⟨ha, rfl⟩, b9⟩
    have m9 := m8.gr b9
    refine ⟨_, rfl, m9, ?_⟩
    refine k0 (wt_some rfl rfl rfl rfl) rfl (.agg (c64 (_root_.Go.Proofs.Ytpfoeeiacfadfaa.w4 t)).toArray) (fun _ m' => x_lda Try.aw (.tmp 5) rfl (m'.arc 0 rfl 4) 0 (by decide) (c64 (_root_.Go.Proofs.Ytpfoeeiacfadfaa.w4 t)) (c64w_len t) (by decide) (fun i u hu => by rw [Nat.zero_add]; exact hu) rfl) ?_
    refine kc (wt_some rfl rfl rfl rfl) rfl (x_cl2 (v0 := wv a) (v1 := wv t) rfl rfl rfl (by kernel_rfl)) (cmp_any a t ha ht _) ?_
    rintro _ w10 ⟨rfl, b10⟩
    have m10 := m9.gr b10
    refine ⟨_, rfl, m10, ?_⟩
    refine k0 (wt_some rfl rfl rfl rfl) rfl (.bool (decide (cmpN a t ≤ 0))) (fun _ _ => x_leqZ (.tmp 20) (.const (.int .i64 0)) _ _ rfl (cmpN a t) 0 .i64 rfl rfl) ?_
    refine k0 (wt_none rfl _) rfl (.bool (decide (cmpN a t ≤ 0))) (fun _ _ => x_pick (.tmp 16) (.tmp 21) (.const (.bool false)) rfl true _ rfl rfl) ?_
    refine k0 (wt_none rfl _) rfl (.bool (decide (cmpN a t ≤ 0))) (fun _ _ => exec_move (.tmp 22) (.inr rfl) _ rfl) ?_
    refine kend ?_
    refine th_n ?_
    refine re ?_
    refine rt1 rfl ?_
    exact ⟨by rw [hr, decide_eq_true he, Bool.true_and]; rfl, m10.below⟩
  · have he' : (e == (0 : Int)) = false := by simp [he]
    refine k0 (wt_none rfl _) rfl (.bool false) (fun _ _ => (x_eqi (.tmp 14) (.const (.int .i64 0)) _ _ rfl e 0 .i64 rfl rfl).trans (by rw [he'])) ?_
    refine k0 (wt_none rfl _) rfl (.bool false) (fun _ _ => exec_move (.tmp 15) (.inl rfl) _ rfl) ?_
    refine kn (wt_not rfl rfl rfl rfl) ?_
    refine kn (wt_not rfl rfl rfl rfl) ?_
    refine kn (wt_not rfl rfl rfl rfl) ?_
    refine kn (wt_not rfl rfl rfl rfl) ?_
    refine kn (wt_not rfl rfl rfl rfl) ?_
    refine k0 (wt_none rfl _) rfl (.bool false) (fun _ _ => x_pick (.tmp 16) (.tmp 21) (.const (.bool false)) rfl false _ rfl rfl) ?_
    refine k0 (wt_none rfl _) rfl (.bool false) (fun _ _ => exec_move (.tmp 22) (.inr rfl) _ rfl) ?_
    refine kend ?_
    refine th_n ?_
    refine re ?_
    refine rt1 rfl ?_
    exact ⟨by rw [hr, decide_eq_false he]; rfl, m8.below⟩
end Go.Proofs.Ytpfoeeiacfadfaa
namespace Go.Proofs.Ytpfoeeiacfadfaa.Q
open Go.RowKit

/-- What is reckoned, of a function that tells data alone: as a contract. -/
theorem calls_of {P : Program} {f : FuncId} {hd : Hd} (h : FnG P f hd) (hfl : hd.rks.all flatK = true) {d : Dat hd.pks} {y : Dat hd.rks} (hm : hd.fm d = some y) {vs : List Value} {w : World} (ha : ArgR (fun _ => False) w hd.pks d vs) :
    Calls P f vs.toArray w fun e w' => ∃ v, e = .returned v ∧ Below w.heap.size w w' ∧ SVR (fun _ => False) w' [] [] (svOf (resL 0 hd.rks y).1) v := by
  have m0 : MR P (fun _ => False) w w [] [] := ⟨⟨Below.refl _ _, fun i r hi => by simp at hi, fun i j a b g _ hi => by simp at hi⟩, rfl, fun r c q hc => by simp at hc, fun g hg => hg.elim⟩
  refine (h.2 (fun _ => False) w w d y vs hm ha m0).mono ?_
  rintro en w' ⟨L', v, rfl, m', hs, hv⟩
  exact ⟨v, rfl, m'.mo.below, svr_tr (l := (resL 0 hd.rks y).1) (resL_len.1) (flat_res hfl).2 hv⟩
theorem rc_b8 {S : Nat → Prop} {w : World} : ∀ {css : List (List Value)} {x : List UInt8}, All2 (RC S w (.int .u8)) css x → css.flatten = cellsOf x
  | [], [], _ => rfl
  | c :: css, u :: x, h => by
    rw [List.flatten_cons, rc_b8 h.2, show c = [.int .u8 (u.toNat : Int)] from h.1]; rfl
  | [], _ :: _, h => h.elim
  | _ :: _, [], h => h.elim
theorem a1b {F : Nat → Prop} {w : World} {n : Nat} {x : List UInt8} {v : Value} (h : Arg1 F w (.d (.arr n (.int .u8))) x v) : x.length = n ∧ v = .agg (cellsOf x).toArray := by
  obtain ⟨cs, hv, hl, css, rfl, hc⟩ := h
  refine ⟨hl, ?_⟩
  rw [hv, rc_b8 hc]
  rfl
theorem b_avr {F : Nat → Prop} {w : World} {n : Nat} {x : List UInt8} (hl : x.length = n) : Arg1 F w (.d (.arr n (.int .u8))) x (.agg (cellsOf x).toArray) := by
  refine ⟨_, rfl, hl, x.map fun c => [Value.int .u8 (c.toNat : Int)], ?_, ?_⟩
  · clear hl
    induction x with
    | nil => rfl
    | cons c l ih => rw [List.map_cons, List.flatten_cons, ← ih]; rfl
  · clear hl
    induction x with
    | nil => trivial
    | cons c l ih => exact ⟨rfl, ih⟩
theorem rev_len {l : List UInt8} {n : Nat} (h : l.length = n) : l.reverse.length = n := by rw [List.length_reverse, h]
noncomputable def fMeets : List UInt8 × UInt32 → Option Bool := hide fun d => bnd (T.m32 d.2) fun y => cnd (decide (y.2 = (0 : Int))) (bnd (m55 d.1.reverse) fun a => some (decide (cmpN (val a) (val y.1) ≤ 0))) (some false)
theorem fMeets_eq (d : List UInt8 × UInt32) : fMeets d = bnd (T.m32 d.2) fun y => cnd (decide (y.2 = (0 : Int))) (bnd (m55 d.1.reverse) fun a => some (decide (cmpN (val a) (val y.1) ≤ 0))) (some false) := congrFun (hide_eq _) d
noncomputable def hd37 : Hd := ⟨[.d (.arr 32 (.int .u8)), .d (.int .u32)], [.d .bool], fMeets⟩
theorem fn37 : FnOk Try.prog 37 hd37 := fn_of (by kernel_rfl) rfl fun F w d y vs hf ha => by
  obtain ⟨v, us, rfl, h1, u, rfl, h2⟩ := ha
  obtain ⟨l1, rfl⟩ := a1b h1
  obtain rfl := a1i h2
  obtain ⟨z, hz, hf⟩ := bnd_some ((fMeets_eq _).symm.trans hf)
  have fin : ∀ (a : Nat), y = (decide (z.2 = (0 : Int)) && decide (cmpN a (val z.1) ≤ 0)) → (z.2 = 0 → ∀ w, Calls Try.prog 55 #[.agg (cellsOf d.1.reverse).toArray] w fun en w' => (a < M ∧ en = .returned (wv a)) ∧ Below w.heap.size w w') →
      Calls Try.prog 37 #[.agg (cellsOf d.1).toArray, .int .u32 (toI .u32 d.2)] w fun en w' => ∃ v, en = .returned v ∧ Below w.heap.size w w' ∧ SVR F w' [] [] (.one (.dat .bool y)) v := fun a hy HR => by
    refine (meets_any d.1 l1 _ (val z.1) a z.2 y hy (fun w => ?_) HR w).mono fun en w' h => ⟨_, h.1, h.2, (avr_bool (mem := []) (L := [])).2 rfl⟩
    refine (calls_of T.gn32 rfl (d := d.2) (y := z) hz (vs := [.int .u32 (toI .u32 d.2)]) ⟨_, rfl, i_avr (mem := []) (L := []) (k := .u32) d.2⟩).mono ?_
    rintro en w' ⟨v, rfl, hb, vs, rfl, q⟩
    refine ⟨?_, hb⟩
    match vs, q with
    | [p, q], ⟨q1, q2, _⟩ =>
      obtain ⟨k1, rfl⟩ := avr_w (mem := []) (L := []) q1
      have q2' : AVR (fun _ => False) w' [] [] (.dat (.int .i64) z.2) q := q2
      obtain rfl := avr_i q2'
      exact ⟨val_lt k1, rfl⟩
  by_cases h0 : z.2 = 0
  · have hf' : bnd (m55 d.1.reverse) (fun a => some (decide (cmpN (val a) (val z.1) ≤ 0))) = some y := by
      rw [decide_eq_true h0] at hf; exact hf
    obtain ⟨x, hx, hy⟩ := bnd_some hf'
    obtain rfl := Option.some.inj hy
    refine fin (val x) (by rw [decide_eq_true h0, Bool.true_and]) fun _ w => ?_
    refine (calls_of gn55 rfl (d := d.1.reverse) (y := x) hx (vs := [.agg (cellsOf d.1.reverse).toArray]) ⟨_, rfl, b_avr (rev_len l1)⟩).mono ?_
    rintro en w' ⟨v, rfl, hb, q⟩
    obtain ⟨k1, rfl⟩ := avr_w (mem := []) (L := []) q
    exact ⟨⟨val_lt k1, rfl⟩, hb⟩
  · have hf' : some false = some y := by
      rw [decide_eq_false h0] at hf; exact hf
    obtain rfl := Option.some.inj hf'
    exact fin 0 (by rw [decide_eq_false h0]; rfl) fun h => absurd h h0
end Go.Proofs.Ytpfoeeiacfadfaa.Q
