/-
  A frame whose slots are as a list tells; the steps of a walk over such frames, each told by one line.
-/
import Derived.Test.YtpfoeeiacfadfaaSeq
namespace Go.Proofs.Ytpfoeeiacfadfaa
open Go.RowKit

/-- What the list has at a slot: its first entry counts. -/
def lk : List (Nat × Value) → Nat → Option Value
  | [], _ => none
  | (k, v) :: s, n => bif Nat.beq k n then some v else lk s n
def gv (s : List (Nat × Value)) (n : Nat) : Value := match lk s n with | some v => v | none => undef
/-- THE FRAME OF N SLOTS THAT THE LIST TELLS. -/
def A (N : Nat) (s : List (Nat × Value)) : Act := ⟨((List.range N).map (gv s)).toArray, []⟩
def ev (N : Nat) (s : List (Nat × Value)) : Operand → Value
  | .tmp k => bif Nat.blt k N then gv s k else undef
  | .const v => v
  | .global g => .pointer (some ⟨g, 0, none⟩)
  | .func f => .func (.func f) #[] #[]
def put (d : Option Tmp) (v : Value) (s : List (Nat × Value)) : List (Nat × Value) := match d with | some d => (d, v) :: s | none => s
def All (s : List (Nat × Value)) : List (Nat × Value) → Prop
  | [] => True
  | (k, v) :: r => lk s k = some v ∧ All s r

section
variable {N : Nat} {s : List (Nat × Value)}
theorem A_get (k : Nat) : (A N s).tmps[k]? = if k < N then some (gv s k) else none := by
  unfold A
  simp only [List.getElem?_toArray, List.getElem?_map]
  by_cases h : k < N
  · rw [List.getElem?_range h]; simp [h]
  · rw [List.getElem?_eq_none (by simpa using h)]; simp [h]
theorem A_eval : (A N s).eval = ev N s := by
  funext x
  cases x with
  | tmp k =>
    show (A N s).tmps.getD k undef = _
    rw [Array.getD_eq_getD_getElem?, A_get]
    unfold ev
    by_cases h : k < N
    · have : Nat.blt k N = true := by simpa [Nat.blt_eq] using h
      simp [h, this]
    · have : Nat.blt k N = false := by
        cases hb : Nat.blt k N with
        | false => rfl
        | true => exact absurd (by simpa using hb) h
      simp [h, this]
  | const v => rfl
  | global g => rfl
  | func f => rfl
theorem gv_cons (d : Nat) (v : Value) (k : Nat) : gv ((d, v) :: s) k = if d = k then v else gv s k := by
  have e : lk ((d, v) :: s) k = bif Nat.beq d k then some v else lk s k := rfl
  unfold gv
  rw [e]
  by_cases h : d = k
  · subst h; simp
  · have : Nat.beq d k = false := by
      cases hb : Nat.beq d k with
      | false => rfl
      | true => exact absurd (Nat.eq_of_beq_eq_true hb) h
    simp [h, this]
theorem A_put (d : Option Tmp) (v : Value) : (A N s).put d v = A N (put d v s) := by
  cases d with
  | none => rfl
  | some d =>
    have e : ((A N s).put (some d) v).tmps = (A N ((d, v) :: s)).tmps := by
      apply Array.ext_getElem?
      intro k
      show ((A N s).tmps.setIfInBounds d v)[k]? = _
      rw [Array.getElem?_setIfInBounds, A_get, A_get, gv_cons]
      have hs : (A N s).tmps.size = N := by simp [A]
      rw [hs]
      by_cases h : d = k
      · subst h; simp
      · simp [h]
    show Act.mk _ _ = Act.mk _ _
    congr 1
theorem A_all {r : List (Nat × Value)} (h : All s r) : A N s = A N (r ++ s) := by
  have key : ∀ k, gv (r ++ s) k = gv s k := by
    intro k
    induction r with
    | nil => rfl
    | cons x r ih =>
      obtain ⟨d, v⟩ := x
      rw [List.cons_append, gv_cons, ih h.2]
      by_cases e : d = k
      · subst e
        have := h.1
        unfold gv
        simp [this]
      · simp [e]
  unfold A
  rw [show gv (r ++ s) = gv s from funext key]
theorem A_getD (k : Nat) : (A N s).tmps.getD k undef = ev N s (.tmp k) := by rw [← A_eval]; rfl
end

section
variable {P : Program} {ops : Array Oper} {C : World → Prop} {kd : List Nat} {Q : Act → World → Prop} {i : Nat} {o : Oper} {rest : List Oper} {N : Nat} {s : List (Nat × Value)} {w : World}

theorem wt_none (h : o.guard = none) (y : Nat → Option Bool) : Region.wanted o y = true := by unfold Region.wanted; rw [h]
theorem yl {j dj : Nat} (hj : (ops[j]?).bind (·.dst) = some dj) (hN : Nat.blt dj N = true) : yielded ops (A N s).tmps j = (match some (gv s dj) with | some (.bool b) => some b | _ => none) := by
  unfold yielded
  rw [hj]
  have h : dj < N := by simpa using hN
  simp only [Option.bind_some, A_get, h, if_true]
  cases gv s dj <;> rfl
theorem wt_some {j dj : Nat} {b : Bool} (h : o.guard = some (j, b)) (hj : (ops[j]?).bind (·.dst) = some dj) (hN : Nat.blt dj N = true) (hv : gv s dj = .bool b) : Region.wanted o (yielded ops (A N s).tmps) = true := by
  unfold Region.wanted; rw [h]
  simp only [yl hj hN, hv, BEq.rfl]
theorem wt_not {j dj : Nat} {b : Bool} (h : o.guard = some (j, b)) (hj : (ops[j]?).bind (·.dst) = some dj) (hN : Nat.blt dj N = true) (hv : gv s dj = .bool !b) : Region.wanted o (yielded ops (A N s).tmps) = false := by
  unfold Region.wanted; rw [h]
  simp only [yl hj hN, hv]
  cases b <;> rfl
theorem wt_undef {j dj : Nat} {b : Bool} (h : o.guard = some (j, b)) (hj : (ops[j]?).bind (·.dst) = some dj) (hN : Nat.blt dj N = true) (hv : gv s dj = undef) : Region.wanted o (yielded ops (A N s).tmps) = false := by
  unfold Region.wanted; rw [h]
  simp only [yl hj hN, hv]
  rfl

/-- The walk of a region's operations, as a thing of its own (nothing looks into it). -/
structure WQ (P : Program) (ops : Array Oper) (C : World → Prop) (kd : List Nat) (Q : Act → World → Prop) (i : Nat) (l : List Oper) (a : Act) (w : World) : Prop where
  h : Seq.wpSeq P ops C kd Q i l a w
/-- The walk of code. -/
structure CW (P : Program) (c : Code) (Q : Exit → Act → World → Prop) (a : Act) (w : World) : Prop where
  h : c.wp P Q a w
/-- Told the same in each world that keeps to C. -/
theorem k0 (hw : Region.wanted o (yielded ops (A N s).tmps) = true) (hk : kd.getD i 0 = 0) (v : Value) (hrun : ∀ w', C w' → (execOp (ev N s) o).run P w' = .ok (.value v) w')
    (h : WQ P ops C kd Q (i + 1) rest (A N (put o.dst v s)) w) : WQ P ops C kd Q i (o :: rest) (A N s) w :=
  ⟨Seq.st hw hk v (fun w' hC => by rw [A_eval]; exact hrun w' hC) (by rw [A_put]; exact h.h)⟩
/-- Told of this world. -/
theorem k1 (hw : Region.wanted o (yielded ops (A N s).tmps) = true) (hk : kd.getD i 0 = 1) (v : Value) (hrun : (execOp (ev N s) o).run P w = .ok (.value v) w)
    (h : WQ P ops C kd Q (i + 1) rest (A N (put o.dst v s)) w) : WQ P ops C kd Q i (o :: rest) (A N s) w :=
  ⟨Seq.rd hw hk v (by rw [A_eval]; exact hrun) (by rw [A_put]; exact h.h)⟩
/-- Not done. -/
theorem kn (hw : Region.wanted o (yielded ops (A N s).tmps) = false) (h : WQ P ops C kd Q (i + 1) rest (A N (put o.dst undef s)) w) : WQ P ops C kd Q i (o :: rest) (A N s) w :=
  ⟨Seq.no hw (by rw [A_put]; exact h.h)⟩
theorem k_ef (hw : Region.wanted o (yielded ops (A N s).tmps) = true) (hk : kd.getD i 0 = 2) {x : Next} {w' : World} (hrun : (execOp (ev N s) o).run P w = .ok x w') (v : Value) (hx : x = .value v ∨ (x = .skip ∧ v = undef)) (hC : C w') (h : WQ P ops C kd Q (i + 1) rest (A N (put o.dst v s)) w') :
    WQ P ops C kd Q i (o :: rest) (A N s) w := by
  refine ⟨?_⟩
  unfold Seq.wpSeq
  simp only [hw, if_true, hk]
  unfold Oper.wp
  rw [A_eval, hrun]
  rcases hx with rfl | ⟨rfl, rfl⟩
  · exact ⟨hC, by rw [A_put]; exact h.h⟩
  · exact ⟨hC, by rw [A_put]; exact h.h⟩
/-- Memory turns, or is made. -/
theorem k2 (hw : Region.wanted o (yielded ops (A N s).tmps) = true) (hk : kd.getD i 0 = 2) {R : Value → World → Prop} (hrun : ∃ v w', (execOp (ev N s) o).run P w = .ok (.value v) w' ∧ R v w')
    (h : ∀ v w', R v w' → C w' ∧ WQ P ops C kd Q (i + 1) rest (A N (put o.dst v s)) w') : WQ P ops C kd Q i (o :: rest) (A N s) w := by
  obtain ⟨v, w', hr, hR⟩ := hrun
  exact k_ef hw hk hr v (.inl rfl) (h v w' hR).1 (h v w' hR).2
/-- A store. -/
theorem ks (hw : Region.wanted o (yielded ops (A N s).tmps) = true) (hk : kd.getD i 0 = 2) (hd : o.dst = none) {R : World → Prop} (hrun : ∃ w', (execOp (ev N s) o).run P w = .ok .skip w' ∧ R w')
    (h : ∀ w', R w' → C w' ∧ WQ P ops C kd Q (i + 1) rest (A N s) w') : WQ P ops C kd Q i (o :: rest) (A N s) w := by
  obtain ⟨w', hr, hR⟩ := hrun
  exact k_ef hw hk hr undef (.inr ⟨rfl, rfl⟩) (h w' hR).1 (by rw [hd]; exact (h w' hR).2)
/-- A call. -/
theorem kc (hw : Region.wanted o (yielded ops (A N s).tmps) = true) (hk : kd.getD i 0 = 2) {f : FuncId} {args : Array Value} (hrun : (execOp (ev N s) o).run P w = .ok (.enter f args) w) {R : Ending → World → Prop} (hc : Calls P f args w R)
    (h : ∀ e w', R e w' → ∃ v, e = .returned v ∧ C w' ∧ WQ P ops C kd Q (i + 1) rest (A N (put o.dst v s)) w') : WQ P ops C kd Q i (o :: rest) (A N s) w := by
  refine ⟨?_⟩
  unfold Seq.wpSeq
  simp only [hw, if_true, hk]
  unfold Oper.wp
  rw [A_eval, hrun]
  refine hc.mono fun e w' he => ?_
  obtain ⟨v, rfl, h1, h2⟩ := h e w' he
  exact ⟨h1, by rw [A_put]; exact h2.h⟩
theorem kend (h : Q (A N s) w) : WQ P ops C kd Q i [] (A N s) w := ⟨h⟩
end

theorem exists_min {p : Nat → Prop} (h : ∃ n, p n) : ∃ n, p n ∧ ∀ m, p m → n ≤ m := by
  obtain ⟨n, hn⟩ := h
  induction n using Nat.strongRecOn with
  | _ n ih =>
    by_cases hh : ∃ m, m < n ∧ p m
    · obtain ⟨m, hm, hp⟩ := hh
      exact ih m hm hp
    · exact ⟨n, hn, fun m hm => Nat.le_of_not_lt fun hlt => hh ⟨m, hlt, hm⟩⟩
section
variable {P : Program} {Q : Exit → Act → World → Prop} {N : Nat} {s : List (Nat × Value)} {w : World}
theorem cz {c : Code} (r : List (Nat × Value)) (hr : All s r) (h : ∀ J, CW P c Q (A N (r ++ J)) w) : CW P c Q (A N s) w := by
  rw [A_all hr]; exact h s

theorem seq_list {ops : Array Oper} {kd : List Nat} {Q' : Exit → Act → World → Prop} : ∀ (l : List Oper) (i : Nat) (a : Act) (w : World), Seq.wpSeq P ops (fun _ => True) kd (fun a w => Q' .normal a w) i l a w → wpList P ops Q' l a w
  | [], _, _, _, h => h
  | o :: l, i, a, w, h => by
    unfold Seq.wpSeq at h
    unfold wpList
    split at h
    · rename_i hw
      rw [if_pos hw]
      refine .inl ?_
      split at h
      · obtain ⟨u, h1, h2⟩ := h
        unfold Oper.wp
        rw [h1 w trivial]
        exact seq_list l (i + 1) _ _ h2
      · obtain ⟨u, h1, h2⟩ := h
        unfold Oper.wp
        rw [h1]
        exact seq_list l (i + 1) _ _ h2
      · unfold Oper.wp at h ⊢
        generalize (execOp a.eval o).run P w = r at *
        cases r with
        | ok n w' =>
          cases n <;> simp only [Oper.upon] at h ⊢
          case value v => exact seq_list l (i + 1) _ _ h.2
          case skip => exact seq_list l (i + 1) _ _ h.2
          case defer d => exact seq_list l (i + 1) _ _ h.2
          case enter f args =>
            refine h.mono (fun e w' he => ?_)
            cases e with
            | returned v => exact seq_list l (i + 1) _ _ he.2
            | panicked c => exact absurd he (by simp [Seq.NoX])
            | outgrown => obtain ⟨_, _, h2⟩ := he; exact absurd h2 (by simp [Seq.NoX])
          case row r args => exact h.mono (fun v w' he => seq_list l (i + 1) _ _ he.2)
        | halt x w' => cases x <;> simp only [Oper.upon] at h ⊢ <;> exact absurd h (by simp [Seq.NoX])
    · rename_i hw
      rw [if_neg hw]
      exact seq_list l (i + 1) _ _ h

/-- A region in the order of the text. -/
theorem rp (kd : List Nat) {id : Nat} {l : List Oper} (h : WQ P l.toArray (fun _ => True) kd (fun a w => Q .normal a w) 0 l (A N s) w) : CW P (.region id l.toArray false) Q (A N s) w :=
  ⟨wp_region_lit (seq_list l 0 _ _ h.h)⟩
/-- A region that draws its order. -/
theorem rq (C : World → Prop) (kd : List Nat) {id : Nat} {l : List Oper} (hm : P.follows .mixedOrders = true) (hB : Region.lexB .any l.toArray = true) (hk : Seq.kinds .any l.toArray kd l.length = true) (hC : C (w.drewN 1))
    (h : WQ P l.toArray C kd (fun a w => Q .normal a w) 0 l (A N s) (w.drewN 1)) : CW P (.region id l.toArray true) Q (A N s) w :=
  ⟨Seq.wp_region C kd hm hB hk hC h.h⟩

theorem sq {x y : Code} (h : CW P x (Exit.then (fun a w => CW P y Q a w) Q) (A N s) w) : CW P (.seq x y) Q (A N s) w := by
  refine ⟨wp_seq (Code.wp_mono (fun e a w hq => ?_) h.h)⟩
  cases e with
  | normal => exact (show CW P y Q a w from hq).h
  | exit id => exact hq
  | goto l => exact hq
  | ret => exact hq
  | panic ch => exact hq
  | outgrown => exact hq
theorem sk (h : Q .normal (A N s) w) : CW P .skip Q (A N s) w := ⟨wp_skip h⟩
theorem re (h : Q .ret (A N s) w) : CW P .ret Q (A N s) w := ⟨wp_ret h⟩
theorem ex {id : Nat} (h : Q (.exit id) (A N s) w) : CW P (.exit id) Q (A N s) w := ⟨wp_exit h⟩
theorem bk {id : Nat} {c : Code} (h : CW P c (Exit.inBlock id Q) (A N s) w) : CW P (.block id c) Q (A N s) w := ⟨wp_block h.h⟩
theorem th_n {K : Act → World → Prop} {a : Act} (h : K a w) : Exit.then K Q .normal a w := h
theorem th_x {K : Act → World → Prop} {a : Act} {id : Nat} (h : Q (.exit id) a w) : Exit.then K Q (.exit id) a w := h
theorem th_r {K : Act → World → Prop} {a : Act} (h : Q .ret a w) : Exit.then K Q .ret a w := h
theorem ib_n {a : Act} {id : Nat} (h : Q .normal a w) : Exit.inBlock id Q .normal a w := h
theorem ib_r {a : Act} {id : Nat} (h : Q .ret a w) : Exit.inBlock id Q .ret a w := h
theorem ib_x {a : Act} {id : Nat} (h : Q .normal a w) : Exit.inBlock id Q (.exit id) a w := by simp only [Exit.inBlock, if_true]; exact h
theorem ib_o {a : Act} {id j : Nat} (hn : Nat.beq j id = false) (h : Q (.exit j) a w) : Exit.inBlock id Q (.exit j) a w := by
  have : ¬ j = id := fun e => by subst e; simp at hn
  simp only [Exit.inBlock, this, if_false]; exact h
theorem cd (b : Bool) {c : Operand} {x y : Code} (hc : ev N s c = .bool b) (h : CW P (if b then x else y) Q (A N s) w) : CW P (.cond c x y) Q (A N s) w := ⟨wp_cond (by rw [A_eval]; exact hc) h.h⟩
theorem cdt {c : Operand} {x y : Code} (hc : ev N s c = .bool true) (h : CW P x Q (A N s) w) : CW P (.cond c x y) Q (A N s) w := cd true hc h
theorem cdf {c : Operand} {x y : Code} (hc : ev N s c = .bool false) (h : CW P y Q (A N s) w) : CW P (.cond c x y) Q (A N s) w := cd false hc h
/-- A loop: what is live at its head hangs on a state. -/
theorem lp {S : Type} {c : Code} (σ : S → List (Nat × Value)) (I : S → World → Prop) (μ : S → Nat) (x : S) (h0 : All s (σ x)) (hI : I x w)
    (h : ∀ (x : S) (J : List (Nat × Value)) (w : World), I x w → CW P c (Exit.then (fun a' w' => ∃ (s' : List (Nat × Value)) (x' : S), a' = A N s' ∧ All s' (σ x') ∧ I x' w' ∧ μ x' < μ x) Q) (A N (σ x ++ J)) w) : CW P (.loop c) Q (A N s) w := by
  let In : Nat → Act → World → Prop := fun n a w => ∃ (J : List (Nat × Value)) (x : S), a = A N (σ x ++ J) ∧ I x w ∧ μ x = n
  let M : Act → World → Nat := fun a w => Classical.epsilon (fun n => In n a w ∧ ∀ m, In m a w → n ≤ m)
  have hM : ∀ a w, (∃ n, In n a w) → In (M a w) a w ∧ ∀ m, In m a w → M a w ≤ m := fun a w hh => Classical.epsilon_spec (p := fun n => In n a w ∧ ∀ m, In m a w → n ≤ m) (exists_min hh)
  refine ⟨wp_loop (fun a w => ∃ n, In n a w) M ⟨_, s, x, A_all h0, hI, rfl⟩ ?_⟩
  intro a w hh
  obtain ⟨J, x, rfl, hI, hm⟩ := (hM a w hh).1
  refine Code.wp_mono (fun e a' w' hq => ?_) (h x J w hI).h
  cases e with
  | normal =>
    obtain ⟨s', x', rfl, ha, hI', hlt⟩ := hq
    have hi : In (μ x') (A N s') w' := ⟨s', x', A_all ha, hI', rfl⟩
    exact ⟨⟨_, hi⟩, Nat.lt_of_le_of_lt ((hM _ _ ⟨_, hi⟩).2 _ hi) (hm ▸ hlt)⟩
  | exit id => exact hq
  | goto l => exact hq
  | ret => exact hq
  | panic ch => exact hq
  | outgrown => exact hq
/-- Results in slots. -/
theorem rt1 {fn : Func} {R : Ending → World → Prop} {t : Tmp} (h : fn.results = #[.tmp t]) (hR : R (.returned (ev N s (.tmp t))) w) : bodyPost P fn R .ret (A N s) w :=
  bodyPost_ret (by rw [results_tmp h, A_getD]) rfl hR
theorem rt0n {fn : Func} {R : Ending → World → Prop} (h : fn.results = #[]) (hR : R (.returned (.tuple #[])) w) : bodyPost P fn R .normal (A N s) w :=
  bodyPost_end (results_none h _ _ _) rfl hR
end

/-- The arguments' slots. -/
def ar : Nat → List Value → List (Nat × Value)
  | _, [] => []
  | k, v :: r => (k, v) :: ar (k + 1) r
theorem gv_ar (k : Nat) : ∀ (vs : List Value) (j : Nat), gv (ar j vs) k = if j ≤ k then (vs[k - j]?).getD undef else undef
  | [], j => by simp [ar, gv, lk]
  | v :: r, j => by
    show gv ((j, v) :: ar (j + 1) r) k = _
    rw [gv_cons, gv_ar k r (j + 1)]
    by_cases h : j = k
    · subst h; simp
    · by_cases h2 : j ≤ k
      · have e : k - j = (k - (j + 1)) + 1 := by omega
        rw [if_neg h, if_pos (by omega), if_pos h2, e]; simp
      · rw [if_neg h, if_neg (by omega), if_neg h2]
/-- A call is entered. -/
theorem enter {P : Program} {f : FuncId} {fn : Func} {c : Code} {w : World} {R : Ending → World → Prop} (vs : List Value) (N : Nat) (hf : P.funcs[f]? = some fn) (hb : fn.body = some c) (hN : fn.ntmps = N) (hl : vs.length ≤ N)
    (h : CW P c (bodyPost P fn R) (A N (ar 0 vs)) w) : Calls P f vs.toArray w R := by
  refine calls_of_wp hf hb ?_
  have e : ({ tmps := vs.toArray ++ Array.replicate (fn.ntmps - vs.toArray.size) undef, defers := [] } : Act) = A N (ar 0 vs) := by
    have e2 : (vs.toArray ++ Array.replicate (fn.ntmps - vs.toArray.size) undef) = (A N (ar 0 vs)).tmps := by
      apply Array.ext_getElem?
      intro k
      rw [A_get, gv_ar, hN]
      by_cases h1 : k < vs.length
      · rw [Array.getElem?_append_left (by simpa using h1)]
        have h2 : k < N := by omega
        simp [h1, h2]
      · rw [Array.getElem?_append_right (by simp; omega)]
        have h3 : vs[k]? = none := List.getElem?_eq_none (by omega)
        by_cases h2 : k < N
        · have h4 : k - vs.length < N - vs.length := by omega
          simp [h2, h3, h4]
        · have h4 : ¬ k - vs.length < N - vs.length := by omega
          simp [h2, h4]
    show Act.mk _ _ = Act.mk _ _
    congr 1
  rw [e]; exact h.h
end Go.Proofs.Ytpfoeeiacfadfaa
