/-
  A statement of a Go function whose operations may be carried out in several orders is walked once, in the order of the text, as if it had that order alone.
  Conditions: of two operations of which neither waits for the other, one is told the same in every world that keeps to C, or both only read.
-/
import Derived.BigQuiet
import Derived.WalkKit
namespace Go.Proofs.Ytpfoeeiacfadfaa
namespace Seq

/-- No exit but the normal one. -/
def NoX : Exit → Act → World → Prop := fun _ _ _ => False

section
variable (P : Program) (md : Region.Mode) (ops : Array Oper) (C : World → Prop) (kd : List Nat)

/-- One operation: told the same in each world (0), told of this world (1), any other (2). -/
def sOp (i : Nat) (K : Act → World → Prop) (a : Act) (w : World) : Prop :=
  match ops[i]? with
  | none => K a w
  | some o => if Region.wanted o (yielded ops a.tmps) then
      (match kd.getD i 0 with
       | 0 => ∃ u, (∀ w', C w' → (execOp a.eval o).run P w' = .ok (.value u) w') ∧ K (a.put o.dst u) w
       | 1 => ∃ u, (execOp a.eval o).run P w = .ok (.value u) w ∧ K (a.put o.dst u) w
       | _ => o.wp P a w (fun a' w' => C w' ∧ K a' w') NoX)
    else K (a.put o.dst undef) w

def wpAnyQ (Q : Act → World → Prop) : Nat → Array Bool → Act → World → Prop
  | 0, listed, a, w => Region.ready md ops listed = [] ∧ Q a w
  | fuel + 1, listed, a, w => (Region.ready md ops listed = [] → Q a w) ∧
    ∀ i ∈ Region.ready md ops listed, sOp P ops C kd i (wpAnyQ Q fuel (listed.setIfInBounds i true)) a w

/-- The walk in the order of the text. -/
def wpSeq (Q : Act → World → Prop) : Nat → List Oper → Act → World → Prop
  | _, [], a, w => Q a w
  | i, o :: rest, a, w => if Region.wanted o (yielded ops a.tmps) then
      (match kd.getD i 0 with
       | 0 => ∃ u, (∀ w', C w' → (execOp a.eval o).run P w' = .ok (.value u) w') ∧ wpSeq Q (i + 1) rest (a.put o.dst u) w
       | 1 => ∃ u, (execOp a.eval o).run P w = .ok (.value u) w ∧ wpSeq Q (i + 1) rest (a.put o.dst u) w
       | _ => o.wp P a w (fun a' w' => C w' ∧ wpSeq Q (i + 1) rest a' w') NoX)
    else wpSeq Q (i + 1) rest (a.put o.dst undef) w

/-- Where a way leads from one operation to another that it waits for. -/
def path : Nat → Nat → Nat → Bool
  | 0, _, _ => false
  | n + 1, j, i => match ops[j]? with
    | some o => o.after.any fun e => Region.binds md e && (e.on == i || (Nat.blt i e.on && path n e.on i))
    | none => false
def compat (i j : Nat) : Bool := kd.getD i 0 == 0 || kd.getD j 0 == 0 || (kd.getD i 0 == 1 && kd.getD j 0 == 1)
/-- The check. -/
def kinds (n : Nat) : Bool := (List.range n).all fun i => (List.range n).all fun j => Nat.ble j i || compat kd i j || path md ops n j i
def clo (listed : Array Bool) : Prop := ∀ k ok, ops[k]? = some ok → listed.getD k false = true → ∀ e ∈ ok.after, Region.binds md e = true → listed.getD e.on false = true
end

section
variable {P : Program} {md : Region.Mode} {ops : Array Oper} {C : World → Prop} {kd : List Nat}

theorem getD_of_ready {i : Nat} {listed : Array Bool} (h : listed.getD i true = false) : listed.getD i false = false ∧ i < listed.size := by
  by_cases hs : i < listed.size
  · simp only [Array.getD, hs, dite_true] at h ⊢; exact ⟨h, trivial⟩
  · simp [Array.getD, hs] at h

theorem clo_set {i : Nat} {listed : Array Bool} (h : clo md ops listed) (hr : i ∈ Region.ready md ops listed) : clo md ops (listed.setIfInBounds i true) := by
  intro k ok hk hl e he hb
  apply getD_set_true
  by_cases hik : i = k
  · subst hik
    obtain ⟨_, o, ho, hall⟩ := mem_ready.1 hr
    rw [ho] at hk; cases hk
    exact hall e he hb
  · rw [getD_set_ne false hik] at hl; exact h k ok hk hl e he hb
theorem path_listed {listed : Array Bool} (h : clo md ops listed) : ∀ (n j i : Nat), listed.getD j false = true → path md ops n j i = true → listed.getD i false = true
  | 0, _, _, _, hp => by simp [path] at hp
  | n + 1, j, i, hj, hp => by
    unfold path at hp
    split at hp
    · rename_i o ho
      obtain ⟨e, he, hh⟩ := Array.any_eq_true'.1 hp
      simp only [Bool.and_eq_true, Bool.or_eq_true, beq_iff_eq] at hh
      have hl := h j o ho hj e he hh.1
      rcases hh.2 with rfl | ⟨_, hp'⟩
      · exact hl
      · exact path_listed h n _ i hl hp'
    · cases hp
theorem path_ready {listed : Array Bool} (h : clo md ops listed) {n j i : Nat} (hr : j ∈ Region.ready md ops listed) (hi : listed.getD i true = false) : path md ops n j i = false := by
  cases hp : path md ops n j i with
  | false => rfl
  | true =>
    exfalso
    cases n with
    | zero => simp [path] at hp
    | succ n =>
      obtain ⟨_, o, ho, hall⟩ := mem_ready.1 hr
      unfold path at hp
      rw [ho] at hp
      obtain ⟨e, he, hh⟩ := Array.any_eq_true'.1 hp
      simp only [Bool.and_eq_true, Bool.or_eq_true, beq_iff_eq] at hh
      have hl := hall e he hh.1
      have hi' := (getD_of_ready hi).1
      rcases hh.2 with rfl | ⟨_, hp'⟩
      · rw [hi'] at hl; cases hl
      · have := path_listed h n _ i hl hp'; rw [hi'] at this; cases this

theorem wp_ex {o : Oper} {a : Act} {w : World} {K : Act → World → Prop} (h : o.wp P a w K NoX) : ∃ a' w', K a' w' := by
  unfold Oper.wp at h
  generalize (execOp a.eval o).run P w = r at h
  cases r with
  | ok n w' =>
    cases n <;> simp only [Oper.upon] at h
    case value v => exact ⟨_, _, h⟩
    case skip => exact ⟨_, _, h⟩
    case defer d => exact ⟨_, _, h⟩
    case enter f args =>
      obtain ⟨e, w', fr, h1, _⟩ := h []
      cases e with
      | returned v => exact ⟨_, _, h1⟩
      | panicked c => exact absurd h1 (by simp [NoX])
      | outgrown => obtain ⟨_, _, h2⟩ := h1; exact absurd h2 (by simp [NoX])
    case row r args =>
      have := h (default) []
      obtain ⟨v, w', h1, _⟩ := this
      exact ⟨_, _, h1⟩
  | halt x w' => cases x <;> simp only [Oper.upon] at h <;> exact absurd h (by simp [NoX])

theorem sOp_mono {i : Nat} {a : Act} {w : World} {K K' : Act → World → Prop} (hC : C w) (h : ∀ a w, C w → K a w → K' a w) (hh : sOp P ops C kd i K a w) : sOp P ops C kd i K' a w := by
  unfold sOp at *
  split
  · exact h _ _ hC (by simpa [*] using hh)
  · rename_i o ho
    simp only [ho] at hh
    split
    · rename_i hw
      simp only [hw, if_true] at hh
      split
      · rename_i hk; rw [hk] at hh; obtain ⟨u, h1, h2⟩ := hh; exact ⟨u, h1, h _ _ hC h2⟩
      · rename_i hk; rw [hk] at hh; obtain ⟨u, h1, h2⟩ := hh; exact ⟨u, h1, h _ _ hC h2⟩
      · rename_i hk0 hk1
        split at hh
        · rename_i hk; exact absurd hk hk0
        · rename_i hk; exact absurd hk hk1
        · exact Oper.wp_mono (fun a w ⟨h1, h2⟩ => ⟨h1, h _ _ h1 h2⟩) hh
    · rename_i hw; simp only [hw] at hh; exact h _ _ hC hh

/-- An operation that does not look at a slot is done with another value there as well. -/
theorem wp_put {o : Oper} {a : Act} {w : World} {K : Act → World → Prop} {d : Option Tmp} {v : Value} (hs : ∀ cs b, o.op ≠ .select cs b) (h1 : ∀ t, d = some t → t ∉ o.looksAt ops) (h2 : ∀ t, d = some t → o.dst ≠ some t)
    (h : o.wp P a w (fun a' w' => K (a'.put d v) w') NoX) : o.wp P (a.put d v) w K NoX := by
  unfold Oper.wp at *
  rw [execOp_put o hs a d v h1]
  generalize (execOp a.eval o).run P w = r at *
  have comm : ∀ u, (a.put d v).put o.dst u = (a.put o.dst u).put d v := fun u => Act.put_comm a v u h2
  cases r with
  | ok n w' =>
    cases n <;> simp only [Oper.upon] at h ⊢
    case value u => rw [comm]; exact h
    case skip => rw [comm]; exact h
    case defer x =>
      have e : ({ a.put d v with defers := x :: (a.put d v).defers } : Act).put o.dst undef = (({ a with defers := x :: a.defers } : Act).put o.dst undef).put d v := by
        rw [← Act.put_comm _ v undef h2]
        cases d <;> rfl
      rw [e]; exact h
    case enter f args => exact h.mono (fun e w'' he => by cases e with | returned u => dsimp only at he ⊢; rw [comm]; exact he | panicked c => exact he | outgrown => exact he)
    case row r args => exact Rows.mono h (fun u w'' he => by rw [comm]; exact he)
  | halt x w' => cases x <;> simp only [Oper.upon] at h ⊢ <;> exact h

/-- What an operation leaves in the slots that another one looks at. -/
theorem wp_same {o oj : Oper} {a : Act} {w : World} {K : Act → World → Prop} (hs : ∀ cs b, oj.op ≠ .select cs b) (h1 : ∀ t, o.dst = some t → t ∉ oj.looksAt ops) (h : o.wp P a w K NoX) :
    o.wp P a w (fun a' w' => K a' w' ∧ execOp a'.eval oj = execOp a.eval oj ∧ Region.wanted oj (yielded ops a'.tmps) = Region.wanted oj (yielded ops a.tmps)) NoX := by
  have key : ∀ u, execOp (a.put o.dst u).eval oj = execOp a.eval oj ∧ Region.wanted oj (yielded ops (a.put o.dst u).tmps) = Region.wanted oj (yielded ops a.tmps) := fun u => ⟨execOp_put oj hs a o.dst u h1, wanted_put oj a o.dst u h1⟩
  unfold Oper.wp at *
  generalize (execOp a.eval o).run P w = r at *
  cases r with
  | ok n w' =>
    cases n <;> simp only [Oper.upon] at h ⊢
    case value u => exact ⟨h, key u⟩
    case skip => exact ⟨h, key _⟩
    case defer x =>
      refine ⟨h, ?_⟩
      have := key undef
      have e1 : (({ a with defers := x :: a.defers } : Act).put o.dst undef).eval = (a.put o.dst undef).eval := by cases o.dst <;> rfl
      have e2 : (({ a with defers := x :: a.defers } : Act).put o.dst undef).tmps = (a.put o.dst undef).tmps := by cases o.dst <;> rfl
      rw [e1, e2]; exact this
    case enter f args => exact h.mono (fun e w'' he => by cases e with | returned u => exact ⟨he, key u⟩ | panicked c => exact he | outgrown => exact he)
    case row r args => exact Rows.mono h (fun u w'' he => ⟨he, key u⟩)
  | halt x w' => cases x <;> simp only [Oper.upon] at h ⊢ <;> exact h

/-- Two operations that are apart may change places. -/
theorem swap {i j : Nat} {oi oj : Oper} (hi : ops[i]? = some oi) (hj : ops[j]? = some oj) (hsi : ∀ cs b, oi.op ≠ .select cs b) (hsj : ∀ cs b, oj.op ≠ .select cs b) (hap : oi.apart ops oj = true) (hc : compat kd i j = true)
    {K : Act → World → Prop} {a : Act} {w : World} (h : sOp P ops C kd i (fun a w => sOp P ops C kd j K a w) a w) : sOp P ops C kd j (fun a w => sOp P ops C kd i K a w) a w := by
  obtain ⟨p1, p2, p3⟩ := Oper.apart_spec hap
  have p2' : ∀ d, oj.dst = some d → oi.dst ≠ some d := fun d h1 h2 => p2 d h2 h1
  have comm : ∀ u v, (a.put oi.dst u).put oj.dst v = (a.put oj.dst v).put oi.dst u := fun u v => Act.put_comm a u v p2
  unfold sOp at h ⊢
  simp only [hi, hj] at h ⊢
  by_cases hwi : Region.wanted oi (yielded ops a.tmps) = true
  · by_cases hwj : Region.wanted oj (yielded ops a.tmps) = true
    · -- both are wanted
      simp only [hwi, hwj, if_true] at h ⊢
      rcases hki : kd.getD i 0 with _ | _ | ki
      · -- i is told the same in each world
        simp only [hki] at h ⊢
        obtain ⟨u, hu, h⟩ := h
        rw [wanted_put oj a oi.dst u p1] at h
        simp only [hwj, if_true, execOp_put oj hsj a oi.dst u p1] at h
        rcases hkj : kd.getD j 0 with _ | _ | kj
        · simp only [hkj] at h ⊢
          obtain ⟨v, hv, h⟩ := h
          refine ⟨v, hv, ?_⟩
          rw [wanted_put oi a oj.dst v p3]
          simp only [hwi, if_true, execOp_put oi hsi a oj.dst v p3]
          exact ⟨u, hu, by rw [← comm]; exact h⟩
        · simp only [hkj] at h ⊢
          obtain ⟨v, hv, h⟩ := h
          refine ⟨v, hv, ?_⟩
          rw [wanted_put oi a oj.dst v p3]
          simp only [hwi, if_true, execOp_put oi hsi a oj.dst v p3]
          exact ⟨u, hu, by rw [← comm]; exact h⟩
        · simp only [hkj] at h ⊢
          -- j does anything
          have hu' : ∀ v, (∀ w', C w' → (execOp (a.put oj.dst v).eval oi).run P w' = .ok (.value u) w') := fun v => by rw [execOp_put oi hsi a oj.dst v p3]; exact hu
          have h2 : oj.wp P a w (fun a' w' => (C w' ∧ K (a'.put oi.dst u) w')) NoX := by
            unfold Oper.wp at *
            rw [execOp_put oj hsj a oi.dst u p1] at h
            generalize (execOp a.eval oj).run P w = r at *
            cases r with
            | ok n w' =>
              cases n <;> simp only [Oper.upon] at h ⊢
              case value x => rw [← comm]; exact h
              case skip => rw [← comm]; exact h
              case defer x =>
                have e : ({ a.put oi.dst u with defers := x :: (a.put oi.dst u).defers } : Act).put oj.dst undef = (({ a with defers := x :: a.defers } : Act).put oj.dst undef).put oi.dst u := by
                  rw [← Act.put_comm _ u undef p2]
                  cases oi.dst <;> rfl
                rw [e] at h; exact h
              case enter f args => exact h.mono (fun e w'' he => by cases e with | returned x => dsimp only at he ⊢; rw [← comm]; exact he | panicked c => exact he | outgrown => exact he)
              case row r args => exact Rows.mono h (fun x w'' he => by rw [← comm]; exact he)
            | halt x w' => cases x <;> simp only [Oper.upon] at h ⊢ <;> exact h
          refine Oper.wp_mono (fun a' w' ⟨⟨h1, h2⟩, h3, h4⟩ => ⟨h1, ?_⟩) (wp_same (oj := oi) hsi p3 h2)
          rw [h4]
          simp only [hwi, if_true]
          exact ⟨u, by rw [h3]; exact hu, h2⟩
      · -- i reads
        simp only [hki] at h ⊢
        obtain ⟨u, hu, h⟩ := h
        rw [wanted_put oj a oi.dst u p1] at h
        simp only [hwj, if_true, execOp_put oj hsj a oi.dst u p1] at h
        rcases hkj : kd.getD j 0 with _ | _ | kj
        · simp only [hkj] at h ⊢
          obtain ⟨v, hv, h⟩ := h
          refine ⟨v, hv, ?_⟩
          rw [wanted_put oi a oj.dst v p3]
          simp only [hwi, if_true, execOp_put oi hsi a oj.dst v p3]
          exact ⟨u, hu, by rw [← comm]; exact h⟩
        · simp only [hkj] at h ⊢
          obtain ⟨v, hv, h⟩ := h
          refine ⟨v, hv, ?_⟩
          rw [wanted_put oi a oj.dst v p3]
          simp only [hwi, if_true, execOp_put oi hsi a oj.dst v p3]
          exact ⟨u, hu, by rw [← comm]; exact h⟩
        · exfalso; unfold compat at hc; rw [hki, hkj] at hc; simp at hc
      · -- i does anything: j is told the same in each world
        simp only [hki] at h ⊢
        rcases hkj : kd.getD j 0 with _ | kj
        · simp only [hkj] at h ⊢
          have h' := wp_same (oj := oj) hsj p1 h
          have h2 : oi.wp P a w (fun a' w' => C w' ∧ ∃ v, (∀ w', C w' → (execOp a.eval oj).run P w' = .ok (.value v) w') ∧ K (a'.put oj.dst v) w') NoX := by
            refine Oper.wp_mono (fun a' w' ⟨⟨h1, h2⟩, h3, h4⟩ => ⟨h1, ?_⟩) h'
            rw [h4] at h2
            simp only [hwj, if_true, h3] at h2
            exact h2
          obtain ⟨_, _, _, v, hv, _⟩ := wp_ex h2
          refine ⟨v, hv, ?_⟩
          rw [wanted_put oi a oj.dst v p3]
          simp only [hwi, if_true]
          refine wp_put hsi p3 p2' (Oper.wp_mono (fun a' w' ⟨h1, v', hv', h3⟩ => ⟨h1, ?_⟩) h2)
          have e := (hv w' h1).symm.trans (hv' w' h1)
          simp only [Result.ok.injEq, Next.value.injEq, and_true] at e
          rw [e]; exact h3
        · exfalso; unfold compat at hc; rw [hki, hkj] at hc; simp at hc
    · -- j is not wanted
      simp only [hwi, hwj, if_true] at h ⊢
      have hk : ∀ u, Region.wanted oj (yielded ops (a.put oi.dst u).tmps) = false := fun u => by rw [wanted_put oj a oi.dst u p1]; simpa using hwj
      simp only [Bool.false_eq_true, if_false] at h ⊢
      rw [wanted_put oi a oj.dst undef p3]
      simp only [hwi, if_true, execOp_put oi hsi a oj.dst undef p3]
      rcases hki : kd.getD i 0 with _ | _ | ki
      · simp only [hki] at h ⊢
        obtain ⟨u, hu, h⟩ := h
        simp only [hk u, Bool.false_eq_true, if_false] at h
        exact ⟨u, hu, by rw [← comm]; exact h⟩
      · simp only [hki] at h ⊢
        obtain ⟨u, hu, h⟩ := h
        simp only [hk u, Bool.false_eq_true, if_false] at h
        exact ⟨u, hu, by rw [← comm]; exact h⟩
      · simp only [hki] at h ⊢
        refine wp_put hsi p3 p2' (Oper.wp_mono (fun a' w' ⟨⟨h1, h2⟩, h3, h4⟩ => ⟨h1, ?_⟩) (wp_same (oj := oj) hsj p1 h))
        rw [h4] at h2
        simp only [hwj, Bool.false_eq_true, if_false] at h2
        exact h2
  · -- i is not wanted
    have hwi' : Region.wanted oi (yielded ops a.tmps) = false := by simpa using hwi
    have hk : ∀ u, Region.wanted oi (yielded ops (a.put oj.dst u).tmps) = false := fun u => by rw [wanted_put oi a oj.dst u p3]; exact hwi'
    simp only [hwi', Bool.false_eq_true, if_false] at h
    rw [wanted_put oj a oi.dst undef p1] at h
    by_cases hwj : Region.wanted oj (yielded ops a.tmps) = true
    · simp only [hwj, if_true, execOp_put oj hsj a oi.dst undef p1] at h ⊢
      rcases hkj : kd.getD j 0 with _ | _ | kj
      · simp only [hkj] at h ⊢
        obtain ⟨v, hv, h⟩ := h
        refine ⟨v, hv, ?_⟩
        simp only [hk v, Bool.false_eq_true, if_false]
        rw [← comm]; exact h
      · simp only [hkj] at h ⊢
        obtain ⟨v, hv, h⟩ := h
        refine ⟨v, hv, ?_⟩
        simp only [hk v, Bool.false_eq_true, if_false]
        rw [← comm]; exact h
      · simp only [hkj] at h ⊢
        have h2 : oj.wp P a w (fun a' w' => (C w' ∧ K (a'.put oi.dst undef) w')) NoX := by
          unfold Oper.wp at *
          rw [execOp_put oj hsj a oi.dst undef p1] at h
          generalize (execOp a.eval oj).run P w = r at *
          cases r with
          | ok n w' =>
            cases n <;> simp only [Oper.upon] at h ⊢
            case value x => rw [← comm]; exact h
            case skip => rw [← comm]; exact h
            case defer x =>
              have e : ({ a.put oi.dst undef with defers := x :: (a.put oi.dst undef).defers } : Act).put oj.dst undef = (({ a with defers := x :: a.defers } : Act).put oj.dst undef).put oi.dst undef := by
                rw [← Act.put_comm _ undef undef p2]
                cases oi.dst <;> rfl
              rw [e] at h; exact h
            case enter f args => exact h.mono (fun e w'' he => by cases e with | returned x => dsimp only at he ⊢; rw [← comm]; exact he | panicked c => exact he | outgrown => exact he)
            case row r args => exact Rows.mono h (fun x w'' he => by rw [← comm]; exact he)
          | halt x w' => cases x <;> simp only [Oper.upon] at h ⊢ <;> exact h
        refine Oper.wp_mono (fun a' w' ⟨⟨h1, h2⟩, h3, h4⟩ => ⟨h1, ?_⟩) (wp_same (oj := oi) hsi p3 h2)
        rw [h4]
        simp only [hwi', Bool.false_eq_true, if_false]
        exact h2
    · have hwj' : Region.wanted oj (yielded ops a.tmps) = false := by simpa using hwj
      simp only [hwj', Bool.false_eq_true, if_false] at h ⊢
      simp only [hk undef, Bool.false_eq_true, if_false]
      rw [← comm]; exact h

theorem first {Q : Act → World → Prop} {i : Nat} {oi : Oper} (hi : ops[i]? = some oi) (hsel : ∀ (j : Nat) (o : Oper) cs b, ops[j]? = some o → o.op ≠ .select cs b) :
    ∀ (fuel : Nat) (listed : Array Bool) (a : Act) (w : World), clo md ops listed →
      (∀ j oj, ops[j]? = some oj → j ≠ i → listed.getD j true = false → (∀ e ∈ oj.after, Region.binds md e = true → e.on ≠ i) → oi.apart ops oj = true) →
      (∀ j, j ≠ i → listed.getD j true = false → path md ops ops.size j i = false → compat kd i j = true) →
      i ∈ Region.ready md ops listed → C w →
      sOp P ops C kd i (wpAnyQ P md ops C kd Q fuel (listed.setIfInBounds i true)) a w → wpAnyQ P md ops C kd Q (fuel + 1) listed a w := by
  intro fuel
  induction fuel with
  | zero =>
    intro listed a w hclo _ _ hr hC H
    refine ⟨fun h => (by rw [h] at hr; cases hr), fun j hj => ?_⟩
    by_cases hji : j = i
    · subst hji; exact H
    · exfalso
      have hm := ready_mono hj hji
      have : ∀ a w, wpAnyQ P md ops C kd Q 0 (listed.setIfInBounds i true) a w → False := fun a w h => by rw [h.1] at hm; cases hm
      unfold sOp at H
      simp only [hi] at H
      split at H
      · split at H
        · obtain ⟨u, _, h⟩ := H; exact this _ _ h
        · obtain ⟨u, _, h⟩ := H; exact this _ _ h
        · obtain ⟨_, _, _, h⟩ := wp_ex H; exact this _ _ h
      · exact this _ _ H
  | succ fuel ih =>
    intro listed a w hclo hfree hkind hr hC H
    refine ⟨fun h => (by rw [h] at hr; cases hr), fun j hj => ?_⟩
    by_cases hji : j = i
    · subst hji; exact H
    · have hm := ready_mono hj hji
      obtain ⟨hjun, oj, hoj, hall⟩ := mem_ready.1 hj
      have hiun := (mem_ready.1 hr).1
      have hnot : ∀ e ∈ oj.after, Region.binds md e = true → e.on ≠ i := by
        intro e he hb heq
        have h := hall e he hb
        rw [heq, (getD_of_ready hiun).1] at h; cases h
      have hap := hfree j oj hoj hji hjun hnot
      have hcp := hkind j hji hjun (path_ready hclo hj hiun)
      have H2 : sOp P ops C kd i (fun a w => sOp P ops C kd j (wpAnyQ P md ops C kd Q fuel ((listed.setIfInBounds i true).setIfInBounds j true)) a w) a w := sOp_mono hC (fun a w _ h => h.2 j hm) H
      have H3 := swap hi hoj (fun cs b => hsel i oi cs b hi) (fun cs b => hsel j oj cs b hoj) hap hcp H2
      refine sOp_mono hC (fun a' w' hC' h => ?_) H3
      rw [Array.setIfInBounds_comm _ _ (Ne.symm hji)] at h
      refine ih _ a' w' (clo_set hclo hj) ?_ ?_ (ready_mono hr (Ne.symm hji)) hC' h
      · intro k ok hk hki hun hno
        by_cases hkj : j = k
        · exact hfree k ok hk hki (hkj ▸ hjun) hno
        · exact hfree k ok hk hki ((getD_set_ne true hkj).symm.trans hun) hno
      · intro k hki hun hp
        by_cases hkj : j = k
        · exact hkind k hki (hkj ▸ hjun) hp
        · exact hkind k hki ((getD_set_ne true hkj).symm.trans hun) hp

theorem wpAny_of {Q : Act → World → Prop} {Q' : Exit → Act → World → Prop} (hQ : ∀ a w, Q a w → Q' .normal a w) : ∀ (fuel : Nat) (listed : Array Bool) (a : Act) (w : World), C w → wpAnyQ P md ops C kd Q fuel listed a w → wpAny P md ops Q' fuel listed a w := by
  intro fuel
  induction fuel with
  | zero => intro listed a w _ h; exact ⟨h.1, hQ _ _ h.2⟩
  | succ fuel ih =>
    intro listed a w hC h
    refine ⟨fun he => hQ _ _ (h.1 he), fun i hi => ?_⟩
    have h2 := h.2 i hi
    unfold sOp at h2
    unfold wpOp
    split
    · rename_i ho; simp only [ho] at h2; exact ih _ _ _ hC h2
    · rename_i o ho
      simp only [ho] at h2
      split
      · rename_i hw
        simp only [hw, if_true] at h2
        refine .inl ?_
        split at h2
        · obtain ⟨u, hu, h3⟩ := h2
          unfold Oper.wp; rw [hu w hC]; exact ih _ _ _ hC h3
        · obtain ⟨u, hu, h3⟩ := h2
          unfold Oper.wp; rw [hu]; exact ih _ _ _ hC h3
        · unfold Oper.wp at h2 ⊢
          generalize (execOp a.eval o).run P w = r at *
          cases r with
          | ok n w' =>
            cases n <;> simp only [Oper.upon] at h2 ⊢
            case value x => exact ih _ _ _ h2.1 h2.2
            case skip => exact ih _ _ _ h2.1 h2.2
            case defer x => exact ih _ _ _ h2.1 h2.2
            case enter f args => exact h2.mono (fun e w'' he => by
              cases e with
              | returned x => exact ih _ _ _ he.1 he.2
              | panicked c => exact absurd he (by simp [NoX])
              | outgrown => obtain ⟨_, _, he⟩ := he; exact absurd he (by simp [NoX]))
            case row r args => exact Rows.mono h2 (fun x w'' he => ih _ _ _ he.1 he.2)
          | halt x w' => cases x <;> simp only [Oper.upon] at h2 ⊢ <;> exact absurd h2 (by simp [NoX])
      · rename_i hw; simp only [hw] at h2; exact ih _ _ _ hC h2

theorem lex {Q : Act → World → Prop} (hs : Region.noSelect ops = true) (hk : kinds md ops kd ops.size = true) : ∀ (l : List Oper) (k : Nat) (listed : Array Bool) (a : Act) (w : World), (∀ j, l[j]? = ops[k + j]?) → clo md ops listed → (∀ j, j < k → listed.getD j true = true) → (listed.size = ops.size) →
    Region.lexFrom md ops l.length k listed = true → C w → wpSeq P ops C kd Q k l a w → wpAnyQ P md ops C kd Q l.length listed a w
  | [], _, _, _, _, _, _, _, _, hB, _, h => ⟨by simpa [Region.lexFrom] using hB, h⟩
  | o :: l, k, listed, a, w, hl, hclo, hpre, hsz, hB, hC, h => by
    have h0 : ops[k]? = some o := by simpa using (hl 0).symm
    simp only [List.length_cons, Region.lexFrom, Bool.and_eq_true] at hB
    obtain ⟨⟨hr, hf⟩, hB'⟩ := hB
    have hr' : k ∈ Region.ready md ops listed := by simpa using hr
    refine first h0 (Region.noSelect_spec hs) l.length listed a w hclo (Region.free_spec h0 hf) ?_ hr' hC ?_
    · intro j hjk hun hp
      have hj1 : ¬ j < k := fun hlt => by rw [hpre j hlt] at hun; cases hun
      have hj2 : j < ops.size := by have := (getD_of_ready hun).2; omega
      have hk2 : k < ops.size := (Array.getElem?_eq_some_iff.1 h0).1
      have := List.all_eq_true.1 (List.all_eq_true.1 hk k (by simpa using hk2)) j (by simpa using hj2)
      simp only [Bool.or_eq_true, hp, Nat.ble_eq, Bool.false_eq_true, or_false] at this
      rcases this with h | h
      · omega
      · exact h
    · have hl' : ∀ j, l[j]? = ops[k + 1 + j]? := fun j => by have := hl (j + 1); simpa [Nat.add_assoc, Nat.add_comm 1 j] using this
      have hpre' : ∀ j, j < k + 1 → (listed.setIfInBounds k true).getD j true = true := fun j hj => by
        by_cases hjk : k = j
        · subst hjk
          have := (getD_of_ready (mem_ready.1 hr').1).2
          simp [Array.getD, this]
        · rw [getD_set_ne true hjk]; exact hpre j (by omega)
      have again : ∀ a w, C w → wpSeq P ops C kd Q (k + 1) l a w → wpAnyQ P md ops C kd Q l.length (listed.setIfInBounds k true) a w := fun a w hC h => lex hs hk l (k + 1) _ a w hl' (clo_set hclo hr') hpre' (by simpa using hsz) hB' hC h
      unfold wpSeq at h
      unfold sOp
      simp only [h0]
      split
      · rename_i hw
        simp only [hw, if_true] at h
        split
        · rename_i hkk; rw [hkk] at h; obtain ⟨u, h1, h2⟩ := h; exact ⟨u, h1, again _ _ hC h2⟩
        · rename_i hkk; rw [hkk] at h; obtain ⟨u, h1, h2⟩ := h; exact ⟨u, h1, again _ _ hC h2⟩
        · rename_i hk0 hk1
          split at h
          · rename_i hkk; exact absurd hkk hk0
          · rename_i hkk; exact absurd hkk hk1
          · exact Oper.wp_mono (fun a w ⟨h1, h2⟩ => ⟨h1, again _ _ h1 h2⟩) h
      · rename_i hw; simp only [hw] at h; exact again _ _ hC h

/-- **A region that draws its order, walked in the order of the text.** -/
theorem wp_region (C : World → Prop) (kd : List Nat) {id : Nat} {Q : Exit → Act → World → Prop} {a : Act} {w : World} {l : List Oper} (hm : P.follows .mixedOrders = true) (hB : Region.lexB .any l.toArray = true) (hk : kinds .any l.toArray kd l.length = true) (hC : C (w.drewN 1))
    (h : wpSeq P l.toArray C kd (fun a' w' => Q .normal a' w') 0 l a (w.drewN 1)) : (Code.region id l.toArray true).wp P Q a w := by
  simp only [Region.lexB, Bool.and_eq_true] at hB
  refine wp_region_any hm (wpAny_of (C := C) (kd := kd) (Q := fun a w => Q .normal a w) (fun _ _ h => h) _ _ _ _ hC ?_)
  have := lex (P := P) (C := C) (kd := kd) (md := .any) hB.1 (by simpa using hk) l 0 (Array.replicate l.toArray.size false) a (w.drewN 1) (by simp) (fun k ok _ hl => by simp [Array.getD] at hl) (fun j hj => by omega) (by simp) (by simpa using hB.2) hC h
  simp only [List.size_toArray] at this ⊢
  exact this

/-! The steps. -/
section
variable {Q : Act → World → Prop} {i : Nat} {o : Oper} {rest : List Oper} {a : Act} {w : World}
/-- Told the same in each world. -/
theorem st (hw : Region.wanted o (yielded ops a.tmps) = true) (hk : kd.getD i 0 = 0) (v : Value) (hrun : ∀ w', C w' → (execOp a.eval o).run P w' = .ok (.value v) w') (h : wpSeq P ops C kd Q (i + 1) rest (a.put o.dst v) w) : wpSeq P ops C kd Q i (o :: rest) a w := by
  unfold wpSeq; simp only [hw, if_true, hk]; exact ⟨v, hrun, h⟩
/-- Told of this world. -/
theorem rd (hw : Region.wanted o (yielded ops a.tmps) = true) (hk : kd.getD i 0 = 1) (v : Value) (hrun : (execOp a.eval o).run P w = .ok (.value v) w) (h : wpSeq P ops C kd Q (i + 1) rest (a.put o.dst v) w) : wpSeq P ops C kd Q i (o :: rest) a w := by
  unfold wpSeq; simp only [hw, if_true, hk]; exact ⟨v, hrun, h⟩
/-- Not done. -/
theorem no (hw : Region.wanted o (yielded ops a.tmps) = false) (h : wpSeq P ops C kd Q (i + 1) rest (a.put o.dst undef) w) : wpSeq P ops C kd Q i (o :: rest) a w := by
  unfold wpSeq; simp only [hw, Bool.false_eq_true, if_false]; exact h
/-- The exits of one operation. -/
def QX (P : Program) (ops : Array Oper) (C : World → Prop) (kd : List Nat) (Q : Act → World → Prop) (i : Nat) (rest : List Oper) : Exit → Act → World → Prop := fun e a' w' => e = .normal ∧ C w' ∧ wpSeq P ops C kd Q i rest a' w'
/-- Any other, by the laws of single operations. -/
theorem ef (hw : Region.wanted o (yielded ops a.tmps) = true) (hk : kd.getD i 0 = 2) (h : wpList P ops (QX P ops C kd Q (i + 1) rest) [o] a w) : wpSeq P ops C kd Q i (o :: rest) a w := by
  unfold wpSeq; simp only [hw, if_true, hk]
  unfold wpList at h
  simp only [hw, if_true] at h
  rcases h with h | ⟨_, a', w', h⟩
  · unfold Oper.wp at h ⊢
    generalize (execOp a.eval o).run P w = r at *
    cases r with
    | ok n w' =>
      cases n <;> simp only [Oper.upon, wpList, QX] at h ⊢
      case value x => exact h.2
      case skip => exact h.2
      case defer x => exact h.2
      case enter f args => exact h.mono (fun e w'' he => by
        cases e with
        | returned x => exact he.2
        | panicked c => exact absurd he.1 (by simp)
        | outgrown => obtain ⟨_, _, he, _⟩ := he; cases he)
      case row r args => exact Rows.mono h (fun x w'' he => he.2)
    | halt x w' => cases x <;> simp only [Oper.upon, QX] at h ⊢ <;> exact absurd h.1 (by simp)
  · exact absurd h.1 (by simp)
theorem fin (h : Q a w) : wpSeq P ops C kd Q i [] a w := h
theorem done (hC : C w) (h : wpSeq P ops C kd Q i rest a w) : wpList P ops (QX P ops C kd Q i rest) [] a w := ⟨rfl, hC, h⟩
end
end
end Seq
end Go.Proofs.Ytpfoeeiacfadfaa
