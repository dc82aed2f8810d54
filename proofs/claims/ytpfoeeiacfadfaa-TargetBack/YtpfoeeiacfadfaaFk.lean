/-
  A region that draws its order, in which several operations make memory and none of them waits for the other: the walk forks there, and goes on in one order where all else is told the same.
-/
import Derived.Test.YtpfoeeiacfadfaaFr
namespace Go.Proofs.Ytpfoeeiacfadfaa
namespace Seq
section
variable {P : Program} {md : Region.Mode} {ops : Array Oper} {C : World → Prop} {kd : List Nat}

theorem sOp_conj {j : Nat} (hq : kd.getD j 0 = 0 ∨ kd.getD j 0 = 1) {cs : List Nat} (hne : cs ≠ []) {K : Nat → Act → World → Prop} {a : Act} {w : World} (hC : C w) (h : ∀ c ∈ cs, sOp P ops C kd j (K c) a w) : sOp P ops C kd j (fun a w => ∀ c ∈ cs, K c a w) a w := by
  obtain ⟨c0, hc0⟩ := List.exists_mem_of_ne_nil _ hne
  have h0 := h c0 hc0
  unfold sOp at h h0 ⊢
  cases ho : ops[j]? with
  | none => simp only [ho] at h ⊢; exact h
  | some o =>
    simp only [ho] at h h0 ⊢
    by_cases hw : Region.wanted o (yielded ops a.tmps) = true
    · simp only [hw, if_true] at h h0 ⊢
      rcases hq with hk | hk
      · simp only [hk] at h h0 ⊢
        obtain ⟨u, hu, _⟩ := h0
        refine ⟨u, hu, fun c hc => ?_⟩
        obtain ⟨v, hv, hK⟩ := h c hc
        have e := (hu w hC).symm.trans (hv w hC)
        simp only [Result.ok.injEq, Next.value.injEq, and_true] at e
        rw [e]; exact hK
      · simp only [hk] at h h0 ⊢
        obtain ⟨u, hu, _⟩ := h0
        refine ⟨u, hu, fun c hc => ?_⟩
        obtain ⟨v, hv, hK⟩ := h c hc
        have e := hu.symm.trans hv
        simp only [Result.ok.injEq, Next.value.injEq, and_true] at e
        rw [e]; exact hK
    · simp only [hw] at h ⊢; exact h

theorem fork {Q : Act → World → Prop} {cs : List Nat} (hne : cs ≠ []) (hsel : ∀ (j : Nat) (o : Oper) cs b, ops[j]? = some o → o.op ≠ .select cs b) :
    ∀ (fuel : Nat) (listed : Array Bool) (a : Act) (w : World), clo md ops listed →
      (∀ j oj, ops[j]? = some oj → j ∉ cs → listed.getD j true = false → (∃ c ∈ cs, path md ops ops.size j c = true) ∨ ((kd.getD j 0 = 0 ∨ kd.getD j 0 = 1) ∧ ∀ c ∈ cs, compat kd c j = true ∧ ∀ oc, ops[c]? = some oc → oc.apart ops oj = true)) →
      (∀ c ∈ cs, c ∈ Region.ready md ops listed) → C w →
      (∀ c ∈ cs, sOp P ops C kd c (wpAnyQ P md ops C kd Q fuel (listed.setIfInBounds c true)) a w) → wpAnyQ P md ops C kd Q (fuel + 1) listed a w := by
  intro fuel
  obtain ⟨c0, hc0⟩ := List.exists_mem_of_ne_nil _ hne
  induction fuel with
  | zero =>
    intro listed a w hclo hfree hr hC H
    refine ⟨fun h => (by have := hr c0 hc0; rw [h] at this; cases this), fun j hj => ?_⟩
    by_cases hji : j ∈ cs
    · exact H j hji
    · exfalso
      have hm := ready_mono hj (fun e : j = c0 => hji (e ▸ hc0))
      have : ∀ a w, wpAnyQ P md ops C kd Q 0 (listed.setIfInBounds c0 true) a w → False := fun a w h => by rw [h.1] at hm; cases hm
      obtain ⟨_, oc, hoc, _⟩ := mem_ready.1 (hr c0 hc0)
      have H0 := H c0 hc0
      unfold sOp at H0
      simp only [hoc] at H0
      split at H0
      · split at H0
        · obtain ⟨u, _, h⟩ := H0; exact this _ _ h
        · obtain ⟨u, _, h⟩ := H0; exact this _ _ h
        · obtain ⟨_, _, _, h⟩ := wp_ex H0; exact this _ _ h
      · exact this _ _ H0
  | succ fuel ih =>
    intro listed a w hclo hfree hr hC H
    refine ⟨fun h => (by have := hr c0 hc0; rw [h] at this; cases this), fun j hj => ?_⟩
    by_cases hji : j ∈ cs
    · exact H j hji
    · obtain ⟨hjun, oj, hoj, hall⟩ := mem_ready.1 hj
      rcases hfree j oj hoj hji hjun with ⟨c, hc, hp⟩ | ⟨hq, hfr⟩
      · have := path_ready (n := ops.size) hclo hj (mem_ready.1 (hr c hc)).1
        rw [hp] at this; cases this
      · have H3 : ∀ c ∈ cs, sOp P ops C kd j (fun a w => sOp P ops C kd c (wpAnyQ P md ops C kd Q fuel ((listed.setIfInBounds c true).setIfInBounds j true)) a w) a w := fun c hc => by
          obtain ⟨hcun, oc, hoc, _⟩ := mem_ready.1 (hr c hc)
          have hm := ready_mono hj (fun e : j = c => hji (e ▸ hc))
          have H2 : sOp P ops C kd c (fun a w => sOp P ops C kd j (wpAnyQ P md ops C kd Q fuel ((listed.setIfInBounds c true).setIfInBounds j true)) a w) a w := sOp_mono hC (fun a w _ h => h.2 j hm) (H c hc)
          exact swap hoc hoj (fun cs b => hsel c oc cs b hoc) (fun cs b => hsel j oj cs b hoj) ((hfr c hc).2 oc hoc) (hfr c hc).1 H2
        refine sOp_mono hC (fun a' w' hC' h => ?_) (sOp_conj hq hne hC H3)
        refine ih _ a' w' (clo_set hclo hj) ?_ (fun c hc => ready_mono (hr c hc) (fun e => hji (e ▸ hc))) hC' ?_
        · intro k ok hk hkc hun
          by_cases hkj : j = k
          · exact hfree k ok hk hkc (hkj ▸ hjun)
          · exact hfree k ok hk hkc ((getD_set_ne true hkj).symm.trans hun)
        · intro c hc
          have := h c hc
          rwa [Array.setIfInBounds_comm _ _ (fun e : c = j => hji (e ▸ hc))] at this

theorem sOp_of_seq {Q : Act → World → Prop} {i : Nat} {o : Oper} {a : Act} {w : World} (hi : ops[i]? = some o) (hC : C w) (h : wpSeq P ops C kd Q i [o] a w) : sOp P ops C kd i (fun a w => C w ∧ Q a w) a w := by
  unfold wpSeq at h
  unfold sOp
  simp only [hi]
  split
  · rename_i hw
    simp only [hw, if_true] at h
    split
    · rename_i hkk; rw [hkk] at h; obtain ⟨u, h1, h2⟩ := h; exact ⟨u, h1, hC, by simpa only [wpSeq] using h2⟩
    · rename_i hkk; rw [hkk] at h; obtain ⟨u, h1, h2⟩ := h; exact ⟨u, h1, hC, by simpa only [wpSeq] using h2⟩
    · rename_i hk0 hk1
      split at h
      · rename_i hkk; exact absurd hkk hk0
      · rename_i hkk; exact absurd hkk hk1
      · exact Oper.wp_mono (fun a w ⟨h1, h2⟩ => ⟨h1, h1, by simpa only [wpSeq] using h2⟩) h
  · rename_i hw; simp only [hw, Bool.false_eq_true, if_false, wpSeq] at h; exact ⟨hC, h⟩

/-- What is done. -/
def mark (n : Nat) (done : List Nat) : Array Bool := done.foldr (fun i b => b.setIfInBounds i true) (Array.replicate n false)
def apartAt (ops : Array Oper) (i j : Nat) : Bool := match ops[i]?, ops[j]? with
  | some oi, some oj => oi.apart ops oj
  | _, _ => false
def edge (ops : Array Oper) (j i : Nat) : Bool := match ops[j]? with
  | some oj => oj.after.any fun e => Region.binds .any e && e.on == i
  | none => false
/-- May it be done ahead of all the others? -/
def chk1 (ops : Array Oper) (kd : List Nat) (done : List Nat) (i : Nat) : Bool :=
  Nat.blt done.length ops.size && ((Region.ready .any ops (mark ops.size done)).contains i && (List.range ops.size).all fun j => j == i || (mark ops.size done).getD j true || ((edge ops j i || apartAt ops i j) && (compat kd i j || path .any ops ops.size j i)))
/-- Is one of these done ahead of all the others that turn memory? -/
def chkF (ops : Array Oper) (kd : List Nat) (done cs : List Nat) : Bool :=
  Nat.blt done.length ops.size && ((cs.all fun c => (Region.ready .any ops (mark ops.size done)).contains c) && (List.range ops.size).all fun j => cs.contains j || (mark ops.size done).getD j true || ((kd.getD j 0 == 0 || kd.getD j 0 == 1) && cs.all fun c => compat kd c j && apartAt ops c j) || cs.any fun c => path .any ops ops.size j c)
end
end Seq

section
variable {P : Program} {C : World → Prop} {kd : List Nat} {l : List Oper} {Q : Act → World → Prop} {N : Nat} {s : List (Nat × Value)} {w : World}
/-- The walk of a region, some of whose operations are done. -/
structure WA (P : Program) (l : List Oper) (C : World → Prop) (kd : List Nat) (Q : Act → World → Prop) (done : List Nat) (a : Act) (w : World) : Prop where
  h : C w → Seq.clo .any l.toArray (Seq.mark l.toArray.size done) → Seq.wpAnyQ P .any l.toArray C kd Q (l.toArray.size - done.length) (Seq.mark l.toArray.size done) a w
structure SO (P : Program) (l : List Oper) (C : World → Prop) (kd : List Nat) (Q : Act → World → Prop) (done : List Nat) (a : Act) (w : World) (c : Nat) : Prop where
  h : C w → Seq.sOp P l.toArray C kd c (fun a w => C w ∧ WA P l C kd Q (c :: done) a w) a w
theorem so {c : Nat} {o : Oper} {rest : List Oper} {done : List Nat} (ho : l.drop c = o :: rest) (h : WQ P l.toArray C kd (fun a w => WA P l C kd Q (c :: done) a w) c [o] (A N s) w) : SO P l C kd Q done (A N s) w c := by
  have hi : l.toArray[c]? = some o := by
    have := congrArg (fun m => m[0]?) ho
    simpa using this
  exact ⟨fun hC => Seq.sOp_of_seq hi hC h.h⟩
theorem wa_first {i : Nat} {o : Oper} {rest : List Oper} {done : List Nat} (hs : Region.noSelect l.toArray = true) (ho : l.drop i = o :: rest) (hc : Seq.chk1 l.toArray kd done i = true)
    (h : WQ P l.toArray C kd (fun a w => WA P l C kd Q (i :: done) a w) i [o] (A N s) w) : WA P l C kd Q done (A N s) w := by
  have hi : l.toArray[i]? = some o := by
    have := congrArg (fun m => m[0]?) ho
    simpa using this
  refine ⟨fun hC hclo => ?_⟩
  simp only [Seq.chk1, Bool.and_eq_true, Nat.blt_eq] at hc
  obtain ⟨hlt, hr, hall⟩ := hc
  have hr' : i ∈ Region.ready .any l.toArray (Seq.mark l.toArray.size done) := by simpa using hr
  have hall' : ∀ j oj, l.toArray[j]? = some oj → j ≠ i → (Seq.mark l.toArray.size done).getD j true = false → (Seq.edge l.toArray j i = true ∨ Seq.apartAt l.toArray i j = true) ∧ (Seq.compat kd i j = true ∨ Seq.path .any l.toArray l.toArray.size j i = true) := by
    intro j oj hoj hji hun
    have hj2 : j < l.toArray.size := (Array.getElem?_eq_some_iff.1 hoj).1
    have := List.all_eq_true.1 hall j (List.mem_range.2 hj2)
    simp only [Bool.or_eq_true, Bool.and_eq_true, hun, beq_iff_eq, Bool.false_eq_true, or_false] at this
    exact this.resolve_left hji
  have hf : l.toArray.size - done.length = (l.toArray.size - (i :: done).length) + 1 := by simp only [List.length_cons]; omega
  rw [hf]
  refine Seq.first hi (Region.noSelect_spec hs) _ _ _ _ hclo ?_ ?_ hr' hC (Seq.sOp_mono hC (fun a w _ h => h.2.h h.1 (Seq.clo_set hclo hr')) (Seq.sOp_of_seq hi hC h.h))
  · intro j oj hoj hji hun hno
    rcases (hall' j oj hoj hji hun).1 with he | he
    · exfalso
      unfold Seq.edge at he
      simp only [hoj] at he
      obtain ⟨e, hme, hh⟩ := Array.any_eq_true'.1 he
      simp only [Bool.and_eq_true, beq_iff_eq] at hh
      exact hno e hme hh.1 hh.2
    · unfold Seq.apartAt at he
      simpa only [hi, hoj] using he
  · intro j hji hun hp
    have hj2 := (Seq.getD_of_ready hun).2
    have hj3 : j < l.toArray.size := by
      have hsz : ∀ d : List Nat, (Seq.mark l.toArray.size d).size = l.toArray.size := fun d => by
        induction d with
        | nil => simp [Seq.mark]
        | cons x d ih => simpa [Seq.mark] using ih
      rw [hsz] at hj2; exact hj2
    rcases (hall' j _ (Array.getElem?_eq_getElem hj3) hji hun).2 with he | he
    · exact he
    · rw [hp] at he; cases he
/-- Each of these may be the next that turns memory. -/
def AllSO (P : Program) (l : List Oper) (C : World → Prop) (kd : List Nat) (Q : Act → World → Prop) (done : List Nat) (a : Act) (w : World) : List Nat → Prop
  | [] => True
  | c :: cs => SO P l C kd Q done a w c ∧ AllSO P l C kd Q done a w cs
theorem AllSO.mem {done : List Nat} {a : Act} : ∀ {cs : List Nat}, AllSO P l C kd Q done a w cs → ∀ c ∈ cs, SO P l C kd Q done a w c
  | _ :: _, h, c, hc => by
    rcases List.mem_cons.1 hc with rfl | hc
    · exact h.1
    · exact AllSO.mem h.2 c hc
theorem wa_fork (c : Nat) (cs : List Nat) {done : List Nat} {a : Act} (hs : Region.noSelect l.toArray = true) (hc : Seq.chkF l.toArray kd done (c :: cs) = true) (h : AllSO P l C kd Q done a w (c :: cs)) : WA P l C kd Q done a w := by
  refine ⟨fun hC hclo => ?_⟩
  simp only [Seq.chkF, Bool.and_eq_true, Nat.blt_eq] at hc
  obtain ⟨hlt, hr, hall⟩ := hc
  have hr' : ∀ x ∈ c :: cs, x ∈ Region.ready .any l.toArray (Seq.mark l.toArray.size done) := fun x hx => by
    have := List.all_eq_true.1 hr x hx
    simpa using this
  have hf : l.toArray.size - done.length = (l.toArray.size - (c :: done).length) + 1 := by simp only [List.length_cons]; omega
  rw [hf]
  refine Seq.fork (cs := c :: cs) (by simp) (Region.noSelect_spec hs) _ _ _ _ hclo ?_ hr' hC (fun x hx => Seq.sOp_mono hC (fun a w _ h => h.2.h h.1 (Seq.clo_set hclo (hr' x hx))) ((h.mem x hx).h hC))
  intro j oj hoj hji hun
  have hj2 : j < l.toArray.size := (Array.getElem?_eq_some_iff.1 hoj).1
  have := List.all_eq_true.1 hall j (List.mem_range.2 hj2)
  rw [Bool.or_eq_true, Bool.or_eq_true, Bool.or_eq_true] at this
  rcases this with ((hin | hin) | hq) | hp
  · exact absurd (by simpa using hin) hji
  · rw [hun] at hin; cases hin
  · right
    rw [Bool.and_eq_true, Bool.or_eq_true] at hq
    refine ⟨by simpa using hq.1, fun x hx => ?_⟩
    have h2 := List.all_eq_true.1 hq.2 x hx
    rw [Bool.and_eq_true] at h2
    refine ⟨h2.1, fun oc hoc => ?_⟩
    have h3 := h2.2
    unfold Seq.apartAt at h3
    simpa only [hoc, hoj] using h3
  · left
    obtain ⟨x, hx, hp⟩ := List.any_eq_true.1 hp
    exact ⟨x, hx, hp⟩
theorem wa_end {done : List Nat} (hc : (Nat.beq (l.toArray.size - done.length) 0 && (Region.ready .any l.toArray (Seq.mark l.toArray.size done)).isEmpty) = true) (h : Q (A N s) w) : WA P l C kd Q done (A N s) w := by
  refine ⟨fun _ _ => ?_⟩
  rw [Bool.and_eq_true, Nat.beq_eq] at hc
  rw [hc.1]
  exact ⟨by simpa using hc.2, h⟩
/-- A region that draws its order, the walk of which forks. -/
theorem rf {Q : Exit → Act → World → Prop} (C : World → Prop) (kd : List Nat) {id : Nat} {l : List Oper} (hm : P.follows .mixedOrders = true) (hC : C (w.drewN 1))
    (h : WA P l C kd (fun a w => Q .normal a w) [] (A N s) (w.drewN 1)) : CW P (.region id l.toArray true) Q (A N s) w := by
  refine ⟨wp_region_any hm (Seq.wpAny_of (C := C) (kd := kd) (Q := fun a w => Q .normal a w) (fun _ _ h => h) _ _ _ _ hC ?_)⟩
  exact h.h hC (fun k ok _ hl => by simp [Seq.mark, Array.getD] at hl)
end
end Go.Proofs.Ytpfoeeiacfadfaa
