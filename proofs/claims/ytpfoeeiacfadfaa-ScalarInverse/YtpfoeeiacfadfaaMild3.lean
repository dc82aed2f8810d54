/-
  A statement of a Go function whose operations may be carried out in several orders, and that writes to memory at its end (the stores come behind all that reads), is walked once, in the order of the text.
  Conditions: the stores are bound behind every operation that is told of the world as it was; what is bound to no store hangs on no world.
-/
import Derived.BigQuiet
import Derived.WalkKit
namespace Go.Proofs.Ytpfoeeiacfadfaa
namespace Mild3

/-- Which operations are stores. -/
def st (ops : Array Oper) (i : Nat) : Bool := match ops[i]? with | some o => o.dst.isNone | none => false
/-- Which operations every store waits for. -/
def ea (md : Region.Mode) (ops : Array Oper) (i : Nat) : Bool :=
  (List.range ops.size).all fun s => !st ops s || (match ops[s]? with | some os => os.after.any (fun e => Region.binds md e && e.on == i) | none => true)

section
variable (P : Program) (md : Region.Mode) (ops : Array Oper) (G G0 : World → World → Prop) (C C0 : World → Prop) (K0 : FuncId → Array Value → Value → World → Prop)

/-- What the worlds, and the callees' words, keep to. -/
structure Fit : Prop where
  refl : ∀ w, G w w
  trans : ∀ a b c, G a b → G b c → G a c
  inC : ∀ w w', C w → G w w' → C w'
  keep : ∀ f args v w w', K0 f args v w → G w w' → K0 f args v w'
  refl0 : ∀ w, G0 w w
  sub : ∀ w w', G0 w w' → G w w'
  in0 : ∀ w w', C0 w → G0 w w' → C0 w'
  c0 : ∀ w, C0 w → C w

def addF (fs : Option Tmp → World → Prop) (d : Option Tmp) (F : World → Prop) : Option Tmp → World → Prop := fun t w => fs t w ∧ (d = t → F w)

def Stab (F : World → Prop) : Prop := ∀ w w', G w w' → F w → F w'

def has (fs : Option Tmp → World → Prop) (ts : List Tmp) (w : World) : Prop := ∀ t ∈ ts, fs (some t) w

def out (v : Value) (w : World) : Result Next → Prop
  | .ok (.value u) w2 => v = u ∧ G w2 w
  | .ok .skip w2 => v = undef ∧ G w2 w
  | .ok (.enter f args) _ => K0 f args v w
  | _ => False

/-- How an operation may turn the world. -/
def rel (i : Nat) : World → World → Prop := if st ops i then G else G0

def Canon (i : Nat) (o : Oper) (a : Act) (fs : Option Tmp → World → Prop) (v : Value) (w : World) : Prop :=
  ∃ w1, C w1 ∧ (ea md ops i = true → C0 w1) ∧ has fs (o.looksAt ops) w1 ∧ out G K0 v w ((execOp a.eval o).run P w1)

def goodUpon (R : World → World → Prop) (w : World) : Result Next → Prop
  | .ok (.value _) w2 => R w w2
  | .ok .skip w2 => R w w2
  | .ok (.enter f args) w2 => w2 = w ∧ Calls P f args w (fun e w' => ∃ v, e = .returned v ∧ R w w' ∧ K0 f args v w')
  | _ => False

def total (i : Nat) (o : Oper) (a : Act) (fs : Option Tmp → World → Prop) : Prop :=
  (∀ w, C w → (ea md ops i = true → C0 w) → has fs (o.looksAt ops) w → goodUpon P K0 (rel ops G G0 i) w ((execOp a.eval o).run P w)) ∧
  (ea md ops i = false → st ops i = false → ∃ u, ∀ w, (execOp a.eval o).run P w = .ok (.value u) w)

/-- No store has come. -/
def opn (listed : Array Bool) : Prop := ∀ s, st ops s = true → listed.getD s false = false
/-- Where a store has come, all that it waits for has. -/
def inv (listed : Array Bool) : Prop := ∀ s i, st ops s = true → ea md ops i = true → listed.getD s false = true → listed.getD i false = true

def Sat (listed : Array Bool) (fs : Option Tmp → World → Prop) : Prop := (∀ t, Stab G (fs t)) ∧ inv md ops listed ∧ (∃ w, C w ∧ ∀ t, fs t w) ∧ (opn ops listed → ∃ w, C0 w ∧ ∀ t, fs t w)

def mOp (i : Nat) (K : Act → (Option Tmp → World → Prop) → Prop) (a : Act) (fs : Option Tmp → World → Prop) : Prop :=
  match ops[i]? with
  | none => K a fs
  | some o => if Region.wanted o (yielded ops a.tmps) then total P md ops G G0 C C0 K0 i o a fs ∧ ∀ v, K (a.put o.dst v) (addF fs o.dst (Canon P md ops G C C0 K0 i o a fs v)) else K (a.put o.dst undef) fs

def wpAnyM (Q : Act → (Option Tmp → World → Prop) → Prop) : Nat → Array Bool → Act → (Option Tmp → World → Prop) → Prop
  | 0, listed, a, fs => Sat md ops G C C0 listed fs → Region.ready md ops listed = [] ∧ Q a fs
  | fuel + 1, listed, a, fs => Sat md ops G C C0 listed fs →
    (Region.ready md ops listed = [] → Q a fs) ∧
    ∀ i ∈ Region.ready md ops listed, mOp P md ops G G0 C C0 K0 i (wpAnyM Q fuel (listed.setIfInBounds i true)) a fs
end

section
variable {P : Program} {md : Region.Mode} {ops : Array Oper} {G G0 : World → World → Prop} {C C0 : World → Prop} {K0 : FuncId → Array Value → Value → World → Prop}

theorem wpAnyM_intro {Q : Act → (Option Tmp → World → Prop) → Prop} {fuel : Nat} {listed : Array Bool} {a : Act} {fs : Option Tmp → World → Prop}
    (h : Sat md ops G C C0 listed fs → wpAnyM P md ops G G0 C C0 K0 Q fuel listed a fs) : wpAnyM P md ops G G0 C C0 K0 Q fuel listed a fs := by
  cases fuel with
  | zero => exact fun hs => (h hs) hs
  | succ fuel => exact fun hs => (h hs) hs

theorem out_stab (F : Fit G G0 C C0 K0) {v : Value} {r : Result Next} : Stab G (fun w => out G K0 v w r) := by
  intro w w' hg h
  cases r with
  | ok n w2 =>
    cases n <;> simp only [out] at h ⊢
    case value u => exact ⟨h.1, F.trans _ _ _ h.2 hg⟩
    case skip => exact ⟨h.1, F.trans _ _ _ h.2 hg⟩
    case enter f args => exact F.keep _ _ _ _ _ h hg
  | halt x w2 => simp only [out] at h

theorem canon_stab (F : Fit G G0 C C0 K0) {i : Nat} {o : Oper} {a : Act} {fs : Option Tmp → World → Prop} {v : Value} : Stab G (Canon P md ops G C C0 K0 i o a fs v) := by
  intro w w' hg ⟨w1, h1, h1', h2, h3⟩
  exact ⟨w1, h1, h1', h2, out_stab F w w' hg h3⟩

theorem addF_stab {fs : Option Tmp → World → Prop} {d : Option Tmp} {X : World → Prop} (h : ∀ t, Stab G (fs t)) (hX : Stab G X) : ∀ t, Stab G (addF fs d X t) :=
  fun t w w' hg ⟨h1, h2⟩ => ⟨h t w w' hg h1, fun e => hX w w' hg (h2 e)⟩

theorem getD_of_ready {i : Nat} {listed : Array Bool} (h : listed.getD i true = false) : listed.getD i false = false ∧ i < listed.size := by
  by_cases hs : i < listed.size
  · simp only [Array.getD, hs, dite_true] at h ⊢; exact ⟨h, trivial⟩
  · simp [Array.getD, hs] at h
theorem getD_set_self {i : Nat} {listed : Array Bool} (h : i < listed.size) : (listed.setIfInBounds i true).getD i false = true := by simp [Array.getD, h]
theorem getD_set_other {i k : Nat} {listed : Array Bool} (h : i ≠ k) : (listed.setIfInBounds i true).getD k false = listed.getD k false := getD_set_ne false h

theorem ea_edge {s i : Nat} {os : Oper} (hos : ops[s]? = some os) (hs : st ops s = true) (he : ea md ops i = true) : ∃ e ∈ os.after, Region.binds md e = true ∧ e.on = i := by
  unfold ea at he
  have hlt : s < ops.size := (Array.getElem?_eq_some_iff.1 hos).1
  have h := List.all_eq_true.1 he s (by simpa using hlt)
  rw [hs, hos] at h
  simp only [Bool.not_true, Bool.false_or] at h
  obtain ⟨e, h1, h2⟩ := Array.any_eq_true'.1 h
  simp only [Bool.and_eq_true, beq_iff_eq] at h2
  exact ⟨e, h1, h2.1, h2.2⟩
/-- A store that may come waits for nothing early. -/
theorem ready_early {s i : Nat} {listed : Array Bool} (hr : s ∈ Region.ready md ops listed) (hs : st ops s = true) (he : ea md ops i = true) : listed.getD i false = true := by
  obtain ⟨_, os, hos, hall⟩ := mem_ready.1 hr
  obtain ⟨e, h1, h2, rfl⟩ := ea_edge hos hs he
  exact hall e h1 h2
theorem inv_set {i : Nat} {listed : Array Bool} (h : inv md ops listed) (hr : i ∈ Region.ready md ops listed) : inv md ops (listed.setIfInBounds i true) := by
  intro s k hs hk hl
  by_cases hik : i = k
  · subst hik; exact getD_set_self (getD_of_ready (mem_ready.1 hr).1).2
  · rw [getD_set_other hik]
    by_cases his : i = s
    · subst his; exact ready_early hr hs hk
    · rw [getD_set_other his] at hl; exact h s k hs hk hl
theorem opn_of_set {i : Nat} {listed : Array Bool} (hr : i ∈ Region.ready md ops listed) (h : opn ops (listed.setIfInBounds i true)) : opn ops listed ∧ st ops i = false := by
  have hi := getD_of_ready (mem_ready.1 hr).1
  have hst : st ops i = false := by
    cases hc : st ops i with
    | false => rfl
    | true => have := h i hc; rw [getD_set_self hi.2] at this; cases this
  refine ⟨fun s hs => ?_, hst⟩
  by_cases his : i = s
  · subst his; exact hi.1
  · have := h s hs; rwa [getD_set_other his] at this
theorem opn_set {i : Nat} {listed : Array Bool} (h : opn ops listed) (hi : st ops i = false) : opn ops (listed.setIfInBounds i true) := by
  intro s hs
  have : i ≠ s := fun e => by subst e; rw [hi] at hs; cases hs
  rw [getD_set_other this]; exact h s hs
theorem opn_early {i : Nat} {listed : Array Bool} (h : inv md ops listed) (hr : i ∈ Region.ready md ops listed) (he : ea md ops i = true) : opn ops listed := by
  intro s hs
  cases hc : listed.getD s false with
  | false => rfl
  | true => have := h s i hs he hc; rw [(getD_of_ready (mem_ready.1 hr).1).1] at this; cases this

/-- An operation that goes through yields something. -/
theorem run_out (F : Fit G G0 C C0 K0) {i : Nat} {o : Oper} {a : Act} {fs : Option Tmp → World → Prop} {w : World} (hw : C w) (h0 : ea md ops i = true → C0 w) (hst : ∀ t, Stab G (fs t)) (hf : ∀ t, fs t w)
    (ht : total P md ops G G0 C C0 K0 i o a fs) : ∃ v w', rel ops G G0 i w w' ∧ C w' ∧ Canon P md ops G C C0 K0 i o a fs v w' ∧ ∀ t, fs t w' := by
  have h := ht.1 w hw h0 (fun t _ => hf (some t))
  have sub : ∀ w', rel ops G G0 i w w' → G w w' := fun w' hg => by unfold rel at hg; split at hg; exact hg; exact F.sub _ _ hg
  have key : ∀ v w', rel ops G G0 i w w' → out G K0 v w' ((execOp a.eval o).run P w) → ∃ v w', rel ops G G0 i w w' ∧ C w' ∧ Canon P md ops G C C0 K0 i o a fs v w' ∧ ∀ t, fs t w' := fun v w' hg ho =>
    ⟨v, w', hg, F.inC _ _ hw (sub _ hg), ⟨w, hw, h0, fun t _ => hf (some t), ho⟩, fun t => hst t _ _ (sub _ hg) (hf t)⟩
  generalize hr : (execOp a.eval o).run P w = r at h key
  cases r with
  | ok n w2 =>
    cases n <;> simp only [goodUpon] at h
    case value u => exact key u w2 h ⟨rfl, F.refl _⟩
    case skip => exact key undef w2 h ⟨rfl, F.refl _⟩
    case enter f args =>
      obtain ⟨_, hc⟩ := h
      obtain ⟨e, w', fr, ⟨v, _, hg, hk⟩, _⟩ := hc []
      exact key v w' hg hk
  | halt x w2 => simp only [goodUpon] at h

theorem some_out (F : Fit G G0 C C0 K0) {i : Nat} {o : Oper} {a : Act} {fs : Option Tmp → World → Prop} {listed : Array Bool} (hs : Sat md ops G C C0 listed fs) (hr : i ∈ Region.ready md ops listed)
    (ht : total P md ops G G0 C C0 K0 i o a fs) : ∃ v, Sat md ops G C C0 (listed.setIfInBounds i true) (addF fs o.dst (Canon P md ops G C C0 K0 i o a fs v)) := by
  obtain ⟨hst, hinv, ⟨w, hw, hf⟩, h4⟩ := hs
  by_cases ho : opn ops listed
  · obtain ⟨w, hw, hf⟩ := h4 ho
    obtain ⟨v, w', hg, hC, hcan, hf'⟩ := run_out F (F.c0 _ hw) (fun _ => hw) hst hf ht
    refine ⟨v, addF_stab hst (canon_stab F), inv_set hinv hr, ⟨w', hC, fun t => ⟨hf' t, fun _ => hcan⟩⟩, fun ho' => ⟨w', ?_, fun t => ⟨hf' t, fun _ => hcan⟩⟩⟩
    have := (opn_of_set hr ho').2
    unfold rel at hg
    rw [this] at hg
    exact F.in0 _ _ hw hg
  · have he : ea md ops i = true → C0 w := fun he => absurd (opn_early hinv hr he) ho
    obtain ⟨v, w', hg, hC, hcan, hf'⟩ := run_out F hw he hst hf ht
    exact ⟨v, addF_stab hst (canon_stab F), inv_set hinv hr, ⟨w', hC, fun t => ⟨hf' t, fun _ => hcan⟩⟩, fun ho' => absurd (opn_of_set hr ho').1 ho⟩

/-- It serves every order. -/
theorem wpAny_of (F : Fit G G0 C C0 K0) {Q : Act → (Option Tmp → World → Prop) → Prop} {Q' : Exit → Act → World → Prop} (hQ : ∀ a fs w, C w → (∀ t, fs t w) → Q a fs → Q' .normal a w) :
    ∀ (fuel : Nat) (listed : Array Bool) (a : Act) (fs : Option Tmp → World → Prop) (w : World), (∀ t, Stab G (fs t)) → inv md ops listed → C w → (opn ops listed → C0 w) → (∀ t, fs t w) →
    wpAnyM P md ops G G0 C C0 K0 Q fuel listed a fs → wpAny P md ops Q' fuel listed a w := by
  intro fuel
  induction fuel with
  | zero =>
    intro listed a fs w hst hinv hw h0 hf h
    have hs : Sat md ops G C C0 listed fs := ⟨hst, hinv, ⟨w, hw, hf⟩, fun ho => ⟨w, h0 ho, hf⟩⟩
    exact ⟨(h hs).1, hQ _ _ _ hw hf (h hs).2⟩
  | succ fuel ih =>
    intro listed a fs w hst hinv hw hop hf h
    have hs : Sat md ops G C C0 listed fs := ⟨hst, hinv, ⟨w, hw, hf⟩, fun ho => ⟨w, hop ho, hf⟩⟩
    obtain ⟨h0, h1⟩ := h hs
    refine ⟨fun he => hQ _ _ _ hw hf (h0 he), fun i hi => ?_⟩
    have h2 := h1 i hi
    have hinv' := inv_set hinv hi
    unfold mOp at h2
    unfold wpOp
    split
    · rename_i ho
      obtain ⟨_, o, ho', _⟩ := mem_ready.1 hi
      rw [ho] at ho'; cases ho'
    · rename_i o ho
      simp only [ho] at h2
      split
      · rename_i hwant
        simp only [hwant, if_true] at h2
        refine .inl ?_
        obtain ⟨ht, hk⟩ := h2
        have he : ea md ops i = true → C0 w := fun he => hop (opn_early hinv hi he)
        have hg := ht.1 w hw he (fun t _ => hf (some t))
        have key : ∀ v w', rel ops G G0 i w w' → out G K0 v w' ((execOp a.eval o).run P w) → wpAny P md ops Q' fuel (listed.setIfInBounds i true) (a.put o.dst v) w' := fun v w' hgg hout => by
          have sub : G w w' := by unfold rel at hgg; split at hgg; exact hgg; exact F.sub _ _ hgg
          refine ih _ _ _ _ (addF_stab hst (canon_stab F)) hinv' (F.inC _ _ hw sub) (fun ho' => ?_) (fun t => ⟨hst t _ _ sub (hf t), fun _ => ⟨w, hw, he, fun t _ => hf (some t), hout⟩⟩) (hk v)
          obtain ⟨ho1, hsf⟩ := opn_of_set hi ho'
          unfold rel at hgg
          rw [hsf] at hgg
          exact F.in0 _ _ (hop ho1) hgg
        unfold Oper.wp
        generalize (execOp a.eval o).run P w = r at hg key
        cases r with
        | ok n w2 =>
          cases n <;> simp only [goodUpon] at hg <;> simp only [Oper.upon]
          case value u => exact key u w2 hg ⟨rfl, F.refl _⟩
          case skip => exact key undef w2 hg ⟨rfl, F.refl _⟩
          case enter f args =>
            obtain ⟨rfl, hc⟩ := hg
            exact hc.mono fun e w' ⟨v, he, hgg, hkk⟩ => by subst he; exact key v w' hgg hkk
        | halt x w2 => simp only [goodUpon] at hg
      · rename_i hwant
        simp only [hwant] at h2
        exact ih _ _ _ _ hst hinv' hw (fun ho' => hop (opn_of_set hi ho').1) hf h2

theorem has_add {fs : Option Tmp → World → Prop} {d : Option Tmp} {X : World → Prop} {ts : List Tmp} {w : World} (h : ∀ t, d = some t → t ∉ ts) : has (addF fs d X) ts w ↔ has fs ts w :=
  ⟨fun hh t ht => (hh t ht).1, fun hh t ht => ⟨hh t ht, fun e => absurd ht (h t e)⟩⟩

theorem total_put {j : Nat} {oi oj : Oper} {a : Act} {fs : Option Tmp → World → Prop} {v : Value} {X : World → Prop} (hs : ∀ cs b, oj.op ≠ .select cs b) (h : ∀ d, oi.dst = some d → d ∉ oj.looksAt ops) :
    total P md ops G G0 C C0 K0 j oj (a.put oi.dst v) (addF fs oi.dst X) ↔ total P md ops G G0 C C0 K0 j oj a fs := by
  unfold total
  rw [execOp_put oj hs a oi.dst v h]
  constructor
  · intro hh; exact ⟨fun w hw h0 hf => hh.1 w hw h0 ((has_add h).2 hf), hh.2⟩
  · intro hh; exact ⟨fun w hw h0 hf => hh.1 w hw h0 ((has_add h).1 hf), hh.2⟩

theorem canon_put {j : Nat} {oi oj : Oper} {a : Act} {fs : Option Tmp → World → Prop} {v u : Value} {X : World → Prop} (hs : ∀ cs b, oj.op ≠ .select cs b) (h : ∀ d, oi.dst = some d → d ∉ oj.looksAt ops) :
    Canon P md ops G C C0 K0 j oj (a.put oi.dst v) (addF fs oi.dst X) u = Canon P md ops G C C0 K0 j oj a fs u := by
  funext w
  unfold Canon
  rw [execOp_put oj hs a oi.dst v h]
  apply propext
  constructor
  · rintro ⟨w1, h1, h0, h2, h3⟩; exact ⟨w1, h1, h0, (has_add h).1 h2, h3⟩
  · rintro ⟨w1, h1, h0, h2, h3⟩; exact ⟨w1, h1, h0, (has_add h).2 h2, h3⟩

theorem total_put' {j : Nat} {oi oj : Oper} {a : Act} {fs : Option Tmp → World → Prop} {v : Value} (hs : ∀ cs b, oj.op ≠ .select cs b) (h : ∀ d, oi.dst = some d → d ∉ oj.looksAt ops) :
    total P md ops G G0 C C0 K0 j oj (a.put oi.dst v) fs ↔ total P md ops G G0 C C0 K0 j oj a fs := by
  unfold total
  rw [execOp_put oj hs a oi.dst v h]

theorem canon_put' {j : Nat} {oi oj : Oper} {a : Act} {fs : Option Tmp → World → Prop} {v u : Value} (hs : ∀ cs b, oj.op ≠ .select cs b) (h : ∀ d, oi.dst = some d → d ∉ oj.looksAt ops) :
    Canon P md ops G C C0 K0 j oj (a.put oi.dst v) fs u = Canon P md ops G C C0 K0 j oj a fs u := by
  funext w
  unfold Canon
  rw [execOp_put oj hs a oi.dst v h]

theorem addF_comm (fs : Option Tmp → World → Prop) (d e : Option Tmp) (X Y : World → Prop) : addF (addF fs d X) e Y = addF (addF fs e Y) d X := by
  funext t w
  apply propext
  constructor
  · rintro ⟨⟨h1, h2⟩, h3⟩; exact ⟨⟨h1, h3⟩, h2⟩
  · rintro ⟨⟨h1, h2⟩, h3⟩; exact ⟨⟨h1, h3⟩, h2⟩

/-- What may come up waits for nothing that has not come up. -/
theorem not_after {i : Nat} {oj : Oper} {listed : Array Bool} (hi : listed.getD i true = false) (hall : ∀ e ∈ oj.after, Region.binds md e = true → listed.getD e.on false = true) :
    ∀ e ∈ oj.after, Region.binds md e = true → e.on ≠ i := by
  intro e he hb heq
  have h := hall e he hb
  subst heq
  by_cases hs : e.on < listed.size
  · simp only [Array.getD, hs, dite_true] at hi h
    exact absurd (h.symm.trans hi) (by decide)
  · simp [Array.getD, hs] at hi

/-- Behind one more operation the others are still apart. -/
theorem apart_still {i j : Nat} {oi : Oper} {listed : Array Bool} (hj : listed.getD j true = false)
    (h : ∀ k ok, ops[k]? = some ok → k ≠ i → listed.getD k true = false → (∀ e ∈ ok.after, Region.binds md e = true → e.on ≠ i) → oi.apart ops ok = true) :
    ∀ k ok, ops[k]? = some ok → k ≠ i → (listed.setIfInBounds j true).getD k true = false → (∀ e ∈ ok.after, Region.binds md e = true → e.on ≠ i) → oi.apart ops ok = true := by
  intro k ok hk hki hun hno
  by_cases hkj : j = k
  · exact h k ok hk hki (hkj ▸ hj) hno
  · exact h k ok hk hki ((getD_set_ne true hkj).symm.trans hun) hno

/-- What is known stands without the other operation. -/
theorem sat_drop (F : Fit G G0 C C0 K0) {i j : Nat} {oi : Oper} {a : Act} {fs : Option Tmp → World → Prop} {listed : Array Bool} {d : Option Tmp} {v : Value} {Y : World → Prop} (hsat : Sat md ops G C C0 listed fs) (hri : i ∈ Region.ready md ops listed) (hrj : j ∈ Region.ready md ops listed) (_hij : j ≠ i)
    (ht : total P md ops G G0 C C0 K0 i oi a fs) (h : Sat md ops G C C0 ((listed.setIfInBounds j true).setIfInBounds i true) (addF (addF fs oi.dst (Canon P md ops G C C0 K0 i oi a fs v)) d Y)) :
    Sat md ops G C C0 (listed.setIfInBounds i true) (addF fs oi.dst (Canon P md ops G C C0 K0 i oi a fs v)) := by
  obtain ⟨hst, hinv, _, h4⟩ := hsat
  obtain ⟨_, _, ⟨w, hw, hf⟩, k4⟩ := h
  refine ⟨addF_stab hst (canon_stab F), inv_set hinv hri, ⟨w, hw, fun t => (hf t).1⟩, fun ho => ?_⟩
  obtain ⟨ho1, hsi⟩ := opn_of_set hri ho
  cases hsj : st ops j with
  | false =>
    have : opn ops ((listed.setIfInBounds j true).setIfInBounds i true) := opn_set (opn_set ho1 hsj) hsi
    obtain ⟨w, hw, hf⟩ := k4 this
    exact ⟨w, hw, fun t => (hf t).1⟩
  | true =>
    have he : ea md ops i = false := by
      cases hc : ea md ops i with
      | false => rfl
      | true => have := ready_early hrj hsj hc; rw [(getD_of_ready (mem_ready.1 hri).1).1] at this; cases this
    obtain ⟨u, hu⟩ := ht.2 he hsi
    obtain ⟨w0, hw0, hf0⟩ := h4 ho1
    refine ⟨w0, hw0, fun t => ⟨hf0 t, fun e => ?_⟩⟩
    obtain ⟨w1, _, _, _, hout⟩ := (hf t).1.2 e
    rw [hu w1] at hout
    exact ⟨w0, F.c0 _ hw0, (fun h => by rw [he] at h; cases h), fun t _ => hf0 (some t), by rw [hu w0]; exact ⟨hout.1, F.refl _⟩⟩
theorem sat_skip {i : Nat} {fs : Option Tmp → World → Prop} {listed : Array Bool} (hs : Sat md ops G C C0 listed fs) (hr : i ∈ Region.ready md ops listed) : Sat md ops G C C0 (listed.setIfInBounds i true) fs :=
  ⟨hs.1, inv_set hs.2.1 hr, hs.2.2.1, fun ho => hs.2.2.2 (opn_of_set hr ho).1⟩

/-- The operation 'i', taken first, serves: every other one that may come up now is apart from it. -/
theorem first (F : Fit G G0 C C0 K0) {Q : Act → (Option Tmp → World → Prop) → Prop} {i : Nat} {oi : Oper} (hi : ops[i]? = some oi) (hsel : ∀ (j : Nat) (o : Oper) cs b, ops[j]? = some o → o.op ≠ .select cs b) :
    ∀ (fuel : Nat) (listed : Array Bool) (a : Act) (fs : Option Tmp → World → Prop),
      (∀ j oj, ops[j]? = some oj → j ≠ i → listed.getD j true = false → (∀ e ∈ oj.after, Region.binds md e = true → e.on ≠ i) → oi.apart ops oj = true) →
      i ∈ Region.ready md ops listed →
      mOp P md ops G G0 C C0 K0 i (wpAnyM P md ops G G0 C C0 K0 Q fuel (listed.setIfInBounds i true)) a fs → wpAnyM P md ops G G0 C C0 K0 Q (fuel + 1) listed a fs := by
  intro fuel
  induction fuel with
  | zero =>
    intro listed a fs _ hr H hsat
    refine ⟨fun h => (by rw [h] at hr; cases hr), fun j hj => ?_⟩
    by_cases hji : j = i
    · subst hji; exact H
    · exfalso
      have hm := ready_mono hj hji
      unfold mOp at H
      simp only [hi] at H
      by_cases hwant : Region.wanted oi (yielded ops a.tmps) = true
      · simp only [hwant, if_true] at H
        obtain ⟨v, hs'⟩ := some_out F hsat hr H.1
        have := (H.2 v hs').1
        rw [this] at hm
        cases hm
      · simp only [hwant] at H
        have := (H (sat_skip hsat hr)).1
        rw [this] at hm
        cases hm
  | succ fuel ih =>
    intro listed a fs hfree hr H hsat
    refine ⟨fun h => (by rw [h] at hr; cases hr), fun j hj => ?_⟩
    by_cases hji : j = i
    · subst hji; exact H
    · have hm := ready_mono hj hji
      obtain ⟨hjun, oj, hoj, hall⟩ := mem_ready.1 hj
      have hnot := not_after (mem_ready.1 hr).1 hall
      have hap := hfree j oj hoj hji hjun hnot
      obtain ⟨p1, p2, p3⟩ := Oper.apart_spec hap
      have hsi := fun cs b => hsel i oi cs b hi
      have hsj := fun cs b => hsel j oj cs b hoj
      have hfree' := apart_still hjun hfree
      unfold mOp at H
      simp only [hi] at H
      by_cases hwi : Region.wanted oi (yielded ops a.tmps) = true
      · simp only [hwi, if_true] at H
        obtain ⟨v0, hs0⟩ := some_out F hsat hr H.1
        have Hj := (H.2 v0 hs0).2 j hm
        unfold mOp at Hj ⊢
        simp only [hoj] at Hj ⊢
        rw [wanted_put oj a oi.dst v0 p1] at Hj
        by_cases hwj : Region.wanted oj (yielded ops a.tmps) = true
        · simp only [hwj, if_true] at Hj ⊢
          refine ⟨(total_put hsj p1).1 Hj.1, fun vj => ih _ _ _ hfree' (ready_mono hr (Ne.symm hji)) ?_⟩
          unfold mOp
          simp only [hi]
          rw [wanted_put oi a oj.dst vj p3]
          simp only [hwi, if_true]
          refine ⟨(total_put hsi p3).2 H.1, fun v => wpAnyM_intro fun hs2 => ?_⟩
          rw [canon_put hsi p3, addF_comm] at hs2 ⊢
          have hsi' := sat_drop F hsat hr hj hji H.1 hs2
          have Hv := (H.2 v hsi').2 j hm
          unfold mOp at Hv
          simp only [hoj] at Hv
          rw [wanted_put oj a oi.dst v p1] at Hv
          simp only [hwj, if_true] at Hv
          have Hv2 := Hv.2 vj
          rw [canon_put hsj p1, Act.put_comm a v vj p2, Array.setIfInBounds_comm _ _ (Ne.symm hji)] at Hv2
          exact Hv2
        · simp only [hwj] at Hj ⊢
          refine ih _ _ _ hfree' (ready_mono hr (Ne.symm hji)) ?_
          unfold mOp
          simp only [hi]
          rw [wanted_put oi a oj.dst undef p3]
          simp only [hwi, if_true]
          refine ⟨(total_put' hsi p3).2 H.1, fun v => wpAnyM_intro fun hs2 => ?_⟩
          rw [canon_put' hsi p3] at hs2 ⊢
          have hsi' : Sat md ops G C C0 (listed.setIfInBounds i true) (addF fs oi.dst (Canon P md ops G C C0 K0 i oi a fs v)) :=
            sat_drop F (d := none) (Y := fun _ => True) hsat hr hj hji H.1 ⟨addF_stab hs2.1 (fun _ _ _ _ => trivial), hs2.2.1, let ⟨w, hw, hf⟩ := hs2.2.2.1; ⟨w, hw, fun t => ⟨hf t, fun _ => trivial⟩⟩, fun ho => let ⟨w, hw, hf⟩ := hs2.2.2.2 ho; ⟨w, hw, fun t => ⟨hf t, fun _ => trivial⟩⟩⟩
          have Hv := (H.2 v hsi').2 j hm
          unfold mOp at Hv
          simp only [hoj] at Hv
          rw [wanted_put oj a oi.dst v p1] at Hv
          simp only [hwj] at Hv
          rw [Act.put_comm a v undef p2, Array.setIfInBounds_comm _ _ (Ne.symm hji)] at Hv
          exact Hv
      · simp only [hwi] at H
        have Hj := (H (sat_skip hsat hr)).2 j hm
        unfold mOp at Hj ⊢
        simp only [hoj] at Hj ⊢
        rw [wanted_put oj a oi.dst undef p1] at Hj
        by_cases hwj : Region.wanted oj (yielded ops a.tmps) = true
        · simp only [hwj, if_true] at Hj ⊢
          refine ⟨(total_put' hsj p1).1 Hj.1, fun vj => ih _ _ _ hfree' (ready_mono hr (Ne.symm hji)) ?_⟩
          unfold mOp
          simp only [hi]
          rw [wanted_put oi a oj.dst vj p3]
          simp only [hwi]
          have Hv2 := Hj.2 vj
          rw [canon_put' hsj p1, Act.put_comm a undef vj p2, Array.setIfInBounds_comm _ _ (Ne.symm hji)] at Hv2
          exact Hv2
        · simp only [hwj] at Hj ⊢
          refine ih _ _ _ hfree' (ready_mono hr (Ne.symm hji)) ?_
          unfold mOp
          simp only [hi]
          rw [wanted_put oi a oj.dst undef p3]
          simp only [hwi]
          rw [Act.put_comm a undef undef p2, Array.setIfInBounds_comm _ _ (Ne.symm hji)] at Hj
          exact Hj
end

section
variable (P : Program) (md : Region.Mode) (ops : Array Oper) (G G0 : World → World → Prop) (C C0 : World → Prop) (K0 : FuncId → Array Value → Value → World → Prop)

/-- What is asked of one operation, as the prover tells it: 'Y' is what is known of its value. -/
def mildUpon (R : World → World → Prop) (w : World) (Y : Value → World → Prop) : Result Next → Prop
  | .ok (.value u) w2 => R w w2 ∧ Y u w2
  | .ok .skip w2 => R w w2 ∧ Y undef w2
  | .ok (.enter f args) w2 => w2 = w ∧ Calls P f args w (fun e w' => ∃ v, e = .returned v ∧ R w w' ∧ K0 f args v w') ∧ (∀ v w', C w' → K0 f args v w' → Y v w')
  | _ => False

/-- The walk in the order of the text. -/
def wpMild (Q : Act → World → Prop) : Nat → List Oper → Act → (Option Tmp → World → Prop) → Prop
  | _, [], a, fs => ∀ w, C w → (∀ t, fs t w) → Q a w
  | i, o :: rest, a, fs =>
    if Region.wanted o (yielded ops a.tmps) then
      ∃ Y : Value → World → Prop, (∀ v, Stab G (Y v)) ∧ (∀ w, C w → (ea md ops i = true → C0 w) → has fs (o.looksAt ops) w → mildUpon P C K0 (rel ops G G0 i) w Y ((execOp a.eval o).run P w)) ∧
        (ea md ops i = false → st ops i = false → ∃ u, ∀ w, (execOp a.eval o).run P w = .ok (.value u) w) ∧
        ∀ v, (o.dst ≠ none → ∃ w, C w ∧ Y v w) → wpMild Q (i + 1) rest (a.put o.dst v) (addF fs o.dst (Y v))
    else wpMild Q (i + 1) rest (a.put o.dst undef) fs
end

section
variable {P : Program} {md : Region.Mode} {ops : Array Oper} {G G0 : World → World → Prop} {C C0 : World → Prop} {K0 : FuncId → Array Value → Value → World → Prop}

theorem lex (F : Fit G G0 C C0 K0) {Q : Act → World → Prop} (hs : Region.noSelect ops = true) : ∀ (l : List Oper) (k : Nat) (listed : Array Bool) (a : Act) (fs fs' : Option Tmp → World → Prop), (∀ j, l[j]? = ops[k + j]?) →
    (∀ t w, C w → fs' t w → fs t w) → Region.lexFrom md ops l.length k listed = true → wpMild P md ops G G0 C C0 K0 Q k l a fs →
    wpAnyM P md ops G G0 C C0 K0 (fun a fs => ∀ w, C w → (∀ t, fs t w) → Q a w) l.length listed a fs'
  | [], _, _, _, _, _, _, hle, hB, h => fun _ => ⟨by simpa [Region.lexFrom] using hB, fun w hw hf => h w hw (fun t => hle t w hw (hf t))⟩
  | o :: l, k, listed, a, fs, fs', hl, hle, hB, h => by
    have h0 : ops[k]? = some o := by simpa using (hl 0).symm
    simp only [List.length_cons, Region.lexFrom, Bool.and_eq_true] at hB
    obtain ⟨⟨hr, hf⟩, hB'⟩ := hB
    refine first F h0 (Region.noSelect_spec hs) l.length listed a fs' (Region.free_spec h0 hf) (by simpa using hr) ?_
    have hl' : ∀ j, l[j]? = ops[k + 1 + j]? := fun j => by have := hl (j + 1); simpa [Nat.add_assoc, Nat.add_comm 1 j] using this
    unfold mOp
    simp only [h0]
    unfold wpMild at h
    by_cases hw : Region.wanted o (yielded ops a.tmps) = true
    · simp only [hw, if_true] at h ⊢
      obtain ⟨Y, hY, hm, hpure, hk⟩ := h
      have sub : ∀ w w', rel ops G G0 k w w' → G w w' := fun w w' hg => by unfold rel at hg; split at hg; exact hg; exact F.sub _ _ hg
      have hcan : ∀ v w, C w → Canon P md ops G C C0 K0 k o a fs' v w → Y v w := by
        rintro v w hcw ⟨w1, hc1, hc10, hh1, ho1⟩
        have := hm w1 hc1 hc10 (fun t ht => hle (some t) w1 hc1 (hh1 t ht))
        generalize (execOp a.eval o).run P w1 = r at this ho1
        cases r with
        | ok n w2 =>
          cases n <;> simp only [mildUpon] at this <;> simp only [out] at ho1
          case value u => obtain ⟨e, hg⟩ := ho1; subst e; exact hY _ _ _ hg this.2
          case skip => obtain ⟨e, hg⟩ := ho1; subst e; exact hY _ _ _ hg this.2
          case enter f args => exact this.2.2 v w hcw ho1
        | halt x w2 => simp only [mildUpon] at this
      refine ⟨⟨fun w hcw hc0 hhw => ?_, hpure⟩, fun v => wpAnyM_intro fun hsat => ?_⟩
      · have := hm w hcw hc0 (fun t ht => hle (some t) w hcw (hhw t ht))
        generalize (execOp a.eval o).run P w = r at this
        cases r with
        | ok n w2 =>
          cases n <;> simp only [mildUpon] at this <;> simp only [goodUpon]
          case value u => exact this.1
          case skip => exact this.1
          case enter f args => exact ⟨this.1, this.2.1⟩
        | halt x w2 => simp only [mildUpon] at this
      · refine lex F hs l (k + 1) _ _ (addF fs o.dst (Y v)) _ hl' (fun t w hcw ⟨h1, h2⟩ => ⟨hle t w hcw h1, fun e => hcan v w hcw (h2 e)⟩) hB' (hk v fun hd => ?_)
        obtain ⟨_, _, ⟨w, hcw, hfw⟩, _⟩ := hsat
        cases hdd : o.dst with
        | none => exact absurd hdd hd
        | some d => exact ⟨w, hcw, hcan v w hcw ((hfw (some d)).2 hdd)⟩
    · simp only [hw] at h ⊢
      exact lex F hs l (k + 1) _ _ fs _ hl' hle hB' h

/-- **A region that draws its order, walked once.** -/
theorem wp_region (F : Fit G G0 C C0 K0) {id : Nat} {Q : Exit → Act → World → Prop} {a : Act} {w : World} {l : List Oper} (hm : P.follows .mixedOrders = true) (hB : Region.lexB .any l.toArray = true) (hC : C0 { w with drawn := w.drawn + 1 })
    (h : wpMild P .any l.toArray G G0 C C0 K0 (fun a' w' => Q .normal a' w') 0 l a (fun _ _ => True)) : (Code.region id l.toArray true).wp P Q a w := by
  simp only [Region.lexB, Bool.and_eq_true] at hB
  refine wp_region_any hm (wpAny_of F (Q := fun a fs => ∀ w, C w → (∀ t, fs t w) → Q .normal a w) (fun _ _ w hw hf h => h w hw hf) _ _ _ (fun _ _ => True) _ (fun _ _ _ _ _ => trivial) ?_ (F.c0 _ hC) (fun _ => hC) (fun _ => trivial) ?_)
  · intro s i _ _ hl
    simp [Array.getD] at hl
  · have := lex (C := C) (md := .any) F hB.1 l 0 (Array.replicate l.toArray.size false) a (fun _ _ => True) (fun _ _ => True) (by simp) (fun _ _ _ h => h) (by simpa using hB.2) h
    simpa using this

/-- More is known: the walk serves all the same. -/
theorem wpMild_mono {Q : Act → World → Prop} : ∀ (l : List Oper) (i : Nat) (a : Act) (fs fs' : Option Tmp → World → Prop), (∀ t w, C w → fs' t w → fs t w) → wpMild P md ops G G0 C C0 K0 Q i l a fs → wpMild P md ops G G0 C C0 K0 Q i l a fs'
  | [], _, _, _, _, hle, h => fun w hw hf => h w hw (fun t => hle t w hw (hf t))
  | o :: l, i, a, fs, fs', hle, h => by
    unfold wpMild at h ⊢
    by_cases hw : Region.wanted o (yielded ops a.tmps) = true
    · simp only [hw, if_true] at h ⊢
      obtain ⟨Y, hY, hm, hp, hk⟩ := h
      exact ⟨Y, hY, fun w hcw h0 hh => hm w hcw h0 (fun t ht => hle (some t) w hcw (hh t ht)), hp, fun v hv => wpMild_mono l _ _ _ _ (fun t w hcw ⟨h1, h2⟩ => ⟨hle t w hcw h1, h2⟩) (hk v hv)⟩
    · simp only [hw] at h ⊢
      exact wpMild_mono l _ _ _ _ hle h

theorem rel_of_not {i : Nat} (h : st ops i = false) : rel ops G G0 i = G0 := by unfold rel; rw [h]; rfl
theorem rel_of {i : Nat} (h : st ops i = true) : rel ops G G0 i = G := by unfold rel; rw [h]; rfl

/-- An early operation whose value is known, and that turns nothing. -/
theorem step_known (F : Fit G G0 C C0 K0) {Q : Act → World → Prop} {i : Nat} {o : Oper} {rest : List Oper} {a : Act} {fs : Option Tmp → World → Prop} (hw : Region.wanted o (yielded ops a.tmps) = true) (hd : o.dst.isSome = true) (he : ea md ops i = true) (hsn : st ops i = false) (v0 : Value)
    (hrun : ∀ w, C0 w → has fs (o.looksAt ops) w → (execOp a.eval o).run P w = .ok (.value v0) w) (h : wpMild P md ops G G0 C C0 K0 Q (i + 1) rest (a.put o.dst v0) fs) : wpMild P md ops G G0 C C0 K0 Q i (o :: rest) a fs := by
  unfold wpMild
  simp only [hw, if_true]
  refine ⟨fun v _ => v = v0, fun v w w' _ h => h, fun w hcw h0 hh => ?_, fun h => (by rw [he] at h; cases h), fun v hv => ?_⟩
  · rw [hrun w (h0 he) hh, rel_of_not hsn]; exact ⟨F.refl0 _, rfl⟩
  · obtain ⟨w, _, rfl⟩ := hv (fun e => by rw [e] at hd; simp at hd)
    exact wpMild_mono _ _ _ _ _ (fun t w _ h => h.1) h
/-- An operation that hangs on no world. -/
theorem step_pure (F : Fit G G0 C C0 K0) {Q : Act → World → Prop} {i : Nat} {o : Oper} {rest : List Oper} {a : Act} {fs : Option Tmp → World → Prop} (hw : Region.wanted o (yielded ops a.tmps) = true) (hd : o.dst.isSome = true) (hsn : st ops i = false) (v0 : Value)
    (hrun : ∀ w, (execOp a.eval o).run P w = .ok (.value v0) w) (h : wpMild P md ops G G0 C C0 K0 Q (i + 1) rest (a.put o.dst v0) fs) : wpMild P md ops G G0 C C0 K0 Q i (o :: rest) a fs := by
  unfold wpMild
  simp only [hw, if_true]
  refine ⟨fun v _ => v = v0, fun v w w' _ h => h, fun w hcw h0 hh => ?_, fun _ _ => ⟨v0, hrun⟩, fun v hv => ?_⟩
  · rw [hrun w, rel_of_not hsn]; exact ⟨F.refl0 _, rfl⟩
  · obtain ⟨w, _, rfl⟩ := hv (fun e => by rw [e] at hd; simp at hd)
    exact wpMild_mono _ _ _ _ _ (fun t w _ h => h.1) h
/-- A store, of which something is noted. -/
theorem step_note {Q : Act → World → Prop} {i : Nat} {o : Oper} {rest : List Oper} {a : Act} {fs : Option Tmp → World → Prop} (hw : Region.wanted o (yielded ops a.tmps) = true) (hd : o.dst = none) (hst : st ops i = true) (Y : World → Prop) (hY : Stab G Y)
    (hrun : ∀ w, C w → has fs (o.looksAt ops) w → ∃ w2, (execOp a.eval o).run P w = .ok .skip w2 ∧ G w w2 ∧ Y w2) (h : wpMild P md ops G G0 C C0 K0 Q (i + 1) rest a (addF fs none Y)) : wpMild P md ops G G0 C C0 K0 Q i (o :: rest) a fs := by
  unfold wpMild
  simp only [hw, if_true]
  refine ⟨fun _ => Y, fun _ => hY, fun w hcw _ hh => ?_, fun _ h => (by rw [hst] at h; cases h), fun v _ => ?_⟩
  · obtain ⟨w2, hr, h1, h2⟩ := hrun w hcw hh
    rw [hr, rel_of hst]; exact ⟨h1, h2⟩
  · rw [hd]; exact h
/-- An early operation that makes something new, of which something is known. -/
theorem step_new {Q : Act → World → Prop} {i : Nat} {o : Oper} {rest : List Oper} {a : Act} {fs : Option Tmp → World → Prop} (hw : Region.wanted o (yielded ops a.tmps) = true) (hd : o.dst.isSome = true) (he : ea md ops i = true) (hsn : st ops i = false) (Y : Value → World → Prop) (hY : ∀ v, Stab G (Y v))
    (hrun : ∀ w, C0 w → has fs (o.looksAt ops) w → ∃ v w2, (execOp a.eval o).run P w = .ok (.value v) w2 ∧ G0 w w2 ∧ Y v w2) (h : ∀ v, (∃ w, C w ∧ Y v w) → wpMild P md ops G G0 C C0 K0 Q (i + 1) rest (a.put o.dst v) (addF fs o.dst (Y v))) : wpMild P md ops G G0 C C0 K0 Q i (o :: rest) a fs := by
  unfold wpMild
  simp only [hw, if_true]
  refine ⟨Y, hY, fun w hcw h0 hh => ?_, fun h => (by rw [he] at h; cases h), fun v hv => h v (hv (fun e => by rw [e] at hd; simp at hd))⟩
  obtain ⟨v, w2, hr, h1, h2⟩ := hrun w (h0 he) hh
  rw [hr, rel_of_not hsn]; exact ⟨h1, h2⟩
/-- An early call, by its contract: one value. -/
theorem step_call (_F : Fit G G0 C C0 K0) {Q : Act → World → Prop} {i : Nat} {o : Oper} {rest : List Oper} {a : Act} {fs : Option Tmp → World → Prop} (hw : Region.wanted o (yielded ops a.tmps) = true) (hd : o.dst.isSome = true) (he : ea md ops i = true) (hsn : st ops i = false) (f : FuncId) (args : Array Value) (v0 : Value)
    (hrun : ∀ w, (execOp a.eval o).run P w = .ok (.enter f args) w) (hc : ∀ w, C0 w → has fs (o.looksAt ops) w → Calls P f args w (fun e w' => e = .returned v0 ∧ G0 w w')) (hk0 : ∀ w, K0 f args v0 w) (hk : ∀ v w', K0 f args v w' → v = v0)
    (h : wpMild P md ops G G0 C C0 K0 Q (i + 1) rest (a.put o.dst v0) fs) : wpMild P md ops G G0 C C0 K0 Q i (o :: rest) a fs := by
  unfold wpMild
  simp only [hw, if_true]
  refine ⟨fun v _ => v = v0, fun v w w' _ h => h, fun w hcw h0 hh => ?_, fun h => (by rw [he] at h; cases h), fun v hv => ?_⟩
  · rw [hrun w, rel_of_not hsn]
    exact ⟨rfl, (hc w (h0 he) hh).mono fun e w' ⟨h1, h2⟩ => ⟨v0, h1, h2, hk0 w'⟩, fun v w' _ hv => hk v w' hv⟩
  · obtain ⟨w, _, rfl⟩ := hv (fun e => by rw [e] at hd; simp at hd)
    exact wpMild_mono _ _ _ _ _ (fun t w _ h => h.1) h
end
end Mild3
end Go.Proofs.Ytpfoeeiacfadfaa
