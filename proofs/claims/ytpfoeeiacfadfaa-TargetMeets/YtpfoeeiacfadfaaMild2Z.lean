/-
  A statement of a Go function whose operations may be carried out in several orders, and whose operations and callees turn nothing that was there (they may make new memory), is walked once, in the order of the text.
  Conditions: the world may only grow (a preorder G), what is known of a slot stays known as it grows.
-/
import Derived.BigQuiet
import Derived.WalkKit
import Derived.Test.YtpfoeeiacfadfaaArr
import Derived.Test.YtpfoeeiacfadfaaU64
import Derived.Laws.Externs
import Derived.Shelf.Spec.BitsCarry
import Derived.Laws.Bits64b
namespace Go.Proofs.Ytpfoeeiacfadfaa
namespace Mild2

section
variable (P : Program) (ops : Array Oper) (G : World → World → Prop) (C : World → Prop) (K0 : FuncId → Array Value → Value → World → Prop)

/-- What the worlds, and the callees' words, keep to. -/
structure Fit : Prop where
  refl : ∀ w, G w w
  trans : ∀ a b c, G a b → G b c → G a c
  inC : ∀ w w', C w → G w w' → C w'
  keep : ∀ f args v w w', K0 f args v w → G w w' → K0 f args v w'

def addF (fs : Option Tmp → World → Prop) (d : Option Tmp) (F : World → Prop) : Option Tmp → World → Prop := fun t w => fs t w ∧ (d = t → F w)

def Stab (F : World → Prop) : Prop := ∀ w w', G w w' → F w → F w'

def has (fs : Option Tmp → World → Prop) (ts : List Tmp) (w : World) : Prop := ∀ t ∈ ts, fs (some t) w

def out (v : Value) (w : World) : Result Next → Prop
  | .ok (.value u) w2 => v = u ∧ G w2 w
  | .ok .skip w2 => v = undef ∧ G w2 w
  | .ok (.enter f args) _ => K0 f args v w
  | _ => False

def Canon (o : Oper) (a : Act) (fs : Option Tmp → World → Prop) (v : Value) (w : World) : Prop :=
  ∃ w1, C w1 ∧ has fs (o.looksAt ops) w1 ∧ out G K0 v w ((execOp a.eval o).run P w1)

def goodUpon (w : World) : Result Next → Prop
  | .ok (.value _) w2 => G w w2
  | .ok .skip w2 => G w w2
  | .ok (.enter f args) w2 => w2 = w ∧ Calls P f args w (fun e w' => ∃ v, e = .returned v ∧ G w w' ∧ K0 f args v w')
  | _ => False

def total (o : Oper) (a : Act) (fs : Option Tmp → World → Prop) : Prop :=
  ∀ w, C w → has fs (o.looksAt ops) w → goodUpon P G K0 w ((execOp a.eval o).run P w)

def Sat (fs : Option Tmp → World → Prop) : Prop := (∀ t, Stab G (fs t)) ∧ ∃ w, C w ∧ ∀ t, fs t w

def mOp (i : Nat) (K : Act → (Option Tmp → World → Prop) → Prop) (a : Act) (fs : Option Tmp → World → Prop) : Prop :=
  match ops[i]? with
  | none => K a fs
  | some o => if Region.wanted o (yielded ops a.tmps) then total P ops G C K0 o a fs ∧ ∀ v, K (a.put o.dst v) (addF fs o.dst (Canon P ops G C K0 o a fs v)) else K (a.put o.dst undef) fs

def wpAnyM (md : Region.Mode) (Q : Act → (Option Tmp → World → Prop) → Prop) : Nat → Array Bool → Act → (Option Tmp → World → Prop) → Prop
  | 0, listed, a, fs => Sat G C fs → Region.ready md ops listed = [] ∧ Q a fs
  | fuel + 1, listed, a, fs => Sat G C fs →
    (Region.ready md ops listed = [] → Q a fs) ∧
    ∀ i ∈ Region.ready md ops listed, mOp P ops G C K0 i (wpAnyM md Q fuel (listed.setIfInBounds i true)) a fs
end

section
variable {P : Program} {ops : Array Oper} {G : World → World → Prop} {C : World → Prop} {K0 : FuncId → Array Value → Value → World → Prop} {md : Region.Mode}

theorem wpAnyM_intro {Q : Act → (Option Tmp → World → Prop) → Prop} {fuel : Nat} {listed : Array Bool} {a : Act} {fs : Option Tmp → World → Prop}
    (h : Sat G C fs → wpAnyM P ops G C K0 md Q fuel listed a fs) : wpAnyM P ops G C K0 md Q fuel listed a fs := by
  cases fuel with
  | zero => exact fun hs => (h hs) hs
  | succ fuel => exact fun hs => (h hs) hs

theorem out_stab (F : Fit G C K0) {v : Value} {r : Result Next} : Stab G (fun w => out G K0 v w r) := by
  intro w w' hg h
  cases r with
  | ok n w2 =>
    cases n <;> simp only [out] at h ⊢
    case value u => exact ⟨h.1, F.trans _ _ _ h.2 hg⟩
    case skip => exact ⟨h.1, F.trans _ _ _ h.2 hg⟩
    case enter f args => exact F.keep _ _ _ _ _ h hg
  | halt x w2 => simp only [out] at h

theorem canon_stab (F : Fit G C K0) {o : Oper} {a : Act} {fs : Option Tmp → World → Prop} {v : Value} : Stab G (Canon P ops G C K0 o a fs v) := by
  intro w w' hg ⟨w1, h1, h2, h3⟩
  exact ⟨w1, h1, h2, out_stab F w w' hg h3⟩

theorem addF_stab {fs : Option Tmp → World → Prop} {d : Option Tmp} {X : World → Prop} (h : ∀ t, Stab G (fs t)) (hX : Stab G X) : ∀ t, Stab G (addF fs d X t) :=
  fun t w w' hg ⟨h1, h2⟩ => ⟨h t w w' hg h1, fun e => hX w w' hg (h2 e)⟩

theorem sat_of_add {fs : Option Tmp → World → Prop} {d : Option Tmp} {X : World → Prop} (hst : ∀ t, Stab G (fs t)) (h : Sat G C (addF fs d X)) : Sat G C fs :=
  ⟨hst, let ⟨w, hw, hf⟩ := h.2; ⟨w, hw, fun t => (hf t).1⟩⟩

/-- An operation that goes through yields something. -/
theorem some_out (F : Fit G C K0) {o : Oper} {a : Act} {fs : Option Tmp → World → Prop} {w : World} (hw : C w) (hst : ∀ t, Stab G (fs t)) (hf : ∀ t, fs t w)
    (ht : total P ops G C K0 o a fs) : ∃ v w', C w' ∧ G w w' ∧ Canon P ops G C K0 o a fs v w' ∧ Sat G C (addF fs o.dst (Canon P ops G C K0 o a fs v)) := by
  have h := ht w hw (fun t _ => hf (some t))
  have key : ∀ v w', G w w' → out G K0 v w' ((execOp a.eval o).run P w) → ∃ v w', C w' ∧ G w w' ∧ Canon P ops G C K0 o a fs v w' ∧ Sat G C (addF fs o.dst (Canon P ops G C K0 o a fs v)) := fun v w' hg ho =>
    have hc : Canon P ops G C K0 o a fs v w' := ⟨w, hw, fun t _ => hf (some t), ho⟩
    ⟨v, w', F.inC _ _ hw hg, hg, hc, addF_stab hst (canon_stab F), w', F.inC _ _ hw hg, fun t => ⟨hst t _ _ hg (hf t), fun _ => hc⟩⟩
  generalize hr : (execOp a.eval o).run P w = r at h key
  cases r with
  | ok n w2 =>
    cases n <;> simp only [goodUpon] at h
    case value u => exact key u w2 h ⟨rfl, F.refl _⟩
    case skip => exact key undef w2 h ⟨rfl, F.refl _⟩
    case enter f args =>
      obtain ⟨_, hc⟩ := h
      obtain ⟨e, w', fr, ⟨v, _, hg, hk⟩, _⟩ := hc []
      exact key v w' hg hk
  | halt x w2 => simp only [goodUpon] at h

/-- It serves every order. -/
theorem wpAny_of (F : Fit G C K0) {Q : Act → (Option Tmp → World → Prop) → Prop} {Q' : Exit → Act → World → Prop} (hQ : ∀ a fs w, C w → (∀ t, fs t w) → Q a fs → Q' .normal a w) :
    ∀ (fuel : Nat) (listed : Array Bool) (a : Act) (fs : Option Tmp → World → Prop) (w : World), (∀ t, Stab G (fs t)) → C w → (∀ t, fs t w) →
    wpAnyM P ops G C K0 md Q fuel listed a fs → wpAny P md ops Q' fuel listed a w := by
  intro fuel
  induction fuel with
  | zero => intro listed a fs w hst hw hf h; exact ⟨(h ⟨hst, w, hw, hf⟩).1, hQ _ _ _ hw hf (h ⟨hst, w, hw, hf⟩).2⟩
  | succ fuel ih =>
    intro listed a fs w hst hw hf h
    obtain ⟨h0, h1⟩ := h ⟨hst, w, hw, hf⟩
    refine ⟨fun he => hQ _ _ _ hw hf (h0 he), fun i hi => ?_⟩
    have h2 := h1 i hi
    unfold mOp at h2
    unfold wpOp
    split
    · rename_i ho; simp only [ho] at h2; exact ih _ _ _ _ hst hw hf h2
    · rename_i o ho
      simp only [ho] at h2
      split
      · rename_i hwant
        simp only [hwant, if_true] at h2
        refine .inl ?_
        obtain ⟨ht, hk⟩ := h2
        have hg := ht w hw (fun t _ => hf (some t))
        have key : ∀ v w', G w w' → out G K0 v w' ((execOp a.eval o).run P w) → wpAny P md ops Q' fuel (listed.setIfInBounds i true) (a.put o.dst v) w' := fun v w' hgg hout =>
          ih _ _ _ _ (addF_stab hst (canon_stab F)) (F.inC _ _ hw hgg) (fun t => ⟨hst t _ _ hgg (hf t), fun _ => ⟨w, hw, fun t _ => hf (some t), hout⟩⟩) (hk v)
        unfold Oper.wp
        generalize (execOp a.eval o).run P w = r at hg key
        cases r with
        | ok n w2 =>
          cases n <;> simp only [goodUpon] at hg <;> simp only [Oper.upon]
          case value u => exact key u w2 hg ⟨rfl, F.refl _⟩
          case skip => exact key undef w2 hg ⟨rfl, F.refl _⟩
          case enter f args =>
            obtain ⟨rfl, hc⟩ := hg
            exact hc.mono fun e w' ⟨v, he, hgg, hkk⟩ => by subst he; exact key v w' hgg hkk
        | halt x w2 => simp only [goodUpon] at hg
      · rename_i hwant
        simp only [hwant] at h2
        exact ih _ _ _ _ hst hw hf h2

theorem has_add {fs : Option Tmp → World → Prop} {d : Option Tmp} {X : World → Prop} {ts : List Tmp} {w : World} (h : ∀ t, d = some t → t ∉ ts) : has (addF fs d X) ts w ↔ has fs ts w :=
  ⟨fun hh t ht => (hh t ht).1, fun hh t ht => ⟨hh t ht, fun e => absurd ht (h t e)⟩⟩

theorem total_put {oi oj : Oper} {a : Act} {fs : Option Tmp → World → Prop} {v : Value} {X : World → Prop} (hs : ∀ cs b, oj.op ≠ .select cs b) (h : ∀ d, oi.dst = some d → d ∉ oj.looksAt ops) :
    total P ops G C K0 oj (a.put oi.dst v) (addF fs oi.dst X) ↔ total P ops G C K0 oj a fs := by
  unfold total
  rw [execOp_put oj hs a oi.dst v h]
  constructor
  · intro hh w hw hf; exact hh w hw ((has_add h).2 hf)
  · intro hh w hw hf; exact hh w hw ((has_add h).1 hf)

theorem canon_put {oi oj : Oper} {a : Act} {fs : Option Tmp → World → Prop} {v u : Value} {X : World → Prop} (hs : ∀ cs b, oj.op ≠ .select cs b) (h : ∀ d, oi.dst = some d → d ∉ oj.looksAt ops) :
    Canon P ops G C K0 oj (a.put oi.dst v) (addF fs oi.dst X) u = Canon P ops G C K0 oj a fs u := by
  funext w
  unfold Canon
  rw [execOp_put oj hs a oi.dst v h]
  apply propext
  constructor
  · rintro ⟨w1, h1, h2, h3⟩; exact ⟨w1, h1, (has_add h).1 h2, h3⟩
  · rintro ⟨w1, h1, h2, h3⟩; exact ⟨w1, h1, (has_add h).2 h2, h3⟩

theorem total_put' {oi oj : Oper} {a : Act} {fs : Option Tmp → World → Prop} {v : Value} (hs : ∀ cs b, oj.op ≠ .select cs b) (h : ∀ d, oi.dst = some d → d ∉ oj.looksAt ops) :
    total P ops G C K0 oj (a.put oi.dst v) fs ↔ total P ops G C K0 oj a fs := by
  unfold total
  rw [execOp_put oj hs a oi.dst v h]

theorem canon_put' {oi oj : Oper} {a : Act} {fs : Option Tmp → World → Prop} {v u : Value} (hs : ∀ cs b, oj.op ≠ .select cs b) (h : ∀ d, oi.dst = some d → d ∉ oj.looksAt ops) :
    Canon P ops G C K0 oj (a.put oi.dst v) fs u = Canon P ops G C K0 oj a fs u := by
  funext w
  unfold Canon
  rw [execOp_put oj hs a oi.dst v h]

theorem addF_comm (fs : Option Tmp → World → Prop) (d e : Option Tmp) (X Y : World → Prop) : addF (addF fs d X) e Y = addF (addF fs e Y) d X := by
  funext t w
  apply propext
  constructor
  · rintro ⟨⟨h1, h2⟩, h3⟩; exact ⟨⟨h1, h3⟩, h2⟩
  · rintro ⟨⟨h1, h2⟩, h3⟩; exact ⟨⟨h1, h3⟩, h2⟩

/-- What may come up waits for nothing that has not come up. -/
theorem not_after {i : Nat} {oj : Oper} {listed : Array Bool} (hi : listed.getD i true = false) (hall : ∀ e ∈ oj.after, Region.binds md e = true → listed.getD e.on false = true) :
    ∀ e ∈ oj.after, Region.binds md e = true → e.on ≠ i := by
  intro e he hb heq
  have h := hall e he hb
  subst heq
  by_cases hs : e.on < listed.size
  · simp only [Array.getD, hs, dite_true] at hi h
    exact absurd (h.symm.trans hi) (by decide)
  · simp [Array.getD, hs] at hi

/-- Behind one more operation the others are still apart. -/
theorem apart_still {i j : Nat} {oi : Oper} {listed : Array Bool} (hj : listed.getD j true = false)
    (h : ∀ k ok, ops[k]? = some ok → k ≠ i → listed.getD k true = false → (∀ e ∈ ok.after, Region.binds md e = true → e.on ≠ i) → oi.apart ops ok = true) :
    ∀ k ok, ops[k]? = some ok → k ≠ i → (listed.setIfInBounds j true).getD k true = false → (∀ e ∈ ok.after, Region.binds md e = true → e.on ≠ i) → oi.apart ops ok = true := by
  intro k ok hk hki hun hno
  by_cases hkj : j = k
  · exact h k ok hk hki (hkj ▸ hj) hno
  · exact h k ok hk hki ((getD_set_ne true hkj).symm.trans hun) hno

/-- The operation 'i', taken first, serves: every other one that may come up now is apart from it. -/
theorem first (F : Fit G C K0) {Q : Act → (Option Tmp → World → Prop) → Prop} {i : Nat} {oi : Oper} (hi : ops[i]? = some oi) (hsel : ∀ (j : Nat) (o : Oper) cs b, ops[j]? = some o → o.op ≠ .select cs b) :
    ∀ (fuel : Nat) (listed : Array Bool) (a : Act) (fs : Option Tmp → World → Prop),
      (∀ j oj, ops[j]? = some oj → j ≠ i → listed.getD j true = false → (∀ e ∈ oj.after, Region.binds md e = true → e.on ≠ i) → oi.apart ops oj = true) →
      i ∈ Region.ready md ops listed →
      mOp P ops G C K0 i (wpAnyM P ops G C K0 md Q fuel (listed.setIfInBounds i true)) a fs → wpAnyM P ops G C K0 md Q (fuel + 1) listed a fs := by
  intro fuel
  induction fuel with
  | zero =>
    intro listed a fs _ hr H hsat
    refine ⟨fun h => (by rw [h] at hr; cases hr), fun j hj => ?_⟩
    by_cases hji : j = i
    · subst hji; exact H
    · exfalso
      have hm := ready_mono hj hji
      unfold mOp at H
      simp only [hi] at H
      obtain ⟨hst, w, hw, hf⟩ := hsat
      by_cases hwant : Region.wanted oi (yielded ops a.tmps) = true
      · simp only [hwant, if_true] at H
        obtain ⟨v, w', _, _, _, hs'⟩ := some_out F hw hst hf H.1
        have := (H.2 v hs').1
        rw [this] at hm
        cases hm
      · simp only [hwant] at H
        have := (H ⟨hst, w, hw, hf⟩).1
        rw [this] at hm
        cases hm
  | succ fuel ih =>
    intro listed a fs hfree hr H hsat
    refine ⟨fun h => (by rw [h] at hr; cases hr), fun j hj => ?_⟩
    by_cases hji : j = i
    · subst hji; exact H
    · have hm := ready_mono hj hji
      obtain ⟨hjun, oj, hoj, hall⟩ := mem_ready.1 hj
      have hnot := not_after (mem_ready.1 hr).1 hall
      have hap := hfree j oj hoj hji hjun hnot
      obtain ⟨p1, p2, p3⟩ := Oper.apart_spec hap
      have hsi := fun cs b => hsel i oi cs b hi
      have hsj := fun cs b => hsel j oj cs b hoj
      have hfree' := apart_still hjun hfree
      obtain ⟨hst, w, hw, hf⟩ := hsat
      unfold mOp at H
      simp only [hi] at H
      by_cases hwi : Region.wanted oi (yielded ops a.tmps) = true
      · simp only [hwi, if_true] at H
        obtain ⟨v0, w', _, _, _, hs0⟩ := some_out F hw hst hf H.1
        have Hj := (H.2 v0 hs0).2 j hm
        unfold mOp at Hj ⊢
        simp only [hoj] at Hj ⊢
        rw [wanted_put oj a oi.dst v0 p1] at Hj
        by_cases hwj : Region.wanted oj (yielded ops a.tmps) = true
        · simp only [hwj, if_true] at Hj ⊢
          refine ⟨(total_put hsj p1).1 Hj.1, fun vj => ih _ _ _ hfree' (ready_mono hr (Ne.symm hji)) ?_⟩
          unfold mOp
          simp only [hi]
          rw [wanted_put oi a oj.dst vj p3]
          simp only [hwi, if_true]
          refine ⟨(total_put hsi p3).2 H.1, fun v => wpAnyM_intro fun hs2 => ?_⟩
          rw [canon_put hsi p3, addF_comm] at hs2 ⊢
          have hsi' : Sat G C (addF fs oi.dst (Canon P ops G C K0 oi a fs v)) := sat_of_add (addF_stab hst (canon_stab F)) hs2
          have Hv := (H.2 v hsi').2 j hm
          unfold mOp at Hv
          simp only [hoj] at Hv
          rw [wanted_put oj a oi.dst v p1] at Hv
          simp only [hwj, if_true] at Hv
          have Hv2 := Hv.2 vj
          rw [canon_put hsj p1, Act.put_comm a v vj p2, Array.setIfInBounds_comm _ _ (Ne.symm hji)] at Hv2
          exact Hv2
        · simp only [hwj] at Hj ⊢
          refine ih _ _ _ hfree' (ready_mono hr (Ne.symm hji)) ?_
          unfold mOp
          simp only [hi]
          rw [wanted_put oi a oj.dst undef p3]
          simp only [hwi, if_true]
          refine ⟨(total_put' hsi p3).2 H.1, fun v => wpAnyM_intro fun hs2 => ?_⟩
          rw [canon_put' hsi p3] at hs2 ⊢
          have Hv := (H.2 v hs2).2 j hm
          unfold mOp at Hv
          simp only [hoj] at Hv
          rw [wanted_put oj a oi.dst v p1] at Hv
          simp only [hwj] at Hv
          rw [Act.put_comm a v undef p2, Array.setIfInBounds_comm _ _ (Ne.symm hji)] at Hv
          exact Hv
      · simp only [hwi] at H
        have Hj := (H ⟨hst, w, hw, hf⟩).2 j hm
        unfold mOp at Hj ⊢
        simp only [hoj] at Hj ⊢
        rw [wanted_put oj a oi.dst undef p1] at Hj
        by_cases hwj : Region.wanted oj (yielded ops a.tmps) = true
        · simp only [hwj, if_true] at Hj ⊢
          refine ⟨(total_put' hsj p1).1 Hj.1, fun vj => ih _ _ _ hfree' (ready_mono hr (Ne.symm hji)) ?_⟩
          unfold mOp
          simp only [hi]
          rw [wanted_put oi a oj.dst vj p3]
          simp only [hwi]
          have Hv2 := Hj.2 vj
          rw [canon_put' hsj p1, Act.put_comm a undef vj p2, Array.setIfInBounds_comm _ _ (Ne.symm hji)] at Hv2
          exact Hv2
        · simp only [hwj] at Hj ⊢
          refine ih _ _ _ hfree' (ready_mono hr (Ne.symm hji)) ?_
          unfold mOp
          simp only [hi]
          rw [wanted_put oi a oj.dst undef p3]
          simp only [hwi]
          rw [Act.put_comm a undef undef p2, Array.setIfInBounds_comm _ _ (Ne.symm hji)] at Hj
          exact Hj
end

section
variable (P : Program) (ops : Array Oper) (G : World → World → Prop) (C : World → Prop) (K0 : FuncId → Array Value → Value → World → Prop)

/-- What is asked of one operation, as the prover tells it: 'Y' is what is known of its value. -/
def mildUpon (w : World) (Y : Value → World → Prop) : Result Next → Prop
  | .ok (.value u) w2 => G w w2 ∧ Y u w2
  | .ok .skip w2 => G w w2 ∧ Y undef w2
  | .ok (.enter f args) w2 => w2 = w ∧ Calls P f args w (fun e w' => ∃ v, e = .returned v ∧ G w w' ∧ K0 f args v w') ∧ (∀ v w', C w' → K0 f args v w' → Y v w')
  | _ => False

/-- The walk in the order of the text. -/
def wpMild (Q : Act → World → Prop) : List Oper → Act → (Option Tmp → World → Prop) → Prop
  | [], a, fs => ∀ w, C w → (∀ t, fs t w) → Q a w
  | o :: rest, a, fs =>
    if Region.wanted o (yielded ops a.tmps) then
      ∃ Y : Value → World → Prop, (∀ v, Stab G (Y v)) ∧ (∀ w, C w → has fs (o.looksAt ops) w → mildUpon P G C K0 w Y ((execOp a.eval o).run P w)) ∧
        ∀ v, (o.dst ≠ none → ∃ w, C w ∧ Y v w) → wpMild Q rest (a.put o.dst v) (addF fs o.dst (Y v))
    else wpMild Q rest (a.put o.dst undef) fs
end

section
variable {P : Program} {ops : Array Oper} {G : World → World → Prop} {C : World → Prop} {K0 : FuncId → Array Value → Value → World → Prop} {md : Region.Mode}

theorem lex (F : Fit G C K0) {Q : Act → World → Prop} (hs : Region.noSelect ops = true) : ∀ (l : List Oper) (k : Nat) (listed : Array Bool) (a : Act) (fs fs' : Option Tmp → World → Prop), (∀ j, l[j]? = ops[k + j]?) →
    (∀ t w, C w → fs' t w → fs t w) → Region.lexFrom md ops l.length k listed = true → wpMild P ops G C K0 Q l a fs →
    wpAnyM P ops G C K0 md (fun a fs => ∀ w, C w → (∀ t, fs t w) → Q a w) l.length listed a fs'
  | [], _, _, _, _, _, _, hle, hB, h => fun _ => ⟨by simpa [Region.lexFrom] using hB, fun w hw hf => h w hw (fun t => hle t w hw (hf t))⟩
  | o :: l, k, listed, a, fs, fs', hl, hle, hB, h => by
    have h0 : ops[k]? = some o := by simpa using (hl 0).symm
    simp only [List.length_cons, Region.lexFrom, Bool.and_eq_true] at hB
    obtain ⟨⟨hr, hf⟩, hB'⟩ := hB
    refine first F h0 (Region.noSelect_spec hs) l.length listed a fs' (Region.free_spec h0 hf) (by simpa using hr) ?_
    have hl' : ∀ j, l[j]? = ops[k + 1 + j]? := fun j => by have := hl (j + 1); simpa [Nat.add_assoc, Nat.add_comm 1 j] using this
    unfold mOp
    simp only [h0]
    unfold wpMild at h
    by_cases hw : Region.wanted o (yielded ops a.tmps) = true
    · simp only [hw, if_true] at h ⊢
      obtain ⟨Y, hY, hm, hk⟩ := h
      have hcan : ∀ v w, C w → Canon P ops G C K0 o a fs' v w → Y v w := by
        rintro v w hcw ⟨w1, hc1, hh1, ho1⟩
        have := hm w1 hc1 (fun t ht => hle (some t) w1 hc1 (hh1 t ht))
        generalize (execOp a.eval o).run P w1 = r at this ho1
        cases r with
        | ok n w2 =>
          cases n <;> simp only [mildUpon] at this <;> simp only [out] at ho1
          case value u => obtain ⟨e, hg⟩ := ho1; subst e; exact hY _ _ _ hg this.2
          case skip => obtain ⟨e, hg⟩ := ho1; subst e; exact hY _ _ _ hg this.2
          case enter f args => exact this.2.2 v w hcw ho1
        | halt x w2 => simp only [mildUpon] at this
      refine ⟨fun w hcw hhw => ?_, fun v => wpAnyM_intro fun hsat => ?_⟩
      · have := hm w hcw (fun t ht => hle (some t) w hcw (hhw t ht))
        generalize (execOp a.eval o).run P w = r at this
        cases r with
        | ok n w2 =>
          cases n <;> simp only [mildUpon] at this <;> simp only [goodUpon]
          case value u => exact this.1
          case skip => exact this.1
          case enter f args => exact ⟨this.1, this.2.1⟩
        | halt x w2 => simp only [mildUpon] at this
      · refine lex F hs l (k + 1) _ _ (addF fs o.dst (Y v)) _ hl' (fun t w hcw ⟨h1, h2⟩ => ⟨hle t w hcw h1, fun e => hcan v w hcw (h2 e)⟩) hB' (hk v fun hd => ?_)
        obtain ⟨_, w, hcw, hfw⟩ := hsat
        cases hdd : o.dst with
        | none => exact absurd hdd hd
        | some d => exact ⟨w, hcw, hcan v w hcw ((hfw (some d)).2 hdd)⟩
    · simp only [hw] at h ⊢
      exact lex F hs l (k + 1) _ _ fs _ hl' hle hB' h

/-- **A region that draws its order, walked once.** -/
theorem wp_region (F : Fit G C K0) {id : Nat} {Q : Exit → Act → World → Prop} {a : Act} {w : World} {l : List Oper} (hm : P.follows .mixedOrders = true) (hB : Region.lexB .any l.toArray = true) (hC : C { w with drawn := w.drawn + 1 })
    (h : wpMild P l.toArray G C K0 (fun a' w' => Q .normal a' w') l a (fun _ _ => True)) : (Code.region id l.toArray true).wp P Q a w := by
  simp only [Region.lexB, Bool.and_eq_true] at hB
  refine wp_region_any hm (wpAny_of F (Q := fun a fs => ∀ w, C w → (∀ t, fs t w) → Q .normal a w) (fun _ _ w hw hf h => h w hw hf) _ _ _ (fun _ _ => True) _ (fun _ _ _ _ _ => trivial) hC (fun _ => trivial) ?_)
  have := lex (C := C) (md := .any) F hB.1 l 0 (Array.replicate l.toArray.size false) a (fun _ _ => True) (fun _ _ => True) (by simp) (fun _ _ _ h => h) (by simpa using hB.2) h
  simpa using this

/-- More is known: the walk serves all the same. -/
theorem wpMild_mono {Q : Act → World → Prop} : ∀ (l : List Oper) (a : Act) (fs fs' : Option Tmp → World → Prop), (∀ t w, C w → fs' t w → fs t w) → wpMild P ops G C K0 Q l a fs → wpMild P ops G C K0 Q l a fs'
  | [], _, _, _, hle, h => fun w hw hf => h w hw (fun t => hle t w hw (hf t))
  | o :: l, a, fs, fs', hle, h => by
    unfold wpMild at h ⊢
    by_cases hw : Region.wanted o (yielded ops a.tmps) = true
    · simp only [hw, if_true] at h ⊢
      obtain ⟨Y, hY, hm, hk⟩ := h
      exact ⟨Y, hY, fun w hcw hh => hm w hcw (fun t ht => hle (some t) w hcw (hh t ht)), fun v hv => wpMild_mono l _ _ _ (fun t w hcw ⟨h1, h2⟩ => ⟨hle t w hcw h1, h2⟩) (hk v hv)⟩
    · simp only [hw] at h ⊢
      exact wpMild_mono l _ _ _ hle h

/-- Operations that enter no function. -/
def plainOp : Op → Bool
  | .move _ => true
  | .assign _ => true
  | .convert _ _ _ => true
  | .binOp _ _ _ _ _ => true
  | .unOp _ _ _ => true
  | .pick _ _ _ => true
  | .extract _ _ => true
  | .indexAddr _ _ _ => true
  | .load _ _ => true
  | .slice _ _ _ _ _ => true
  | .call c => match c.callee with | .builtin .len => true | _ => false
  | _ => false

theorem andThen_value {α : Type} {r : Result α} {g : α → Value} {f : FuncId} {args : Array Value} {w' : World} (h : (r.andThen fun v w => .ok (Next.value (g v)) w) = .ok (.enter f args) w') : False := by
  cases r <;> simp [Result.andThen] at h

theorem plain_no_enter {o : Oper} {ρ : Operand → Value} {w w' : World} {f : FuncId} {args : Array Value} (hp : plainOp o.op = true) : (execOp ρ o).run P w ≠ .ok (.enter f args) w' := by
  intro h
  obtain ⟨dst, op, type, pos, after, guard⟩ := o
  cases op <;> simp only [plainOp, Bool.false_eq_true] at hp
  case call c =>
    obtain ⟨callee, cargs, argTypes⟩ := c
    cases callee <;> simp only [Bool.false_eq_true] at hp
    rename_i b
    cases b <;> simp only [Bool.false_eq_true] at hp
    simp only [execOp, resolve, invoke, builtin, Sem.run_bind, Sem.run_pure, Result.andThen_ok] at h
    exact andThen_value (g := id) h
  case pick c x y => simp only [execOp, Sem.run_bind, Sem.run_pure] at h; exact andThen_value (g := fun b => if b = true then ρ x else ρ y) h
  all_goals (simp only [execOp, Sem.run_bind, Sem.run_pure] at h; first | exact andThen_value (g := id) h | (simp at h; done))

/-- An operation that reads at most: run by the walk's own step, in the worlds 'w0.drewN n'. -/
theorem step_quiet (F : Fit G C K0) {Q : Act → World → Prop} {o : Oper} {rest : List Oper} {a : Act} {fs : Option Tmp → World → Prop} (hw : Region.wanted o (yielded ops a.tmps) = true) (hp : plainOp o.op = true) (hd : o.dst.isSome = true)
    (h : ∀ w0, C w0 → has fs (o.looksAt ops) w0 → ∀ K : Act → Prop, (∀ a', wpMild P ops G C K0 Q rest a' fs → K a') → o.quiet P a (fun w' => ∃ n, w' = w0.drewN n) K) : wpMild P ops G C K0 Q (o :: rest) a fs := by
  unfold wpMild
  simp only [hw, if_true]
  refine ⟨fun v _ => wpMild P ops G C K0 Q rest (a.put o.dst v) fs, fun v w w' _ h => h, fun w hcw hh => ?_, fun v hv => ?_⟩
  · obtain ⟨v, h1, h2⟩ := h w hcw hh _ (fun _ h => h)
    have h3 := h1 w ⟨0, rfl⟩
    unfold Oper.quietAt at h3
    generalize hr : (execOp a.eval o).run P w = r at h3
    cases r with
    | ok n w2 =>
      cases n <;> simp only [Oper.quietUpon] at h3 <;> simp only [mildUpon]
      case value u => obtain ⟨rfl, rfl⟩ := h3; exact ⟨F.refl _, h2⟩
      case skip => obtain ⟨rfl, rfl⟩ := h3; exact ⟨F.refl _, h2⟩
      case enter f args => exact absurd hr (plain_no_enter hp)
    | halt x w2 => simp only [Oper.quietUpon] at h3
  · obtain ⟨w, _, h1⟩ := hv (fun e => by rw [e] at hd; simp at hd)
    exact wpMild_mono _ _ _ _ (fun t w _ h => h.1) h1

/-- An operation whose value is known, and that turns nothing. -/
theorem step_known (F : Fit G C K0) {Q : Act → World → Prop} {o : Oper} {rest : List Oper} {a : Act} {fs : Option Tmp → World → Prop} (hw : Region.wanted o (yielded ops a.tmps) = true) (hd : o.dst.isSome = true) (v0 : Value)
    (hrun : ∀ w, C w → has fs (o.looksAt ops) w → (execOp a.eval o).run P w = .ok (.value v0) w) (h : wpMild P ops G C K0 Q rest (a.put o.dst v0) fs) : wpMild P ops G C K0 Q (o :: rest) a fs := by
  unfold wpMild
  simp only [hw, if_true]
  refine ⟨fun v _ => v = v0, fun v w w' _ h => h, fun w hcw hh => ?_, fun v hv => ?_⟩
  · rw [hrun w hcw hh]; exact ⟨F.refl _, rfl⟩
  · obtain ⟨w, _, rfl⟩ := hv (fun e => by rw [e] at hd; simp at hd)
    exact wpMild_mono _ _ _ _ (fun t w _ h => h.1) h

/-- A call, by its contract. -/
theorem step_call {Q : Act → World → Prop} {o : Oper} {rest : List Oper} {a : Act} {fs : Option Tmp → World → Prop} (hw : Region.wanted o (yielded ops a.tmps) = true) (f : FuncId) (args : Array Value)
    (hrun : ∀ w, (execOp a.eval o).run P w = .ok (.enter f args) w) (Y : Value → World → Prop) (hY : ∀ v, Stab G (Y v))
    (hc : ∀ w, C w → has fs (o.looksAt ops) w → Calls P f args w (fun e w' => ∃ v, e = .returned v ∧ G w w' ∧ K0 f args v w')) (hk : ∀ v w', C w' → K0 f args v w' → Y v w')
    (h : ∀ v, (o.dst ≠ none → ∃ w, C w ∧ Y v w) → wpMild P ops G C K0 Q rest (a.put o.dst v) (addF fs o.dst (Y v))) : wpMild P ops G C K0 Q (o :: rest) a fs := by
  unfold wpMild
  simp only [hw, if_true]
  refine ⟨Y, hY, fun w hcw hh => ?_, h⟩
  rw [hrun w]
  exact ⟨rfl, hc w hcw hh, hk⟩

end
end Mild2
end Go.Proofs.Ytpfoeeiacfadfaa
/-
  A statement of a Go function whose operations may be carried out in several orders, and that writes to memory at its end (the stores come behind all that reads), is walked once, in the order of the text.
  Conditions: the stores are bound behind every operation that is told of the world as it was; what is bound to no store hangs on no world.
-/
namespace Go.Proofs.Ytpfoeeiacfadfaa
namespace Mild3

/-- Which operations are stores. -/
def st (ops : Array Oper) (i : Nat) : Bool := match ops[i]? with | some o => o.dst.isNone | none => false
/-- Which operations every store waits for. -/
def ea (md : Region.Mode) (ops : Array Oper) (i : Nat) : Bool :=
  (List.range ops.size).all fun s => !st ops s || (match ops[s]? with | some os => os.after.any (fun e => Region.binds md e && e.on == i) | none => true)

section
variable (P : Program) (md : Region.Mode) (ops : Array Oper) (G G0 : World → World → Prop) (C C0 : World → Prop) (K0 : FuncId → Array Value → Value → World → Prop)

/-- What the worlds, and the callees' words, keep to. -/
structure Fit : Prop where
  refl : ∀ w, G w w
  trans : ∀ a b c, G a b → G b c → G a c
  inC : ∀ w w', C w → G w w' → C w'
  keep : ∀ f args v w w', K0 f args v w → G w w' → K0 f args v w'
  refl0 : ∀ w, G0 w w
  sub : ∀ w w', G0 w w' → G w w'
  in0 : ∀ w w', C0 w → G0 w w' → C0 w'
  c0 : ∀ w, C0 w → C w

def addF (fs : Option Tmp → World → Prop) (d : Option Tmp) (F : World → Prop) : Option Tmp → World → Prop := fun t w => fs t w ∧ (d = t → F w)

def Stab (F : World → Prop) : Prop := ∀ w w', G w w' → F w → F w'

def has (fs : Option Tmp → World → Prop) (ts : List Tmp) (w : World) : Prop := ∀ t ∈ ts, fs (some t) w

def out (v : Value) (w : World) : Result Next → Prop
  | .ok (.value u) w2 => v = u ∧ G w2 w
  | .ok .skip w2 => v = undef ∧ G w2 w
  | .ok (.enter f args) _ => K0 f args v w
  | _ => False

/-- How an operation may turn the world. -/
def rel (i : Nat) : World → World → Prop := if st ops i then G else G0

def Canon (i : Nat) (o : Oper) (a : Act) (fs : Option Tmp → World → Prop) (v : Value) (w : World) : Prop :=
  ∃ w1, C w1 ∧ (ea md ops i = true → C0 w1) ∧ has fs (o.looksAt ops) w1 ∧ out G K0 v w ((execOp a.eval o).run P w1)

def goodUpon (R : World → World → Prop) (w : World) : Result Next → Prop
  | .ok (.value _) w2 => R w w2
  | .ok .skip w2 => R w w2
  | .ok (.enter f args) w2 => w2 = w ∧ Calls P f args w (fun e w' => ∃ v, e = .returned v ∧ R w w' ∧ K0 f args v w')
  | _ => False

def total (i : Nat) (o : Oper) (a : Act) (fs : Option Tmp → World → Prop) : Prop :=
  (∀ w, C w → (ea md ops i = true → C0 w) → has fs (o.looksAt ops) w → goodUpon P K0 (rel ops G G0 i) w ((execOp a.eval o).run P w)) ∧
  (ea md ops i = false → st ops i = false → ∃ u, ∀ w, (execOp a.eval o).run P w = .ok (.value u) w)

/-- No store has come. -/
def opn (listed : Array Bool) : Prop := ∀ s, st ops s = true → listed.getD s false = false
/-- Where a store has come, all that it waits for has. -/
def inv (listed : Array Bool) : Prop := ∀ s i, st ops s = true → ea md ops i = true → listed.getD s false = true → listed.getD i false = true

def Sat (listed : Array Bool) (fs : Option Tmp → World → Prop) : Prop := (∀ t, Stab G (fs t)) ∧ inv md ops listed ∧ (∃ w, C w ∧ ∀ t, fs t w) ∧ (opn ops listed → ∃ w, C0 w ∧ ∀ t, fs t w)

def mOp (i : Nat) (K : Act → (Option Tmp → World → Prop) → Prop) (a : Act) (fs : Option Tmp → World → Prop) : Prop :=
  match ops[i]? with
  | none => K a fs
  | some o => if Region.wanted o (yielded ops a.tmps) then total P md ops G G0 C C0 K0 i o a fs ∧ ∀ v, K (a.put o.dst v) (addF fs o.dst (Canon P md ops G C C0 K0 i o a fs v)) else K (a.put o.dst undef) fs

def wpAnyM (Q : Act → (Option Tmp → World → Prop) → Prop) : Nat → Array Bool → Act → (Option Tmp → World → Prop) → Prop
  | 0, listed, a, fs => Sat md ops G C C0 listed fs → Region.ready md ops listed = [] ∧ Q a fs
  | fuel + 1, listed, a, fs => Sat md ops G C C0 listed fs →
    (Region.ready md ops listed = [] → Q a fs) ∧
    ∀ i ∈ Region.ready md ops listed, mOp P md ops G G0 C C0 K0 i (wpAnyM Q fuel (listed.setIfInBounds i true)) a fs
end

section
variable {P : Program} {md : Region.Mode} {ops : Array Oper} {G G0 : World → World → Prop} {C C0 : World → Prop} {K0 : FuncId → Array Value → Value → World → Prop}

theorem wpAnyM_intro {Q : Act → (Option Tmp → World → Prop) → Prop} {fuel : Nat} {listed : Array Bool} {a : Act} {fs : Option Tmp → World → Prop}
    (h : Sat md ops G C C0 listed fs → wpAnyM P md ops G G0 C C0 K0 Q fuel listed a fs) : wpAnyM P md ops G G0 C C0 K0 Q fuel listed a fs := by
  cases fuel with
  | zero => exact fun hs => (h hs) hs
  | succ fuel => exact fun hs => (h hs) hs

theorem out_stab (F : Fit G G0 C C0 K0) {v : Value} {r : Result Next} : Stab G (fun w => out G K0 v w r) := by
  intro w w' hg h
  cases r with
  | ok n w2 =>
    cases n <;> simp only [out] at h ⊢
    case value u => exact ⟨h.1, F.trans _ _ _ h.2 hg⟩
    case skip => exact ⟨h.1, F.trans _ _ _ h.2 hg⟩
    case enter f args => exact F.keep _ _ _ _ _ h hg
  | halt x w2 => simp only [out] at h

theorem canon_stab (F : Fit G G0 C C0 K0) {i : Nat} {o : Oper} {a : Act} {fs : Option Tmp → World → Prop} {v : Value} : Stab G (Canon P md ops G C C0 K0 i o a fs v) := by
  intro w w' hg ⟨w1, h1, h1', h2, h3⟩
  exact ⟨w1, h1, h1', h2, out_stab F w w' hg h3⟩

theorem addF_stab {fs : Option Tmp → World → Prop} {d : Option Tmp} {X : World → Prop} (h : ∀ t, Stab G (fs t)) (hX : Stab G X) : ∀ t, Stab G (addF fs d X t) :=
  fun t w w' hg ⟨h1, h2⟩ => ⟨h t w w' hg h1, fun e => hX w w' hg (h2 e)⟩

theorem getD_of_ready {i : Nat} {listed : Array Bool} (h : listed.getD i true = false) : listed.getD i false = false ∧ i < listed.size := by
  by_cases hs : i < listed.size
  · simp only [Array.getD, hs, dite_true] at h ⊢; exact ⟨h, trivial⟩
  · simp [Array.getD, hs] at h
theorem getD_set_self {i : Nat} {listed : Array Bool} (h : i < listed.size) : (listed.setIfInBounds i true).getD i false = true := by simp [Array.getD, h]
theorem getD_set_other {i k : Nat} {listed : Array Bool} (h : i ≠ k) : (listed.setIfInBounds i true).getD k false = listed.getD k false := getD_set_ne false h

theorem ea_edge {s i : Nat} {os : Oper} (hos : ops[s]? = some os) (hs : st ops s = true) (he : ea md ops i = true) : ∃ e ∈ os.after, Region.binds md e = true ∧ e.on = i := by
  unfold ea at he
  have hlt : s < ops.size := (Array.getElem?_eq_some_iff.1 hos).1
  have h := List.all_eq_true.1 he s (by simpa using hlt)
  rw [hs, hos] at h
  simp only [Bool.not_true, Bool.false_or] at h
  obtain ⟨e, h1, h2⟩ := Array.any_eq_true'.1 h
  simp only [Bool.and_eq_true, beq_iff_eq] at h2
  exact ⟨e, h1, h2.1, h2.2⟩
/-- A store that may come waits for nothing early. -/
theorem ready_early {s i : Nat} {listed : Array Bool} (hr : s ∈ Region.ready md ops listed) (hs : st ops s = true) (he : ea md ops i = true) : listed.getD i false = true := by
  obtain ⟨_, os, hos, hall⟩ := mem_ready.1 hr
  obtain ⟨e, h1, h2, rfl⟩ := ea_edge hos hs he
  exact hall e h1 h2
theorem inv_set {i : Nat} {listed : Array Bool} (h : inv md ops listed) (hr : i ∈ Region.ready md ops listed) : inv md ops (listed.setIfInBounds i true) := by
  intro s k hs hk hl
  by_cases hik : i = k
  · subst hik; exact getD_set_self (getD_of_ready (mem_ready.1 hr).1).2
  · rw [getD_set_other hik]
    by_cases his : i = s
    · subst his; exact ready_early hr hs hk
    · rw [getD_set_other his] at hl; exact h s k hs hk hl
theorem opn_of_set {i : Nat} {listed : Array Bool} (hr : i ∈ Region.ready md ops listed) (h : opn ops (listed.setIfInBounds i true)) : opn ops listed ∧ st ops i = false := by
  have hi := getD_of_ready (mem_ready.1 hr).1
  have hst : st ops i = false := by
    cases hc : st ops i with
    | false => rfl
    | true => have := h i hc; rw [getD_set_self hi.2] at this; cases this
  refine ⟨fun s hs => ?_, hst⟩
  by_cases his : i = s
  · subst his; exact hi.1
  · have := h s hs; rwa [getD_set_other his] at this
theorem opn_set {i : Nat} {listed : Array Bool} (h : opn ops listed) (hi : st ops i = false) : opn ops (listed.setIfInBounds i true) := by
  intro s hs
  have : i ≠ s := fun e => by subst e; rw [hi] at hs; cases hs
  rw [getD_set_other this]; exact h s hs
theorem opn_early {i : Nat} {listed : Array Bool} (h : inv md ops listed) (hr : i ∈ Region.ready md ops listed) (he : ea md ops i = true) : opn ops listed := by
  intro s hs
  cases hc : listed.getD s false with
  | false => rfl
  | true => have := h s i hs he hc; rw [(getD_of_ready (mem_ready.1 hr).1).1] at this; cases this

/-- An operation that goes through yields something. -/
theorem run_out (F : Fit G G0 C C0 K0) {i : Nat} {o : Oper} {a : Act} {fs : Option Tmp → World → Prop} {w : World} (hw : C w) (h0 : ea md ops i = true → C0 w) (hst : ∀ t, Stab G (fs t)) (hf : ∀ t, fs t w)
    (ht : total P md ops G G0 C C0 K0 i o a fs) : ∃ v w', rel ops G G0 i w w' ∧ C w' ∧ Canon P md ops G C C0 K0 i o a fs v w' ∧ ∀ t, fs t w' := by
  have h := ht.1 w hw h0 (fun t _ => hf (some t))
  have sub : ∀ w', rel ops G G0 i w w' → G w w' := fun w' hg => by unfold rel at hg; split at hg; exact hg; exact F.sub _ _ hg
  have key : ∀ v w', rel ops G G0 i w w' → out G K0 v w' ((execOp a.eval o).run P w) → ∃ v w', rel ops G G0 i w w' ∧ C w' ∧ Canon P md ops G C C0 K0 i o a fs v w' ∧ ∀ t, fs t w' := fun v w' hg ho =>
    ⟨v, w', hg, F.inC _ _ hw (sub _ hg), ⟨w, hw, h0, fun t _ => hf (some t), ho⟩, fun t => hst t _ _ (sub _ hg) (hf t)⟩
  generalize hr : (execOp a.eval o).run P w = r at h key
  cases r with
  | ok n w2 =>
    cases n <;> simp only [goodUpon] at h
    case value u => exact key u w2 h ⟨rfl, F.refl _⟩
    case skip => exact key undef w2 h ⟨rfl, F.refl _⟩
    case enter f args =>
      obtain ⟨_, hc⟩ := h
      obtain ⟨e, w', fr, ⟨v, _, hg, hk⟩, _⟩ := hc []
      exact key v w' hg hk
  | halt x w2 => simp only [goodUpon] at h

theorem some_out (F : Fit G G0 C C0 K0) {i : Nat} {o : Oper} {a : Act} {fs : Option Tmp → World → Prop} {listed : Array Bool} (hs : Sat md ops G C C0 listed fs) (hr : i ∈ Region.ready md ops listed)
    (ht : total P md ops G G0 C C0 K0 i o a fs) : ∃ v, Sat md ops G C C0 (listed.setIfInBounds i true) (addF fs o.dst (Canon P md ops G C C0 K0 i o a fs v)) := by
  obtain ⟨hst, hinv, ⟨w, hw, hf⟩, h4⟩ := hs
  by_cases ho : opn ops listed
  · obtain ⟨w, hw, hf⟩ := h4 ho
    obtain ⟨v, w', hg, hC, hcan, hf'⟩ := run_out F (F.c0 _ hw) (fun _ => hw) hst hf ht
    refine ⟨v, addF_stab hst (canon_stab F), inv_set hinv hr, ⟨w', hC, fun t => ⟨hf' t, fun _ => hcan⟩⟩, fun ho' => ⟨w', ?_, fun t => ⟨hf' t, fun _ => hcan⟩⟩⟩
    have := (opn_of_set hr ho').2
    unfold rel at hg
    rw [this] at hg
    exact F.in0 _ _ hw hg
  · have he : ea md ops i = true → C0 w := fun he => absurd (opn_early hinv hr he) ho
    obtain ⟨v, w', hg, hC, hcan, hf'⟩ := run_out F hw he hst hf ht
    exact ⟨v, addF_stab hst (canon_stab F), inv_set hinv hr, ⟨w', hC, fun t => ⟨hf' t, fun _ => hcan⟩⟩, fun ho' => absurd (opn_of_set hr ho').1 ho⟩

/-- It serves every order. -/
theorem wpAny_of (F : Fit G G0 C C0 K0) {Q : Act → (Option Tmp → World → Prop) → Prop} {Q' : Exit → Act → World → Prop} (hQ : ∀ a fs w, C w → (∀ t, fs t w) → Q a fs → Q' .normal a w) :
    ∀ (fuel : Nat) (listed : Array Bool) (a : Act) (fs : Option Tmp → World → Prop) (w : World), (∀ t, Stab G (fs t)) → inv md ops listed → C w → (opn ops listed → C0 w) → (∀ t, fs t w) →
    wpAnyM P md ops G G0 C C0 K0 Q fuel listed a fs → wpAny P md ops Q' fuel listed a w := by
  intro fuel
  induction fuel with
  | zero =>
    intro listed a fs w hst hinv hw h0 hf h
    have hs : Sat md ops G C C0 listed fs := ⟨hst, hinv, ⟨w, hw, hf⟩, fun ho => ⟨w, h0 ho, hf⟩⟩
    exact ⟨(h hs).1, hQ _ _ _ hw hf (h hs).2⟩
  | succ fuel ih =>
    intro listed a fs w hst hinv hw hop hf h
    have hs : Sat md ops G C C0 listed fs := ⟨hst, hinv, ⟨w, hw, hf⟩, fun ho => ⟨w, hop ho, hf⟩⟩
    obtain ⟨h0, h1⟩ := h hs
    refine ⟨fun he => hQ _ _ _ hw hf (h0 he), fun i hi => ?_⟩
    have h2 := h1 i hi
    have hinv' := inv_set hinv hi
    unfold mOp at h2
    unfold wpOp
    split
    · rename_i ho
      obtain ⟨_, o, ho', _⟩ := mem_ready.1 hi
      rw [ho] at ho'; cases ho'
    · rename_i o ho
      simp only [ho] at h2
      split
      · rename_i hwant
        simp only [hwant, if_true] at h2
        refine .inl ?_
        obtain ⟨ht, hk⟩ := h2
        have he : ea md ops i = true → C0 w := fun he => hop (opn_early hinv hi he)
        have hg := ht.1 w hw he (fun t _ => hf (some t))
        have key : ∀ v w', rel ops G G0 i w w' → out G K0 v w' ((execOp a.eval o).run P w) → wpAny P md ops Q' fuel (listed.setIfInBounds i true) (a.put o.dst v) w' := fun v w' hgg hout => by
          have sub : G w w' := by unfold rel at hgg; split at hgg; exact hgg; exact F.sub _ _ hgg
          refine ih _ _ _ _ (addF_stab hst (canon_stab F)) hinv' (F.inC _ _ hw sub) (fun ho' => ?_) (fun t => ⟨hst t _ _ sub (hf t), fun _ => ⟨w, hw, he, fun t _ => hf (some t), hout⟩⟩) (hk v)
          obtain ⟨ho1, hsf⟩ := opn_of_set hi ho'
          unfold rel at hgg
          rw [hsf] at hgg
          exact F.in0 _ _ (hop ho1) hgg
        unfold Oper.wp
        generalize (execOp a.eval o).run P w = r at hg key
        cases r with
        | ok n w2 =>
          cases n <;> simp only [goodUpon] at hg <;> simp only [Oper.upon]
          case value u => exact key u w2 hg ⟨rfl, F.refl _⟩
          case skip => exact key undef w2 hg ⟨rfl, F.refl _⟩
          case enter f args =>
            obtain ⟨rfl, hc⟩ := hg
            exact hc.mono fun e w' ⟨v, he, hgg, hkk⟩ => by subst he; exact key v w' hgg hkk
        | halt x w2 => simp only [goodUpon] at hg
      · rename_i hwant
        simp only [hwant] at h2
        exact ih _ _ _ _ hst hinv' hw (fun ho' => hop (opn_of_set hi ho').1) hf h2

theorem has_add {fs : Option Tmp → World → Prop} {d : Option Tmp} {X : World → Prop} {ts : List Tmp} {w : World} (h : ∀ t, d = some t → t ∉ ts) : has (addF fs d X) ts w ↔ has fs ts w :=
  ⟨fun hh t ht => (hh t ht).1, fun hh t ht => ⟨hh t ht, fun e => absurd ht (h t e)⟩⟩

theorem total_put {j : Nat} {oi oj : Oper} {a : Act} {fs : Option Tmp → World → Prop} {v : Value} {X : World → Prop} (hs : ∀ cs b, oj.op ≠ .select cs b) (h : ∀ d, oi.dst = some d → d ∉ oj.looksAt ops) :
    total P md ops G G0 C C0 K0 j oj (a.put oi.dst v) (addF fs oi.dst X) ↔ total P md ops G G0 C C0 K0 j oj a fs := by
  unfold total
  rw [execOp_put oj hs a oi.dst v h]
  constructor
  · intro hh; exact ⟨fun w hw h0 hf => hh.1 w hw h0 ((has_add h).2 hf), hh.2⟩
  · intro hh; exact ⟨fun w hw h0 hf => hh.1 w hw h0 ((has_add h).1 hf), hh.2⟩

theorem canon_put {j : Nat} {oi oj : Oper} {a : Act} {fs : Option Tmp → World → Prop} {v u : Value} {X : World → Prop} (hs : ∀ cs b, oj.op ≠ .select cs b) (h : ∀ d, oi.dst = some d → d ∉ oj.looksAt ops) :
    Canon P md ops G C C0 K0 j oj (a.put oi.dst v) (addF fs oi.dst X) u = Canon P md ops G C C0 K0 j oj a fs u := by
  funext w
  unfold Canon
  rw [execOp_put oj hs a oi.dst v h]
  apply propext
  constructor
  · rintro ⟨w1, h1, h0, h2, h3⟩; exact ⟨w1, h1, h0, (has_add h).1 h2, h3⟩
  · rintro ⟨w1, h1, h0, h2, h3⟩; exact ⟨w1, h1, h0, (has_add h).2 h2, h3⟩

theorem total_put' {j : Nat} {oi oj : Oper} {a : Act} {fs : Option Tmp → World → Prop} {v : Value} (hs : ∀ cs b, oj.op ≠ .select cs b) (h : ∀ d, oi.dst = some d → d ∉ oj.looksAt ops) :
    total P md ops G G0 C C0 K0 j oj (a.put oi.dst v) fs ↔ total P md ops G G0 C C0 K0 j oj a fs := by
  unfold total
  rw [execOp_put oj hs a oi.dst v h]

theorem canon_put' {j : Nat} {oi oj : Oper} {a : Act} {fs : Option Tmp → World → Prop} {v u : Value} (hs : ∀ cs b, oj.op ≠ .select cs b) (h : ∀ d, oi.dst = some d → d ∉ oj.looksAt ops) :
    Canon P md ops G C C0 K0 j oj (a.put oi.dst v) fs u = Canon P md ops G C C0 K0 j oj a fs u := by
  funext w
  unfold Canon
  rw [execOp_put oj hs a oi.dst v h]

theorem addF_comm (fs : Option Tmp → World → Prop) (d e : Option Tmp) (X Y : World → Prop) : addF (addF fs d X) e Y = addF (addF fs e Y) d X := by
  funext t w
  apply propext
  constructor
  · rintro ⟨⟨h1, h2⟩, h3⟩; exact ⟨⟨h1, h3⟩, h2⟩
  · rintro ⟨⟨h1, h2⟩, h3⟩; exact ⟨⟨h1, h3⟩, h2⟩

/-- What may come up waits for nothing that has not come up. -/
theorem not_after {i : Nat} {oj : Oper} {listed : Array Bool} (hi : listed.getD i true = false) (hall : ∀ e ∈ oj.after, Region.binds md e = true → listed.getD e.on false = true) :
    ∀ e ∈ oj.after, Region.binds md e = true → e.on ≠ i := by
  intro e he hb heq
  have h := hall e he hb
  subst heq
  by_cases hs : e.on < listed.size
  · simp only [Array.getD, hs, dite_true] at hi h
    exact absurd (h.symm.trans hi) (by decide)
  · simp [Array.getD, hs] at hi

/-- Behind one more operation the others are still apart. -/
theorem apart_still {i j : Nat} {oi : Oper} {listed : Array Bool} (hj : listed.getD j true = false)
    (h : ∀ k ok, ops[k]? = some ok → k ≠ i → listed.getD k true = false → (∀ e ∈ ok.after, Region.binds md e = true → e.on ≠ i) → oi.apart ops ok = true) :
    ∀ k ok, ops[k]? = some ok → k ≠ i → (listed.setIfInBounds j true).getD k true = false → (∀ e ∈ ok.after, Region.binds md e = true → e.on ≠ i) → oi.apart ops ok = true := by
  intro k ok hk hki hun hno
  by_cases hkj : j = k
  · exact h k ok hk hki (hkj ▸ hj) hno
  · exact h k ok hk hki ((getD_set_ne true hkj).symm.trans hun) hno

/-- What is known stands without the other operation. -/
theorem sat_drop (F : Fit G G0 C C0 K0) {i j : Nat} {oi : Oper} {a : Act} {fs : Option Tmp → World → Prop} {listed : Array Bool} {d : Option Tmp} {v : Value} {Y : World → Prop} (hsat : Sat md ops G C C0 listed fs) (hri : i ∈ Region.ready md ops listed) (hrj : j ∈ Region.ready md ops listed) (_hij : j ≠ i)
    (ht : total P md ops G G0 C C0 K0 i oi a fs) (h : Sat md ops G C C0 ((listed.setIfInBounds j true).setIfInBounds i true) (addF (addF fs oi.dst (Canon P md ops G C C0 K0 i oi a fs v)) d Y)) :
    Sat md ops G C C0 (listed.setIfInBounds i true) (addF fs oi.dst (Canon P md ops G C C0 K0 i oi a fs v)) := by
  obtain ⟨hst, hinv, _, h4⟩ := hsat
  obtain ⟨_, _, ⟨w, hw, hf⟩, k4⟩ := h
  refine ⟨addF_stab hst (canon_stab F), inv_set hinv hri, ⟨w, hw, fun t => (hf t).1⟩, fun ho => ?_⟩
  obtain ⟨ho1, hsi⟩ := opn_of_set hri ho
  cases hsj : st ops j with
  | false =>
    have : opn ops ((listed.setIfInBounds j true).setIfInBounds i true) := opn_set (opn_set ho1 hsj) hsi
    obtain ⟨w, hw, hf⟩ := k4 this
    exact ⟨w, hw, fun t => (hf t).1⟩
  | true =>
    have he : ea md ops i = false := by
      cases hc : ea md ops i with
      | false => rfl
      | true => have := ready_early hrj hsj hc; rw [(getD_of_ready (mem_ready.1 hri).1).1] at this; cases this
    obtain ⟨u, hu⟩ := ht.2 he hsi
    obtain ⟨w0, hw0, hf0⟩ := h4 ho1
    refine ⟨w0, hw0, fun t => ⟨hf0 t, fun e => ?_⟩⟩
    obtain ⟨w1, _, _, _, hout⟩ := (hf t).1.2 e
    rw [hu w1] at hout
    exact ⟨w0, F.c0 _ hw0, (fun h => by rw [he] at h; cases h), fun t _ => hf0 (some t), by rw [hu w0]; exact ⟨hout.1, F.refl _⟩⟩
theorem sat_skip {i : Nat} {fs : Option Tmp → World → Prop} {listed : Array Bool} (hs : Sat md ops G C C0 listed fs) (hr : i ∈ Region.ready md ops listed) : Sat md ops G C C0 (listed.setIfInBounds i true) fs :=
  ⟨hs.1, inv_set hs.2.1 hr, hs.2.2.1, fun ho => hs.2.2.2 (opn_of_set hr ho).1⟩

/-- The operation 'i', taken first, serves: every other one that may come up now is apart from it. -/
theorem first (F : Fit G G0 C C0 K0) {Q : Act → (Option Tmp → World → Prop) → Prop} {i : Nat} {oi : Oper} (hi : ops[i]? = some oi) (hsel : ∀ (j : Nat) (o : Oper) cs b, ops[j]? = some o → o.op ≠ .select cs b) :
    ∀ (fuel : Nat) (listed : Array Bool) (a : Act) (fs : Option Tmp → World → Prop),
      (∀ j oj, ops[j]? = some oj → j ≠ i → listed.getD j true = false → (∀ e ∈ oj.after, Region.binds md e = true → e.on ≠ i) → oi.apart ops oj = true) →
      i ∈ Region.ready md ops listed →
      mOp P md ops G G0 C C0 K0 i (wpAnyM P md ops G G0 C C0 K0 Q fuel (listed.setIfInBounds i true)) a fs → wpAnyM P md ops G G0 C C0 K0 Q (fuel + 1) listed a fs := by
  intro fuel
  induction fuel with
  | zero =>
    intro listed a fs _ hr H hsat
    refine ⟨fun h => (by rw [h] at hr; cases hr), fun j hj => ?_⟩
    by_cases hji : j = i
    · subst hji; exact H
    · exfalso
      have hm := ready_mono hj hji
      unfold mOp at H
      simp only [hi] at H
      by_cases hwant : Region.wanted oi (yielded ops a.tmps) = true
      · simp only [hwant, if_true] at H
        obtain ⟨v, hs'⟩ := some_out F hsat hr H.1
        have := (H.2 v hs').1
        rw [this] at hm
        cases hm
      · simp only [hwant] at H
        have := (H (sat_skip hsat hr)).1
        rw [this] at hm
        cases hm
  | succ fuel ih =>
    intro listed a fs hfree hr H hsat
    refine ⟨fun h => (by rw [h] at hr; cases hr), fun j hj => ?_⟩
    by_cases hji : j = i
    · subst hji; exact H
    · have hm := ready_mono hj hji
      obtain ⟨hjun, oj, hoj, hall⟩ := mem_ready.1 hj
      have hnot := not_after (mem_ready.1 hr).1 hall
      have hap := hfree j oj hoj hji hjun hnot
      obtain ⟨p1, p2, p3⟩ := Oper.apart_spec hap
      have hsi := fun cs b => hsel i oi cs b hi
      have hsj := fun cs b => hsel j oj cs b hoj
      have hfree' := apart_still hjun hfree
      unfold mOp at H
      simp only [hi] at H
      by_cases hwi : Region.wanted oi (yielded ops a.tmps) = true
      · simp only [hwi, if_true] at H
        obtain ⟨v0, hs0⟩ := some_out F hsat hr H.1
        have Hj := (H.2 v0 hs0).2 j hm
        unfold mOp at Hj ⊢
        simp only [hoj] at Hj ⊢
        rw [wanted_put oj a oi.dst v0 p1] at Hj
        by_cases hwj : Region.wanted oj (yielded ops a.tmps) = true
        · simp only [hwj, if_true] at Hj ⊢
          refine ⟨(total_put hsj p1).1 Hj.1, fun vj => ih _ _ _ hfree' (ready_mono hr (Ne.symm hji)) ?_⟩
          unfold mOp
          simp only [hi]
          rw [wanted_put oi a oj.dst vj p3]
          simp only [hwi, if_true]
          refine ⟨(total_put hsi p3).2 H.1, fun v => wpAnyM_intro fun hs2 => ?_⟩
          rw [canon_put hsi p3, addF_comm] at hs2 ⊢
          have hsi' := sat_drop F hsat hr hj hji H.1 hs2
          have Hv := (H.2 v hsi').2 j hm
          unfold mOp at Hv
          simp only [hoj] at Hv
          rw [wanted_put oj a oi.dst v p1] at Hv
          simp only [hwj, if_true] at Hv
          have Hv2 := Hv.2 vj
          rw [canon_put hsj p1, Act.put_comm a v vj p2, Array.setIfInBounds_comm _ _ (Ne.symm hji)] at Hv2
          exact Hv2
        · simp only [hwj] at Hj ⊢
          refine ih _ _ _ hfree' (ready_mono hr (Ne.symm hji)) ?_
          unfold mOp
          simp only [hi]
          rw [wanted_put oi a oj.dst undef p3]
          simp only [hwi, if_true]
          refine ⟨(total_put' hsi p3).2 H.1, fun v => wpAnyM_intro fun hs2 => ?_⟩
          rw [canon_put' hsi p3] at hs2 ⊢
          have hsi' : Sat md ops G C C0 (listed.setIfInBounds i true) (addF fs oi.dst (Canon P md ops G C C0 K0 i oi a fs v)) :=
            sat_drop F (d := none) (Y := fun _ => True) hsat hr hj hji H.1 ⟨addF_stab hs2.1 (fun _ _ _ _ => trivial), hs2.2.1, let ⟨w, hw, hf⟩ := hs2.2.2.1; ⟨w, hw, fun t => ⟨hf t, fun _ => trivial⟩⟩, fun ho => let ⟨w, hw, hf⟩ := hs2.2.2.2 ho; ⟨w, hw, fun t => ⟨hf t, fun _ => trivial⟩⟩⟩
          have Hv := (H.2 v hsi').2 j hm
          unfold mOp at Hv
          simp only [hoj] at Hv
          rw [wanted_put oj a oi.dst v p1] at Hv
          simp only [hwj] at Hv
          rw [Act.put_comm a v undef p2, Array.setIfInBounds_comm _ _ (Ne.symm hji)] at Hv
          exact Hv
      · simp only [hwi] at H
        have Hj := (H (sat_skip hsat hr)).2 j hm
        unfold mOp at Hj ⊢
        simp only [hoj] at Hj ⊢
        rw [wanted_put oj a oi.dst undef p1] at Hj
        by_cases hwj : Region.wanted oj (yielded ops a.tmps) = true
        · simp only [hwj, if_true] at Hj ⊢
          refine ⟨(total_put' hsj p1).1 Hj.1, fun vj => ih _ _ _ hfree' (ready_mono hr (Ne.symm hji)) ?_⟩
          unfold mOp
          simp only [hi]
          rw [wanted_put oi a oj.dst vj p3]
          simp only [hwi]
          have Hv2 := Hj.2 vj
          rw [canon_put' hsj p1, Act.put_comm a undef vj p2, Array.setIfInBounds_comm _ _ (Ne.symm hji)] at Hv2
          exact Hv2
        · simp only [hwj] at Hj ⊢
          refine ih _ _ _ hfree' (ready_mono hr (Ne.symm hji)) ?_
          unfold mOp
          simp only [hi]
          rw [wanted_put oi a oj.dst undef p3]
          simp only [hwi]
          rw [Act.put_comm a undef undef p2, Array.setIfInBounds_comm _ _ (Ne.symm hji)] at Hj
          exact Hj
end

section
variable (P : Program) (md : Region.Mode) (ops : Array Oper) (G G0 : World → World → Prop) (C C0 : World → Prop) (K0 : FuncId → Array Value → Value → World → Prop)

/-- What is asked of one operation, as the prover tells it: 'Y' is what is known of its value. -/
def mildUpon (R : World → World → Prop) (w : World) (Y : Value → World → Prop) : Result Next → Prop
  | .ok (.value u) w2 => R w w2 ∧ Y u w2
  | .ok .skip w2 => R w w2 ∧ Y undef w2
  | .ok (.enter f args) w2 => w2 = w ∧ Calls P f args w (fun e w' => ∃ v, e = .returned v ∧ R w w' ∧ K0 f args v w') ∧ (∀ v w', C w' → K0 f args v w' → Y v w')
  | _ => False

/-- The walk in the order of the text. -/
def wpMild (Q : Act → World → Prop) : Nat → List Oper → Act → (Option Tmp → World → Prop) → Prop
  | _, [], a, fs => ∀ w, C w → (∀ t, fs t w) → Q a w
  | i, o :: rest, a, fs =>
    if Region.wanted o (yielded ops a.tmps) then
      ∃ Y : Value → World → Prop, (∀ v, Stab G (Y v)) ∧ (∀ w, C w → (ea md ops i = true → C0 w) → has fs (o.looksAt ops) w → mildUpon P C K0 (rel ops G G0 i) w Y ((execOp a.eval o).run P w)) ∧
        (ea md ops i = false → st ops i = false → ∃ u, ∀ w, (execOp a.eval o).run P w = .ok (.value u) w) ∧
        ∀ v, (o.dst ≠ none → ∃ w, C w ∧ Y v w) → wpMild Q (i + 1) rest (a.put o.dst v) (addF fs o.dst (Y v))
    else wpMild Q (i + 1) rest (a.put o.dst undef) fs
end

section
variable {P : Program} {md : Region.Mode} {ops : Array Oper} {G G0 : World → World → Prop} {C C0 : World → Prop} {K0 : FuncId → Array Value → Value → World → Prop}

theorem lex (F : Fit G G0 C C0 K0) {Q : Act → World → Prop} (hs : Region.noSelect ops = true) : ∀ (l : List Oper) (k : Nat) (listed : Array Bool) (a : Act) (fs fs' : Option Tmp → World → Prop), (∀ j, l[j]? = ops[k + j]?) →
    (∀ t w, C w → fs' t w → fs t w) → Region.lexFrom md ops l.length k listed = true → wpMild P md ops G G0 C C0 K0 Q k l a fs →
    wpAnyM P md ops G G0 C C0 K0 (fun a fs => ∀ w, C w → (∀ t, fs t w) → Q a w) l.length listed a fs'
  | [], _, _, _, _, _, _, hle, hB, h => fun _ => ⟨by simpa [Region.lexFrom] using hB, fun w hw hf => h w hw (fun t => hle t w hw (hf t))⟩
  | o :: l, k, listed, a, fs, fs', hl, hle, hB, h => by
    have h0 : ops[k]? = some o := by simpa using (hl 0).symm
    simp only [List.length_cons, Region.lexFrom, Bool.and_eq_true] at hB
    obtain ⟨⟨hr, hf⟩, hB'⟩ := hB
    refine first F h0 (Region.noSelect_spec hs) l.length listed a fs' (Region.free_spec h0 hf) (by simpa using hr) ?_
    have hl' : ∀ j, l[j]? = ops[k + 1 + j]? := fun j => by have := hl (j + 1); simpa [Nat.add_assoc, Nat.add_comm 1 j] using this
    unfold mOp
    simp only [h0]
    unfold wpMild at h
    by_cases hw : Region.wanted o (yielded ops a.tmps) = true
    · simp only [hw, if_true] at h ⊢
      obtain ⟨Y, hY, hm, hpure, hk⟩ := h
      have sub : ∀ w w', rel ops G G0 k w w' → G w w' := fun w w' hg => by unfold rel at hg; split at hg; exact hg; exact F.sub _ _ hg
      have hcan : ∀ v w, C w → Canon P md ops G C C0 K0 k o a fs' v w → Y v w := by
        rintro v w hcw ⟨w1, hc1, hc10, hh1, ho1⟩
        have := hm w1 hc1 hc10 (fun t ht => hle (some t) w1 hc1 (hh1 t ht))
        generalize (execOp a.eval o).run P w1 = r at this ho1
        cases r with
        | ok n w2 =>
          cases n <;> simp only [mildUpon] at this <;> simp only [out] at ho1
          case value u => obtain ⟨e, hg⟩ := ho1; subst e; exact hY _ _ _ hg this.2
          case skip => obtain ⟨e, hg⟩ := ho1; subst e; exact hY _ _ _ hg this.2
          case enter f args => exact this.2.2 v w hcw ho1
        | halt x w2 => simp only [mildUpon] at this
      refine ⟨⟨fun w hcw hc0 hhw => ?_, hpure⟩, fun v => wpAnyM_intro fun hsat => ?_⟩
      · have := hm w hcw hc0 (fun t ht => hle (some t) w hcw (hhw t ht))
        generalize (execOp a.eval o).run P w = r at this
        cases r with
        | ok n w2 =>
          cases n <;> simp only [mildUpon] at this <;> simp only [goodUpon]
          case value u => exact this.1
          case skip => exact this.1
          case enter f args => exact ⟨this.1, this.2.1⟩
        | halt x w2 => simp only [mildUpon] at this
      · refine lex F hs l (k + 1) _ _ (addF fs o.dst (Y v)) _ hl' (fun t w hcw ⟨h1, h2⟩ => ⟨hle t w hcw h1, fun e => hcan v w hcw (h2 e)⟩) hB' (hk v fun hd => ?_)
        obtain ⟨_, _, ⟨w, hcw, hfw⟩, _⟩ := hsat
        cases hdd : o.dst with
        | none => exact absurd hdd hd
        | some d => exact ⟨w, hcw, hcan v w hcw ((hfw (some d)).2 hdd)⟩
    · simp only [hw] at h ⊢
      exact lex F hs l (k + 1) _ _ fs _ hl' hle hB' h

/-- **A region that draws its order, walked once.** -/
theorem wp_region (F : Fit G G0 C C0 K0) {id : Nat} {Q : Exit → Act → World → Prop} {a : Act} {w : World} {l : List Oper} (hm : P.follows .mixedOrders = true) (hB : Region.lexB .any l.toArray = true) (hC : C0 { w with drawn := w.drawn + 1 })
    (h : wpMild P .any l.toArray G G0 C C0 K0 (fun a' w' => Q .normal a' w') 0 l a (fun _ _ => True)) : (Code.region id l.toArray true).wp P Q a w := by
  simp only [Region.lexB, Bool.and_eq_true] at hB
  refine wp_region_any hm (wpAny_of F (Q := fun a fs => ∀ w, C w → (∀ t, fs t w) → Q .normal a w) (fun _ _ w hw hf h => h w hw hf) _ _ _ (fun _ _ => True) _ (fun _ _ _ _ _ => trivial) ?_ (F.c0 _ hC) (fun _ => hC) (fun _ => trivial) ?_)
  · intro s i _ _ hl
    simp [Array.getD] at hl
  · have := lex (C := C) (md := .any) F hB.1 l 0 (Array.replicate l.toArray.size false) a (fun _ _ => True) (fun _ _ => True) (by simp) (fun _ _ _ h => h) (by simpa using hB.2) h
    simpa using this

/-- More is known: the walk serves all the same. -/
theorem wpMild_mono {Q : Act → World → Prop} : ∀ (l : List Oper) (i : Nat) (a : Act) (fs fs' : Option Tmp → World → Prop), (∀ t w, C w → fs' t w → fs t w) → wpMild P md ops G G0 C C0 K0 Q i l a fs → wpMild P md ops G G0 C C0 K0 Q i l a fs'
  | [], _, _, _, _, hle, h => fun w hw hf => h w hw (fun t => hle t w hw (hf t))
  | o :: l, i, a, fs, fs', hle, h => by
    unfold wpMild at h ⊢
    by_cases hw : Region.wanted o (yielded ops a.tmps) = true
    · simp only [hw, if_true] at h ⊢
      obtain ⟨Y, hY, hm, hp, hk⟩ := h
      exact ⟨Y, hY, fun w hcw h0 hh => hm w hcw h0 (fun t ht => hle (some t) w hcw (hh t ht)), hp, fun v hv => wpMild_mono l _ _ _ _ (fun t w hcw ⟨h1, h2⟩ => ⟨hle t w hcw h1, h2⟩) (hk v hv)⟩
    · simp only [hw] at h ⊢
      exact wpMild_mono l _ _ _ _ hle h

theorem rel_of_not {i : Nat} (h : st ops i = false) : rel ops G G0 i = G0 := by unfold rel; rw [h]; rfl
theorem rel_of {i : Nat} (h : st ops i = true) : rel ops G G0 i = G := by unfold rel; rw [h]; rfl

/-- An early operation whose value is known, and that turns nothing. -/
theorem step_known (F : Fit G G0 C C0 K0) {Q : Act → World → Prop} {i : Nat} {o : Oper} {rest : List Oper} {a : Act} {fs : Option Tmp → World → Prop} (hw : Region.wanted o (yielded ops a.tmps) = true) (hd : o.dst.isSome = true) (he : ea md ops i = true) (hsn : st ops i = false) (v0 : Value)
    (hrun : ∀ w, C0 w → has fs (o.looksAt ops) w → (execOp a.eval o).run P w = .ok (.value v0) w) (h : wpMild P md ops G G0 C C0 K0 Q (i + 1) rest (a.put o.dst v0) fs) : wpMild P md ops G G0 C C0 K0 Q i (o :: rest) a fs := by
  unfold wpMild
  simp only [hw, if_true]
  refine ⟨fun v _ => v = v0, fun v w w' _ h => h, fun w hcw h0 hh => ?_, fun h => (by rw [he] at h; cases h), fun v hv => ?_⟩
  · rw [hrun w (h0 he) hh, rel_of_not hsn]; exact ⟨F.refl0 _, rfl⟩
  · obtain ⟨w, _, rfl⟩ := hv (fun e => by rw [e] at hd; simp at hd)
    exact wpMild_mono _ _ _ _ _ (fun t w _ h => h.1) h
/-- A store, of which something is noted. -/
theorem step_note {Q : Act → World → Prop} {i : Nat} {o : Oper} {rest : List Oper} {a : Act} {fs : Option Tmp → World → Prop} (hw : Region.wanted o (yielded ops a.tmps) = true) (hd : o.dst = none) (hst : st ops i = true) (Y : World → Prop) (hY : Stab G Y)
    (hrun : ∀ w, C w → has fs (o.looksAt ops) w → ∃ w2, (execOp a.eval o).run P w = .ok .skip w2 ∧ G w w2 ∧ Y w2) (h : wpMild P md ops G G0 C C0 K0 Q (i + 1) rest a (addF fs none Y)) : wpMild P md ops G G0 C C0 K0 Q i (o :: rest) a fs := by
  unfold wpMild
  simp only [hw, if_true]
  refine ⟨fun _ => Y, fun _ => hY, fun w hcw _ hh => ?_, fun _ h => (by rw [hst] at h; cases h), fun v _ => ?_⟩
  · obtain ⟨w2, hr, h1, h2⟩ := hrun w hcw hh
    rw [hr, rel_of hst]; exact ⟨h1, h2⟩
  · rw [hd]; exact h
/-- An early operation that makes something new, of which something is known. -/
theorem step_new {Q : Act → World → Prop} {i : Nat} {o : Oper} {rest : List Oper} {a : Act} {fs : Option Tmp → World → Prop} (hw : Region.wanted o (yielded ops a.tmps) = true) (hd : o.dst.isSome = true) (he : ea md ops i = true) (hsn : st ops i = false) (Y : Value → World → Prop) (hY : ∀ v, Stab G (Y v))
    (hrun : ∀ w, C0 w → has fs (o.looksAt ops) w → ∃ v w2, (execOp a.eval o).run P w = .ok (.value v) w2 ∧ G0 w w2 ∧ Y v w2) (h : ∀ v, (∃ w, C w ∧ Y v w) → wpMild P md ops G G0 C C0 K0 Q (i + 1) rest (a.put o.dst v) (addF fs o.dst (Y v))) : wpMild P md ops G G0 C C0 K0 Q i (o :: rest) a fs := by
  unfold wpMild
  simp only [hw, if_true]
  refine ⟨Y, hY, fun w hcw h0 hh => ?_, fun h => (by rw [he] at h; cases h), fun v hv => h v (hv (fun e => by rw [e] at hd; simp at hd))⟩
  obtain ⟨v, w2, hr, h1, h2⟩ := hrun w (h0 he) hh
  rw [hr, rel_of_not hsn]; exact ⟨h1, h2⟩
/-- An early call, by its contract: one value. -/
theorem step_call (_F : Fit G G0 C C0 K0) {Q : Act → World → Prop} {i : Nat} {o : Oper} {rest : List Oper} {a : Act} {fs : Option Tmp → World → Prop} (hw : Region.wanted o (yielded ops a.tmps) = true) (hd : o.dst.isSome = true) (he : ea md ops i = true) (hsn : st ops i = false) (f : FuncId) (args : Array Value) (v0 : Value)
    (hrun : ∀ w, (execOp a.eval o).run P w = .ok (.enter f args) w) (hc : ∀ w, C0 w → has fs (o.looksAt ops) w → Calls P f args w (fun e w' => e = .returned v0 ∧ G0 w w')) (hk0 : ∀ w, K0 f args v0 w) (hk : ∀ v w', K0 f args v w' → v = v0)
    (h : wpMild P md ops G G0 C C0 K0 Q (i + 1) rest (a.put o.dst v0) fs) : wpMild P md ops G G0 C C0 K0 Q i (o :: rest) a fs := by
  unfold wpMild
  simp only [hw, if_true]
  refine ⟨fun v _ => v = v0, fun v w w' _ h => h, fun w hcw h0 hh => ?_, fun h => (by rw [he] at h; cases h), fun v hv => ?_⟩
  · rw [hrun w, rel_of_not hsn]
    exact ⟨rfl, (hc w (h0 he) hh).mono fun e w' ⟨h1, h2⟩ => ⟨v0, h1, h2, hk0 w'⟩, fun v w' _ hv => hk v w' hv⟩
  · obtain ⟨w, _, rfl⟩ := hv (fun e => by rw [e] at hd; simp at hd)
    exact wpMild_mono _ _ _ _ _ (fun t w _ h => h.1) h
end
end Mild3
end Go.Proofs.Ytpfoeeiacfadfaa
/-
  Plain facts on arrays of uint64: a cell read, a cell written, arrays built and compared; and a world in which some blocks turn from one content to another (for statements that draw their order).
  Conditions: each element takes one cell.
-/
namespace Go.Proofs.Ytpfoeeiacfadfaa
open Go.RowKit

section
variable {P : Program} {A E : TypeId} {N : Nat} {z : Value}

/-- *p, a cell -/
theorem run_get {F : TypeId} {k : IntKind} (hF : P.underlying F = some (.int k)) {T : TypeId} (w : World) (g i : Nat) (cs : List Value) (v : Value) (hr : Arr T w g cs) (hv : cs[i]? = some v) :
    (Instr.loadAt F (.pointer (some ⟨g, i, none⟩))).run P w = .ok v w := by
  obtain ⟨hi, rfl⟩ := List.getElem?_eq_some_iff.1 hv
  simp [Instr.loadAt, Instr.sureAddr, loadVar, isAgg, run_underlying hF, hr.cell hi]

theorem wpList_get {F : TypeId} {k : IntKind} (hF : P.underlying F = some (.int k)) {w : World} {ops : Array Oper} {rest : List Oper} {o : Oper} {a : Act} {Q : Exit → Act → World → Prop} (hgd : o.guard = none) (x : Operand) (ho : o.op = .load F x)
    {T : TypeId} (g i : Nat) (cs : List Value) (v : Value) (hr : Arr T w g cs) (hv : cs[i]? = some v) (hx : a.eval x = .pointer (some ⟨g, i, none⟩))
    (h : wpList P ops Q rest (a.put o.dst v) w) : wpList P ops Q (o :: rest) a w := by
  refine wpList_plain hgd fun K hK => ?_
  unfold Oper.wp execOp
  simp only [ho, hx, Sem.run_bind, Sem.run_pure, Result.andThen_ok, run_get hF w g i cs v hr hv]
  exact hK _ _ h

theorem exec_get {F : TypeId} {k : IntKind} (hF : P.underlying F = some (.int k)) {ρ : Operand → Value} {o : Oper} {w : World} (x : Operand) (ho : o.op = .load F x) {T : TypeId} (g i : Nat) (cs : List Value) (v : Value) (hr : Arr T w g cs) (hv : cs[i]? = some v)
    (hx : ρ x = .pointer (some ⟨g, i, none⟩)) : (execOp ρ o).run P w = .ok (.value v) w := by
  unfold execOp
  simp only [ho, hx, Sem.run_bind, Sem.run_pure, Result.andThen_ok, run_get hF w g i cs v hr hv]

theorem exec_indexAt_arr (t : AT P A E N z) {ρ : Operand → Value} {o : Oper} {w : World} (x y : Operand) (ho : o.op = .indexAddr A x y)
    (g i : Nat) (k : IntKind) (u : Int) (hu : u = (i : Int)) (hi : i < N) (hx : ρ x = .pointer (some ⟨g, 0, none⟩)) (hy : ρ y = .int k u) :
    (execOp ρ o).run P w = .ok (.value (.pointer (some ⟨g, i, none⟩))) w := by
  subst hu
  unfold execOp
  simp only [ho, hx, hy, Sem.run_bind, Sem.run_pure, Result.andThen_ok, run_indexAt_arr t w g i k hi]

/-- *p = y, whole -/
theorem exec_store_arr (t : AT P A E N z) {ρ : Operand → Value} {o : Oper} {w : World} (x y : Operand) (ho : o.op = .store A x y)
    (g : Nat) (cs ds : List Value) (hc : cs.length = N) (hds : ds.length = N) (h1 : ∀ v ∈ ds, v.oneCell' = true) (hx : ρ x = .pointer (some ⟨g, 0, none⟩)) (hy : ρ y = .agg ds.toArray) (hr : Arr A w g cs) :
    (execOp ρ o).run P w = .ok .skip (w.setRow g ds.toArray) ∧ Arr A (w.setRow g ds.toArray) g ds := by
  obtain ⟨i, hi, hz, hs⟩ := t.parts
  have hst := run_storeCells_at P g 0 A ds 0 cs.toArray w hr (by simp [hc, hds]) h1
  have e : (cs.toArray.toList.take (0 + 0) ++ ds ++ cs.toArray.toList.drop (0 + 0 + ds.length)) = ds := by simp [hc, hds]
  rw [e] at hst
  refine ⟨?_, setRow_heap w g _ _ A _ hr⟩
  unfold execOp
  simp only [ho, hx, hy, Instr.storeAt, Instr.sureAddr, storeVar, sizeOf, typeInfo, hi, hs, Value.cells, Sem.run_bind, Sem.run_pure, Result.andThen_ok, run_program, List.size_toArray, hds, ne_eq, not_true_eq_false, if_false, hst]

/-- p[i] = y -/
theorem exec_store_cell {ρ : Operand → Value} {o : Oper} {w : World} (F : TypeId) (x y : Operand) (ho : o.op = .store F x y) (hF : (P.info? F).map (·.size) = some 1)
    (g i : Nat) (cs : List Value) (u : Value) (hi : i < cs.length) (h1 : u.oneCell' = true) (hx : ρ x = .pointer (some ⟨g, i, none⟩)) (hy : ρ y = u) (T : TypeId) (hr : Arr T w g cs) :
    (execOp ρ o).run P w = .ok .skip (w.setRow g (cs.set i u).toArray) ∧ Arr T (w.setRow g (cs.set i u).toArray) g (cs.set i u) := by
  obtain ⟨j, hj, hs⟩ := Option.map_eq_some_iff.1 hF
  have hst := run_storeCells_at P g i T [u] 0 cs.toArray w hr (by simp; omega) (by simpa using h1)
  have e : (cs.toArray.toList.take (i + 0) ++ [u] ++ cs.toArray.toList.drop (i + 0 + [u].length)) = cs.set i u := by
    rw [List.set_eq_take_append_cons_drop]; simp [hi]
  rw [e] at hst
  have hu : u.cells = #[u] := by cases u <;> first | rfl | (simp [Value.oneCell'] at h1)
  refine ⟨?_, setRow_heap w g _ _ T _ hr⟩
  unfold execOp
  simp only [ho, hx, hy, Instr.storeAt, Instr.sureAddr, storeVar, sizeOf, typeInfo, hj, hs, hu, Sem.run_bind, Sem.run_pure, Result.andThen_ok, run_program, List.size_toArray, List.length_cons, List.length_nil, Nat.zero_add, ne_eq, not_true_eq_false, if_false, hst]

/-- A{x} -/
theorem run_build4 (t : AT P A E 4 z) (w : World) (x0 x1 x2 x3 : Int) :
    (Instr.build A #[(0, .int .u64 x0), (1, .int .u64 x1), (2, .int .u64 x2), (3, .int .u64 x3)]).run P w = .ok (.agg #[.int .u64 x0, .int .u64 x1, .int .u64 x2, .int .u64 x3]) w := by
  obtain ⟨i, hi, hz, hs⟩ := t.parts
  obtain ⟨j, hj, hs'⟩ := t.elem
  simp [Instr.build, zeroValue, typeInfo, hi, hz, run_underlying t.ar, sizeOf, hj, hs', Instr.fill, Value.cells, List.replicate]
theorem run_build1 (t : AT P A E 4 z) (w : World) (x0 : Int) :
    (Instr.build A #[(0, .int .u64 x0)]).run P w = .ok (.agg #[.int .u64 x0, z, z, z]) w := by
  obtain ⟨i, hi, hz, hs⟩ := t.parts
  obtain ⟨j, hj, hs'⟩ := t.elem
  simp [Instr.build, zeroValue, typeInfo, hi, hz, run_underlying t.ar, sizeOf, hj, hs', Instr.fill, Value.cells, List.replicate]

theorem wpList_build4 (t : AT P A E 4 z) {w : World} {ops : Array Oper} {rest : List Oper} {o : Oper} {a : Act} {Q : Exit → Act → World → Prop} (hgd : o.guard = none) (y0 y1 y2 y3 : Operand) (ho : o.op = .build A #[(0, y0), (1, y1), (2, y2), (3, y3)])
    (l : List Nat) (n0 n1 n2 n3 : Nat) (hl : l = [n0, n1, n2, n3]) (h0 : a.eval y0 = .int .u64 n0) (h1 : a.eval y1 = .int .u64 n1) (h2 : a.eval y2 = .int .u64 n2) (h3 : a.eval y3 = .int .u64 n3)
    (h : wpList P ops Q rest (a.put o.dst (.agg (c64 l).toArray)) w) : wpList P ops Q (o :: rest) a w := by
  subst hl
  refine wpList_plain hgd fun K hK => ?_
  unfold Oper.wp execOp
  simp only [ho, List.map_toArray, List.map_cons, List.map_nil, h0, h1, h2, h3, Sem.run_bind, Sem.run_pure, Result.andThen_ok, run_build4 t w]
  exact hK _ _ h
theorem wpList_build1 (t : AT P A E 4 (.int .u64 0)) {w : World} {ops : Array Oper} {rest : List Oper} {o : Oper} {a : Act} {Q : Exit → Act → World → Prop} (hgd : o.guard = none) (y0 : Operand) (ho : o.op = .build A #[(0, y0)])
    (l : List Nat) (n0 : Nat) (hl : l = [n0, 0, 0, 0]) (h0 : a.eval y0 = .int .u64 n0)
    (h : wpList P ops Q rest (a.put o.dst (.agg (c64 l).toArray)) w) : wpList P ops Q (o :: rest) a w := by
  subst hl
  refine wpList_plain hgd fun K hK => ?_
  unfold Oper.wp execOp
  simp only [ho, List.map_toArray, List.map_cons, List.map_nil, h0, Sem.run_bind, Sem.run_pure, Result.andThen_ok, run_build1 t w]
  exact hK _ _ h
/-- x == y -/
theorem c64_ints (l : List Nat) : c64 l = (l.map (fun n : Nat => (n : Int))).map (Value.int .u64) := by simp [c64]
theorem map_cast_inj (l m : List Nat) : (l.map (fun n : Nat => (n : Int)) = m.map (fun n : Nat => (n : Int))) ↔ l = m :=
  ⟨fun h => List.map_inj_right (fun _ _ h => Int.ofNat_inj.1 h) |>.1 h, fun h => h ▸ rfl⟩
theorem run_equal_c64 (t : AT P A E N z) (hu : P.underlying E = some (.int .u64)) (w : World) (l m : List Nat) (hl : l.length = N) (hm : m.length = N) :
    (Op.equalIn 10000 A (.agg (c64 l).toArray) (.agg (c64 m).toArray)).run P w = .ok (decide (l = m)) w := by
  rw [c64_ints, c64_ints, run_equal_ints t w 9998 .u64 hu _ _ (by simpa using hl) (by simpa using hm)]
  simp only [map_cast_inj]
theorem exec_eql_c64 (t : AT P A E N z) (hu : P.underlying E = some (.int .u64)) (hm : P.eqGuardType P.depth A = false) {ρ : Operand → Value} {o : Oper} {w : World} (x y : Operand) (T : TypeId) (ho : o.op = .binOp .eql A x y T) (l m : List Nat) (hl : l.length = N) (hml : m.length = N)
    (hx : ρ x = .agg (c64 l).toArray) (hy : ρ y = .agg (c64 m).toArray) :
    (execOp ρ o).run P w = .ok (.value (.bool (decide (l = m)))) w := by
  unfold execOp
  simp only [ho, hx, hy, Sem.run_bind, Sem.run_pure, Result.andThen_ok, run_eqGuard_agg w _ A x y _ _ hm, run_eql_struct, run_equal_c64 t hu w l m hl hml]
theorem wpList_eql_c64 (t : AT P A E N z) (hu : P.underlying E = some (.int .u64)) (hm : P.eqGuardType P.depth A = false) {w : World} {ops : Array Oper} {rest : List Oper} {o : Oper} {a : Act} {Q : Exit → Act → World → Prop} (hgd : o.guard = none) (x y : Operand) (T : TypeId) (ho : o.op = .binOp .eql A x y T)
    (l m : List Nat) (b : Bool) (hl : l.length = N) (hml : m.length = N) (hb : decide (l = m) = b) (hx : a.eval x = .agg (c64 l).toArray) (hy : a.eval y = .agg (c64 m).toArray)
    (h : wpList P ops Q rest (a.put o.dst (.bool b)) w) : wpList P ops Q (o :: rest) a w := by
  subst hb
  refine wpList_plain hgd fun K hK => ?_
  unfold Oper.wp
  simp only [exec_eql_c64 t hu hm x y T ho l m hl hml hx hy]
  exact hK _ _ h

/-- Two arrays are told. -/
theorem results_arr_arr (t : AT P A E N z) {fn : Func} {p q : Tmp} (h : fn.results = #[.cell p A, .cell q A]) (tmps : Array Value) (w : World) (g k : Nat) (cs ds : List Value) (hc : cs.length = N) (hd : ds.length = N)
    (hp : tmps.getD p undef = .pointer (some ⟨g, 0, none⟩)) (hq : tmps.getD q undef = .pointer (some ⟨k, 0, none⟩)) (hr : Arr A w g cs) (hs : Arr A w k ds) :
    (results fn tmps).run P w = .ok (.tuple #[.agg cs.toArray, .agg ds.toArray]) w := by
  obtain ⟨i, hi, hz, hsz⟩ := t.parts
  have h1 := run_loadVar_row (P := P) w g A A cs.toArray (0, 0) _ hr t.ar rfl (by simp [hi, hsz, hc])
  have h2 := run_loadVar_row (P := P) w k A A ds.toArray (0, 0) _ hs t.ar rfl (by simp [hi, hsz, hd])
  rw [Array.getD_eq_getD_getElem?] at hp hq
  simp [results, h, hp, hq, asAddr, h1, h2]
end

/-! ### Worlds in which some blocks turn, from one content to another. -/

/-- The world grows; what was there stays, but blocks may turn as V says. -/
structure Vw (T : TypeId) (V : Nat → List Value → List Value → Prop) (w w' : World) : Prop where
  os : w'.os = w.os
  tape : w'.tape = w.tape
  output : w'.output = w.output
  size : w.heap.size ≤ w'.heap.size
  block : ∀ k, k < w.heap.size → w'.heap[k]? = w.heap[k]? ∨ ∃ cs ds, V k cs ds ∧ Arr T w k cs ∧ Arr T w' k ds

section
variable {T : TypeId} {V : Nat → List Value → List Value → Prop}
theorem Vw.of_gr {w w' : World} (h : Gr w w') : Vw T V w w' := ⟨h.os, h.tape, h.output, h.size, fun k hk => .inl (h.block k hk)⟩
theorem Vw.refl (w : World) : Vw T V w w := .of_gr (Gr.refl w)
theorem Arr.inj {T : TypeId} {w : World} {g : Nat} {cs ds : List Value} (h : Arr T w g cs) (k : Arr T w g ds) : cs = ds := by
  have := h.symm.trans k
  simpa using this
theorem Vw.trans (ht : ∀ k a b c, V k a b → V k b c → V k a c) {a b c : World} (h : Vw T V a b) (k : Vw T V b c) : Vw T V a c := by
  refine ⟨k.os.trans h.os, k.tape.trans h.tape, k.output.trans h.output, Nat.le_trans h.size k.size, fun i hi => ?_⟩
  rcases h.block i hi with e | ⟨cs, ds, hv, h1, h2⟩ <;> rcases k.block i (Nat.lt_of_lt_of_le hi h.size) with e' | ⟨cs', ds', hv', h1', h2'⟩
  · exact .inl (e'.trans e)
  · exact .inr ⟨cs', ds', hv', e.symm.trans h1', h2'⟩
  · exact .inr ⟨cs, ds, hv, h1, e'.trans h2⟩
  · obtain rfl := h2.inj h1'
    exact .inr ⟨cs, ds', ht _ _ _ _ hv hv', h1, h2'⟩
theorem Vw.keep {w w' : World} (h : Vw T V w w') {S : TypeId} {k : Nat} {cs : List Value} (hr : Arr S w k cs) (hn : ∀ cs ds, ¬ V k cs ds) : Arr S w' k cs := by
  rcases h.block k hr.lt with e | ⟨_, _, hv, _⟩
  · unfold Arr; rw [e]; exact hr
  · exact absurd hv (hn _ _)
theorem Vw.turn {w w' : World} (h : Vw T V w w') {k : Nat} {cs : List Value} (hr : Arr T w k cs) : Arr T w' k cs ∨ ∃ ds, V k cs ds ∧ Arr T w' k ds := by
  rcases h.block k hr.lt with e | ⟨cs', ds, hv, h1, h2⟩
  · refine .inl ?_; unfold Arr; rw [e]; exact hr
  · obtain rfl := hr.inj h1
    exact .inr ⟨ds, hv, h2⟩
theorem Vw.below {B : Nat} {w w' : World} (h : Vw T V w w') (hV : ∀ k cs ds, V k cs ds → B ≤ k) (hB : B ≤ w.heap.size) : Below B w w' :=
  ⟨h.os, h.tape, h.output, h.size, fun k hk => by
    rcases h.block k (by omega) with e | ⟨_, _, hv, _⟩
    · exact e
    · have := hV _ _ _ hv; omega⟩
theorem Vw.row {w : World} {g : Nat} {cs ds : List Value} (hr : Arr T w g cs) (hd : Arr T (w.setRow g ds.toArray) g ds) (hv : V g cs ds) : Vw T V w (w.setRow g ds.toArray) := by
  have b := But.row g w ds.toArray
  refine ⟨b.os, b.tape, b.output, Nat.le_of_eq b.size.symm, fun k hk => ?_⟩
  by_cases h : k = g
  · subst h; exact .inr ⟨cs, ds, hv, hr, hd⟩
  · exact .inl (b.block k h)
theorem Vw.row_same {w : World} {g : Nat} {ds : List Value} (hr : Arr T w g ds) (hd : Arr T (w.setRow g ds.toArray) g ds) : Vw T V w (w.setRow g ds.toArray) := by
  have b := But.row g w ds.toArray
  refine ⟨b.os, b.tape, b.output, Nat.le_of_eq b.size.symm, fun k hk => ?_⟩
  by_cases h : k = g
  · subst h; exact .inl (hd.trans hr.symm)
  · exact .inl (b.block k h)
end

namespace Mild2
section
variable {P : Program} {ops : Array Oper} {G : World → World → Prop} {C : World → Prop} {K0 : FuncId → Array Value → Value → World → Prop}
/-- An operation that yields nothing, and of which something is noted. -/
theorem step_note {Q : Act → World → Prop} {o : Oper} {rest : List Oper} {a : Act} {fs : Option Tmp → World → Prop} (hw : Region.wanted o (yielded ops a.tmps) = true) (hd : o.dst = none) (Y : World → Prop) (hY : Stab G Y)
    (hrun : ∀ w, C w → has fs (o.looksAt ops) w → ∃ w2, (execOp a.eval o).run P w = .ok .skip w2 ∧ G w w2 ∧ Y w2) (h : wpMild P ops G C K0 Q rest a (addF fs none Y)) : wpMild P ops G C K0 Q (o :: rest) a fs := by
  unfold wpMild
  simp only [hw, if_true]
  refine ⟨fun _ => Y, fun _ => hY, fun w hcw hh => ?_, fun v _ => ?_⟩
  · obtain ⟨w2, hr, h1, h2⟩ := hrun w hcw hh
    rw [hr]; exact ⟨h1, h2⟩
  · rw [hd]; exact h
/-- An operation that makes something new, of which something is known. -/
theorem step_new {Q : Act → World → Prop} {o : Oper} {rest : List Oper} {a : Act} {fs : Option Tmp → World → Prop} (hw : Region.wanted o (yielded ops a.tmps) = true) (hd : o.dst.isSome = true) (Y : Value → World → Prop) (hY : ∀ v, Stab G (Y v))
    (hrun : ∀ w, C w → has fs (o.looksAt ops) w → ∃ v w2, (execOp a.eval o).run P w = .ok (.value v) w2 ∧ G w w2 ∧ Y v w2) (h : ∀ v, (∃ w, C w ∧ Y v w) → wpMild P ops G C K0 Q rest (a.put o.dst v) (addF fs o.dst (Y v))) : wpMild P ops G C K0 Q (o :: rest) a fs := by
  unfold wpMild
  simp only [hw, if_true]
  refine ⟨Y, hY, fun w hcw hh => ?_, fun v hv => h v (hv (fun e => by rw [e] at hd; simp at hd))⟩
  obtain ⟨v, w2, hr, h1, h2⟩ := hrun w hcw hh
  rw [hr]; exact ⟨h1, h2⟩
end
end Mild2

end Go.Proofs.Ytpfoeeiacfadfaa
/-
  More on worlds in which some blocks turn: two blocks; a block that is made on the way.
-/
namespace Go.Proofs.Ytpfoeeiacfadfaa
open Go.RowKit

section
variable {P : Program} {A E : TypeId} {N : Nat} {z : Value} {V : Nat → List Value → List Value → Prop}

theorem V_fit (T : TypeId) (V : Nat → List Value → List Value → Prop) (ht : ∀ k a b c, V k a b → V k b c → V k a c) (w0 : World) (K0 : FuncId → Array Value → Value → World → Prop) (hK : ∀ f args v w w', K0 f args v w → K0 f args v w') : Mild2.Fit (Vw T V) (Vw T V w0) K0 where
  refl := Vw.refl
  trans := fun _ _ _ => Vw.trans ht
  inC := fun _ _ => Vw.trans ht
  keep := fun _ _ _ _ _ h _ => hK _ _ _ _ _ h

/-- A block is written whole. -/
theorem store_arrV (t : AT P A E N z) {g : Nat} {o n : List Value} {w : World} (hV : V g o n) (h0 : Arr A w g o ∨ Arr A w g n) (ho' : o.length = N) (hn : n.length = N) (h1 : ∀ v ∈ n, v.oneCell' = true) {ρ : Operand → Value} {op : Oper} (x y : Operand) (ho : op.op = .store A x y)
    (hx : ρ x = .pointer (some ⟨g, 0, none⟩)) (hy : ρ y = .agg n.toArray) : ∃ w2, (execOp ρ op).run P w = .ok .skip w2 ∧ Vw A V w w2 ∧ Arr A w2 g n := by
  rcases h0 with hr | hr
  · have h := exec_store_arr t x y ho g o n ho' hn h1 hx hy hr
    exact ⟨_, h.1, Vw.row hr h.2 hV, h.2⟩
  · have h := exec_store_arr t x y ho g n n hn hn h1 hx hy hr
    exact ⟨_, h.1, Vw.row_same hr h.2, h.2⟩
theorem store_cellV {T : TypeId} {g i : Nat} {o n : List Value} {w : World} (hV : V g o n) (h0 : Arr T w g o ∨ Arr T w g n) (u : Value) (hn : n = o.set i u) (hi : i < o.length) (h1 : u.oneCell' = true) {ρ : Operand → Value} {op : Oper} (F : TypeId) (x y : Operand) (ho : op.op = .store F x y) (hF : (P.info? F).map (·.size) = some 1)
    (hx : ρ x = .pointer (some ⟨g, i, none⟩)) (hy : ρ y = u) : ∃ w2, (execOp ρ op).run P w = .ok .skip w2 ∧ Vw T V w w2 ∧ Arr T w2 g n := by
  rcases h0 with hr | hr
  · have h := exec_store_cell F x y ho hF g i o u hi h1 hx hy T hr
    rw [← hn] at h
    exact ⟨_, h.1, Vw.row hr h.2 hV, h.2⟩
  · have h := exec_store_cell F x y ho hF g i n u (by rw [hn]; simpa using hi) h1 hx hy T hr
    have e : n.set i u = n := by rw [hn]; simp
    rw [e] at h
    exact ⟨_, h.1, Vw.row_same hr h.2, h.2⟩
end

/-- Two blocks turn. -/
def V2 (g : Nat) (o n : List Value) (g' : Nat) (o' n' : List Value) : Nat → List Value → List Value → Prop := fun k cs ds => (k = g ∧ cs = o ∧ ds = n) ∨ (k = g' ∧ cs = o' ∧ ds = n')
theorem V2_trans {g : Nat} {o n : List Value} {g' : Nat} {o' n' : List Value} (hg : g ≠ g') : ∀ k a b c, V2 g o n g' o' n' k a b → V2 g o n g' o' n' k b c → V2 g o n g' o' n' k a c := by
  rintro k a b c (⟨rfl, rfl, rfl⟩ | ⟨rfl, rfl, rfl⟩) (⟨h1, h2, h3⟩ | ⟨h1, h2, h3⟩)
  · exact .inl ⟨rfl, rfl, h3⟩
  · exact absurd h1 hg
  · exact absurd h1.symm hg
  · exact .inr ⟨rfl, rfl, h3⟩
section
variable {T : TypeId} {g g' : Nat} {o n o' n' : List Value} {w w' : World}
theorem Vw.keep2 {S : TypeId} {k : Nat} {cs : List Value} (h : Vw T (V2 g o n g' o' n') w w') (hr : Arr S w k cs) (hk : k ≠ g) (hk' : k ≠ g') : Arr S w' k cs := h.keep hr (fun _ _ hv => by rcases hv with hv | hv; exact hk hv.1; exact hk' hv.1)
theorem Vw.turn2a (hg : g ≠ g') (h : Vw T (V2 g o n g' o' n') w w') (hr : Arr T w g o) : Arr T w' g o ∨ Arr T w' g n := by
  rcases h.turn hr with h1 | ⟨ds, hv, h1⟩
  · exact .inl h1
  · rcases hv with ⟨_, _, rfl⟩ | ⟨e, _⟩
    · exact .inr h1
    · exact absurd e hg
theorem Vw.turn2b (hg : g ≠ g') (h : Vw T (V2 g o n g' o' n') w w') (hr : Arr T w g' o') : Arr T w' g' o' ∨ Arr T w' g' n' := by
  rcases h.turn hr with h1 | ⟨ds, hv, h1⟩
  · exact .inl h1
  · rcases hv with ⟨e, _⟩ | ⟨_, _, rfl⟩
    · exact absurd e.symm hg
    · exact .inr h1
theorem Vw.new2a (hg : g ≠ g') : Mild2.Stab (Vw T (V2 g o n g' o' n')) (fun w => Arr T w g n) := by
  intro w w' h hr
  rcases h.turn hr with h1 | ⟨ds, hv, h1⟩
  · exact h1
  · rcases hv with ⟨_, _, rfl⟩ | ⟨e, _⟩
    · exact h1
    · exact absurd e hg
theorem Vw.new2b (hg : g ≠ g') : Mild2.Stab (Vw T (V2 g o n g' o' n')) (fun w => Arr T w g' n') := by
  intro w w' h hr
  rcases h.turn hr with h1 | ⟨ds, hv, h1⟩
  · exact h1
  · rcases hv with ⟨e, _⟩ | ⟨_, _, rfl⟩
    · exact absurd e.symm hg
    · exact h1
end

/-- New blocks turn from their first content to one other. -/
def VN (B : Nat) (o n : List Value) : Nat → List Value → List Value → Prop := fun k cs ds => B ≤ k ∧ cs = o ∧ ds = n
theorem VN_trans {B : Nat} {o n : List Value} : ∀ k a b c, VN B o n k a b → VN B o n k b c → VN B o n k a c := by
  rintro k a b c ⟨h, rfl, rfl⟩ ⟨_, _, rfl⟩; exact ⟨h, rfl, rfl⟩
/-- A pointer to a new block, of the one content or the other. -/
def NewB (T : TypeId) (B : Nat) (o n : List Value) (v : Value) (w : World) : Prop := ∃ g, v = .pointer (some ⟨g, 0, none⟩) ∧ B ≤ g ∧ (Arr T w g o ∨ Arr T w g n)
section
variable {T : TypeId} {B : Nat} {o n : List Value} {w w' : World}
theorem Vw.keepN {S : TypeId} {k : Nat} {cs : List Value} (h : Vw T (VN B o n) w w') (hr : Arr S w k cs) (hk : k < B) : Arr S w' k cs := h.keep hr (fun _ _ hv => by have := hv.1; omega)
end

theorem wpList_index_c64 {P : Program} {A E : TypeId} {N : Nat} {z : Value} (t : AT P A E N z) {w : World} {ops : Array Oper} {rest : List Oper} {o : Oper} {a : Act} {Q : Exit → Act → World → Prop} (hgd : o.guard = none) (x y : Operand) (ho : o.op = .index A x y)
    (cs : List Value) (i : Nat) (k : IntKind) (v : Value) (hc : cs.length = N) (hv : cs[i]? = some v) (hx : a.eval x = .agg cs.toArray) (u : Int) (hu : u = (i : Int)) (hy : a.eval y = .int k u)
    (h : wpList P ops Q rest (a.put o.dst v) w) : wpList P ops Q (o :: rest) a w := by
  subst hu
  obtain ⟨hi, rfl⟩ := List.getElem?_eq_some_iff.1 hv
  exact wpList_index_arr t hgd x y ho cs i k hc (by omega) hx hy h
end Go.Proofs.Ytpfoeeiacfadfaa
/-
  Plain facts on single operations over words: shifts by a number of bits, differences, or; each told as the value that it yields.
-/
namespace Go.Proofs.Ytpfoeeiacfadfaa
open Go.RowKit
section
variable {P : Program}
/-- An operation whose value is known. -/
theorem wpList_val {w : World} {ops : Array Oper} {rest : List Oper} {o : Oper} {a : Act} {Q : Exit → Act → World → Prop} (hgd : o.guard = none) (v : Value) (h : (execOp a.eval o).run P w = .ok (.value v) w)
    (hr : wpList P ops Q rest (a.put o.dst v) w) : wpList P ops Q (o :: rest) a w := by
  refine wpList_plain hgd fun K hK => ?_
  unfold Oper.wp
  rw [h]
  exact hK _ _ hr

theorem run_eqGuard_no (op : BinOp) (h : op ≠ .eql ∧ op ≠ .neq) (t : TypeId) (x y : Operand) (a b : Value) (w : World) : (eqGuard op t x y a b).run P w = .ok () w := by
  cases op <;> simp_all [eqGuard]

theorem exec_shl {ρ : Operand → Value} {o : Oper} {w : World} (x y : Operand) (T U : TypeId) (ho : o.op = .binOp .shl T x y U) (X c : Nat) (k : IntKind) (u : Int) (hu : u = (c : Int)) (hc : c ≤ 64) (hx : ρ x = .int .u64 (X : Int)) (hy : ρ y = .int k u) :
    (execOp ρ o).run P w = .ok (.value (.int .u64 ((X * 2 ^ c % 18446744073709551616 : Nat) : Int))) w := by
  subst hu
  unfold execOp
  simp only [ho, hx, hy, Sem.run_bind, run_eqGuard_no .shl (by decide), Result.andThen_ok, binOp, Op.shift]
  have h1 : ¬ ((c : Int) < 0) := by omega
  have h2 : min (c : Int).toNat IntKind.u64.bits = c := by
    have : IntKind.u64.bits = 64 := rfl
    rw [this]; omega
  rw [if_neg h1, h2]
  simp only [Sem.run_pure, Result.andThen_ok, IntKind.wrap_u64]
  congr 3
theorem exec_shr {ρ : Operand → Value} {o : Oper} {w : World} (x y : Operand) (T U : TypeId) (ho : o.op = .binOp .shr T x y U) (X c : Nat) (k : IntKind) (u : Int) (hu : u = (c : Int)) (hc : c ≤ 64) (hx : ρ x = .int .u64 (X : Int)) (hy : ρ y = .int k u) :
    (execOp ρ o).run P w = .ok (.value (.int .u64 ((X / 2 ^ c : Nat) : Int))) w := by
  subst hu
  unfold execOp
  simp only [ho, hx, hy, Sem.run_bind, run_eqGuard_no .shr (by decide), Result.andThen_ok, binOp, Op.shift]
  have h1 : ¬ ((c : Int) < 0) := by omega
  have h2 : min (c : Int).toNat IntKind.u64.bits = c := by
    have : IntKind.u64.bits = 64 := rfl
    rw [this]; omega
  rw [if_neg h1, h2]
  simp only [Sem.run_pure, Result.andThen_ok]
  congr 3
  have e : ((2 : Int) ^ c) = ((2 ^ c : Nat) : Int) := by simp [Int.natCast_pow]
  rw [e, Int.fdiv_eq_ediv_of_nonneg _ (Int.natCast_nonneg _)]
  rfl
theorem exec_subI {ρ : Operand → Value} {o : Oper} {w : World} (x y : Operand) (T U : TypeId) (ho : o.op = .binOp .sub T x y U) (X Y Z : Int) (hZ : X - Y = Z) (h1 : -9223372036854775808 ≤ Z) (h2 : Z < 9223372036854775808) (hx : ρ x = .int .i64 X) (hy : ρ y = .int .i64 Y) :
    (execOp ρ o).run P w = .ok (.value (.int .i64 Z)) w := by
  subst hZ
  unfold execOp
  simp only [ho, hx, hy, Sem.run_bind, run_eqGuard_no .sub (by decide), Result.andThen_ok, binOp, Op.intArith, ne_eq, not_true_eq_false, if_false, Sem.run_pure]
  congr 3
  unfold IntKind.wrap
  have e1 : IntKind.i64.bits = 64 := rfl
  have e2 : IntKind.i64.signed = true := rfl
  simp only [e1, e2, Bool.true_and, decide_eq_true_eq]
  split <;> omega
theorem exec_or {ρ : Operand → Value} {o : Oper} {w : World} (x y : Operand) (T U : TypeId) (ho : o.op = .binOp .or T x y U) (X Y Z : Nat) (hZ : X ||| Y = Z) (h1 : X < 18446744073709551616) (h2 : Y < 18446744073709551616) (hx : ρ x = .int .u64 (X : Int)) (hy : ρ y = .int .u64 (Y : Int)) :
    (execOp ρ o).run P w = .ok (.value (.int .u64 (Z : Int))) w := by
  subst hZ
  unfold execOp
  simp only [ho, hx, hy, Sem.run_bind, run_eqGuard_no .or (by decide), Result.andThen_ok, binOp, Op.intBits, ne_eq, not_true_eq_false, if_false, Sem.run_pure]
  congr 3
  exact bits_or_u64_nat X Y h1 h2
theorem wrap_small (x : Int) (h1 : -9223372036854775808 ≤ x) (h2 : x < 9223372036854775808) : IntKind.i64.wrap x = x := by
  unfold IntKind.wrap
  have e1 : IntKind.i64.bits = 64 := rfl
  have e2 : IntKind.i64.signed = true := rfl
  simp only [e1, e2, Bool.true_and, decide_eq_true_eq]
  split <;> omega
theorem exec_quoN {ρ : Operand → Value} {o : Oper} {w : World} (x y : Operand) (T U : TypeId) (ho : o.op = .binOp .quo T x y U) (X c Z : Nat) (hZ : X / c = Z) (hX : X < 9223372036854775808) (hc : c ≠ 0) (hx : ρ x = .int .i64 (X : Int)) (hy : ρ y = .int .i64 (c : Int)) :
    (execOp ρ o).run P w = .ok (.value (.int .i64 (Z : Int))) w := by
  subst hZ
  unfold execOp
  have h0 : ¬ ((c : Int) = 0) := by omega
  have e : (X : Int).tdiv c = ((X / c : Nat) : Int) := by rw [Int.tdiv_eq_ediv_of_nonneg (by omega)]; rfl
  have hl : X / c ≤ X := Nat.div_le_self _ _
  simp only [ho, hx, hy, Sem.run_bind, run_eqGuard_no .quo (by decide), Result.andThen_ok, binOp, Op.intDiv, ne_eq, not_true_eq_false, if_false, h0, Sem.run_pure, e]
  generalize X / c = q at hl
  rw [wrap_small _ (by omega) (by omega)]
theorem exec_remN {ρ : Operand → Value} {o : Oper} {w : World} (x y : Operand) (T U : TypeId) (ho : o.op = .binOp .rem T x y U) (X c Z : Nat) (hZ : X % c = Z) (hc : c ≠ 0) (k : IntKind) (hx : ρ x = .int k (X : Int)) (hy : ρ y = .int k (c : Int)) :
    (execOp ρ o).run P w = .ok (.value (.int k (Z : Int))) w := by
  subst hZ
  unfold execOp
  have h0 : ¬ ((c : Int) = 0) := by omega
  have e : (X : Int).tmod c = ((X % c : Nat) : Int) := by rw [Int.tmod_eq_emod_of_nonneg (by omega)]; rfl
  simp only [ho, hx, hy, Sem.run_bind, run_eqGuard_no .rem (by decide), Result.andThen_ok, binOp, Op.intDiv, ne_eq, not_true_eq_false, if_false, h0, Sem.run_pure, e]
theorem exec_max0 {ρ : Operand → Value} {o : Oper} {w : World} (x y : Operand) (ts : Array TypeId) (ho : o.op = .call { callee := .builtin .max, args := #[x, y], argTypes := ts }) (z : Int) (hx : ρ x = .int .i64 z) (hy : ρ y = .int .i64 0) :
    (execOp ρ o).run P w = .ok (.value (.int .i64 (z.toNat : Int))) w := by
  unfold execOp
  have e : (if (0 : Int) > z then 0 else z) = (z.toNat : Int) := by split <;> omega
  simp only [ho, hx, hy, resolve, invoke, builtin, Builtin.max_, Builtin.max2, Sem.run_bind, Sem.run_pure, Result.andThen_ok, List.map_toArray, List.map_cons, List.map_nil, List.foldlM_cons, List.foldlM_nil, e]
end
end Go.Proofs.Ytpfoeeiacfadfaa
/-
  Statements that draw their order and write at their end: what the walks of package wide take of it.
-/
namespace Go.Proofs.Ytpfoeeiacfadfaa
open Go.RowKit

theorem Mild3.step_quiet {P : Program} {md : Region.Mode} {ops : Array Oper} {G G0 : World → World → Prop} {C C0 : World → Prop} {K0 : FuncId → Array Value → Value → World → Prop} (F : Mild3.Fit G G0 C C0 K0) {Q : Act → World → Prop} {i : Nat} {o : Oper} {rest : List Oper} {a : Act} {fs : Option Tmp → World → Prop} (hw : Region.wanted o (yielded ops a.tmps) = true) (hp : Mild2.plainOp o.op = true) (hd : o.dst.isSome = true) (he : Mild3.ea md ops i = true) (hsn : Mild3.st ops i = false)
    (h : ∀ w0, C0 w0 → Mild3.has fs (o.looksAt ops) w0 → ∀ K : Act → Prop, (∀ a', Mild3.wpMild P md ops G G0 C C0 K0 Q (i + 1) rest a' fs → K a') → o.quiet P a (fun w' => ∃ n, w' = w0.drewN n) K) : Mild3.wpMild P md ops G G0 C C0 K0 Q i (o :: rest) a fs := by
  unfold Mild3.wpMild
  simp only [hw, if_true]
  refine ⟨fun v _ => Mild3.wpMild P md ops G G0 C C0 K0 Q (i + 1) rest (a.put o.dst v) fs, fun v w w' _ h => h, fun w hcw h0 hh => ?_, fun h => (by rw [he] at h; cases h), fun v hv => ?_⟩
  · obtain ⟨v, h1, h2⟩ := h w (h0 he) hh _ (fun _ h => h)
    have h3 := h1 w ⟨0, rfl⟩
    rw [Mild3.rel_of_not hsn]
    unfold Oper.quietAt at h3
    generalize hr : (execOp a.eval o).run P w = r at h3
    cases r with
    | ok n w2 =>
      cases n <;> simp only [Oper.quietUpon] at h3 <;> simp only [Mild3.mildUpon]
      case value u => obtain ⟨rfl, rfl⟩ := h3; exact ⟨F.refl0 _, h2⟩
      case skip => obtain ⟨rfl, rfl⟩ := h3; exact ⟨F.refl0 _, h2⟩
      case enter f args => exact absurd hr (Mild2.plain_no_enter hp)
    | halt x w2 => simp only [Oper.quietUpon] at h3
  · obtain ⟨w, _, h1⟩ := hv (fun e => by rw [e] at hd; simp at hd)
    exact Mild3.wpMild_mono _ _ _ _ _ (fun t w _ h => h.1) h1

theorem W_fit (T : TypeId) (V : Nat → List Value → List Value → Prop) (ht : ∀ k a b c, V k a b → V k b c → V k a c) (w0 : World) (K0 : FuncId → Array Value → Value → World → Prop) (hK : ∀ f args v w w', K0 f args v w → K0 f args v w') : Mild3.Fit (Vw T V) Gr (Vw T V w0) (Gr w0) K0 where
  refl := Vw.refl
  trans := fun _ _ _ => Vw.trans ht
  inC := fun _ _ => Vw.trans ht
  keep := fun _ _ _ _ _ h _ => hK _ _ _ _ _ h
  refl0 := Gr.refl
  sub := fun _ _ => Vw.of_gr
  in0 := fun _ _ => Gr.trans
  c0 := fun _ => Vw.of_gr

theorem exec_move {P : Program} {ρ : Operand → Value} {o : Oper} {w : World} (x : Operand) (ho : o.op = .move x ∨ o.op = .assign x) (v : Value) (hx : ρ x = v) : (execOp ρ o).run P w = .ok (.value v) w := by
  subst hx; unfold execOp; rcases ho with ho | ho <;> simp only [ho, Sem.run_pure]
theorem exec_extract {P : Program} {ρ : Operand → Value} {o : Oper} {w : World} (x : Operand) (n : Nat) (ho : o.op = .extract x n) (vs : List Value) (v : Value) (hx : ρ x = .tuple vs.toArray) (hv : vs[n]? = some v) : (execOp ρ o).run P w = .ok (.value v) w := by
  unfold execOp
  have h : vs.toArray[n]? = some v := by simpa using hv
  simp [ho, hx, h, Instr.extract]
theorem exec_shlZ {P : Program} {ρ : Operand → Value} {o : Oper} {w : World} (x y : Operand) (T U : TypeId) (ho : o.op = .binOp .shl T x y U) (X c Z : Nat) (hZ : X * 2 ^ c % 18446744073709551616 = Z) (k : IntKind) (u : Int) (hu : u = (c : Int)) (hc : c ≤ 64) (hx : ρ x = .int .u64 (X : Int)) (hy : ρ y = .int k u) :
    (execOp ρ o).run P w = .ok (.value (.int .u64 (Z : Int))) w := by subst hZ; exact exec_shl x y T U ho X c k u hu hc hx hy
theorem exec_shrZ {P : Program} {ρ : Operand → Value} {o : Oper} {w : World} (x y : Operand) (T U : TypeId) (ho : o.op = .binOp .shr T x y U) (X c Z : Nat) (hZ : X / 2 ^ c = Z) (k : IntKind) (u : Int) (hu : u = (c : Int)) (hc : c ≤ 64) (hx : ρ x = .int .u64 (X : Int)) (hy : ρ y = .int k u) :
    (execOp ρ o).run P w = .ok (.value (.int .u64 (Z : Int))) w := by subst hZ; exact exec_shr x y T U ho X c k u hu hc hx hy
end Go.Proofs.Ytpfoeeiacfadfaa
