/-
  A statement of a Go function whose operations may be carried out in several orders, and whose operations and callees turn nothing that was there (they may make new memory), is walked once, in the order of the text.
  Conditions: the world may only grow (a preorder G), what is known of a slot stays known as it grows.
-/
import Derived.BigQuiet
import Derived.WalkKit
namespace Go.Proofs.Ytpfoeeiacfadfaa
namespace Mild2

section
variable (P : Program) (ops : Array Oper) (G : World → World → Prop) (C : World → Prop) (K0 : FuncId → Array Value → Value → World → Prop)

/-- What the worlds, and the callees' words, keep to. -/
structure Fit : Prop where
  refl : ∀ w, G w w
  trans : ∀ a b c, G a b → G b c → G a c
  inC : ∀ w w', C w → G w w' → C w'
  keep : ∀ f args v w w', K0 f args v w → G w w' → K0 f args v w'

def addF (fs : Option Tmp → World → Prop) (d : Option Tmp) (F : World → Prop) : Option Tmp → World → Prop := fun t w => fs t w ∧ (d = t → F w)

def Stab (F : World → Prop) : Prop := ∀ w w', G w w' → F w → F w'

def has (fs : Option Tmp → World → Prop) (ts : List Tmp) (w : World) : Prop := ∀ t ∈ ts, fs (some t) w

def out (v : Value) (w : World) : Result Next → Prop
  | .ok (.value u) w2 => v = u ∧ G w2 w
  | .ok .skip w2 => v = undef ∧ G w2 w
  | .ok (.enter f args) _ => K0 f args v w
  | _ => False

def Canon (o : Oper) (a : Act) (fs : Option Tmp → World → Prop) (v : Value) (w : World) : Prop :=
  ∃ w1, C w1 ∧ has fs (o.looksAt ops) w1 ∧ out G K0 v w ((execOp a.eval o).run P w1)

def goodUpon (w : World) : Result Next → Prop
  | .ok (.value _) w2 => G w w2
  | .ok .skip w2 => G w w2
  | .ok (.enter f args) w2 => w2 = w ∧ Calls P f args w (fun e w' => ∃ v, e = .returned v ∧ G w w' ∧ K0 f args v w')
  | _ => False

def total (o : Oper) (a : Act) (fs : Option Tmp → World → Prop) : Prop :=
  ∀ w, C w → has fs (o.looksAt ops) w → goodUpon P G K0 w ((execOp a.eval o).run P w)

def Sat (fs : Option Tmp → World → Prop) : Prop := (∀ t, Stab G (fs t)) ∧ ∃ w, C w ∧ ∀ t, fs t w

def mOp (i : Nat) (K : Act → (Option Tmp → World → Prop) → Prop) (a : Act) (fs : Option Tmp → World → Prop) : Prop :=
  match ops[i]? with
  | none => K a fs
  | some o => if Region.wanted o (yielded ops a.tmps) then total P ops G C K0 o a fs ∧ ∀ v, K (a.put o.dst v) (addF fs o.dst (Canon P ops G C K0 o a fs v)) else K (a.put o.dst undef) fs

def wpAnyM (md : Region.Mode) (Q : Act → (Option Tmp → World → Prop) → Prop) : Nat → Array Bool → Act → (Option Tmp → World → Prop) → Prop
  | 0, listed, a, fs => Sat G C fs → Region.ready md ops listed = [] ∧ Q a fs
  | fuel + 1, listed, a, fs => Sat G C fs →
    (Region.ready md ops listed = [] → Q a fs) ∧
    ∀ i ∈ Region.ready md ops listed, mOp P ops G C K0 i (wpAnyM md Q fuel (listed.setIfInBounds i true)) a fs
end

section
variable {P : Program} {ops : Array Oper} {G : World → World → Prop} {C : World → Prop} {K0 : FuncId → Array Value → Value → World → Prop} {md : Region.Mode}

theorem wpAnyM_intro {Q : Act → (Option Tmp → World → Prop) → Prop} {fuel : Nat} {listed : Array Bool} {a : Act} {fs : Option Tmp → World → Prop}
    (h : Sat G C fs → wpAnyM P ops G C K0 md Q fuel listed a fs) : wpAnyM P ops G C K0 md Q fuel listed a fs := by
  cases fuel with
  | zero => exact fun hs => (h hs) hs
  | succ fuel => exact fun hs => (h hs) hs

theorem out_stab (F : Fit G C K0) {v : Value} {r : Result Next} : Stab G (fun w => out G K0 v w r) := by
  intro w w' hg h
  cases r with
  | ok n w2 =>
    cases n <;> simp only [out] at h ⊢
    case value u => exact ⟨h.1, F.trans _ _ _ h.2 hg⟩
    case skip => exact ⟨h.1, F.trans _ _ _ h.2 hg⟩
    case enter f args => exact F.keep _ _ _ _ _ h hg
  | halt x w2 => simp only [out] at h

theorem canon_stab (F : Fit G C K0) {o : Oper} {a : Act} {fs : Option Tmp → World → Prop} {v : Value} : Stab G (Canon P ops G C K0 o a fs v) := by
  intro w w' hg ⟨w1, h1, h2, h3⟩
  exact ⟨w1, h1, h2, out_stab F w w' hg h3⟩

theorem addF_stab {fs : Option Tmp → World → Prop} {d : Option Tmp} {X : World → Prop} (h : ∀ t, Stab G (fs t)) (hX : Stab G X) : ∀ t, Stab G (addF fs d X t) :=
  fun t w w' hg ⟨h1, h2⟩ => ⟨h t w w' hg h1, fun e => hX w w' hg (h2 e)⟩

theorem sat_of_add {fs : Option Tmp → World → Prop} {d : Option Tmp} {X : World → Prop} (hst : ∀ t, Stab G (fs t)) (h : Sat G C (addF fs d X)) : Sat G C fs :=
  ⟨hst, let ⟨w, hw, hf⟩ := h.2; ⟨w, hw, fun t => (hf t).1⟩⟩

/-- An operation that goes through yields something. -/
theorem some_out (F : Fit G C K0) {o : Oper} {a : Act} {fs : Option Tmp → World → Prop} {w : World} (hw : C w) (hst : ∀ t, Stab G (fs t)) (hf : ∀ t, fs t w)
    (ht : total P ops G C K0 o a fs) : ∃ v w', C w' ∧ G w w' ∧ Canon P ops G C K0 o a fs v w' ∧ Sat G C (addF fs o.dst (Canon P ops G C K0 o a fs v)) := by
  have h := ht w hw (fun t _ => hf (some t))
  have key : ∀ v w', G w w' → out G K0 v w' ((execOp a.eval o).run P w) → ∃ v w', C w' ∧ G w w' ∧ Canon P ops G C K0 o a fs v w' ∧ Sat G C (addF fs o.dst (Canon P ops G C K0 o a fs v)) := fun v w' hg ho =>
    have hc : Canon P ops G C K0 o a fs v w' := ⟨w, hw, fun t _ => hf (some t), ho⟩
    ⟨v, w', F.inC _ _ hw hg, hg, hc, addF_stab hst (canon_stab F), w', F.inC _ _ hw hg, fun t => ⟨hst t _ _ hg (hf t), fun _ => hc⟩⟩
  generalize hr : (execOp a.eval o).run P w = r at h key
  cases r with
  | ok n w2 =>
    cases n <;> simp only [goodUpon] at h
    case value u => exact key u w2 h ⟨rfl, F.refl _⟩
    case skip => exact key undef w2 h ⟨rfl, F.refl _⟩
    case enter f args =>
      obtain ⟨_, hc⟩ := h
      obtain ⟨e, w', fr, ⟨v, _, hg, hk⟩, _⟩ := hc []
      exact key v w' hg hk
  | halt x w2 => simp only [goodUpon] at h

/-- It serves every order. -/
theorem wpAny_of (F : Fit G C K0) {Q : Act → (Option Tmp → World → Prop) → Prop} {Q' : Exit → Act → World → Prop} (hQ : ∀ a fs w, C w → (∀ t, fs t w) → Q a fs → Q' .normal a w) :
    ∀ (fuel : Nat) (listed : Array Bool) (a : Act) (fs : Option Tmp → World → Prop) (w : World), (∀ t, Stab G (fs t)) → C w → (∀ t, fs t w) →
    wpAnyM P ops G C K0 md Q fuel listed a fs → wpAny P md ops Q' fuel listed a w := by
  intro fuel
  induction fuel with
  | zero => intro listed a fs w hst hw hf h; exact ⟨(h ⟨hst, w, hw, hf⟩).1, hQ _ _ _ hw hf (h ⟨hst, w, hw, hf⟩).2⟩
  | succ fuel ih =>
    intro listed a fs w hst hw hf h
    obtain ⟨h0, h1⟩ := h ⟨hst, w, hw, hf⟩
    refine ⟨fun he => hQ _ _ _ hw hf (h0 he), fun i hi => ?_⟩
    have h2 := h1 i hi
    unfold mOp at h2
    unfold wpOp
    split
    · rename_i ho; simp only [ho] at h2; exact ih _ _ _ _ hst hw hf h2
    · rename_i o ho
      simp only [ho] at h2
      split
      · rename_i hwant
        simp only [hwant, if_true] at h2
        refine .inl ?_
        obtain ⟨ht, hk⟩ := h2
        have hg := ht w hw (fun t _ => hf (some t))
        have key : ∀ v w', G w w' → out G K0 v w' ((execOp a.eval o).run P w) → wpAny P md ops Q' fuel (listed.setIfInBounds i true) (a.put o.dst v) w' := fun v w' hgg hout =>
          ih _ _ _ _ (addF_stab hst (canon_stab F)) (F.inC _ _ hw hgg) (fun t => ⟨hst t _ _ hgg (hf t), fun _ => ⟨w, hw, fun t _ => hf (some t), hout⟩⟩) (hk v)
        unfold Oper.wp
        generalize (execOp a.eval o).run P w = r at hg key
        cases r with
        | ok n w2 =>
          cases n <;> simp only [goodUpon] at hg <;> simp only [Oper.upon]
          case value u => exact key u w2 hg ⟨rfl, F.refl _⟩
          case skip => exact key undef w2 hg ⟨rfl, F.refl _⟩
          case enter f args =>
            obtain ⟨rfl, hc⟩ := hg
            exact hc.mono fun e w' ⟨v, he, hgg, hkk⟩ => by subst he; exact key v w' hgg hkk
        | halt x w2 => simp only [goodUpon] at hg
      · rename_i hwant
        simp only [hwant] at h2
        exact ih _ _ _ _ hst hw hf h2

theorem has_add {fs : Option Tmp → World → Prop} {d : Option Tmp} {X : World → Prop} {ts : List Tmp} {w : World} (h : ∀ t, d = some t → t ∉ ts) : has (addF fs d X) ts w ↔ has fs ts w :=
  ⟨fun hh t ht => (hh t ht).1, fun hh t ht => ⟨hh t ht, fun e => absurd ht (h t e)⟩⟩

theorem total_put {oi oj : Oper} {a : Act} {fs : Option Tmp → World → Prop} {v : Value} {X : World → Prop} (hs : ∀ cs b, oj.op ≠ .select cs b) (h : ∀ d, oi.dst = some d → d ∉ oj.looksAt ops) :
    total P ops G C K0 oj (a.put oi.dst v) (addF fs oi.dst X) ↔ total P ops G C K0 oj a fs := by
  unfold total
  rw [execOp_put oj hs a oi.dst v h]
  constructor
  · intro hh w hw hf; exact hh w hw ((has_add h).2 hf)
  · intro hh w hw hf; exact hh w hw ((has_add h).1 hf)

theorem canon_put {oi oj : Oper} {a : Act} {fs : Option Tmp → World → Prop} {v u : Value} {X : World → Prop} (hs : ∀ cs b, oj.op ≠ .select cs b) (h : ∀ d, oi.dst = some d → d ∉ oj.looksAt ops) :
    Canon P ops G C K0 oj (a.put oi.dst v) (addF fs oi.dst X) u = Canon P ops G C K0 oj a fs u := by
  funext w
  unfold Canon
  rw [execOp_put oj hs a oi.dst v h]
  apply propext
  constructor
  · rintro ⟨w1, h1, h2, h3⟩; exact ⟨w1, h1, (has_add h).1 h2, h3⟩
  · rintro ⟨w1, h1, h2, h3⟩; exact ⟨w1, h1, (has_add h).2 h2, h3⟩

theorem total_put' {oi oj : Oper} {a : Act} {fs : Option Tmp → World → Prop} {v : Value} (hs : ∀ cs b, oj.op ≠ .select cs b) (h : ∀ d, oi.dst = some d → d ∉ oj.looksAt ops) :
    total P ops G C K0 oj (a.put oi.dst v) fs ↔ total P ops G C K0 oj a fs := by
  unfold total
  rw [execOp_put oj hs a oi.dst v h]

theorem canon_put' {oi oj : Oper} {a : Act} {fs : Option Tmp → World → Prop} {v u : Value} (hs : ∀ cs b, oj.op ≠ .select cs b) (h : ∀ d, oi.dst = some d → d ∉ oj.looksAt ops) :
    Canon P ops G C K0 oj (a.put oi.dst v) fs u = Canon P ops G C K0 oj a fs u := by
  funext w
  unfold Canon
  rw [execOp_put oj hs a oi.dst v h]

theorem addF_comm (fs : Option Tmp → World → Prop) (d e : Option Tmp) (X Y : World → Prop) : addF (addF fs d X) e Y = addF (addF fs e Y) d X := by
  funext t w
  apply propext
  constructor
  · rintro ⟨⟨h1, h2⟩, h3⟩; exact ⟨⟨h1, h3⟩, h2⟩
  · rintro ⟨⟨h1, h2⟩, h3⟩; exact ⟨⟨h1, h3⟩, h2⟩

/-- What may come up waits for nothing that has not come up. -/
theorem not_after {i : Nat} {oj : Oper} {listed : Array Bool} (hi : listed.getD i true = false) (hall : ∀ e ∈ oj.after, Region.binds md e = true → listed.getD e.on false = true) :
    ∀ e ∈ oj.after, Region.binds md e = true → e.on ≠ i := by
  intro e he hb heq
  have h := hall e he hb
  subst heq
  by_cases hs : e.on < listed.size
  · simp only [Array.getD, hs, dite_true] at hi h
    exact absurd (h.symm.trans hi) (by decide)
  · simp [Array.getD, hs] at hi

/-- Behind one more operation the others are still apart. -/
theorem apart_still {i j : Nat} {oi : Oper} {listed : Array Bool} (hj : listed.getD j true = false)
    (h : ∀ k ok, ops[k]? = some ok → k ≠ i → listed.getD k true = false → (∀ e ∈ ok.after, Region.binds md e = true → e.on ≠ i) → oi.apart ops ok = true) :
    ∀ k ok, ops[k]? = some ok → k ≠ i → (listed.setIfInBounds j true).getD k true = false → (∀ e ∈ ok.after, Region.binds md e = true → e.on ≠ i) → oi.apart ops ok = true := by
  intro k ok hk hki hun hno
  by_cases hkj : j = k
  · exact h k ok hk hki (hkj ▸ hj) hno
  · exact h k ok hk hki ((getD_set_ne true hkj).symm.trans hun) hno

/-- The operation 'i', taken first, serves: every other one that may come up now is apart from it. -/
theorem first (F : Fit G C K0) {Q : Act → (Option Tmp → World → Prop) → Prop} {i : Nat} {oi : Oper} (hi : ops[i]? = some oi) (hsel : ∀ (j : Nat) (o : Oper) cs b, ops[j]? = some o → o.op ≠ .select cs b) :
    ∀ (fuel : Nat) (listed : Array Bool) (a : Act) (fs : Option Tmp → World → Prop),
      (∀ j oj, ops[j]? = some oj → j ≠ i → listed.getD j true = false → (∀ e ∈ oj.after, Region.binds md e = true → e.on ≠ i) → oi.apart ops oj = true) →
      i ∈ Region.ready md ops listed →
      mOp P ops G C K0 i (wpAnyM P ops G C K0 md Q fuel (listed.setIfInBounds i true)) a fs → wpAnyM P ops G C K0 md Q (fuel + 1) listed a fs := by
  intro fuel
  induction fuel with
  | zero =>
    intro listed a fs _ hr H hsat
    refine ⟨fun h => (by rw [h] at hr; cases hr), fun j hj => ?_⟩
    by_cases hji : j = i
    · subst hji; exact H
    · exfalso
      have hm := ready_mono hj hji
      unfold mOp at H
      simp only [hi] at H
      obtain ⟨hst, w, hw, hf⟩ := hsat
      by_cases hwant : Region.wanted oi (yielded ops a.tmps) = true
      · simp only [hwant, if_true] at H
        obtain ⟨v, w', _, _, _, hs'⟩ := some_out F hw hst hf H.1
        have := (H.2 v hs').1
        rw [this] at hm
        cases hm
      · simp only [hwant] at H
        have := (H ⟨hst, w, hw, hf⟩).1
        rw [this] at hm
        cases hm
  | succ fuel ih =>
    intro listed a fs hfree hr H hsat
    refine ⟨fun h => (by rw [h] at hr; cases hr), fun j hj => ?_⟩
    by_cases hji : j = i
    · subst hji; exact H
    · have hm := ready_mono hj hji
      obtain ⟨hjun, oj, hoj, hall⟩ := mem_ready.1 hj
      have hnot := not_after (mem_ready.1 hr).1 hall
      have hap := hfree j oj hoj hji hjun hnot
      obtain ⟨p1, p2, p3⟩ := Oper.apart_spec hap
      have hsi := fun cs b => hsel i oi cs b hi
      have hsj := fun cs b => hsel j oj cs b hoj
      have hfree' := apart_still hjun hfree
      obtain ⟨hst, w, hw, hf⟩ := hsat
      unfold mOp at H
      simp only [hi] at H
      by_cases hwi : Region.wanted oi (yielded ops a.tmps) = true
      · simp only [hwi, if_true] at H
        obtain ⟨v0, w', _, _, _, hs0⟩ := some_out F hw hst hf H.1
        have Hj := (H.2 v0 hs0).2 j hm
        unfold mOp at Hj ⊢
        simp only [hoj] at Hj ⊢
        rw [wanted_put oj a oi.dst v0 p1] at Hj
        by_cases hwj : Region.wanted oj (yielded ops a.tmps) = true
        · simp only [hwj, if_true] at Hj ⊢
          refine ⟨(total_put hsj p1).1 Hj.1, fun vj => ih _ _ _ hfree' (ready_mono hr (Ne.symm hji)) ?_⟩
          unfold mOp
          simp only [hi]
          rw [wanted_put oi a oj.dst vj p3]
          simp only [hwi, if_true]
          refine ⟨(total_put hsi p3).2 H.1, fun v => wpAnyM_intro fun hs2 => ?_⟩
          rw [canon_put hsi p3, addF_comm] at hs2 ⊢
          have hsi' : Sat G C (addF fs oi.dst (Canon P ops G C K0 oi a fs v)) := sat_of_add (addF_stab hst (canon_stab F)) hs2
          have Hv := (H.2 v hsi').2 j hm
          unfold mOp at Hv
          simp only [hoj] at Hv
          rw [wanted_put oj a oi.dst v p1] at Hv
          simp only [hwj, if_true] at Hv
          have Hv2 := Hv.2 vj
          rw [canon_put hsj p1, Act.put_comm a v vj p2, Array.setIfInBounds_comm _ _ (Ne.symm hji)] at Hv2
          exact Hv2
        · simp only [hwj] at Hj ⊢
          refine ih _ _ _ hfree' (ready_mono hr (Ne.symm hji)) ?_
          unfold mOp
          simp only [hi]
          rw [wanted_put oi a oj.dst undef p3]
          simp only [hwi, if_true]
          refine ⟨(total_put' hsi p3).2 H.1, fun v => wpAnyM_intro fun hs2 => ?_⟩
          rw [canon_put' hsi p3] at hs2 ⊢
          have Hv := (H.2 v hs2).2 j hm
          unfold mOp at Hv
          simp only [hoj] at Hv
          rw [wanted_put oj a oi.dst v p1] at Hv
          simp only [hwj] at Hv
          rw [Act.put_comm a v undef p2, Array.setIfInBounds_comm _ _ (Ne.symm hji)] at Hv
          exact Hv
      · simp only [hwi] at H
        have Hj := (H ⟨hst, w, hw, hf⟩).2 j hm
        unfold mOp at Hj ⊢
        simp only [hoj] at Hj ⊢
        rw [wanted_put oj a oi.dst undef p1] at Hj
        by_cases hwj : Region.wanted oj (yielded ops a.tmps) = true
        · simp only [hwj, if_true] at Hj ⊢
          refine ⟨(total_put' hsj p1).1 Hj.1, fun vj => ih _ _ _ hfree' (ready_mono hr (Ne.symm hji)) ?_⟩
          unfold mOp
          simp only [hi]
          rw [wanted_put oi a oj.dst vj p3]
          simp only [hwi]
          have Hv2 := Hj.2 vj
          rw [canon_put' hsj p1, Act.put_comm a undef vj p2, Array.setIfInBounds_comm _ _ (Ne.symm hji)] at Hv2
          exact Hv2
        · simp only [hwj] at Hj ⊢
          refine ih _ _ _ hfree' (ready_mono hr (Ne.symm hji)) ?_
          unfold mOp
          simp only [hi]
          rw [wanted_put oi a oj.dst undef p3]
          simp only [hwi]
          rw [Act.put_comm a undef undef p2, Array.setIfInBounds_comm _ _ (Ne.symm hji)] at Hj
          exact Hj
end

section
variable (P : Program) (ops : Array Oper) (G : World → World → Prop) (C : World → Prop) (K0 : FuncId → Array Value → Value → World → Prop)

/-- What is asked of one operation, as the prover tells it: 'Y' is what is known of its value. -/
def mildUpon (w : World) (Y : Value → World → Prop) : Result Next → Prop
  | .ok (.value u) w2 => G w w2 ∧ Y u w2
  | .ok .skip w2 => G w w2 ∧ Y undef w2
  | .ok (.enter f args) w2 => w2 = w ∧ Calls P f args w (fun e w' => ∃ v, e = .returned v ∧ G w w' ∧ K0 f args v w') ∧ (∀ v w', C w' → K0 f args v w' → Y v w')
  | _ => False

/-- The walk in the order of the text. -/
def wpMild (Q : Act → World → Prop) : List Oper → Act → (Option Tmp → World → Prop) → Prop
  | [], a, fs => ∀ w, C w → (∀ t, fs t w) → Q a w
  | o :: rest, a, fs =>
    if Region.wanted o (yielded ops a.tmps) then
      ∃ Y : Value → World → Prop, (∀ v, Stab G (Y v)) ∧ (∀ w, C w → has fs (o.looksAt ops) w → mildUpon P G C K0 w Y ((execOp a.eval o).run P w)) ∧
        ∀ v, (o.dst ≠ none → ∃ w, C w ∧ Y v w) → wpMild Q rest (a.put o.dst v) (addF fs o.dst (Y v))
    else wpMild Q rest (a.put o.dst undef) fs
end

section
variable {P : Program} {ops : Array Oper} {G : World → World → Prop} {C : World → Prop} {K0 : FuncId → Array Value → Value → World → Prop} {md : Region.Mode}

theorem lex (F : Fit G C K0) {Q : Act → World → Prop} (hs : Region.noSelect ops = true) : ∀ (l : List Oper) (k : Nat) (listed : Array Bool) (a : Act) (fs fs' : Option Tmp → World → Prop), (∀ j, l[j]? = ops[k + j]?) →
    (∀ t w, C w → fs' t w → fs t w) → Region.lexFrom md ops l.length k listed = true → wpMild P ops G C K0 Q l a fs →
    wpAnyM P ops G C K0 md (fun a fs => ∀ w, C w → (∀ t, fs t w) → Q a w) l.length listed a fs'
  | [], _, _, _, _, _, _, hle, hB, h => fun _ => ⟨by simpa [Region.lexFrom] using hB, fun w hw hf => h w hw (fun t => hle t w hw (hf t))⟩
  | o :: l, k, listed, a, fs, fs', hl, hle, hB, h => by
    have h0 : ops[k]? = some o := by simpa using (hl 0).symm
    simp only [List.length_cons, Region.lexFrom, Bool.and_eq_true] at hB
    obtain ⟨⟨hr, hf⟩, hB'⟩ := hB
    refine first F h0 (Region.noSelect_spec hs) l.length listed a fs' (Region.free_spec h0 hf) (by simpa using hr) ?_
    have hl' : ∀ j, l[j]? = ops[k + 1 + j]? := fun j => by have := hl (j + 1); simpa [Nat.add_assoc, Nat.add_comm 1 j] using this
    unfold mOp
    simp only [h0]
    unfold wpMild at h
    by_cases hw : Region.wanted o (yielded ops a.tmps) = true
    · simp only [hw, if_true] at h ⊢
      obtain ⟨Y, hY, hm, hk⟩ := h
      have hcan : ∀ v w, C w → Canon P ops G C K0 o a fs' v w → Y v w := by
        rintro v w hcw ⟨w1, hc1, hh1, ho1⟩
        have := hm w1 hc1 (fun t ht => hle (some t) w1 hc1 (hh1 t ht))
        generalize (execOp a.eval o).run P w1 = r at this ho1
        cases r with
        | ok n w2 =>
          cases n <;> simp only [mildUpon] at this <;> simp only [out] at ho1
          case value u => obtain ⟨e, hg⟩ := ho1; subst e; exact hY _ _ _ hg this.2
          case skip => obtain ⟨e, hg⟩ := ho1; subst e; exact hY _ _ _ hg this.2
          case enter f args => exact this.2.2 v w hcw ho1
        | halt x w2 => simp only [mildUpon] at this
      refine ⟨fun w hcw hhw => ?_, fun v => wpAnyM_intro fun hsat => ?_⟩
      · have := hm w hcw (fun t ht => hle (some t) w hcw (hhw t ht))
        generalize (execOp a.eval o).run P w = r at this
        cases r with
        | ok n w2 =>
          cases n <;> simp only [mildUpon] at this <;> simp only [goodUpon]
          case value u => exact this.1
          case skip => exact this.1
          case enter f args => exact ⟨this.1, this.2.1⟩
        | halt x w2 => simp only [mildUpon] at this
      · refine lex F hs l (k + 1) _ _ (addF fs o.dst (Y v)) _ hl' (fun t w hcw ⟨h1, h2⟩ => ⟨hle t w hcw h1, fun e => hcan v w hcw (h2 e)⟩) hB' (hk v fun hd => ?_)
        obtain ⟨_, w, hcw, hfw⟩ := hsat
        cases hdd : o.dst with
        | none => exact absurd hdd hd
        | some d => exact ⟨w, hcw, hcan v w hcw ((hfw (some d)).2 hdd)⟩
    · simp only [hw] at h ⊢
      exact lex F hs l (k + 1) _ _ fs _ hl' hle hB' h

/-- **A region that draws its order, walked once.** -/
theorem wp_region (F : Fit G C K0) {id : Nat} {Q : Exit → Act → World → Prop} {a : Act} {w : World} {l : List Oper} (hm : P.follows .mixedOrders = true) (hB : Region.lexB .any l.toArray = true) (hC : C { w with drawn := w.drawn + 1 })
    (h : wpMild P l.toArray G C K0 (fun a' w' => Q .normal a' w') l a (fun _ _ => True)) : (Code.region id l.toArray true).wp P Q a w := by
  simp only [Region.lexB, Bool.and_eq_true] at hB
  refine wp_region_any hm (wpAny_of F (Q := fun a fs => ∀ w, C w → (∀ t, fs t w) → Q .normal a w) (fun _ _ w hw hf h => h w hw hf) _ _ _ (fun _ _ => True) _ (fun _ _ _ _ _ => trivial) hC (fun _ => trivial) ?_)
  have := lex (C := C) (md := .any) F hB.1 l 0 (Array.replicate l.toArray.size false) a (fun _ _ => True) (fun _ _ => True) (by simp) (fun _ _ _ h => h) (by simpa using hB.2) h
  simpa using this

/-- More is known: the walk serves all the same. -/
theorem wpMild_mono {Q : Act → World → Prop} : ∀ (l : List Oper) (a : Act) (fs fs' : Option Tmp → World → Prop), (∀ t w, C w → fs' t w → fs t w) → wpMild P ops G C K0 Q l a fs → wpMild P ops G C K0 Q l a fs'
  | [], _, _, _, hle, h => fun w hw hf => h w hw (fun t => hle t w hw (hf t))
  | o :: l, a, fs, fs', hle, h => by
    unfold wpMild at h ⊢
    by_cases hw : Region.wanted o (yielded ops a.tmps) = true
    · simp only [hw, if_true] at h ⊢
      obtain ⟨Y, hY, hm, hk⟩ := h
      exact ⟨Y, hY, fun w hcw hh => hm w hcw (fun t ht => hle (some t) w hcw (hh t ht)), fun v hv => wpMild_mono l _ _ _ (fun t w hcw ⟨h1, h2⟩ => ⟨hle t w hcw h1, h2⟩) (hk v hv)⟩
    · simp only [hw] at h ⊢
      exact wpMild_mono l _ _ _ hle h

/-- Operations that enter no function. -/
def plainOp : Op → Bool
  | .move _ => true
  | .assign _ => true
  | .convert _ _ _ => true
  | .binOp _ _ _ _ _ => true
  | .unOp _ _ _ => true
  | .pick _ _ _ => true
  | .extract _ _ => true
  | .indexAddr _ _ _ => true
  | .load _ _ => true
  | .slice _ _ _ _ _ => true
  | .call c => match c.callee with | .builtin .len => true | _ => false
  | _ => false

theorem andThen_value {α : Type} {r : Result α} {g : α → Value} {f : FuncId} {args : Array Value} {w' : World} (h : (r.andThen fun v w => .ok (Next.value (g v)) w) = .ok (.enter f args) w') : False := by
  cases r <;> simp [Result.andThen] at h

theorem plain_no_enter {o : Oper} {ρ : Operand → Value} {w w' : World} {f : FuncId} {args : Array Value} (hp : plainOp o.op = true) : (execOp ρ o).run P w ≠ .ok (.enter f args) w' := by
  intro h
  obtain ⟨dst, op, type, pos, after, guard⟩ := o
  cases op <;> simp only [plainOp, Bool.false_eq_true] at hp
  case call c =>
    obtain ⟨callee, cargs, argTypes⟩ := c
    cases callee <;> simp only [Bool.false_eq_true] at hp
    rename_i b
    cases b <;> simp only [Bool.false_eq_true] at hp
    simp only [execOp, resolve, invoke, builtin, Sem.run_bind, Sem.run_pure, Result.andThen_ok] at h
    exact andThen_value (g := id) h
  case pick c x y => simp only [execOp, Sem.run_bind, Sem.run_pure] at h; exact andThen_value (g := fun b => if b = true then ρ x else ρ y) h
  all_goals (simp only [execOp, Sem.run_bind, Sem.run_pure] at h; first | exact andThen_value (g := id) h | (simp at h; done))

/-- An operation that is passed over. -/
theorem step_skip {Q : Act → World → Prop} {o : Oper} {rest : List Oper} {a : Act} {fs : Option Tmp → World → Prop} (hw : Region.wanted o (yielded ops a.tmps) = false)
    (h : wpMild P ops G C K0 Q rest (a.put o.dst undef) fs) : wpMild P ops G C K0 Q (o :: rest) a fs := by
  unfold wpMild
  simp only [hw]
  exact h

/-- An operation that reads at most: run by the walk's own step, in the worlds 'w0.drewN n'. -/
theorem step_quiet (F : Fit G C K0) {Q : Act → World → Prop} {o : Oper} {rest : List Oper} {a : Act} {fs : Option Tmp → World → Prop} (hw : Region.wanted o (yielded ops a.tmps) = true) (hp : plainOp o.op = true) (hd : o.dst.isSome = true)
    (h : ∀ w0, C w0 → has fs (o.looksAt ops) w0 → ∀ K : Act → Prop, (∀ a', wpMild P ops G C K0 Q rest a' fs → K a') → o.quiet P a (fun w' => ∃ n, w' = w0.drewN n) K) : wpMild P ops G C K0 Q (o :: rest) a fs := by
  unfold wpMild
  simp only [hw, if_true]
  refine ⟨fun v _ => wpMild P ops G C K0 Q rest (a.put o.dst v) fs, fun v w w' _ h => h, fun w hcw hh => ?_, fun v hv => ?_⟩
  · obtain ⟨v, h1, h2⟩ := h w hcw hh _ (fun _ h => h)
    have h3 := h1 w ⟨0, rfl⟩
    unfold Oper.quietAt at h3
    generalize hr : (execOp a.eval o).run P w = r at h3
    cases r with
    | ok n w2 =>
      cases n <;> simp only [Oper.quietUpon] at h3 <;> simp only [mildUpon]
      case value u => obtain ⟨rfl, rfl⟩ := h3; exact ⟨F.refl _, h2⟩
      case skip => obtain ⟨rfl, rfl⟩ := h3; exact ⟨F.refl _, h2⟩
      case enter f args => exact absurd hr (plain_no_enter hp)
    | halt x w2 => simp only [Oper.quietUpon] at h3
  · obtain ⟨w, _, h1⟩ := hv (fun e => by rw [e] at hd; simp at hd)
    exact wpMild_mono _ _ _ _ (fun t w _ h => h.1) h1

/-- An operation whose value is known, and that turns nothing. -/
theorem step_known (F : Fit G C K0) {Q : Act → World → Prop} {o : Oper} {rest : List Oper} {a : Act} {fs : Option Tmp → World → Prop} (hw : Region.wanted o (yielded ops a.tmps) = true) (hd : o.dst.isSome = true) (v0 : Value)
    (hrun : ∀ w, C w → has fs (o.looksAt ops) w → (execOp a.eval o).run P w = .ok (.value v0) w) (h : wpMild P ops G C K0 Q rest (a.put o.dst v0) fs) : wpMild P ops G C K0 Q (o :: rest) a fs := by
  unfold wpMild
  simp only [hw, if_true]
  refine ⟨fun v _ => v = v0, fun v w w' _ h => h, fun w hcw hh => ?_, fun v hv => ?_⟩
  · rw [hrun w hcw hh]; exact ⟨F.refl _, rfl⟩
  · obtain ⟨w, _, rfl⟩ := hv (fun e => by rw [e] at hd; simp at hd)
    exact wpMild_mono _ _ _ _ (fun t w _ h => h.1) h

/-- A call, by its contract. -/
theorem step_call {Q : Act → World → Prop} {o : Oper} {rest : List Oper} {a : Act} {fs : Option Tmp → World → Prop} (hw : Region.wanted o (yielded ops a.tmps) = true) (f : FuncId) (args : Array Value)
    (hrun : ∀ w, (execOp a.eval o).run P w = .ok (.enter f args) w) (Y : Value → World → Prop) (hY : ∀ v, Stab G (Y v))
    (hc : ∀ w, C w → has fs (o.looksAt ops) w → Calls P f args w (fun e w' => ∃ v, e = .returned v ∧ G w w' ∧ K0 f args v w')) (hk : ∀ v w', C w' → K0 f args v w' → Y v w')
    (h : ∀ v, (o.dst ≠ none → ∃ w, C w ∧ Y v w) → wpMild P ops G C K0 Q rest (a.put o.dst v) (addF fs o.dst (Y v))) : wpMild P ops G C K0 Q (o :: rest) a fs := by
  unfold wpMild
  simp only [hw, if_true]
  refine ⟨Y, hY, fun w hcw hh => ?_, h⟩
  rw [hrun w]
  exact ⟨rfl, hc w hcw hh, hk⟩

end
end Mild2
end Go.Proofs.Ytpfoeeiacfadfaa
