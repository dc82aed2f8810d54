/-
  All operations, statements, code, reckoned on values as they are told.
-/
import Derived.Test.YtpfoeeiacfadfaaQB
import Derived.Test.YtpfoeeiacfadfaaFk
noncomputable section
namespace Go.Proofs.Ytpfoeeiacfadfaa.Q
open Go.RowKit

/-- Leads nowhere into memory. -/
def flat : Ty → Bool
  | .arr _ t => flat t
  | .pair a b => flat a && flat b
  | .sl _ => false
  | .opq _ => false
  | _ => true
def flatK : PK → Bool
  | .d t => flat t
  | _ => false
/-- The same, or new, and leading nowhere. -/
def flatO : PK → Bool
  | .d t => flat t
  | .o t => flat t
  | _ => false
/-- What is lent by an argument. -/
def lentOf : AV → List Nat
  | .own r => [r]
  | .view r _ _ => [r]
  | .aview r _ _ _ _ => [r]
  | _ => []
/-- Arguments as data. -/
def arg1 (mem : List Cn) : (k : PK) → AV → Option (DK k)
  | .d t, a => toD mem t a
  | .f g, a => (match a with | .fn f => (match Nat.beq f g with | true => some () | false => none) | _ => none)
  | .o _, _ => none
  | .p _, _ => none
def argD (mem : List Cn) : (ks : List PK) → List AV → Option (Dat ks)
  | [], l => (match l with | [] => some () | _ => none)
  | [k], l => (match l with | [a] => arg1 mem k a | _ => none)
  | k :: j :: r, l => (match l with
    | a :: as => (match arg1 mem k a with
      | some x => (match argD mem (j :: r) as with
        | some y => some ((x, y) : DK k × Dat (j :: r))
        | none => none)
      | none => none)
    | [] => none)
/-- Results as told: what they are, and what is new; from this number on. -/
def res1 (n : Nat) : (k : PK) → DK k → AV × List Cn
  | .d t, x => (.dat t x, [])
  | .o t, l => (.own n, [.sl t l])
  | _, _ => (.undef, [])
def resL : (n : Nat) → (ks : List PK) → Dat ks → List AV × List Cn
  | _, [], _ => ([], [])
  | n, [k], x => ([(res1 n k x).1], (res1 n k x).2)
  | n, k :: l :: r, x => ((res1 n k x.1).1 :: (resL (n + (res1 n k x.1).2.length) (l :: r) x.2).1, (res1 n k x.1).2 ++ (resL (n + (res1 n k x.1).2.length) (l :: r) x.2).2)
def callX {β : Type} (s : St) (hd : Hd) (as : List AV) (K : St → SV → Option β) : Option β :=
  match hd.rks.all flatO with
  | true => bnd (argD s.mem hd.pks as) fun d => bnd (hd.fm d) fun y => K ⟨s.fr, s.mem ++ (resL s.mem.length hd.rks y).2⟩ (match (resL s.mem.length hd.rks y).1 with | [a] => .one a | l => .tup l)
  | false => (match as.flatMap lentOf with
    | [] => bnd (argD s.mem hd.pks as) fun d => bnd (hd.fm d) fun y => K ⟨s.fr, s.mem ++ (resL s.mem.length hd.rks y).2⟩ (match (resL s.mem.length hd.rks y).1 with | [a] => .one a | l => .tup l)
    | _ :: _ => none)
def partsA (e : Env) (s : St) (ps : List (Nat × Operand)) : List (Nat × AV) := ps.map fun p => (p.1, av e s p.2)
/-- What must be only read ahead of an operation. -/
def preR (e : Env) (s : St) (o : Oper) : List Nat :=
  match o.op with
  | .build _ ps => rids ((partsA e s ps.toList).map Prod.snd)
  | .buildSlice _ _ ps => rids ((partsA e s ps.toList).map Prod.snd)
  | .load _ x => (match av e s x with
    | .ptr r none _ => (match s.mem[r]? with | some (.blk (_ :: _ :: _) fs) => rids fs | _ => [])
    | _ => [])
  | .store _ x y => (match av e s x with
    | .eptr _ _ _ => ridOf (av e s y)
    | .ptr _ (some _) (_ :: _) => ridOf (av e s y)
    | _ => [])
  | .call c => (match c.callee with
    | .value x => (match av e s x with
      | .fn f => (match e.h f with
        | some hd => (match hd.rks.all flatO with | true => [] | false => rids (c.args.toList.map (av e s)))
        | none => [])
      | _ => [])
    | _ => [])
  | _ => []
def opX {β : Type} (e : Env) (s0 : St) (o : Oper) (K : St → SV → Option β) : Option β :=
  match fzL (preR e s0 o) s0 with
  | s => (match o.op with
    | .load T x => bnd (e.T T) fun i => loadA s i (av e s x) (K s)
    | .store T x y => bnd (e.T T) fun i => storeA s i (av e s x) (av e s y) fun s => K s (.one .undef)
    | .alloc T => bnd (e.T T) fun i => guard (sty' i || Nat.ble i.fts.length 1) (K (addM (.blk (lay i) ((lay i).map zAV)) s) (.one (.ptr s.mem.length none [])))
    | .box T x => bnd (e.T T) fun i => guard ((sty' i || Nat.ble i.fts.length 1) && fits s.mem i.t (av e s x)) (match flds i (av e s x) with
      | some fs => K (addM (.blk (lay i) fs) s) (.one (.ptr s.mem.length none []))
      | none => none)
    | .makeSlice T l c => bnd (e.T T) fun i => (match i.t with
      | .sl t => bnd (asIdx (av e s l)) fun l => bnd (asIdx (av e s c)) fun c => guard (plain t && decide (0 ≤ c) && Nat.ble c.toNat maxN && (decide (l = c) || decide (l = 0))) (K (addM (.sl t (List.replicate l.toNat (zv t))) s) (.one (.own s.mem.length)))
      | _ => none)
    | .convert S T x => (match e.T S, e.T T with
      | some ⟨.sl (.int .u8), _, _⟩, some ⟨.str, _, _⟩ => bnd (rdS s.mem (.int .u8) (av e s x)) fun l => K s (.one (.dat .str l))
      | some ⟨.sl _, _, _⟩, _ => none
      | _, some ⟨.sl _, _, _⟩ => none
      | _, _ => pureOp e s o (K s))
    | .call c => (match c.callee with
      | .value x => (match av e s x with
        | .fn f => (match e.h f with
          | some hd => callX s hd (c.args.toList.map (av e s)) K
          | none => none)
        | _ => none)
      | .builtin .append => (match c.args.toList, c.argTypes.toList with
        | [x, y], [T, U] => guard (Nat.beq T U) (bnd (e.T T) fun i => (match i.t with
          | .sl t => bnd (rdS s.mem t (av e s y)) fun ys => appA s t (av e s x) ys K
          | _ => none))
        | _, _ => none)
      | .builtin .len => pureOp e s o (K s)
      | .builtin .min => pureOp e s o (K s)
      | .builtin .max => pureOp e s o (K s)
      | _ => none)
    | .buildSlice T n ps => bnd (e.T T) fun i => (match i.t with
      | .sl t => guard (Nat.beq ps.size n && bsQ 0 (ps.toList.map Prod.fst) && Nat.ble (ps.size * z t) 1000000) (bnd (bsD t (ps.toList.map fun p => av e s p.2)) fun xs => K (addM (.sl t xs) s) (.one (.own s.mem.length)))
      | _ => none)
    | _ => pureOp e s o (K s))
/-- 0: hangs on no world; 1: reads; 2: turns memory. -/
def kdO (e : Env) (o : Oper) : Nat :=
  match o.op with
  | .load _ _ => 1
  | .store _ _ _ => 2
  | .alloc _ => 2
  | .box _ _ => 2
  | .makeSlice _ _ _ => 2
  | .buildSlice _ _ _ => 2
  | .convert S _ _ => (match e.T S with | some ⟨.sl _, _, _⟩ => 1 | _ => 0)
  | .call c => (match c.callee with
    | .builtin .len => 0
    | .builtin .min => 0
    | .builtin .max => 0
    | _ => 2)
  | _ => 0
def putX {β : Type} (N : Nat) (d : Option Tmp) (v : SV) (s : St) (K : St → Option β) : Option β :=
  match d with
  | none => K s
  | some d => (match Nat.blt d N with | true => K ⟨(d, v) :: s.fr, s.mem⟩ | false => none)
/-- A slot that is known from here on. -/
def kn (d : Nat) (b : Bool) (s : St) : St := ⟨(d, .one (.dat .bool b)) :: s.fr, s.mem⟩
/-- Is it wanted? -/
def wantX {β : Type} (e : Env) (ops : Array Oper) (o : Oper) (s : St) (yes no : St → Option β) : Option β :=
  match o.guard with
  | none => yes s
  | some (j, b) => (match (ops[j]?).bind (·.dst) with
    | some d => (match Nat.blt d e.N with
      | true => (match lks s.fr d with
        | .one (.dat t x) => (match t, x with
          | .bool, c => cnd c (match b with | true => yes (kn d true s) | false => no (kn d true s)) (match b with | true => no (kn d false s) | false => yes (kn d false s))
          | _, _ => none)
        | .tup [] => no s
        | _ => none)
      | false => none)
    | none => none)
def runOps {β : Type} (e : Env) (ops : Array Oper) : List Oper → St → (St → Option β) → Option β
  | [], s, K => K s
  | o :: l, s, K => wantX e ops o s (fun s => opX e s o fun s v => putX e.N o.dst v s fun s => runOps e ops l s K) (fun s => putX e.N o.dst (.tup []) s fun s => runOps e ops l s K)
/-- Such as makes new things, and turns none. -/
def grow (o : Oper) : Bool :=
  match o.op with
  | .alloc _ => true
  | .box _ _ => true
  | .makeSlice _ _ _ => true
  | .buildSlice _ _ _ => true
  | .call c => (match c.callee with | .value _ => true | _ => false)
  | _ => false
/-- Is it among these? -/
def inL (r : Nat) : List Nat → Bool
  | [] => false
  | q :: l => (match Nat.beq q r with | true => true | false => inL r l)
/-- One of these blocks, which stood there at the beginning. -/
def oldP (mem : List Cn) (R : List Nat) : AV → Bool
  | .ptr r _ _ => (match mem[r]? with | some (.blk _ _) => inL r R | _ => false)
  | _ => false
/-- None of these. -/
def stP (R : List Nat) : AV → Bool
  | .ptr r _ _ => !inL r R
  | .eptr _ _ _ => true
  | _ => false
/-- The blocks that a stretch reads. -/
def ridP : AV → List Nat
  | .ptr r _ _ => [r]
  | _ => []
def readsG (e : Env) (s : St) : List Oper → List Nat
  | [] => []
  | o :: l => (match o.op with
    | .load _ x => ridP (av e s x) ++ readsG e s l
    | .indexAddr _ x _ => ridP (av e s x) ++ readsG e s l
    | .fieldAddr _ x _ => ridP (av e s x) ++ readsG e s l
    | _ => readsG e s l)
/-- Of a stretch that makes new things and does not turn what it reads: what stood there may be read at any time. -/
def kdG (e : Env) (o : Oper) : Nat := match o.op with | .load _ _ => 0 | _ => kdO e o
def opG {β : Type} (e : Env) (mem : List Cn) (R : List Nat) (s : St) (o : Oper) (K : St → SV → Option β) : Option β :=
  match o.op with
  | .load _ x => (match oldP mem R (av e s x) with | true => opX e s o K | false => none)
  | .store _ x _ => (match stP R (av e (fzL (preR e s o) s) x) with | true => opX e s o K | false => none)
  | _ => (match kdO e o with
    | 0 => opX e s o K
    | 1 => opX e s o K
    | _ => (match grow o with | true => opX e s o K | false => none))
def runG {β : Type} (e : Env) (mem : List Cn) (R : List Nat) (ops : Array Oper) : List Oper → St → (St → Option β) → Option β
  | [], s, K => K s
  | o :: l, s, K => wantX e ops o s (fun s => opG e mem R s o fun s v => putX e.N o.dst v s fun s => runG e mem R ops l s K) (fun s => putX e.N o.dst (.tup []) s fun s => runG e mem R ops l s K)
def kdsG (e : Env) (l : List Oper) : List Nat := l.map (kdG e)
def kds (e : Env) (l : List Oper) : List Nat := l.map (kdO e)
inductive Ex where
  | nrm
  | ext (id : Nat)
  | ret
end Go.Proofs.Ytpfoeeiacfadfaa.Q
/-
  Calls: what a callee is told, what it tells.
-/
namespace Go.Proofs.Ytpfoeeiacfadfaa.Q
open Go.RowKit

/-- A function with a body of its own. -/
def isGo (P : Program) (f : FuncId) : Bool := match P.funcs[f]? with | some fn => !(fn.name == "runtime.NumGoroutine") && !fn.body.isNone | none => false
theorem run_go {P : Program} {w : World} {f : FuncId} (h : isGo P f = true) (args : Array Value) : (callFunc f args).run P w = .ok (.enter f args) w := by
  unfold isGo at h
  cases hf : P.funcs[f]? with
  | none => rw [hf] at h; cases h
  | some fn =>
    rw [hf] at h
    simp only [Bool.and_eq_true, Bool.not_eq_true'] at h
    simp only [callFunc, Sem.run_bind, run_program, Result.andThen_ok, hf, h.1, h.2, Bool.false_eq_true, if_false, Sem.run_pure]
def svOf : List AV → SV
  | [a] => .one a
  | l => .tup l
def Arg1 (F : Nat → Prop) (w : World) : (k : PK) → DK k → Value → Prop
  | .d t, x, v => AVR F w [] [] (.dat t x) v
  | .f g, _, v => v = .func (.func g) #[] #[]
  | _, _, _ => False
def ArgR (F : Nat → Prop) (w : World) : (ks : List PK) → Dat ks → List Value → Prop
  | [], _, vs => vs = []
  | [k], x, vs => ∃ v, vs = [v] ∧ Arg1 F w k x v
  | k :: l :: r, x, vs => ∃ v us, vs = v :: us ∧ Arg1 F w k x.1 v ∧ ArgR F w (l :: r) x.2 us
/-- THE FUNCTION COMES TO THE END THAT IS RECKONED, where there is one. -/
def FnG (P : Program) (f : FuncId) (hd : Hd) : Prop :=
  isGo P f = true ∧ ∀ (F : Nat → Prop) (w0 w : World) (d : Dat hd.pks) (y : Dat hd.rks) (vs : List Value), hd.fm d = some y → ArgR F w hd.pks d vs → MR P F w0 w [] [] →
    Calls P f vs.toArray w fun en w' => ∃ L' v, en = .returned v ∧ MR P F w0 w' (resL 0 hd.rks y).2 L' ∧ Stp w [] w' L' ∧ SVR F w' (resL 0 hd.rks y).2 L' (svOf (resL 0 hd.rks y).1) v
/-- The same of a function of the model's own: it is told at once, and nothing turns. -/
def XOk (P : Program) (f : FuncId) (hd : Hd) : Prop :=
  hd.rks.all flatK = true ∧ ∀ (F : Nat → Prop) (w : World) (d : Dat hd.pks) (y : Dat hd.rks) (vs : List Value), hd.fm d = some y → ArgR F w hd.pks d vs →
    ∃ v, (callFunc f vs.toArray).run P w = .ok (.value v) w ∧ SVR F w [] [] (svOf (resL 0 hd.rks y).1) v
def FnOk (P : Program) (f : FuncId) (hd : Hd) : Prop := FnG P f hd ∨ XOk P f hd
section
variable {P : Program} {e : Env} {F : Nat → Prop} {w0 w w' : World} {L L' : List Res} {s : St} {vs : List (Nat × Value)} {β : Type} {r : β} {o : Oper}
theorem toD_r (m : MR P F w0 w s.mem L) {t : Ty} {a : AV} {v : Value} {x : D t} (ha : AVR F w s.mem L a v) (h : toD s.mem t a = some x) : AVR F w [] [] (.dat t x) v := by
  have mono : ∀ g, SF F L w g → SF F [] w g := fun g hg => ⟨⟨hg.1.1, fun r hr => absurd hr List.not_mem_nil⟩, hg.2⟩
  have sl : ∀ {t : Ty} {l : List (D t)}, rdS s.mem t a = some l → AVR F w [] [] (.dat (.sl t) l) v := fun {t l} h => by
    obtain ⟨ao, cap, cs, hv, c1, c2, c3, hr⟩ := rdS_r m ha h
    refine ⟨[v], rfl, ao, cap, cs, by rw [hv], c1, c2, fun b hb j u hu => ?_, hr.stp (fun g hg => ⟨mono g hg, rfl⟩)⟩
    obtain ⟨h1, h2⟩ := c3 b hb j u hu
    refine ⟨h1, ⟨⟨?_, fun r hr => absurd hr List.not_mem_nil⟩, h2⟩⟩
    have := World.block_lt_of_cell? w _ h1
    rwa [ablk] at this
  unfold toD at h
  split at h
  · obtain ⟨cs, hv, hr⟩ := cast_r h ha
    exact ⟨cs, hv, hr.stp (fun g hg => ⟨mono g hg, rfl⟩)⟩
  · cases t with
    | sl t => exact sl h
    | _ => cases h
theorem arg1_r (m : MR P F w0 w s.mem L) {k : PK} {a : AV} {v : Value} {x : DK k} (ha : AVR F w s.mem L a v) (h : arg1 s.mem k a = some x) : Arg1 F w k x v := by
  cases k with
  | d t => exact toD_r m ha h
  | f g =>
    simp only [arg1] at h
    split at h
    · split at h
      · rename_i hb
        obtain rfl := nbeq.1 hb
        exact ha
      · cases h
    · cases h
  | o t => cases h
  | p ts => cases h
theorem argD_r (m : MR P F w0 w s.mem L) : ∀ {ks : List PK} {as : List AV} {us : List Value} {d : Dat ks}, All2 (AVR F w s.mem L) as us → argD s.mem ks as = some d → ArgR F w ks d us
  | [], as, us, d, ha, h => by
    cases as with
    | nil => cases us with | nil => rfl | cons _ _ => exact ha.elim
    | cons _ _ => cases h
  | [k], as, us, d, ha, h => by
    cases as with
    | nil => cases h
    | cons a as => cases as with
      | cons _ _ => cases h
      | nil => cases us with
        | nil => exact ha.elim
        | cons u us => cases us with
          | cons _ _ => exact ha.2.elim
          | nil => exact ⟨u, rfl, arg1_r m ha.1 h⟩
  | k :: j :: l, as, us, d, ha, h => by
    cases as with
    | nil => cases h
    | cons a as => cases us with
      | nil => exact ha.elim
      | cons u us =>
        unfold argD at h
        simp only at h
        cases hx : arg1 s.mem k a with
        | none => rw [hx] at h; cases h
        | some x =>
          rw [hx] at h
          cases hy : argD s.mem (j :: l) as with
          | none => rw [hy] at h; cases h
          | some y =>
            rw [hy] at h
            obtain rfl := Option.some.inj h
            exact ⟨u, us, rfl, arg1_r m ha.1 hx, argD_r m ha.2 hy⟩

theorem rc_flat {S S' : Nat → Prop} : ∀ {t : Ty} {cs : List Value} {x : D t}, flat t = true → RC S w t cs x → RC S' w' t cs x
  | .int _, _, _, _, h => h
  | .bool, _, _, _, h => h
  | .str, _, _, _, h => h
  | .arr n t, cs, x, hf, h => by
    obtain ⟨h1, css, rfl, h2⟩ := h
    exact ⟨h1, css, rfl, h2.mono fun _ _ h => rc_flat (t := t) hf h⟩
  | .unit, _, _, _, h => h
  | .pair a b, cs, x, hf, h => by
    have hf : (flat a && flat b) = true := hf
    rw [Bool.and_eq_true] at hf
    obtain ⟨c1, c2, rfl, h1, h2⟩ := h
    exact ⟨c1, c2, rfl, rc_flat hf.1 h1, rc_flat hf.2 h2⟩
  | .sl _, _, _, hf, _ => by cases hf
  | .opq _, _, _, hf, _ => by cases hf
/-- Behind the call: all that there was is as it was. -/
theorem after_call (h : SR P e F w0 w s vs L) {Fc : Nat → Prop} {M : List Cn} (m' : MR P Fc w0 w' M L') (hs : Stp w [] w' L')
    (hcr : ∀ (i : Nat) (c : Cn) (q : Res), M[i]? = some c → L'[i]? = some q → CR P F w' (s.mem ++ M) (L ++ L') c q) :
    SR P e F w0 w' ⟨s.fr, s.mem ++ M⟩ vs (L ++ L') ∧ Stp w L w' (L ++ L') ∧ Ext s.mem L (s.mem ++ M) (L ++ L') := by
  have old : ∀ g, g < w.heap.size → Fz L' w' g ∧ w'.heap[g]? = w.heap[g]? := fun g hg => hs g ⟨hg, fun r hr => absurd hr List.not_mem_nil⟩
  have hst : Stp w L w' (L ++ L') := fun g hg => by
    obtain ⟨h1, h2⟩ := old g hg.1
    refine ⟨⟨h1.1, fun r hr => ?_⟩, h2⟩
    rcases List.mem_append.1 hr with hr | hr
    · exact hg.2 r hr
    · exact h1.2 r hr
  have mo : Mo w0 w' (L ++ L') := by
    refine ⟨m'.mo.below, fun i q hi => ?_, fun i j a b g hij ha hb hga hgb => ?_⟩
    · rcases Nat.lt_or_ge i L.length with hl | hl
      · rw [List.getElem?_append_left hl] at hi
        exact (h.m.mo.ok i q hi).same fun g hg => (old g ((h.m.mo.ok i q hi).blk g hg).2).2
      · rw [List.getElem?_append_right hl] at hi
        exact m'.mo.ok _ q hi
    · rcases Nat.lt_or_ge i L.length with hl | hl <;> rcases Nat.lt_or_ge j L.length with hl' | hl'
      · rw [List.getElem?_append_left hl] at ha
        rw [List.getElem?_append_left hl'] at hb
        exact h.m.mo.ap i j a b g hij ha hb hga hgb
      · rw [List.getElem?_append_left hl] at ha
        rw [List.getElem?_append_right hl'] at hb
        exact (old g ((h.m.mo.ok i a ha).blk g hga).2).1.2 b (List.mem_of_getElem? hb) hgb
      · rw [List.getElem?_append_right hl] at ha
        rw [List.getElem?_append_left hl'] at hb
        exact (old g ((h.m.mo.ok j b hb).blk g hgb).2).1.2 a (List.mem_of_getElem? ha) hga
      · rw [List.getElem?_append_right hl] at ha
        rw [List.getElem?_append_right hl'] at hb
        exact m'.mo.ap _ _ a b g (by omega) ha hb hga hgb
  have hk : ∀ r, Kp s.mem L (s.mem ++ M) (L ++ L') r := fun r => by
    have h1 : ∀ {α : Type} {l l' : List α} {y : α}, l[r]? = some y → (l ++ l')[r]? = some y := fun h => by
      rw [List.getElem?_append_left (List.getElem?_eq_some_iff.1 h).1]; exact h
    exact ⟨fun _ _ cs h => ⟨cs, h1 h⟩, fun _ _ _ _ cs h => ⟨cs, h1 h⟩, fun _ fs h => ⟨fs, h1 h⟩, fun _ l h => ⟨l, h1 h⟩⟩
  refine ⟨SR.upd0 h hk hst mo (by rw [List.length_append, List.length_append, h.m.len, m'.len]) fun i c q hc hq => ?_, hst, Ext.kp hk⟩
  have hlen := h.m.len
  rcases Nat.lt_or_ge i L.length with hl | hl
  · rw [List.getElem?_append_left (by omega)] at hc
    rw [List.getElem?_append_left hl] at hq
    exact .inl ⟨hc, hq⟩
  · rw [List.getElem?_append_right (by omega)] at hc
    rw [List.getElem?_append_right hl] at hq
    rw [hlen] at hq
    exact .inr (hcr _ c q hc hq)
/-- What is told, with its number in a longer list. -/
theorem resL_r {Fc : Nat → Prop} {n : Nat} (hS : ∀ g, SF Fc L' w' g → SF F (L ++ L') w' g) (hn : L.length = n) : ∀ {ks : List PK} {y : Dat ks} {k : Nat} {M : List Cn} {mem : List Cn} {us : List Value}, All2 (AVR Fc w' M L') (resL k ks y).1 us → All2 (AVR F w' mem (L ++ L')) (resL (n + k) ks y).1 us
  | [], y, k, M, mem, us, h => by
    cases us with
    | nil => trivial
    | cons _ _ => exact h.elim
  | [j], y, k, M, mem, us, h => by
    cases us with
    | nil => exact h.elim
    | cons u us =>
      cases us with
      | cons _ _ => exact h.2.elim
      | nil =>
        refine ⟨?_, trivial⟩
        have h1 := h.1
        cases j with
        | d t => obtain ⟨cs, hv, hr⟩ := h1; exact ⟨cs, hv, hr.stp fun g hg => ⟨hS g hg, rfl⟩⟩
        | o t =>
          obtain ⟨E, zz, m, cs, hL⟩ := h1
          exact ⟨E, zz, m, cs, by rw [List.getElem?_append_right (by omega), hn, Nat.add_sub_cancel_left]; exact hL⟩
        | _ => trivial
  | j :: i :: l, y, k, M, mem, us, h => by
    cases us with
    | nil => exact h.elim
    | cons u us =>
      have e1 : (res1 (n + k) j y.1).2 = (res1 k j y.1).2 := by cases j <;> rfl
      refine ⟨?_, ?_⟩
      · have h1 := h.1
        cases j with
        | d t => obtain ⟨cs, hv, hr⟩ := h1; exact ⟨cs, hv, hr.stp fun g hg => ⟨hS g hg, rfl⟩⟩
        | o t =>
          obtain ⟨E, zz, m, cs, hL⟩ := h1
          exact ⟨E, zz, m, cs, by rw [List.getElem?_append_right (by omega), hn, Nat.add_sub_cancel_left]; exact hL⟩
        | _ => trivial
      · have := resL_r (ks := i :: l) hS hn (mem := mem) h.2
        rw [e1, Nat.add_assoc]
        exact this
end
end Go.Proofs.Ytpfoeeiacfadfaa.Q
/-
  A call, as it is reckoned.
-/
namespace Go.Proofs.Ytpfoeeiacfadfaa.Q
open Go.RowKit

section
variable {P : Program} {e : Env} {F : Nat → Prop} {w0 w w' : World} {L L' : List Res} {s : St} {vs : List (Nat × Value)} {β : Type} {r : β} {o : Oper}
/-- What stood there is as it was. -/
def Gw (w w' : World) : Prop := ∀ g, g < w.heap.size → w'.heap[g]? = w.heap[g]?
theorem Gw.refl (w : World) : Gw w w := fun _ _ => rfl
theorem Gw.lt {w w' : World} (h : Gw w w') {g : Nat} (hg : g < w.heap.size) : g < w'.heap.size := by
  have h1 := h g hg
  rw [Array.getElem?_eq_getElem hg] at h1
  exact (Array.getElem?_eq_some_iff.1 h1).1
theorem Gw.trans {w w1 w2 : World} (h : Gw w w1) (h2 : Gw w1 w2) : Gw w w2 := fun g hg => (h2 g (h.lt hg)).trans (h g hg)
theorem Gw.of {w w' : World} (h : Below w.heap.size w w') : Gw w w' := fun g hg => h.block g hg
theorem svr_tr {F1 F2 : Nat → Prop} {M1 M2 : List Cn} {L1 L2 : List Res} {l l' : List AV} (hl : l.length = l'.length) (h : ∀ us, All2 (AVR F1 w' M1 L1) l us → All2 (AVR F2 w' M2 L2) l' us) {v : Value} (hv : SVR F1 w' M1 L1 (svOf l) v) : SVR F2 w' M2 L2 (svOf l') v := by
  cases l with
  | nil => cases l' with
    | nil => obtain ⟨us, h1, h2⟩ := hv; exact ⟨us, h1, h us h2⟩
    | cons _ _ => cases hl
  | cons a l => cases l with
    | nil => cases l' with
      | nil => cases hl
      | cons a' l' => cases l' with
        | nil => exact (h [v] ⟨hv, trivial⟩).1
        | cons _ _ => cases hl
    | cons b l => cases l' with
      | nil => cases hl
      | cons a' l' => cases l' with
        | nil => cases hl
        | cons b' l' => obtain ⟨us, h1, h2⟩ := hv; exact ⟨us, h1, h us h2⟩
theorem resL_len : ∀ {ks : List PK} {y : Dat ks} {n m : Nat}, (resL n ks y).1.length = (resL m ks y).1.length ∧ (resL n ks y).2 = (resL m ks y).2
  | [], _, _, _ => ⟨rfl, rfl⟩
  | [k], y, n, m => ⟨rfl, by cases k <;> rfl⟩
  | k :: j :: l, y, n, m => by
    have e1 : (res1 n k y.1).2 = (res1 m k y.1).2 := by cases k <;> rfl
    obtain ⟨h1, h2⟩ := resL_len (ks := j :: l) (y := y.2) (n := n + (res1 n k y.1).2.length) (m := m + (res1 m k y.1).2.length)
    exact ⟨by show _ + 1 = _ + 1; rw [h1], by show _ ++ _ = _ ++ _; rw [e1, ← h2, e1]⟩
theorem resL_sl : ∀ {ks : List PK} {y : Dat ks} {n : Nat} {c : Cn}, c ∈ (resL n ks y).2 → ∃ t l, c = .sl t l
  | [], _, _, c, h => absurd h List.not_mem_nil
  | [k], y, n, c, h => by
    cases k with
    | o t => exact ⟨t, y, List.mem_singleton.1 h⟩
    | _ => exact absurd h List.not_mem_nil
  | k :: j :: l, y, n, c, h => by
    rcases List.mem_append.1 h with h | h
    · cases k with
      | o t => exact ⟨t, y.1, List.mem_singleton.1 h⟩
      | _ => exact absurd h List.not_mem_nil
    · exact resL_sl (ks := j :: l) h
theorem flat_res {F1 F2 : Nat → Prop} {M1 M2 : List Cn} {L1 L2 : List Res} : ∀ {ks : List PK} {y : Dat ks} {n m : Nat}, ks.all flatK = true → (resL n ks y).2 = [] ∧ ∀ us, All2 (AVR F1 w' M1 L1) (resL n ks y).1 us → All2 (AVR F2 w' M2 L2) (resL m ks y).1 us
  | [], _, _, _, _ => ⟨rfl, fun us h => by cases us with | nil => trivial | cons _ _ => exact h.elim⟩
  | [k], y, n, m, hf => by
    have hf : (flatK k && true) = true := hf
    rw [Bool.and_true] at hf
    cases k with
    | d t =>
      refine ⟨rfl, fun us h => ?_⟩
      cases us with
      | nil => exact h.elim
      | cons u us => cases us with
        | cons _ _ => exact h.2.elim
        | nil => obtain ⟨cs, hv, hr⟩ := h.1; exact ⟨⟨cs, hv, rc_flat (t := t) hf hr⟩, trivial⟩
    | _ => cases hf
  | k :: j :: l, y, n, m, hf => by
    have hf : (flatK k && (j :: l).all flatK) = true := hf
    rw [Bool.and_eq_true] at hf
    cases k with
    | d t =>
      have ih := fun n m => flat_res (F1 := F1) (F2 := F2) (M1 := M1) (M2 := M2) (L1 := L1) (L2 := L2) (ks := j :: l) (y := y.2) (n := n) (m := m) hf.2
      refine ⟨by show [] ++ _ = []; rw [List.nil_append]; exact (ih _ 0).1, fun us h => ?_⟩
      cases us with
      | nil => exact h.elim
      | cons u us =>
        obtain ⟨cs, hv, hr⟩ := h.1
        exact ⟨⟨cs, hv, rc_flat (t := t) hf.1 hr⟩, (ih _ _).2 us h.2⟩
    | _ => cases hf.1
theorem toD_n {Fc : Nat → Prop} (hS : ∀ g, SF F L w g → SF Fc [] w g) {t : Ty} {a : AV} {v : Value} {x : D t} (hl : lentOf a = []) (ha : AVR F w s.mem L a v) (h : toD s.mem t a = some x) : AVR Fc w [] [] (.dat t x) v := by
  have none' : ∀ {t : Ty} {b : AV}, (∀ t', rdS s.mem t' b = none) → toDS s.mem t b = none := fun {t b} hb => by
    cases t with
    | sl t => exact hb t
    | _ => rfl
  cases a with
  | dat u y =>
    have h : cast u t y = some x := h
    obtain ⟨cs, hv, hr⟩ := cast_r h ha
    exact ⟨cs, hv, hr.stp (fun g hg => ⟨hS g hg, rfl⟩)⟩
  | nil =>
    have h : toDS s.mem t .nil = some x := h
    cases t with
    | sl t =>
      have h : some [] = some x := h
      obtain rfl := Option.some.inj h
      exact ⟨[v], rfl, none, 0, [], by rw [show v = _ from ha]; rfl, Nat.le_refl _, fun _ => rfl, fun a h => (by cases h), RL.nil t⟩
    | int k => have h2 : toDS s.mem (.int k) .nil = none := rfl; rw [h2] at h; cases h
    | bool => have h2 : toDS s.mem .bool .nil = none := rfl; rw [h2] at h; cases h
    | str => have h2 : toDS s.mem .str .nil = none := rfl; rw [h2] at h; cases h
    | arr n t => have h2 : toDS s.mem (.arr n t) .nil = none := rfl; rw [h2] at h; cases h
    | unit => have h2 : toDS s.mem .unit .nil = none := rfl; rw [h2] at h; cases h
    | pair a b => have h2 : toDS s.mem (.pair a b) .nil = none := rfl; rw [h2] at h; cases h
    | opq k => have h2 : toDS s.mem (.opq k) .nil = none := rfl; rw [h2] at h; cases h
  | own q => cases hl
  | view q lo hi => cases hl
  | aview q k p lo hi => cases hl
  | undef => rw [show toD s.mem t .undef = none from none' fun _ => rfl] at h; cases h
  | ptr q k p => rw [show toD s.mem t (.ptr q k p) = none from none' fun _ => rfl] at h; cases h
  | eptr q k p => rw [show toD s.mem t (.eptr q k p) = none from none' fun _ => rfl] at h; cases h
  | rptr u y => rw [show toD s.mem t (.rptr u y) = none from none' fun _ => rfl] at h; cases h
  | fn f => rw [show toD s.mem t (.fn f) = none from none' fun _ => rfl] at h; cases h
theorem argD_n {Fc : Nat → Prop} (hS : ∀ g, SF F L w g → SF Fc [] w g) : ∀ {ks : List PK} {as : List AV} {us : List Value} {d : Dat ks}, as.flatMap lentOf = [] → All2 (AVR F w s.mem L) as us → argD s.mem ks as = some d → ArgR Fc w ks d us := by
  have a1 : ∀ {k : PK} {a : AV} {v : Value} {x : DK k}, lentOf a = [] → AVR F w s.mem L a v → arg1 s.mem k a = some x → Arg1 Fc w k x v := by
    intro k a v x hl ha h
    cases k with
    | d t => exact toD_n hS hl ha h
    | f g =>
      simp only [arg1] at h
      split at h
      · split at h
        · rename_i hb
          obtain rfl := nbeq.1 hb
          exact ha
        · cases h
      · cases h
    | o t => cases h
    | p ts => cases h
  intro ks
  induction ks with
  | nil =>
    intro as us d _ ha h
    cases as with
    | nil => cases us with | nil => rfl | cons _ _ => exact ha.elim
    | cons _ _ => cases h
  | cons k ks ih =>
    intro as us d hl ha h
    cases ks with
    | nil =>
      cases as with
      | nil => cases h
      | cons a as => cases as with
        | cons _ _ => cases h
        | nil => cases us with
          | nil => exact ha.elim
          | cons u us => cases us with
            | cons _ _ => exact ha.2.elim
            | nil => exact ⟨u, rfl, a1 (by simpa using hl) ha.1 h⟩
    | cons j l =>
      cases as with
      | nil => cases h
      | cons a as => cases us with
        | nil => exact ha.elim
        | cons u us =>
          have hl2 : lentOf a = [] ∧ as.flatMap lentOf = [] := by
            rw [List.flatMap_cons] at hl
            exact List.append_eq_nil_iff.1 hl
          unfold argD at h
          simp only at h
          cases hx : arg1 s.mem k a with
          | none => rw [hx] at h; cases h
          | some x =>
            rw [hx] at h
            cases hy : argD s.mem (j :: l) as with
            | none => rw [hy] at h; cases h
            | some y =>
              rw [hy] at h
              obtain rfl := Option.some.inj h
              exact ⟨u, us, rfl, a1 hl2.1 ha.1 hx, ih hl2.2 ha.2 hy⟩
theorem flatKO {k : PK} (h : flatK k = true) : flatO k = true := by cases k <;> first | exact h | cases h
theorem allKO {ks : List PK} (h : ks.all flatK = true) : ks.all flatO = true := List.all_eq_true.2 fun k hk => flatKO (List.all_eq_true.1 h k hk)
theorem resL_fl : ∀ {ks : List PK} {y : Dat ks} {n : Nat} {c : Cn}, ks.all flatO = true → c ∈ (resL n ks y).2 → ∃ t l, c = .sl t l ∧ flat t = true
  | [], _, _, c, _, h => absurd h List.not_mem_nil
  | [k], y, n, c, hf, h => by
    have hf : (flatO k && true) = true := hf
    cases k with
    | o t => exact ⟨t, y, List.mem_singleton.1 h, by simpa [flatO] using hf⟩
    | _ => exact absurd h List.not_mem_nil
  | k :: j :: l, y, n, c, hf, h => by
    have hf : (flatO k && (j :: l).all flatO) = true := hf
    rw [Bool.and_eq_true] at hf
    rcases List.mem_append.1 h with h | h
    · cases k with
      | o t => exact ⟨t, y.1, List.mem_singleton.1 h, hf.1⟩
      | _ => exact absurd h List.not_mem_nil
    · exact resL_fl (ks := j :: l) hf.2 h
theorem rl_flat {S S' : Nat → Prop} {w w' : World} {t : Ty} {cs : List Value} {l : List (D t)} (hf : flat t = true) (h : RL S w t cs l) : RL S' w' t cs l := by
  obtain ⟨css, e, h⟩ := h
  exact ⟨css, e, h.mono fun _ _ h => rc_flat hf h⟩
/-- What is told, with its number in a longer list: nothing leads anywhere. -/
theorem resL_f {F1 F2 : Nat → Prop} {n : Nat} (hn : L.length = n) : ∀ {ks : List PK} {y : Dat ks} {k : Nat} {M mem : List Cn} {us : List Value}, ks.all flatO = true → All2 (AVR F1 w' M L') (resL k ks y).1 us → All2 (AVR F2 w' mem (L ++ L')) (resL (n + k) ks y).1 us
  | [], y, k, M, mem, us, _, h => by
    cases us with
    | nil => trivial
    | cons _ _ => exact h.elim
  | [j], y, k, M, mem, us, hf, h => by
    have hf : (flatO j && true) = true := hf
    cases us with
    | nil => exact h.elim
    | cons u us =>
      cases us with
      | cons _ _ => exact h.2.elim
      | nil =>
        refine ⟨?_, trivial⟩
        have h1 := h.1
        cases j with
        | d t => obtain ⟨cs, hv, hr⟩ := h1; exact ⟨cs, hv, rc_flat (by simpa [flatO] using hf) hr⟩
        | o t =>
          obtain ⟨E, zz, m, cs, hL⟩ := h1
          exact ⟨E, zz, m, cs, by rw [List.getElem?_append_right (by omega), hn, Nat.add_sub_cancel_left]; exact hL⟩
        | _ => trivial
  | j :: i :: l, y, k, M, mem, us, hf, h => by
    have hf : (flatO j && (i :: l).all flatO) = true := hf
    rw [Bool.and_eq_true] at hf
    cases us with
    | nil => exact h.elim
    | cons u us =>
      have e1 : (res1 (n + k) j y.1).2 = (res1 k j y.1).2 := by cases j <;> rfl
      refine ⟨?_, ?_⟩
      · have h1 := h.1
        cases j with
        | d t => obtain ⟨cs, hv, hr⟩ := h1; exact ⟨cs, hv, rc_flat hf.1 hr⟩
        | o t =>
          obtain ⟨E, zz, m, cs, hL⟩ := h1
          exact ⟨E, zz, m, cs, by rw [List.getElem?_append_right (by omega), hn, Nat.add_sub_cancel_left]; exact hL⟩
        | _ => trivial
      · have := resL_f (F2 := F2) (ks := i :: l) hn (mem := mem) hf.2 h.2
        rw [e1, Nat.add_assoc]
        exact this
theorem call_r {K : St → SV → Option β} (h : SR P e F w0 w s vs L) {f : FuncId} {hd : Hd} (hf : FnG P f hd) {as : List AV} {us : List Value} (ha : All2 (AVR F w s.mem L) as us) (hk : callX s hd as K = some r) :
    Calls P f us.toArray w fun en w' => ∃ v s' sv L', en = .returned v ∧ K s' sv = some r ∧ SR P e F w0 w' s' vs L' ∧ Stp w L w' L' ∧ Ext s.mem L s'.mem L' ∧ SVR F w' s'.mem L' sv v ∧ Gw w w' := by
  unfold callX at hk
  split at hk
  · rename_i hfl
    replace hk := bnd_some hk
    obtain ⟨d, h1, hk⟩ := hk
    replace hk := bnd_some hk
    obtain ⟨y, h2, hk⟩ := hk
    have m0 : MR P F w0 w [] [] := ⟨⟨h.m.mo.below, fun i r hi => by simp at hi, fun i j a b g _ hi => by simp at hi⟩, rfl, fun r c q hc => by simp at hc, fun g hg => ⟨(h.m.fz g hg).1, fun r hr => absurd hr List.not_mem_nil⟩⟩
    refine (hf.2 F w0 w d y us h2 (argD_r h.m ha h1) m0).mono ?_
    rintro en w' ⟨L', v, rfl, m', hs, hv⟩
    have e1 := (resL_len (ks := hd.rks) (y := y) (n := s.mem.length) (m := 0)).2
    obtain ⟨g1, g2, g3⟩ := after_call h m' hs (fun i c q hc hq => by
      obtain ⟨t, l, rfl, hft⟩ := resL_fl hfl (List.mem_of_getElem? hc)
      obtain ⟨E, v', cs, c1, c2, c3, c4⟩ := m'.cn i _ _ hc hq
      exact ⟨E, v', cs, c1, c2, c3, rl_flat hft c4⟩)
    refine ⟨v, _, _, _, rfl, hk, by rw [e1]; exact g1, g2, by rw [e1]; exact g3, ?_⟩
    exact ⟨svr_tr (l := (resL 0 hd.rks y).1) (resL_len.1) (fun us hu => resL_f (n := s.mem.length) (k := 0) h.m.len hfl hu) hv, fun g hg => (hs g ⟨hg, fun r hr => absurd hr List.not_mem_nil⟩).2⟩
  · split at hk
    · rename_i hlent
      replace hk := bnd_some hk
      obtain ⟨d, h1, hk⟩ := hk
      replace hk := bnd_some hk
      obtain ⟨y, h2, hk⟩ := hk
      let Fc : Nat → Prop := fun g => F g ∨ ∃ q ∈ L, q.blk = some g
      have hS0 : ∀ g, SF F L w g → SF Fc [] w g := fun g hg => ⟨⟨hg.1.1, fun r hr => absurd hr List.not_mem_nil⟩, fun hc => by
        rcases hc with hc | ⟨q, hq, hb⟩
        · exact hg.2 hc
        · exact hg.1.2 q hq hb⟩
      have m0 : MR P Fc w0 w [] [] := ⟨⟨h.m.mo.below, fun i r hi => by simp at hi, fun i j a b g _ hi => by simp at hi⟩, rfl, fun r c q hc => by simp at hc, fun g hg => ⟨by
        rcases hg with hg | ⟨q, hq, hb⟩
        · exact (h.m.fz g hg).1
        · obtain ⟨i, hi⟩ := List.getElem?_of_mem hq
          exact ((h.m.mo.ok i q hi).blk g hb).2, fun r hr => absurd hr List.not_mem_nil⟩⟩
      refine (hf.2 Fc w0 w d y us h2 (argD_n hS0 hlent ha h1) m0).mono ?_
      rintro en w' ⟨L', v, rfl, m', hs, hv⟩
      have e1 := (resL_len (ks := hd.rks) (y := y) (n := s.mem.length) (m := 0)).2
      have hS : ∀ g, SF Fc L' w' g → SF F (L ++ L') w' g := fun g hg => ⟨⟨hg.1.1, fun r hr => by
        rcases List.mem_append.1 hr with hr | hr
        · exact fun e => hg.2 (.inr ⟨r, hr, e⟩)
        · exact hg.1.2 r hr⟩, fun hF => hg.2 (.inl hF)⟩
      obtain ⟨g1, g2, g3⟩ := after_call h m' hs (fun i c q hc hq => by
        obtain ⟨t, l, rfl⟩ := resL_sl (List.mem_of_getElem? hc)
        obtain ⟨E, v', cs, c1, c2, c3, c4⟩ := m'.cn i _ _ hc hq
        exact ⟨E, v', cs, c1, c2, c3, c4.stp fun g hg => ⟨hS g hg, rfl⟩⟩)
      refine ⟨v, _, _, _, rfl, hk, by rw [e1]; exact g1, g2, by rw [e1]; exact g3, ?_⟩
      exact ⟨svr_tr (l := (resL 0 hd.rks y).1) (resL_len.1) (fun us hu => resL_r (n := s.mem.length) (k := 0) hS h.m.len hu) hv, fun g hg => (hs g ⟨hg, fun r hr => absurd hr List.not_mem_nil⟩).2⟩
    · cases hk
theorem callx_r {K : St → SV → Option β} (h : SR P e F w0 w s vs L) {f : FuncId} {hd : Hd} (hf : XOk P f hd) {as : List AV} {us : List Value} (ha : All2 (AVR F w s.mem L) as us) (hk : callX s hd as K = some r) :
    ∃ v sv, (callFunc f us.toArray).run P w = .ok (.value v) w ∧ K s sv = some r ∧ SVR F w s.mem L sv v := by
  unfold callX at hk
  split at hk
  · have hfl := hf.1
    replace hk := bnd_some hk
    obtain ⟨d, h1, hk⟩ := hk
    replace hk := bnd_some hk
    obtain ⟨y, h2, hk⟩ := hk
    obtain ⟨v, hv, hs⟩ := hf.2 F w d y us h2 (argD_r h.m ha h1)
    have e0 := (flat_res (w' := w) (F1 := F) (F2 := F) (M1 := []) (M2 := []) (L1 := []) (L2 := []) (ks := hd.rks) (y := y) (n := 0) (m := 0) hfl).1
    have e1 := (resL_len (ks := hd.rks) (y := y) (n := s.mem.length) (m := 0)).2
    rw [e1, e0, List.append_nil] at hk
    exact ⟨v, _, hv, hk, svr_tr (l := (resL 0 hd.rks y).1) (resL_len.1) (flat_res hfl).2 hs⟩
  · rename_i hfl
    rw [allKO hf.1] at hfl; cases hfl
end
end Go.Proofs.Ytpfoeeiacfadfaa.Q
/-
  Every operation, as it is reckoned.
-/
namespace Go.Proofs.Ytpfoeeiacfadfaa.Q
open Go.RowKit

section
variable {P : Program} {e : Env} {F : Nat → Prop} {w0 w w' : World} {L L' : List Res} {s : St} {vs : List (Nat × Value)} {β : Type} {r : β} {o : Oper}
structure Ok (P : Program) (e : Env) : Prop where
  t : EnvOk P e
  h : ∀ f hd, e.h f = some hd → FnOk P f hd
/-- Behind an operation. -/
def Aft (P : Program) (e : Env) (F : Nat → Prop) (w0 w w' : World) (s : St) (vs : List (Nat × Value)) (L : List Res) (K : St → SV → Option β) (r : β) (u : Value) : Prop :=
  ∃ s' sv L', K s' sv = some r ∧ SR P e F w0 w' s' vs L' ∧ Stp w L w' L' ∧ Ext s.mem L s'.mem L' ∧ SVR F w' s'.mem L' sv u
/-- What is sure of an operation of each kind. -/
def OpR (P : Program) (e : Env) (F : Nat → Prop) (w0 w : World) (s : St) (vs : List (Nat × Value)) (L : List Res) (o : Oper) (K : St → SV → Option β) (r : β) : Prop :=
  match kdO e o with
  | 0 => ∃ u, (∀ w', (execOp (ev e.N vs) o).run P w' = .ok (.value u) w') ∧ Aft P e F w0 w w s vs L K r u
  | 1 => ∃ u, (execOp (ev e.N vs) o).run P w = .ok (.value u) w ∧ Aft P e F w0 w w s vs L K r u
  | _ => o.wp P (A e.N vs) w (fun a' w' => ∃ u, a' = A e.N (put o.dst u vs) ∧ Aft P e F w0 w w' s vs L K r u ∧ (grow o = true → Gw w w')) Seq.NoX
theorem wp_val {K : St → SV → Option β} {u : Value} (hr : (execOp (ev e.N vs) o).run P w = .ok (.value u) w') (h : Aft P e F w0 w w' s vs L K r u) (hG : grow o = true → Gw w w') : o.wp P (A e.N vs) w (fun a' w' => ∃ u, a' = A e.N (put o.dst u vs) ∧ Aft P e F w0 w w' s vs L K r u ∧ (grow o = true → Gw w w')) Seq.NoX := by
  unfold Oper.wp
  rw [A_eval, hr]
  exact ⟨u, A_put _ _, h, hG⟩
theorem wp_skp {K : St → SV → Option β} (hr : (execOp (ev e.N vs) o).run P w = .ok .skip w') (h : Aft P e F w0 w w' s vs L K r Go.undef) (hG : grow o = true → Gw w w') : o.wp P (A e.N vs) w (fun a' w' => ∃ u, a' = A e.N (put o.dst u vs) ∧ Aft P e F w0 w w' s vs L K r u ∧ (grow o = true → Gw w w')) Seq.NoX := by
  unfold Oper.wp
  rw [A_eval, hr]
  exact ⟨Go.undef, A_put _ _, h, hG⟩
theorem pure_o (hok : Ok P e) (_h : SR P e F w0 w s vs L) {K : St → SV → Option β} {s1 : St} {L1 : List Res} (h1 : SR P e F w0 w s1 vs L1) (hs : Stp w L w L1) (hx : Ext s.mem L s1.mem L1) (hp : pureOp e s1 o (K s1) = some r) :
    ∃ u, (∀ w', (execOp (ev e.N vs) o).run P w' = .ok (.value u) w') ∧ Aft P e F w0 w w s vs L K r u := by
  obtain ⟨sv, u, g1, g2, g3⟩ := pure_r hok.t h1.m h1.f h1.g hp
  exact ⟨u, g3, s1, sv, L1, g1, h1, hs, hx, g2⟩
theorem avs_r (h : SR P e F w0 w s vs L) : ∀ xs : List Operand, All2 (AVR F w s.mem L) (xs.map (av e s)) (xs.map (ev e.N vs))
  | [] => trivial
  | x :: xs => ⟨av_r h.f h.g x, avs_r h xs⟩
theorem op_r (hok : Ok P e) (h : SR P e F w0 w s vs L) {K : St → SV → Option β} (hk : opX e s o K = some r) : OpR P e F w0 w s vs L o K r := by
  obtain ⟨L1, h1, hs, hx⟩ := fzL_r (preR e s o) h
  unfold opX at hk
  generalize hs1 : fzL (preR e s o) s = s1 at hk h1 hx
  simp only at hk
  clear hs1
  have pur : kdO e o = 0 → pureOp e s1 o (K s1) = some r → OpR P e F w0 w s vs L o K r := fun hkd hp => by
    unfold OpR
    rw [hkd]
    exact pure_o hok h h1 hs hx hp
  cases ho : o.op with
  | load T x =>
    simp only [ho] at hk
    replace hk := bnd_some hk
    obtain ⟨i, hi, hk⟩ := hk
    obtain ⟨u, sv, g1, g2, g3⟩ := load_r h1 (hok.t.T _ _ hi) (av_r h1.f h1.g x) hk
    have hkd : kdO e o = 1 := by unfold kdO; rw [ho]
    unfold OpR
    rw [hkd]
    refine ⟨u, ?_, s1, sv, L1, g1, h1, hs, hx, g2⟩
    unfold execOp
    simp only [ho, Sem.run_bind, g3.run (hok.t.T _ _ hi).ef, Result.andThen_ok, Sem.run_pure]
  | store T x y =>
    simp only [ho] at hk
    replace hk := bnd_some hk
    obtain ⟨i, hi, hk⟩ := hk
    obtain ⟨s', w', L', g1, g2, g3, g4, g5, _⟩ := store_r h1 (hok.t.T _ _ hi) (av_r h1.f h1.g x) (av_r h1.f h1.g y) hk
    have hkd : kdO e o = 2 := by unfold kdO; rw [ho]
    unfold OpR
    rw [hkd]
    refine wp_skp (w' := w') ?_ ⟨s', .one .undef, L', g1, g3, hs.trans g4, hx.trans g5, trivial⟩ (fun hg => by unfold grow at hg; rw [ho] at hg; cases hg)
    unfold execOp
    simp only [ho, Sem.run_bind, g2, Result.andThen_ok, Sem.run_pure]
  | alloc T =>
    simp only [ho] at hk
    replace hk := bnd_some hk
    obtain ⟨i, hi, hk⟩ := hk
    replace hk := guard_some hk
    obtain ⟨hg, hk⟩ := hk
    obtain ⟨w', L', u, g1, g2, g3, g4, g5, g6⟩ := alloc_r h1 (hok.t.T _ _ hi) hg
    have hkd : kdO e o = 2 := by unfold kdO; rw [ho]
    unfold OpR
    rw [hkd]
    refine wp_val (w' := w') (u := u) ?_ ⟨_, _, L', hk, g2, hs.trans g3, hx.trans g4, g5⟩ (fun _ => Gw.of g6)
    unfold execOp
    simp only [ho, Sem.run_bind, g1, Result.andThen_ok, Sem.run_pure]
  | box T x =>
    simp only [ho] at hk
    replace hk := bnd_some hk
    obtain ⟨i, hi, hk⟩ := hk
    replace hk := guard_some hk
    obtain ⟨hg, hk⟩ := hk
    rw [Bool.and_eq_true] at hg
    split at hk
    · rename_i fs hf
      obtain ⟨w', L', u, g1, g2, g3, g4, g5, g6⟩ := box_r h1 (hok.t.T _ _ hi) hg.1 (av_r h1.f h1.g x) hg.2 hf
      have hkd : kdO e o = 2 := by unfold kdO; rw [ho]
      unfold OpR
      rw [hkd]
      refine wp_val (w' := w') (u := u) ?_ ⟨_, _, L', hk, g2, hs.trans g3, hx.trans g4, g5⟩ (fun _ => Gw.of g6)
      unfold execOp
      simp only [ho, Sem.run_bind, g1, Result.andThen_ok, Sem.run_pure]
    · cases hk
  | makeSlice T l c =>
    simp only [ho] at hk
    replace hk := bnd_some hk
    obtain ⟨i, hi, hk⟩ := hk
    have hun := (hok.t.T _ _ hi).un
    obtain ⟨ty, E, fts⟩ := i
    simp only at hk hun
    split at hk
    · rename_i t
      obtain ⟨hu, hE, hz, _⟩ := hun
      replace hk := bnd_some hk
      obtain ⟨zl, hl, hk⟩ := hk
      replace hk := bnd_some hk
      obtain ⟨zc, hc, hk⟩ := hk
      replace hk := guard_some hk
      obtain ⟨hg, hk⟩ := hk
      simp only [Bool.and_eq_true, Bool.or_eq_true, decide_eq_true_eq] at hg
      obtain ⟨jl, el⟩ := asIdx_r hl (av_r h1.f h1.g l)
      obtain ⟨jc, ec⟩ := asIdx_r hc (av_r h1.f h1.g c)
      obtain ⟨w', L', u, g1, g2, g3, g4, g5, g6⟩ := make_r h1 hu hE hz hg.1.1.1 jl jc hg.1.1.2 (Nat.le_of_ble_eq_true hg.1.2) hg.2
      have hkd : kdO e o = 2 := by unfold kdO; rw [ho]
      unfold OpR
      rw [hkd]
      refine wp_val (w' := w') (u := u) ?_ ⟨_, _, L', hk, g2, hs.trans g3, hx.trans g4, g5⟩ (fun _ => Gw.of g6)
      unfold execOp
      simp only [ho, el, ec, Sem.run_bind, g1, Result.andThen_ok, Sem.run_pure]
    · cases hk
  | buildSlice T n ps =>
    simp only [ho] at hk
    replace hk := bnd_some hk
    obtain ⟨i, hi, hk⟩ := hk
    have hun := (hok.t.T _ _ hi).un
    obtain ⟨ty, E, fts⟩ := i
    simp only at hk hun
    split at hk
    · rename_i t
      obtain ⟨hu, hE, hz, _⟩ := hun
      replace hk := guard_some hk
      obtain ⟨hg, hk⟩ := hk
      simp only [Bool.and_eq_true] at hg
      replace hk := bnd_some hk
      obtain ⟨xs, hxs, hk⟩ := hk
      obtain rfl := nbeq.1 hg.1.1
      obtain ⟨w', L', u, g1, g2, g3, g4, g5, g6⟩ := build_r h1 hu hE hz hg.1.2 (Nat.le_of_ble_eq_true hg.2) hxs
      have hkd : kdO e o = 2 := by unfold kdO; rw [ho]
      unfold OpR
      rw [hkd]
      refine wp_val (w' := w') (u := u) ?_ ⟨_, _, L', hk, g2, hs.trans g3, hx.trans g4, g5⟩ (fun _ => Gw.of g6)
      unfold execOp
      simp only [ho, Sem.run_bind, g1, Result.andThen_ok, Sem.run_pure]
    · cases hk
  | convert S T x =>
    simp only [ho] at hk
    split at hk
    · rename_i E1 f1 E2 f2 hS hT
      replace hk := bnd_some hk
      obtain ⟨l, hl, hk⟩ := hk
      have hu1 := (hok.t.T _ _ hS).un
      have hu2 := (hok.t.T _ _ hT).un
      simp only at hu1 hu2
      obtain ⟨hu1, hE1, _, hE8⟩ := hu1
      have hkd : kdO e o = 1 := by unfold kdO; rw [ho]; simp only [hS]
      unfold OpR
      rw [hkd]
      have hr := b2s_r hu1 hE8 hu2 (rdS_r h1.m (av_r h1.f h1.g x) hl)
      refine ⟨_, ?_, s1, _, L1, hk, h1, hs, hx, svr_str _⟩
      unfold execOp
      simp only [ho, Sem.run_bind, hr, Result.andThen_ok, Sem.run_pure]
    · cases hk
    · cases hk
    · rename_i hn1 hn2 hn3
      refine pur ?_ hk
      unfold kdO
      rw [ho]
      simp only
  | call c =>
    simp only [ho] at hk
    obtain ⟨cal, args, ats⟩ := c
    simp only at hk
    split at hk
    · rename_i x
      split at hk
      rotate_left
      · cases hk
      rename_i f hx1
      split at hk
      · rename_i hd hh
        have hkd : kdO e o = 2 := by unfold kdO; rw [ho]
        unfold OpR
        rw [hkd]
        have hfv : ev e.N vs x = .func (.func f) #[] #[] := by
          have h9 := av_r h1.f h1.g x
          rw [hx1] at h9
          exact h9
        have e1 : (args.map (ev e.N vs)) = (args.toList.map (ev e.N vs)).toArray := by rw [← Array.toList_map, Array.toArray_toList]
        rcases hok.h f hd hh with hfn | hfn
        · have hc := call_r h1 hfn (avs_r h1 args.toList) hk
          have hrun : (execOp (A e.N vs).eval o).run P w = .ok (.enter f (args.map (ev e.N vs))) w := by
            rw [A_eval]
            unfold execOp
            simp [ho, resolve, invoke, Deferred.ofValue, run_go hfn.1, hfv]
          unfold Oper.wp
          rw [hrun]
          rw [e1]
          refine hc.mono ?_
          rintro en w' ⟨v, s', sv, L', rfl, g1, g2, g3, g4, g5, g6⟩
          exact ⟨v, A_put _ _, ⟨s', sv, L', g1, g2, hs.trans g3, hx.trans g4, g5⟩, fun _ => g6⟩
        · obtain ⟨v, sv, g0, g1, g5⟩ := callx_r h1 hfn (avs_r h1 args.toList) hk
          refine wp_val (w' := w) (u := v) ?_ ⟨s1, sv, L1, g1, h1, hs, hx, g5⟩ (fun _ => Gw.refl _)
          unfold execOp
          simp only [ho, resolve, hfv, e1, Deferred.ofValue, invoke, Sem.run_bind, Sem.run_pure, Result.andThen_ok, Array.empty_append, Array.append_empty, g0]
      · cases hk
    · split at hk
      · rename_i x y T U ha hat
        have e1 : args = #[x, y] := by rw [← Array.toArray_toList (xs := args), ha]
        have e2 : ats = #[T, U] := by rw [← Array.toArray_toList (xs := ats), hat]
        subst e1
        subst e2
        replace hk := guard_some hk
        obtain ⟨hTU, hk⟩ := hk
        obtain rfl := nbeq.1 hTU
        replace hk := bnd_some hk
        obtain ⟨i, hi, hk⟩ := hk
        have hun := (hok.t.T _ _ hi).un
        obtain ⟨ty, E, fts⟩ := i
        simp only at hk hun
        split at hk
        · rename_i t
          obtain ⟨hu, hE, hz, _⟩ := hun
          replace hk := bnd_some hk
          obtain ⟨ys, hy, hk⟩ := hk
          obtain ⟨s', sv, w', L', v', g1, g2, g3, g4, g5, g6⟩ := append_r (ty := o.type) h1 hu hE hz (av_r h1.f h1.g x) (rdS_r h1.m (av_r h1.f h1.g y) hy) hk
          have hkd : kdO e o = 2 := by unfold kdO; rw [ho]
          unfold OpR
          rw [hkd]
          refine wp_val (w' := w') (u := v') ?_ ⟨s', sv, L', g1, g3, hs.trans g4, hx.trans g5, g6⟩ (fun hg => by unfold grow at hg; rw [ho] at hg; cases hg)
          unfold execOp
          simp only [ho, resolve, invoke, builtin, Sem.run_bind, Sem.run_pure, Result.andThen_ok, List.map_toArray, List.map_cons, List.map_nil, g2]
        · cases hk
      · cases hk
    · exact pur (by unfold kdO; rw [ho]) hk
    · exact pur (by unfold kdO; rw [ho]) hk
    · exact pur (by unfold kdO; rw [ho]) hk
    · cases hk
  | _ =>
    simp only [ho] at hk
    exact pur (by unfold kdO; rw [ho]) hk
/-- These blocks are as they were. -/
def Cr (wS : World) (LS : List Res) (R : List Nat) (w' : World) : Prop := ∀ r, inL r R = true → ∀ g T cs, LS[r]? = some (.arr g T cs) → w'.heap[g]? = wS.heap[g]?
/-- The same in a stretch that makes new things, and does not turn what it reads, since the world wS. -/
def OpG (P : Program) (e : Env) (F : Nat → Prop) (w0 wS w : World) (LS : List Res) (R : List Nat) (s : St) (vs : List (Nat × Value)) (L : List Res) (o : Oper) (K : St → SV → Option β) (r : β) : Prop :=
  match kdG e o with
  | 0 => ∃ u, (∀ w', Cr wS LS R w' → (execOp (ev e.N vs) o).run P w' = .ok (.value u) w') ∧ Aft P e F w0 w w s vs L K r u
  | 1 => ∃ u, (execOp (ev e.N vs) o).run P w = .ok (.value u) w ∧ Aft P e F w0 w w s vs L K r u
  | _ => o.wp P (A e.N vs) w (fun a' w' => ∃ u, a' = A e.N (put o.dst u vs) ∧ Aft P e F w0 w w' s vs L K r u ∧ Cr wS LS R w') Seq.NoX
theorem op_g (hok : Ok P e) {wS : World} {memS : List Cn} {LS : List Res} {R : List Nat} (mS : MR P F w0 wS memS LS) (hX : Ext memS LS s.mem L) (hW : Cr wS LS R w) (h : SR P e F w0 w s vs L) {K : St → SV → Option β} (hk : opG e memS R s o K = some r) : OpG P e F w0 wS w LS R s vs L o K r := by
  have grw : ∀ w', Gw w w' → Cr wS LS R w' := fun w' hG q hq g T cs hL => by
    obtain ⟨cs', hc'⟩ := hX.1 q g T cs hL
    rw [hG g ((h.m.mo.ok q _ hc').blk g rfl).2, hW q hq g T cs hL]
  have key : (∀ T x, o.op ≠ .load T x) → (∀ T x y, o.op ≠ .store T x y) → (match kdO e o with | 0 => opX e s o K | 1 => opX e s o K | _ => (match grow o with | true => opX e s o K | false => none)) = some r → OpG P e F w0 wS w LS R s vs L o K r := fun hn _ hk => by
    have e1 : kdG e o = kdO e o := by
      unfold kdG
      split
      · rename_i T x ho; exact absurd ho (hn T x)
      · rfl
    unfold OpG
    rw [e1]
    cases hd : kdO e o with
    | zero =>
      rw [hd] at hk
      have := op_r hok h hk
      unfold OpR at this
      rw [hd] at this
      obtain ⟨u, g1, g2⟩ := this
      exact ⟨u, fun w' _ => g1 w', g2⟩
    | succ n => cases n with
      | zero =>
        rw [hd] at hk
        have := op_r hok h hk
        unfold OpR at this
        rw [hd] at this
        exact this
      | succ n =>
        rw [hd] at hk
        simp only at hk
        split at hk
        · rename_i hg
          have := op_r hok h hk
          unfold OpR at this
          rw [hd] at this
          exact Oper.wp_mono (fun a w' ⟨u, h1, h2, h3⟩ => ⟨u, h1, h2, grw w' (h3 hg)⟩) this
        · cases hk
  cases ho : o.op with
  | store T x y =>
    unfold opG at hk
    rw [ho] at hk
    simp only at hk
    split at hk
    · rename_i hst
      have hkd : kdG e o = 2 := by unfold kdG kdO; rw [ho]
      unfold OpG
      rw [hkd]
      obtain ⟨L1, h1, hs, hx⟩ := fzL_r (preR e s o) h
      unfold opX at hk
      generalize hs1 : fzL (preR e s o) s = s1 at hk h1 hx
      simp only [ho] at hk
      replace hk := bnd_some hk
      obtain ⟨i, hi, hk⟩ := hk
      obtain ⟨s', w', L', g1, g2, g3, g4, g5, g6⟩ := store_r h1 (hok.t.T _ _ hi) (av_r h1.f h1.g x) (av_r h1.f h1.g y) hk
      have hC : Cr wS LS R w' := fun q hq g T2 cs hL => by
        obtain ⟨cs1, hc1⟩ := hX.1 q g T2 cs hL
        obtain ⟨cs2, hc2⟩ := hx.1 q g T2 cs1 hc1
        have hne : ∀ k p, av e s1 x ≠ .ptr q k p := fun k p he => by
          rw [hs1, he] at hst
          have hst : (!inL q R) = true := hst
          rw [hq] at hst; cases hst
        have hc3 := g6 q g T2 cs2 hc2 hne
        have a1 : Arr T2 w g cs2 := (h1.m.mo.ok q _ hc2).2
        have a2 : Arr T2 w' g cs2 := (g3.m.mo.ok q _ hc3).2
        rw [show w'.heap[g]? = _ from a2, ← hW q hq g T2 cs hL, show w.heap[g]? = _ from a1]
      unfold Oper.wp
      rw [A_eval]
      have hrun : (execOp (ev e.N vs) o).run P w = .ok .skip w' := by
        unfold execOp
        simp only [ho, Sem.run_bind, g2, Result.andThen_ok, Sem.run_pure]
      rw [hrun]
      exact ⟨Go.undef, A_put _ _, ⟨s', .one .undef, L', g1, g3, hs.trans g4, hx.trans g5, trivial⟩, hC⟩
    · cases hk
  | load T x =>
    unfold opG at hk
    rw [ho] at hk
    simp only at hk
    split at hk
    · rename_i hold
      have hkd : kdG e o = 0 := by unfold kdG; rw [ho]
      unfold OpG
      rw [hkd]
      have hav := av_r h.f h.g x
      obtain ⟨L1, h1, hs, hx⟩ := fzL_r (preR e s o) h
      have hk2 := hk
      unfold opX at hk2
      generalize hs1 : fzL (preR e s o) s = s1 at hk2 h1 hx
      simp only [ho] at hk2
      replace hk2 := bnd_some hk2
      obtain ⟨i, hi, hk2⟩ := hk2
      obtain ⟨u, sv, g1, g2, g3⟩ := load_r h1 (hok.t.T _ _ hi) (av_r h1.f h1.g x) hk2
      refine ⟨u, fun w' hw' => ?_, s1, sv, L1, g1, h1, hs, hx, g2⟩
      have hblk : ∀ a, ev e.N vs x = .pointer (some a) → w'.heap[a.block]? = w.heap[a.block]? := fun a ha => by
        unfold oldP at hold
        split at hold
        · rename_i q k p hq
          split at hold
          · rename_i ts fs hm
            obtain ⟨q0, hq0⟩ : ∃ q0, LS[q]? = some q0 := by
              have hlt : q < memS.length := (List.getElem?_eq_some_iff.1 hm).1
              rw [← mS.len] at hlt
              exact ⟨_, List.getElem?_eq_getElem hlt⟩
            obtain ⟨g, T', ps, rfl, _, _⟩ := mS.cn q _ _ hm hq0
            obtain ⟨cs', hc'⟩ := hX.1 q g T' _ hq0
            have hab : a.block = g := by
              rw [hq, ha] at hav
              cases k with
              | none =>
                obtain ⟨_, g', T2, cs2, hL2, hv⟩ := hav
                rw [hc'] at hL2
                injection hL2 with hL2; injection hL2 with e1 e2 e3
                injection hv with hv; injection hv with hv
                rw [hv, e1]
              | some k =>
                obtain ⟨g', T2, cs2, ts2, fs2, t2, hL2, _, _, _, hv⟩ := hav
                rw [hc'] at hL2
                injection hL2 with hL2; injection hL2 with e1 e2 e3
                injection hv with hv; injection hv with hv
                rw [hv, e1]
            rw [hab, hw' q hold g T' _ hq0, hW q hold g T' _ hq0]
          · cases hold
        · cases hold
      have g4 := (g3.stp hblk).run (hok.t.T _ _ hi).ef
      unfold execOp
      simp only [ho, Sem.run_bind, g4, Result.andThen_ok, Sem.run_pure]
    · cases hk
  | _ =>
    refine key (fun T x hn => by rw [ho] at hn; cases hn) (fun T x y hn => by rw [ho] at hn; cases hn) ?_
    unfold opG at hk
    rw [ho] at hk
    exact hk
end
end Go.Proofs.Ytpfoeeiacfadfaa.Q
/-
  Statements and code, as they are reckoned.
-/
namespace Go.Proofs.Ytpfoeeiacfadfaa.Q
open Go.RowKit

/-- A stretch of code that has a reckoning of its own: from these slots on. -/
structure UH where
  D : Type
  O : Type
  pk : St → Option D
  up : D → St
  L : D → Option O
  out : O → Ex × St
  go : {β : Type} → O → (Ex → St → Option β) → Option β
  ok : ∀ {β : Type} (y : O) (K : Ex → St → Option β), go y K = K (out y).1 (out y).2
def loops : Code → Nat
  | .seq a b => loops a + loops b
  | .cond _ a b => loops a + loops b + 1
  | .block _ b => loops b
  | .loop b => loops b + 1
  | .region _ _ draw => (match draw with | true => 1 | false => 0)
  | _ => 0
def unitX {β : Type} (u : UH) (s : St) (K : Ex → St → Option β) : Option β := bnd (u.pk s) fun d => bnd (u.L d) fun o => u.go o K
/-- A stretch that makes new things alone. -/
def drawG (e : Env) (ops : Array Oper) : Bool := Region.lexB .any ops && Seq.kinds .any ops (kdsG e ops.toList) ops.size
def drawOk (e : Env) (ops : Array Oper) : Bool := Region.lexB .any ops && Seq.kinds .any ops (kds e ops.toList) ops.size
def exec {β : Type} (e : Env) (hl : Nat → Option UH) : Nat → Code → St → (Ex → St → Option β) → Option β
  | _, .skip, s, K => K .nrm s
  | n, .region _ ops draw, s, K => (match draw with
    | false => runOps e ops ops.toList s (K .nrm)
    | true => (match hl n with
      | some u => unitX u s K
      | none => (match drawOk e ops with
        | true => runOps e ops ops.toList s (K .nrm)
        | false => (match drawG e ops with
          | true => runG e s.mem (readsG e s ops.toList) ops ops.toList s (K .nrm)
          | false => none))))
  | n, .seq a b, s, K => exec e hl n a s fun x s => (match x with
    | .nrm => exec e hl (n + loops a) b s K
    | x => K x s)
  | n, .cond c a b, s, K => (match hl n with
    | some u => unitX u s K
    | none => bnd (asBool' (av e s c)) fun q => cnd q (exec e hl (n + 1) a s K) (exec e hl (n + 1 + loops a) b s K))
  | n, .block id b, s, K => exec e hl n b s fun x s => (match x with
    | .ext j => (match Nat.beq j id with
      | true => K .nrm s
      | false => K (.ext j) s)
    | x => K x s)
  | n, .loop _, s, K => (match hl n with
    | some u => unitX u s K
    | none => none)
  | _, .exit id, s, K => K (.ext id) s
  | _, .ret, s, K => K .ret s
  | _, _, _, _ => none
/-- The same way out. -/
def xr : Exit → Ex → Prop
  | .normal, .nrm => True
  | .exit i, .ext j => i = j
  | .ret, .ret => True
  | _, _ => False
section
variable {P : Program} {e : Env} {F : Nat → Prop} {w0 w w' : World} {L L' : List Res} {s : St} {vs : List (Nat × Value)} {β : Type} {r : β} {o : Oper}
structure Okk (P : Program) (e : Env) : Prop where
  o : Ok P e
  mixed : P.follows .mixedOrders = true
theorem SR.gr (h : SR P e F w0 w s vs L) (hb : Below w.heap.size w w') : SR P e F w0 w' s vs L ∧ Stp w L w' L := by
  obtain ⟨m', s'⟩ := h.m.gr hb
  exact ⟨SR.upd0 (mem' := s.mem) h (fun r => Kp.refl r) s' m'.mo m'.len (fun i c q h1 h2 => .inl ⟨h1, h2⟩), s'⟩
theorem evt {N : Nat} {vs : List (Nat × Value)} {k : Nat} : ev N vs (.tmp k) = bif Nat.blt k N then gv vs k else Go.undef := rfl
theorem wpSeq_mono {ops : Array Oper} {C : World → Prop} {kd : List Nat} {Q Q' : Act → World → Prop} (hq : ∀ a w, Q a w → Q' a w) : ∀ (l : List Oper) (i : Nat) (a : Act) (w : World), Seq.wpSeq P ops C kd Q i l a w → Seq.wpSeq P ops C kd Q' i l a w
  | [], _, _, _, h => hq _ _ h
  | o :: l, i, a, w, h => by
    unfold Seq.wpSeq at h ⊢
    split at h
    · rename_i hw
      rw [if_pos hw]
      split at h
      · rename_i hz
        obtain ⟨u, h1, h2⟩ := h
        exact ⟨u, h1, wpSeq_mono hq l _ _ _ h2⟩
      · rename_i hz
        obtain ⟨u, h1, h2⟩ := h
        exact ⟨u, h1, wpSeq_mono hq l _ _ _ h2⟩
      · exact Oper.wp_mono (fun a w ⟨h1, h2⟩ => ⟨h1, wpSeq_mono hq l _ _ _ h2⟩) h
    · rename_i hw
      rw [if_neg hw]
      exact wpSeq_mono hq l _ _ _ h
theorem frr_put {sv : SV} {u : Value} {mem : List Cn} {fr : List (Nat × SV)} {d : Nat} (hf : FrR e F w mem L fr vs) (hs : SVR F w mem L sv u) (hd : Nat.blt d e.N = true) : FrR e F w mem L ((d, sv) :: fr) ((d, u) :: vs) := by
  intro k
  have hk := hf k
  rw [evt] at hk ⊢
  rw [gv_cons]
  simp only [lks]
  cases hb : Nat.beq d k with
  | true =>
    obtain rfl := nbeq.1 hb
    simp only [hd, if_true, cond_true]
    exact hs
  | false =>
    have hne := nbeq'.1 hb
    simp only [hne, if_false]
    exact hk
theorem putX_r {K : St → Option β} {d : Option Tmp} {sv : SV} {u : Value} (h : SR P e F w0 w s vs L) (hs : SVR F w s.mem L sv u) (hk : putX e.N d sv s K = some r) : ∃ s', K s' = some r ∧ SR P e F w0 w s' (put d u vs) L := by
  cases d with
  | none => exact ⟨s, hk, h⟩
  | some d =>
    unfold putX at hk
    simp only at hk
    split at hk
    · rename_i hd
      exact ⟨_, hk, h.m, frr_put h.f hs hd, h.g⟩
    · cases hk
theorem putX_m {K : St → Option β} {d : Option Tmp} {sv : SV} {u : Value} (h : SR P e F w0 w s vs L) (hs : SVR F w s.mem L sv u) (hk : putX e.N d sv s K = some r) : ∃ s', K s' = some r ∧ SR P e F w0 w s' (put d u vs) L ∧ s'.mem = s.mem := by
  cases d with
  | none => exact ⟨s, hk, h, rfl⟩
  | some d =>
    unfold putX at hk
    simp only at hk
    split at hk
    · rename_i hd
      exact ⟨_, hk, ⟨h.m, frr_put h.f hs hd, h.g⟩, rfl⟩
    · cases hk
theorem SR.kn (h : SR P e F w0 w s vs L) {d : Nat} {c : Bool} (hc : SVR F w s.mem L (.one (.dat .bool c)) (ev e.N vs (.tmp d))) : SR P e F w0 w (kn d c s) vs L := by
  refine ⟨h.m, fun k => ?_, h.g⟩
  simp only [Q.kn, lks]
  cases hb : Nat.beq d k with
  | true =>
    obtain rfl := nbeq.1 hb
    exact hc
  | false => exact h.f k
theorem want_r {yes no : St → Option β} {ops : Array Oper} (h : SR P e F w0 w s vs L) (hk : wantX e ops o s yes no = some r) : (Region.wanted o (yielded ops (A e.N vs).tmps) = true ∧ ∃ s1, yes s1 = some r ∧ SR P e F w0 w s1 vs L) ∨ (Region.wanted o (yielded ops (A e.N vs).tmps) = false ∧ ∃ s1, no s1 = some r ∧ SR P e F w0 w s1 vs L) := by
  unfold wantX at hk
  split at hk
  · rename_i hg; exact .inl ⟨wt_none hg _, s, hk, h⟩
  · rename_i j b hg
    split at hk
    · rename_i d hd
      split at hk
      · rename_i hN
        have hv := h.f d
        have hev : ev e.N vs (.tmp d) = gv vs d := by rw [evt, hN]; rfl
        have hv0 := hv
        rw [hev] at hv
        split at hk
        · rename_i t x hl
          rw [hl] at hv hv0
          split at hk
          · rename_i c
            have hb := (avr_bool (F := F) (w := w) (mem := s.mem) (L := L)).1 hv
            have hs := h.kn hv0
            cases c <;> cases b <;> simp only [cnd] at hk
            · exact .inl ⟨wt_some hg hd hN hb, _, hk, hs⟩
            · exact .inr ⟨wt_not hg hd hN hb, _, hk, hs⟩
            · exact .inr ⟨wt_not hg hd hN hb, _, hk, hs⟩
            · exact .inl ⟨wt_some hg hd hN hb, _, hk, hs⟩
          · cases hk
        · rename_i hl
          rw [hl] at hv
          obtain ⟨us, h1, h2⟩ := hv
          cases us with
          | nil => exact .inr ⟨wt_undef hg hd hN h1, s, hk, h⟩
          | cons _ _ => exact h2.elim
        · cases hk
      · cases hk
    · cases hk
theorem want_m {yes no : St → Option β} {ops : Array Oper} (h : SR P e F w0 w s vs L) (hk : wantX e ops o s yes no = some r) : (Region.wanted o (yielded ops (A e.N vs).tmps) = true ∧ ∃ s1, s1.mem = s.mem ∧ yes s1 = some r ∧ SR P e F w0 w s1 vs L) ∨ (Region.wanted o (yielded ops (A e.N vs).tmps) = false ∧ ∃ s1, s1.mem = s.mem ∧ no s1 = some r ∧ SR P e F w0 w s1 vs L) := by
  unfold wantX at hk
  split at hk
  · rename_i hg; exact .inl ⟨wt_none hg _, s, rfl, hk, h⟩
  · rename_i j b hg
    split at hk
    · rename_i d hd
      split at hk
      · rename_i hN
        have hv := h.f d
        have hev : ev e.N vs (.tmp d) = gv vs d := by rw [evt, hN]; rfl
        have hv0 := hv
        rw [hev] at hv
        split at hk
        · rename_i t x hl
          rw [hl] at hv hv0
          split at hk
          · rename_i c
            have hb := (avr_bool (F := F) (w := w) (mem := s.mem) (L := L)).1 hv
            have hs := h.kn hv0
            cases c <;> cases b <;> simp only [cnd] at hk
            · exact .inl ⟨wt_some hg hd hN hb, kn d _ s, rfl, hk, hs⟩
            · exact .inr ⟨wt_not hg hd hN hb, kn d _ s, rfl, hk, hs⟩
            · exact .inr ⟨wt_not hg hd hN hb, kn d _ s, rfl, hk, hs⟩
            · exact .inl ⟨wt_some hg hd hN hb, kn d _ s, rfl, hk, hs⟩
          · cases hk
        · rename_i hl
          rw [hl] at hv
          obtain ⟨us, h1, h2⟩ := hv
          cases us with
          | nil => exact .inr ⟨wt_undef hg hd hN h1, s, rfl, hk, h⟩
          | cons _ _ => exact h2.elim
        · cases hk
      · cases hk
    · cases hk
theorem run_r (hok : Okk P e) {ops : Array Oper} {kd : List Nat} {K : St → Option β} : ∀ (l : List Oper) (i : Nat) {s : St} {vs : List (Nat × Value)} {L : List Res} {w : World}, (∀ j o, l[j]? = some o → kd.getD (i + j) 0 = kdO e o) → SR P e F w0 w s vs L → runOps e ops l s K = some r →
    Seq.wpSeq P ops (fun _ => True) kd (fun a w' => ∃ s' vs' L', a = A e.N vs' ∧ K s' = some r ∧ SR P e F w0 w' s' vs' L' ∧ Stp w L w' L') i l (A e.N vs) w
  | [], i, s, vs, L, w, _, h, hk => ⟨s, vs, L, rfl, hk, h, Stp.refl _ _⟩
  | o :: l, i, s, vs, L, w, hkd, h, hk => by
    have hkd' : ∀ j o, l[j]? = some o → kd.getD (i + 1 + j) 0 = kdO e o := fun j o ho => by
      have := hkd (j + 1) o (by simpa using ho)
      rwa [show i + (j + 1) = i + 1 + j by omega] at this
    have h0 : kd.getD i 0 = kdO e o := hkd 0 o rfl
    have next : ∀ {s0 : St} {w' : World} {u : Value}, Aft P e F w0 w w' s0 vs L (fun s v => putX e.N o.dst v s fun s => runOps e ops l s K) r u → Seq.wpSeq P ops (fun _ => True) kd (fun a w' => ∃ s' vs' L', a = A e.N vs' ∧ K s' = some r ∧ SR P e F w0 w' s' vs' L' ∧ Stp w L w' L') (i + 1) l (A e.N (put o.dst u vs)) w' := fun {_ w' u} ha => by
      obtain ⟨s1, sv, L1, g1, g2, g3, g4, g5⟩ := ha
      obtain ⟨s2, k1, k2⟩ := putX_r g2 g5 g1
      have ih := run_r hok l (i + 1) hkd' k2 k1
      refine wpSeq_mono (fun a w'' hq => ?_) _ _ _ _ ih
      obtain ⟨s', vs', L', q1, q2, q3, q4⟩ := hq
      exact ⟨s', vs', L', q1, q2, q3, g3.trans q4⟩
    unfold Seq.wpSeq
    rcases want_r h hk with ⟨hw, s0, hk, h⟩ | ⟨hw, s0, hk, h⟩
    · rw [if_pos hw]
      have ho := op_r hok.o h hk
      unfold OpR at ho
      rw [h0]
      split
      · rename_i hz
        simp only [hz] at ho
        obtain ⟨u, g1, g2⟩ := ho
        exact ⟨u, fun w' _ => by rw [A_eval]; exact g1 w', by rw [A_put]; exact next g2⟩
      · rename_i hz
        simp only [hz] at ho
        obtain ⟨u, g1, g2⟩ := ho
        exact ⟨u, by rw [A_eval]; exact g1, by rw [A_put]; exact next g2⟩
      · rename_i hz0 hz1
        split at ho
        · exact absurd ‹_› hz0
        · exact absurd ‹_› hz1
        · refine Oper.wp_mono (fun a' w' hq => ?_) ho
          obtain ⟨u, rfl, hq, _⟩ := hq
          exact ⟨trivial, next hq⟩
    · rw [if_neg (by rw [hw]; decide)]
      obtain ⟨s2, k1, k2⟩ := putX_r (sv := .tup []) (u := Go.undef) h ⟨[], rfl, trivial⟩ hk
      rw [A_put]
      exact run_r hok l (i + 1) hkd' k2 k1
theorem run_gc (hok : Okk P e) {ops : Array Oper} {kd : List Nat} {K : St → Option β} {wS : World} {memS : List Cn} {LS : List Res} {R : List Nat} (mS : MR P F w0 wS memS LS) : ∀ (l : List Oper) (i : Nat) {s : St} {vs : List (Nat × Value)} {L : List Res} {w : World}, (∀ j o, l[j]? = some o → kd.getD (i + j) 0 = kdG e o) → Ext memS LS s.mem L → Cr wS LS R w → SR P e F w0 w s vs L → runG e memS R ops l s K = some r →
    Seq.wpSeq P ops (Cr wS LS R) kd (fun a w' => ∃ s' vs' L', a = A e.N vs' ∧ K s' = some r ∧ SR P e F w0 w' s' vs' L' ∧ Stp w L w' L' ∧ Ext memS LS s'.mem L' ∧ Cr wS LS R w') i l (A e.N vs) w
  | [], i, s, vs, L, w, _, hX, hW, h, hk => ⟨s, vs, L, rfl, hk, h, Stp.refl _ _, hX, hW⟩
  | o :: l, i, s, vs, L, w, hkd, hX, hW, h, hk => by
    have hkd' : ∀ j o, l[j]? = some o → kd.getD (i + 1 + j) 0 = kdG e o := fun j o ho => by
      have := hkd (j + 1) o (by simpa using ho)
      rwa [show i + (j + 1) = i + 1 + j by omega] at this
    have h0 : kd.getD i 0 = kdG e o := hkd 0 o rfl
    have next : ∀ {s0 : St} {w' : World} {u : Value}, Ext memS LS s0.mem L → Cr wS LS R w' → Aft P e F w0 w w' s0 vs L (fun s v => putX e.N o.dst v s fun s => runG e memS R ops l s K) r u → Seq.wpSeq P ops (Cr wS LS R) kd (fun a w' => ∃ s' vs' L', a = A e.N vs' ∧ K s' = some r ∧ SR P e F w0 w' s' vs' L' ∧ Stp w L w' L' ∧ Ext memS LS s'.mem L' ∧ Cr wS LS R w') (i + 1) l (A e.N (put o.dst u vs)) w' := fun {s0 w' u} hX hG ha => by
      obtain ⟨s1, sv, L1, g1, g2, g3, g4, g5⟩ := ha
      obtain ⟨s2, k1, k2, k3⟩ := putX_m g2 g5 g1
      have ih := run_gc hok mS l (i + 1) hkd' (by rw [k3]; exact hX.trans g4) hG k2 k1
      refine wpSeq_mono (fun a w'' hq => ?_) _ _ _ _ ih
      obtain ⟨s', vs', L', q1, q2, q3, q4, q5⟩ := hq
      exact ⟨s', vs', L', q1, q2, q3, g3.trans q4, q5⟩
    unfold Seq.wpSeq
    rcases want_m h hk with ⟨hw, s0, hm0, hk, h⟩ | ⟨hw, s0, hm0, hk, h⟩
    · rw [if_pos hw]
      have hX0 : Ext memS LS s0.mem L := by rw [hm0]; exact hX
      have ho := op_g hok.o mS hX0 hW h hk
      unfold OpG at ho
      rw [h0]
      split
      · rename_i hz
        simp only [hz] at ho
        obtain ⟨u, g1, g2⟩ := ho
        exact ⟨u, fun w' hw' => by rw [A_eval]; exact g1 w' hw', by rw [A_put]; exact next hX0 hW g2⟩
      · rename_i hz
        simp only [hz] at ho
        obtain ⟨u, g1, g2⟩ := ho
        exact ⟨u, by rw [A_eval]; exact g1, by rw [A_put]; exact next hX0 hW g2⟩
      · rename_i hz0 hz1
        split at ho
        · exact absurd ‹_› hz0
        · exact absurd ‹_› hz1
        · refine Oper.wp_mono (fun a' w' hq => ?_) ho
          obtain ⟨u, rfl, hq, hG⟩ := hq
          exact ⟨hG, next hX0 hG hq⟩
    · rw [if_neg (by rw [hw]; decide)]
      obtain ⟨s2, k1, k2, k3⟩ := putX_m (sv := .tup []) (u := Go.undef) h ⟨[], rfl, trivial⟩ hk
      rw [A_put]
      exact run_gc hok mS l (i + 1) hkd' (by rw [k3, hm0]; exact hX) hW k2 k1
theorem run_g (hok : Okk P e) {ops : Array Oper} {kd : List Nat} {K : St → Option β} {wS : World} {memS : List Cn} {LS : List Res} {R : List Nat} (mS : MR P F w0 wS memS LS) : ∀ (l : List Oper) (i : Nat) {s : St} {vs : List (Nat × Value)} {L : List Res} {w : World}, (∀ j o, l[j]? = some o → kd.getD (i + j) 0 = kdG e o) → Ext memS LS s.mem L → Cr wS LS R w → SR P e F w0 w s vs L → runG e memS R ops l s K = some r →
    Seq.wpSeq P ops (Cr wS LS R) kd (fun a w' => ∃ s' vs' L', a = A e.N vs' ∧ K s' = some r ∧ SR P e F w0 w' s' vs' L' ∧ Stp w L w' L') i l (A e.N vs) w := fun l i _s _vs _L _w h1 h2 h3 h4 h5 => wpSeq_mono (fun _ _ ⟨s', vs', L', q1, q2, q3, q4, _⟩ => ⟨s', vs', L', q1, q2, q3, q4⟩) _ _ _ _ (run_gc hok mS l i h1 h2 h3 h4 h5)
theorem sOp_mono' {ops : Array Oper} {C : World → Prop} {kd : List Nat} {i : Nat} {K K' : Act → World → Prop} {a : Act} {w : World} (h : ∀ a w, K a w → K' a w) (hh : Seq.sOp P ops C kd i K a w) : Seq.sOp P ops C kd i K' a w := by
  unfold Seq.sOp at *
  split
  · exact h _ _ (by simpa [*] using hh)
  · rename_i o ho
    simp only [ho] at hh
    split
    · rename_i hw
      simp only [hw, if_true] at hh
      split
      · rename_i hk; rw [hk] at hh; obtain ⟨u, h1, h2⟩ := hh; exact ⟨u, h1, h _ _ h2⟩
      · rename_i hk; rw [hk] at hh; obtain ⟨u, h1, h2⟩ := hh; exact ⟨u, h1, h _ _ h2⟩
      · rename_i hk0 hk1
        split at hh
        · rename_i hk; exact absurd hk hk0
        · rename_i hk; exact absurd hk hk1
        · exact Oper.wp_mono (fun a w ⟨h1, h2⟩ => ⟨h1, h _ _ h2⟩) hh
    · rename_i hw; simp only [hw] at hh; exact h _ _ hh
theorem wpAnyQ_mono {md : Region.Mode} {ops : Array Oper} {C : World → Prop} {kd : List Nat} {Q Q' : Act → World → Prop} (hq : ∀ a w, Q a w → Q' a w) : ∀ (fuel : Nat) (listed : Array Bool) (a : Act) (w : World), Seq.wpAnyQ P md ops C kd Q fuel listed a w → Seq.wpAnyQ P md ops C kd Q' fuel listed a w
  | 0, _, _, _, h => ⟨h.1, hq _ _ h.2⟩
  | fuel + 1, _listed, _a, _w, h => ⟨fun he => hq _ _ (h.1 he), fun i hi => sOp_mono' (fun a w h => wpAnyQ_mono hq fuel _ a w h) (h.2 i hi)⟩
/-- THE CODE COMES OUT AS IT IS RECKONED. -/
def UOk (P : Program) (e : Env) (c : Code) (u : UH) : Prop := ∀ (F : Nat → Prop) (w0 w : World) (vs : List (Nat × Value)) (L : List Res) (d : u.D) (y : u.O), u.L d = some y → SR P e F w0 w (u.up d) vs L →
  CW P c (fun x a w' => ∃ vs' L', a = A e.N vs' ∧ xr x (u.out y).1 ∧ SR P e F w0 w' (u.out y).2 vs' L' ∧ Stp w L w' L') (A e.N vs) w
/-- What is packed is held still. -/
def Pk {δ : Type} (P : Program) (e : Env) (pk : St → Option δ) (up : δ → St) : Prop := ∀ (F : Nat → Prop) (w0 w : World) (s : St) (vs : List (Nat × Value)) (L : List Res) (d : δ), pk s = some d → SR P e F w0 w s vs L → ∃ L', SR P e F w0 w (up d) vs L' ∧ Stp w L w L'
def UAll (P : Program) (e : Env) (hl : Nat → Option UH) : Nat → Code → Prop
  | n, .seq a b => UAll P e hl n a ∧ UAll P e hl (n + loops a) b
  | n, .cond c a b => (match hl n with
    | some u => UOk P e (.cond c a b) u ∧ Pk P e u.pk u.up
    | none => UAll P e hl (n + 1) a ∧ UAll P e hl (n + 1 + loops a) b)
  | n, .block _ b => UAll P e hl n b
  | n, .loop b => (match hl n with
    | some u => UOk P e (.loop b) u ∧ Pk P e u.pk u.up
    | none => True)
  | n, .region id ops draw => (match draw with
    | true => (match hl n with
      | some u => UOk P e (.region id ops true) u ∧ Pk P e u.pk u.up
      | none => True)
    | false => True)
  | _, _ => True
theorem CW.mono {c : Code} {Q Q' : Exit → Act → World → Prop} {a : Act} (hq : ∀ x a w, Q x a w → Q' x a w) (h : CW P c Q a w) : CW P c Q' a w := ⟨Code.wp_mono hq h.h⟩
theorem kds_get (ops : Array Oper) : ∀ j o, ops.toList[j]? = some o → (kds e ops.toList).getD (0 + j) 0 = kdO e o := fun j o h => by
  rw [Nat.zero_add, List.getD_eq_getElem?_getD]
  unfold kds
  rw [List.getElem?_map, h]; rfl
theorem kdsG_get (ops : Array Oper) : ∀ j o, ops.toList[j]? = some o → (kdsG e ops.toList).getD (0 + j) 0 = kdG e o := fun j o h => by
  rw [Nat.zero_add, List.getD_eq_getElem?_getD]
  unfold kdsG
  rw [List.getElem?_map, h]; rfl
theorem unit_r {c : Code} {u : UH} {K : Ex → St → Option β} (hu : UOk P e c u) (hp : Pk P e u.pk u.up) (h : SR P e F w0 w s vs L) (hk : unitX u s K = some r) :
    CW P c (fun x a w' => ∃ s' vs' L' x', xr x x' ∧ a = A e.N vs' ∧ K x' s' = some r ∧ SR P e F w0 w' s' vs' L' ∧ Stp w L w' L') (A e.N vs) w := by
  unfold unitX at hk
  replace hk := bnd_some hk
  obtain ⟨d, h1, hk⟩ := hk
  replace hk := bnd_some hk
  obtain ⟨y, h2, hk⟩ := hk
  rw [u.ok] at hk
  obtain ⟨L1, h3, h4⟩ := hp F w0 w s vs L d h1 h
  refine CW.mono (fun x a w' hq => ?_) (hu F w0 w vs L1 d y h2 h3)
  obtain ⟨vs', L', q1, q2, q3, q4⟩ := hq
  exact ⟨_, vs', L', _, q2, q1, hk, q3, h4.trans q4⟩
theorem exec_r (hok : Okk P e) {hl : Nat → Option UH} : ∀ (c : Code) (n : Nat) {K : Ex → St → Option β} {s : St} {vs : List (Nat × Value)} {L : List Res} {w : World}, UAll P e hl n c → SR P e F w0 w s vs L → exec e hl n c s K = some r →
    CW P c (fun x a w' => ∃ s' vs' L' x', xr x x' ∧ a = A e.N vs' ∧ K x' s' = some r ∧ SR P e F w0 w' s' vs' L' ∧ Stp w L w' L') (A e.N vs) w
  | .skip, n, K, s, vs, L, w, _, h, hk => sk ⟨s, vs, L, .nrm, trivial, rfl, hk, h, Stp.refl _ _⟩
  | .region id ops draw, n, K, s, vs, L, w, hu, h, hk => by
    unfold exec at hk
    have e1 : ops = ops.toList.toArray := (Array.toArray_toList).symm
    cases draw with
    | false =>
      have hr := run_r hok ops.toList 0 (kds_get ops) h hk
      rw [e1]
      refine rp (kds e ops.toList) ⟨wpSeq_mono (fun a w' hq => ?_) _ _ _ _ (by rw [← e1]; exact hr)⟩
      obtain ⟨s', vs', L', q1, q2, q3, q4⟩ := hq
      exact ⟨s', vs', L', .nrm, trivial, q1, q2, q3, q4⟩
    | true =>
      simp only at hk
      unfold UAll at hu
      simp only at hu
      split at hk
      · rename_i u hh
        simp only [hh] at hu
        exact unit_r hu.1 hu.2 h hk
      split at hk
      · rename_i hd
        unfold drawOk at hd
        rw [Bool.and_eq_true] at hd
        have hb : Below w.heap.size w (w.drewN 1) := ⟨rfl, rfl, rfl, Nat.le_refl _, fun _ _ => rfl⟩
        obtain ⟨h', s'⟩ := h.gr hb
        have hr := run_r hok ops.toList 0 (kds_get ops) h' hk
        rw [e1]
        refine rq (fun _ => True) (kds e ops.toList) hok.mixed (by rw [← e1]; exact hd.1) (by rw [← e1, Array.length_toList]; exact hd.2) trivial ⟨wpSeq_mono (fun a w' hq => ?_) _ _ _ _ (by rw [← e1]; exact hr)⟩
        obtain ⟨s1, vs', L', q1, q2, q3, q4⟩ := hq
        exact ⟨s1, vs', L', .nrm, trivial, q1, q2, q3, s'.trans q4⟩
      · split at hk
        · rename_i hd
          unfold drawG at hd
          rw [Bool.and_eq_true] at hd
          have hb : Below w.heap.size w (w.drewN 1) := ⟨rfl, rfl, rfl, Nat.le_refl _, fun _ _ => rfl⟩
          obtain ⟨h', s'⟩ := h.gr hb
          have hr := run_g hok h'.m ops.toList 0 (kdsG_get ops) (Ext.refl _ _) (fun _ _ _ _ _ _ => rfl) h' hk
          rw [e1]
          refine rq (Cr (w.drewN 1) L (readsG e s ops.toList)) (kdsG e ops.toList) hok.mixed (by rw [← e1]; exact hd.1) (by rw [← e1, Array.length_toList]; exact hd.2) (fun _ _ _ _ _ _ => rfl) ⟨wpSeq_mono (fun a w' hq => ?_) _ _ _ _ (by rw [← e1]; exact hr)⟩
          obtain ⟨s1, vs', L', q1, q2, q3, q4⟩ := hq
          exact ⟨s1, vs', L', .nrm, trivial, q1, q2, q3, s'.trans q4⟩
        · cases hk
  | .seq a b, n, K, s, vs, L, w, hu, h, hk => by
    have ha := exec_r hok a n hu.1 h hk
    refine sq (CW.mono (fun x a' w' hq => ?_) ha)
    obtain ⟨s', vs', L', x', q1, rfl, q2, q3, q4⟩ := hq
    cases x <;> cases x' <;> first | exact q1.elim | skip
    · refine th_n (CW.mono (fun y a2 w2 hq2 => ?_) (exec_r hok b _ hu.2 q3 q2))
      obtain ⟨s2, vs2, L2, x2, k1, k2, k3, k4, k5⟩ := hq2
      exact ⟨s2, vs2, L2, x2, k1, k2, k3, k4, q4.trans k5⟩
    · exact th_x ⟨s', vs', L', _, q1, rfl, q2, q3, q4⟩
    · exact th_r ⟨s', vs', L', _, q1, rfl, q2, q3, q4⟩
  | .cond c a b, n, K, s, vs, L, w, hu, h, hk => by
    unfold exec at hk
    unfold UAll at hu
    split at hk
    · rename_i u hh
      simp only [hh] at hu
      exact unit_r hu.1 hu.2 h hk
    · rename_i hh
      simp only [hh] at hu
      replace hk := bnd_some hk
      obtain ⟨q, h1, hk⟩ := hk
      have hc := asBool_r h1 (av_r h.f h.g c)
      cases q with
      | true => exact cdt hc (exec_r hok a _ hu.1 h hk)
      | false => exact cdf hc (exec_r hok b _ hu.2 h hk)
  | .block id b, n, K, s, vs, L, w, hu, h, hk => by
    have hb := exec_r hok b n hu h hk
    refine bk (CW.mono (fun x a' w' hq => ?_) hb)
    obtain ⟨s', vs', L', x', q1, rfl, q2, q3, q4⟩ := hq
    cases x <;> cases x' <;> first | exact q1.elim | skip
    · exact ib_n ⟨s', vs', L', .nrm, trivial, rfl, q2, q3, q4⟩
    · rename_i i j
      obtain rfl : i = j := q1
      simp only at q2
      split at q2
      · rename_i hb
        obtain rfl := nbeq.1 hb
        exact ib_x ⟨s', vs', L', .nrm, trivial, rfl, q2, q3, q4⟩
      · rename_i hb
        exact ib_o hb ⟨s', vs', L', .ext i, rfl, rfl, q2, q3, q4⟩
    · exact ib_r ⟨s', vs', L', .ret, trivial, rfl, q2, q3, q4⟩
  | .loop b, n, K, s, vs, L, w, hu, h, hk => by
    unfold exec at hk
    unfold UAll at hu
    split at hk
    · rename_i u hh
      simp only [hh] at hu
      exact unit_r hu.1 hu.2 h hk
    · cases hk
  | .exit id, n, K, s, vs, L, w, _, h, hk => ex ⟨s, vs, L, .ext id, rfl, rfl, hk, h, Stp.refl _ _⟩
  | .ret, n, K, s, vs, L, w, _, h, hk => re ⟨s, vs, L, .ret, trivial, rfl, hk, h, Stp.refl _ _⟩
  | .rangeFunc _ _ _ _, _, _, _, _, _, _, _, _, hk => by cases hk
  | .scope _, _, _, _, _, _, _, _, _, hk => by cases hk
  | .label _, _, _, _, _, _, _, _, _, hk => by cases hk
  | .goto _, _, _, _, _, _, _, _, _, hk => by cases hk
  | .refuse _, _, _, _, _, _, _, _, _, hk => by cases hk
end
end Go.Proofs.Ytpfoeeiacfadfaa.Q
/-
  Slices that are nil as empty things of one's own.
-/
namespace Go.Proofs.Ytpfoeeiacfadfaa.Q
open Go.RowKit

/-- A slot (or a field of the block that it leads to) of this slice type: where it is nil, from now on an empty thing of one's own. -/
def unn1 (e : Env) (x : Nat × Option Nat × TypeId) (s : St) : St :=
  match e.T x.2.2 with
  | some i => (match i.t with
    | .sl t => (match x.2.1 with
      | none => (match lks s.fr x.1 with
        | .one .nil => ⟨(x.1, .one (.own s.mem.length)) :: s.fr, s.mem ++ [Cn.sl t []]⟩
        | _ => s)
      | some j => (match one (lks s.fr x.1) with
        | .ptr q none _ => (match s.mem[q]? with
          | some (.blk us fs) => (match fs[j]? with
            | some .nil => ⟨s.fr, (s.mem ++ [Cn.sl t []]).set q (.blk us (fs.set j (.own s.mem.length)))⟩
            | _ => s)
          | _ => s)
        | _ => s))
    | _ => s)
  | none => s
def unnL (e : Env) : List (Nat × Option Nat × TypeId) → St → St
  | [], s => s
  | x :: l, s => unnL e l (unn1 e x s)
section
variable {P : Program} {e : Env} {F : Nat → Prop} {w0 w w' : World} {L L' : List Res} {s : St} {vs : List (Nat × Value)}
theorem add_nil (h : SR P e F w0 w s vs L) {E : TypeId} {t : Ty} (hE : EF P E t) (hz : 0 < z t) : SR P e F w0 w (addM (.sl t []) s) vs (L ++ [.own E (z t) (.slice none 0 0) 0 []]) ∧ Stp w L w (L ++ [.own E (z t) (.slice none 0 0) 0 []]) := by
  obtain ⟨h1, h2, _⟩ := SR.add (w' := w) h (c := .sl t []) (q := .own E (z t) (.slice none 0 0) 0 []) ⟨rfl, rfl, rfl, Nat.le_refl _, fun _ _ => rfl⟩ (World.ownsRow_nil w w.heap.size E (z t)) fun _ _ => ⟨E, .slice none 0 0, [], rfl, hz, hE, ⟨[], rfl, trivial⟩⟩
  exact ⟨h1, h2⟩
theorem all2_set {α β : Type} {R : α → β → Prop} : ∀ {l : List α} {m : List β} {j : Nat} {a : α} {b : β}, All2 R l m → m[j]? = some b → R a b → All2 R (l.set j a) m
  | [], [], _, _, _, _, h, _ => by simp at h
  | _ :: _, _ :: _, 0, _, _, h, h1, h2 => by
    obtain rfl := Option.some.inj (show some _ = some _ from h1)
    exact ⟨h2, h.2⟩
  | _ :: _, _ :: _, j + 1, _, _, h, h1, h2 => ⟨h.1, all2_set h.2 (show _ = some _ from h1) h2⟩
theorem unn1_r (he : EnvOk P e) (x : Nat × Option Nat × TypeId) (h : SR P e F w0 w s vs L) : ∃ L', SR P e F w0 w (unn1 e x s) vs L' ∧ Stp w L w L' := by
  have id : ∃ L', SR P e F w0 w s vs L' ∧ Stp w L w L' := ⟨L, h, Stp.refl _ _⟩
  unfold unn1
  split
  · rename_i i hi
    have hu := (he.T _ _ hi).un
    split
    · rename_i t ht
      rw [ht] at hu
      have hE : EF P i.E t := hu.2.1
      have hz : 0 < z t := hu.2.2.1
      obtain ⟨h1, hs1⟩ := add_nil h hE hz
      have hlen := h.m.len
      have hnew : (L ++ [Res.own i.E (z t) (.slice none 0 0) 0 []])[s.mem.length]? = some (.own i.E (z t) (.slice none 0 0) 0 []) := by rw [← hlen]; simp
      split
      · split
        · rename_i hn
          refine ⟨_, ⟨h1.m, fun k => ?_, h1.g⟩, hs1⟩
          simp only [lks]
          cases hb : Nat.beq x.1 k with
          | true =>
            obtain rfl := nbeq.1 hb
            have hv := h.f x.1
            rw [hn] at hv
            have hv : ev e.N vs (.tmp x.1) = .slice none 0 0 := hv
            rw [hv]
            exact ⟨_, _, _, _, hnew⟩
          | false => exact h1.f k
        · exact id
      · rename_i j hj
        split
        · rename_i q pth hp
          split
          · rename_i us fs hm
            split
            · rename_i hfj
              have hv := one_r (h.f x.1)
              rw [hp] at hv
              obtain ⟨rfl, g, T, cs, hL, _⟩ := hv
              obtain ⟨g', T', ps, c1, c2, c3⟩ := h.m.cn q _ _ hm hL
              have hql := (List.getElem?_eq_some_iff.1 hL).1
              have hL1 : (L ++ [Res.own i.E (z t) (.slice none 0 0) 0 []])[q]? = some (.arr g T cs) := by rw [List.getElem?_append_left hql]; exact hL
              have hm1 : (addM (.sl t []) s).mem[q]? = some (.blk us fs) := by
                show (s.mem ++ [_])[q]? = _
                rw [List.getElem?_append_left (by omega)]; exact hm
              have hset : (L ++ [Res.own i.E (z t) (.slice none 0 0) 0 []]).set q (.arr g T cs) = L ++ [Res.own i.E (z t) (.slice none 0 0) 0 []] := by
                apply List.ext_getElem?
                intro k
                by_cases hk : q = k
                · subst hk
                  rw [List.getElem?_set_self (by simp; omega), hL1]
                · rw [List.getElem?_set_ne hk]
              obtain ⟨p, hpj, ha⟩ := All2.getl c3 hfj
              obtain ⟨hva, hlen2, hone⟩ := ha
              have hva : mkV p.1 p.2 = .slice none 0 0 := hva
              have hS : ∀ a v, AVR F w s.mem L a v → AVR F w ((addM (.sl t []) s).mem.set q (.blk us (fs.set j (.own s.mem.length)))) ((L ++ [Res.own i.E (z t) (.slice none 0 0) 0 []]).set q (.arr g T cs)) a v := fun a v hav => by
                refine AVR.stp0 (w := w) (L := L) (by rw [hset]; exact hs1) (fun r => ?_) hav
                obtain ⟨a1, a2, a3, a4⟩ := Kp.set (mem := (addM (.sl t []) s).mem) (L := L ++ [Res.own i.E (z t) (.slice none 0 0) 0 []]) (c := .blk us (fs.set j (.own s.mem.length))) (q := .arr g T cs) (i := q) (fun c0 q0 e0 e1 => by
                  obtain rfl := some_inj2 hm1 e0
                  obtain rfl := some_inj2 hL1 e1
                  exact ⟨fun _ _ cs e => by injection e with e1 e2 e3; subst e1 e2 e3; exact ⟨_, rfl⟩, fun _ _ _ _ _ e => (by cases e), fun _ _ e => by injection e with e1 e2; subst e1 e2; exact ⟨_, rfl⟩, fun _ _ e => (by cases e)⟩) h1.m.len r
                obtain ⟨b1, b2, b3, b4⟩ := Kp.app (mem := s.mem) (L := L) (c := .sl t []) (q := .own i.E (z t) (.slice none 0 0) 0 []) r
                refine ⟨fun g T cs e0 => ?_, fun E zz v n cs e0 => ?_, fun ts fs e0 => ?_, fun t l e0 => ?_⟩
                · obtain ⟨cs', h'⟩ := b1 g T cs e0; exact a1 g T cs' h'
                · obtain ⟨cs', h'⟩ := b2 E zz v n cs e0; exact a2 E zz v n cs' h'
                · obtain ⟨fs', h'⟩ := b3 ts fs e0; exact a3 ts fs' h'
                · obtain ⟨l', h'⟩ := b4 t l e0; exact a4 t l' h'
              have hc : CR P F w ((addM (.sl t []) s).mem.set q (.blk us (fs.set j (.own s.mem.length)))) ((L ++ [Res.own i.E (z t) (.slice none 0 0) 0 []]).set q (.arr g T cs)) (.blk us (fs.set j (.own s.mem.length))) (.arr g T cs) := by
                refine ⟨g', T', ps, c1, c2, all2_set (All2.mono (fun a p hf => ⟨hS _ _ hf.1, hf.2⟩) c3) hpj ⟨?_, hlen2, hone⟩⟩
                rw [hva, hset]
                exact ⟨_, _, _, _, hnew⟩
              obtain ⟨h2, _⟩ := SR.set1 (w' := w) h1 (q := q) (c := .blk us (fs.set j (.own s.mem.length))) (q1 := .arr g T cs) hm1 hL1 (by rw [hset]; exact h1.m.mo) (by rw [hset]; exact Stp.refl _ _)
                ⟨fun _ _ cs e => by injection e with e1 e2 e3; subst e1 e2 e3; exact ⟨_, rfl⟩, fun _ _ _ _ _ e => (by cases e), fun _ _ e => by injection e with e1 e2; subst e1 e2; exact ⟨_, rfl⟩, fun _ _ e => (by cases e)⟩ hc
              rw [hset] at h2
              exact ⟨_, h2, hs1⟩
            · exact id
          · exact id
        · exact id
    · exact id
  · exact id
theorem unnL_r (he : EnvOk P e) : ∀ (l : List (Nat × Option Nat × TypeId)) {s : St} {L : List Res}, SR P e F w0 w s vs L → ∃ L', SR P e F w0 w (unnL e l s) vs L' ∧ Stp w L w L'
  | [], s, L, h => ⟨L, h, Stp.refl _ _⟩
  | x :: l, s, L, h => by
    obtain ⟨L1, h1, s1⟩ := unn1_r he x h
    obtain ⟨L2, h2, s2⟩ := unnL_r he l h1
    exact ⟨L2, h2, s1.trans s2⟩
end
end Go.Proofs.Ytpfoeeiacfadfaa.Q
/-
  Functions: what is told behind the last statement.
-/
namespace Go.Proofs.Ytpfoeeiacfadfaa.Q
open Go.RowKit

/-- The arguments' slots. -/
def arg0 : (k : PK) → DK k → SV
  | .d t, x => .one (.dat t x)
  | .f g, _ => .one (.fn g)
  | _, _ => .one .undef
def argFr : Nat → (ks : List PK) → Dat ks → List (Nat × SV)
  | _, [], _ => []
  | n, [k], x => [(n, arg0 k x)]
  | n, k :: l :: r, x => (n, arg0 k x.1) :: argFr (n + 1) (l :: r) x.2
/-- The variables that are told. -/
def resA (e : Env) (s : St) : ResultVar → Option AV
  | .tmp k => some (one (lks s.fr k))
  | .cell k T => (match e.T T with
    | some i => loadA s i (one (lks s.fr k)) fun sv => some (one sv)
    | none => none)
def resAs (e : Env) (s : St) : List ResultVar → Option (List AV)
  | [] => some []
  | x :: r => (match resA e s x with
    | some a => (match resAs e s r with
      | some l => some (a :: l)
      | none => none)
    | none => none)
def ret1o (mem : List Cn) (t : Ty) : AV → Option (List (D t))
  | .own r => (match mem[r]? with | some (.sl s l) => castL s t l | _ => none)
  | _ => none
/-- The results as data; whose content is one's own, by number. -/
def ret1 (mem : List Cn) : (k : PK) → AV → Option (DK k)
  | .d t, a => toD0 t a
  | .o t, a => ret1o mem t a
  | _, _ => none
def retD (mem : List Cn) : (ks : List PK) → List AV → Option (Dat ks)
  | [], l => (match l with | [] => some () | _ => none)
  | [k], l => (match l with | [a] => ret1 mem k a | _ => none)
  | k :: j :: r, l => (match l with
    | a :: as => (match ret1 mem k a with
      | some x => (match retD mem (j :: r) as with
        | some y => some ((x, y) : DK k × Dat (j :: r))
        | none => none)
      | none => none)
    | [] => none)
/-- Which slices must be only read from now on. -/
def dropR : List PK → List AV → List Nat
  | .d _ :: ks, a :: as => ridOf a ++ dropR ks as
  | _ :: ks, _ :: as => dropR ks as
  | _, _ => []
def ownR : List PK → List AV → List Nat
  | .o _ :: ks, .own r :: as => r :: ownR ks as
  | _ :: ks, _ :: as => ownR ks as
  | _, _ => []
def nodup : List Nat → Bool
  | [] => true
  | a :: l => !(l.any (Nat.beq a)) && nodup l
def retX (e : Env) (rv : List ResultVar) (ks : List PK) (s : St) : Option (Dat ks) :=
  match resAs e s rv with
  | some as => (match fzL (dropR ks as) s with
    | s => (match resAs e s rv with
      | some as => (match nodup (ownR ks as) with
        | true => retD s.mem ks as
        | false => none)
      | none => none))
  | none => none
def runF (e : Env) (hl : Nat → Option UH) (c : Code) (rv : List ResultVar) (un : List (Nat × Option Nat × TypeId)) (pks rks : List PK) (d : Dat pks) : Option (Dat rks) :=
  exec e hl 0 c ⟨argFr 0 pks d, []⟩ fun x s => (match x with
    | .ext _ => none
    | _ => retX e rv rks (unnL e un s))
section
variable {P : Program} {e : Env} {F : Nat → Prop} {w0 w w' : World} {L L' : List Res} {s : St} {vs : List (Nat × Value)} {β : Type} {r : β} {o : Oper}
theorem ld_r (h : SR P e F w0 w s vs L) {T : TypeId} {i : TI} (hi : TIok P T i) {a b : AV} {v : Value} (ha : AVR F w s.mem L a v) (hl : loadA s i a (fun sv => some (one sv)) = some b) : ∃ u, AVR F w s.mem L b u ∧ (Instr.loadAt T v).run P w = .ok u w := by
  obtain ⟨u, sv, h1, h2, h3⟩ := load_r h hi ha hl
  obtain rfl := Option.some.inj h1
  exact ⟨u, one_r h2, h3.run hi.ef⟩
/-- What the variables are found to be. -/
def rvR (P : Program) (e : Env) (w : World) (vs : List (Nat × Value)) (x : ResultVar) (u : Value) : Prop :=
  ((match x with
    | .tmp t => pure ((A e.N vs).tmps.getD t Go.undef)
    | .cell a t => do loadVar t (← asAddr ((A e.N vs).tmps.getD a Go.undef)) : Sem Value)).run P w = .ok u w
theorem resA_r (hok : Okk P e) (h : SR P e F w0 w s vs L) {x : ResultVar} {a : AV} (hx : resA e s x = some a) : ∃ u, AVR F w s.mem L a u ∧ rvR P e w vs x u := by
  cases x with
  | tmp k =>
    obtain rfl := Option.some.inj hx
    refine ⟨_, one_r (h.f k), ?_⟩
    unfold rvR
    simp only [A_getD, Sem.run_pure]
  | cell k T =>
    simp only [resA] at hx
    split at hx
    · rename_i i hi
      obtain ⟨u, h1, h2⟩ := ld_r h (hok.o.t.T _ _ hi) (one_r (h.f k)) hx
      refine ⟨u, h1, ?_⟩
      unfold rvR
      simp only [A_getD, Sem.run_bind]
      unfold Instr.loadAt at h2
      rw [Sem.run_bind] at h2
      revert h2
      generalize ev e.N vs (.tmp k) = v
      intro h2
      cases v with
      | pointer p => cases p with
        | some p => simpa [Instr.sureAddr, asAddr] using h2
        | none => simp [Instr.sureAddr, stuck] at h2
      | _ => simp [Instr.sureAddr, stuck] at h2
    · cases hx
theorem resAs_r (hok : Okk P e) (h : SR P e F w0 w s vs L) : ∀ {rv : List ResultVar} {as : List AV}, resAs e s rv = some as → ∃ us, All2 (AVR F w s.mem L) as us ∧ All2 (rvR P e w vs) rv us
  | [], as, hx => by obtain rfl := Option.some.inj hx; exact ⟨[], trivial, trivial⟩
  | x :: rv, as, hx => by
    simp only [resAs] at hx
    split at hx
    · rename_i a ha
      split at hx
      · rename_i l hl
        obtain rfl := Option.some.inj hx
        obtain ⟨u, h1, h2⟩ := resA_r hok h ha
        obtain ⟨us, h3, h4⟩ := resAs_r hok h hl
        exact ⟨u :: us, ⟨h1, h3⟩, h2, h4⟩
      · cases hx
    · cases hx
theorem mapM_r {f : ResultVar → Sem Value} : ∀ {rv : List ResultVar} {us : List Value}, All2 (fun x u => (f x).run P w = .ok u w) rv us → (rv.mapM f).run P w = .ok us w
  | [], [], _ => by simp
  | x :: rv, u :: us, h => by
    simp [List.mapM_cons, h.1, mapM_r h.2]
  | [], _ :: _, h => h.elim
  | _ :: _, [], h => h.elim
def resV : List Value → Value
  | [u] => u
  | l => .tuple l.toArray
theorem results_r {fn : Func} {rv : List ResultVar} (hr : fn.results = rv.toArray) {us : List Value} (h : All2 (rvR P e w vs) rv us) : (results fn (A e.N vs).tmps).run P w = .ok (resV us) w := by
  unfold results
  rw [hr]
  have h1 := mapM_r (P := P) (w := w) (f := fun x => (match x with
    | .tmp t => pure ((A e.N vs).tmps.getD t Go.undef)
    | .cell a t => do loadVar t (← asAddr ((A e.N vs).tmps.getD a Go.undef)) : Sem Value)) h
  have h2 : (List.toArray <$> rv.mapM (fun x => (match x with
    | .tmp t => pure ((A e.N vs).tmps.getD t Go.undef)
    | .cell a t => do loadVar t (← asAddr ((A e.N vs).tmps.getD a Go.undef)) : Sem Value)) : Sem (Array Value)).run P w = .ok us.toArray w := by
    rw [map_eq_pure_bind, Sem.run_bind, h1]
    rfl
  simp only [List.mapM_toArray, Sem.run_bind]
  refine Eq.trans (congrArg (fun r => r.andThen fun a w' => Sem.run P (pure (if h : a.size = 1 then a[0] else Value.tuple a)) w') h2) ?_
  clear h h1 h2
  match us with
  | [] => rfl
  | [u] => rfl
  | u :: v :: l => simp [resV]
end
end Go.Proofs.Ytpfoeeiacfadfaa.Q
/-
  A function comes to the end that is reckoned for it.
-/
namespace Go.Proofs.Ytpfoeeiacfadfaa.Q
open Go.RowKit

section
variable {P : Program} {e : Env} {F : Nat → Prop} {w0 w w' : World} {L L' : List Res} {s : St} {vs : List (Nat × Value)} {β : Type} {r : β} {o : Oper}
/-- What is told, and which of one's own goes with it. -/
def Told (P : Program) (F : Nat → Prop) (w : World) (L : List Res) (ks : List PK) (as : List AV) (us : List Value) (y : Dat ks) (n : Nat) (Q : List Res) : Prop :=
  Q.length = (resL n ks y).2.length ∧ (∀ (j : Nat) (q : Res), Q[j]? = some q → ∃ r, (ownR ks as)[j]? = some r ∧ L[r]? = some q) ∧
  (∀ (i : Nat) (c : Cn) (q : Res), (resL n ks y).2[i]? = some c → Q[i]? = some q → ∃ t l E v cs, c = .sl t l ∧ q = .own E (z t) v l.length cs ∧ 0 < z t ∧ EF P E t ∧ RL (SF F L w) w t cs l) ∧
  ∀ (mem2 : List Cn) (L2 : List Res), (∀ g, SF F L w g → SF F L2 w g) → (∀ (j : Nat) (q : Res), Q[j]? = some q → L2[n + j]? = some q) → All2 (AVR F w mem2 L2) (resL n ks y).1 us
theorem told1 (m : MR P F w0 w s.mem L) {k : PK} {a : AV} {u : Value} {y : DK k} {n : Nat} (ha : AVR F w s.mem L a u) (h : ret1 s.mem k a = some y) :
    ∃ Q : List Res, Q.length = (res1 n k y).2.length ∧ (∀ (j : Nat) (q : Res), Q[j]? = some q → j = 0 ∧ ∃ r t, k = .o t ∧ a = .own r ∧ L[r]? = some q) ∧
      (∀ (i : Nat) (c : Cn) (q : Res), (res1 n k y).2[i]? = some c → Q[i]? = some q → ∃ t l E v cs, c = .sl t l ∧ q = .own E (z t) v l.length cs ∧ 0 < z t ∧ EF P E t ∧ RL (SF F L w) w t cs l) ∧
      ∀ (mem2 : List Cn) (L2 : List Res), (∀ g, SF F L w g → SF F L2 w g) → (∀ (j : Nat) (q : Res), Q[j]? = some q → L2[n + j]? = some q) → AVR F w mem2 L2 (res1 n k y).1 u := by
  cases k with
  | d t =>
    obtain ⟨cs, hv, hr⟩ := toD0_r (show toD0 t a = some y from h) ha
    exact ⟨[], rfl, fun j q hj => by simp at hj, fun i c q hi => (by cases hi), fun mem2 L2 hS _ => ⟨cs, hv, hr.stp fun g hg => ⟨hS g hg, rfl⟩⟩⟩
  | o t =>
    have h : ret1o s.mem t a = some y := h
    cases a with
    | own q =>
      simp only [ret1o] at h
      split at h
      · rename_i u0 l0 hm
        obtain ⟨E, zz, n', cs, hL⟩ := ha
        obtain ⟨E', v', cs', hc, hz, hE, hr⟩ := m.cn q _ _ hm hL
        injection hc with c1 c2 c3 c4 c5
        subst c1 c2 c3 c4 c5
        obtain ⟨e1, e2⟩ := cast_eq (show cast (.sl u0) (.sl t) l0 = some y from h)
        injection e1 with e1
        subst e1
        obtain rfl : l0 = y := e2
        refine ⟨[.own E (z u0) u l0.length cs], rfl, fun j q' hj => ?_, fun i c q' hi hq => ?_, fun mem2 L2 hS hq => ⟨E, z u0, l0.length, cs, hq 0 _ rfl⟩⟩
        · cases j with
          | zero => obtain rfl := Option.some.inj hj; exact ⟨rfl, q, u0, rfl, rfl, hL⟩
          | succ j => simp at hj
        · cases i with
          | zero =>
            obtain rfl := Option.some.inj hq
            have hi : some (Cn.sl u0 l0) = some c := hi
            obtain rfl := Option.some.inj hi
            exact ⟨u0, l0, E, u, cs, rfl, rfl, hz, hE, hr⟩
          | succ i => simp at hq
      · cases h
    | _ => cases h
  | p ts => cases h
  | f g => cases h
theorem told_r (m : MR P F w0 w s.mem L) : ∀ {ks : List PK} {as : List AV} {us : List Value} {y : Dat ks} {n : Nat}, All2 (AVR F w s.mem L) as us → retD s.mem ks as = some y → ∃ Q, Told P F w L ks as us y n Q
  | [], as, us, y, n, ha, h => by
    cases as with
    | nil => cases us with
      | nil => exact ⟨[], rfl, fun j q hj => by simp at hj, fun i c q hi => (by cases hi), fun _ _ _ _ => trivial⟩
      | cons _ _ => exact ha.elim
    | cons _ _ => cases h
  | [k], as, us, y, n, ha, h => by
    cases as with
    | nil => cases h
    | cons a as => cases as with
      | cons _ _ => cases h
      | nil => cases us with
        | nil => exact ha.elim
        | cons u us => cases us with
          | cons _ _ => exact ha.2.elim
          | nil =>
            obtain ⟨Q, h1, h2, h3, h4⟩ := told1 (n := n) m ha.1 (show ret1 s.mem k a = some y from h)
            refine ⟨Q, h1, fun j q hj => ?_, h3, fun mem2 L2 hS hq => ⟨h4 mem2 L2 hS hq, trivial⟩⟩
            obtain ⟨rfl, r, t, rfl, rfl, hr⟩ := h2 j q hj
            exact ⟨r, rfl, hr⟩
  | k :: i :: l, as, us, y, n, ha, h => by
    cases as with
    | nil => cases h
    | cons a as => cases us with
      | nil => exact ha.elim
      | cons u us =>
        unfold retD at h
        simp only at h
        cases hx : ret1 s.mem k a with
        | none => rw [hx] at h; cases h
        | some x =>
          rw [hx] at h
          cases hy : retD s.mem (i :: l) as with
          | none => rw [hy] at h; cases h
          | some y' =>
            rw [hy] at h
            obtain rfl := Option.some.inj h
            obtain ⟨Q1, h1, h2, h3, h4⟩ := told1 (n := n) m ha.1 hx
            obtain ⟨Q2, g1, g2, g3, g4⟩ := told_r (n := n + (res1 n k x).2.length) m ha.2 hy
            have hlen : ∀ q, Q1[0]? = some q → Q1.length = 1 := fun q hq => by
              cases Q1 with
              | nil => simp at hq
              | cons q1 Q1 => cases Q1 with
                | nil => rfl
                | cons q2 Q1 => have := (h2 1 q2 rfl).1; omega
            refine ⟨Q1 ++ Q2, by rw [List.length_append, h1, g1]; exact (List.length_append).symm, fun j q hj => ?_, fun j c q hc hq => ?_, fun mem2 L2 hS hq => ⟨h4 mem2 L2 hS fun j q hj => hq j q (by rw [List.getElem?_append_left (List.getElem?_eq_some_iff.1 hj).1]; exact hj), g4 mem2 L2 hS fun j q hj => ?_⟩⟩
            · rcases Nat.lt_or_ge j Q1.length with hl | hl
              · rw [List.getElem?_append_left hl] at hj
                obtain ⟨rfl, r, t, rfl, rfl, hr⟩ := h2 j q hj
                exact ⟨r, rfl, hr⟩
              · rw [List.getElem?_append_right hl] at hj
                obtain ⟨r, hr, hL⟩ := g2 _ q hj
                refine ⟨r, ?_, hL⟩
                cases hQ : Q1 with
                | nil =>
                  rw [hQ] at hr
                  have hk : ∀ t, k ≠ .o t := fun t e => by
                    subst e
                    have : Q1.length = 1 := h1
                    rw [hQ] at this; cases this
                  cases k with
                  | o t => exact absurd rfl (hk t)
                  | _ => exact hr
                | cons q1 Q1' =>
                  obtain ⟨_, r', t, rfl, rfl, _⟩ := h2 0 q1 (by rw [hQ]; rfl)
                  have hl1 := hlen q1 (by rw [hQ]; rfl)
                  rw [hl1] at hr hl
                  obtain ⟨j, rfl⟩ : ∃ i, j = i + 1 := ⟨j - 1, by omega⟩
                  exact hr
            · have hc : ((res1 n k x).2 ++ (resL (n + (res1 n k x).2.length) (i :: l) y').2)[j]? = some c := hc
              rcases Nat.lt_or_ge j Q1.length with hl | hl
              · rw [List.getElem?_append_left hl] at hq
                rw [List.getElem?_append_left (by omega)] at hc
                exact h3 j c q hc hq
              · rw [List.getElem?_append_right hl] at hq
                rw [List.getElem?_append_right (by omega), show j - (res1 n k x).2.length = j - Q1.length by rw [h1]] at hc
                exact g3 _ c q hc hq
            · rw [← h1, Nat.add_assoc]
              refine hq (Q1.length + j) q ?_
              rw [List.getElem?_append_right (by omega), Nat.add_sub_cancel_left]
              exact hj
theorem nodup_r : ∀ {l : List Nat}, nodup l = true → ∀ (i j : Nat) (a : Nat), i ≠ j → l[i]? = some a → l[j]? ≠ some a
  | [], _, _, _, _, _, h => by simp at h
  | x :: l, hn, i, j, a, hij, hi => by
    have hn : (!(l.any (Nat.beq x)) && nodup l) = true := hn
    rw [Bool.and_eq_true, Bool.not_eq_true'] at hn
    have hx : ∀ y ∈ l, x ≠ y := fun y hy e => by
      have : l.any (Nat.beq x) = true := List.any_eq_true.2 ⟨y, hy, by subst e; exact Nat.beq_refl x⟩
      rw [hn.1] at this; cases this
    cases i with
    | zero =>
      obtain rfl := Option.some.inj hi
      cases j with
      | zero => exact absurd rfl hij
      | succ j => exact fun e => hx _ (List.mem_of_getElem? (by simpa using e)) rfl
    | succ i =>
      cases j with
      | zero => exact fun e => by obtain rfl := Option.some.inj e; exact hx _ (List.mem_of_getElem? (by simpa using hi)) rfl
      | succ j => simpa using nodup_r hn.2 i j a (by omega) (by simpa using hi)
theorem resV_sv {mem : List Cn} {l : List AV} {us : List Value} (h : All2 (AVR F w mem L) l us) : SVR F w mem L (svOf l) (resV us) := by
  cases l with
  | nil => cases us with
    | nil => exact ⟨[], rfl, trivial⟩
    | cons _ _ => exact h.elim
  | cons a l => cases us with
    | nil => exact h.elim
    | cons u us => cases l with
      | nil => cases us with
        | nil => exact h.1
        | cons _ _ => exact h.2.elim
      | cons b l => cases us with
        | nil => exact h.2.elim
        | cons v us => exact ⟨u :: v :: us, rfl, h⟩
theorem retX_r (hok : Okk P e) {rv : List ResultVar} {ks : List PK} {y : Dat ks} (h : SR P e F w0 w s vs L) (hx : retX e rv ks s = some y) {fn : Func} (hr : fn.results = rv.toArray) :
    ∃ L2 v, (results fn (A e.N vs).tmps).run P w = .ok v w ∧ MR P F w0 w (resL 0 ks y).2 L2 ∧ Stp w L w L2 ∧ SVR F w (resL 0 ks y).2 L2 (svOf (resL 0 ks y).1) v := by
  unfold retX at hx
  split at hx
  · rename_i as1 has1
    obtain ⟨L1, h1, hs, _⟩ := fzL_r (dropR ks as1) h
    generalize fzL (dropR ks as1) s = s1 at hx h1
    simp only at hx
    split at hx
    · rename_i as has
      split at hx
      · rename_i hn
        obtain ⟨us, g1, g2⟩ := resAs_r hok h1 has
        obtain ⟨Q, q1, q2, q3, q4⟩ := told_r (n := 0) h1.m g1 hx
        have hsub : ∀ q ∈ Q, q ∈ L1 := fun q hq => by
          obtain ⟨j, hj⟩ := List.getElem?_of_mem hq
          obtain ⟨r, _, hr⟩ := q2 j q hj
          exact List.mem_of_getElem? hr
        have hst : Stp w L1 w Q := fun g hg => ⟨⟨hg.1, fun r hr => hg.2 r (hsub r hr)⟩, rfl⟩
        have hS : ∀ g, SF F L1 w g → SF F Q w g := fun g hg => (SF.stp hst g hg).1
        refine ⟨Q, resV us, results_r hr g2, ⟨⟨h1.m.mo.below, fun i q hi => ?_, fun i j a b g hij ha hb hga hgb => ?_⟩, q1, fun i c q hc hq => ?_, fun g hg => (hst g (h1.m.fz g hg)).1⟩, hs.trans hst, resV_sv (q4 _ Q hS fun j q hj => by rw [Nat.zero_add]; exact hj)⟩
        · obtain ⟨r, _, hr⟩ := q2 i q hi
          exact h1.m.mo.ok r q hr
        · obtain ⟨r, hr1, hr2⟩ := q2 i a ha
          obtain ⟨t, ht1, ht2⟩ := q2 j b hb
          have hne : r ≠ t := fun e => by subst e; exact nodup_r hn i j r hij hr1 ht1
          exact h1.m.mo.ap r t a b g hne hr2 ht2 hga hgb
        · obtain ⟨t, l, E, v, cs, rfl, rfl, c1, c2, c3⟩ := q3 i c q hc hq
          exact ⟨E, v, cs, rfl, c1, c2, c3.stp fun g hg => ⟨hS g hg, rfl⟩⟩
      · cases hx
    · cases hx
  · cases hx
theorem arg_fr : ∀ {ks : List PK} {d : Dat ks} {us : List Value} {n : Nat}, ArgR F w ks d us → n + us.length ≤ e.N → ∀ k, SVR F w [] [] (lks (argFr n ks d) k) (ev e.N (ar n us) (.tmp k))
  | [], d, us, n, h, _, k => trivial
  | [j], d, us, n, h, hn, k => by
    obtain ⟨v, rfl, h1⟩ := h
    show SVR F w [] [] (match Nat.beq n k with | true => arg0 j d | false => .one .undef) _
    cases hb : Nat.beq n k with
    | false => trivial
    | true =>
      obtain rfl := nbeq.1 hb
      have hv : ev e.N (ar n [v]) (.tmp n) = v := by
        rw [evt]
        have : Nat.blt n e.N = true := by simp at hn; simp; omega
        rw [this]
        show gv [(n, v)] n = v
        rw [gv_cons]; simp
      rw [hv]
      cases j with
      | d t => exact h1
      | f g => exact h1
      | _ => exact h1.elim
  | j :: i :: l, d, us, n, h, hn, k => by
    obtain ⟨v, us', rfl, h1, h2⟩ := h
    show SVR F w [] [] (match Nat.beq n k with | true => arg0 j d.1 | false => lks (argFr (n + 1) (i :: l) d.2) k) _
    have hn' : n + 1 + us'.length ≤ e.N := by simp at hn; omega
    cases hb : Nat.beq n k with
    | false =>
      have := arg_fr h2 hn' k
      have hne := nbeq'.1 hb
      have hv : ev e.N (ar n (v :: us')) (.tmp k) = ev e.N (ar (n + 1) us') (.tmp k) := by
        rw [evt, evt]
        show (bif Nat.blt k e.N then gv ((n, v) :: ar (n + 1) us') k else _) = _
        rw [gv_cons, if_neg hne]
      rw [hv]
      exact this
    | true =>
      obtain rfl := nbeq.1 hb
      have hv : ev e.N (ar n (v :: us')) (.tmp n) = v := by
        rw [evt]
        have : Nat.blt n e.N = true := by simp at hn; simp; omega
        rw [this]
        show gv ((n, v) :: ar (n + 1) us') n = v
        rw [gv_cons]; simp
      rw [hv]
      cases j with
      | d t => exact h1
      | f g => exact h1
      | _ => exact h1.elim
theorem arg_len : ∀ {ks : List PK} {d : Dat ks} {us : List Value}, ArgR F w ks d us → us.length = ks.length
  | [], d, us, h => by rw [show us = [] from h]; rfl
  | [j], d, us, h => by obtain ⟨v, rfl, h1⟩ := h; rfl
  | j :: i :: l, d, us, h => by
    obtain ⟨v, us', rfl, h1, h2⟩ := h
    rw [List.length_cons, arg_len h2]; rfl
/-- A FUNCTION COMES TO THE END THAT IS RECKONED FOR IT. -/
theorem fn_g (hok : Okk P e) (hG : ∀ g, e.G g = none) {f : FuncId} {fn : Func} {c : Code} (hf : P.funcs[f]? = some fn) (hb : fn.body = some c) (hN : fn.ntmps = e.N) (hgo : isGo P f = true) {rv : List ResultVar} (hr : fn.results = rv.toArray) {hl : Nat → Option UH} {hd : Hd} {un : List (Nat × Option Nat × TypeId)}
    (hp : hd.pks.length ≤ e.N) (hu : UAll P e hl 0 c) (hrun : ∀ d y, hd.fm d = some y → runF e hl c rv un hd.pks hd.rks d = some y) : FnG P f hd := by
  refine ⟨hgo, fun F w0 w d y us hfm harg m0 => ?_⟩
  have hlen := arg_len harg
  refine enter us e.N hf hb hN (by omega) ?_
  have h0 : SR P e F w0 w ⟨argFr 0 hd.pks d, []⟩ (ar 0 us) [] := ⟨m0, arg_fr harg (by omega), fun g x hx => by rw [hG g] at hx; cases hx⟩
  refine CW.mono (fun x a w' hq => ?_) (exec_r hok c 0 hu h0 (hrun d y hfm))
  obtain ⟨s', vs', L', x', q1, rfl, q2, q3, q4⟩ := hq
  cases x <;> cases x' <;> first | exact q1.elim | skip
  · obtain ⟨L3, q3, s3⟩ := unnL_r hok.o.t un q3
    obtain ⟨L2, v, g1, g2, g3, g4⟩ := retX_r hok q3 q2 hr
    exact bodyPost_end g1 rfl ⟨L2, v, rfl, g2, q4.trans (s3.trans g3), g4⟩
  · cases q2
  · obtain ⟨L3, q3, s3⟩ := unnL_r hok.o.t un q3
    obtain ⟨L2, v, g1, g2, g3, g4⟩ := retX_r hok q3 q2 hr
    exact bodyPost_ret g1 rfl ⟨L2, v, rfl, g2, q4.trans (s3.trans g3), g4⟩
end
end Go.Proofs.Ytpfoeeiacfadfaa.Q
/-
  What is live, packed: slots, blocks with their fields, slices of one's own.
-/
namespace Go.Proofs.Ytpfoeeiacfadfaa.Q
open Go.RowKit

/-- What is live: kinds of what is told (slots' first, then blocks' fields), the slots, the blocks. -/
structure Sh where
  ks : List PK
  sl : List Nat
  bs : List (Nat × List Ty)
  un : List (Nat × Option Nat × TypeId)
  fs : List (Nat × FuncId)
/-- Slots that hold these functions. -/
def fnB (s : St) : List (Nat × FuncId) → Bool
  | [] => true
  | p :: r => (match one (lks s.fr p.1) with
    | .fn g => Nat.beq g p.2 && fnB s r
    | _ => false)
def frF : List (Nat × FuncId) → List (Nat × SV)
  | [] => []
  | p :: r => (p.1, .one (.fn p.2)) :: frF r
def slA (s : St) (sl : List Nat) : List AV := sl.map fun k => one (lks s.fr k)
def getB (s : St) : List (Nat × List Ty) → Option (List Nat × List AV)
  | [] => some ([], [])
  | p :: r => (match one (lks s.fr p.1) with
    | .ptr q none _ => (match s.mem[q]? with
      | some (.blk us fs) => (match sameL us p.2 with
        | true => (match getB s r with
          | some x => some (q :: x.1, fs ++ x.2)
          | none => none)
        | false => none)
      | _ => none)
    | _ => none)
def frB : Nat → List (Nat × List Ty) → List (Nat × SV)
  | _, [] => []
  | n, p :: r => (p.1, .one (.ptr n none [])) :: frB (n + 1) r
def memB : List (Nat × List Ty) → List AV → List Cn
  | [], _ => []
  | p :: r, as => .blk p.2 (as.take p.2.length) :: memB r (as.drop p.2.length)
def frS : List Nat → List AV → List (Nat × SV)
  | k :: l, a :: as => (k, .one a) :: frS l as
  | _, _ => []
def pkS0 (h : Sh) (s : St) : Option (Dat h.ks) :=
  match getB s h.bs with
  | some x => (match fzL (dropR h.ks (slA s h.sl ++ x.2)) s with
    | s => (match getB s h.bs with
      | some x => (match nodup (x.1 ++ ownR h.ks (slA s h.sl ++ x.2)) with
        | true => retD s.mem h.ks (slA s h.sl ++ x.2)
        | false => none)
      | none => none))
  | none => none
def pkS (e : Env) (h : Sh) (s : St) : Option (Dat h.ks) :=
  match fnB s h.fs with
  | true => pkS0 h (unnL e h.un s)
  | false => none
def upS (h : Sh) (y : Dat h.ks) : St :=
  match resL h.bs.length h.ks y with
  | r => ⟨(frS h.sl r.1 ++ frB 0 h.bs) ++ frF h.fs, memB h.bs (r.1.drop h.sl.length) ++ r.2⟩
section
variable {P : Program} {e : Env} {F : Nat → Prop} {w0 w w' : World} {L L' : List Res} {s : St} {vs : List (Nat × Value)} {β : Type} {r : β} {o : Oper}
theorem memB_len : ∀ {bs : List (Nat × List Ty)} {as : List AV}, (memB bs as).length = bs.length
  | [], _ => rfl
  | _ :: r, _ => by rw [memB, List.length_cons, List.length_cons, memB_len]
theorem GR.stp {mem mem2 : List Cn} {L2 : List Res} (hs : Stp w L w' L2) (h : GR e F w mem L) : GR e F w' mem2 L2 := fun g x hx =>
  AVR.stp (mem' := mem2) hs (fun _ => true) (fun r h => by cases h) (h g x hx)
theorem sel_r (m : Mo w0 w L) {rs : List Nat} (hn : nodup rs = true) {Q : List Res} (hq : ∀ (j : Nat) (q : Res), Q[j]? = some q → ∃ r, rs[j]? = some r ∧ L[r]? = some q) : Mo w0 w Q ∧ Stp w L w Q := by
  refine ⟨⟨m.below, fun i q hi => ?_, fun i j a b g hij ha hb hga hgb => ?_⟩, fun g hg => ⟨⟨hg.1, fun r hr => ?_⟩, rfl⟩⟩
  · obtain ⟨r, _, hr⟩ := hq i q hi
    exact m.ok r q hr
  · obtain ⟨r, hr1, hr2⟩ := hq i a ha
    obtain ⟨t, ht1, ht2⟩ := hq j b hb
    have hne : r ≠ t := fun e => by subst e; exact nodup_r hn i j r hij hr1 ht1
    exact m.ap r t a b g hne hr2 ht2 hga hgb
  · obtain ⟨j, hj⟩ := List.getElem?_of_mem hr
    obtain ⟨r', _, hr'⟩ := hq j r hj
    exact hg.2 r (List.mem_of_getElem? hr')
theorem fr_re {mem mem2 : List Cn} {L2 : List Res} : ∀ {fs as : List AV} {ps : List (Ty × List Value)}, All2 (FR F w mem L) fs ps → All2 (AVR F w mem2 L2) as (ps.map fun p => mkV p.1 p.2) → All2 (FR F w mem2 L2) as ps
  | [], [], [], _, _ => trivial
  | _ :: _, _ :: _, _ :: _, h, h2 => ⟨⟨h2.1, h.1.2⟩, fr_re h.2 h2.2⟩
  | _ :: _, [], _ :: _, _, h2 => h2.elim
  | [], _ :: _, [], _, h2 => h2.elim
  | _ :: _, _, [], h, _ => h.elim
  | [], _, _ :: _, h, _ => h.elim
theorem fr_vals {mem : List Cn} : ∀ {fs : List AV} {ps : List (Ty × List Value)}, All2 (FR F w mem L) fs ps → All2 (AVR F w mem L) fs (ps.map fun p => mkV p.1 p.2)
  | [], [], _ => trivial
  | _ :: _, _ :: _, h => ⟨h.1.1, fr_vals h.2⟩
  | _ :: _, [], h => h.elim
  | [], _ :: _, h => h.elim
theorem getB_r (h : SR P e F w0 w s vs L) : ∀ {bs : List (Nat × List Ty)} {x : List Nat × List AV}, getB s bs = some x →
    ∃ (us : List Value) (Qs : List Res), All2 (AVR F w s.mem L) x.2 us ∧ Qs.length = bs.length ∧ x.1.length = bs.length ∧ (∀ (j : Nat) (q : Res), Qs[j]? = some q → ∃ r, x.1[j]? = some r ∧ L[r]? = some q) ∧
      (∀ (mem2 : List Cn) (L2 : List Res) (as2 : List AV), All2 (AVR F w mem2 L2) as2 us → ∀ (i : Nat) (c : Cn) (q : Res), (memB bs as2)[i]? = some c → Qs[i]? = some q → CR P F w mem2 L2 c q) ∧
      ∀ (mem2 : List Cn) (L2 : List Res) (n : Nat), (∀ (j : Nat) (q : Res), Qs[j]? = some q → L2[n + j]? = some q) → ∀ p ∈ frB n bs, SVR F w mem2 L2 p.2 (ev e.N vs (.tmp p.1))
  | [], x, hx => by
    obtain rfl := Option.some.inj hx
    exact ⟨[], [], trivial, rfl, rfl, fun j q hj => by simp at hj, fun _ _ _ _ i c q hi => by simp [memB] at hi, fun _ _ _ _ p hp => by simp [frB] at hp⟩
  | b :: bs, x, hx => by
    unfold getB at hx
    split at hx
    · rename_i q pth ho
      split at hx
      · rename_i us fs hm
        split at hx
        · rename_i hsame
          split at hx
          · rename_i x' hx'
            obtain rfl := Option.some.inj hx
            have hus := sameL_eq hsame
            obtain ⟨us', Qs, i1, i2, i3, i4, i5, i6⟩ := getB_r h hx'
            have hv := one_r (h.f b.1)
            rw [ho] at hv
            obtain ⟨rfl, g, T, cs, hL, hv⟩ := hv
            obtain ⟨g', T', ps, c1, c2, c3⟩ := h.m.cn q _ _ hm hL
            injection c1 with c1 c4 c5
            subst c1 c4 c5
            have hlen : (ps.map fun p => mkV p.1 p.2).length = b.2.length := by rw [List.length_map, ← hus, ← c2, List.length_map]
            refine ⟨(ps.map fun p => mkV p.1 p.2) ++ us', .arr g T (ps.map Prod.snd).flatten :: Qs, All2.app (fr_vals c3) i1, by rw [List.length_cons, List.length_cons, i2], by rw [List.length_cons, List.length_cons, i3], fun j q' hj => ?_, fun mem2 L2 as2 h2 i c q' hc hq => ?_, fun mem2 L2 n hq p hp => ?_⟩
            · cases j with
              | zero => obtain rfl := Option.some.inj hj; exact ⟨q, rfl, hL⟩
              | succ j => exact i4 j q' hj
            · cases i with
              | zero =>
                obtain rfl := Option.some.inj hq
                have hc : some (Cn.blk b.2 (as2.take b.2.length)) = some c := hc
                obtain rfl := Option.some.inj hc
                refine ⟨g, T, ps, rfl, by rw [c2, hus], fr_re c3 ?_⟩
                have := All2.take b.2.length h2
                rwa [List.take_left' hlen] at this
              | succ i =>
                refine i5 mem2 L2 (as2.drop b.2.length) ?_ i c q' hc hq
                have := All2.drop b.2.length h2
                rwa [List.drop_left' hlen] at this
            · have hp : p = (b.1, SV.one (.ptr n none [])) ∨ p ∈ frB (n + 1) bs := by simpa [frB] using hp
              rcases hp with rfl | hp
              · exact ⟨rfl, g, T, _, by simpa using hq 0 _ rfl, hv⟩
              · exact i6 mem2 L2 (n + 1) (fun j q' hj => by rw [Nat.add_assoc, Nat.add_comm 1 j]; exact hq (j + 1) q' hj) p hp
          · cases hx
        · cases hx
      · cases hx
    · cases hx
theorem slA_r (h : SR P e F w0 w s vs L) : ∀ (sl : List Nat), All2 (AVR F w s.mem L) (slA s sl) (sl.map fun k => ev e.N vs (.tmp k))
  | [] => trivial
  | k :: sl => ⟨one_r (h.f k), slA_r h sl⟩
theorem frS_r {mem2 : List Cn} {L2 : List Res} : ∀ {sl : List Nat} {as : List AV}, All2 (AVR F w mem2 L2) as (sl.map fun k => ev e.N vs (.tmp k)) → ∀ p ∈ frS sl as, SVR F w mem2 L2 p.2 (ev e.N vs (.tmp p.1))
  | [], [], _, p, hp => by simp [frS] at hp
  | k :: sl, a :: as, h, p, hp => by
    have hp : p = (k, SV.one a) ∨ p ∈ frS sl as := by simpa [frS] using hp
    rcases hp with rfl | hp
    · exact h.1
    · exact frS_r h.2 p hp
  | [], _ :: _, h, _, _ => h.elim
  | _ :: _, [], h, _, _ => h.elim
theorem frS_app {sl : List Nat} : ∀ {as : List AV}, frS sl as = frS sl (as.take sl.length) := by
  induction sl with
  | nil => intro as; cases as <;> rfl
  | cons k sl ih => intro as; cases as with
    | nil => rfl
    | cons a as => simp [frS, ← ih]
theorem frr_all {mem : List Cn} : ∀ {fr : List (Nat × SV)}, (∀ p ∈ fr, SVR F w mem L p.2 (ev e.N vs (.tmp p.1))) → FrR e F w mem L fr vs
  | [], _, _ => trivial
  | p :: fr, h, k => by
    simp only [lks]
    cases hb : Nat.beq p.1 k with
    | true =>
      obtain rfl := nbeq.1 hb
      exact h p List.mem_cons_self
    | false => exact frr_all (fun q hq => h q (List.mem_cons_of_mem _ hq)) k
theorem fnB_r (h : SR P e F w0 w s vs L) : ∀ {fs : List (Nat × FuncId)}, fnB s fs = true → ∀ p ∈ frF fs, ∀ (w2 : World) (mem2 : List Cn) (L2 : List Res), SVR F w2 mem2 L2 p.2 (ev e.N vs (.tmp p.1))
  | [], _, p, hp => by simp [frF] at hp
  | q :: fs, hq, p, hp => by
    unfold fnB at hq
    split at hq
    · rename_i g hg
      rw [Bool.and_eq_true] at hq
      have hp : p = (q.1, SV.one (.fn q.2)) ∨ p ∈ frF fs := by simpa [frF] using hp
      rcases hp with rfl | hp
      · intro w2 mem2 L2
        have h1 := one_r (h.f q.1)
        rw [hg, nbeq.1 hq.1] at h1
        exact h1
      · exact fnB_r h hq.2 p hp
    · cases hq
/-- WHAT IS PACKED IS HELD STILL. -/
theorem pk_r (he : EnvOk P e) (h : Sh) : Pk P e (pkS e h) (upS h) := by
  intro F w0 w s0 vs L00 d hd hs0
  unfold pkS at hd
  split at hd
  rotate_left
  · cases hd
  rename_i hfn
  have hff := fnB_r hs0 hfn
  obtain ⟨L, hs, st0⟩ := unnL_r he h.un hs0
  generalize unnL e h.un s0 = s at hd hs
  unfold pkS0 at hd
  split at hd
  · rename_i x0 hx0
    obtain ⟨L1, h1, hs1, _⟩ := fzL_r (dropR h.ks (slA s h.sl ++ x0.2)) hs
    generalize fzL (dropR h.ks (slA s h.sl ++ x0.2)) s = s1 at hd h1
    simp only at hd
    split at hd
    · rename_i x hx
      split at hd
      · rename_i hn
        obtain ⟨us, Qs, i1, i2, i3, i4, i5, i6⟩ := getB_r h1 hx
        have ha := All2.app (slA_r h1 h.sl) i1
        obtain ⟨Q, q1, q2, q3, q4⟩ := told_r (n := h.bs.length) h1.m ha hd
        have hsel : ∀ (j : Nat) (q : Res), (Qs ++ Q)[j]? = some q → ∃ r, (x.1 ++ ownR h.ks (slA s1 h.sl ++ x.2))[j]? = some r ∧ L1[r]? = some q := fun j q hj => by
          rcases Nat.lt_or_ge j Qs.length with hl | hl
          · rw [List.getElem?_append_left hl] at hj
            rw [List.getElem?_append_left (by omega)]
            exact i4 j q hj
          · rw [List.getElem?_append_right hl] at hj
            rw [List.getElem?_append_right (by omega), i3, ← i2]
            exact q2 _ q hj
        obtain ⟨mo, hst⟩ := sel_r h1.m.mo hn hsel
        have hS : ∀ g, SF F L1 w g → SF F (Qs ++ Q) w g := fun g hg => (SF.stp hst g hg).1
        have hall := fun mem2 => q4 mem2 (Qs ++ Q) hS fun j q hj => by rw [← i2, List.getElem?_append_right (by omega), Nat.add_sub_cancel_left]; exact hj
        have hlen : (h.sl.map fun k => ev e.N vs (.tmp k)).length = h.sl.length := List.length_map _
        have htake : ∀ mem2, All2 (AVR F w mem2 (Qs ++ Q)) ((resL h.bs.length h.ks d).1.take h.sl.length) (h.sl.map fun k => ev e.N vs (.tmp k)) := fun mem2 => by
          have := All2.take h.sl.length (hall mem2)
          rwa [List.take_left' hlen] at this
        have hdrop : ∀ mem2, All2 (AVR F w mem2 (Qs ++ Q)) ((resL h.bs.length h.ks d).1.drop h.sl.length) us := fun mem2 => by
          have := All2.drop h.sl.length (hall mem2)
          rwa [List.drop_left' hlen] at this
        refine ⟨Qs ++ Q, ⟨⟨mo, ?_, fun i c q hc hq => ?_, fun g hg => (hst g (h1.m.fz g hg)).1⟩, frr_all fun p hp => ?_, GR.stp hst h1.g⟩, st0.trans (hs1.trans hst)⟩
        · show (Qs ++ Q).length = (memB h.bs _ ++ _).length
          rw [List.length_append, List.length_append, memB_len, i2, q1]
        · have hc : (memB h.bs ((resL h.bs.length h.ks d).1.drop h.sl.length) ++ (resL h.bs.length h.ks d).2)[i]? = some c := hc
          rcases Nat.lt_or_ge i Qs.length with hl | hl
          · rw [List.getElem?_append_left hl] at hq
            rw [List.getElem?_append_left (by rw [memB_len]; omega)] at hc
            exact i5 _ _ _ (hdrop _) i c q hc hq
          · rw [List.getElem?_append_right hl] at hq
            rw [List.getElem?_append_right (by rw [memB_len]; omega), memB_len, show i - h.bs.length = i - Qs.length by rw [i2]] at hc
            obtain ⟨t, l, E, v, cs, rfl, rfl, c1, c2, c3⟩ := q3 _ c q hc hq
            exact ⟨E, v, cs, rfl, c1, c2, c3.stp fun g hg => ⟨hS g hg, rfl⟩⟩
        · have hp : p ∈ (frS h.sl (resL h.bs.length h.ks d).1 ++ frB 0 h.bs) ++ frF h.fs := hp
          rcases List.mem_append.1 hp with hp | hp
          rotate_left
          · exact hff p hp _ _ _
          rcases List.mem_append.1 hp with hp | hp
          · rw [frS_app] at hp
            exact frS_r (htake _) p hp
          · exact i6 _ _ 0 (fun j q hj => by rw [Nat.zero_add, List.getElem?_append_left (List.getElem?_eq_some_iff.1 hj).1]; exact hj) p hp
      · cases hd
    · cases hd
  · cases hd
end
end Go.Proofs.Ytpfoeeiacfadfaa.Q
/-
  Loops and joins: stretches of code that are reckoned by themselves.
-/
namespace Go.Proofs.Ytpfoeeiacfadfaa.Q
open Go.RowKit

inductive O3 (A B C : Type) where
  | n (a : A)
  | x (b : B)
  | r (c : C)
/-- What is live at each way out. -/
structure Outs where
  n : Sh
  i : Nat
  x : Sh
  r : Sh
def Outs.O (o : Outs) : Type := O3 (Dat o.n.ks) (Dat o.x.ks) (Dat o.r.ks)
def packO (e : Env) (o : Outs) (x : Ex) (s : St) : Option o.O :=
  match x with
  | .nrm => bnd (pkS e o.n s) fun y => some (.n y)
  | .ext j => (match Nat.beq j o.i with
    | true => bnd (pkS e o.x s) fun y => some (.x y)
    | false => none)
  | .ret => bnd (pkS e o.r s) fun y => some (.r y)
def outO (o : Outs) : o.O → Ex × St
  | .n y => (.nrm, upS o.n y)
  | .x y => (.ext o.i, upS o.x y)
  | .r y => (.ret, upS o.r y)
def goO (o : Outs) {β : Type} (y : o.O) (K : Ex → St → Option β) : Option β :=
  match y with
  | .n y => K .nrm (upS o.n y)
  | .x y => K (.ext o.i) (upS o.x y)
  | .r y => K .ret (upS o.r y)
def unit (e : Env) (h : Sh) (o : Outs) (f : Dat h.ks → Option o.O) : UH := ⟨Dat h.ks, o.O, pkS e h, upS h, f, outO o, goO o, fun y _ => by cases y <;> rfl⟩
/-- So often at most. -/
def itN {δ ο : Type} (F : (δ → Option ο) → δ → Option ο) : Nat → δ → Option ο
  | 0, _ => none
  | k + 1, d => F (itN F k) d
/-- A join, reckoned. -/
def condF (e : Env) (hl : Nat → Option UH) (n : Nat) (c : Operand) (a b : Code) (h : Sh) (o : Outs) (d : Dat h.ks) : Option o.O :=
  bnd (asBool' (av e (upS h d) c)) fun q => cnd q (exec e hl (n + 1) a (upS h d) (packO e o)) (exec e hl (n + 1 + loops a) b (upS h d) (packO e o))
/-- A loop's body, reckoned; f: what is left to do. -/
def loopF (e : Env) (hl : Nat → Option UH) (n : Nat) (b : Code) (h : Sh) (o : Outs) (f : Dat h.ks → Option o.O) (d : Dat h.ks) : Option o.O :=
  exec e hl (n + 1) b (upS h d) fun x s => (match x with
    | .nrm => bnd (pkS e h s) f
    | .ext j => packO e o (.ext j) s
    | .ret => packO e o .ret s)
def exOf : Ex → Exit
  | .nrm => .normal
  | .ext j => .exit j
  | .ret => .ret
section
variable {P : Program} {e : Env} {F : Nat → Prop} {w0 w w' : World} {L L' : List Res} {s : St} {vs : List (Nat × Value)} {β : Type} {r : β}
theorem packO_r (he : EnvOk P e) {o : Outs} {x : Ex} {y : o.O} (hx : packO e o x s = some y) (h : SR P e F w0 w s vs L) : ∃ L', xr (exOf x) (outO o y).1 ∧ SR P e F w0 w (outO o y).2 vs L' ∧ Stp w L w L' := by
  cases x with
  | nrm =>
    replace hx := bnd_some hx
    obtain ⟨d, h1, h2⟩ := hx
    obtain rfl := Option.some.inj h2
    obtain ⟨L', h3, h4⟩ := pk_r he o.n F w0 w s vs L d h1 h
    exact ⟨L', trivial, h3, h4⟩
  | ext j =>
    unfold packO at hx
    simp only at hx
    split at hx
    · rename_i hb
      replace hx := bnd_some hx
      obtain ⟨d, h1, h2⟩ := hx
      obtain rfl := Option.some.inj h2
      obtain ⟨L', h3, h4⟩ := pk_r he o.x F w0 w s vs L d h1 h
      exact ⟨L', nbeq.1 hb, h3, h4⟩
    · cases hx
  | ret =>
    replace hx := bnd_some hx
    obtain ⟨d, h1, h2⟩ := hx
    obtain rfl := Option.some.inj h2
    obtain ⟨L', h3, h4⟩ := pk_r he o.r F w0 w s vs L d h1 h
    exact ⟨L', trivial, h3, h4⟩
theorem xr_eq {x : Exit} {x' : Ex} {y : Ex} (h : xr x x') (h2 : xr (exOf x') y) : xr x y := by
  cases x <;> cases x' <;> first | exact h.elim | exact h2 | (obtain rfl := show _ = _ from h; exact h2)
theorem cond_u (hok : Okk P e) {hl : Nat → Option UH} {n : Nat} {c : Operand} {a b : Code} {h : Sh} {o : Outs} {f : Dat h.ks → Option o.O} (ha : UAll P e hl (n + 1) a) (hb : UAll P e hl (n + 1 + loops a) b)
    (hf : ∀ d y, f d = some y → condF e hl n c a b h o d = some y) : UOk P e (.cond c a b) (unit e h o f) ∧ Pk P e (unit e h o f).pk (unit e h o f).up := by
  refine ⟨fun F w0 w vs L d y hd hs => ?_, pk_r hok.o.t h⟩
  have hc := hf d y hd
  unfold condF at hc
  replace hc := bnd_some hc
  obtain ⟨q, h1, hc⟩ := hc
  have hs : SR P e F w0 w (upS h d) vs L := hs
  have hv := asBool_r h1 (av_r hs.f hs.g c)
  have key : ∀ {c' : Code} {m : Nat}, UAll P e hl m c' → exec e hl m c' (upS h d) (packO e o) = some y → CW P c' (fun x a w' => ∃ vs' L', a = A e.N vs' ∧ xr x ((unit e h o f).out y).1 ∧ SR P e F w0 w' ((unit e h o f).out y).2 vs' L' ∧ Stp w L w' L') (A e.N vs) w := fun {c' m} hu hk => by
    refine CW.mono (fun x a' w' hq => ?_) (exec_r hok c' m hu hs hk)
    obtain ⟨s', vs', L', x', q1, rfl, q2, q3, q4⟩ := hq
    obtain ⟨L2, g1, g2, g3⟩ := packO_r hok.o.t q2 q3
    exact ⟨vs', L2, rfl, xr_eq q1 g1, g2, q4.trans g3⟩
  cases q with
  | true => exact cdt hv (key ha hc)
  | false => exact cdf hv (key hb hc)
theorem loop_u (hok : Okk P e) {hl : Nat → Option UH} {n : Nat} {b : Code} {h : Sh} {o : Outs} {f : Dat h.ks → Option o.O} (hb : UAll P e hl (n + 1) b) (g : Nat → Dat h.ks → Option o.O) (h0 : ∀ d, g 0 d = none)
    (hg : ∀ k d y, g (k + 1) d = some y → loopF e hl n b h o (g k) d = some y) (hf : ∀ d y, f d = some y → ∃ k, g k d = some y) : UOk P e (.loop b) (unit e h o f) ∧ Pk P e (unit e h o f).pk (unit e h o f).up := by
  refine ⟨fun F w0 w vs L d y hd hs => ?_, pk_r hok.o.t h⟩
  obtain ⟨k, hk⟩ := hf d y hd
  refine ⟨wp_loop (fun a w' => ∃ k d vs' L', g k d = some y ∧ a = A e.N vs' ∧ SR P e F w0 w' (upS h d) vs' L' ∧ Stp w L w' L') (fun a w' => Classical.epsilon fun k => (∃ d vs' L', g k d = some y ∧ a = A e.N vs' ∧ SR P e F w0 w' (upS h d) vs' L' ∧ Stp w L w' L') ∧ ∀ m, (∃ d vs' L', g m d = some y ∧ a = A e.N vs' ∧ SR P e F w0 w' (upS h d) vs' L' ∧ Stp w L w' L') → k ≤ m) ⟨k, d, vs, L, hk, rfl, hs, Stp.refl _ _⟩ ?_⟩
  intro a w1 hh
  have hM := Classical.epsilon_spec (p := fun k => (∃ d vs' L', g k d = some y ∧ a = A e.N vs' ∧ SR P e F w0 w1 (upS h d) vs' L' ∧ Stp w L w1 L') ∧ ∀ m, (∃ d vs' L', g m d = some y ∧ a = A e.N vs' ∧ SR P e F w0 w1 (upS h d) vs' L' ∧ Stp w L w1 L') → k ≤ m) (exists_min hh)
  generalize Classical.epsilon (fun k => (∃ d vs' L', g k d = some y ∧ a = A e.N vs' ∧ SR P e F w0 w1 (upS h d) vs' L' ∧ Stp w L w1 L') ∧ ∀ m, (∃ d vs' L', g m d = some y ∧ a = A e.N vs' ∧ SR P e F w0 w1 (upS h d) vs' L' ∧ Stp w L w1 L') → k ≤ m) = k1 at hM
  obtain ⟨⟨d1, vs1, L1, hk1, rfl, hs1, hst1⟩, _⟩ := hM
  cases k1 with
  | zero => rw [h0] at hk1; cases hk1
  | succ k1 =>
    refine Code.wp_mono (fun x a' w' hq => ?_) (exec_r hok b (n + 1) hb hs1 (hg k1 d1 y hk1)).h
    obtain ⟨s', vs', L', x', q1, rfl, q2, q3, q4⟩ := hq
    cases x <;> cases x' <;> first | exact q1.elim | skip
    · replace q2 := bnd_some q2
      obtain ⟨d2, h1, h2⟩ := q2
      obtain ⟨L2, h3, h4⟩ := pk_r hok.o.t h F w0 w' s' vs' L' d2 h1 q3
      have hin : ∃ d vs2 L2, g k1 d = some y ∧ A e.N vs' = A e.N vs2 ∧ SR P e F w0 w' (upS h d) vs2 L2 ∧ Stp w L w' L2 := ⟨d2, vs', L2, h2, rfl, h3, hst1.trans (q4.trans h4)⟩
      exact ⟨⟨k1, hin⟩, Nat.lt_succ_of_le ((Classical.epsilon_spec (p := fun k => (∃ d vs2 L', g k d = some y ∧ A e.N vs' = A e.N vs2 ∧ SR P e F w0 w' (upS h d) vs2 L' ∧ Stp w L w' L') ∧ ∀ m, (∃ d vs2 L', g m d = some y ∧ A e.N vs' = A e.N vs2 ∧ SR P e F w0 w' (upS h d) vs2 L' ∧ Stp w L w' L') → k ≤ m) (exists_min ⟨k1, hin⟩)).2 _ hin)⟩
    · obtain ⟨L2, g1, g2, g3⟩ := packO_r hok.o.t q2 q3
      exact ⟨vs', L2, rfl, xr_eq (x' := .ext _) q1 g1, g2, hst1.trans (q4.trans g3)⟩
    · obtain ⟨L2, g1, g2, g3⟩ := packO_r hok.o.t q2 q3
      exact ⟨vs', L2, rfl, xr_eq (x' := .ret) q1 g1, g2, hst1.trans (q4.trans g3)⟩
end
end Go.Proofs.Ytpfoeeiacfadfaa.Q
/-
  Tables: types, functions, stretches of code.
-/
namespace Go.Proofs.Ytpfoeeiacfadfaa.Q
open Go.RowKit

def Each {α : Type 1} (p : α → Prop) : List α → Prop
  | [] => True
  | a :: l => p a ∧ Each p l
def Each0 {α : Type} (p : α → Prop) : List α → Prop
  | [] => True
  | a :: l => p a ∧ Each0 p l
def lkT {α : Type} : List (Nat × α) → Nat → Option α
  | [], _ => none
  | p :: l, n => (match Nat.beq p.1 n with | true => some p.2 | false => lkT l n)
def lkU : List (Nat × UH) → Nat → Option UH
  | [], _ => none
  | p :: l, n => (match Nat.beq p.1 n with | true => some p.2 | false => lkU l n)
theorem lkT_each {α : Type} {p : Nat × α → Prop} : ∀ {l : List (Nat × α)} {n : Nat} {a : α}, Each0 p l → lkT l n = some a → p (n, a)
  | [], _, _, _, h => by cases h
  | q :: l, n, a, he, h => by
    unfold lkT at h
    split at h
    · rename_i hb
      obtain rfl := nbeq.1 hb
      obtain rfl := Option.some.inj h
      exact he.1
    · exact lkT_each he.2 h
theorem lkU_each {p : Nat × UH → Prop} : ∀ {l : List (Nat × UH)} {n : Nat} {a : UH}, Each p l → lkU l n = some a → p (n, a)
  | [], _, _, _, h => by cases h
  | q :: l, n, a, he, h => by
    unfold lkU at h
    split at h
    · rename_i hb
      obtain rfl := nbeq.1 hb
      obtain rfl := Option.some.inj h
      exact he.1
    · exact lkU_each he.2 h
/-- Loops and conditions, in order. -/
def units : Code → List Code
  | .seq a b => units a ++ units b
  | .cond c a b => .cond c a b :: (units a ++ units b)
  | .block _ b => units b
  | .loop b => .loop b :: units b
  | .region id ops draw => (match draw with | true => [.region id ops true] | false => [])
  | _ => []
theorem units_len : ∀ c, (units c).length = loops c
  | .seq a b => by rw [units, List.length_append, units_len a, units_len b]; rfl
  | .cond c a b => by rw [units, List.length_cons, List.length_append, units_len a, units_len b]; rfl
  | .block _ b => by rw [units, units_len b]; rfl
  | .loop b => by rw [units, List.length_cons, units_len b]; rfl
  | .skip => rfl
  | .region _ _ draw => by cases draw <;> rfl
  | .exit _ => rfl
  | .ret => rfl
  | .rangeFunc _ _ _ _ => rfl
  | .scope _ => rfl
  | .label _ => rfl
  | .goto _ => rfl
  | .refuse _ => rfl
section
variable {P : Program} {e : Env}
theorem uall_of {hl : Nat → Option UH} : ∀ (c : Code) (n : Nat), (∀ (i : Nat) (cu : Code) (u : UH), (units c)[i]? = some cu → hl (n + i) = some u → UOk P e cu u ∧ Pk P e u.pk u.up) → UAll P e hl n c
  | .seq a b, n, h => ⟨uall_of a n fun i cu u h1 h2 => h i cu u (by rw [units, List.getElem?_append_left (List.getElem?_eq_some_iff.1 h1).1]; exact h1) h2,
      uall_of b _ fun i cu u h1 h2 => h (loops a + i) cu u (by rw [units, List.getElem?_append_right (by rw [units_len]; omega), units_len, Nat.add_sub_cancel_left]; exact h1) (by rw [← Nat.add_assoc]; exact h2)⟩
  | .cond c a b, n, h => by
    unfold UAll
    split
    · rename_i u hu
      exact h 0 _ u rfl hu
    · refine ⟨uall_of a _ fun i cu u h1 h2 => h (i + 1) cu u ?_ (by rw [show n + (i + 1) = n + 1 + i by omega]; exact h2), uall_of b _ fun i cu u h1 h2 => h (loops a + i + 1) cu u ?_ (by rw [show n + (loops a + i + 1) = n + 1 + loops a + i by omega]; exact h2)⟩
      · rw [units, List.getElem?_cons_succ, List.getElem?_append_left (List.getElem?_eq_some_iff.1 h1).1]; exact h1
      · rw [units, List.getElem?_cons_succ, List.getElem?_append_right (by rw [units_len]; omega), units_len, Nat.add_sub_cancel_left]; exact h1
  | .block _ b, n, h => uall_of b n h
  | .loop b, n, h => by
    unfold UAll
    split
    · rename_i u hu
      exact h 0 _ u rfl hu
    · trivial
  | .skip, _, _ => trivial
  | .region _ _ draw, n, h => by
    cases draw with
    | true =>
      unfold UAll
      simp only
      split
      · rename_i u hu
        exact h 0 _ u rfl hu
      · trivial
    | false => trivial
  | .exit _, _, _ => trivial
  | .ret, _, _ => trivial
  | .rangeFunc _ _ _ _, _, _ => trivial
  | .scope _, _, _ => trivial
  | .label _, _, _ => trivial
  | .goto _, _, _ => trivial
  | .refuse _, _, _ => trivial
/-- What the program says of types, by tables. -/
theorem EF.mk' {T : TypeId} {t : Ty} {b : Nat} (h : (P.info? T).map (fun i => (i.zero, i.size, i.bytes)) = some (some (mkV t (zc t)), z t, b)) (hb : Nat.ble b 1024 = true) (ha : (P.underlying T).map (fun d => match d with | .struct _ | .array _ _ => true | _ => false) = some (agg t)) : EF P T t := by
  refine ⟨?_, ?_⟩
  · cases hi : P.info? T with
    | none => rw [hi] at h; cases h
    | some q =>
      rw [hi] at h
      have h := Option.some.inj h
      exact ⟨q, rfl, congrArg (·.2.1) h, congrArg (·.1) h, by have := congrArg (·.2.2) h; simp at this; rw [this]; exact Nat.le_of_ble_eq_true hb⟩
  · cases hi : P.underlying T with
    | none => rw [hi] at ha; cases ha
    | some q =>
      rw [hi] at ha
      exact ⟨q, rfl, Option.some.inj ha⟩
def TRow (P : Program) (p : Nat × TI) : Prop := TIok P p.1 p.2 ∧ (cmpb p.2.t = true → TE P p.2.t (.inl p.1) ∧ ht p.2.t ≤ 10000 ∧ P.eqGuardType P.depth p.1 = false)
theorem env_ok {tab : List (Nat × TI)} (h : Each0 (TRow P) tab) (n : Nat) (hs : FuncId → Option Hd) (G : Nat → Option Sg) : EnvOk P ⟨n, lkT tab, hs, G⟩ :=
  ⟨fun _ _ hi => (lkT_each h hi).1, fun _ _ hi => (lkT_each h hi).2⟩
end
end Go.Proofs.Ytpfoeeiacfadfaa.Q
/-
  What qgen.py's texts lean on.
-/
namespace Go.Proofs.Ytpfoeeiacfadfaa.Q
open Go.RowKit

/-- More turns than any loop takes. -/
def fuel : Nat := 18446744073709551616
def lbody : Code → Code
  | .loop b => b
  | _ => .skip
def unitAt (c : Code) (n : Nat) : Code := (units c)[n]?.getD .skip
def isCond : Code → Bool
  | .cond _ _ _ => true
  | _ => false
def condU (e : Env) (hl : Nat → Option UH) (n : Nat) (c : Code) (h : Sh) (o : Outs) (d : Dat h.ks) : Option o.O :=
  match c with
  | .cond q a b => condF e hl n q a b h o d
  | _ => none
section
variable {P : Program} {e : Env} {hl : Nat → Option UH} {n : Nat} {c : Code} {h : Sh} {o : Outs}
theorem uall_at {tab : List (Nat × UH)} (h : Each (fun p => ∃ cu, n ≤ p.1 ∧ (units c)[p.1 - n]? = some cu ∧ UOk P e cu p.2 ∧ Pk P e p.2.pk p.2.up) tab) : UAll P e (lkU tab) n c :=
  uall_of c n fun i cu u h1 h2 => by
    obtain ⟨cu', _, g1, g2⟩ := lkU_each h h2
    rw [Nat.add_sub_cancel_left] at g1
    obtain rfl := Option.some.inj (h1.symm.trans g1)
    exact g2
theorem loop_at (hok : Okk P e) {b : Code} (hc : c = .loop b) (hb : UAll P e hl (n + 1) b) (k : (Dat h.ks → Option o.O) → Dat h.ks → Option o.O) (m : Nat) (he : ∀ f d, loopF e hl n b h o f d = k f d) :
    UOk P e c (unit e h o (itN k m)) ∧ Pk P e (unit e h o (itN k m)).pk (unit e h o (itN k m)).up := by
  subst hc
  exact loop_u (n := n) (hl := hl) hok hb (itN k) (fun _ => rfl) (fun j d y hy => (he (itN k j) d).trans hy) fun d y hy => ⟨m, hy⟩
theorem cond_at (hok : Okk P e) (hc : isCond c = true) (hn : hl n = none) (hu : UAll P e hl n c) (f : Dat h.ks → Option o.O) (he : ∀ d, condU e hl n c h o d = f d) :
    UOk P e c (unit e h o f) ∧ Pk P e (unit e h o f).pk (unit e h o f).up := by
  cases c with
  | cond q a b =>
    unfold UAll at hu
    rw [hn] at hu
    exact cond_u hok hu.1 hu.2 fun d y hy => (he d).trans hy
  | _ => cases hc
end
def stL : TypeDesc → Option (List (Nat × TypeId))
  | .struct fs => some (fs.toList.map fun f => (f.offset, f.type))
  | _ => none
end Go.Proofs.Ytpfoeeiacfadfaa.Q
/-
  A stretch that draws its order, in which several operations turn memory and none waits for the other: it is reckoned in each order that counts, and must come to the same.
-/
namespace Go.Proofs.Ytpfoeeiacfadfaa.Q
open Go.RowKit

theorem bnd_s {α β : Type} {a : α} {k : α → Option β} : bnd (some a) k = k a := rfl
theorem guard_t {β : Type} {k : Option β} : guard true k = k := rfl
/-- The orders that count. -/
inductive Plan where
  | fin
  | op (i : Nat) (p : Plan)
  | alt (a b : Plan)
def heads : Plan → List Nat
  | .fin => []
  | .op i _ => [i]
  | .alt a b => heads a ++ heads b
def okPl (ops : Array Oper) (kd : List Nat) : Bool → Plan → List Nat → Bool
  | fl, .fin, done => !fl && (Nat.beq (ops.size - done.length) 0 && (Region.ready .any ops (Seq.mark ops.size done)).isEmpty)
  | fl, .op i p, done => (fl || Seq.chk1 ops kd done i) && okPl ops kd false p (i :: done)
  | fl, .alt a b, done => (fl || (!(heads a).isEmpty && Seq.chkF ops kd done (heads a ++ heads b))) && (okPl ops kd true a done && okPl ops kd true b done)
def runP {β : Type} (e : Env) (mem : List Cn) (R : List Nat) (ops : Array Oper) : Plan → St → (St → Option (List β)) → Option (List β)
  | .fin, s, K => K s
  | .op i p, s, K => (match ops[i]? with
    | some o => runG e mem R ops [o] s fun s => runP e mem R ops p s K
    | none => none)
  | .alt a b, s, K => bnd (runP e mem R ops a s K) fun x => bnd (runP e mem R ops b s K) fun y => some (x ++ y)
/-- A region, reckoned in all orders. -/
def regF (e : Env) (c : Code) (p : Plan) (h : Sh) (o : Outs) (d : Dat h.ks) : Option (List o.O) :=
  match c with
  | .region _ ops _ => runP e (upS h d).mem (readsG e (upS h d) ops.toList) ops p (upS h d) fun s => bnd (packO e o .nrm s) fun y => some [y]
  | _ => none
def regOk (e : Env) (c : Code) (p : Plan) : Bool :=
  match c with
  | .region _ ops draw => draw && (Region.noSelect ops && okPl ops (kdsG e ops.toList) false p [])
  | _ => false
section
variable {P : Program} {e : Env} {F : Nat → Prop} {w0 w w' : World} {L L' : List Res} {s : St} {vs : List (Nat × Value)} {β : Type} {r : β}
theorem allso_app {l : List Oper} {C : World → Prop} {kd : List Nat} {Q : Act → World → Prop} {done : List Nat} {a : Act} : ∀ {xs ys : List Nat}, AllSO P l C kd Q done a w xs → AllSO P l C kd Q done a w ys → AllSO P l C kd Q done a w (xs ++ ys)
  | [], _, _, h => h
  | _ :: _, _, h, h2 => ⟨h.1, allso_app h.2 h2⟩
theorem runP_r (hok : Okk P e) {l : List Oper} {wS : World} {memS : List Cn} {LS : List Res} {R : List Nat} (mS : MR P F w0 wS memS LS) (hsel : Region.noSelect l.toArray = true) {K : St → Option β} {y : β} : ∀ (p : Plan) (fl : Bool) (done : List Nat) {r : List β} {s : St} {vs : List (Nat × Value)} {L : List Res} {w : World},
    okPl l.toArray (kdsG e l) fl p done = true → Ext memS LS s.mem L → Cr wS LS R w → SR P e F w0 w s vs L → Stp wS LS w L → runP e memS R l.toArray p s (fun s => bnd (K s) fun y => some [y]) = some r → (∀ x ∈ r, x = y) →
    (match fl with
     | false => WA P l (Cr wS LS R) (kdsG e l) (fun a w' => ∃ s' vs' L', a = A e.N vs' ∧ K s' = some y ∧ SR P e F w0 w' s' vs' L' ∧ Stp wS LS w' L') done (A e.N vs) w
     | true => AllSO P l (Cr wS LS R) (kdsG e l) (fun a w' => ∃ s' vs' L', a = A e.N vs' ∧ K s' = some y ∧ SR P e F w0 w' s' vs' L' ∧ Stp wS LS w' L') done (A e.N vs) w (heads p))
  | .fin, fl, done, r, s, vs, L, w, hp, hX, hC, h, hst, hk, hr => by
    unfold okPl at hp
    cases fl with
    | true => cases hp
    | false =>
      have hk : bnd (K s) (fun y => some [y]) = some r := hk
      obtain ⟨y', h1, h2⟩ := bnd_some hk
      obtain rfl := Option.some.inj h2
      obtain rfl := hr y' (by simp)
      exact wa_end (by simpa using hp) ⟨s, vs, L, rfl, h1, h, hst⟩
  | .op i p, fl, done, r, s, vs, L, w, hp, hX, hC, h, hst, hk, hr => by
    unfold okPl at hp
    rw [Bool.and_eq_true] at hp
    unfold runP at hk
    cases ho : l.toArray[i]? with
    | none => rw [ho] at hk; cases hk
    | some o =>
      rw [ho] at hk
      simp only at hk
      have hd : ∃ rest, l.drop i = o :: rest := by
        have h9 : l[i]? = some o := by simpa using ho
        obtain ⟨hlt, he⟩ := List.getElem?_eq_some_iff.1 h9
        exact ⟨_, by rw [List.drop_eq_getElem_cons hlt, he]⟩
      obtain ⟨rest, hd⟩ := hd
      have hkd : ∀ j o', [o][j]? = some o' → (kdsG e l).getD (i + j) 0 = kdG e o' := fun j o' hj => by
        cases j with
        | succ j => simp at hj
        | zero =>
          obtain rfl := Option.some.inj hj
          have h9 : l[i]? = some o := by simpa using ho
          rw [Nat.add_zero, List.getD_eq_getElem?_getD]
          unfold kdsG
          rw [List.getElem?_map, h9]; rfl
      have hq : WQ P l.toArray (Cr wS LS R) (kdsG e l) (fun a w' => WA P l (Cr wS LS R) (kdsG e l) (fun a w' => ∃ s' vs' L', a = A e.N vs' ∧ K s' = some y ∧ SR P e F w0 w' s' vs' L' ∧ Stp wS LS w' L') (i :: done) a w') i [o] (A e.N vs) w := by
        refine ⟨wpSeq_mono (fun a w' hq => ?_) _ _ _ _ (run_gc hok mS [o] i hkd hX hC h hk)⟩
        obtain ⟨s', vs', L', rfl, q2, q3, q4, q5, q6⟩ := hq
        exact runP_r hok mS hsel p false (i :: done) hp.2 q5 q6 q3 (hst.trans q4) q2 hr
      cases fl with
      | false =>
        have hc : Seq.chk1 l.toArray (kdsG e l) done i = true := by simpa using hp.1
        exact wa_first hsel hd hc hq
      | true => exact ⟨so hd hq, trivial⟩
  | .alt a b, fl, done, r, s, vs, L, w, hp, hX, hC, h, hst, hk, hr => by
    unfold okPl at hp
    rw [Bool.and_eq_true, Bool.and_eq_true] at hp
    unfold runP at hk
    obtain ⟨x, h1, hk⟩ := bnd_some hk
    obtain ⟨z, h2, hk⟩ := bnd_some hk
    obtain rfl := Option.some.inj hk
    have ha := runP_r hok mS hsel a true done hp.2.1 hX hC h hst h1 (fun u hu => hr u (List.mem_append_left _ hu))
    have hb := runP_r hok mS hsel b true done hp.2.2 hX hC h hst h2 (fun u hu => hr u (List.mem_append_right _ hu))
    have hall := allso_app ha hb
    cases fl with
    | true => exact hall
    | false =>
      have hc := hp.1
      simp only [Bool.false_or, Bool.and_eq_true] at hc
      cases hh : heads a ++ heads b with
      | nil =>
        rw [List.append_eq_nil_iff] at hh
        rw [hh.1] at hc
        cases hc.1
      | cons c cs =>
        rw [hh] at hall hc
        exact wa_fork c cs hsel hc.2 hall
theorem reg_at (hok : Okk P e) {c : Code} {p : Plan} (hc : regOk e c p = true) {h : Sh} {o : Outs} (f : Dat h.ks → Option o.O) (hf : ∀ d y, f d = some y → ∃ r, regF e c p h o d = some r ∧ ∀ x ∈ r, x = y) :
    UOk P e c (unit e h o f) ∧ Pk P e (unit e h o f).pk (unit e h o f).up := by
  refine ⟨fun F w0 w vs L d y hd hs => ?_, pk_r hok.o.t h⟩
  have hs : SR P e F w0 w (upS h d) vs L := hs
  obtain ⟨r, h1, h2⟩ := hf d y hd
  cases c with
  | region id ops draw =>
    unfold regOk at hc
    simp only [Bool.and_eq_true] at hc
    obtain ⟨rfl, hsel, hpl⟩ := hc
    have hb : Below w.heap.size w (w.drewN 1) := ⟨rfl, rfl, rfl, Nat.le_refl _, fun _ _ => rfl⟩
    obtain ⟨h', s'⟩ := hs.gr hb
    have e1 : ops = ops.toList.toArray := (Array.toArray_toList).symm
    rw [e1]
    have hr := runP_r (R := readsG e (upS h d) ops.toList) (K := packO e o .nrm) hok h'.m (by rw [← e1]; exact hsel) p false [] (r := r) (y := y) (by rw [← e1]; exact hpl) (Ext.refl _ _) (fun _ _ _ _ _ _ => rfl) h' (Stp.refl _ _) (by rw [← e1]; exact h1) h2
    refine rf (Cr (w.drewN 1) L (readsG e (upS h d) ops.toList)) (kdsG e ops.toList) hok.mixed (fun _ _ _ _ _ _ => rfl) ?_
    refine ⟨fun hC hclo => ?_⟩
    have h9 := hr.h hC hclo
    refine wpAnyQ_mono (fun a w' hq => ?_) _ _ _ _ h9
    obtain ⟨s1, vs1, L1, q1, q2, q3, q4⟩ := hq
    obtain ⟨L2, g1, g2, g3⟩ := packO_r hok.o.t q2 q3
    exact ⟨vs1, L2, q1, g1, g2, (s'.trans q4).trans g3⟩
  | _ => cases hc
end
end Go.Proofs.Ytpfoeeiacfadfaa.Q
/-
  The same where what is read is turned too: each read counts.
-/
namespace Go.Proofs.Ytpfoeeiacfadfaa.Q
open Go.RowKit

def runP0 {β : Type} (e : Env) (ops : Array Oper) : Plan → St → (St → Option (List β)) → Option (List β)
  | .fin, s, K => K s
  | .op i p, s, K => (match ops[i]? with
    | some o => runOps e ops [o] s fun s => runP0 e ops p s K
    | none => none)
  | .alt a b, s, K => bnd (runP0 e ops a s K) fun x => bnd (runP0 e ops b s K) fun y => some (x ++ y)
/-- A region, reckoned in all orders. -/
def regF0 (e : Env) (c : Code) (p : Plan) (h : Sh) (o : Outs) (d : Dat h.ks) : Option (List o.O) :=
  match c with
  | .region _ ops _ => runP0 e ops p (upS h d) fun s => bnd (packO e o .nrm s) fun y => some [y]
  | _ => none
def regOk0 (e : Env) (c : Code) (p : Plan) : Bool :=
  match c with
  | .region _ ops draw => draw && (Region.noSelect ops && okPl ops (kds e ops.toList) false p [])
  | _ => false
section
variable {P : Program} {e : Env} {F : Nat → Prop} {w0 w w' : World} {L L' : List Res} {s : St} {vs : List (Nat × Value)} {β : Type} {r : β}
end
end Go.Proofs.Ytpfoeeiacfadfaa.Q
