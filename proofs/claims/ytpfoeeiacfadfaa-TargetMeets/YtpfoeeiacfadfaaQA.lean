/-
  What Go's plain data are, as Lean's: numbers, truths, texts, arrays, slices, structs; the cells in which a world holds them.
-/
import Derived.Test.YtpfoeeiacfadfaaFr
import Derived.Laws.CopyRow
import Derived.Laws.Rows
import Derived.Laws.AppendOwnNone
import Derived.Laws.OwnMore
import Derived.Great.BuildSlice
import Derived.ChangeKeysEq
import Derived.Laws.StructEq
import Derived.Laws.Tables
noncomputable section
namespace Go.Proofs.Ytpfoeeiacfadfaa.Q
open Go.RowKit

/-- A thing into which the kernel does not look. -/
noncomputable def hide {α : Type} (a : α) : α := Classical.choose (⟨a, rfl⟩ : ∃ x, x = a)
theorem hide_eq {α : Type} (a : α) : hide a = a := Classical.choose_spec (⟨a, rfl⟩ : ∃ x, x = a)
/-- The shape of a datum. -/
inductive Ty where
  | int (k : IntKind)
  | bool
  | str
  | arr (n : Nat) (t : Ty)
  | sl (t : Ty)
  | unit
  | pair (a b : Ty)
  | opq (k : Nat)
def IK : IntKind → Type
  | .u8 => UInt8
  | .u16 => UInt16
  | .u32 => UInt32
  | .u64 => UInt64
  | .i8 => Int
  | .i16 => Int
  | .i32 => Int
  | .i64 => Int
/-- The data of a shape. -/
def D : Ty → Type
  | .int k => IK k
  | .bool => Bool
  | .str => List UInt8
  | .arr _ t => List (D t)
  | .sl t => List (D t)
  | .unit => Unit
  | .pair a b => D a × D b
  | .opq _ => Unit
def toI : (k : IntKind) → IK k → Int
  | .u8, x => ((UInt8.toNat x : Nat) : Int)
  | .u16, x => ((UInt16.toNat x : Nat) : Int)
  | .u32, x => ((UInt32.toNat x : Nat) : Int)
  | .u64, x => ((UInt64.toNat x : Nat) : Int)
  | .i8, x => x
  | .i16, x => x
  | .i32, x => x
  | .i64, x => x
/-- Unsigned kinds: modulo; signed ones: as it is. -/
def ofI : (k : IntKind) → Int → IK k
  | .u8, z => UInt8.ofNat (z % 256).toNat
  | .u16, z => UInt16.ofNat (z % 65536).toNat
  | .u32, z => UInt32.ofNat (z % 4294967296).toNat
  | .u64, z => UInt64.ofNat (z % 18446744073709551616).toNat
  | .i8, z => z
  | .i16, z => z
  | .i32, z => z
  | .i64, z => z
/-- Between -C and C - 1; asked so that the kernel stands still at what is unknown. -/
def inZ (C : Nat) : Int → Bool
  | .ofNat n => Nat.blt n C
  | .negSucc n => Nat.blt n C
@[simp] theorem inZ_iff (C : Nat) (z : Int) : inZ C z = true ↔ -(C : Int) ≤ z ∧ z < (C : Int) := by
  cases z with
  | ofNat n =>
    show Nat.blt n C = true ↔ _
    rw [Nat.blt_eq]
    show n < C ↔ -(C : Int) ≤ (n : Int) ∧ (n : Int) < (C : Int)
    omega
  | negSucc n =>
    show Nat.blt n C = true ↔ _
    rw [Nat.blt_eq, Int.negSucc_eq]
    omega
/-- A number that its kind holds. -/
def inR : IntKind → Int → Bool
  | .i8, z => inZ 128 z
  | .i16, z => inZ 32768 z
  | .i32, z => inZ 2147483648 z
  | .i64, z => inZ 9223372036854775808 z
  | _, _ => true
theorem toI_ofI : ∀ (k : IntKind) (z : Int), inR k z = true → toI k (ofI k z) = k.wrap z
  | .u8, z, _ => by
    show (((UInt8.ofNat (z % 256).toNat).toNat : Nat) : Int) = _
    rw [UInt8.toNat_ofNat']
    simp [IntKind.wrap, IntKind.bits, IntKind.signed]; omega
  | .u16, z, _ => by
    show (((UInt16.ofNat (z % 65536).toNat).toNat : Nat) : Int) = _
    rw [UInt16.toNat_ofNat']
    simp [IntKind.wrap, IntKind.bits, IntKind.signed]; omega
  | .u32, z, _ => by
    show (((UInt32.ofNat (z % 4294967296).toNat).toNat : Nat) : Int) = _
    rw [UInt32.toNat_ofNat']
    simp [IntKind.wrap, IntKind.bits, IntKind.signed]; omega
  | .u64, z, _ => by
    show (((UInt64.ofNat (z % 18446744073709551616).toNat).toNat : Nat) : Int) = _
    rw [UInt64.toNat_ofNat']
    simp [IntKind.wrap, IntKind.bits, IntKind.signed]; omega
  | .i8, z, h => by
    show z = _
    simp only [inR, inZ_iff] at h
    simp [IntKind.wrap, IntKind.bits, IntKind.signed]; omega
  | .i16, z, h => by
    show z = _
    simp only [inR, inZ_iff] at h
    simp [IntKind.wrap, IntKind.bits, IntKind.signed]; omega
  | .i32, z, h => by
    show z = _
    simp only [inR, inZ_iff] at h
    simp [IntKind.wrap, IntKind.bits, IntKind.signed]; omega
  | .i64, z, h => by
    show z = _
    simp only [inR, inZ_iff] at h
    simp [IntKind.wrap, IntKind.bits, IntKind.signed]; omega

/-- How many cells. -/
def z : Ty → Nat
  | .arr n t => n * z t
  | .unit => 0
  | .pair a b => z a + z b
  | _ => 1
def agg : Ty → Bool
  | .arr _ _ => true
  | .unit => true
  | .pair _ _ => true
  | _ => false
def same : Ty → Ty → Bool
  | .int j, .int k => (match j, k with | .i8, .i8 => true | .i16, .i16 => true | .i32, .i32 => true | .i64, .i64 => true | .u8, .u8 => true | .u16, .u16 => true | .u32, .u32 => true | .u64, .u64 => true | _, _ => false)
  | .bool, .bool => true
  | .str, .str => true
  | .arr n s, .arr m t => Nat.beq n m && same s t
  | .sl s, .sl t => same s t
  | .unit, .unit => true
  | .pair a b, .pair c d => same a c && same b d
  | .opq j, .opq k => Nat.beq j k
  | _, _ => false
theorem same_eq : ∀ {s t : Ty}, same s t = true → s = t
  | .int j, t, h => by cases t <;> simp only [same, Bool.false_eq_true] at h; rename_i k; cases j <;> cases k <;> first | rfl | cases h
  | .bool, t, h => by cases t <;> simp only [same, Bool.false_eq_true] at h; rfl
  | .str, t, h => by cases t <;> simp only [same, Bool.false_eq_true] at h; rfl
  | .arr n s, t, h => by cases t <;> simp only [same, Bool.false_eq_true, Bool.and_eq_true] at h; rw [Nat.eq_of_beq_eq_true h.1, same_eq h.2]
  | .sl s, t, h => by cases t <;> simp only [same, Bool.false_eq_true] at h; rw [same_eq h]
  | .unit, t, h => by cases t <;> simp only [same, Bool.false_eq_true] at h; rfl
  | .pair a b, t, h => by cases t <;> simp only [same, Bool.false_eq_true, Bool.and_eq_true] at h; rw [same_eq h.1, same_eq h.2]
  | .opq j, t, h => by cases t <;> simp only [same, Bool.false_eq_true] at h; rw [Nat.eq_of_beq_eq_true h]
/-- The same datum, where its shape is the one that is asked for. -/
def cast (s t : Ty) (x : D s) : Option (D t) := if h : same s t = true then some (same_eq h ▸ x) else none
theorem cast_eq {s t : Ty} {x : D s} {y : D t} (h : cast s t x = some y) : ∃ e : s = t, e ▸ x = y := by
  unfold cast at h
  split at h
  · exact ⟨same_eq ‹_›, by simpa using h⟩
  · cases h
/-- Go's zero value. -/
def zv : (t : Ty) → D t
  | .int k => ofI k 0
  | .bool => false
  | .str => ([] : List UInt8)
  | .arr n t => List.replicate n (zv t)
  | .sl t => ([] : List (D t))
  | .unit => ()
  | .pair a b => (zv a, zv b)
  | .opq _ => ()

def All2 {α β : Type} (R : α → β → Prop) : List α → List β → Prop
  | [], [] => True
  | a :: l, b :: m => R a b ∧ All2 R l m
  | _, _ => False
section
variable {α β : Type} {R R' : α → β → Prop}
theorem All2.mono (h : ∀ a b, R a b → R' a b) : ∀ {l : List α} {m : List β}, All2 R l m → All2 R' l m
  | [], [], _ => trivial
  | _ :: _, _ :: _, h2 => ⟨h _ _ h2.1, All2.mono h h2.2⟩
  | [], _ :: _, h2 => h2.elim
  | _ :: _, [], h2 => h2.elim
theorem All2.len : ∀ {l : List α} {m : List β}, All2 R l m → l.length = m.length
  | [], [], _ => rfl
  | _ :: l, _ :: m, h => by rw [List.length_cons, List.length_cons, All2.len h.2]
  | [], _ :: _, h => h.elim
  | _ :: _, [], h => h.elim
theorem All2.get : ∀ {l : List α} {m : List β} {i : Nat} {b : β}, All2 R l m → m[i]? = some b → ∃ a, l[i]? = some a ∧ R a b
  | [], [], _, _, _, h => by simp at h
  | a :: l, b :: m, 0, c, h, e => by simp at e; subst e; exact ⟨a, by simp, h.1⟩
  | a :: l, b :: m, i + 1, c, h, e => by simp at e; obtain ⟨a', h1, h2⟩ := All2.get h.2 e; exact ⟨a', by simpa using h1, h2⟩
  | [], _ :: _, _, _, h, _ => h.elim
  | _ :: _, [], _, _, h, _ => h.elim
theorem All2.getl : ∀ {l : List α} {m : List β} {i : Nat} {a : α}, All2 R l m → l[i]? = some a → ∃ b, m[i]? = some b ∧ R a b
  | [], [], _, _, _, h => by simp at h
  | a :: l, b :: m, 0, c, h, e => by simp at e; subst e; exact ⟨b, by simp, h.1⟩
  | a :: l, b :: m, i + 1, c, h, e => by simp at e; obtain ⟨a', h1, h2⟩ := All2.getl h.2 e; exact ⟨a', by simpa using h1, h2⟩
  | [], _ :: _, _, _, h, _ => h.elim
  | _ :: _, [], _, _, h, _ => h.elim
theorem All2.set : ∀ {l : List α} {m : List β} {i : Nat} {a : α} {b : β}, All2 R l m → R a b → All2 R (l.set i a) (m.set i b)
  | [], [], _, _, _, _, _ => trivial
  | _x :: _l, _y :: _m, 0, _a, _b, h, e => ⟨e, h.2⟩
  | _x :: _l, _y :: _m, _i + 1, _a, _b, h, e => ⟨h.1, All2.set h.2 e⟩
  | [], _ :: _, _, _, _, h, _ => h.elim
  | _ :: _, [], _, _, _, h, _ => h.elim
theorem All2.app : ∀ {l l' : List α} {m m' : List β}, All2 R l m → All2 R l' m' → All2 R (l ++ l') (m ++ m')
  | [], _, [], _, _, h => h
  | _ :: _, _, _ :: _, _, h, h2 => ⟨h.1, All2.app h.2 h2⟩
  | [], _, _ :: _, _, h, _ => h.elim
  | _ :: _, _, [], _, h, _ => h.elim
theorem All2.take : ∀ {l : List α} {m : List β} (n : Nat), All2 R l m → All2 R (l.take n) (m.take n)
  | [], [], n, _ => by simp [All2]
  | a :: l, b :: m, 0, _ => by simp [All2]
  | a :: l, b :: m, n + 1, h => ⟨h.1, All2.take n h.2⟩
  | [], _ :: _, _, h => h.elim
  | _ :: _, [], _, h => h.elim
theorem All2.drop : ∀ {l : List α} {m : List β} (n : Nat), All2 R l m → All2 R (l.drop n) (m.drop n)
  | [], [], n, _ => by simp [All2]
  | a :: l, b :: m, 0, h => h
  | a :: l, b :: m, n + 1, h => All2.drop n h.2
  | [], _ :: _, _, h => h.elim
  | _ :: _, [], _, h => h.elim
theorem All2.rep {a : α} {b : β} (h : R a b) : ∀ n, All2 R (List.replicate n a) (List.replicate n b)
  | 0 => trivial
  | n + 1 => ⟨h, All2.rep h n⟩
theorem All2.map {γ δ : Type} {S : γ → δ → Prop} {f : γ → α} {g : δ → β} (h : ∀ c d, S c d → R (f c) (g d)) : ∀ {l : List γ} {m : List δ}, All2 S l m → All2 R (l.map f) (m.map g)
  | [], [], _ => trivial
  | _ :: _, _ :: _, h2 => ⟨h _ _ h2.1, All2.map h h2.2⟩
  | [], _ :: _, h2 => h2.elim
  | _ :: _, [], h2 => h2.elim
end

theorem ablk (a : Addr) (n : Nat) : (a.add n).block = a.block := by unfold Addr.add; split <;> rfl
/-- THE CELLS HOLD THE DATUM in this world; what it leads to lies in the blocks S. -/
def RC (S : Nat → Prop) (w : World) : (t : Ty) → List Value → D t → Prop
  | .int k, cs, x => cs = [.int k (toI k x)]
  | .bool, cs, x => cs = [.bool x]
  | .str, cs, x => cs = [.string ⟨List.toArray (α := UInt8) x⟩]
  | .arr n t, cs, x => List.length (α := D t) x = n ∧ ∃ css, cs = List.flatten css ∧ All2 (RC S w t) css x
  | .sl t, cs, x => ∃ ao cap ics, cs = [.slice ao (List.length (α := D t) x) cap] ∧ List.length (α := D t) x ≤ cap ∧ (ao = none → cap = 0) ∧ (∀ a, ao = some a → ∀ j u, ics[j]? = some u → w.cell? (a.add j) = some u ∧ S a.block) ∧ ∃ css, ics = List.flatten css ∧ All2 (RC S w t) css x
  | .unit, cs, _ => cs = []
  | .pair a b, cs, x => ∃ c1 c2, cs = c1 ++ c2 ∧ RC S w a c1 x.1 ∧ RC S w b c2 x.2
  | .opq _, _, _ => False
/-- The cells of a row of data. -/
def RL (S : Nat → Prop) (w : World) (t : Ty) (cs : List Value) (x : List (D t)) : Prop := ∃ css, cs = List.flatten css ∧ All2 (RC S w t) css x
theorem flat_len {css : List (List Value)} {n : Nat} (h : ∀ c ∈ css, c.length = n) : css.flatten.length = css.length * n := by
  induction css with
  | nil => simp
  | cons c css ih =>
    rw [List.flatten_cons, List.length_append, h c List.mem_cons_self, ih (fun x hx => h x (List.mem_cons_of_mem _ hx)), List.length_cons, Nat.add_mul]; omega
section
variable {S S' : Nat → Prop} {w w' : World}
theorem all2_len {t : Ty} (ih : ∀ cs x, RC S w t cs x → cs.length = z t) {css : List (List Value)} {x : List (D t)} (h : All2 (RC S w t) css x) : ∀ c ∈ css, c.length = z t := by
  intro c hc
  obtain ⟨i, hi⟩ := List.getElem?_of_mem hc
  obtain ⟨b, _, hb⟩ := h.getl hi
  exact ih _ _ hb
theorem RC.len : ∀ {t : Ty} {cs : List Value} {x : D t}, RC S w t cs x → cs.length = z t
  | .int k, cs, x, h => by rw [show cs = _ from h]; rfl
  | .bool, cs, x, h => by rw [show cs = _ from h]; rfl
  | .str, cs, x, h => by rw [show cs = _ from h]; rfl
  | .arr n t, cs, x, h => by
    obtain ⟨h1, css, rfl, h2⟩ := h
    rw [flat_len (all2_len (fun _ _ => RC.len) h2), h2.len]
    show List.length (α := D t) x * z t = n * z t
    rw [h1]
  | .sl t, cs, x, h => by obtain ⟨ao, cap, ics, rfl, _⟩ := h; rfl
  | .unit, cs, x, h => by rw [show cs = _ from h]; rfl
  | .pair a b, cs, x, h => by
    obtain ⟨c1, c2, rfl, h1, h2⟩ := h
    rw [List.length_append, RC.len h1, RC.len h2]; rfl
  | .opq _, cs, x, h => h.elim
theorem RC.one : ∀ {t : Ty} {cs : List Value} {x : D t}, RC S w t cs x → ∀ c ∈ cs, c.oneCell' = true
  | .int k, cs, x, h => by rw [show cs = _ from h]; intro c hc; rw [List.mem_singleton.1 hc]; rfl
  | .bool, cs, x, h => by rw [show cs = _ from h]; intro c hc; rw [List.mem_singleton.1 hc]; rfl
  | .str, cs, x, h => by rw [show cs = _ from h]; intro c hc; rw [List.mem_singleton.1 hc]; rfl
  | .arr n t, cs, x, h => by
    obtain ⟨h1, css, rfl, h2⟩ := h
    intro c hc
    obtain ⟨l, hl, hc⟩ := List.mem_flatten.1 hc
    obtain ⟨i, hi⟩ := List.getElem?_of_mem hl
    obtain ⟨b, _, hb⟩ := h2.getl hi
    exact RC.one hb c hc
  | .sl t, cs, x, h => by obtain ⟨ao, cap, ics, rfl, _⟩ := h; intro c hc; rw [List.mem_singleton.1 hc]; rfl
  | .unit, cs, x, h => by rw [show cs = _ from h]; intro c hc; exact absurd hc List.not_mem_nil
  | .pair a b, cs, x, h => by
    obtain ⟨c1, c2, rfl, h1, h2⟩ := h
    intro c hc
    rcases List.mem_append.1 hc with hc | hc
    · exact RC.one h1 c hc
    · exact RC.one h2 c hc
  | .opq _, cs, x, h => h.elim
/-- What these blocks held is held still. -/
theorem RC.stp (hs : ∀ g, S g → S' g ∧ w'.heap[g]? = w.heap[g]?) : ∀ {t : Ty} {cs : List Value} {x : D t}, RC S w t cs x → RC S' w' t cs x
  | .int k, cs, x, h => h
  | .bool, cs, x, h => h
  | .str, cs, x, h => h
  | .arr n t, cs, x, h => by
    obtain ⟨h1, css, rfl, h2⟩ := h
    exact ⟨h1, css, rfl, h2.mono fun _ _ h => RC.stp hs h⟩
  | .sl t, cs, x, h => by
    obtain ⟨ao, cap, ics, rfl, h1, h2, h3, css, rfl, h4⟩ := h
    refine ⟨ao, cap, _, rfl, h1, h2, fun a ha j u hu => ?_, css, rfl, h4.mono fun _ _ h => RC.stp hs h⟩
    obtain ⟨h5, h6⟩ := h3 a ha j u hu
    refine ⟨?_, (hs _ h6).1⟩
    rw [← h5]
    refine World.cell?_of_block ?_
    rw [ablk]
    exact (hs _ h6).2
  | .unit, cs, x, h => h
  | .pair a b, cs, x, h => by
    obtain ⟨c1, c2, rfl, h1, h2⟩ := h
    exact ⟨c1, c2, rfl, RC.stp hs h1, RC.stp hs h2⟩
  | .opq _, cs, x, h => h.elim
theorem RL.stp (hs : ∀ g, S g → S' g ∧ w'.heap[g]? = w.heap[g]?) {t : Ty} {cs : List Value} {x : List (D t)} (h : RL S w t cs x) : RL S' w' t cs x := by
  obtain ⟨css, rfl, h⟩ := h
  exact ⟨css, rfl, h.mono fun _ _ h => h.stp hs⟩
theorem RL.len {t : Ty} {cs : List Value} {x : List (D t)} (h : RL S w t cs x) : cs.length = x.length * z t := by
  obtain ⟨css, rfl, h⟩ := h
  rw [flat_len (all2_len (fun _ _ => RC.len) h), h.len]
theorem RL.one {t : Ty} {cs : List Value} {x : List (D t)} (h : RL S w t cs x) : ∀ c ∈ cs, c.oneCell' = true := by
  obtain ⟨css, rfl, h⟩ := h
  exact RC.one (t := .arr x.length t) (x := x) ⟨rfl, css, rfl, h⟩
theorem RL.nil (t : Ty) : RL S w t [] [] := ⟨[], rfl, trivial⟩
theorem RL.app {t : Ty} {cs ds : List Value} {x y : List (D t)} (h : RL S w t cs x) (h2 : RL S w t ds y) : RL S w t (cs ++ ds) (x ++ y) := by
  obtain ⟨css, rfl, h⟩ := h
  obtain ⟨dss, rfl, h2⟩ := h2
  exact ⟨css ++ dss, by simp, h.app h2⟩
theorem flat_take {css : List (List Value)} {n : Nat} (h : ∀ c ∈ css, c.length = n) (k : Nat) : css.flatten.take (k * n) = (css.take k).flatten := by
  induction css generalizing k with
  | nil => simp
  | cons c css ih =>
    cases k with
    | zero => simp
    | succ k =>
      have hc := h c List.mem_cons_self
      rw [List.flatten_cons, List.take_succ_cons, List.flatten_cons, List.take_append, List.take_of_length_le (by rw [hc, Nat.add_mul]; omega), hc, show (k + 1) * n - n = k * n by rw [Nat.add_mul]; omega, ih (fun x hx => h x (List.mem_cons_of_mem _ hx))]
theorem flat_drop {css : List (List Value)} {n : Nat} (h : ∀ c ∈ css, c.length = n) (k : Nat) : css.flatten.drop (k * n) = (css.drop k).flatten := by
  induction css generalizing k with
  | nil => simp
  | cons c css ih =>
    cases k with
    | zero => simp
    | succ k =>
      have hc := h c List.mem_cons_self
      rw [List.flatten_cons, List.drop_succ_cons, List.drop_append, List.drop_of_length_le (by rw [hc, Nat.add_mul]; omega), hc, show (k + 1) * n - n = k * n by rw [Nat.add_mul]; omega, ih (fun x hx => h x (List.mem_cons_of_mem _ hx)), List.nil_append]
theorem RL.take {t : Ty} {cs : List Value} {x : List (D t)} (h : RL S w t cs x) (k : Nat) : RL S w t (cs.take (k * z t)) (x.take k) := by
  obtain ⟨css, rfl, h⟩ := h
  exact ⟨css.take k, flat_take (all2_len (fun _ _ => RC.len) h) k, h.take k⟩
theorem RL.drop {t : Ty} {cs : List Value} {x : List (D t)} (h : RL S w t cs x) (k : Nat) : RL S w t (cs.drop (k * z t)) (x.drop k) := by
  obtain ⟨css, rfl, h⟩ := h
  exact ⟨css.drop k, flat_drop (all2_len (fun _ _ => RC.len) h) k, h.drop k⟩
theorem flat_get {css : List (List Value)} {n : Nat} (h : ∀ c ∈ css, c.length = n) {i : Nat} {c : List Value} (hi : css[i]? = some c) : (css.flatten.drop (i * n)).take n = c := by
  rw [flat_drop h]
  obtain ⟨hlt, rfl⟩ := List.getElem?_eq_some_iff.1 hi
  rw [List.drop_eq_getElem_cons hlt, List.flatten_cons, List.take_append, List.take_of_length_le (by rw [h _ (List.getElem_mem hlt)]; exact Nat.le_refl _), h _ (List.getElem_mem hlt)]
  simp
theorem RL.get {t : Ty} {cs : List Value} {x : List (D t)} (h : RL S w t cs x) {i : Nat} {y : D t} (hi : x[i]? = some y) : RC S w t ((cs.drop (i * z t)).take (z t)) y := by
  obtain ⟨css, rfl, h⟩ := h
  obtain ⟨c, hc, hr⟩ := h.get hi
  rw [flat_get (all2_len (fun _ _ => RC.len) h) hc]
  exact hr
theorem flat_set {css : List (List Value)} {n : Nat} (h : ∀ c ∈ css, c.length = n) {i : Nat} (hi : i < css.length) {d : List Value} (_hd : d.length = n) : (css.set i d).flatten = css.flatten.take (i * n) ++ d ++ css.flatten.drop (i * n + n) := by
  have e : i * n + n = (i + 1) * n := by rw [Nat.add_mul]; omega
  rw [e, flat_take h, flat_drop h, List.set_eq_take_append_cons_drop, if_pos hi]
  simp
theorem RL.set {t : Ty} {cs d : List Value} {x : List (D t)} {y : D t} (h : RL S w t cs x) {i : Nat} (hi : i < x.length) (hd : RC S w t d y) : RL S w t (cs.take (i * z t) ++ d ++ cs.drop (i * z t + z t)) (x.set i y) := by
  obtain ⟨css, rfl, h⟩ := h
  exact ⟨css.set i d, (flat_set (all2_len (fun _ _ => RC.len) h) (by rw [h.len]; exact hi) hd.len).symm, h.set hd⟩
theorem RC.arr {n : Nat} {t : Ty} {cs : List Value} {x : D (.arr n t)} : RC S w (.arr n t) cs x ↔ List.length (α := D t) x = n ∧ RL S w t cs x := Iff.rfl
end
end Go.Proofs.Ytpfoeeiacfadfaa.Q
/-
  The things that a call has for its own, apart from all others; values that are told by data, by such things, or by places in them; what a step leaves as it was.
-/
namespace Go.Proofs.Ytpfoeeiacfadfaa.Q
open Go.RowKit

def Arr (T : TypeId) (w : World) (g : Nat) (cs : List Value) : Prop := w.heap[g]? = some (.cells cs.toArray T (0, 0))
theorem Arr.lt {T : TypeId} {w : World} {g : Nat} {cs : List Value} (h : Arr T w g cs) : g < w.heap.size := (Array.getElem?_eq_some_iff.1 h).1
/-- A thing for its own: a block of variables; a slice that grows; none. -/
inductive Res where
  | none
  | arr (g : Nat) (T : TypeId) (cs : List Value)
  | own (E : TypeId) (z : Nat) (v : Value) (n : Nat) (cs : List Value)
def Res.blk : Res → Option Nat
  | .none => Option.none
  | .arr g _ _ => some g
  | .own _ _ v _ _ => v.ownBlock
def Res.ok (B : Nat) (w : World) : Res → Prop
  | .none => True
  | .arr g T cs => B ≤ g ∧ Arr T w g cs
  | .own E z v n cs => w.ownsRow B E z v n cs
theorem Res.ok.blk {r : Res} {B : Nat} {w : World} (h : r.ok B w) : ∀ g, r.blk = some g → B ≤ g ∧ g < w.heap.size := by
  intro g hg
  cases r with
  | none => cases hg
  | arr g' T cs => obtain rfl := Option.some.inj hg; exact ⟨h.1, h.2.lt⟩
  | own E z v n cs => exact World.ownsRow.lt h g hg
theorem Res.ok.mono {r : Res} {B B' : Nat} {w : World} (h : r.ok B w) (hB : B' ≤ B) : r.ok B' w := by
  cases r with
  | none => trivial
  | arr g T cs => exact ⟨Nat.le_trans hB h.1, h.2⟩
  | own E z v n cs =>
    refine ⟨h.1, ?_⟩
    rcases h.2 with hn | ⟨g, cap, cur, rfl, hb, rest⟩
    · exact .inl hn
    · exact .inr ⟨g, cap, cur, rfl, Nat.le_trans hB hb, rest⟩
theorem Res.ok.same {r : Res} {B : Nat} {w w' : World} (h : r.ok B w) (hn : ∀ g, r.blk = some g → w'.heap[g]? = w.heap[g]?) : r.ok B w' := by
  cases r with
  | none => trivial
  | arr g T cs => exact ⟨h.1, by unfold Arr; rw [hn g rfl]; exact h.2⟩
  | own E z v n cs =>
    refine ⟨h.1, ?_⟩
    rcases h.2 with hn' | ⟨g, cap, cur, rfl, hb, hg, rest⟩
    · exact .inl hn'
    · exact .inr ⟨g, cap, cur, rfl, hb, by rw [hn g rfl]; exact hg, rest⟩
/-- Blocks that none of these things has. -/
def Fz (L : List Res) (w : World) (g : Nat) : Prop := g < w.heap.size ∧ ∀ r ∈ L, r.blk ≠ some g
/-- What lies in other blocks is as it was, and stays in other blocks. -/
def Stp (w : World) (L : List Res) (w' : World) (L' : List Res) : Prop := ∀ g, Fz L w g → Fz L' w' g ∧ w'.heap[g]? = w.heap[g]?
theorem Stp.refl (w : World) (L : List Res) : Stp w L w L := fun _ h => ⟨h, rfl⟩
theorem Stp.trans {w w1 w2 : World} {L L1 L2 : List Res} (h : Stp w L w1 L1) (h2 : Stp w1 L1 w2 L2) : Stp w L w2 L2 := fun g hg => ⟨(h2 g (h g hg).1).1, ((h2 g (h g hg).1).2).trans (h g hg).2⟩
/-- THESE THINGS, each in a block of its own, made since w0; nothing that was there turned but they. -/
structure Mo (w0 w : World) (L : List Res) : Prop where
  below : Below w0.heap.size w0 w
  ok : ∀ (i : Nat) (r : Res), L[i]? = some r → r.ok w0.heap.size w
  ap : ∀ (i j : Nat) (a b : Res) (g : Nat), i ≠ j → L[i]? = some a → L[j]? = some b → a.blk = some g → b.blk ≠ some g
section
variable {w0 w w' : World} {L : List Res} {r r' : Res}
theorem Mo.size (m : Mo w0 w L) : w0.heap.size ≤ w.heap.size := m.below.size
theorem get_app {α : Type} {L : List α} {x y : α} {i : Nat} (h : (L ++ [x])[i]? = some y) : L[i]? = some y ∨ (i = L.length ∧ x = y) := by
  rcases Nat.lt_trichotomy i L.length with h1 | h1 | h1
  · rw [List.getElem?_append_left h1] at h; exact .inl h
  · subst h1; simp at h; exact .inr ⟨rfl, h⟩
  · rw [List.getElem?_append_right (by omega), List.getElem?_eq_none (by simp; omega)] at h; cases h
theorem mem_app {α : Type} {L : List α} {x y : α} (h : y ∈ L ++ [x]) : y ∈ L ∨ y = x := by simpa using h
theorem Mo.keep (m : Mo w0 w L) (hb : Below w0.heap.size w w') (hs : ∀ (i : Nat) (r : Res) (g : Nat), L[i]? = some r → r.blk = some g → w'.heap[g]? = w.heap[g]?) : Mo w0 w' L :=
  ⟨m.below.trans hb, fun i r hi => (m.ok i r hi).same fun g hg => hs i r g hi hg, m.ap⟩
/-- The world only grows. -/
theorem Mo.gr (m : Mo w0 w L) (h : Below w.heap.size w w') : Mo w0 w' L ∧ Stp w L w' L :=
  ⟨m.keep (h.mono m.size) fun i r g hi hg => h.block g ((m.ok i r hi).blk g hg).2, fun g hg => ⟨⟨Nat.lt_of_lt_of_le hg.1 h.size, hg.2⟩, h.block g hg.1⟩⟩
/-- One more. -/
theorem Mo.new (m : Mo w0 w L) (h : Below w.heap.size w w') (hr : r.ok w.heap.size w') : Mo w0 w' (L ++ [r]) ∧ Stp w L w' (L ++ [r]) := by
  obtain ⟨m', s'⟩ := m.gr h
  refine ⟨⟨m'.below, fun i x hx => ?_, fun i j a b g hij ha hb hga hgb => ?_⟩, fun g hg => ⟨⟨(s' g hg).1.1, fun x hx e => ?_⟩, (s' g hg).2⟩⟩
  · rcases get_app hx with hx | ⟨_, rfl⟩
    · exact m'.ok i x hx
    · exact hr.mono m.size
  · rcases get_app ha with ha | ⟨rfl, rfl⟩ <;> rcases get_app hb with hb | ⟨rfl, rfl⟩
    · exact m.ap i j a b g hij ha hb hga hgb
    · have h1 := ((m.ok i a ha).blk g hga).2
      have h2 := (hr.blk g hgb).1
      omega
    · have h1 := ((m.ok j b hb).blk g hgb).2
      have h2 := (hr.blk g hga).1
      omega
    · exact hij rfl
  · rcases mem_app hx with hx | rfl
    · exact hg.2 x hx e
    · have := (hr.blk g e).1; have := hg.1; omega
theorem get_set {α : Type} {L : List α} {x y : α} {i j : Nat} (h : (L.set i x)[j]? = some y) : (i = j ∧ x = y) ∨ (i ≠ j ∧ L[j]? = some y) := by
  rw [List.getElem?_set] at h
  split at h
  · split at h
    · exact .inl ⟨‹_›, by simpa using h⟩
    · cases h
  · exact .inr ⟨‹_›, h⟩
theorem mem_set' {α : Type} {L : List α} {x y : α} {i : Nat} (h : y ∈ L.set i x) : y = x ∨ ∃ j, j ≠ i ∧ L[j]? = some y := by
  obtain ⟨j, hj⟩ := List.getElem?_of_mem h
  rcases get_set hj with ⟨_, rfl⟩ | ⟨h1, h2⟩
  · exact .inl rfl
  · exact .inr ⟨j, fun e => h1 e.symm, h2⟩
/-- One turns, or moves into a new block. -/
theorem Mo.turn (m : Mo w0 w L) {i : Nat} (h : L[i]? = some r) (hg : w.grownBy w' r.blk) (hr : r'.ok w0.heap.size w') (hb : ∀ g, r'.blk = some g → r.blk = some g ∨ w.heap.size ≤ g) : Mo w0 w' (L.set i r') ∧ Stp w L w' (L.set i r') := by
  have hk : ∀ (j : Nat) (x : Res) (g : Nat), j ≠ i → L[j]? = some x → x.blk = some g → w'.heap[g]? = w.heap[g]? := fun j x g hj hx hxg => hg.block g ((m.ok j x hx).blk g hxg).2 (fun e => m.ap j i x r g hj hx h hxg e.symm)
  have hnew : ∀ (j : Nat) (x : Res) (g : Nat), j ≠ i → L[j]? = some x → x.blk = some g → r'.blk ≠ some g := fun j x g hj hx hxg e => by
    rcases hb g e with h1 | h1
    · exact m.ap j i x r g hj hx h hxg h1
    · have := ((m.ok j x hx).blk g hxg).2; omega
  refine ⟨⟨m.below.grown hg m.size (fun k hk => ((m.ok i r h).blk k hk).1), fun j x hx => ?_, fun j k a b g hjk ha hb' hga hgb => ?_⟩, fun g hg' => ⟨⟨Nat.lt_of_lt_of_le hg'.1 hg.size, fun x hx e => ?_⟩, hg.block g hg'.1 fun e => hg'.2 r (List.mem_of_getElem? h) e.symm⟩⟩
  · rcases get_set hx with ⟨_, rfl⟩ | ⟨h1, h2⟩
    · exact hr
    · exact (m.ok j x h2).same fun g hg => hk j x g (fun e => h1 e.symm) h2 hg
  · rcases get_set ha with ⟨h1, rfl⟩ | ⟨h1, h2⟩ <;> rcases get_set hb' with ⟨h3, rfl⟩ | ⟨h3, h4⟩
    · exact hjk (h1.symm.trans h3)
    · exact hnew k b g (fun e => h3 e.symm) h4 hgb hga
    · exact hnew j a g (fun e => h1 e.symm) h2 hga hgb
    · exact m.ap j k a b g hjk h2 h4 hga hgb
  · rcases mem_set' hx with rfl | ⟨j, _, hj⟩
    · rcases hb g e with h1 | h1
      · exact hg'.2 r (List.mem_of_getElem? h) h1
      · have := hg'.1; omega
    · exact hg'.2 x (List.mem_of_getElem? hj) e
/-- One is let go. -/
theorem Mo.drop (m : Mo w0 w L) (i : Nat) : Mo w0 w (L.set i .none) ∧ Stp w L w (L.set i .none) := by
  refine ⟨⟨m.below, fun j x hx => ?_, fun j k a b g hjk ha hb hga => ?_⟩, fun g hg => ⟨⟨hg.1, fun x hx e => ?_⟩, rfl⟩⟩
  · rcases get_set hx with ⟨_, rfl⟩ | ⟨_, h2⟩
    · trivial
    · exact m.ok j x h2
  · rcases get_set ha with ⟨_, rfl⟩ | ⟨_, h2⟩
    · cases hga
    · rcases get_set hb with ⟨_, rfl⟩ | ⟨_, h4⟩
      · exact fun e => by cases e
      · exact m.ap j k a b g hjk h2 h4 hga
  · rcases mem_set' hx with rfl | ⟨j, _, hj⟩
    · cases e
    · exact hg.2 x (List.mem_of_getElem? hj) e
/-- One takes another's place in the list. -/
theorem Mo.move (m : Mo w0 w L) {i : Nat} (h : L[i]? = some r) : Mo w0 w (L.set i .none ++ [r]) ∧ Stp w L w (L.set i .none ++ [r]) := by
  obtain ⟨m', s'⟩ := m.drop i
  refine ⟨⟨m.below, fun j x hx => ?_, fun j k a b g hjk ha hb hga hgb => ?_⟩, fun g hg => ⟨⟨hg.1, fun x hx e => ?_⟩, rfl⟩⟩
  · rcases get_app hx with hx | ⟨_, rfl⟩
    · exact m'.ok j x hx
    · exact m.ok i _ h
  · rcases get_app ha with ha | ⟨rfl, rfl⟩ <;> rcases get_app hb with hb | ⟨rfl, rfl⟩
    · exact m'.ap j k a b g hjk ha hb hga hgb
    · rcases get_set ha with ⟨_, rfl⟩ | ⟨h1, h2⟩
      · cases hga
      · exact m.ap j i a _ g (fun e => h1 e.symm) h2 h hga hgb
    · rcases get_set hb with ⟨_, rfl⟩ | ⟨h1, h2⟩
      · cases hgb
      · exact m.ap k i b _ g (fun e => h1 e.symm) h2 h hgb hga
    · exact hjk rfl
  · rcases mem_app hx with hx | rfl
    · exact (s' g hg).1.2 x hx e
    · exact hg.2 x (List.mem_of_getElem? h) e
end

/-- A step within a datum. -/
inductive PS where
  | fst
  | snd
  | idx (i : Nat)
structure Sg where
  t : Ty
  x : D t
def pt : Ty → List PS → Option Ty
  | t, [] => some t
  | .pair a _, .fst :: p => pt a p
  | .pair _ b, .snd :: p => pt b p
  | .arr _ t, .idx _ :: p => pt t p
  | _, _ => none
def po : Ty → List PS → Nat
  | .pair a _, .fst :: p => po a p
  | .pair a b, .snd :: p => z a + po b p
  | .arr _ t, .idx i :: p => i * z t + po t p
  | _, _ => 0
def okP : Ty → List PS → Prop
  | _, [] => True
  | .pair a _, .fst :: p => okP a p
  | .pair _ b, .snd :: p => okP b p
  | .arr n t, .idx i :: p => i < n ∧ okP t p
  | _, _ => False
def get : (t : Ty) → D t → List PS → Option Sg
  | t, x, [] => some ⟨t, x⟩
  | .pair a _, x, .fst :: p => get a x.1 p
  | .pair _ b, x, .snd :: p => get b x.2 p
  | .arr _ t, x, .idx i :: p => get t (List.getD (α := D t) x i (zv t)) p
  | _, _, _ => none
def set : (t : Ty) → D t → List PS → (s : Ty) → D s → Option (D t)
  | t, _, [], s, y => cast s t y
  | .pair a b, x, .fst :: p, s, y => (match set a x.1 p s y with | some u => some ((u, x.2) : D a × D b) | none => none)
  | .pair a b, x, .snd :: p, s, y => (match set b x.2 p s y with | some u => some ((x.1, u) : D a × D b) | none => none)
  | .arr _ t, x, .idx i :: p, s, y => (match set t (List.getD (α := D t) x i (zv t)) p s y with | some u => some (List.set (α := D t) x i u) | none => none)
  | _, _, _, _, _ => none
section
variable {S : Nat → Prop} {w : World}
theorem getD_some {α : Type} (x : List α) (i : Nat) (d : α) (h : i < x.length) : x[i]? = some (x.getD i d) := by
  rw [List.getD_eq_getElem?_getD, List.getElem?_eq_getElem h]; rfl
theorem get_rc : ∀ {t : Ty} {cs : List Value} {x : D t} {p : List PS} {y : Sg}, RC S w t cs x → okP t p → get t x p = some y → RC S w y.t ((cs.drop (po t p)).take (z y.t)) y.x ∧ po t p + z y.t ≤ cs.length ∧ pt t p = some y.t
  | t, cs, x, [], y, h, _, hg => by
    obtain rfl : ⟨t, x⟩ = y := by cases t <;> simpa [get] using hg
    have e : po t [] = 0 := by cases t <;> rfl
    have e2 : pt t [] = some t := by cases t <;> rfl
    have hl := h.len
    rw [e, List.drop_zero, List.take_of_length_le (by show cs.length ≤ z t; omega)]
    exact ⟨h, by show 0 + z t ≤ _; omega, e2⟩
  | .pair a b, cs, x, .fst :: p, y, h, ho, hg => by
    obtain ⟨c1, c2, rfl, h1, h2⟩ := h
    obtain ⟨h3, h4, h5⟩ := get_rc h1 ho hg
    refine ⟨?_, by rw [List.length_append]; show po a p + _ ≤ _; omega, h5⟩
    show RC S w y.t (((c1 ++ c2).drop (po a p)).take _) y.x
    rw [List.drop_append_of_le_length (by omega), List.take_append_of_le_length (by simp; omega)]
    exact h3
  | .pair a b, cs, x, .snd :: p, y, h, ho, hg => by
    obtain ⟨c1, c2, rfl, h1, h2⟩ := h
    obtain ⟨h3, h4, h5⟩ := get_rc h2 ho hg
    have hl := h1.len
    refine ⟨?_, by rw [List.length_append]; show z a + po b p + _ ≤ _; omega, h5⟩
    show RC S w y.t (((c1 ++ c2).drop (z a + po b p)).take _) y.x
    rw [← hl, List.drop_append, List.drop_of_length_le (by omega), List.nil_append, show c1.length + po b p - c1.length = po b p by omega]
    exact h3
  | .arr n t, cs, x, .idx i :: p, y, h, ho, hg => by
    obtain ⟨hn, h⟩ := RC.arr.1 h
    have hi : i < List.length (α := D t) x := by rw [hn]; exact ho.1
    have hx := getD_some (α := D t) x i (zv t) hi
    have hr := RL.get h hx
    obtain ⟨h3, h4, h5⟩ := get_rc hr ho.2 hg
    have hl := h.len
    have hz : i * z t + z t ≤ cs.length := by
      rw [hl, show i * z t + z t = (i + 1) * z t by rw [Nat.add_mul]; omega]
      exact Nat.mul_le_mul_right _ hi
    rw [List.length_take, List.length_drop] at h4
    refine ⟨?_, by show i * z t + po t p + _ ≤ _; omega, h5⟩
    show RC S w y.t ((cs.drop (i * z t + po t p)).take _) y.x
    rw [List.drop_take, List.drop_drop, List.take_take, show min (z y.t) (z t - po t p) = z y.t by omega] at h3
    exact h3
  | .int _, _, _, .fst :: _, _, _, ho, _ => ho.elim
  | .int _, _, _, .snd :: _, _, _, ho, _ => ho.elim
  | .int _, _, _, .idx _ :: _, _, _, ho, _ => ho.elim
  | .bool, _, _, .fst :: _, _, _, ho, _ => ho.elim
  | .bool, _, _, .snd :: _, _, _, ho, _ => ho.elim
  | .bool, _, _, .idx _ :: _, _, _, ho, _ => ho.elim
  | .str, _, _, .fst :: _, _, _, ho, _ => ho.elim
  | .str, _, _, .snd :: _, _, _, ho, _ => ho.elim
  | .str, _, _, .idx _ :: _, _, _, ho, _ => ho.elim
  | .sl _, _, _, .fst :: _, _, _, ho, _ => ho.elim
  | .sl _, _, _, .snd :: _, _, _, ho, _ => ho.elim
  | .sl _, _, _, .idx _ :: _, _, _, ho, _ => ho.elim
  | .unit, _, _, .fst :: _, _, _, ho, _ => ho.elim
  | .unit, _, _, .snd :: _, _, _, ho, _ => ho.elim
  | .unit, _, _, .idx _ :: _, _, _, ho, _ => ho.elim
  | .opq _, _, _, .fst :: _, _, _, ho, _ => ho.elim
  | .opq _, _, _, .snd :: _, _, _, ho, _ => ho.elim
  | .opq _, _, _, .idx _ :: _, _, _, ho, _ => ho.elim
  | .pair _ _, _, _, .idx _ :: _, _, _, ho, _ => ho.elim
  | .arr _ _, _, _, .fst :: _, _, _, ho, _ => ho.elim
  | .arr _ _, _, _, .snd :: _, _, _, ho, _ => ho.elim
theorem set_rc : ∀ {t : Ty} {cs d : List Value} {x x' : D t} {p : List PS} {s : Ty} {y : D s}, RC S w t cs x → okP t p → set t x p s y = some x' → RC S w s d y → RC S w t (cs.take (po t p) ++ d ++ cs.drop (po t p + z s)) x' ∧ po t p + z s ≤ cs.length ∧ pt t p = some s
  | t, cs, d, x, x', [], s, y, h, _, hg, hd => by
    have hg : cast s t y = some x' := by cases t <;> simpa [set] using hg
    obtain ⟨rfl, rfl⟩ := cast_eq hg
    have e : po s [] = 0 := by cases s <;> rfl
    have e2 : pt s [] = some s := by cases s <;> rfl
    have hl := h.len
    rw [e, List.take_zero, List.nil_append, Nat.zero_add, List.drop_of_length_le (by omega), List.append_nil]
    exact ⟨hd, by omega, e2⟩
  | .pair a b, cs, d, x, x', .fst :: p, s, y, h, ho, hg, hd => by
    obtain ⟨c1, c2, rfl, h1, h2⟩ := h
    have hg : (match set a x.1 p s y with | some u => some ((u, x.2) : D a × D b) | none => none) = some x' := hg
    split at hg
    · rename_i u hu
      obtain rfl := Option.some.inj hg
      obtain ⟨h3, h4, h5⟩ := set_rc h1 ho hu hd
      refine ⟨⟨_, c2, ?_, h3, h2⟩, by rw [List.length_append]; show po a p + _ ≤ _; omega, h5⟩
      show (c1 ++ c2).take (po a p) ++ d ++ (c1 ++ c2).drop (po a p + z s) = _
      rw [List.take_append_of_le_length (by omega), List.drop_append_of_le_length (by omega)]
      simp
    · cases hg
  | .pair a b, cs, d, x, x', .snd :: p, s, y, h, ho, hg, hd => by
    obtain ⟨c1, c2, rfl, h1, h2⟩ := h
    have hg : (match set b x.2 p s y with | some u => some ((x.1, u) : D a × D b) | none => none) = some x' := hg
    split at hg
    · rename_i u hu
      obtain rfl := Option.some.inj hg
      obtain ⟨h3, h4, h5⟩ := set_rc h2 ho hu hd
      have hl := h1.len
      refine ⟨⟨c1, _, ?_, h1, h3⟩, by rw [List.length_append]; show z a + po b p + _ ≤ _; omega, h5⟩
      show (c1 ++ c2).take (z a + po b p) ++ d ++ (c1 ++ c2).drop (z a + po b p + z s) = _
      rw [← hl, List.take_append, List.take_of_length_le (by omega), List.drop_append, List.drop_of_length_le (by omega), show c1.length + po b p - c1.length = po b p by omega, show c1.length + po b p + z s - c1.length = po b p + z s by omega]
      simp
    · cases hg
  | .arr n t, cs, d, x, x', .idx i :: p, s, y, h, ho, hg, hd => by
    obtain ⟨hn, h⟩ := RC.arr.1 h
    have hi : i < List.length (α := D t) x := by rw [hn]; exact ho.1
    have hx := getD_some (α := D t) x i (zv t) hi
    have hr := RL.get h hx
    have hg : (match set t (List.getD (α := D t) x i (zv t)) p s y with | some u => some (List.set (α := D t) x i u) | none => none) = some x' := hg
    split at hg
    · rename_i u hu
      obtain rfl := Option.some.inj hg
      obtain ⟨h3, h4, h5⟩ := set_rc hr ho.2 hu hd
      have hl := h.len
      have hz : i * z t + z t ≤ cs.length := by
        rw [hl, show i * z t + z t = (i + 1) * z t by rw [Nat.add_mul]; omega]
        exact Nat.mul_le_mul_right _ hi
      rw [List.length_take, List.length_drop] at h4
      refine ⟨RC.arr.2 ⟨by rw [← hn]; exact List.length_set, ?_⟩, by show i * z t + po t p + _ ≤ _; omega, h5⟩
      have h6 := RL.set h hi h3
      have e : cs.take (i * z t) ++ (((cs.drop (i * z t)).take (z t)).take (po t p) ++ d ++ ((cs.drop (i * z t)).take (z t)).drop (po t p + z s)) ++ cs.drop (i * z t + z t) = cs.take (po (.arr n t) (.idx i :: p)) ++ d ++ cs.drop (po (.arr n t) (.idx i :: p) + z s) := by
        show _ = cs.take (i * z t + po t p) ++ d ++ cs.drop (i * z t + po t p + z s)
        rw [List.take_take, show min (po t p) (z t) = po t p by omega, List.drop_take, List.drop_drop, List.take_add]
        have e3 : cs.drop (i * z t + po t p + z s) = (cs.drop (i * z t + (po t p + z s))).take (z t - (po t p + z s)) ++ cs.drop (i * z t + z t) := by
          have e4 := (List.take_append_drop (z t - (po t p + z s)) (cs.drop (i * z t + (po t p + z s)))).symm
          rw [List.drop_drop, show i * z t + (po t p + z s) + (z t - (po t p + z s)) = i * z t + z t by omega] at e4
          rw [show i * z t + po t p + z s = i * z t + (po t p + z s) by omega]
          exact e4
        rw [e3]
        simp
      rw [e] at h6
      exact h6
    · cases hg
  | .int _, _, _, _, _, .fst :: _, _, _, _, ho, _, _ => ho.elim
  | .int _, _, _, _, _, .snd :: _, _, _, _, ho, _, _ => ho.elim
  | .int _, _, _, _, _, .idx _ :: _, _, _, _, ho, _, _ => ho.elim
  | .bool, _, _, _, _, .fst :: _, _, _, _, ho, _, _ => ho.elim
  | .bool, _, _, _, _, .snd :: _, _, _, _, ho, _, _ => ho.elim
  | .bool, _, _, _, _, .idx _ :: _, _, _, _, ho, _, _ => ho.elim
  | .str, _, _, _, _, .fst :: _, _, _, _, ho, _, _ => ho.elim
  | .str, _, _, _, _, .snd :: _, _, _, _, ho, _, _ => ho.elim
  | .str, _, _, _, _, .idx _ :: _, _, _, _, ho, _, _ => ho.elim
  | .sl _, _, _, _, _, .fst :: _, _, _, _, ho, _, _ => ho.elim
  | .sl _, _, _, _, _, .snd :: _, _, _, _, ho, _, _ => ho.elim
  | .sl _, _, _, _, _, .idx _ :: _, _, _, _, ho, _, _ => ho.elim
  | .unit, _, _, _, _, .fst :: _, _, _, _, ho, _, _ => ho.elim
  | .unit, _, _, _, _, .snd :: _, _, _, _, ho, _, _ => ho.elim
  | .unit, _, _, _, _, .idx _ :: _, _, _, _, ho, _, _ => ho.elim
  | .opq _, _, _, _, _, .fst :: _, _, _, _, ho, _, _ => ho.elim
  | .opq _, _, _, _, _, .snd :: _, _, _, _, ho, _, _ => ho.elim
  | .opq _, _, _, _, _, .idx _ :: _, _, _, _, ho, _, _ => ho.elim
  | .pair _ _, _, _, _, _, .idx _ :: _, _, _, _, ho, _, _ => ho.elim
  | .arr _ _, _, _, _, _, .fst :: _, _, _, _, ho, _, _ => ho.elim
  | .arr _ _, _, _, _, _, .snd :: _, _, _, _, ho, _, _ => ho.elim
end
end Go.Proofs.Ytpfoeeiacfadfaa.Q
/-
  Values as they are told: by data, by things of one's own, by places; what holds between them and a world.
-/
namespace Go.Proofs.Ytpfoeeiacfadfaa.Q
open Go.RowKit

inductive AV where
  | undef
  | dat (t : Ty) (x : D t)
  | nil
  | own (r : Nat)
  | view (r lo hi : Nat)
  | ptr (r : Nat) (k : Option Nat) (p : List PS)
  | aview (r k : Nat) (p : List PS) (lo hi : Nat)
  | eptr (r i : Nat) (p : List PS)
  | rptr (t : Ty) (x : D t)
  | fn (f : FuncId)
/-- What a thing of one's own holds. -/
inductive Cn where
  | gone
  | sl (t : Ty) (l : List (D t))
  | blk (ts : List Ty) (fs : List AV)
inductive SV where
  | one (a : AV)
  | tup (l : List AV)

def mkV (t : Ty) (cs : List Value) : Value := match agg t with | true => .agg cs.toArray | false => cs.headD Go.undef
/-- The cells of the zero value. -/
def zc : Ty → List Value
  | .int k => [.int k 0]
  | .bool => [.bool false]
  | .str => [.string ⟨#[]⟩]
  | .arr n t => (List.replicate n (zc t)).flatten
  | .sl _ => [.slice none 0 0]
  | .unit => []
  | .pair a b => zc a ++ zc b
  | .opq 0 => [.pointer none]
  | .opq 1 => [.nilFunc]
  | .opq 2 => [.map none]
  | .opq _ => [.nilIface]
/-- Nothing veiled. -/
def plain : Ty → Bool
  | .arr _ t => plain t
  | .pair a b => plain a && plain b
  | .opq _ => false
  | _ => true
theorem zero_rc {S : Nat → Prop} {w : World} : ∀ {t : Ty}, plain t = true → RC S w t (zc t) (zv t)
  | .int k, _ => by cases k <;> rfl
  | .bool, _ => rfl
  | .str, _ => rfl
  | .arr n t, h => RC.arr.2 ⟨List.length_replicate, _, rfl, All2.rep (zero_rc (show plain t = true from h)) n⟩
  | .sl t, _ => ⟨none, 0, [], rfl, Nat.le_refl _, fun _ => rfl, fun a h => (by cases h), [], rfl, trivial⟩
  | .unit, _ => rfl
  | .pair a b, h => by
    have h : (plain a && plain b) = true := h
    rw [Bool.and_eq_true] at h
    exact ⟨_, _, rfl, zero_rc h.1, zero_rc h.2⟩
  | .opq _, h => by cases h
theorem zc_len : ∀ t : Ty, (zc t).length = z t
  | .int k => rfl
  | .bool => rfl
  | .str => rfl
  | .arr n t => by
    show (List.replicate n (zc t)).flatten.length = n * z t
    rw [flat_len (n := z t) (fun c hc => by rw [List.eq_of_mem_replicate hc]; exact zc_len t), List.length_replicate]
  | .sl _ => rfl
  | .unit => rfl
  | .pair a b => by show (zc a ++ zc b).length = z a + z b; rw [List.length_append, zc_len a, zc_len b]
  | .opq 0 => rfl
  | .opq 1 => rfl
  | .opq 2 => rfl
  | .opq (_ + 3) => rfl
theorem zc_one : ∀ t : Ty, ∀ u ∈ zc t, u.oneCell' = true
  | .int k, u, h => by rw [List.mem_singleton.1 h]; rfl
  | .bool, u, h => by rw [List.mem_singleton.1 h]; rfl
  | .str, u, h => by rw [List.mem_singleton.1 h]; rfl
  | .arr n t, u, h => by
    obtain ⟨l, hl, h⟩ := List.mem_flatten.1 h
    rw [List.eq_of_mem_replicate hl] at h
    exact zc_one t u h
  | .sl _, u, h => by rw [List.mem_singleton.1 h]; rfl
  | .unit, u, h => absurd h List.not_mem_nil
  | .pair a b, u, h => by
    rcases List.mem_append.1 h with h | h
    · exact zc_one a u h
    · exact zc_one b u h
  | .opq 0, u, h => by rw [List.mem_singleton.1 h]; rfl
  | .opq 1, u, h => by rw [List.mem_singleton.1 h]; rfl
  | .opq 2, u, h => by rw [List.mem_singleton.1 h]; rfl
  | .opq (_ + 3), u, h => by rw [List.mem_singleton.1 h]; rfl

/-- Where the k-th cell of a slice lies. -/
def eP : Value → Nat → Value
  | .slice (some a) _ _, k => .pointer (some (a.add k))
  | _, _ => .pointer none
/-- v[lo:hi], of elements of z cells. -/
def sV (z : Nat) : Value → Nat → Nat → Value
  | .slice a _ cap, lo, hi => .slice (if cap = lo then a else a.map (·.add (lo * z))) (hi - lo) (cap - lo)
  | _, _, _ => Go.undef
def fo : List Ty → Nat → Nat
  | t :: ts, k + 1 => z t + fo ts k
  | _, _ => 0
/-- A type of the program's that has these data. -/
structure EF (P : Program) (T : TypeId) (t : Ty) : Prop where
  info : ∃ q, P.info? T = some q ∧ q.size = z t ∧ q.zero = some (mkV t (zc t)) ∧ q.bytes ≤ 1024
  ag : ∃ d, P.underlying T = some d ∧ (match d with | .struct _ | .array _ _ => true | _ => false) = agg t
/-- Blocks that hold still: none of these things', nor forbidden. -/
def SF (F : Nat → Prop) (L : List Res) (w : World) (g : Nat) : Prop := Fz L w g ∧ ¬ F g
section
variable (P : Program) (F : Nat → Prop) (w : World) (mem : List Cn) (L : List Res)
/-- THE VALUE IS THE ONE THAT IS TOLD. -/
def AVR : AV → Value → Prop
  | .undef, _ => True
  | .dat t x, v => ∃ cs, v = mkV t cs ∧ RC (SF F L w) w t cs x
  | .nil, v => v = .slice none 0 0
  | .own r, v => ∃ E zz n cs, L[r]? = some (.own E zz v n cs)
  | .view r lo hi, v => ∃ E zz u n cs, L[r]? = some (.own E zz u n cs) ∧ v = sV zz u lo hi ∧ lo ≤ hi ∧ hi ≤ n
  | .ptr r none p, v => p = [] ∧ ∃ g T cs, L[r]? = some (.arr g T cs) ∧ v = .pointer (some ⟨g, 0, none⟩)
  | .ptr r (some k) p, v => ∃ g T cs ts fs t, L[r]? = some (.arr g T cs) ∧ mem[r]? = some (.blk ts fs) ∧ ts[k]? = some t ∧ okP t p ∧ v = .pointer (some ⟨g, fo ts k + po t p, none⟩)
  | .aview r k p lo hi, v => ∃ g T cs ts fs t n te, L[r]? = some (.arr g T cs) ∧ mem[r]? = some (.blk ts fs) ∧ ts[k]? = some t ∧ okP t p ∧ pt t p = some (.arr n te) ∧ lo ≤ hi ∧ hi ≤ n ∧ lo < n ∧ v = .slice (some ⟨g, fo ts k + po t p + lo * z te, none⟩) (hi - lo) (n - lo)
  | .eptr r i p, v => ∃ E zz u n cs t l, L[r]? = some (.own E zz u n cs) ∧ mem[r]? = some (.sl t l) ∧ i < n ∧ okP t p ∧ v = eP u (i * zz + po t p)
  | .rptr t x, v => ∃ a cs, v = .pointer (some a) ∧ RC (SF F L w) w t cs x ∧ ∀ j u, cs[j]? = some u → w.cell? (a.add j) = some u ∧ SF F L w a.block
  | .fn f, v => v = .func (.func f) #[] #[]
/-- A field's cells. -/
def FR (a : AV) (p : Ty × List Value) : Prop := AVR F w mem L a (mkV p.1 p.2) ∧ p.2.length = z p.1 ∧ ∀ u ∈ p.2, u.oneCell' = true
def CR : Cn → Res → Prop
  | .gone, q => q = .none
  | .sl t l, q => ∃ E v cs, q = .own E (z t) v l.length cs ∧ 0 < z t ∧ EF P E t ∧ RL (SF F L w) w t cs l
  | .blk ts fs, q => ∃ g T ps, q = .arr g T (ps.map Prod.snd).flatten ∧ ps.map Prod.fst = ts ∧ All2 (FR F w mem L) fs ps
end
/-- THE MEMORY IS THE ONE THAT IS TOLD. -/
structure MR (P : Program) (F : Nat → Prop) (w0 w : World) (mem : List Cn) (L : List Res) : Prop where
  mo : Mo w0 w L
  len : L.length = mem.length
  cn : ∀ (r : Nat) (c : Cn) (q : Res), mem[r]? = some c → L[r]? = some q → CR P F w mem L c q
  fz : ∀ g, F g → Fz L w g
/-- A thing is still the one that it was. -/
def Kp (mem : List Cn) (L : List Res) (mem' : List Cn) (L' : List Res) (r : Nat) : Prop :=
  (∀ g T cs, L[r]? = some (.arr g T cs) → ∃ cs', L'[r]? = some (.arr g T cs')) ∧ (∀ E zz v n cs, L[r]? = some (.own E zz v n cs) → ∃ cs', L'[r]? = some (.own E zz v n cs')) ∧
  (∀ ts fs, mem[r]? = some (.blk ts fs) → ∃ fs', mem'[r]? = some (.blk ts fs')) ∧ (∀ t l, mem[r]? = some (.sl t l) → ∃ l', mem'[r]? = some (.sl t l'))
/-- Values that speak of these things are told no more. -/
def kil (ks : Nat → Bool) : AV → AV
  | .own r => (match ks r with | true => .undef | false => .own r)
  | .view r lo hi => (match ks r with | true => .undef | false => .view r lo hi)
  | .ptr r k p => (match ks r with | true => .undef | false => .ptr r k p)
  | .aview r k p lo hi => (match ks r with | true => .undef | false => .aview r k p lo hi)
  | .eptr r i p => (match ks r with | true => .undef | false => .eptr r i p)
  | a => a
section
variable {P : Program} {F : Nat → Prop} {w0 w w' : World} {mem mem' : List Cn} {L L' : List Res}
theorem SF.stp (hs : Stp w L w' L') (g : Nat) (h : SF F L w g) : SF F L' w' g ∧ w'.heap[g]? = w.heap[g]? := ⟨⟨(hs g h.1).1, h.2⟩, (hs g h.1).2⟩
theorem AVR.dat_stp {S S' : Nat → Prop} (hs : ∀ g, S g → S' g ∧ w'.heap[g]? = w.heap[g]?) {t : Ty} {x : D t} {v : Value} (h : ∃ cs, v = mkV t cs ∧ RC S w t cs x) : ∃ cs, v = mkV t cs ∧ RC S' w' t cs x := by
  obtain ⟨cs, h1, h2⟩ := h
  exact ⟨cs, h1, h2.stp hs⟩
theorem AVR.stp (hs : Stp w L w' L') (ks : Nat → Bool) (hk : ∀ r, ks r = false → Kp mem L mem' L' r) : ∀ {a : AV} {v : Value}, AVR F w mem L a v → AVR F w' mem' L' (kil ks a) v
  | .undef, v, h => trivial
  | .dat t x, v, h => AVR.dat_stp (SF.stp hs) h
  | .nil, v, h => h
  | .own r, v, h => by
    cases hr : ks r with
    | true => simp only [kil, hr]; trivial
    | false =>
      simp only [kil, hr]
      obtain ⟨E, zz, n, cs, h⟩ := h
      obtain ⟨cs', h'⟩ := (hk r hr).2.1 _ _ _ _ _ h
      exact ⟨E, zz, n, cs', h'⟩
  | .view r lo hi, v, h => by
    cases hr : ks r with
    | true => simp only [kil, hr]; trivial
    | false =>
      simp only [kil, hr]
      obtain ⟨E, zz, u, n, cs, h, h2⟩ := h
      obtain ⟨cs', h'⟩ := (hk r hr).2.1 _ _ _ _ _ h
      exact ⟨E, zz, u, n, cs', h', h2⟩
  | .ptr r none p, v, h => by
    cases hr : ks r with
    | true => simp only [kil, hr]; trivial
    | false =>
      simp only [kil, hr]
      obtain ⟨hp, g, T, cs, h, h2⟩ := h
      obtain ⟨cs', h'⟩ := (hk r hr).1 _ _ _ h
      exact ⟨hp, g, T, cs', h', h2⟩
  | .ptr r (some k) p, v, h => by
    cases hr : ks r with
    | true => simp only [kil, hr]; trivial
    | false =>
      simp only [kil, hr]
      obtain ⟨g, T, cs, ts, fs, t, h, h2, h3⟩ := h
      obtain ⟨cs', h'⟩ := (hk r hr).1 _ _ _ h
      obtain ⟨fs', h2'⟩ := (hk r hr).2.2.1 _ _ h2
      exact ⟨g, T, cs', ts, fs', t, h', h2', h3⟩
  | .aview r k p lo hi, v, h => by
    cases hr : ks r with
    | true => simp only [kil, hr]; trivial
    | false =>
      simp only [kil, hr]
      obtain ⟨g, T, cs, ts, fs, t, n, te, h, h2, h3⟩ := h
      obtain ⟨cs', h'⟩ := (hk r hr).1 _ _ _ h
      obtain ⟨fs', h2'⟩ := (hk r hr).2.2.1 _ _ h2
      exact ⟨g, T, cs', ts, fs', t, n, te, h', h2', h3⟩
  | .eptr r i p, v, h => by
    cases hr : ks r with
    | true => simp only [kil, hr]; trivial
    | false =>
      simp only [kil, hr]
      obtain ⟨E, zz, u, n, cs, t, l, h, h2, h3⟩ := h
      obtain ⟨cs', h'⟩ := (hk r hr).2.1 _ _ _ _ _ h
      obtain ⟨l', h2'⟩ := (hk r hr).2.2.2 _ _ h2
      exact ⟨E, zz, u, n, cs', t, l', h', h2', h3⟩
  | .rptr t x, v, h => by
    obtain ⟨a, cs, h1, h2, h3⟩ := h
    refine ⟨a, cs, h1, h2.stp (SF.stp hs), fun j u hu => ?_⟩
    obtain ⟨h4, h5⟩ := h3 j u hu
    obtain ⟨h6, h7⟩ := SF.stp hs _ h5
    exact ⟨by rw [← h4]; exact World.cell?_of_block (by rw [ablk]; exact h7), h6⟩
  | .fn f, v, h => h
theorem FR.stp (hs : Stp w L w' L') (ks : Nat → Bool) (hk : ∀ r, ks r = false → Kp mem L mem' L' r) {a : AV} {p : Ty × List Value} (h : FR F w mem L a p) : FR F w' mem' L' (kil ks a) p := ⟨AVR.stp hs ks hk h.1, h.2⟩
def kilC (ks : Nat → Bool) : Cn → Cn
  | .blk ts fs => .blk ts (fs.map (kil ks))
  | c => c
theorem CR.stp (hs : Stp w L w' L') (ks : Nat → Bool) (hk : ∀ r, ks r = false → Kp mem L mem' L' r) {c : Cn} {q : Res} (h : CR P F w mem L c q) : CR P F w' mem' L' (kilC ks c) q := by
  cases c with
  | gone => exact h
  | sl t l =>
    obtain ⟨E, v, cs, h1, h2, h3, h4⟩ := h
    exact ⟨E, v, cs, h1, h2, h3, h4.stp (SF.stp hs)⟩
  | blk ts fs =>
    obtain ⟨g, T, ps, h1, h2, h3⟩ := h
    refine ⟨g, T, ps, h1, h2, ?_⟩
    have h4 := All2.map (R := FR F w' mem' L') (f := kil ks) (g := id) (fun c d h => FR.stp hs ks hk h) h3
    rw [List.map_id] at h4
    exact h4
theorem Kp.refl (r : Nat) : Kp mem L mem L r := ⟨fun _ _ cs h => ⟨cs, h⟩, fun _ _ _ _ cs h => ⟨cs, h⟩, fun _ fs h => ⟨fs, h⟩, fun _ l h => ⟨l, h⟩⟩
def kno : Nat → Bool := fun _ => false
theorem kil_no : ∀ a : AV, kil kno a = a
  | .undef => rfl | .dat _ _ => rfl | .nil => rfl | .own _ => rfl | .view _ _ _ => rfl | .ptr _ _ _ => rfl | .aview _ _ _ _ _ => rfl | .eptr _ _ _ => rfl | .rptr _ _ => rfl | .fn _ => rfl
theorem kilC_no (c : Cn) : kilC kno c = c := by
  cases c with
  | gone => rfl
  | sl t l => rfl
  | blk ts fs => show Cn.blk ts (fs.map (kil kno)) = _; rw [show kil kno = id from funext kil_no, List.map_id]
theorem AVR.stp0 (hs : Stp w L w' L') (hk : ∀ r, Kp mem L mem' L' r) {a : AV} {v : Value} (h : AVR F w mem L a v) : AVR F w' mem' L' a v := by
  have := AVR.stp (F := F) hs kno (fun r _ => hk r) h; rwa [kil_no] at this
theorem CR.stp0 (hs : Stp w L w' L') (hk : ∀ r, Kp mem L mem' L' r) {c : Cn} {q : Res} (h : CR P F w mem L c q) : CR P F w' mem' L' c q := by
  have := CR.stp (P := P) (F := F) hs kno (fun r _ => hk r) h; rwa [kilC_no] at this
/-- The world alone has turned, not these things. -/
theorem MR.gr (m : MR P F w0 w mem L) (h : Below w.heap.size w w') : MR P F w0 w' mem L ∧ Stp w L w' L := by
  obtain ⟨m', s'⟩ := m.mo.gr h
  exact ⟨⟨m', m.len, fun r c q hc hq => (m.cn r c q hc hq).stp0 s' (fun r => Kp.refl r), fun g hg => (s' g (m.fz g hg)).1⟩, s'⟩
/-- One more thing. -/
theorem Kp.app {c : Cn} {q : Res} (r : Nat) : Kp mem L (mem ++ [c]) (L ++ [q]) r := by
  have h1 : ∀ {α : Type} {l : List α} {x y : α}, l[r]? = some y → (l ++ [x])[r]? = some y := fun h => by
    rw [List.getElem?_append_left (List.getElem?_eq_some_iff.1 h).1]; exact h
  exact ⟨fun _ _ cs h => ⟨cs, h1 h⟩, fun _ _ _ _ cs h => ⟨cs, h1 h⟩, fun _ fs h => ⟨fs, h1 h⟩, fun _ l h => ⟨l, h1 h⟩⟩
theorem MR.new (m : MR P F w0 w mem L) {c : Cn} {q : Res} (h : Below w.heap.size w w') (hq : q.ok w.heap.size w') (hc : CR P F w' (mem ++ [c]) (L ++ [q]) c q) : MR P F w0 w' (mem ++ [c]) (L ++ [q]) ∧ Stp w L w' (L ++ [q]) := by
  obtain ⟨m', s'⟩ := m.mo.new h hq
  refine ⟨⟨m', by rw [List.length_append, List.length_append, m.len]; rfl, fun r d p hd hp => ?_, fun g hg => (s' g (m.fz g hg)).1⟩, s'⟩
  rcases get_app hd with hd | ⟨rfl, rfl⟩
  · rcases get_app hp with hp | ⟨rfl, rfl⟩
    · exact (m.cn r d p hd hp).stp0 s' (fun r => Kp.app r)
    · have := (List.getElem?_eq_some_iff.1 hd).1; have := m.len; omega
  · rcases get_app hp with hp | ⟨_, rfl⟩
    · have := (List.getElem?_eq_some_iff.1 hp).1; have := m.len; omega
    · exact hc
/-- One thing turns, in its place. -/
theorem Kp.set {c : Cn} {q : Res} {i : Nat} (h : ∀ c0 q0, mem[i]? = some c0 → L[i]? = some q0 → (∀ g T cs, q0 = .arr g T cs → ∃ cs', q = .arr g T cs') ∧ (∀ E zz v n cs, q0 = .own E zz v n cs → ∃ cs', q = .own E zz v n cs') ∧ (∀ ts fs, c0 = .blk ts fs → ∃ fs', c = .blk ts fs') ∧ (∀ t l, c0 = .sl t l → ∃ l', c = .sl t l')) (hl : L.length = mem.length) (r : Nat) : Kp mem L (mem.set i c) (L.set i q) r := by
  by_cases e : i = r
  · subst e
    have g1 : ∀ {q0 : Res}, L[i]? = some q0 → (L.set i q)[i]? = some q ∧ (mem.set i c)[i]? = some c ∧ ∃ c0, mem[i]? = some c0 := fun h => by
      have h1 := (List.getElem?_eq_some_iff.1 h).1
      exact ⟨by rw [List.getElem?_set_self h1], by rw [List.getElem?_set_self (by omega)], _, List.getElem?_eq_getElem (by omega)⟩
    have g2 : ∀ {c0 : Cn}, mem[i]? = some c0 → (mem.set i c)[i]? = some c ∧ ∃ q0, L[i]? = some q0 := fun h => by
      have h1 := (List.getElem?_eq_some_iff.1 h).1
      exact ⟨by rw [List.getElem?_set_self h1], _, List.getElem?_eq_getElem (by omega)⟩
    refine ⟨fun g T cs hq => ?_, fun E zz v n cs hq => ?_, fun ts fs hc => ?_, fun t l hc => ?_⟩
    · obtain ⟨h1, _, c0, h3⟩ := g1 hq
      obtain ⟨cs', h4⟩ := (h c0 _ h3 hq).1 g T cs rfl
      exact ⟨cs', by rw [h1, h4]⟩
    · obtain ⟨h1, _, c0, h3⟩ := g1 hq
      obtain ⟨cs', h4⟩ := (h c0 _ h3 hq).2.1 E zz v n cs rfl
      exact ⟨cs', by rw [h1, h4]⟩
    · obtain ⟨h1, q0, h2⟩ := g2 hc
      obtain ⟨fs', h4⟩ := (h _ q0 hc h2).2.2.1 ts fs rfl
      exact ⟨fs', by rw [h1, h4]⟩
    · obtain ⟨h1, q0, h2⟩ := g2 hc
      obtain ⟨l', h4⟩ := (h _ q0 hc h2).2.2.2 t l rfl
      exact ⟨l', by rw [h1, h4]⟩
  · have h1 : ∀ {α : Type} {l : List α} {x y : α}, l[r]? = some y → (l.set i x)[r]? = some y := fun h => by rw [List.getElem?_set_ne e]; exact h
    exact ⟨fun _ _ cs h => ⟨cs, h1 h⟩, fun _ _ _ _ cs h => ⟨cs, h1 h⟩, fun _ fs h => ⟨fs, h1 h⟩, fun _ l h => ⟨l, h1 h⟩⟩
end
end Go.Proofs.Ytpfoeeiacfadfaa.Q
/-
  A Go function's operations, reckoned on values as they are told (AV): what each yields, where it is sure to come to an end.
-/
namespace Go.Proofs.Ytpfoeeiacfadfaa.Q
open Go.RowKit

def guard {β : Type} (b : Bool) (k : Option β) : Option β := match b with | true => k | false => none
def cnd {β : Type} (b : Bool) (x y : Option β) : Option β := match b with | true => x | false => y
def bnd {α β : Type} (o : Option α) (k : α → Option β) : Option β := match o with | some a => k a | none => none
theorem guard_some {β : Type} {b : Bool} {k : Option β} {r : β} (h : guard b k = some r) : b = true ∧ k = some r := by cases b <;> first | exact ⟨rfl, h⟩ | cases h
theorem bnd_some {α β : Type} {o : Option α} {k : α → Option β} {r : β} (h : bnd o k = some r) : ∃ a, o = some a ∧ k a = some r := by cases o with | none => cases h | some a => exact ⟨a, rfl, h⟩

/-! Numbers. -/
def addK : (k : IntKind) → IK k → IK k → IK k
  | .u8, x, y => UInt8.add x y
  | .u16, x, y => UInt16.add x y
  | .u32, x, y => UInt32.add x y
  | .u64, x, y => UInt64.add x y
  | .i8, x, y => Int.add x y
  | .i16, x, y => Int.add x y
  | .i32, x, y => Int.add x y
  | .i64, x, y => Int.add x y
def subK : (k : IntKind) → IK k → IK k → IK k
  | .u8, x, y => UInt8.sub x y
  | .u16, x, y => UInt16.sub x y
  | .u32, x, y => UInt32.sub x y
  | .u64, x, y => UInt64.sub x y
  | .i8, x, y => Int.sub x y
  | .i16, x, y => Int.sub x y
  | .i32, x, y => Int.sub x y
  | .i64, x, y => Int.sub x y
def mulK : (k : IntKind) → IK k → IK k → IK k
  | .u8, x, y => UInt8.mul x y
  | .u16, x, y => UInt16.mul x y
  | .u32, x, y => UInt32.mul x y
  | .u64, x, y => UInt64.mul x y
  | .i8, x, y => Int.mul x y
  | .i16, x, y => Int.mul x y
  | .i32, x, y => Int.mul x y
  | .i64, x, y => Int.mul x y
def quoK : (k : IntKind) → IK k → IK k → IK k
  | .u8, x, y => UInt8.div x y
  | .u16, x, y => UInt16.div x y
  | .u32, x, y => UInt32.div x y
  | .u64, x, y => UInt64.div x y
  | .i8, x, y => Int.tdiv x y
  | .i16, x, y => Int.tdiv x y
  | .i32, x, y => Int.tdiv x y
  | .i64, x, y => Int.tdiv x y
def remK : (k : IntKind) → IK k → IK k → IK k
  | .u8, x, y => UInt8.mod x y
  | .u16, x, y => UInt16.mod x y
  | .u32, x, y => UInt32.mod x y
  | .u64, x, y => UInt64.mod x y
  | .i8, x, y => Int.tmod x y
  | .i16, x, y => Int.tmod x y
  | .i32, x, y => Int.tmod x y
  | .i64, x, y => Int.tmod x y
/-- Of signed kinds: as the bits tell. -/
def andK : (k : IntKind) → IK k → IK k → IK k
  | .u8, x, y => hide (UInt8.land x y)
  | .u16, x, y => hide (UInt16.land x y)
  | .u32, x, y => hide (UInt32.land x y)
  | .u64, x, y => hide (UInt64.land x y)
  | k, x, y => ofI k (k.wrap (((BitVec.ofInt k.bits (toI k x) &&& BitVec.ofInt k.bits (toI k y)).toNat : Nat) : Int))
def orK : (k : IntKind) → IK k → IK k → IK k
  | .u8, x, y => hide (UInt8.lor x y)
  | .u16, x, y => hide (UInt16.lor x y)
  | .u32, x, y => hide (UInt32.lor x y)
  | .u64, x, y => hide (UInt64.lor x y)
  | k, x, y => ofI k (k.wrap (((BitVec.ofInt k.bits (toI k x) ||| BitVec.ofInt k.bits (toI k y)).toNat : Nat) : Int))
def xorK : (k : IntKind) → IK k → IK k → IK k
  | .u8, x, y => hide (UInt8.xor x y)
  | .u16, x, y => hide (UInt16.xor x y)
  | .u32, x, y => hide (UInt32.xor x y)
  | .u64, x, y => hide (UInt64.xor x y)
  | k, x, y => ofI k (k.wrap (((BitVec.ofInt k.bits (toI k x) ^^^ BitVec.ofInt k.bits (toI k y)).toNat : Nat) : Int))
def anoK : (k : IntKind) → IK k → IK k → IK k
  | .u8, x, y => hide (UInt8.land x (UInt8.complement y))
  | .u16, x, y => hide (UInt16.land x (UInt16.complement y))
  | .u32, x, y => hide (UInt32.land x (UInt32.complement y))
  | .u64, x, y => hide (UInt64.land x (UInt64.complement y))
  | k, x, y => ofI k (k.wrap (((BitVec.ofInt k.bits (toI k x) &&& ~~~ BitVec.ofInt k.bits (toI k y)).toNat : Nat) : Int))
/-- A shift by a count that is not below 0. -/
def shlK : (k : IntKind) → IK k → Nat → IK k
  | .u8, x, n => UInt8.ofNat (UInt8.toNat x * 2 ^ min n 8)
  | .u16, x, n => UInt16.ofNat (UInt16.toNat x * 2 ^ min n 16)
  | .u32, x, n => UInt32.ofNat (UInt32.toNat x * 2 ^ min n 32)
  | .u64, x, n => UInt64.ofNat (UInt64.toNat x * 2 ^ min n 64)
  | k, x, n => ofI k (toI k x * 2 ^ min n k.bits)
def shrK : (k : IntKind) → IK k → Nat → IK k
  | .u8, x, n => UInt8.ofNat (UInt8.toNat x / 2 ^ min n 8)
  | .u16, x, n => UInt16.ofNat (UInt16.toNat x / 2 ^ min n 16)
  | .u32, x, n => UInt32.ofNat (UInt32.toNat x / 2 ^ min n 32)
  | .u64, x, n => UInt64.ofNat (UInt64.toNat x / 2 ^ min n 64)
  | k, x, n => ofI k ((toI k x).fdiv (2 ^ min n k.bits))
def eq8 (x y : UInt8) : Bool := decide (x = y)
def lt8 (x y : UInt8) : Bool := decide (x < y)
def le8 (x y : UInt8) : Bool := decide (x ≤ y)
def eq16 (x y : UInt16) : Bool := decide (x = y)
def lt16 (x y : UInt16) : Bool := decide (x < y)
def le16 (x y : UInt16) : Bool := decide (x ≤ y)
def eq32 (x y : UInt32) : Bool := decide (x = y)
def lt32 (x y : UInt32) : Bool := decide (x < y)
def le32 (x y : UInt32) : Bool := decide (x ≤ y)
def eq64 (x y : UInt64) : Bool := decide (x = y)
def lt64 (x y : UInt64) : Bool := decide (x < y)
def le64 (x y : UInt64) : Bool := decide (x ≤ y)
def eqZ (x y : Int) : Bool := decide (x = y)
def ltZ (x y : Int) : Bool := decide (x < y)
def leZ (x y : Int) : Bool := decide (x ≤ y)
def eqB (x y : Bool) : Bool := decide (x = y)
def eqS (x y : List UInt8) : Bool := decide (x = y)
def eqK : (k : IntKind) → IK k → IK k → Bool
  | .u8, x, y => eq8 x y
  | .u16, x, y => eq16 x y
  | .u32, x, y => eq32 x y
  | .u64, x, y => eq64 x y
  | .i8, x, y => eqZ x y
  | .i16, x, y => eqZ x y
  | .i32, x, y => eqZ x y
  | .i64, x, y => eqZ x y
def ltK : (k : IntKind) → IK k → IK k → Bool
  | .u8, x, y => lt8 x y
  | .u16, x, y => lt16 x y
  | .u32, x, y => lt32 x y
  | .u64, x, y => lt64 x y
  | .i8, x, y => ltZ x y
  | .i16, x, y => ltZ x y
  | .i32, x, y => ltZ x y
  | .i64, x, y => ltZ x y
def leK : (k : IntKind) → IK k → IK k → Bool
  | .u8, x, y => le8 x y
  | .u16, x, y => le16 x y
  | .u32, x, y => le32 x y
  | .u64, x, y => le64 x y
  | .i8, x, y => leZ x y
  | .i16, x, y => leZ x y
  | .i32, x, y => leZ x y
  | .i64, x, y => leZ x y
/-- From kind to kind. -/
def cvK : (j k : IntKind) → IK j → IK k
  | .u8, .u8, x => x
  | .u32, .u32, x => x
  | .u64, .u64, x => x
  | .u8, .u32, x => UInt8.toUInt32 x
  | .u8, .u64, x => UInt8.toUInt64 x
  | .u32, .u64, x => UInt32.toUInt64 x
  | .u32, .u8, x => UInt32.toUInt8 x
  | .u64, .u8, x => UInt64.toUInt8 x
  | .u64, .u32, x => UInt64.toUInt32 x
  | j, k, x => ofI k (toI j x)
def bin {β : Type} (op : BinOp) (k : IntKind) (x y : IK k) (K : AV → Option β) : Option β :=
  match op with
  | .add => guard (inR k (toI k x + toI k y)) (K (.dat (.int k) (addK k x y)))
  | .sub => guard (inR k (toI k x - toI k y)) (K (.dat (.int k) (subK k x y)))
  | .mul => guard (inR k (toI k x * toI k y)) (K (.dat (.int k) (mulK k x y)))
  | .quo => guard (!(eqK k y (ofI k 0)) && inR k ((toI k x).tdiv (toI k y))) (K (.dat (.int k) (quoK k x y)))
  | .rem => guard (!(eqK k y (ofI k 0))) (K (.dat (.int k) (remK k x y)))
  | .and => K (.dat (.int k) (andK k x y))
  | .or => K (.dat (.int k) (orK k x y))
  | .xor => K (.dat (.int k) (xorK k x y))
  | .andNot => K (.dat (.int k) (anoK k x y))
  | .eql => K (.dat .bool (eqK k x y))
  | .neq => K (.dat .bool (!(eqK k x y)))
  | .lss => K (.dat .bool (ltK k x y))
  | .leq => K (.dat .bool (leK k x y))
  | .gtr => K (.dat .bool (ltK k y x))
  | .geq => K (.dat .bool (leK k y x))
  | _ => none
/-! Data that are alike. -/
def eqL {α : Type} (f : α → α → Bool) : List α → List α → Bool
  | [], [] => true
  | a :: l, b :: m => f a b && eqL f l m
  | _, _ => false
def eqD : (t : Ty) → D t → D t → Bool
  | .int k, x, y => eqK k x y
  | .bool, x, y => eqB x y
  | .str, x, y => eqS x y
  | .arr _ t, x, y => eqL (eqD t) x y
  | .unit, _, _ => true
  | .pair a b, x, y => eqD a x.1 y.1 && eqD b x.2 y.2
  | .sl _, _, _ => false
  | .opq _, _, _ => false
/-- Such as '==' may be asked of. -/
def cmpb : Ty → Bool
  | .arr _ t => cmpb t
  | .pair a b => cmpb a && cmpb b
  | .sl _ => false
  | .opq _ => false
  | _ => true

/-! The state: slots, and what things of one's own hold. -/
structure St where
  fr : List (Nat × SV)
  mem : List Cn
def lks : List (Nat × SV) → Nat → SV
  | [], _ => .one .undef
  | (k, v) :: s, n => (match Nat.beq k n with | true => v | false => lks s n)
def one : SV → AV
  | .one a => a
  | .tup _ => .undef
def SV.map (f : AV → AV) : SV → SV
  | .one a => .one (f a)
  | .tup l => .tup (l.map f)
def cnm (f : AV → AV) : Cn → Cn
  | .blk ts fs => .blk ts (fs.map f)
  | c => c
def St.map (f : AV → AV) (s : St) : St := ⟨s.fr.map fun p => (p.1, p.2.map f), s.mem.map (cnm f)⟩
def St.put (d : Option Tmp) (v : SV) (s : St) : St := match d with | some d => ⟨(d, v) :: s.fr, s.mem⟩ | none => s
/-- What a type's data are; its elements' type; its fields. -/
structure TI where
  t : Ty
  E : TypeId
  fts : List Ty
def stru : List Ty → Ty
  | [] => .unit
  | [t] => t
  | t :: r => .pair t (stru r)
/-- The fields of a struct of two at least. -/
def split : (ts : List Ty) → D (stru ts) → List AV
  | [], _ => []
  | [t], x => [.dat t x]
  | t :: u :: r, x => .dat t x.1 :: split (u :: r) x.2
/-- A field's path in a struct of n. -/
def fpath : Nat → Nat → List PS
  | 0, _ => []
  | 1, _ => []
  | _ + 2, 0 => [.fst]
  | n + 2, k + 1 => .snd :: fpath (n + 1) k
def fpath' (n k : Nat) : List PS := match n with | 1 => [.fst] | n => fpath n k
inductive PK where
  | d (t : Ty)
  | o (t : Ty)
  | p (ts : List Ty)
  | f (f : FuncId)
def DK : PK → Type
  | .d t => D t
  | .o t => List (D t)
  | .p ts => D (stru ts)
  | .f _ => Unit
def Dat : List PK → Type
  | [] => Unit
  | [k] => DK k
  | k :: l :: r => DK k × Dat (l :: r)
structure Hd where
  pks : List PK
  rks : List PK
  fm : Dat pks → Option (Dat rks)
structure Env where
  N : Nat
  T : TypeId → Option TI
  h : FuncId → Option Hd
  G : Nat → Option Sg
def cAV : Value → AV
  | .int k n => (match decide (toI k (ofI k n) = n) with | true => .dat (.int k) (ofI k n) | false => .undef)
  | .bool b => .dat .bool b
  | .string s => .dat .str s.data.toList
  | .slice none 0 0 => .nil
  | _ => .undef
def opd (e : Env) (s : St) : Operand → SV
  | .tmp k => lks s.fr k
  | .const v => .one (cAV v)
  | .global g => (match e.G g with | some x => .one (.rptr x.t x.x) | none => .one .undef)
  | .func f => .one (.fn f)
def av (e : Env) (s : St) (x : Operand) : AV := one (opd e s x)
def castL (s t : Ty) (l : List (D s)) : Option (List (D t)) := cast (.sl s) (.sl t) l
def castS (s t : Ty) (x : D s) : Option (List (D t)) := cast s (.sl t) x
/-- The elements of a slice. -/
def rdS (mem : List Cn) (t : Ty) : AV → Option (List (D t))
  | .dat s x => castS s t x
  | .nil => some []
  | .own r => (match mem[r]? with | some (.sl s l) => castL s t l | _ => none)
  | .view r lo hi => (match mem[r]? with | some (.sl s l) => (match castL s t l with | some l => some ((l.take hi).drop lo) | none => none) | _ => none)
  | .aview r k p lo hi => (match mem[r]? with
    | some (.blk ts fs) => (match ts[k]?, fs[k]? with
      | some u, some (.dat s x) => (match cast s u x with
        | some x => (match get u x p with
          | some y => (match pt u p with
            | some (.arr n _) => (match cast y.t (.arr n t) y.x with | some l => some ((List.take (α := D t) hi l).drop lo) | none => none)
            | _ => none)
          | none => none)
        | none => none)
      | _, _ => none)
    | _ => none)
  | _ => none
def toDS (mem : List Cn) : (t : Ty) → AV → Option (D t)
  | .sl t, a => rdS mem t a
  | _, _ => none
/-- A datum of this shape. -/
def toD (mem : List Cn) (t : Ty) (a : AV) : Option (D t) :=
  match a with
  | .dat s x => cast s t x
  | a => toDS mem t a
def asBool' : AV → Option Bool
  | .dat s x => (match s, x with | .bool, b => some b | _, _ => none)
  | _ => none
structure IV where
  k : IntKind
  x : IK k
def asInt' : AV → Option IV
  | .dat s x => (match s, x with | .int k, x => some ⟨k, x⟩ | _, _ => none)
  | _ => none
/-- An index or a bound. -/
def asIdx : AV → Option Int
  | .dat s x => (match s, x with | .int k, x => some (toI k x) | _, _ => none)
  | _ => none
/-- Lists of data of these shapes, one behind the other, as a struct's. -/
def joinD (mem : List Cn) : (ts : List Ty) → List AV → Option (D (stru ts))
  | [], [] => some ()
  | [t], [a] => toD mem t a
  | t :: u :: r, a :: l => (match toD mem t a, joinD mem (u :: r) l with | some x, some y => some ((x, y) : D t × D (stru (u :: r))) | _, _ => none)
  | _, _ => none
/-- A datum that leans on nothing of one's own. -/
def toD0 (t : Ty) (a : AV) : Option (D t) :=
  match a with
  | .dat s x => cast s t x
  | .nil => (match t with | .sl _ => some ([] : List _) | _ => none)
  | _ => none
/-- Parts of a literal, laid one behind the other. -/
def bld (t : Ty) (pth : Nat → List PS) : List (Nat × AV) → D t → Option (D t)
  | [], x => some x
  | (k, a) :: r, x => (match pt t (pth k) with
    | some u => (match toD0 u a with
      | some y => (match set t x (pth k) u y with
        | some x' => bld t pth r x'
        | none => none)
      | none => none)
    | none => none)
/-- A number that is not below 0 and below n. -/
def inB (z : Int) (n : Nat) : Bool := decide (0 ≤ z) && decide (z < n)
def leB (z : Int) (n : Nat) : Bool := decide (0 ≤ z) && decide (z ≤ n)

def sameL : List Ty → List Ty → Bool
  | [], [] => true
  | a :: l, b :: m => same a b && sameL l m
  | _, _ => false
/-- What lies at a place. -/
def isT (mem : List Cn) (a : AV) (t : Ty) : Bool :=
  match a with
  | .ptr r (some k) p => (match mem[r]? with
    | some (.blk ts _) => (match ts[k]? with
      | some u => (match pt u p with
        | some v => same v t
        | none => false)
      | none => false)
    | _ => false)
  | .eptr r _ p => (match mem[r]? with
    | some (.sl u _) => (match pt u p with
      | some v => same v t
      | none => false)
    | _ => false)
  | _ => false
/-- A struct's type. -/
def sty' (i : TI) : Bool := match i.t with | .pair _ _ => true | .unit => true | _ => false
/-- AN OPERATION THAT HANGS ON NO WORLD. -/
def pureOp {β : Type} (e : Env) (s : St) (o : Oper) (K : SV → Option β) : Option β :=
  match o.op with
  | .move x => K (opd e s x)
  | .assign x => K (opd e s x)
  | .pick c a b => bnd (asBool' (av e s c)) fun c => cnd c (K (opd e s a)) (K (opd e s b))
  | .binOp op T x y _ =>
    (match av e s x, av e s y with
    | .dat tx x, .dat ty y =>
      (match tx, x, ty, y with
      | .int j, x, .int k, y => (match op with
        | .shl => bnd (cast (.int j) (.int j) x) fun x => guard (decide (0 ≤ toI k y) && inR j (toI j x * 2 ^ min (toI k y).toNat j.bits)) (K (.one (.dat (.int j) (shlK j x (toI k y).toNat))))
        | .shr => guard (decide (0 ≤ toI k y)) (K (.one (.dat (.int j) (shrK j x (toI k y).toNat))))
        | op => bnd (cast (.int k) (.int j) y) fun y => bin op j x y fun a => K (.one a))
      | tx, x, ty, y =>
        bnd (e.T T) fun i => bnd (cast tx i.t x) fun x => bnd (cast ty i.t y) fun y => guard (cmpb i.t) (match op with
        | .eql => K (.one (.dat .bool (eqD i.t x y)))
        | .neq => K (.one (.dat .bool (!(eqD i.t x y))))
        | _ => none))
    | _, _ => none)
  | .unOp op _ x => (match op with
    | .not => bnd (asBool' (av e s x)) fun b => K (.one (.dat .bool (!b)))
    | .neg => bnd (asInt' (av e s x)) fun i => guard (inR i.k (0 - toI i.k i.x)) (K (.one (.dat (.int i.k) (subK i.k (ofI i.k 0) i.x))))
    | _ => none)
  | .convert S T x => (match av e s x with
    | .dat tx x => (match tx, x, e.T S, e.T T with
      | .int j, x, some ⟨.int _, _, _⟩, some ⟨.int k, _, _⟩ => guard (inR k (toI j x)) (K (.one (.dat (.int k) (cvK j k x))))
      | .str, x, some ⟨.str, _, _⟩, some ⟨.str, _, _⟩ => K (.one (.dat .str x))
      | _, _, _, _ => none)
    | _ => none)
  | .extract x i => (match opd e s x with
    | .tup l => (match l[i]? with | some a => K (.one a) | none => none)
    | _ => none)
  | .nilCheck x => (match av e s x with
    | .ptr r k p => K (.one (.ptr r k p))
    | .eptr r k p => K (.one (.eptr r k p))
    | .rptr t y => K (.one (.rptr t y))
    | .fn f => K (.one (.fn f))
    | _ => none)
  | .build T ps => bnd (e.T T) fun i => guard (plain i.t) (match i.t with
    | .pair a b => bnd (bld (.pair a b) (fpath' i.fts.length) (ps.toList.map fun p => (p.1, av e s p.2)) (zv (.pair a b))) fun x => guard (ps.toList.all fun p => Nat.blt p.1 i.fts.length) (K (.one (.dat (.pair a b) x)))
    | .arr n t => guard (ps.toList.all fun p => Nat.blt p.1 n) (bnd (bld (.arr n t) (fun k => [.idx k]) (ps.toList.map fun p => (p.1, av e s p.2)) (zv (.arr n t))) fun x => K (.one (.dat (.arr n t) x)))
    | _ => none)
  | .field T x k => (match av e s x with
    | .dat tx x => bnd (e.T T) fun i => bnd (cast tx i.t x) fun x => (match get i.t x (fpath' i.fts.length k) with
      | some y => guard (Nat.blt k i.fts.length) (K (.one (.dat y.t y.x)))
      | none => none)
    | _ => none)
  | .index T x y => bnd (e.T T) fun i => bnd (asIdx (av e s y)) fun j => (match av e s x with
    | .dat tx x => bnd (cast tx i.t x) fun x => (match i.t, x with
      | .arr n t, x => guard (inB j n) (K (.one (.dat t (List.getD (α := D t) x j.toNat (zv t)))))
      | .str, x => guard (inB j (List.length (α := UInt8) x)) (K (.one (.dat (.int .u8) (List.getD (α := UInt8) x j.toNat 0))))
      | _, _ => none)
    | _ => none)
  | .fieldAddr T x k => bnd (e.T T) fun i => guard (Nat.blt k i.fts.length && sty' i) (match av e s x with
    | .ptr r none _ => (match s.mem[r]? with
      | some (.blk ts _) => (match Nat.beq i.fts.length 1 with
        | true => (match ts with | [u] => guard (same u i.t) (K (.one (.ptr r (some 0) [.fst]))) | _ => none)
        | false => guard (sameL ts i.fts) (K (.one (.ptr r (some k) []))))
      | _ => none)
    | .ptr r (some j) p => guard (isT s.mem (.ptr r (some j) p) i.t) (K (.one (.ptr r (some j) (p ++ fpath' i.fts.length k))))
    | .eptr r j p => guard (isT s.mem (.eptr r j p) i.t) (K (.one (.eptr r j (p ++ fpath' i.fts.length k))))
    | .rptr t x => bnd (cast t i.t x) fun x => (match get i.t x (fpath' i.fts.length k) with
      | some y => K (.one (.rptr y.t y.x))
      | none => none)
    | _ => none)
  | .indexAddr T x y => bnd (e.T T) fun i => bnd (asIdx (av e s y)) fun j => (match i.t with
    | .arr n t => (match av e s x with
      | .ptr r none _ => (match s.mem[r]? with
        | some (.blk [u] _) => guard (same u (.arr n t)) (guard (inB j n) (K (.one (.ptr r (some 0) [.idx j.toNat]))))
        | _ => none)
      | .ptr r (some k) p => guard (isT s.mem (.ptr r (some k) p) (.arr n t)) (guard (inB j n) (K (.one (.ptr r (some k) (p ++ [.idx j.toNat])))))
      | .eptr r k p => guard (isT s.mem (.eptr r k p) (.arr n t)) (guard (inB j n) (K (.one (.eptr r k (p ++ [.idx j.toNat])))))
      | .rptr u x => bnd (cast u (.arr n t) x) fun x => guard (inB j n) (K (.one (.rptr t (List.getD (α := D t) x j.toNat (zv t)))))
      | _ => none)
    | .sl t => (match av e s x with
      | .dat u x => bnd (cast u (.sl t) x) fun x => guard (inB j (List.length (α := D t) x)) (K (.one (.rptr t (List.getD (α := D t) x j.toNat (zv t)))))
      | .own r => (match s.mem[r]? with
        | some (.sl u l) => guard (same u t) (guard (inB j l.length) (K (.one (.eptr r j.toNat []))))
        | _ => none)
      | .view r lo hi => (match s.mem[r]? with
        | some (.sl u _) => guard (same u t) (guard (inB j (hi - lo)) (K (.one (.eptr r (lo + j.toNat) []))))
        | _ => none)
      | .aview r k p lo hi => (match s.mem[r]? with
        | some (.blk ts _) => (match ts[k]? with
          | some u => (match pt u p with
            | some (.arr _ v) => guard (same v t) (guard (inB j (hi - lo)) (K (.one (.ptr r (some k) (p ++ [.idx (lo + j.toNat)])))))
            | _ => none)
          | none => none)
        | _ => none)
      | _ => none)
    | _ => none)
  | .slice T x lo hi mx => (match mx with
    | some _ => none
    | none => bnd (e.T T) fun i => bnd (match lo with | none => some 0 | some y => asIdx (av e s y)) fun l => (match i.t with
      | .sl t => (match av e s x with
        | .dat u x => bnd (cast u (.sl t) x) fun x => bnd (match hi with | none => some ((List.length (α := D t) x : Nat) : Int) | some y => asIdx (av e s y)) fun h =>
            guard (leB h (List.length (α := D t) x) && leB l h.toNat) (K (.one (.dat (.sl t) ((List.take (α := D t) h.toNat x).drop l.toNat))))
        | .nil => bnd (match hi with | none => some 0 | some y => asIdx (av e s y)) fun h => guard (leB h 0 && leB l h.toNat) (K (.one .nil))
        | .own r => (match s.mem[r]? with
          | some (.sl u x) => guard (same u t) (bnd (match hi with | none => some ((x.length : Nat) : Int) | some y => asIdx (av e s y)) fun h =>
            guard (leB h x.length && leB l h.toNat) (match lo, hi with
              | none, none => K (.one (.own r))
              | _, _ => K (.one (.view r l.toNat h.toNat))))
          | _ => none)
        | _ => none)
      | .str => (match av e s x with
        | .dat u x => bnd (cast u .str x) fun x => bnd (match hi with | none => some ((List.length (α := UInt8) x : Nat) : Int) | some y => asIdx (av e s y)) fun h =>
            guard (leB h (List.length (α := UInt8) x) && leB l h.toNat) (K (.one (.dat .str ((List.take (α := UInt8) h.toNat x).drop l.toNat))))
        | _ => none)
      | .arr n t => bnd (match hi with | none => some ((n : Nat) : Int) | some y => asIdx (av e s y)) fun h => guard (leB h n && leB l h.toNat && inB l n) (match av e s x with
        | .ptr r none _ => (match s.mem[r]? with
          | some (.blk [u] _) => guard (same u (.arr n t)) (K (.one (.aview r 0 [] l.toNat h.toNat)))
          | _ => none)
        | .ptr r (some k) p => guard (isT s.mem (.ptr r (some k) p) (.arr n t)) (K (.one (.aview r k p l.toNat h.toNat)))
        | .rptr u x => bnd (cast u (.arr n t) x) fun x => K (.one (.dat (.sl t) ((List.take (α := D t) h.toNat x).drop l.toNat)))
        | _ => none)
      | _ => none))
  | .call c => (match c.callee with
    | .builtin .len => (match c.args.toList, c.argTypes.toList with
      | [x], [T] => bnd (e.T T) fun i => (match av e s x with
        | .dat u x => bnd (cast u i.t x) fun x => (match i.t, x with
          | .sl t, x => K (.one (.dat (.int .i64) ((List.length (α := D t) x : Nat) : Int)))
          | .str, x => K (.one (.dat (.int .i64) ((List.length (α := UInt8) x : Nat) : Int)))
          | .arr n _, _ => K (.one (.dat (.int .i64) ((n : Nat) : Int)))
          | _, _ => none)
        | .nil => (match i.t with | .sl _ => K (.one (.dat (.int .i64) (0 : Int))) | _ => none)
        | .own r => (match i.t, s.mem[r]? with
          | .sl _, some (.sl _ l) => K (.one (.dat (.int .i64) ((l.length : Nat) : Int)))
          | _, _ => none)
        | .view _ lo hi => (match i.t with | .sl _ => K (.one (.dat (.int .i64) ((hi - lo : Nat) : Int))) | _ => none)
        | .aview _ _ _ lo hi => (match i.t with | .sl _ => K (.one (.dat (.int .i64) ((hi - lo : Nat) : Int))) | _ => none)
        | _ => none)
      | _, _ => none)
    | .builtin .min => (match c.args.toList with
      | [x, y] => bnd (asInt' (av e s x)) fun i => bnd (asInt' (av e s y)) fun j => bnd (cast (.int j.k) (.int i.k) j.x) fun y => K (.one (.dat (.int i.k) (match ltK i.k y i.x with | true => y | false => i.x)))
      | _ => none)
    | .builtin .max => (match c.args.toList with
      | [x, y] => bnd (asInt' (av e s x)) fun i => bnd (asInt' (av e s y)) fun j => bnd (cast (.int j.k) (.int i.k) j.x) fun y => K (.one (.dat (.int i.k) (match ltK i.k i.x y with | true => y | false => i.x)))
      | _ => none)
    | _ => none)
  | _ => none
end Go.Proofs.Ytpfoeeiacfadfaa.Q
/-
  Each operation that hangs on no world yields what is reckoned for it.
-/
namespace Go.Proofs.Ytpfoeeiacfadfaa.Q
open Go.RowKit

/-- What the program says of a type, and what is said of it here. -/
structure TIok (P : Program) (T : TypeId) (i : TI) : Prop where
  ef : EF P T i.t
  un : match i.t with
    | .int k => P.underlying T = some (.int k)
    | .bool => P.underlying T = some .bool
    | .str => P.underlying T = some .string
    | .sl t => P.underlying T = some (.slice i.E) ∧ EF P i.E t ∧ 0 < z t ∧ (match t with | .int k => P.underlying i.E = some (.int k) | _ => True)
    | .arr n t => P.underlying T = some (.array n i.E) ∧ EF P i.E t ∧ 0 < z t
    | .opq _ => True
    | t => ∃ fs, P.underlying T = some (.struct fs) ∧ fs.size = i.fts.length ∧ t = (match i.fts with | [u] => .pair u .unit | l => stru l) ∧ ∀ k u, i.fts[k]? = some u → ∃ f, fs[k]? = some f ∧ f.offset = fo i.fts k ∧ EF P f.type u ∧ 0 < z u
/-- What a value that is told stands for: one, or several. -/
def SVR (F : Nat → Prop) (w : World) (mem : List Cn) (L : List Res) : SV → Value → Prop
  | .one a, v => AVR F w mem L a v
  | .tup l, v => ∃ vs, v = .tuple (List.toArray vs) ∧ All2 (AVR F w mem L) l vs
/-- The slots are as they are told. -/
def FrR (e : Env) (F : Nat → Prop) (w : World) (mem : List Cn) (L : List Res) (fr : List (Nat × SV)) (vs : List (Nat × Value)) : Prop :=
  ∀ k, SVR F w mem L (lks fr k) (ev e.N vs (.tmp k))
def GR (e : Env) (F : Nat → Prop) (w : World) (mem : List Cn) (L : List Res) : Prop := ∀ g x, e.G g = some x → AVR F w mem L (.rptr x.t x.x) (.pointer (some ⟨g, 0, none⟩))

theorem mkV_int {k : IntKind} {v : Value} {cs : List Value} {S : Nat → Prop} {w : World} {x : D (.int k)} (h : v = mkV (.int k) cs) (h2 : RC S w (.int k) cs x) : v = .int k (toI k x) := by
  rw [h, show cs = _ from h2]; rfl
section
variable {P : Program} {e : Env} {F : Nat → Prop} {w : World} {mem : List Cn} {L : List Res}
theorem avr_int {k : IntKind} {x : IK k} {v : Value} : AVR F w mem L (.dat (.int k) x) v ↔ v = .int k (toI k x) :=
  ⟨fun ⟨_, h1, h2⟩ => mkV_int h1 h2, fun h => ⟨[.int k (toI k x)], h, rfl⟩⟩
theorem avr_bool {x : Bool} {v : Value} : AVR F w mem L (.dat .bool x) v ↔ v = .bool x :=
  ⟨fun ⟨cs, h1, h2⟩ => by rw [h1, show cs = _ from h2]; rfl, fun h => ⟨[.bool x], h, rfl⟩⟩
theorem avr_str {x : List UInt8} {v : Value} : AVR F w mem L (.dat .str x) v ↔ v = .string ⟨x.toArray⟩ :=
  ⟨fun ⟨cs, h1, h2⟩ => by rw [h1, show cs = _ from h2]; rfl, fun h => ⟨[.string ⟨x.toArray⟩], h, rfl⟩⟩
theorem avr_sl {t : Ty} {x : List (D t)} {v : Value} (h : AVR F w mem L (.dat (.sl t) x) v) : ∃ ao cap ics, v = .slice ao x.length cap ∧ x.length ≤ cap ∧ (ao = none → cap = 0) ∧ (∀ a, ao = some a → ∀ j u, ics[j]? = some u → w.cell? (a.add j) = some u ∧ SF F L w a.block) ∧ RL (SF F L w) w t ics x := by
  obtain ⟨cs, h1, ao, cap, ics, rfl, h2, h3, h4, h5⟩ := h
  exact ⟨ao, cap, ics, h1, h2, h3, h4, h5⟩
theorem avr_arr {n : Nat} {t : Ty} {x : List (D t)} {v : Value} (h : AVR F w mem L (.dat (.arr n t) x) v) : ∃ cs, v = .agg cs.toArray ∧ x.length = n ∧ RL (SF F L w) w t cs x := by
  obtain ⟨cs, h1, h2⟩ := h
  exact ⟨cs, h1, h2.1, h2.2⟩
theorem cav_r (v : Value) : AVR F w mem L (cAV v) v := by
  cases v with
  | int k n =>
    unfold cAV
    dsimp only
    split
    · rename_i h
      exact avr_int.2 (by rw [of_decide_eq_true h])
    · trivial
  | bool b => exact avr_bool.2 rfl
  | string s => exact avr_str.2 (by simp)
  | slice a l c =>
    unfold cAV
    split
    · rename_i h; cases h
    · rename_i h; cases h
    · rename_i h; cases h
    · rename_i h; exact h
    · trivial
  | _ => trivial
variable {s : St} {vs : List (Nat × Value)}
theorem opd_r (hf : FrR e F w s.mem L s.fr vs) (hG : GR e F w s.mem L) (x : Operand) : SVR F w s.mem L (opd e s x) (ev e.N vs x) := by
  cases x with
  | tmp k => exact hf k
  | const v => exact cav_r v
  | global g =>
    cases h : e.G g with
    | none => simp only [opd, h]; trivial
    | some x => simp only [opd, h]; exact hG g x h
  | func f => rfl
theorem one_r {sv : SV} {v : Value} (h : SVR F w mem L sv v) : AVR F w mem L (one sv) v := by
  cases sv with
  | one a => exact h
  | tup l => trivial
theorem av_r (hf : FrR e F w s.mem L s.fr vs) (hG : GR e F w s.mem L) (x : Operand) : AVR F w s.mem L (av e s x) (ev e.N vs x) := one_r (opd_r hf hG x)
theorem asBool_r {a : AV} {b : Bool} {v : Value} (h : asBool' a = some b) (hv : AVR F w mem L a v) : v = .bool b := by
  unfold asBool' at h
  split at h
  · split at h
    · obtain rfl := Option.some.inj h
      exact avr_bool.1 hv
    · cases h
  · cases h
theorem asInt_r {a : AV} {i : IV} {v : Value} (h : asInt' a = some i) (hv : AVR F w mem L a v) : v = .int i.k (toI i.k i.x) := by
  unfold asInt' at h
  split at h
  · split at h
    · obtain rfl := Option.some.inj h
      exact avr_int.1 hv
    · cases h
  · cases h
theorem asIdx_r {a : AV} {j : Int} {v : Value} (h : asIdx a = some j) (hv : AVR F w mem L a v) : ∃ k, v = .int k j := by
  unfold asIdx at h
  split at h
  · split at h
    · obtain rfl := Option.some.inj h
      exact ⟨_, avr_int.1 hv⟩
    · cases h
  · cases h
end

/-! Numbers. -/
theorem wrap_in : ∀ (k : IntKind) (z : Int), k.signed = true → inR k z = true → k.wrap z = z
  | .i8, z, _, h => (toI_ofI .i8 z h).symm
  | .i16, z, _, h => (toI_ofI .i16 z h).symm
  | .i32, z, _, h => (toI_ofI .i32 z h).symm
  | .i64, z, _, h => (toI_ofI .i64 z h).symm
theorem wa8 (x y : UInt8) : (((UInt8.add x y).toNat : Nat) : Int) = IntKind.u8.wrap (((x.toNat : Nat) : Int) + ((y.toNat : Nat) : Int)) := by
  rw [show (UInt8.add x y).toNat = (x.toNat + y.toNat) % 256 from UInt8.toNat_add x y]; simp [IntKind.wrap, IntKind.bits, IntKind.signed]
theorem ws8 (x y : UInt8) : (((UInt8.sub x y).toNat : Nat) : Int) = IntKind.u8.wrap (((x.toNat : Nat) : Int) - ((y.toNat : Nat) : Int)) := by
  have hx := x.toNat_lt
  have hy := y.toNat_lt
  rw [show (UInt8.sub x y).toNat = (256 - y.toNat + x.toNat) % 256 from UInt8.toNat_sub x y]; simp [IntKind.wrap, IntKind.bits, IntKind.signed]; omega
theorem wm8 (x y : UInt8) : (((UInt8.mul x y).toNat : Nat) : Int) = IntKind.u8.wrap (((x.toNat : Nat) : Int) * ((y.toNat : Nat) : Int)) := by
  rw [show (UInt8.mul x y).toNat = (x.toNat * y.toNat) % 256 from UInt8.toNat_mul x y]; simp [IntKind.wrap, IntKind.bits, IntKind.signed]
theorem wl8 (x y : UInt8) : decide (((x.toNat : Nat) : Int) < ((y.toNat : Nat) : Int)) = lt8 x y := by
  unfold lt8; rw [decide_eq_decide, UInt8.lt_iff_toNat_lt]; omega
theorem wle8 (x y : UInt8) : decide (((x.toNat : Nat) : Int) ≤ ((y.toNat : Nat) : Int)) = le8 x y := by
  unfold le8; rw [decide_eq_decide, UInt8.le_iff_toNat_le]; omega
theorem we8 (x y : UInt8) : eq8 x y = true ↔ x = y := by unfold eq8; rw [decide_eq_true_eq]
theorem wa16 (x y : UInt16) : (((UInt16.add x y).toNat : Nat) : Int) = IntKind.u16.wrap (((x.toNat : Nat) : Int) + ((y.toNat : Nat) : Int)) := by
  rw [show (UInt16.add x y).toNat = (x.toNat + y.toNat) % 65536 from UInt16.toNat_add x y]; simp [IntKind.wrap, IntKind.bits, IntKind.signed]
theorem ws16 (x y : UInt16) : (((UInt16.sub x y).toNat : Nat) : Int) = IntKind.u16.wrap (((x.toNat : Nat) : Int) - ((y.toNat : Nat) : Int)) := by
  have hx := x.toNat_lt
  have hy := y.toNat_lt
  rw [show (UInt16.sub x y).toNat = (65536 - y.toNat + x.toNat) % 65536 from UInt16.toNat_sub x y]; simp [IntKind.wrap, IntKind.bits, IntKind.signed]; omega
theorem wm16 (x y : UInt16) : (((UInt16.mul x y).toNat : Nat) : Int) = IntKind.u16.wrap (((x.toNat : Nat) : Int) * ((y.toNat : Nat) : Int)) := by
  rw [show (UInt16.mul x y).toNat = (x.toNat * y.toNat) % 65536 from UInt16.toNat_mul x y]; simp [IntKind.wrap, IntKind.bits, IntKind.signed]
theorem wl16 (x y : UInt16) : decide (((x.toNat : Nat) : Int) < ((y.toNat : Nat) : Int)) = lt16 x y := by
  unfold lt16; rw [decide_eq_decide, UInt16.lt_iff_toNat_lt]; omega
theorem wle16 (x y : UInt16) : decide (((x.toNat : Nat) : Int) ≤ ((y.toNat : Nat) : Int)) = le16 x y := by
  unfold le16; rw [decide_eq_decide, UInt16.le_iff_toNat_le]; omega
theorem we16 (x y : UInt16) : eq16 x y = true ↔ x = y := by unfold eq16; rw [decide_eq_true_eq]
theorem wa32 (x y : UInt32) : (((UInt32.add x y).toNat : Nat) : Int) = IntKind.u32.wrap (((x.toNat : Nat) : Int) + ((y.toNat : Nat) : Int)) := by
  rw [show (UInt32.add x y).toNat = (x.toNat + y.toNat) % 4294967296 from UInt32.toNat_add x y]; simp [IntKind.wrap, IntKind.bits, IntKind.signed]
theorem ws32 (x y : UInt32) : (((UInt32.sub x y).toNat : Nat) : Int) = IntKind.u32.wrap (((x.toNat : Nat) : Int) - ((y.toNat : Nat) : Int)) := by
  have hx := x.toNat_lt
  have hy := y.toNat_lt
  rw [show (UInt32.sub x y).toNat = (4294967296 - y.toNat + x.toNat) % 4294967296 from UInt32.toNat_sub x y]; simp [IntKind.wrap, IntKind.bits, IntKind.signed]; omega
theorem wm32 (x y : UInt32) : (((UInt32.mul x y).toNat : Nat) : Int) = IntKind.u32.wrap (((x.toNat : Nat) : Int) * ((y.toNat : Nat) : Int)) := by
  rw [show (UInt32.mul x y).toNat = (x.toNat * y.toNat) % 4294967296 from UInt32.toNat_mul x y]; simp [IntKind.wrap, IntKind.bits, IntKind.signed]
theorem wl32 (x y : UInt32) : decide (((x.toNat : Nat) : Int) < ((y.toNat : Nat) : Int)) = lt32 x y := by
  unfold lt32; rw [decide_eq_decide, UInt32.lt_iff_toNat_lt]; omega
theorem wle32 (x y : UInt32) : decide (((x.toNat : Nat) : Int) ≤ ((y.toNat : Nat) : Int)) = le32 x y := by
  unfold le32; rw [decide_eq_decide, UInt32.le_iff_toNat_le]; omega
theorem we32 (x y : UInt32) : eq32 x y = true ↔ x = y := by unfold eq32; rw [decide_eq_true_eq]
theorem wa64 (x y : UInt64) : (((UInt64.add x y).toNat : Nat) : Int) = IntKind.u64.wrap (((x.toNat : Nat) : Int) + ((y.toNat : Nat) : Int)) := by
  rw [show (UInt64.add x y).toNat = (x.toNat + y.toNat) % 18446744073709551616 from UInt64.toNat_add x y]; simp [IntKind.wrap, IntKind.bits, IntKind.signed]
theorem ws64 (x y : UInt64) : (((UInt64.sub x y).toNat : Nat) : Int) = IntKind.u64.wrap (((x.toNat : Nat) : Int) - ((y.toNat : Nat) : Int)) := by
  have hx := x.toNat_lt
  have hy := y.toNat_lt
  rw [show (UInt64.sub x y).toNat = (18446744073709551616 - y.toNat + x.toNat) % 18446744073709551616 from UInt64.toNat_sub x y]; simp [IntKind.wrap, IntKind.bits, IntKind.signed]; omega
theorem wm64 (x y : UInt64) : (((UInt64.mul x y).toNat : Nat) : Int) = IntKind.u64.wrap (((x.toNat : Nat) : Int) * ((y.toNat : Nat) : Int)) := by
  rw [show (UInt64.mul x y).toNat = (x.toNat * y.toNat) % 18446744073709551616 from UInt64.toNat_mul x y]; simp [IntKind.wrap, IntKind.bits, IntKind.signed]
theorem wl64 (x y : UInt64) : decide (((x.toNat : Nat) : Int) < ((y.toNat : Nat) : Int)) = lt64 x y := by
  unfold lt64; rw [decide_eq_decide, UInt64.lt_iff_toNat_lt]; omega
theorem wle64 (x y : UInt64) : decide (((x.toNat : Nat) : Int) ≤ ((y.toNat : Nat) : Int)) = le64 x y := by
  unfold le64; rw [decide_eq_decide, UInt64.le_iff_toNat_le]; omega
theorem we64 (x y : UInt64) : eq64 x y = true ↔ x = y := by unfold eq64; rw [decide_eq_true_eq]
theorem weZ (x y : Int) : eqZ x y = true ↔ x = y := by unfold eqZ; rw [decide_eq_true_eq]
theorem quo_nat (x y n : Nat) (hx : x < n) : ((x : Int).tdiv (y : Int)) % (n : Int) = ((x / y : Nat) : Int) := by
  rw [Int.tdiv_eq_ediv_of_nonneg (by omega)]
  have h1 : ((x : Int) / (y : Int)) = ((x / y : Nat) : Int) := rfl
  have h2 : x / y ≤ x := Nat.div_le_self _ _
  rw [h1]
  clear h1
  generalize x / y = q at *
  exact Int.emod_eq_of_lt (by omega) (by omega)
theorem rem_nat (x y : Nat) : ((x : Int).tmod (y : Int)) = ((x % y : Nat) : Int) := by
  rw [Int.tmod_eq_emod_of_nonneg (by omega)]; rfl
theorem wq8 (x y : UInt8) : (((UInt8.div x y).toNat : Nat) : Int) = IntKind.u8.wrap (((x.toNat : Nat) : Int).tdiv ((y.toNat : Nat) : Int)) := by
  rw [show (UInt8.div x y).toNat = x.toNat / y.toNat from UInt8.toNat_div x y]
  simp only [IntKind.wrap, IntKind.bits, IntKind.signed, Bool.false_and, Bool.false_eq_true, if_false]
  exact (quo_nat _ _ 256 x.toNat_lt).symm
theorem wr8 (x y : UInt8) : (((UInt8.mod x y).toNat : Nat) : Int) = ((x.toNat : Nat) : Int).tmod ((y.toNat : Nat) : Int) := by
  rw [show (UInt8.mod x y).toNat = x.toNat % y.toNat from UInt8.toNat_mod x y]; exact (rem_nat _ _).symm
theorem wq16 (x y : UInt16) : (((UInt16.div x y).toNat : Nat) : Int) = IntKind.u16.wrap (((x.toNat : Nat) : Int).tdiv ((y.toNat : Nat) : Int)) := by
  rw [show (UInt16.div x y).toNat = x.toNat / y.toNat from UInt16.toNat_div x y]
  simp only [IntKind.wrap, IntKind.bits, IntKind.signed, Bool.false_and, Bool.false_eq_true, if_false]
  exact (quo_nat _ _ 65536 x.toNat_lt).symm
theorem wr16 (x y : UInt16) : (((UInt16.mod x y).toNat : Nat) : Int) = ((x.toNat : Nat) : Int).tmod ((y.toNat : Nat) : Int) := by
  rw [show (UInt16.mod x y).toNat = x.toNat % y.toNat from UInt16.toNat_mod x y]; exact (rem_nat _ _).symm
theorem wq32 (x y : UInt32) : (((UInt32.div x y).toNat : Nat) : Int) = IntKind.u32.wrap (((x.toNat : Nat) : Int).tdiv ((y.toNat : Nat) : Int)) := by
  rw [show (UInt32.div x y).toNat = x.toNat / y.toNat from UInt32.toNat_div x y]
  simp only [IntKind.wrap, IntKind.bits, IntKind.signed, Bool.false_and, Bool.false_eq_true, if_false]
  exact (quo_nat _ _ 4294967296 x.toNat_lt).symm
theorem wr32 (x y : UInt32) : (((UInt32.mod x y).toNat : Nat) : Int) = ((x.toNat : Nat) : Int).tmod ((y.toNat : Nat) : Int) := by
  rw [show (UInt32.mod x y).toNat = x.toNat % y.toNat from UInt32.toNat_mod x y]; exact (rem_nat _ _).symm
theorem wq64 (x y : UInt64) : (((UInt64.div x y).toNat : Nat) : Int) = IntKind.u64.wrap (((x.toNat : Nat) : Int).tdiv ((y.toNat : Nat) : Int)) := by
  rw [show (UInt64.div x y).toNat = x.toNat / y.toNat from UInt64.toNat_div x y]
  simp only [IntKind.wrap, IntKind.bits, IntKind.signed, Bool.false_and, Bool.false_eq_true, if_false]
  exact (quo_nat _ _ 18446744073709551616 x.toNat_lt).symm
theorem wr64 (x y : UInt64) : (((UInt64.mod x y).toNat : Nat) : Int) = ((x.toNat : Nat) : Int).tmod ((y.toNat : Nat) : Int) := by
  rw [show (UInt64.mod x y).toNat = x.toNat % y.toNat from UInt64.toNat_mod x y]; exact (rem_nat _ _).symm
theorem addK_r : ∀ (k : IntKind) (x y : IK k), inR k (toI k x + toI k y) = true → toI k (addK k x y) = k.wrap (toI k x + toI k y)
  | .u8, x, y, _ => wa8 x y
  | .u16, x, y, _ => wa16 x y
  | .u32, x, y, _ => wa32 x y
  | .u64, x, y, _ => wa64 x y
  | .i8, _x, _y, h => (wrap_in .i8 _ rfl h).symm
  | .i16, _x, _y, h => (wrap_in .i16 _ rfl h).symm
  | .i32, _x, _y, h => (wrap_in .i32 _ rfl h).symm
  | .i64, _x, _y, h => (wrap_in .i64 _ rfl h).symm
theorem subK_r : ∀ (k : IntKind) (x y : IK k), inR k (toI k x - toI k y) = true → toI k (subK k x y) = k.wrap (toI k x - toI k y)
  | .u8, x, y, _ => ws8 x y
  | .u16, x, y, _ => ws16 x y
  | .u32, x, y, _ => ws32 x y
  | .u64, x, y, _ => ws64 x y
  | .i8, _x, _y, h => (wrap_in .i8 _ rfl h).symm
  | .i16, _x, _y, h => (wrap_in .i16 _ rfl h).symm
  | .i32, _x, _y, h => (wrap_in .i32 _ rfl h).symm
  | .i64, _x, _y, h => (wrap_in .i64 _ rfl h).symm
theorem mulK_r : ∀ (k : IntKind) (x y : IK k), inR k (toI k x * toI k y) = true → toI k (mulK k x y) = k.wrap (toI k x * toI k y)
  | .u8, x, y, _ => wm8 x y
  | .u16, x, y, _ => wm16 x y
  | .u32, x, y, _ => wm32 x y
  | .u64, x, y, _ => wm64 x y
  | .i8, _x, _y, h => (wrap_in .i8 _ rfl h).symm
  | .i16, _x, _y, h => (wrap_in .i16 _ rfl h).symm
  | .i32, _x, _y, h => (wrap_in .i32 _ rfl h).symm
  | .i64, _x, _y, h => (wrap_in .i64 _ rfl h).symm
theorem quoK_r : ∀ (k : IntKind) (x y : IK k), inR k ((toI k x).tdiv (toI k y)) = true → toI k (quoK k x y) = k.wrap ((toI k x).tdiv (toI k y))
  | .u8, x, y, _ => wq8 x y
  | .u16, x, y, _ => wq16 x y
  | .u32, x, y, _ => wq32 x y
  | .u64, x, y, _ => wq64 x y
  | .i8, _x, _y, h => (wrap_in .i8 _ rfl h).symm
  | .i16, _x, _y, h => (wrap_in .i16 _ rfl h).symm
  | .i32, _x, _y, h => (wrap_in .i32 _ rfl h).symm
  | .i64, _x, _y, h => (wrap_in .i64 _ rfl h).symm
theorem remK_r : ∀ (k : IntKind) (x y : IK k), toI k (remK k x y) = (toI k x).tmod (toI k y)
  | .u8, x, y => wr8 x y
  | .u16, x, y => wr16 x y
  | .u32, x, y => wr32 x y
  | .u64, x, y => wr64 x y
  | .i8, _, _ => rfl
  | .i16, _, _ => rfl
  | .i32, _, _ => rfl
  | .i64, _, _ => rfl
theorem ofI0 : ∀ k : IntKind, toI k (ofI k 0) = 0
  | .u8 => rfl | .u16 => rfl | .u32 => rfl | .u64 => rfl | .i8 => rfl | .i16 => rfl | .i32 => rfl | .i64 => rfl
theorem toI_inj : ∀ (k : IntKind) (x y : IK k), toI k x = toI k y ↔ x = y
  | .u8, x, y => ⟨fun h => UInt8.toNat_inj.1 (by have h : ((UInt8.toNat x : Nat) : Int) = ((UInt8.toNat y : Nat) : Int) := h; omega), fun h => by rw [h]⟩
  | .u16, x, y => ⟨fun h => UInt16.toNat_inj.1 (by have h : ((UInt16.toNat x : Nat) : Int) = ((UInt16.toNat y : Nat) : Int) := h; omega), fun h => by rw [h]⟩
  | .u32, x, y => ⟨fun h => UInt32.toNat_inj.1 (by have h : ((UInt32.toNat x : Nat) : Int) = ((UInt32.toNat y : Nat) : Int) := h; omega), fun h => by rw [h]⟩
  | .u64, x, y => ⟨fun h => UInt64.toNat_inj.1 (by have h : ((UInt64.toNat x : Nat) : Int) = ((UInt64.toNat y : Nat) : Int) := h; omega), fun h => by rw [h]⟩
  | .i8, x, y => Iff.rfl
  | .i16, x, y => Iff.rfl
  | .i32, x, y => Iff.rfl
  | .i64, x, y => Iff.rfl
theorem eqK_iff : ∀ (k : IntKind) (x y : IK k), eqK k x y = true ↔ x = y
  | .u8, x, y => we8 x y
  | .u16, x, y => we16 x y
  | .u32, x, y => we32 x y
  | .u64, x, y => we64 x y
  | .i8, x, y => weZ x y
  | .i16, x, y => weZ x y
  | .i32, x, y => weZ x y
  | .i64, x, y => weZ x y
theorem eqK_r (k : IntKind) (x y : IK k) : (toI k x == toI k y) = eqK k x y := by
  rw [Bool.eq_iff_iff, beq_iff_eq, toI_inj, eqK_iff]
theorem ltK_r : ∀ (k : IntKind) (x y : IK k), decide (toI k x < toI k y) = ltK k x y
  | .u8, x, y => wl8 x y
  | .u16, x, y => wl16 x y
  | .u32, x, y => wl32 x y
  | .u64, x, y => wl64 x y
  | .i8, _, _ => rfl
  | .i16, _, _ => rfl
  | .i32, _, _ => rfl
  | .i64, _, _ => rfl
theorem leK_r : ∀ (k : IntKind) (x y : IK k), decide (toI k x ≤ toI k y) = leK k x y
  | .u8, x, y => wle8 x y
  | .u16, x, y => wle16 x y
  | .u32, x, y => wle32 x y
  | .u64, x, y => wle64 x y
  | .i8, _, _ => rfl
  | .i16, _, _ => rfl
  | .i32, _, _ => rfl
  | .i64, _, _ => rfl
end Go.Proofs.Ytpfoeeiacfadfaa.Q
/-
  Bits, shifts; whether two data are alike; what lies in a part of a value.
-/
namespace Go.Proofs.Ytpfoeeiacfadfaa.Q
open Go.RowKit

theorem wrapU (k : IntKind) (hk : k.signed = false) (n : Nat) (h : n < 2 ^ k.bits) : k.wrap ((n : Nat) : Int) = (n : Int) := by
  unfold IntKind.wrap
  simp only [hk, Bool.false_and, Bool.false_eq_true, if_false]
  have e : ((2 : Int) ^ k.bits) = ((2 ^ k.bits : Nat) : Int) := by simp [Int.natCast_pow]
  rw [e]
  exact Int.emod_eq_of_lt (by omega) (by omega)
theorem wrapM (k : IntKind) (hk : k.signed = false) (n : Nat) : k.wrap ((n : Nat) : Int) = ((n % 2 ^ k.bits : Nat) : Int) := by
  unfold IntKind.wrap
  simp only [hk, Bool.false_and, Bool.false_eq_true, if_false]
  have e : ((2 : Int) ^ k.bits) = ((2 ^ k.bits : Nat) : Int) := by simp [Int.natCast_pow]
  rw [e]
  exact (Int.natCast_emod _ _).symm
theorem wv8 (x : UInt8) : BitVec.ofInt 8 ((x.toNat : Nat) : Int) = x.toBitVec := by
  apply BitVec.eq_of_toNat_eq
  rw [BitVec.toNat_ofInt]
  have := x.toNat_lt
  show (((x.toNat : Nat) : Int) % 256).toNat = x.toNat
  omega
theorem wand8 (x y : UInt8) : (((UInt8.land x y).toNat : Nat) : Int) = IntKind.wrap .u8 (((BitVec.ofInt 8 ((x.toNat : Nat) : Int) &&& BitVec.ofInt 8 ((y.toNat : Nat) : Int)).toNat : Nat) : Int) := by
  rw [wv8, wv8]; exact (wrapU .u8 rfl _ (x.toBitVec &&& y.toBitVec).isLt).symm
theorem wor8 (x y : UInt8) : (((UInt8.lor x y).toNat : Nat) : Int) = IntKind.wrap .u8 (((BitVec.ofInt 8 ((x.toNat : Nat) : Int) ||| BitVec.ofInt 8 ((y.toNat : Nat) : Int)).toNat : Nat) : Int) := by
  rw [wv8, wv8]; exact (wrapU .u8 rfl _ (x.toBitVec ||| y.toBitVec).isLt).symm
theorem wxor8 (x y : UInt8) : (((UInt8.xor x y).toNat : Nat) : Int) = IntKind.wrap .u8 (((BitVec.ofInt 8 ((x.toNat : Nat) : Int) ^^^ BitVec.ofInt 8 ((y.toNat : Nat) : Int)).toNat : Nat) : Int) := by
  rw [wv8, wv8]; exact (wrapU .u8 rfl _ (x.toBitVec ^^^ y.toBitVec).isLt).symm
theorem wano8 (x y : UInt8) : (((UInt8.land x (UInt8.complement y)).toNat : Nat) : Int) = IntKind.wrap .u8 (((BitVec.ofInt 8 ((x.toNat : Nat) : Int) &&& ~~~ BitVec.ofInt 8 ((y.toNat : Nat) : Int)).toNat : Nat) : Int) := by
  rw [wv8, wv8]; exact (wrapU .u8 rfl _ (x.toBitVec &&& ~~~y.toBitVec).isLt).symm
theorem wshl8 (x : UInt8) (m : Nat) : (((UInt8.ofNat (x.toNat * 2 ^ m)).toNat : Nat) : Int) = IntKind.wrap .u8 (((x.toNat : Nat) : Int) * 2 ^ m) := by
  rw [show ((x.toNat : Nat) : Int) * 2 ^ m = ((x.toNat * 2 ^ m : Nat) : Int) by simp, wrapM .u8 rfl, UInt8.toNat_ofNat']; rfl
theorem wshr8 (x : UInt8) (m : Nat) : (((UInt8.ofNat (x.toNat / 2 ^ m)).toNat : Nat) : Int) = ((x.toNat : Nat) : Int).fdiv (2 ^ m) := by
  have e : ((2 : Int) ^ m) = ((2 ^ m : Nat) : Int) := by simp [Int.natCast_pow]
  have h := x.toNat_lt
  have h2 : x.toNat / 2 ^ m ≤ x.toNat := Nat.div_le_self _ _
  rw [e, Int.fdiv_eq_ediv_of_nonneg _ (Int.natCast_nonneg _), UInt8.toNat_ofNat_of_lt' (Nat.lt_of_le_of_lt h2 h)]; rfl
theorem wv16 (x : UInt16) : BitVec.ofInt 16 ((x.toNat : Nat) : Int) = x.toBitVec := by
  apply BitVec.eq_of_toNat_eq
  rw [BitVec.toNat_ofInt]
  have := x.toNat_lt
  show (((x.toNat : Nat) : Int) % 65536).toNat = x.toNat
  omega
theorem wand16 (x y : UInt16) : (((UInt16.land x y).toNat : Nat) : Int) = IntKind.wrap .u16 (((BitVec.ofInt 16 ((x.toNat : Nat) : Int) &&& BitVec.ofInt 16 ((y.toNat : Nat) : Int)).toNat : Nat) : Int) := by
  rw [wv16, wv16]; exact (wrapU .u16 rfl _ (x.toBitVec &&& y.toBitVec).isLt).symm
theorem wor16 (x y : UInt16) : (((UInt16.lor x y).toNat : Nat) : Int) = IntKind.wrap .u16 (((BitVec.ofInt 16 ((x.toNat : Nat) : Int) ||| BitVec.ofInt 16 ((y.toNat : Nat) : Int)).toNat : Nat) : Int) := by
  rw [wv16, wv16]; exact (wrapU .u16 rfl _ (x.toBitVec ||| y.toBitVec).isLt).symm
theorem wxor16 (x y : UInt16) : (((UInt16.xor x y).toNat : Nat) : Int) = IntKind.wrap .u16 (((BitVec.ofInt 16 ((x.toNat : Nat) : Int) ^^^ BitVec.ofInt 16 ((y.toNat : Nat) : Int)).toNat : Nat) : Int) := by
  rw [wv16, wv16]; exact (wrapU .u16 rfl _ (x.toBitVec ^^^ y.toBitVec).isLt).symm
theorem wano16 (x y : UInt16) : (((UInt16.land x (UInt16.complement y)).toNat : Nat) : Int) = IntKind.wrap .u16 (((BitVec.ofInt 16 ((x.toNat : Nat) : Int) &&& ~~~ BitVec.ofInt 16 ((y.toNat : Nat) : Int)).toNat : Nat) : Int) := by
  rw [wv16, wv16]; exact (wrapU .u16 rfl _ (x.toBitVec &&& ~~~y.toBitVec).isLt).symm
theorem wshl16 (x : UInt16) (m : Nat) : (((UInt16.ofNat (x.toNat * 2 ^ m)).toNat : Nat) : Int) = IntKind.wrap .u16 (((x.toNat : Nat) : Int) * 2 ^ m) := by
  rw [show ((x.toNat : Nat) : Int) * 2 ^ m = ((x.toNat * 2 ^ m : Nat) : Int) by simp, wrapM .u16 rfl, UInt16.toNat_ofNat']; rfl
theorem wshr16 (x : UInt16) (m : Nat) : (((UInt16.ofNat (x.toNat / 2 ^ m)).toNat : Nat) : Int) = ((x.toNat : Nat) : Int).fdiv (2 ^ m) := by
  have e : ((2 : Int) ^ m) = ((2 ^ m : Nat) : Int) := by simp [Int.natCast_pow]
  have h := x.toNat_lt
  have h2 : x.toNat / 2 ^ m ≤ x.toNat := Nat.div_le_self _ _
  rw [e, Int.fdiv_eq_ediv_of_nonneg _ (Int.natCast_nonneg _), UInt16.toNat_ofNat_of_lt' (Nat.lt_of_le_of_lt h2 h)]; rfl
theorem wv32 (x : UInt32) : BitVec.ofInt 32 ((x.toNat : Nat) : Int) = x.toBitVec := by
  apply BitVec.eq_of_toNat_eq
  rw [BitVec.toNat_ofInt]
  have := x.toNat_lt
  show (((x.toNat : Nat) : Int) % 4294967296).toNat = x.toNat
  omega
theorem wand32 (x y : UInt32) : (((UInt32.land x y).toNat : Nat) : Int) = IntKind.wrap .u32 (((BitVec.ofInt 32 ((x.toNat : Nat) : Int) &&& BitVec.ofInt 32 ((y.toNat : Nat) : Int)).toNat : Nat) : Int) := by
  rw [wv32, wv32]; exact (wrapU .u32 rfl _ (x.toBitVec &&& y.toBitVec).isLt).symm
theorem wor32 (x y : UInt32) : (((UInt32.lor x y).toNat : Nat) : Int) = IntKind.wrap .u32 (((BitVec.ofInt 32 ((x.toNat : Nat) : Int) ||| BitVec.ofInt 32 ((y.toNat : Nat) : Int)).toNat : Nat) : Int) := by
  rw [wv32, wv32]; exact (wrapU .u32 rfl _ (x.toBitVec ||| y.toBitVec).isLt).symm
theorem wxor32 (x y : UInt32) : (((UInt32.xor x y).toNat : Nat) : Int) = IntKind.wrap .u32 (((BitVec.ofInt 32 ((x.toNat : Nat) : Int) ^^^ BitVec.ofInt 32 ((y.toNat : Nat) : Int)).toNat : Nat) : Int) := by
  rw [wv32, wv32]; exact (wrapU .u32 rfl _ (x.toBitVec ^^^ y.toBitVec).isLt).symm
theorem wano32 (x y : UInt32) : (((UInt32.land x (UInt32.complement y)).toNat : Nat) : Int) = IntKind.wrap .u32 (((BitVec.ofInt 32 ((x.toNat : Nat) : Int) &&& ~~~ BitVec.ofInt 32 ((y.toNat : Nat) : Int)).toNat : Nat) : Int) := by
  rw [wv32, wv32]; exact (wrapU .u32 rfl _ (x.toBitVec &&& ~~~y.toBitVec).isLt).symm
theorem wshl32 (x : UInt32) (m : Nat) : (((UInt32.ofNat (x.toNat * 2 ^ m)).toNat : Nat) : Int) = IntKind.wrap .u32 (((x.toNat : Nat) : Int) * 2 ^ m) := by
  rw [show ((x.toNat : Nat) : Int) * 2 ^ m = ((x.toNat * 2 ^ m : Nat) : Int) by simp, wrapM .u32 rfl, UInt32.toNat_ofNat']; rfl
theorem wshr32 (x : UInt32) (m : Nat) : (((UInt32.ofNat (x.toNat / 2 ^ m)).toNat : Nat) : Int) = ((x.toNat : Nat) : Int).fdiv (2 ^ m) := by
  have e : ((2 : Int) ^ m) = ((2 ^ m : Nat) : Int) := by simp [Int.natCast_pow]
  have h := x.toNat_lt
  have h2 : x.toNat / 2 ^ m ≤ x.toNat := Nat.div_le_self _ _
  rw [e, Int.fdiv_eq_ediv_of_nonneg _ (Int.natCast_nonneg _), UInt32.toNat_ofNat_of_lt' (Nat.lt_of_le_of_lt h2 h)]; rfl
theorem wv64 (x : UInt64) : BitVec.ofInt 64 ((x.toNat : Nat) : Int) = x.toBitVec := by
  apply BitVec.eq_of_toNat_eq
  rw [BitVec.toNat_ofInt]
  have := x.toNat_lt
  show (((x.toNat : Nat) : Int) % 18446744073709551616).toNat = x.toNat
  omega
theorem wand64 (x y : UInt64) : (((UInt64.land x y).toNat : Nat) : Int) = IntKind.wrap .u64 (((BitVec.ofInt 64 ((x.toNat : Nat) : Int) &&& BitVec.ofInt 64 ((y.toNat : Nat) : Int)).toNat : Nat) : Int) := by
  rw [wv64, wv64]; exact (wrapU .u64 rfl _ (x.toBitVec &&& y.toBitVec).isLt).symm
theorem wor64 (x y : UInt64) : (((UInt64.lor x y).toNat : Nat) : Int) = IntKind.wrap .u64 (((BitVec.ofInt 64 ((x.toNat : Nat) : Int) ||| BitVec.ofInt 64 ((y.toNat : Nat) : Int)).toNat : Nat) : Int) := by
  rw [wv64, wv64]; exact (wrapU .u64 rfl _ (x.toBitVec ||| y.toBitVec).isLt).symm
theorem wxor64 (x y : UInt64) : (((UInt64.xor x y).toNat : Nat) : Int) = IntKind.wrap .u64 (((BitVec.ofInt 64 ((x.toNat : Nat) : Int) ^^^ BitVec.ofInt 64 ((y.toNat : Nat) : Int)).toNat : Nat) : Int) := by
  rw [wv64, wv64]; exact (wrapU .u64 rfl _ (x.toBitVec ^^^ y.toBitVec).isLt).symm
theorem wano64 (x y : UInt64) : (((UInt64.land x (UInt64.complement y)).toNat : Nat) : Int) = IntKind.wrap .u64 (((BitVec.ofInt 64 ((x.toNat : Nat) : Int) &&& ~~~ BitVec.ofInt 64 ((y.toNat : Nat) : Int)).toNat : Nat) : Int) := by
  rw [wv64, wv64]; exact (wrapU .u64 rfl _ (x.toBitVec &&& ~~~y.toBitVec).isLt).symm
theorem wshl64 (x : UInt64) (m : Nat) : (((UInt64.ofNat (x.toNat * 2 ^ m)).toNat : Nat) : Int) = IntKind.wrap .u64 (((x.toNat : Nat) : Int) * 2 ^ m) := by
  rw [show ((x.toNat : Nat) : Int) * 2 ^ m = ((x.toNat * 2 ^ m : Nat) : Int) by simp, wrapM .u64 rfl, UInt64.toNat_ofNat']; rfl
theorem wshr64 (x : UInt64) (m : Nat) : (((UInt64.ofNat (x.toNat / 2 ^ m)).toNat : Nat) : Int) = ((x.toNat : Nat) : Int).fdiv (2 ^ m) := by
  have e : ((2 : Int) ^ m) = ((2 ^ m : Nat) : Int) := by simp [Int.natCast_pow]
  have h := x.toNat_lt
  have h2 : x.toNat / 2 ^ m ≤ x.toNat := Nat.div_le_self _ _
  rw [e, Int.fdiv_eq_ediv_of_nonneg _ (Int.natCast_nonneg _), UInt64.toNat_ofNat_of_lt' (Nat.lt_of_le_of_lt h2 h)]; rfl
theorem andK_r : ∀ (k : IntKind) (x y : IK k), toI k (andK k x y) = k.wrap (((BitVec.ofInt k.bits (toI k x) &&& BitVec.ofInt k.bits (toI k y)).toNat : Nat) : Int)
  | .u8, x, y => (congrArg (toI .u8) (hide_eq _)).trans (wand8 x y)
  | .u16, x, y => (congrArg (toI .u16) (hide_eq _)).trans (wand16 x y)
  | .u32, x, y => (congrArg (toI .u32) (hide_eq _)).trans (wand32 x y)
  | .u64, x, y => (congrArg (toI .u64) (hide_eq _)).trans (wand64 x y)
  | .i8, _, _ => rfl
  | .i16, _, _ => rfl
  | .i32, _, _ => rfl
  | .i64, _, _ => rfl
theorem orK_r : ∀ (k : IntKind) (x y : IK k), toI k (orK k x y) = k.wrap (((BitVec.ofInt k.bits (toI k x) ||| BitVec.ofInt k.bits (toI k y)).toNat : Nat) : Int)
  | .u8, x, y => (congrArg (toI .u8) (hide_eq _)).trans (wor8 x y)
  | .u16, x, y => (congrArg (toI .u16) (hide_eq _)).trans (wor16 x y)
  | .u32, x, y => (congrArg (toI .u32) (hide_eq _)).trans (wor32 x y)
  | .u64, x, y => (congrArg (toI .u64) (hide_eq _)).trans (wor64 x y)
  | .i8, _, _ => rfl
  | .i16, _, _ => rfl
  | .i32, _, _ => rfl
  | .i64, _, _ => rfl
theorem xorK_r : ∀ (k : IntKind) (x y : IK k), toI k (xorK k x y) = k.wrap (((BitVec.ofInt k.bits (toI k x) ^^^ BitVec.ofInt k.bits (toI k y)).toNat : Nat) : Int)
  | .u8, x, y => (congrArg (toI .u8) (hide_eq _)).trans (wxor8 x y)
  | .u16, x, y => (congrArg (toI .u16) (hide_eq _)).trans (wxor16 x y)
  | .u32, x, y => (congrArg (toI .u32) (hide_eq _)).trans (wxor32 x y)
  | .u64, x, y => (congrArg (toI .u64) (hide_eq _)).trans (wxor64 x y)
  | .i8, _, _ => rfl
  | .i16, _, _ => rfl
  | .i32, _, _ => rfl
  | .i64, _, _ => rfl
theorem anoK_r : ∀ (k : IntKind) (x y : IK k), toI k (anoK k x y) = k.wrap (((BitVec.ofInt k.bits (toI k x) &&& ~~~ BitVec.ofInt k.bits (toI k y)).toNat : Nat) : Int)
  | .u8, x, y => (congrArg (toI .u8) (hide_eq _)).trans (wano8 x y)
  | .u16, x, y => (congrArg (toI .u16) (hide_eq _)).trans (wano16 x y)
  | .u32, x, y => (congrArg (toI .u32) (hide_eq _)).trans (wano32 x y)
  | .u64, x, y => (congrArg (toI .u64) (hide_eq _)).trans (wano64 x y)
  | .i8, _, _ => rfl
  | .i16, _, _ => rfl
  | .i32, _, _ => rfl
  | .i64, _, _ => rfl
theorem shlK_r : ∀ (k : IntKind) (x : IK k) (n : Nat), inR k (toI k x * 2 ^ min n k.bits) = true → toI k (shlK k x n) = k.wrap (toI k x * 2 ^ min n k.bits)
  | .u8, x, _, _ => wshl8 x _
  | .u16, x, _, _ => wshl16 x _
  | .u32, x, _, _ => wshl32 x _
  | .u64, x, _, _ => wshl64 x _
  | .i8, _, _, h => (wrap_in .i8 _ rfl h).symm
  | .i16, _, _, h => (wrap_in .i16 _ rfl h).symm
  | .i32, _, _, h => (wrap_in .i32 _ rfl h).symm
  | .i64, _, _, h => (wrap_in .i64 _ rfl h).symm
theorem shrK_r : ∀ (k : IntKind) (x : IK k) (n : Nat), toI k (shrK k x n) = (toI k x).fdiv (2 ^ min n k.bits)
  | .u8, x, _ => wshr8 x _
  | .u16, x, _ => wshr16 x _
  | .u32, x, _ => wshr32 x _
  | .u64, x, _ => wshr64 x _
  | .i8, _, _ => rfl
  | .i16, _, _ => rfl
  | .i32, _, _ => rfl
  | .i64, _, _ => rfl
theorem wcv8_32 (x : UInt8) : (((UInt8.toUInt32 x).toNat : Nat) : Int) = IntKind.wrap .u32 ((x.toNat : Nat) : Int) := by
  rw [wrapM .u32 rfl]
  have h := x.toNat_lt
  show ((_ : Nat) : Int) = ((x.toNat % 4294967296 : Nat) : Int)
  first
    | rw [show (UInt8.toUInt32 x).toNat = x.toNat from rfl]; omega
    | rw [show (UInt8.toUInt32 x).toNat = x.toNat % 4294967296 from rfl]
    | (simp; try omega)
theorem wcv8_64 (x : UInt8) : (((UInt8.toUInt64 x).toNat : Nat) : Int) = IntKind.wrap .u64 ((x.toNat : Nat) : Int) := by
  rw [wrapM .u64 rfl]
  have h := x.toNat_lt
  show ((_ : Nat) : Int) = ((x.toNat % 18446744073709551616 : Nat) : Int)
  first
    | rw [show (UInt8.toUInt64 x).toNat = x.toNat from rfl]; omega
    | rw [show (UInt8.toUInt64 x).toNat = x.toNat % 18446744073709551616 from rfl]
    | (simp; try omega)
theorem wcv32_64 (x : UInt32) : (((UInt32.toUInt64 x).toNat : Nat) : Int) = IntKind.wrap .u64 ((x.toNat : Nat) : Int) := by
  rw [wrapM .u64 rfl]
  have h := x.toNat_lt
  show ((_ : Nat) : Int) = ((x.toNat % 18446744073709551616 : Nat) : Int)
  first
    | rw [show (UInt32.toUInt64 x).toNat = x.toNat from rfl]; omega
    | rw [show (UInt32.toUInt64 x).toNat = x.toNat % 18446744073709551616 from rfl]
    | (simp; try omega)
theorem wcv32_8 (x : UInt32) : (((UInt32.toUInt8 x).toNat : Nat) : Int) = IntKind.wrap .u8 ((x.toNat : Nat) : Int) := by
  rw [wrapM .u8 rfl]
  have h := x.toNat_lt
  show ((_ : Nat) : Int) = ((x.toNat % 256 : Nat) : Int)
  first
    | rw [show (UInt32.toUInt8 x).toNat = x.toNat from rfl]; omega
    | rw [show (UInt32.toUInt8 x).toNat = x.toNat % 256 from rfl]
    | (simp; try omega)
theorem wcv64_8 (x : UInt64) : (((UInt64.toUInt8 x).toNat : Nat) : Int) = IntKind.wrap .u8 ((x.toNat : Nat) : Int) := by
  rw [wrapM .u8 rfl]
  have h := x.toNat_lt
  show ((_ : Nat) : Int) = ((x.toNat % 256 : Nat) : Int)
  first
    | rw [show (UInt64.toUInt8 x).toNat = x.toNat from rfl]; omega
    | rw [show (UInt64.toUInt8 x).toNat = x.toNat % 256 from rfl]
    | (simp; try omega)
theorem wcv64_32 (x : UInt64) : (((UInt64.toUInt32 x).toNat : Nat) : Int) = IntKind.wrap .u32 ((x.toNat : Nat) : Int) := by
  rw [wrapM .u32 rfl]
  have h := x.toNat_lt
  show ((_ : Nat) : Int) = ((x.toNat % 4294967296 : Nat) : Int)
  first
    | rw [show (UInt64.toUInt32 x).toNat = x.toNat from rfl]; omega
    | rw [show (UInt64.toUInt32 x).toNat = x.toNat % 4294967296 from rfl]
    | (simp; try omega)
theorem wcvs8 (x : UInt8) : ((x.toNat : Nat) : Int) = IntKind.wrap .u8 ((x.toNat : Nat) : Int) := (wrapU .u8 rfl _ x.toNat_lt).symm
theorem wcvs32 (x : UInt32) : ((x.toNat : Nat) : Int) = IntKind.wrap .u32 ((x.toNat : Nat) : Int) := (wrapU .u32 rfl _ x.toNat_lt).symm
theorem wcvs64 (x : UInt64) : ((x.toNat : Nat) : Int) = IntKind.wrap .u64 ((x.toNat : Nat) : Int) := (wrapU .u64 rfl _ x.toNat_lt).symm
theorem cvK_u8 (x : IK .u8) : ∀ k : IntKind, inR k (toI .u8 x) = true → toI k (cvK .u8 k x) = k.wrap (toI .u8 x) := by
  intro k h
  cases k
  case i8 => exact toI_ofI .i8 _ h
  case i16 => exact toI_ofI .i16 _ h
  case i32 => exact toI_ofI .i32 _ h
  case i64 => exact toI_ofI .i64 _ h
  case u8 => exact wcvs8 x
  case u16 => exact toI_ofI .u16 _ h
  case u32 => exact wcv8_32 x
  case u64 => exact wcv8_64 x
theorem cvK_u16 (x : IK .u16) : ∀ k : IntKind, inR k (toI .u16 x) = true → toI k (cvK .u16 k x) = k.wrap (toI .u16 x) := by
  intro k h
  cases k
  case i8 => exact toI_ofI .i8 _ h
  case i16 => exact toI_ofI .i16 _ h
  case i32 => exact toI_ofI .i32 _ h
  case i64 => exact toI_ofI .i64 _ h
  case u8 => exact toI_ofI .u8 _ h
  case u16 => exact toI_ofI .u16 _ h
  case u32 => exact toI_ofI .u32 _ h
  case u64 => exact toI_ofI .u64 _ h
theorem cvK_u32 (x : IK .u32) : ∀ k : IntKind, inR k (toI .u32 x) = true → toI k (cvK .u32 k x) = k.wrap (toI .u32 x) := by
  intro k h
  cases k
  case i8 => exact toI_ofI .i8 _ h
  case i16 => exact toI_ofI .i16 _ h
  case i32 => exact toI_ofI .i32 _ h
  case i64 => exact toI_ofI .i64 _ h
  case u8 => exact wcv32_8 x
  case u16 => exact toI_ofI .u16 _ h
  case u32 => exact wcvs32 x
  case u64 => exact wcv32_64 x
theorem cvK_u64 (x : IK .u64) : ∀ k : IntKind, inR k (toI .u64 x) = true → toI k (cvK .u64 k x) = k.wrap (toI .u64 x) := by
  intro k h
  cases k
  case i8 => exact toI_ofI .i8 _ h
  case i16 => exact toI_ofI .i16 _ h
  case i32 => exact toI_ofI .i32 _ h
  case i64 => exact toI_ofI .i64 _ h
  case u8 => exact wcv64_8 x
  case u16 => exact toI_ofI .u16 _ h
  case u32 => exact wcv64_32 x
  case u64 => exact wcvs64 x
theorem cvK_i8 (x : IK .i8) : ∀ k : IntKind, inR k (toI .i8 x) = true → toI k (cvK .i8 k x) = k.wrap (toI .i8 x) := by
  intro k h
  cases k
  case i8 => exact toI_ofI .i8 _ h
  case i16 => exact toI_ofI .i16 _ h
  case i32 => exact toI_ofI .i32 _ h
  case i64 => exact toI_ofI .i64 _ h
  case u8 => exact toI_ofI .u8 _ h
  case u16 => exact toI_ofI .u16 _ h
  case u32 => exact toI_ofI .u32 _ h
  case u64 => exact toI_ofI .u64 _ h
theorem cvK_i16 (x : IK .i16) : ∀ k : IntKind, inR k (toI .i16 x) = true → toI k (cvK .i16 k x) = k.wrap (toI .i16 x) := by
  intro k h
  cases k
  case i8 => exact toI_ofI .i8 _ h
  case i16 => exact toI_ofI .i16 _ h
  case i32 => exact toI_ofI .i32 _ h
  case i64 => exact toI_ofI .i64 _ h
  case u8 => exact toI_ofI .u8 _ h
  case u16 => exact toI_ofI .u16 _ h
  case u32 => exact toI_ofI .u32 _ h
  case u64 => exact toI_ofI .u64 _ h
theorem cvK_i32 (x : IK .i32) : ∀ k : IntKind, inR k (toI .i32 x) = true → toI k (cvK .i32 k x) = k.wrap (toI .i32 x) := by
  intro k h
  cases k
  case i8 => exact toI_ofI .i8 _ h
  case i16 => exact toI_ofI .i16 _ h
  case i32 => exact toI_ofI .i32 _ h
  case i64 => exact toI_ofI .i64 _ h
  case u8 => exact toI_ofI .u8 _ h
  case u16 => exact toI_ofI .u16 _ h
  case u32 => exact toI_ofI .u32 _ h
  case u64 => exact toI_ofI .u64 _ h
theorem cvK_i64 (x : IK .i64) : ∀ k : IntKind, inR k (toI .i64 x) = true → toI k (cvK .i64 k x) = k.wrap (toI .i64 x) := by
  intro k h
  cases k
  case i8 => exact toI_ofI .i8 _ h
  case i16 => exact toI_ofI .i16 _ h
  case i32 => exact toI_ofI .i32 _ h
  case i64 => exact toI_ofI .i64 _ h
  case u8 => exact toI_ofI .u8 _ h
  case u16 => exact toI_ofI .u16 _ h
  case u32 => exact toI_ofI .u32 _ h
  case u64 => exact toI_ofI .u64 _ h
theorem cvK_r (j k : IntKind) (x : IK j) (h : inR k (toI j x) = true) : toI k (cvK j k x) = k.wrap (toI j x) := by
  cases j
  case i8 => exact cvK_i8 x k h
  case i16 => exact cvK_i16 x k h
  case i32 => exact cvK_i32 x k h
  case i64 => exact cvK_i64 x k h
  case u8 => exact cvK_u8 x k h
  case u16 => exact cvK_u16 x k h
  case u32 => exact cvK_u32 x k h
  case u64 => exact cvK_u64 x k h

section
variable {P : Program}
theorem eqGuard_int (op : BinOp) (t : TypeId) (x y : Operand) (j k : IntKind) (a b : Int) (w : World) : (eqGuard op t x y (.int j a) (.int k b)).run P w = .ok () w := by
  cases op <;> rfl
theorem bin_r {β : Type} {op : BinOp} {k : IntKind} {x y : IK k} {K : AV → Option β} {r : β} (h : bin op k x y K = some r) (T : TypeId) (hs : op ≠ .shl ∧ op ≠ .shr) :
    ∃ a u, K a = some r ∧ (∀ F w mem L, AVR F w mem L a u) ∧ ∀ w, (binOp op T (.int k (toI k x)) (.int k (toI k y))).run P w = .ok u w := by
  cases op <;> simp only [bin] at h
  case add => obtain ⟨h1, h2⟩ := guard_some h; exact ⟨_, _, h2, fun _ _ _ _ => avr_int.2 rfl, fun w => by simp [binOp, Op.intArith, addK_r k x y h1]⟩
  case sub => obtain ⟨h1, h2⟩ := guard_some h; exact ⟨_, _, h2, fun _ _ _ _ => avr_int.2 rfl, fun w => by simp [binOp, Op.intArith, subK_r k x y h1]⟩
  case mul => obtain ⟨h1, h2⟩ := guard_some h; exact ⟨_, _, h2, fun _ _ _ _ => avr_int.2 rfl, fun w => by simp [binOp, Op.intArith, mulK_r k x y h1]⟩
  case quo =>
    obtain ⟨h1, h2⟩ := guard_some h
    simp only [Bool.and_eq_true, Bool.not_eq_true'] at h1
    have h3 : ¬ toI k y = 0 := fun e => by
      have : y = ofI k 0 := (toI_inj k _ _).1 (by rw [e, ofI0])
      rw [(eqK_iff k _ _).2 this] at h1; exact absurd h1.1 (by decide)
    exact ⟨_, _, h2, fun _ _ _ _ => avr_int.2 rfl, fun w => by simp [binOp, Op.intDiv, h3, quoK_r k x y h1.2]⟩
  case rem =>
    obtain ⟨h1, h2⟩ := guard_some h
    simp only [Bool.not_eq_true'] at h1
    have h3 : ¬ toI k y = 0 := fun e => by
      have : y = ofI k 0 := (toI_inj k _ _).1 (by rw [e, ofI0])
      rw [(eqK_iff k _ _).2 this] at h1; exact absurd h1 (by decide)
    exact ⟨_, _, h2, fun _ _ _ _ => avr_int.2 rfl, fun w => by simp [binOp, Op.intDiv, h3, remK_r k x y]⟩
  case and => exact ⟨_, _, h, fun _ _ _ _ => avr_int.2 rfl, fun w => by rw [andK_r k x y]; simp [binOp, Op.intBits]⟩
  case or => exact ⟨_, _, h, fun _ _ _ _ => avr_int.2 rfl, fun w => by rw [orK_r k x y]; simp [binOp, Op.intBits]⟩
  case xor => exact ⟨_, _, h, fun _ _ _ _ => avr_int.2 rfl, fun w => by rw [xorK_r k x y]; simp [binOp, Op.intBits]⟩
  case andNot => exact ⟨_, _, h, fun _ _ _ _ => avr_int.2 rfl, fun w => by rw [anoK_r k x y]; simp [binOp, Op.intBits]⟩
  case eql => exact ⟨_, _, h, fun _ _ _ _ => avr_bool.2 rfl, fun w => by rw [← eqK_r k x y]; simp [binOp, Op.intCmp]⟩
  case neq => exact ⟨_, _, h, fun _ _ _ _ => avr_bool.2 rfl, fun w => by rw [← eqK_r k x y]; simp [binOp, Op.intCmp, bne]⟩
  case lss => exact ⟨_, _, h, fun _ _ _ _ => avr_bool.2 rfl, fun w => by rw [← ltK_r k x y]; simp [binOp, Op.intCmp]⟩
  case leq => exact ⟨_, _, h, fun _ _ _ _ => avr_bool.2 rfl, fun w => by rw [← leK_r k x y]; simp [binOp, Op.intCmp]⟩
  case gtr => exact ⟨_, _, h, fun _ _ _ _ => avr_bool.2 rfl, fun w => by rw [← ltK_r k y x]; simp [binOp, Op.intCmp]⟩
  case geq => exact ⟨_, _, h, fun _ _ _ _ => avr_bool.2 rfl, fun w => by rw [← leK_r k y x]; simp [binOp, Op.intCmp]⟩
  all_goals cases h
end
end Go.Proofs.Ytpfoeeiacfadfaa.Q
/-
  Parts of values, places of fields and elements, data that are alike.
-/
namespace Go.Proofs.Ytpfoeeiacfadfaa.Q
open Go.RowKit

section
variable {P : Program} {T : TypeId} {t : Ty} {w : World}
theorem agg_z {t : Ty} (h : agg t = false) : z t = 1 := by cases t <;> first | rfl | cases h
theorem EF.isAgg (h : EF P T t) (w : World) : (Go.isAgg T).run P w = .ok (agg t) w := by
  obtain ⟨d, h1, h2⟩ := h.ag
  rw [← h2]
  unfold Go.isAgg
  simp only [Sem.run_bind, run_underlying h1, Result.andThen_ok]
  cases d <;> rfl
theorem EF.sizeOf (h : EF P T t) (w : World) : (Go.sizeOf T).run P w = .ok (z t) w := by
  obtain ⟨q, h1, h2, _⟩ := h.info
  simp [Go.sizeOf, typeInfo, h1, h2]
theorem EF.zero (h : EF P T t) (w : World) : (Go.zeroValue T).run P w = .ok (mkV t (zc t)) w := by
  obtain ⟨q, h1, _, h2, _⟩ := h.info
  simp [Go.zeroValue, typeInfo, h1, h2]
theorem EF.part (h : EF P T t) (w : World) (cs : List Value) (off : Nat) (hl : off + z t ≤ cs.length) : (Go.part T cs.toArray off).run P w = .ok (mkV t ((cs.drop off).take (z t))) w := by
  unfold Go.part mkV
  simp only [Sem.run_bind, h.isAgg, Result.andThen_ok]
  cases ha : agg t with
  | true =>
    simp only [if_true, Sem.run_bind, h.sizeOf, Result.andThen_ok, Sem.run_pure]
    congr 2
    apply Array.ext'
    simp [List.take_drop]
  | false =>
    have hz := agg_z ha
    have hlt : off < cs.length := by omega
    simp only [Bool.false_eq_true, if_false, List.getElem?_toArray, List.getElem?_eq_getElem hlt, Sem.run_pure, hz]
    congr 1
    rw [List.drop_eq_getElem_cons hlt]
    rfl
theorem mkV_cells {t : Ty} {cs : List Value} (hl : cs.length = z t) (h1 : ∀ u ∈ cs, u.oneCell' = true) : (mkV t cs).cells = cs.toArray := by
  unfold mkV
  cases ha : agg t with
  | true => rfl
  | false =>
    have hz := agg_z ha
    obtain ⟨c, rfl⟩ : ∃ c, cs = [c] := by
      cases cs with
      | nil => simp at hl; omega
      | cons c cs => cases cs with
        | nil => exact ⟨c, rfl⟩
        | cons d cs => simp at hl; omega
    have := h1 c List.mem_cons_self
    show c.cells = #[c]
    cases c <;> first | rfl | cases this
end

/-! The fields of a struct. -/
theorem fpath_ok : ∀ {l : List Ty} {k : Nat} {t : Ty}, l[k]? = some t → okP (stru l) (fpath l.length k) ∧ po (stru l) (fpath l.length k) = fo l k ∧ pt (stru l) (fpath l.length k) = some t
  | [], k, t, h => by simp at h
  | [u], 0, t, h => by
    simp at h; subst h
    have e : po u [] = 0 := by cases u <;> rfl
    have e2 : pt u [] = some u := by cases u <;> rfl
    have e3 : okP u [] := by cases u <;> trivial
    exact ⟨e3, e, e2⟩
  | [u], k + 1, t, h => by simp at h
  | u :: v :: r, 0, t, h => by
    simp at h; subst h
    have e : po u [] = 0 := by cases u <;> rfl
    have e2 : pt u [] = some u := by cases u <;> rfl
    have e3 : okP u [] := by cases u <;> trivial
    exact ⟨e3, e, e2⟩
  | u :: v :: r, k + 1, t, h => by
    have h2 := fpath_ok (l := v :: r) (k := k) (t := t) (by simpa using h)
    refine ⟨h2.1, ?_, h2.2.2⟩
    show z u + po (stru (v :: r)) (fpath (v :: r).length k) = z u + fo (v :: r) k
    rw [h2.2.1]
def sty (l : List Ty) : Ty := match l with | [u] => .pair u .unit | l => stru l
theorem fpath'_ok {l : List Ty} {k : Nat} {t : Ty} (h : l[k]? = some t) : okP (sty l) (fpath' l.length k) ∧ po (sty l) (fpath' l.length k) = fo l k ∧ pt (sty l) (fpath' l.length k) = some t := by
  match l, h with
  | [u], h =>
    cases k with
    | zero =>
      simp at h; subst h
      have e : po u [] = 0 := by cases u <;> rfl
      have e2 : pt u [] = some u := by cases u <;> rfl
      have e3 : okP u [] := by cases u <;> trivial
      exact ⟨e3, e, e2⟩
    | succ k => simp at h
  | u :: v :: r, h => exact fpath_ok h
theorem okP_app : ∀ {t u : Ty} {p q : List PS}, okP t p → pt t p = some u → okP u q → okP t (p ++ q) ∧ po t (p ++ q) = po t p + po u q ∧ pt t (p ++ q) = pt u q
  | t, u, [], q, _, h, h2 => by
    have e : pt t [] = some t := by cases t <;> rfl
    have e2 : po t [] = 0 := by cases t <;> rfl
    rw [e] at h
    obtain rfl := Option.some.inj h
    rw [e2]
    exact ⟨h2, (Nat.zero_add _).symm, rfl⟩
  | .pair a b, u, .fst :: p, q, h1, h, h2 => okP_app (t := a) (p := p) h1 h h2
  | .pair a b, u, .snd :: p, q, h1, h, h2 => by
    obtain ⟨h3, h4, h5⟩ := okP_app (t := b) (p := p) h1 h h2
    exact ⟨h3, by show z a + po b (p ++ q) = z a + po b p + _; rw [h4]; omega, h5⟩
  | .arr n t, u, .idx i :: p, q, h1, h, h2 => by
    obtain ⟨h3, h4, h5⟩ := okP_app (t := t) (p := p) h1.2 h h2
    exact ⟨⟨h1.1, h3⟩, by show i * z t + po t (p ++ q) = i * z t + po t p + _; rw [h4]; omega, h5⟩
  | .int _, _, .fst :: _, _, h, _, _ => h.elim
  | .int _, _, .snd :: _, _, h, _, _ => h.elim
  | .int _, _, .idx _ :: _, _, h, _, _ => h.elim
  | .bool, _, .fst :: _, _, h, _, _ => h.elim
  | .bool, _, .snd :: _, _, h, _, _ => h.elim
  | .bool, _, .idx _ :: _, _, h, _, _ => h.elim
  | .str, _, .fst :: _, _, h, _, _ => h.elim
  | .str, _, .snd :: _, _, h, _, _ => h.elim
  | .str, _, .idx _ :: _, _, h, _, _ => h.elim
  | .sl _, _, .fst :: _, _, h, _, _ => h.elim
  | .sl _, _, .snd :: _, _, h, _, _ => h.elim
  | .sl _, _, .idx _ :: _, _, h, _, _ => h.elim
  | .unit, _, .fst :: _, _, h, _, _ => h.elim
  | .unit, _, .snd :: _, _, h, _, _ => h.elim
  | .unit, _, .idx _ :: _, _, h, _, _ => h.elim
  | .opq _, _, .fst :: _, _, h, _, _ => h.elim
  | .opq _, _, .snd :: _, _, h, _, _ => h.elim
  | .opq _, _, .idx _ :: _, _, h, _, _ => h.elim
  | .pair _ _, _, .idx _ :: _, _, h, _, _ => h.elim
  | .arr _ _, _, .fst :: _, _, h, _, _ => h.elim
  | .arr _ _, _, .snd :: _, _, h, _, _ => h.elim
theorem alit (g o k : Nat) : (⟨g, o, none⟩ : Addr).add k = ⟨g, o + k, none⟩ := by unfold Addr.add; split <;> simp_all
theorem aadd (a : Addr) (i j : Nat) : (a.add i).add j = a.add (i + j) := by
  obtain ⟨b, off, sp⟩ := a
  unfold Addr.add
  by_cases e0 : i = 0
  · subst e0; simp
  · by_cases ej : j = 0
    · subst ej; simp
    · simp [e0, ej, Nat.add_assoc]
section
variable {P : Program}
theorem run_fieldAt {S : TypeId} {i : TI} (_h : TIok P S i) (hs : ∃ fs, P.underlying S = some (.struct fs) ∧ fs.size = i.fts.length ∧ i.t = sty i.fts ∧ ∀ k u, i.fts[k]? = some u → ∃ f, fs[k]? = some f ∧ f.offset = fo i.fts k ∧ EF P f.type u ∧ 0 < z u) {k : Nat} {u : Ty} (hk : i.fts[k]? = some u) (a : Addr) (w : World) :
    (Instr.fieldAt S (.pointer (some a)) k).run P w = .ok (.pointer (some (a.add (fo i.fts k)))) w := by
  obtain ⟨fs, h1, _, _, h2⟩ := hs
  obtain ⟨f, h3, h4, h5, h6⟩ := h2 k u hk
  unfold Instr.fieldAt
  simp only [Sem.run_bind, run_underlying h1, Result.andThen_ok, h3, Instr.sureAddr, Sem.run_pure, fieldPlace, h5.sizeOf, show ¬ z u = 0 by omega, if_false, h4]
theorem TIok.str {S : TypeId} {i : TI} (h : TIok P S i) (ha : (match i.t with | .pair _ _ => true | .unit => true | _ => false) = true) : ∃ fs, P.underlying S = some (.struct fs) ∧ fs.size = i.fts.length ∧ i.t = sty i.fts ∧ ∀ k u, i.fts[k]? = some u → ∃ f, fs[k]? = some f ∧ f.offset = fo i.fts k ∧ EF P f.type u ∧ 0 < z u := by
  have hu := h.un
  obtain ⟨t, E, fts⟩ := i
  cases t <;> first | exact hu | cases ha
end
/-- Of these types '==' may be asked. -/
inductive TE (P : Program) : Ty → TypeId ⊕ (List Field × Nat) → Prop where
  | int {k : IntKind} {T : TypeId} (h : P.underlying T = some (.int k)) : TE P (.int k) (.inl T)
  | bool {T : TypeId} (h : P.underlying T = some .bool) : TE P .bool (.inl T)
  | str {T : TypeId} (h : P.underlying T = some .string) : TE P .str (.inl T)
  | arr {n : Nat} {t : Ty} {T E : TypeId} (h : P.underlying T = some (.array n E)) (he : EF P E t) (h2 : TE P t (.inl E)) : TE P (.arr n t) (.inl T)
  | struct {a b : Ty} {T : TypeId} {f g : Field} {r : List Field} (h : P.underlying T = some (.struct (f :: g :: r).toArray)) (h0 : P.stoodInHeld T = false) (h1 : f.offset = 0) (h2 : f.name ≠ "_") (h3 : EF P f.type a) (h4 : TE P a (.inl f.type)) (h5 : TE P b (.inr (g :: r, z a))) : TE P (.pair a b) (.inl T)
  | last {t : Ty} {g : Field} {off : Nat} (h1 : g.offset = off) (h2 : g.name ≠ "_") (h3 : EF P g.type t) (h4 : TE P t (.inl g.type)) : TE P t (.inr ([g], off))
  | more {a b : Ty} {f g : Field} {r : List Field} {off : Nat} (h1 : f.offset = off) (h2 : f.name ≠ "_") (h3 : EF P f.type a) (h4 : TE P a (.inl f.type)) (h5 : TE P b (.inr (g :: r, off + z a))) : TE P (.pair a b) (.inr (f :: g :: r, off))
def ht : Ty → Nat
  | .arr _ t => ht t + 2
  | .pair a b => max (ht a) (ht b) + 1
  | _ => 1
section
variable {P : Program}
theorem eqItems_r {d : Nat} {E : TypeId} {t : Ty} (he : EF P E t) (w : World) (xs ys : List Value) {α : Type} (f : α → α → Bool) (n : Nat) : ∀ (is : Nat) (l m : List α), is + l.length = n → is + m.length = n → n * z t ≤ xs.length → n * z t ≤ ys.length →
    (∀ j a b, l[j]? = some a → m[j]? = some b → (Op.equalIn d E (mkV t ((xs.drop ((is + j) * z t)).take (z t))) (mkV t ((ys.drop ((is + j) * z t)).take (z t)))).run P w = .ok (f a b) w) →
    (Op.eqItems d E (z t) xs.toArray ys.toArray (List.range' is l.length)).run P w = .ok (eqL f l m) w
  | is, [], [], h1, h2, h3, h4, h => by simp [Op.eqItems, eqL]
  | is, a :: l, b :: m, h1, h2, h3, h4, h => by
    have hle : is * z t + z t ≤ n * z t := by
      rw [show is * z t + z t = (is + 1) * z t by rw [Nat.add_mul]; omega]
      exact Nat.mul_le_mul_right _ (by simp at h1; omega)
    have h0 := h 0 a b rfl rfl
    rw [Nat.add_zero] at h0
    rw [List.length_cons, List.range'_succ]
    simp only [Op.eqItems, Sem.run_bind, he.part w xs (is * z t) (by omega), he.part w ys (is * z t) (by omega), Result.andThen_ok, h0]
    have ih := eqItems_r he w xs ys f n (is + 1) l m (by simp at h1; omega) (by simp at h2; omega) h3 h4 (fun j a b ha hb => by
      have := h (j + 1) a b (by simpa using ha) (by simpa using hb)
      rw [show is + 1 + j = is + (j + 1) by omega]; exact this)
    cases hf : f a b with
    | true => simp only [Bool.not_true, Bool.false_eq_true, if_false, ih, eqL, hf, Bool.true_and]
    | false => simp [eqL, hf]
  | is, [], b :: m, h1, h2, _, _, _ => by simp at h1 h2; omega
  | is, a :: l, [], h1, h2, _, _, _ => by simp at h1 h2; omega
theorem beqB (x y : Bool) : (x == y) = eqB x y := by cases x <;> cases y <;> rfl
theorem beqS (x y : List UInt8) : ((⟨x.toArray⟩ : ByteArray).toList == (⟨y.toArray⟩ : ByteArray).toList) = eqS x y := by
  rw [ByteArray.toList_eq, ByteArray.toList_eq]
  unfold eqS
  rw [Bool.eq_iff_iff, decide_eq_true_eq, beq_iff_eq]
theorem TE.run {t : Ty} {q : TypeId ⊕ (List Field × Nat)} (h : TE P t q) : match q with
    | .inl T => ∀ (d : Nat), ht t ≤ d → ∀ (S1 S2 : Nat → Prop) (w1 w2 w : World) (cs ds : List Value) (x y : D t), RC S1 w1 t cs x → RC S2 w2 t ds y → (Op.equalIn d T (mkV t cs) (mkV t ds)).run P w = .ok (eqD t x y) w
    | .inr (fs, off) => ∀ (d : Nat), ht t ≤ d → ∀ (S1 S2 : Nat → Prop) (w1 w2 w : World) (cs ds : List Value) (x y : D t), RC S1 w1 t ((cs.drop off).take (z t)) x → RC S2 w2 t ((ds.drop off).take (z t)) y → off + z t ≤ cs.length → off + z t ≤ ds.length →
      (Op.eqFields d cs.toArray ds.toArray fs).run P w = .ok (eqD t x y) w := by
  induction h with
  | @int k T h =>
    intro d hd S1 S2 w1 w2 w cs ds x y hx hy
    obtain ⟨d, rfl⟩ : ∃ n, d = n + 1 := ⟨d - 1, by simp only [ht] at hd; omega⟩
    rw [show cs = _ from hx, show ds = _ from hy]
    exact (run_equalIn_int w d T k k _ _ h).trans (congrArg (fun b => Result.ok b w) (eqK_r k x y))
  | @bool T h =>
    intro d hd S1 S2 w1 w2 w cs ds x y hx hy
    obtain ⟨d, rfl⟩ : ∃ n, d = n + 1 := ⟨d - 1, by simp only [ht] at hd; omega⟩
    rw [show cs = _ from hx, show ds = _ from hy]
    exact (run_equalIn_bool' w d T _ _ h).trans (congrArg (fun b => Result.ok b w) (beqB x y))
  | @str T h =>
    intro d hd S1 S2 w1 w2 w cs ds x y hx hy
    obtain ⟨d, rfl⟩ : ∃ n, d = n + 1 := ⟨d - 1, by simp only [ht] at hd; omega⟩
    rw [show cs = _ from hx, show ds = _ from hy]
    exact (run_equalIn_string w d T _ _ h).trans (congrArg (fun b => Result.ok b w) (beqS x y))
  | @arr n t T E h he h2 ih =>
    intro d hd S1 S2 w1 w2 w cs ds x y hx hy
    obtain ⟨d, rfl⟩ : ∃ n, d = n + 1 := ⟨d - 1, by simp only [ht] at hd; omega⟩
    have hlx := hx.len
    have hly := hy.len
    obtain ⟨hnx, hx⟩ := RC.arr.1 hx
    obtain ⟨hny, hy⟩ := RC.arr.1 hy
    obtain ⟨q, hq, hs, _⟩ := he.info
    have hc : P.cellsOf E = z t := by simp [Program.cellsOf, hq, hs]
    show (Op.equalIn (d + 1) T (.agg cs.toArray) (.agg ds.toArray)).run P w = _
    rw [run_equalIn_array w d _ _ h hq, hc, List.range_eq_range']
    have := eqItems_r he w cs ds (eqD t) n 0 x y (by rw [Nat.zero_add]; exact hnx) (by rw [Nat.zero_add]; exact hny) (by rw [hlx]; exact Nat.le_refl _) (by rw [hly]; exact Nat.le_refl _) (d := d) (fun j a b ha hb => by
      rw [Nat.zero_add]
      exact ih d (by simp only [ht] at hd; omega) S1 S2 w1 w2 w _ _ _ _ (hx.get ha) (hy.get hb))
    rw [show List.length (α := D t) x = n from hnx] at this
    exact this
  | @struct a b T f g r h h0 h1 hn h3 h4 h5 iha ihb =>
    intro d hd S1 S2 w1 w2 w cs ds x y hx hy
    obtain ⟨d, rfl⟩ : ∃ n, d = n + 1 := ⟨d - 1, by simp only [ht] at hd; omega⟩
    have hlx := hx.len
    have hly := hy.len
    obtain ⟨c1, c2, rfl, hx1, hx2⟩ := hx
    obtain ⟨e1, e2, rfl, hy1, hy2⟩ := hy
    have l1 := hx1.len
    have l2 := hy1.len
    have l3 := hx2.len
    have l4 := hy2.len
    have hf : P.fieldsOf T = (f :: g :: r).toArray := by simp [Program.fieldsOf, h]
    have hu : P.underlying T = some (.struct (P.fieldsOf T)) := by rw [hf]; exact h
    show (Op.equalIn (d + 1) T (.agg (c1 ++ c2).toArray) (.agg (e1 ++ e2).toArray)).run P w = _
    rw [run_equalIn_struct w d T _ _ hu h0, hf]
    simp only [Op.eqFields, ne_eq, hn, not_false_eq_true, if_true, Sem.run_bind]
    have p1 := h3.part w (c1 ++ c2) f.offset (by rw [h1, List.length_append]; omega)
    have p2 := h3.part w (e1 ++ e2) f.offset (by rw [h1, List.length_append]; omega)
    rw [h1, List.drop_zero, List.take_left' l1] at p1
    rw [h1, List.drop_zero, List.take_left' l2] at p2
    rw [h1, p1, Result.andThen_ok, p2, Result.andThen_ok]
    have q1 := iha d (by simp only [ht] at hd; omega) S1 S2 w1 w2 w _ _ _ _ hx1 hy1
    rw [show (Op.equalIn d f.type (mkV a c1) (mkV a e1)).run P w = _ from q1, Result.andThen_ok]
    have q2 := ihb d (by simp only [ht] at hd; omega) S1 S2 w1 w2 w (c1 ++ c2) (e1 ++ e2) x.2 y.2 (by rw [List.drop_left' l1, List.take_of_length_le (by omega)]; exact hx2) (by rw [List.drop_left' l2, List.take_of_length_le (by omega)]; exact hy2) (by rw [List.length_append]; omega) (by rw [List.length_append]; omega)
    simp only [Op.eqFields] at q2
    show _ = Result.ok (eqD a x.1 y.1 && eqD b x.2 y.2) w
    cases eqD a x.1 y.1 with
    | true => simp only [Bool.not_true, Bool.false_eq_true, if_false, Bool.true_and]; exact q2
    | false => simp
  | @last t g off h1 hn h3 h4 ih =>
    intro d hd S1 S2 w1 w2 w cs ds x y hx hy hlx hly
    simp only [Op.eqFields, ne_eq, hn, not_false_eq_true, if_true, Sem.run_bind]
    subst h1
    have q1 := ih d hd S1 S2 w1 w2 w _ _ _ _ hx hy
    rw [h3.part w cs g.offset hlx, Result.andThen_ok, h3.part w ds g.offset hly, Result.andThen_ok, show (Op.equalIn d g.type (mkV t _) (mkV t _)).run P w = _ from q1, Result.andThen_ok]
    cases eqD t x y <;> simp
  | @more a b f g r off h1 hn h3 h4 h5 iha ihb =>
    intro d hd S1 S2 w1 w2 w cs ds x y hx hy hlx hly
    obtain ⟨c1, c2, hc, hx1, hx2⟩ := hx
    obtain ⟨e1, e2, he, hy1, hy2⟩ := hy
    have l1 := hx1.len
    have l2 := hy1.len
    have l3 := hx2.len
    have l4 := hy2.len
    have hz : z (.pair a b) = z a + z b := rfl
    rw [hz] at hc he hlx hly
    have k1 : (cs.drop off).take (z a) = c1 := by
      have := congrArg (List.take (z a)) hc
      rwa [List.take_take, show min (z a) (z a + z b) = z a by omega, List.take_left' l1] at this
    have k2 : (ds.drop off).take (z a) = e1 := by
      have := congrArg (List.take (z a)) he
      rwa [List.take_take, show min (z a) (z a + z b) = z a by omega, List.take_left' l2] at this
    have k3 : (cs.drop (off + z a)).take (z b) = c2 := by
      have := congrArg (List.drop (z a)) hc
      rwa [List.drop_take, List.drop_drop, show z a + z b - z a = z b by omega, List.drop_left' l1] at this
    have k4 : (ds.drop (off + z a)).take (z b) = e2 := by
      have := congrArg (List.drop (z a)) he
      rwa [List.drop_take, List.drop_drop, show z a + z b - z a = z b by omega, List.drop_left' l2] at this
    subst h1
    have q1 := iha d (by simp only [ht] at hd; omega) S1 S2 w1 w2 w _ _ _ _ hx1 hy1
    have q2 := ihb d (by simp only [ht] at hd; omega) S1 S2 w1 w2 w cs ds x.2 y.2 (by rw [k3]; exact hx2) (by rw [k4]; exact hy2) (by omega) (by omega)
    simp only [Op.eqFields] at q2 ⊢
    simp only [ne_eq, hn, not_false_eq_true, if_true, Sem.run_bind]
    rw [h3.part w cs f.offset (by omega), Result.andThen_ok, h3.part w ds f.offset (by omega), Result.andThen_ok, k1, k2, show (Op.equalIn d f.type (mkV a c1) (mkV a e1)).run P w = _ from q1, Result.andThen_ok]
    show _ = Result.ok (eqD a x.1 y.1 && eqD b x.2 y.2) w
    cases eqD a x.1 y.1 with
    | true => simp only [Bool.not_true, Bool.false_eq_true, if_false, Bool.true_and]; exact q2
    | false => simp
end
end Go.Proofs.Ytpfoeeiacfadfaa.Q
/-
  Each operation that hangs on no world yields what is reckoned for it.
-/
namespace Go.Proofs.Ytpfoeeiacfadfaa.Q
open Go.RowKit

structure EnvOk (P : Program) (e : Env) : Prop where
  T : ∀ T i, e.T T = some i → TIok P T i
  eq : ∀ T i, e.T T = some i → cmpb i.t = true → TE P i.t (.inl T) ∧ ht i.t ≤ 10000 ∧ P.eqGuardType P.depth T = false
/-- What is sure of an operation that hangs on no world. -/
def Yields (P : Program) (F : Nat → Prop) (w : World) (mem : List Cn) (L : List Res) {β : Type} (K : SV → Option β) (r : β) (x : Sem Next) : Prop :=
  ∃ sv u, K sv = some r ∧ SVR F w mem L sv u ∧ ∀ w', x.run P w' = .ok (.value u) w'
section
variable {P : Program} {e : Env} {F : Nat → Prop} {w0 w : World} {L : List Res} {s : St} {vs : List (Nat × Value)} {β : Type} {K : SV → Option β} {r : β} {o : Oper}
theorem mk_y (sv : SV) (u : Value) (h1 : K sv = some r) (h2 : SVR F w s.mem L sv u) (h3 : ∀ w', (execOp (ev e.N vs) o).run P w' = .ok (.value u) w') : Yields P F w s.mem L K r (execOp (ev e.N vs) o) := ⟨sv, u, h1, h2, h3⟩

theorem svr_int {k : IntKind} (x : IK k) : SVR F w s.mem L (.one (.dat (.int k) x)) (.int k (toI k x)) := ⟨[.int k (toI k x)], rfl, rfl⟩
theorem svr_bool (x : Bool) : SVR F w s.mem L (.one (.dat .bool x)) (.bool x) := ⟨[.bool x], rfl, rfl⟩
theorem own_ne {mem : List Cn} (m : MR P F w0 w mem L) {r E zz n : Nat} {u : Value} {cs : List Value} (h : L[r]? = some (.own E zz u n cs)) (hn : 0 < n) : ∃ g cap, u = .slice (some ⟨g, 0, none⟩) n cap ∧ n ≤ cap := by
  have hk := m.mo.ok r _ h
  rcases hk.2 with ⟨_, h0⟩ | ⟨g, cap, cur, h1, _, _, h2, _⟩
  · omega
  · exact ⟨g, cap, h1, h2⟩
theorem y_move (hf : FrR e F w s.mem L s.fr vs) (hG : GR e F w s.mem L) {x : Operand} (ho : o.op = .move x ∨ o.op = .assign x) (h : K (opd e s x) = some r) : Yields P F w s.mem L K r (execOp (ev e.N vs) o) :=
  mk_y _ _ h (opd_r hf hG x) fun w' => by unfold execOp; rcases ho with ho | ho <;> simp [ho]
theorem y_pick (hf : FrR e F w s.mem L s.fr vs) (hG : GR e F w s.mem L) {c a b : Operand} (ho : o.op = .pick c a b) (h : bnd (asBool' (av e s c)) (fun c => cnd c (K (opd e s a)) (K (opd e s b))) = some r) : Yields P F w s.mem L K r (execOp (ev e.N vs) o) := by
  obtain ⟨q, h1, h2⟩ := bnd_some h
  have hc := asBool_r h1 (av_r hf hG c)
  cases q with
  | true => exact mk_y _ _ h2 (opd_r hf hG a) fun w' => by unfold execOp; simp [ho, hc, asBool]
  | false => exact mk_y _ _ h2 (opd_r hf hG b) fun w' => by unfold execOp; simp [ho, hc, asBool]
theorem mkV_agg {t : Ty} {cs : List Value} (h : agg t = true) : mkV t cs = .agg cs.toArray := by unfold mkV; rw [h]
/-- Two data of one shape, none of them a number. -/
theorem run_eq {t : Ty} {T : TypeId} (ht' : TE P t (.inl T) ∧ ht t ≤ 10000 ∧ P.eqGuardType P.depth T = false) (hk : ∀ k, t ≠ .int k) (a b : Operand) {S1 S2 : Nat → Prop} {w1 w2 : World} {cs ds : List Value} {x y : D t} (hx : RC S1 w1 t cs x) (hy : RC S2 w2 t ds y) (w : World) :
    (do eqGuard .eql T a b (mkV t cs) (mkV t ds); binOp .eql T (mkV t cs) (mkV t ds) : Sem Value).run P w = .ok (.bool (eqD t x y)) w ∧ (do eqGuard .neq T a b (mkV t cs) (mkV t ds); binOp .neq T (mkV t cs) (mkV t ds) : Sem Value).run P w = .ok (.bool (!(eqD t x y))) w := by
  obtain ⟨h1, h2, h3⟩ := ht'
  have hr := h1.run 10000 h2 S1 S2 w1 w2 w cs ds x y hx hy
  cases t with
  | int k => exact absurd rfl (hk k)
  | bool =>
    rw [show cs = _ from hx, show ds = _ from hy] at hr ⊢
    have hr : (Op.equalIn 10000 T (.bool x) (.bool y)).run P w = .ok (eqD .bool x y) w := hr
    show (do eqGuard .eql T a b (.bool x) (.bool y); binOp .eql T (.bool x) (.bool y) : Sem Value).run P w = _ ∧ (do eqGuard .neq T a b (.bool x) (.bool y); binOp .neq T (.bool x) (.bool y) : Sem Value).run P w = _
    constructor <;> simp [eqGuard, binOp, Op.equal, Op.maxDepth, hr]
  | str =>
    rw [show cs = _ from hx, show ds = _ from hy]
    have e := beqS x y
    show (do eqGuard .eql T a b (.string ⟨List.toArray (α := UInt8) x⟩) (.string ⟨List.toArray (α := UInt8) y⟩); binOp .eql T (.string ⟨List.toArray (α := UInt8) x⟩) (.string ⟨List.toArray (α := UInt8) y⟩) : Sem Value).run P w = .ok (.bool (eqS x y)) w ∧ (do eqGuard .neq T a b (.string ⟨List.toArray (α := UInt8) x⟩) (.string ⟨List.toArray (α := UInt8) y⟩); binOp .neq T (.string ⟨List.toArray (α := UInt8) x⟩) (.string ⟨List.toArray (α := UInt8) y⟩) : Sem Value).run P w = .ok (.bool (!(eqS x y))) w
    rw [← e]
    constructor <;> simp [eqGuard, binOp, Op.stringOp]
  | arr n t =>
    rw [mkV_agg rfl, mkV_agg rfl] at hr ⊢
    constructor
    · simp only [Sem.run_bind, run_eqGuard_agg w _ T a b _ _ h3, Result.andThen_ok, run_eql_struct, hr]
    · simp only [Sem.run_bind, run_eqGuard_agg w _ T a b _ _ h3, Result.andThen_ok, run_neq_struct, hr]
  | pair c d =>
    rw [mkV_agg rfl, mkV_agg rfl] at hr ⊢
    constructor
    · simp only [Sem.run_bind, run_eqGuard_agg w _ T a b _ _ h3, Result.andThen_ok, run_eql_struct, hr]
    · simp only [Sem.run_bind, run_eqGuard_agg w _ T a b _ _ h3, Result.andThen_ok, run_neq_struct, hr]
  | sl t => cases h1
  | unit => cases h1
  | opq k => cases h1
theorem y_bin (he : EnvOk P e) (hf : FrR e F w s.mem L s.fr vs) (hG : GR e F w s.mem L) {op : BinOp} {T U : TypeId} {x y : Operand} (ho : o.op = .binOp op T x y U) (h : pureOp e s o K = some r) : Yields P F w s.mem L K r (execOp (ev e.N vs) o) := by
  unfold pureOp at h
  simp only [ho] at h
  have hx := av_r hf hG x
  have hy := av_r hf hG y
  split at h
  · rename_i tx x0 ty y0 hx0 hy0
    rw [hx0] at hx
    rw [hy0] at hy
    clear hx0 hy0
    split at h
    · rename_i j x1 k y1
      have hxv := avr_int.1 hx
      have hyv := avr_int.1 hy
      split at h
      · -- shl
        obtain ⟨x2, h1, h2⟩ := bnd_some h
        obtain ⟨e1, e2⟩ := cast_eq h1
        obtain rfl : x1 = x2 := e2
        obtain ⟨h3, h4⟩ := guard_some h2
        rw [Bool.and_eq_true, decide_eq_true_eq] at h3
        refine mk_y _ _ h4 (svr_int _) fun w' => ?_
        unfold execOp
        simp only [ho, hxv, hyv, Sem.run_bind, eqGuard_int, Result.andThen_ok, binOp, Op.shift]
        rw [if_neg (by omega)]
        simp only [Sem.run_pure, Result.andThen_ok]
        rw [shlK_r j x1 _ h3.2]
      · obtain ⟨h3, h4⟩ := guard_some h
        rw [decide_eq_true_eq] at h3
        refine mk_y _ _ h4 (svr_int _) fun w' => ?_
        unfold execOp
        simp only [ho, hxv, hyv, Sem.run_bind, eqGuard_int, Result.andThen_ok, binOp, Op.shift]
        rw [if_neg (by omega)]
        simp only [Sem.run_pure, Result.andThen_ok]
        rw [shrK_r j x1]
      · rename_i hn1 hn2
        obtain ⟨y2, h1, h2⟩ := bnd_some h
        obtain ⟨e1, e2⟩ := cast_eq h1
        injection e1 with e1
        subst e1
        obtain rfl : y1 = y2 := e2
        obtain ⟨a, u, h3, h4, h5⟩ := bin_r (P := P) h2 T ⟨hn1, hn2⟩
        refine mk_y _ u h3 (h4 _ _ _ _) fun w' => ?_
        unfold execOp
        simp only [ho, hxv, hyv, Sem.run_bind, eqGuard_int, Result.andThen_ok, h5, Sem.run_pure]
    · rename_i hnint
      replace h := bnd_some h
      obtain ⟨i, h1, h⟩ := h
      replace h := bnd_some h
      obtain ⟨x2, h2, h⟩ := h
      replace h := bnd_some h
      obtain ⟨y2, h3, h⟩ := h
      replace h := guard_some h
      obtain ⟨h4, h⟩ := h
      obtain ⟨e1, e2⟩ := cast_eq h2
      obtain ⟨e3, e4⟩ := cast_eq h3
      have heq := he.eq T i h1 h4
      have key0 : ∀ {tx ty u : Ty} {x0 : D tx} {y0 : D ty} {x2 y2 : D u} (e1 : tx = u) (e3 : ty = u), e1 ▸ x0 = x2 → e3 ▸ y0 = y2 → AVR F w s.mem L (.dat tx x0) (ev e.N vs x) → AVR F w s.mem L (.dat ty y0) (ev e.N vs y) → (∀ k, tx = .int k → ty ≠ .int k) → AVR F w s.mem L (.dat u x2) (ev e.N vs x) ∧ AVR F w s.mem L (.dat u y2) (ev e.N vs y) ∧ ∀ k, u ≠ .int k := by
        intro tx ty u x0 y0 x2 y2 e1 e3 e2 e4 hx hy hn
        subst e1
        subst e3
        subst e2
        subst e4
        exact ⟨hx, hy, fun k ek => hn k ek ek⟩
      obtain ⟨hx, hy, hni⟩ := key0 e1 e3 e2 e4 hx hy (fun k e5 e6 => by subst e5; subst e6; exact hnint _ _ _ _ rfl HEq.rfl rfl HEq.rfl)
      obtain ⟨cs, rv, rx⟩ := hx
      obtain ⟨ds, sv, ry⟩ := hy
      have key := fun w' => run_eq heq hni x y rx ry w'
      split at h
      · refine mk_y _ _ h (svr_bool _) fun w' => ?_
        have := (key w').1
        unfold execOp
        simp only [ho, rv, sv]
        simp only [Sem.run_bind] at this ⊢
        rw [this]; rfl
      · refine mk_y _ _ h (svr_bool _) fun w' => ?_
        have := (key w').2
        unfold execOp
        simp only [ho, rv, sv]
        simp only [Sem.run_bind] at this ⊢
        rw [this]; rfl
      · cases h
  · cases h
theorem y_un (hf : FrR e F w s.mem L s.fr vs) (hG : GR e F w s.mem L) {op : UnOp} {T : TypeId} {x : Operand} (ho : o.op = .unOp op T x) (h : pureOp e s o K = some r) : Yields P F w s.mem L K r (execOp (ev e.N vs) o) := by
  unfold pureOp at h
  simp only [ho] at h
  have hx := av_r hf hG x
  cases op with
  | not =>
    obtain ⟨q, h1, h2⟩ := bnd_some h
    have hc := asBool_r h1 hx
    refine mk_y _ _ h2 (svr_bool _) fun w' => ?_
    unfold execOp
    simp only [ho, hc, Sem.run_bind, Op.unary, Sem.run_pure, Result.andThen_ok]
  | neg =>
    obtain ⟨q, h1, h2⟩ := bnd_some h
    have hc := asInt_r h1 hx
    obtain ⟨h3, h4⟩ := guard_some h2
    refine mk_y _ _ h4 (svr_int _) fun w' => ?_
    have e1 := subK_r q.k (ofI q.k 0) q.x (by rw [ofI0]; exact h3)
    rw [ofI0] at e1
    unfold execOp
    simp only [ho, hc, Sem.run_bind, Op.unary, Op.intArith, Sem.run_pure, Result.andThen_ok, e1]
  | _ => cases h
theorem y_ext (hf : FrR e F w s.mem L s.fr vs) (hG : GR e F w s.mem L) {x : Operand} {i : Nat} (ho : o.op = .extract x i) (h : pureOp e s o K = some r) : Yields P F w s.mem L K r (execOp (ev e.N vs) o) := by
  unfold pureOp at h
  simp only [ho] at h
  have hx := opd_r hf hG x
  split at h
  · rename_i l hl
    rw [hl] at hx
    obtain ⟨us, hv, h2⟩ := hx
    split at h
    · rename_i a ha
      obtain ⟨u, hu, hr⟩ := h2.getl ha
      refine mk_y _ _ h hr fun w' => ?_
      unfold execOp
      simp [ho, hv, Instr.extract, hu]
    · cases h
  · cases h
theorem y_nil (m : MR P F w0 w s.mem L) (hf : FrR e F w s.mem L s.fr vs) (hG : GR e F w s.mem L) {x : Operand} (ho : o.op = .nilCheck x) (h : pureOp e s o K = some r) : Yields P F w s.mem L K r (execOp (ev e.N vs) o) := by
  unfold pureOp at h
  simp only [ho] at h
  have hx := av_r hf hG x
  split at h
  · rename_i r0 k p hp
    rw [hp] at hx
    refine mk_y _ _ h hx fun w' => ?_
    obtain ⟨a, ha⟩ : ∃ a, ev e.N vs x = .pointer (some a) := by
      cases k with
      | none => obtain ⟨_, g, T, cs, _, h⟩ := hx; exact ⟨_, h⟩
      | some k => obtain ⟨g, T, cs, ts, fs, t, _, _, _, _, h⟩ := hx; exact ⟨_, h⟩
    unfold execOp
    simp [ho, ha]
  · rename_i r0 k p hp
    rw [hp] at hx
    refine mk_y _ _ h hx fun w' => ?_
    obtain ⟨E, zz, u, n, cs, t, l, h1, h2, h3, h4, h5⟩ := hx
    obtain ⟨g, cap, rfl, _⟩ := own_ne m h1 (by omega)
    unfold execOp
    simp [ho, h5, eP]
  · rename_i t y hp
    rw [hp] at hx
    refine mk_y _ _ h hx fun w' => ?_
    obtain ⟨a, cs, ha, _⟩ := hx
    unfold execOp
    simp [ho, ha]
  · rename_i f hp
    rw [hp] at hx
    refine mk_y _ _ h hx fun w' => ?_
    have hx : ev e.N vs x = .func (.func f) #[] #[] := hx
    unfold execOp
    simp [ho, hx]
  · cases h
end
end Go.Proofs.Ytpfoeeiacfadfaa.Q
/-
  Conversions, fields, elements, places, slices, lengths.
-/
namespace Go.Proofs.Ytpfoeeiacfadfaa.Q
open Go.RowKit

section
variable {P : Program} {e : Env} {F : Nat → Prop} {w0 w : World} {L : List Res} {s : St} {vs : List (Nat × Value)} {β : Type} {K : SV → Option β} {r : β} {o : Oper}
theorem svr_str (x : List UInt8) : SVR F w s.mem L (.one (.dat .str x)) (.string ⟨x.toArray⟩) := ⟨[.string ⟨x.toArray⟩], rfl, rfl⟩
theorem cast_r {mem : List Cn} {t u : Ty} {x : D t} {y : D u} {v : Value} (h : cast t u x = some y) (hx : AVR F w mem L (.dat t x) v) : AVR F w mem L (.dat u y) v := by
  obtain ⟨e1, e2⟩ := cast_eq h
  subst e1
  subst e2
  exact hx
theorem y_conv (he : EnvOk P e) (hf : FrR e F w s.mem L s.fr vs) (hG : GR e F w s.mem L) {S T : TypeId} {x : Operand} (ho : o.op = .convert S T x) (h : pureOp e s o K = some r) : Yields P F w s.mem L K r (execOp (ev e.N vs) o) := by
  unfold pureOp at h
  simp only [ho] at h
  have hx := av_r hf hG x
  split at h
  · rename_i tx x0 hx0
    rw [hx0] at hx
    clear hx0
    split at h
    · rename_i j x1 _ _ _ k _ _ hS hT
      have hxv := avr_int.1 hx
      obtain ⟨h3, h4⟩ := guard_some h
      have h1 := (he.T _ _ hS).un
      have h2 := (he.T _ _ hT).un
      simp only at h1 h2
      refine mk_y _ _ h4 (svr_int _) fun w' => ?_
      unfold execOp
      simp only [ho, hxv, Sem.run_bind, convert, run_underlying h1, run_underlying h2, Result.andThen_ok, Conv.intToInt, Sem.run_pure]
      rw [cvK_r j k x1 h3]
    · rename_i x1 _ _ _ _ hS hT
      have hxv := avr_str.1 hx
      have h1 := (he.T _ _ hS).un
      have h2 := (he.T _ _ hT).un
      simp only at h1 h2
      refine mk_y _ _ h (svr_str _) fun w' => ?_
      unfold execOp
      simp only [ho, hxv, Sem.run_bind, convert, run_underlying h1, run_underlying h2, Result.andThen_ok, Sem.run_pure]
    · cases h
  · cases h
theorem blt_lt {a b : Nat} (h : Nat.blt a b = true) : a < b := by simpa [Nat.blt_eq] using h
theorem sty_str {P : Program} {T : TypeId} {i : TI} (h : TIok P T i) {k : Nat} (hk : k < i.fts.length) {y : Sg} {x : D i.t} (hg : get i.t x (fpath' i.fts.length k) = some y) (hne : i.fts.length ≠ 1 → 2 ≤ i.fts.length) : (match i.t with | .pair _ _ => true | .unit => true | _ => false) = true := by
  obtain ⟨t, E, fts⟩ := i
  simp only at *
  have hp : fpath' fts.length k ≠ [] := by
    match fts, hk with
    | [u], hk => simp [fpath']
    | u :: v :: l, hk => cases k <;> simp [fpath', fpath]
  cases t with
  | pair a b => rfl
  | unit => rfl
  | arr n t =>
    match fts, hk, hg with
    | [u], hk, hg => simp [fpath', get] at hg
    | u :: v :: l, hk, hg => cases k <;> simp [fpath', fpath, get] at hg
  | _ =>
    match fts, hk, hg with
    | [u], hk, hg => simp [fpath', get] at hg
    | u :: v :: l, hk, hg => cases k <;> simp [fpath', fpath, get] at hg
theorem y_field (he : EnvOk P e) (hf : FrR e F w s.mem L s.fr vs) (hG : GR e F w s.mem L) {T : TypeId} {x : Operand} {k : Nat} (ho : o.op = .field T x k) (h : pureOp e s o K = some r) : Yields P F w s.mem L K r (execOp (ev e.N vs) o) := by
  unfold pureOp at h
  simp only [ho] at h
  have hx := av_r hf hG x
  split at h
  · rename_i tx x0 hx0
    rw [hx0] at hx
    clear hx0
    replace h := bnd_some h
    obtain ⟨i, h1, h⟩ := h
    replace h := bnd_some h
    obtain ⟨x2, h2, h⟩ := h
    obtain ⟨e1, e2⟩ := cast_eq h2
    subst e1
    obtain rfl : x0 = x2 := e2
    split at h
    · rename_i y hy
      replace h := guard_some h
      obtain ⟨h3, h⟩ := h
      have hk := blt_lt h3
      have ti := he.T _ _ h1
      obtain ⟨fs, hu, hsz, hst, hfs⟩ := ti.str (sty_str ti hk hy (by omega))
      obtain ⟨cs, hv, hr⟩ := hx
      have hk' : i.fts[k]? = some i.fts[k] := List.getElem?_eq_getElem hk
      obtain ⟨p1, p2, p3⟩ := fpath'_ok hk'
      rw [← hst] at p1 p2 p3
      obtain ⟨q1, q2, q3⟩ := get_rc hr p1 hy
      rw [p3] at q3
      have q3 := Option.some.inj q3
      obtain ⟨f, f1, f2, f3, _⟩ := hfs k _ hk'
      rw [q3] at f3
      rw [p2] at q1 q2
      refine mk_y _ _ h ⟨_, rfl, q1⟩ fun w' => ?_
      have hag : agg i.t = true := by have := sty_str ti hk hy (by omega); revert this; cases i.t <;> intro h <;> first | rfl | cases h
      unfold execOp
      simp only [ho, hv, mkV_agg hag, Sem.run_bind, Instr.field, run_underlying hu, Result.andThen_ok, f1, asAgg, Sem.run_pure, f2, f3.part w' cs _ q2]
    · cases h
  · cases h
theorem inB_lt {j : Int} {n : Nat} (h : inB j n = true) : 0 ≤ j ∧ j.toNat < n ∧ j = (j.toNat : Int) ∧ j < (n : Int) := by
  unfold inB at h
  rw [Bool.and_eq_true, decide_eq_true_eq, decide_eq_true_eq] at h
  omega
theorem leB_le {j : Int} {n : Nat} (h : leB j n = true) : 0 ≤ j ∧ j.toNat ≤ n ∧ j = (j.toNat : Int) := by
  unfold leB at h
  rw [Bool.and_eq_true, decide_eq_true_eq, decide_eq_true_eq] at h
  omega
theorem str_get (x : List UInt8) (i : Nat) (h : i < x.length) : (ByteArray.mk x.toArray)[i]? = some (x.getD i 0) := by
  have hlt : i < (ByteArray.mk x.toArray).size := h
  rw [getElem?_pos (ByteArray.mk x.toArray) i hlt, ← getD_some x i 0 h]
  show some (x.toArray[i]'(by simpa using h)) = _
  simp [List.getElem?_eq_getElem h]
theorem y_index (he : EnvOk P e) (hf : FrR e F w s.mem L s.fr vs) (hG : GR e F w s.mem L) {T : TypeId} {x y : Operand} (ho : o.op = .index T x y) (h : pureOp e s o K = some r) : Yields P F w s.mem L K r (execOp (ev e.N vs) o) := by
  unfold pureOp at h
  simp only [ho] at h
  have hx := av_r hf hG x
  have hy := av_r hf hG y
  replace h := bnd_some h
  obtain ⟨i, h1, h⟩ := h
  replace h := bnd_some h
  obtain ⟨j, h2, h⟩ := h
  obtain ⟨k, hyv⟩ := asIdx_r h2 hy
  split at h
  · rename_i tx x0 hx0
    rw [hx0] at hx
    clear hx0
    replace h := bnd_some h
    obtain ⟨x2, h3, h⟩ := h
    replace hx := cast_r h3 hx
    have ti := he.T _ _ h1
    have hun := ti.un
    clear h3 h1 ti
    obtain ⟨t, E, fts⟩ := i
    simp only at hun hx h x2
    split at h
    · rename_i n t x1
      obtain ⟨hu, hE, hz⟩ := hun
      replace h := guard_some h
      obtain ⟨h4, h⟩ := h
      obtain ⟨b1, b2, b3, b4⟩ := inB_lt h4
      obtain ⟨cs, hv, hn, hr⟩ := avr_arr hx
      have hl := hr.len
      have hg := hr.get (getD_some (α := D t) x1 j.toNat (zv t) (by rw [hn]; exact b2))
      have hle : j.toNat * z t + z t ≤ cs.length := by
        rw [hl, hn, show j.toNat * z t + z t = (j.toNat + 1) * z t by rw [Nat.add_mul]; omega]
        exact Nat.mul_le_mul_right _ b2
      refine mk_y _ _ h ⟨_, rfl, hg⟩ fun w' => ?_
      unfold execOp
      simp only [ho, hv, hyv, Sem.run_bind, Instr.index, asIntOf, Sem.run_pure, run_underlying hu, Result.andThen_ok]
      rw [if_pos ⟨b1, b4⟩]
      simp only [Sem.run_bind, hE.sizeOf, Result.andThen_ok, hE.part w' cs _ hle]
    · rename_i x1
      replace h := guard_some h
      obtain ⟨h4, h⟩ := h
      obtain ⟨b1, b2, b3, b4⟩ := inB_lt h4
      have hv := avr_str.1 hx
      refine mk_y _ _ h (svr_int (k := .u8) _) fun w' => ?_
      have hget := str_get x1 j.toNat b2
      unfold execOp
      simp only [ho, hv, hyv, Sem.run_bind, Instr.index, asIntOf, Sem.run_pure, run_underlying hun, Result.andThen_ok]
      rw [if_pos b1, hget]
      rfl
    · cases h
  · cases h
theorem y_len (he : EnvOk P e) (m : MR P F w0 w s.mem L) (hf : FrR e F w s.mem L s.fr vs) (hG : GR e F w s.mem L) {c : Call} (ho : o.op = .call c) (h : pureOp e s o K = some r) : Yields P F w s.mem L K r (execOp (ev e.N vs) o) := by
  unfold pureOp at h
  simp only [ho] at h
  obtain ⟨cal, args, ats⟩ := c
  simp only at h
  split at h
  · split at h
    · rename_i x T ha hat
      have e1 : args = #[x] := by rw [← Array.toArray_toList (xs := args), ha]
      have e2 : ats = #[T] := by rw [← Array.toArray_toList (xs := ats), hat]
      subst e1
      subst e2
      have hx := av_r hf hG x
      replace h := bnd_some h
      obtain ⟨i, h1, h⟩ := h
      have hun := (he.T _ _ h1).un
      have slen : ∀ {E : TypeId} {ao : Option Addr} {n cap : Nat}, P.underlying T = some (.slice E) → ev e.N vs x = .slice ao n cap → ∀ w', (execOp (ev e.N vs) o).run P w' = .ok (.value (.int .i64 (n : Int))) w' := by
        intro E ao n cap hu hv w'
        unfold execOp
        simp only [ho, resolve, invoke, builtin, Sem.run_bind, Sem.run_pure, Result.andThen_ok, List.map_toArray, List.map_cons, List.map_nil, hv]
        simp [Builtin.len_, run_underlying hu, goInt]
      split at h
      · rename_i tx x0 hx0
        rw [hx0] at hx
        clear hx0
        replace h := bnd_some h
        obtain ⟨x2, h3, h⟩ := h
        replace hx := cast_r h3 hx
        clear h3 h1
        obtain ⟨t, E, fts⟩ := i
        simp only at hun hx h x2
        split at h
        · rename_i t x1
          obtain ⟨ao, cap, ics, hv, _⟩ := avr_sl hx
          exact mk_y _ _ h (svr_int (k := .i64) _) (slen hun.1 hv)
        · rename_i x1
          have hv := avr_str.1 hx
          refine mk_y _ _ h (svr_int (k := .i64) _) fun w' => ?_
          unfold execOp
          simp only [ho, resolve, invoke, builtin, Sem.run_bind, Sem.run_pure, Result.andThen_ok, List.map_toArray, List.map_cons, List.map_nil, hv]
          simp [Builtin.len_, run_underlying hun, goInt, toI]
          rfl
        · rename_i n t
          refine mk_y _ _ h (svr_int (k := .i64) _) fun w' => ?_
          unfold execOp
          simp only [ho, resolve, invoke, builtin, Sem.run_bind, Sem.run_pure, Result.andThen_ok, List.map_toArray, List.map_cons, List.map_nil]
          simp [Builtin.len_, run_underlying hun.1, goInt, toI]
        · cases h
      · rename_i hx0
        rw [hx0] at hx
        split at h
        · rename_i t ht
          rw [ht] at hun
          exact mk_y _ _ h (svr_int (k := .i64) _) (slen hun.1 hx)
        · cases h
      · rename_i q hx0
        rw [hx0] at hx
        split at h
        · rename_i t _ l ht hm
          rw [ht] at hun
          obtain ⟨E, zz, n, cs, hL⟩ := hx
          obtain ⟨E', v', cs', hc, _⟩ := m.cn q _ _ hm hL
          injection hc with _ _ _ hn _
          subst hn
          by_cases h0 : l.length = 0
          · have hk := m.mo.ok q _ hL
            rcases hk.2 with ⟨hv, _⟩ | ⟨g, cap, cur, hv, _⟩
            · refine mk_y _ _ h (svr_int (k := .i64) _) ?_
              rw [h0]
              exact slen hun.1 hv
            · exact mk_y _ _ h (svr_int (k := .i64) _) (slen hun.1 hv)
          · obtain ⟨g, cap, hv, _⟩ := own_ne m hL (by omega)
            exact mk_y _ _ h (svr_int (k := .i64) _) (slen hun.1 hv)
        · cases h
      · rename_i q lo hi hx0
        rw [hx0] at hx
        split at h
        · rename_i t ht
          rw [ht] at hun
          obtain ⟨E, zz, u, n, cs, hL, hv, _⟩ := hx
          have hk := m.mo.ok q _ hL
          rcases hk.2 with ⟨hu, _⟩ | ⟨g, cap, cur, hu, _⟩ <;> rw [hu] at hv <;> exact mk_y _ _ h (svr_int (k := .i64) _) (slen hun.1 hv)
        · cases h
      · rename_i q k p lo hi hx0
        rw [hx0] at hx
        split at h
        · rename_i t ht
          rw [ht] at hun
          obtain ⟨g, T', cs, ts, fs, t', n, te, _, _, _, _, _, _, _, _, hv⟩ := hx
          exact mk_y _ _ h (svr_int (k := .i64) _) (slen hun.1 hv)
        · cases h
      · cases h
    · cases h
  · split at h
    · rename_i x y ha
      have e1 : args = #[x, y] := by rw [← Array.toArray_toList (xs := args), ha]
      subst e1
      have hx := av_r hf hG x
      have hy := av_r hf hG y
      replace h := bnd_some h
      obtain ⟨i, h1, h⟩ := h
      replace h := bnd_some h
      obtain ⟨j, h2, h⟩ := h
      replace h := bnd_some h
      obtain ⟨y1, h3, h⟩ := h
      have hxv := asInt_r h1 hx
      have hyv := asInt_r h2 hy
      obtain ⟨k, y0⟩ := j
      obtain ⟨k', x0⟩ := i
      simp only at *
      obtain ⟨e1, e2⟩ := cast_eq h3
      injection e1 with e1
      subst e1
      obtain rfl : y0 = y1 := e2
      refine mk_y _ _ h (svr_int (k := k) _) fun w' => ?_
      have hl := ltK_r k y0 x0
      have key : (if toI k y0 < toI k x0 then toI k y0 else toI k x0) = toI k (match ltK k y0 x0 with | true => y0 | false => x0) := by
        by_cases hlt : toI k y0 < toI k x0
        · rw [if_pos hlt]; rw [decide_eq_true hlt] at hl; rw [← hl]
        · rw [if_neg hlt]; rw [decide_eq_false hlt] at hl; rw [← hl]
      unfold execOp
      simp only [ho, hxv, hyv, resolve, invoke, builtin, Builtin.min_, Builtin.min2, Sem.run_bind, Sem.run_pure, Result.andThen_ok, List.map_toArray, List.map_cons, List.map_nil, List.foldlM_cons, List.foldlM_nil, key]
      rfl
    · cases h
  · split at h
    · rename_i x y ha
      have e1 : args = #[x, y] := by rw [← Array.toArray_toList (xs := args), ha]
      subst e1
      have hx := av_r hf hG x
      have hy := av_r hf hG y
      replace h := bnd_some h
      obtain ⟨i, h1, h⟩ := h
      replace h := bnd_some h
      obtain ⟨j, h2, h⟩ := h
      replace h := bnd_some h
      obtain ⟨y1, h3, h⟩ := h
      have hxv := asInt_r h1 hx
      have hyv := asInt_r h2 hy
      obtain ⟨k, y0⟩ := j
      obtain ⟨k', x0⟩ := i
      simp only at *
      obtain ⟨e1, e2⟩ := cast_eq h3
      injection e1 with e1
      subst e1
      obtain rfl : y0 = y1 := e2
      refine mk_y _ _ h (svr_int (k := k) _) fun w' => ?_
      have hl := ltK_r k x0 y0
      have key : (if toI k y0 > toI k x0 then toI k y0 else toI k x0) = toI k (match ltK k x0 y0 with | true => y0 | false => x0) := by
        by_cases hlt : toI k x0 < toI k y0
        · rw [if_pos hlt]; rw [decide_eq_true hlt] at hl; rw [← hl]
        · rw [if_neg hlt]; rw [decide_eq_false hlt] at hl; rw [← hl]
      unfold execOp
      simp only [ho, hxv, hyv, resolve, invoke, builtin, Builtin.max_, Builtin.max2, Sem.run_bind, Sem.run_pure, Result.andThen_ok, List.map_toArray, List.map_cons, List.map_nil, List.foldlM_cons, List.foldlM_nil, key]
      rfl
    · cases h
  · cases h
end
end Go.Proofs.Ytpfoeeiacfadfaa.Q
