/-
  Plain facts on slices of bytes in memory: what a slice reads as, what a call owns, and what append, make, slicing and string(..) do to it.
  Conditions: the element type is uint8; lengths within 2^46.
-/
import Derived.WalkKit
import Derived.Laws.AppendOwnNone
import Derived.Laws.BytesString
import Derived.WalkSpells
import Derived.Deep.Draws
namespace Go.Proofs.Ytpfoeeiacfadfaa
open Go.RowKit

/-- The cells of bytes. -/
def cellsOf (l : List UInt8) : List Value := l.map (fun c => Value.int .u8 (c.toNat : Int))

theorem cellsOf_length (l : List UInt8) : (cellsOf l).length = l.length := by simp [cellsOf]
theorem cellsOf_get {l : List UInt8} {j : Nat} {u : Value} (h : (cellsOf l)[j]? = some u) : ∃ hj : j < l.length, u = .int .u8 (l[j].toNat : Int) := by
  obtain ⟨hj, h2⟩ := List.getElem?_eq_some_iff.1 h
  have hj' : j < l.length := by simpa [cellsOf] using hj
  exact ⟨hj', by rw [← h2]; simp [cellsOf]⟩

/-- THE SLICE v READS AS THE BYTES l, in blocks below B. -/
def Rd (B : Nat) (w : World) (v : Value) (l : List UInt8) : Prop :=
  ∃ ao cap, v = .slice ao l.length cap ∧ l.length ≤ cap ∧ (ao = none → cap = 0) ∧
    ∀ a, ao = some a → ∀ j u, (cellsOf l)[j]? = some u → w.cell? (a.add j) = some u ∧ a.block < B

/-- THE SLICE v IS THE CALL's OWN (blocks from base on), AND HAS THE BYTES l. -/
def Own (E : TypeId) (base : Nat) (w : World) (v : Value) (l : List UInt8) : Prop := w.ownsRow base E 1 v l.length (cellsOf l)

theorem add_block (a : Addr) (j : Nat) : (a.add j).block = a.block := by unfold Addr.add; split <;> rfl

theorem Rd.mono {B B' : Nat} {w : World} {v : Value} {l : List UInt8} (h : Rd B w v l) (hB : B ≤ B') : Rd B' w v l := by
  obtain ⟨ao, cap, rfl, h1, h2, h3⟩ := h
  exact ⟨ao, cap, rfl, h1, h2, fun a ha j u hu => ⟨(h3 a ha j u hu).1, Nat.lt_of_lt_of_le (h3 a ha j u hu).2 hB⟩⟩

theorem Rd.self {B : Nat} {w : World} {v : Value} {l : List UInt8} (h : Rd B w v l) : Rd w.heap.size w v l := by
  obtain ⟨ao, cap, rfl, h1, h2, h3⟩ := h
  refine ⟨ao, cap, rfl, h1, h2, fun a ha j u hu => ⟨(h3 a ha j u hu).1, ?_⟩⟩
  have := World.block_lt_of_cell? w (a.add j) (h3 a ha j u hu).1
  rwa [add_block] at this

theorem Rd.below {B : Nat} {w w' : World} {v : Value} {l : List UInt8} (h : Rd B w v l) (hb : Below B w w') : Rd B w' v l := by
  obtain ⟨ao, cap, rfl, h1, h2, h3⟩ := h
  refine ⟨ao, cap, rfl, h1, h2, fun a ha j u hu => ⟨?_, (h3 a ha j u hu).2⟩⟩
  rw [hb.cell (by rw [add_block]; exact (h3 a ha j u hu).2)]
  exact (h3 a ha j u hu).1

/-- Behind a call that only makes memory. -/
theorem Rd.grow {B : Nat} {w w' : World} {v : Value} {l : List UInt8} (h : Rd B w v l) (hb : Below w.heap.size w w') : Rd B w' v l := by
  have hs := h.self.below hb
  obtain ⟨ao, cap, rfl, h1, h2, h3⟩ := h
  obtain ⟨ao', cap', e, _, _, h6⟩ := hs
  simp only [Value.slice.injEq] at e
  obtain ⟨rfl, _, rfl⟩ := e
  exact ⟨ao, cap, rfl, h1, h2, fun a ha j u hu => ⟨(h6 a ha j u hu).1, (h3 a ha j u hu).2⟩⟩

theorem Rd.len {B : Nat} {w : World} {v : Value} {l : List UInt8} (h : Rd B w v l) : ∃ ao cap, v = .slice ao l.length cap := by
  obtain ⟨ao, cap, rfl, _⟩ := h
  exact ⟨ao, cap, rfl⟩

theorem Rd.nil (B : Nat) (w : World) : Rd B w (.slice none 0 0) [] := ⟨none, 0, rfl, Nat.le_refl _, fun _ => rfl, fun a h => by cases h⟩

/-- Where there is an element. -/
theorem Rd.at {B : Nat} {w : World} {v : Value} {l : List UInt8} (h : Rd B w v l) (hl : 0 < l.length) :
    ∃ b off cap, v = .slice (some ⟨b, off, none⟩) l.length cap ∧ l.length ≤ cap ∧ b < B ∧ ∀ i (hi : i < l.length), w.cell? ⟨b, off + i, none⟩ = some (.int .u8 (l[i].toNat : Int)) := by
  obtain ⟨ao, cap, rfl, h1, h2, h3⟩ := h
  cases ao with
  | none => have := h2 rfl; omega
  | some a =>
    have hc := h3 a rfl 0 (.int .u8 (l[0].toNat : Int)) (by simp [cellsOf, hl])
    have hs := World.cell?_spot hc.1
    obtain ⟨b, off, sp⟩ := a
    simp [Addr.add] at hs
    subst hs
    refine ⟨b, off, cap, rfl, h1, hc.2, fun i hi => ?_⟩
    have := (h3 _ rfl i (.int .u8 (l[i].toNat : Int)) (by simp [cellsOf, hi])).1
    rwa [Addr.add_lit] at this

theorem Own.rd {E : TypeId} {base : Nat} {w : World} {v : Value} {l : List UInt8} (h : Own E base w v l) : Rd w.heap.size w v l := by
  have hh := h
  obtain ⟨h1, h2⟩ := h
  rcases h2 with ⟨rfl, hn⟩ | ⟨g, cap, cur, rfl, hb, hg, hnc, hcm, hcs, htake⟩
  · have : l = [] := List.eq_nil_of_length_eq_zero hn
    subst this
    exact Rd.nil _ _
  · refine ⟨some ⟨g, 0, none⟩, cap, rfl, hnc, (fun h => by cases h), fun a ha j u hu => ?_⟩
    obtain rfl := Option.some.inj ha
    exact ⟨World.ownsRow.cells hh (g := g) rfl j u hu, (Array.getElem?_eq_some_iff.1 hg).1⟩

theorem Own.grow {E : TypeId} {base B : Nat} {w w' : World} {v : Value} {l : List UInt8} (h : Own E base w v l) (hb : Below B w w') (hB : ∀ k, v.ownBlock = some k → k < B) : Own E base w' v l := by
  refine ⟨h.1, ?_⟩
  rcases h.2 with hn | ⟨g, cap, cur, rfl, hbg, hgg, rest⟩
  · exact .inl hn
  · refine .inr ⟨g, cap, cur, rfl, hbg, ?_, rest⟩
    rw [hb.block g (hB g rfl)]
    exact hgg

theorem Own.keep {E : TypeId} {base : Nat} {w w' : World} {v : Value} {l : List UInt8} (h : Own E base w v l) (hb : Below w.heap.size w w') : Own E base w' v l :=
  h.grow hb fun k hk => (World.ownsRow.lt h k hk).2

theorem Own.mono {E : TypeId} {base base' : Nat} {w : World} {v : Value} {l : List UInt8} (h : Own E base w v l) (hB : base' ≤ base) : Own E base' w v l := by
  refine ⟨h.1, ?_⟩
  rcases h.2 with hn | ⟨g, cap, cur, rfl, hbg, hgg, rest⟩
  · exact .inl hn
  · exact .inr ⟨g, cap, cur, rfl, by omega, hgg, rest⟩

theorem Own.alloc {E : TypeId} {base : Nat} {w : World} {v : Value} {l : List UInt8} (h : Own E base w v l) (o : Obj) : Own E base (w.alloc o) v l := World.ownsRow.alloc h o
theorem Own.nil (E : TypeId) (base : Nat) (w : World) : Own E base w (.slice none 0 0) [] := World.ownsRow_nil w base E 1

/-- The world has only grown. -/
def Gr (w w' : World) : Prop := Below w.heap.size w w'
theorem Gr.refl (w : World) : Gr w w := Below.refl _ _
theorem Gr.trans {a b c : World} (h : Gr a b) (k : Gr b c) : Gr a c := Below.trans h (Below.mono k (Below.size h))

/-- Read in the world as it stands. -/
def Rs (w : World) (v : Value) (l : List UInt8) : Prop := Rd w.heap.size w v l
theorem Rs.gr {w w' : World} {v : Value} {l : List UInt8} (h : Rs w v l) (hg : Gr w w') : Rs w' v l := (Rd.grow h hg).mono (Below.size hg)
theorem Rd.rs {B : Nat} {w : World} {v : Value} {l : List UInt8} (h : Rd B w v l) : Rs w v l := h.self
theorem Rs.drewN {w : World} {v : Value} {l : List UInt8} (h : Rs w v l) (k : Nat) : Rs (w.drewN k) v l := by
  obtain ⟨ao, cap, rfl, h1, h2, h3⟩ := h
  exact ⟨ao, cap, rfl, h1, h2, fun a ha j u hu => ⟨by rw [World.cell?_drewN]; exact (h3 a ha j u hu).1, (h3 a ha j u hu).2⟩⟩

/-- The program's types: T is []byte, E is byte. -/
structure BT (P : Program) (T E : TypeId) : Prop where
  sl : P.underlying T = some (.slice E)
  el : P.underlying E = some (.int .u8)
  info : (P.info? E).map (fun i => (i.zero, i.size, i.bytes)) = some (some (.int .u8 0), 1, 1)

section
variable {P : Program} {T E : TypeId}

end

/-- v[k:], as the walk spells it. -/
theorem Rd.drop {B : Nat} {w : World} {b off n cap k : Nat} {l : List UInt8} (h : Rd B w (.slice (some ⟨b, off, none⟩) n cap) l) (hk : k ≤ l.length) (b' o' n' c' : Nat) (ha : l.length = k ∨ (b' = b ∧ o' = off + k)) (hn : n' = l.length - k) (hc : l.length - k ≤ c') :
    Rd B w (.slice (some ⟨b', o', none⟩) n' c') (l.drop k) := by
  obtain ⟨ao', cap', e, h3, h4, h5⟩ := h
  simp only [Value.slice.injEq] at e
  obtain ⟨rfl, rfl, rfl⟩ := e
  refine ⟨some ⟨b', o', none⟩, c', by simp [hn], by simp; omega, (fun h => by cases h), fun a ha' j u hu => ?_⟩
  obtain rfl := Option.some.inj ha'
  obtain ⟨hj, rfl⟩ := cellsOf_get hu
  simp only [List.length_drop] at hj
  rcases ha with ha | ⟨rfl, rfl⟩
  · omega
  · have := h5 _ rfl (k + j) (.int .u8 (l[k + j].toNat : Int)) (by simp [cellsOf, show k + j < l.length by omega])
    rw [Addr.add_lit] at this ⊢
    rw [Nat.add_assoc]
    refine ⟨?_, this.2⟩
    rw [this.1]
    simp [List.getElem_drop]

/-- v[:k], as the walk spells it. -/
theorem Rd.take {B : Nat} {w : World} {ao : Option Addr} {n cap k : Nat} {l : List UInt8} (h : Rd B w (.slice ao n cap) l) (hk : k ≤ l.length) (n' : Nat) (hn : n' = k) : Rd B w (.slice ao n' cap) (l.take k) := by
  obtain ⟨ao', cap', e, h3, h4, h5⟩ := h
  simp only [Value.slice.injEq] at e
  obtain ⟨rfl, rfl, rfl⟩ := e
  refine ⟨ao, cap, by simp [hn, hk], by simp; omega, h4, fun a ha j u hu => ?_⟩
  obtain ⟨hj, rfl⟩ := cellsOf_get hu
  simp only [List.length_take] at hj
  have := h5 a ha j (.int .u8 (l[j].toNat : Int)) (by simp [cellsOf, show j < l.length by omega])
  refine ⟨?_, this.2⟩
  rw [this.1]
  simp

theorem Rd.drewN {B : Nat} {w : World} {v : Value} {l : List UInt8} (h : Rd B w v l) (k : Nat) : Rd B (w.drewN k) v l := by
  obtain ⟨ao, cap, rfl, h1, h2, h3⟩ := h
  exact ⟨ao, cap, rfl, h1, h2, fun a ha j u hu => ⟨by rw [World.cell?_drewN]; exact (h3 a ha j u hu).1, (h3 a ha j u hu).2⟩⟩

theorem Below.drewN' (B : Nat) (w : World) (k : Nat) : Below B w (w.drewN k) := ⟨rfl, rfl, rfl, Nat.le_refl _, fun _ _ => rfl⟩

/-- []byte{}: a new row of no cells. -/
theorem Own.empty (E : TypeId) (base : Nat) (w : World) (hb : base ≤ w.heap.size) : Own E base (w.alloc (.cells #[] E)) (.slice (some ⟨w.heap.size, 0, none⟩) 0 0) [] :=
  World.ownsRow_made (base := base) (e := E) (size := 1) w #[] 0 hb (Nat.zero_le _) rfl

/-- []byte{..}: new cells, written out. -/
theorem Rd.lit (E : TypeId) (w : World) (l : List UInt8) (cs : Array Value) (hcs : cs = (cellsOf l).toArray) (n : Nat) (hn : n = l.length) : Rd (w.heap.size + 1) (w.alloc (.cells cs E)) (.slice (some ⟨w.heap.size, 0, none⟩) n n) l := by
  subst hcs hn
  refine ⟨some ⟨w.heap.size, 0, none⟩, l.length, rfl, Nat.le_refl _, (fun h => by cases h), fun a ha j u hu => ?_⟩
  obtain rfl := Option.some.inj ha
  rw [Addr.add_lit]
  refine ⟨?_, Nat.lt_succ_self _⟩
  rw [World.cell?_alloc_at _ _ _ _ rfl]
  simpa using hu

/-- []byte{x}: one new cell. -/
theorem Rd.one (E : TypeId) (w : World) (c : UInt8) (z : Int) (hz : z = (c.toNat : Int)) : Rd (w.heap.size + 1) (w.alloc (.cells #[.int .u8 z] E)) (.slice (some ⟨w.heap.size, 0, none⟩) 1 1) [c] := by
  subst hz
  refine ⟨some ⟨w.heap.size, 0, none⟩, 1, rfl, Nat.le_refl _, (fun h => by cases h), fun a ha j u hu => ?_⟩
  obtain rfl := Option.some.inj ha
  obtain ⟨hj, rfl⟩ := cellsOf_get hu
  simp at hj
  subst hj
  simp [Addr.add]

/-- Bytes that came in as numbers. -/
def bytesOf (zs : List Int) : List UInt8 := zs.map fun z => UInt8.ofNat z.toNat

end Go.Proofs.Ytpfoeeiacfadfaa
