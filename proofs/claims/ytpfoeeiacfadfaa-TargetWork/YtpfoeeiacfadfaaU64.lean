/-
  Plain facts on slices of uint64 in memory: what a slice reads as, what a call owns, and what append does to it.
  Conditions: the element type is uint64; lengths within 2^40.
-/
import Derived.Test.YtpfoeeiacfadfaaBytes
namespace Go.Proofs.Ytpfoeeiacfadfaa
open Go.RowKit

/-- The cells of numbers. -/
def c64 (l : List Nat) : List Value := l.map (fun n : Nat => Value.int .u64 (n : Int))
theorem c64_length (l : List Nat) : (c64 l).length = l.length := by simp [c64]
theorem c64_append (l m : List Nat) : c64 (l ++ m) = c64 l ++ c64 m := by simp [c64]
theorem c64_one (l : List Nat) : ∀ u ∈ c64 l, u.oneCell' = true := by
  intro u hu
  simp [c64] at hu
  obtain ⟨c, _, rfl⟩ := hu
  rfl

/-- THE SLICE v READS AS THE NUMBERS l. -/
def Rw (w : World) (v : Value) (l : List Nat) : Prop :=
  ∃ ao cap, v = .slice ao l.length cap ∧ l.length ≤ cap ∧ (ao = none → cap = 0) ∧
    ∀ a, ao = some a → ∀ j u, (c64 l)[j]? = some u → w.cell? (a.add j) = some u

theorem Rw.gr {w w' : World} {v : Value} {l : List Nat} (h : Rw w v l) (hb : Gr w w') : Rw w' v l := by
  obtain ⟨ao, cap, rfl, h1, h2, h3⟩ := h
  refine ⟨ao, cap, rfl, h1, h2, fun a ha j u hu => ?_⟩
  have hc := h3 a ha j u hu
  rw [Below.cell hb (World.block_lt_of_cell? w _ hc)]
  exact hc
theorem Rw.drewN {w : World} {v : Value} {l : List Nat} (h : Rw w v l) (k : Nat) : Rw (w.drewN k) v l := by
  obtain ⟨ao, cap, rfl, h1, h2, h3⟩ := h
  exact ⟨ao, cap, rfl, h1, h2, fun a ha j u hu => by rw [World.cell?_drewN]; exact h3 a ha j u hu⟩
theorem Rw.len {w : World} {v : Value} {l : List Nat} (h : Rw w v l) : ∃ ao cap, v = .slice ao l.length cap := by
  obtain ⟨ao, cap, rfl, _⟩ := h
  exact ⟨ao, cap, rfl⟩
theorem Rw.nil (w : World) : Rw w (.slice none 0 0) [] := ⟨none, 0, rfl, Nat.le_refl _, fun _ => rfl, fun a h => by cases h⟩

/-- Where there is an element. -/
theorem Rw.at {w : World} {v : Value} {l : List Nat} (h : Rw w v l) (hl : 0 < l.length) :
    ∃ b off cap, v = .slice (some ⟨b, off, none⟩) l.length cap ∧ l.length ≤ cap ∧ ∀ i (hi : i < l.length), w.cell? ⟨b, off + i, none⟩ = some (.int .u64 ((l[i] : Nat) : Int)) := by
  obtain ⟨ao, cap, rfl, h1, h2, h3⟩ := h
  cases ao with
  | none => have := h2 rfl; omega
  | some a =>
    have hc := h3 a rfl 0 (.int .u64 ((l[0] : Nat) : Int)) (by simp [c64, hl])
    have hs := World.cell?_spot hc
    obtain ⟨b, off, sp⟩ := a
    simp [Addr.add] at hs
    subst hs
    refine ⟨b, off, cap, rfl, h1, fun i hi => ?_⟩
    have := h3 _ rfl i (.int .u64 ((l[i] : Nat) : Int)) (by simp [c64, hi])
    rwa [Addr.add_lit] at this

/-- THE SLICE v IS THE CALL's OWN (blocks from base on), AND HAS THE NUMBERS l. -/
def Ow (E : TypeId) (base : Nat) (w : World) (v : Value) (l : List Nat) : Prop := w.ownsRow base E 1 v l.length (c64 l)
theorem Ow.rw {E : TypeId} {base : Nat} {w : World} {v : Value} {l : List Nat} (h : Ow E base w v l) : Rw w v l := by
  have hh := h
  obtain ⟨h1, h2⟩ := h
  rcases h2 with ⟨rfl, hn⟩ | ⟨g, cap, cur, rfl, hb, hg, hnc, hcm, hcs, htake⟩
  · have : l = [] := List.eq_nil_of_length_eq_zero hn
    subst this
    exact Rw.nil _
  · refine ⟨some ⟨g, 0, none⟩, cap, rfl, hnc, (fun h => by cases h), fun a ha j u hu => ?_⟩
    obtain rfl := Option.some.inj ha
    exact World.ownsRow.cells hh (g := g) rfl j u hu
theorem Ow.keep {E : TypeId} {base : Nat} {w w' : World} {v : Value} {l : List Nat} (h : Ow E base w v l) (hb : Gr w w') : Ow E base w' v l := by
  refine ⟨h.1, ?_⟩
  rcases h.2 with hn | ⟨g, cap, cur, rfl, hbg, hgg, rest⟩
  · exact .inl hn
  · refine .inr ⟨g, cap, cur, rfl, hbg, ?_, rest⟩
    rw [Below.block hb g (World.ownsRow.lt h g rfl).2]
    exact hgg
/-- []uint64{}: a new row of no cells. -/
theorem Ow.empty (E : TypeId) (base : Nat) (w : World) (hb : base ≤ w.heap.size) : Ow E base (w.alloc (.cells #[] E)) (.slice (some ⟨w.heap.size, 0, none⟩) 0 0) [] :=
  World.ownsRow_made (base := base) (e := E) (size := 1) w #[] 0 hb (Nat.zero_le _) rfl
/-- []uint64{..}: new cells, written out. -/
theorem Rw.lit (E : TypeId) (w : World) (l : List Nat) (cs : Array Value) (hcs : cs = (c64 l).toArray) (n : Nat) (hn : n = l.length) : Rw (w.alloc (.cells cs E)) (.slice (some ⟨w.heap.size, 0, none⟩) n n) l := by
  subst hcs hn
  refine ⟨some ⟨w.heap.size, 0, none⟩, l.length, rfl, Nat.le_refl _, (fun h => by cases h), fun a ha j u hu => ?_⟩
  obtain rfl := Option.some.inj ha
  rw [Addr.add_lit, World.cell?_alloc_at _ _ _ _ rfl]
  simpa using hu

/-- The program's types: T is []uint64, E is uint64. -/
structure WT (P : Program) (T E : TypeId) : Prop where
  sl : P.underlying T = some (.slice E)
  el : P.underlying E = some (.int .u64)
  info : (P.info? E).map (fun i => (i.zero, i.size, i.bytes)) = some (some (.int .u64 0), 1, 8)

section
variable {P : Program} {T E : TypeId}

theorem run_append_rw (t : WT P T E) (ty : TypeId) (w : World) (base : Nat) (v u : Value) (l m : List Nat) (hown : Ow E base w v l) (hrd : Rw w u m) (hlen : l.length + m.length ≤ 1099511627776) (hbase : base ≤ w.heap.size) :
    ∃ v' w', (Builtin.append_ #[T, T] ty #[v, u]).run P w = .ok v' w' ∧ Ow E base w' v' (l ++ m) ∧ w.grownBy w' v.ownBlock := by
  obtain ⟨i0, hi, hz0, hz1, hz2⟩ := info_parts t.info
  obtain ⟨ao, cap, rfl, h1, h2, h3⟩ := hrd
  cases ao with
  | none =>
    have hc := h2 rfl
    have hm : m = [] := List.eq_nil_of_length_eq_zero (by omega)
    subst hm hc
    refine ⟨v, w, ?_, by simpa using hown, World.grownBy.refl _ _⟩
    exact run_append_owned_none (P := P) (w := w) base T ty E i0 1 t.sl hi v l.length (c64 l) hown
  | some a =>
    obtain ⟨v', w', hr, h4, h5, _⟩ := run_append_own (P := P) w base T ty E i0 (.int .u64 0) 1 8 t.sl hi hz0 hz1 hz2 rfl (by decide) v l.length (c64 l) hown
      a m.length cap (c64 m) (by simp [c64]) (fun j u hu => h3 a rfl j u hu) (c64_one m) (by unfold maxLen; omega) (by omega) hbase
    refine ⟨v', w', hr, ?_, h5⟩
    unfold Ow
    rw [c64_append, List.length_append]
    exact h4

/-- append(own, read...) -/
theorem wpList_append_rw (t : WT P T E) {w : World} {ops : Array Oper} {rest : List Oper} {o : Oper} {a : Act} {Q : Exit → Act → World → Prop} (hgd : o.guard = none) (s x : Operand)
    (ho : o.op = .call { callee := .builtin .append, args := #[s, x], argTypes := #[T, T] })
    (base : Nat) (v u : Value) (l m : List Nat) (hs : a.eval s = v) (hown : Ow E base w v l) (hx : a.eval x = u) (hrd : Rw w u m) (hlen : l.length + m.length ≤ 1099511627776) (hbase : base ≤ w.heap.size)
    (h : ∀ v' w', Ow E base w' v' (l ++ m) → Below base w w' → wpList P ops Q rest (a.put o.dst v') w') : wpList P ops Q (o :: rest) a w := by
  refine wpList_plain hgd fun K hK => ?_
  obtain ⟨v', w', hr, h1, h2⟩ := run_append_rw t o.type w base v u l m hown hrd hlen hbase
  unfold Oper.wp execOp
  simp only [ho, resolve, invoke, builtin, Sem.run_bind, Sem.run_pure, Result.andThen_ok, List.map_toArray, List.map_cons, List.map_nil, hs, hx, hr]
  exact hK _ _ (h v' w' h1 ((Below.refl base w).grown h2 hbase fun k hk => (World.ownsRow.lt hown k hk).1))
end

/-- Numbers that came in. -/
def natsOf (zs : List Int) : List Nat := zs.map Int.toNat

end Go.Proofs.Ytpfoeeiacfadfaa
