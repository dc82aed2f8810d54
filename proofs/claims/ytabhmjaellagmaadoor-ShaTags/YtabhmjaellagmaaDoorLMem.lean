/-
  Plain facts on slices of slices of bytes in memory: what such a slice reads as, what a call owns, and what append does to it.
  Conditions: the element types are []byte and byte; lengths within 2^40.
-/
import Derived.Test.YtabhmjaellagmaaDoorBytes
namespace Go.Proofs.YtabhmjaellagmaaDoor
open Go.RowKit

/-- THE SLICE v READS AS THE STRINGS ls, in blocks below B. -/
def RdL (B : Nat) (w : World) (v : Value) (ls : List (List UInt8)) : Prop :=
  ∃ ao cap, v = .slice ao ls.length cap ∧ ls.length ≤ cap ∧ (ao = none → cap = 0) ∧
    ∀ a, ao = some a → ∀ j (hj : j < ls.length), ∃ u, w.cell? (a.add j) = some u ∧ a.block < B ∧ Rd B w u ls[j]

theorem RdL.len {B : Nat} {w : World} {v : Value} {ls : List (List UInt8)} (h : RdL B w v ls) : ∃ ao cap, v = .slice ao ls.length cap := by
  obtain ⟨ao, cap, rfl, _⟩ := h
  exact ⟨ao, cap, rfl⟩

theorem RdL.self {B : Nat} {w : World} {v : Value} {ls : List (List UInt8)} (h : RdL B w v ls) : RdL w.heap.size w v ls := by
  obtain ⟨ao, cap, rfl, h1, h2, h3⟩ := h
  refine ⟨ao, cap, rfl, h1, h2, fun a ha j hj => ?_⟩
  obtain ⟨u, hu, _, hr⟩ := h3 a ha j hj
  refine ⟨u, hu, ?_, hr.self⟩
  have := World.block_lt_of_cell? w _ hu
  rwa [add_block] at this

theorem RdL.below {B : Nat} {w w' : World} {v : Value} {ls : List (List UInt8)} (h : RdL B w v ls) (hb : Below B w w') : RdL B w' v ls := by
  obtain ⟨ao, cap, rfl, h1, h2, h3⟩ := h
  refine ⟨ao, cap, rfl, h1, h2, fun a ha j hj => ?_⟩
  obtain ⟨u, hu, hB, hr⟩ := h3 a ha j hj
  exact ⟨u, by rw [hb.cell (by rw [add_block]; exact hB)]; exact hu, hB, hr.below hb⟩

theorem RdL.mono {B B' : Nat} {w : World} {v : Value} {ls : List (List UInt8)} (h : RdL B w v ls) (hB : B ≤ B') : RdL B' w v ls := by
  obtain ⟨ao, cap, rfl, h1, h2, h3⟩ := h
  refine ⟨ao, cap, rfl, h1, h2, fun a ha j hj => ?_⟩
  obtain ⟨u, hu, hb, hr⟩ := h3 a ha j hj
  exact ⟨u, hu, Nat.lt_of_lt_of_le hb hB, hr.mono hB⟩

/-- Read in the world as it stands. -/
def RsL (w : World) (v : Value) (ls : List (List UInt8)) : Prop := RdL w.heap.size w v ls
theorem RsL.gr {w w' : World} {v : Value} {ls : List (List UInt8)} (h : RsL w v ls) (hg : Gr w w') : RsL w' v ls := (RdL.below h hg).mono (Below.size hg)
theorem RdL.rs {B : Nat} {w : World} {v : Value} {ls : List (List UInt8)} (h : RdL B w v ls) : RsL w v ls := h.self

theorem RdL.nil (B : Nat) (w : World) : RdL B w (.slice none 0 0) [] := ⟨none, 0, rfl, Nat.le_refl _, fun _ => rfl, fun a h => by cases h⟩

/-- Where there is an element. -/
theorem RdL.at {B : Nat} {w : World} {v : Value} {ls : List (List UInt8)} (h : RdL B w v ls) (hl : 0 < ls.length) :
    ∃ b off cap, v = .slice (some ⟨b, off, none⟩) ls.length cap ∧ ls.length ≤ cap ∧ b < B ∧ ∀ j (hj : j < ls.length), ∃ ao cap', w.cell? ⟨b, off + j, none⟩ = some (.slice ao ls[j].length cap') ∧ Rd B w (.slice ao ls[j].length cap') ls[j] := by
  obtain ⟨ao, cap, rfl, h1, h2, h3⟩ := h
  cases ao with
  | none => have := h2 rfl; omega
  | some a =>
    obtain ⟨u0, hu0, hb0, _⟩ := h3 a rfl 0 hl
    have hs := World.cell?_spot hu0
    obtain ⟨b, off, sp⟩ := a
    simp [Addr.add] at hs
    subst hs
    refine ⟨b, off, cap, rfl, h1, hb0, fun j hj => ?_⟩
    obtain ⟨u, hu, _, hr⟩ := h3 _ rfl j hj
    obtain ⟨ao, cap', rfl⟩ := hr.len
    rw [Addr.add_lit] at hu
    exact ⟨ao, cap', hu, hr⟩

/-- THE SLICE v AND ITS STRINGS ARE THE CALL's OWN. -/
def OwnL (T E : TypeId) (base : Nat) (w : World) (v : Value) (ls : List (List UInt8)) : Prop :=
  ∃ us : List Value, w.ownsRow base T 1 v ls.length us ∧ ∀ j (hj : j < ls.length) u, us[j]? = some u → Own E base w u ls[j]

theorem OwnL.nil (T E : TypeId) (base : Nat) (w : World) : OwnL T E base w (.slice none 0 0) [] := ⟨[], World.ownsRow_nil w base T 1, fun j hj => by simp at hj⟩

theorem OwnL.empty (T E : TypeId) (base : Nat) (w : World) (hb : base ≤ w.heap.size) : OwnL T E base (w.alloc (.cells #[] T)) (.slice (some ⟨w.heap.size, 0, none⟩) 0 0) [] :=
  ⟨[], World.ownsRow_made (base := base) (e := T) (size := 1) w #[] 0 hb (Nat.zero_le _) rfl, fun j hj => by simp at hj⟩

theorem OwnL.rd {T E : TypeId} {base : Nat} {w : World} {v : Value} {ls : List (List UInt8)} (h : OwnL T E base w v ls) : RsL w v ls := by
  obtain ⟨us, ho, hi⟩ := h
  have hlen : us.length = ls.length := by have := ho.1; omega
  have hh := ho
  rcases ho.2 with ⟨rfl, hn⟩ | ⟨g, cap, cur, rfl, hb, hg, hnc, hcm, hcs, htake⟩
  · have : ls = [] := List.eq_nil_of_length_eq_zero hn
    subst this
    exact RdL.nil _ _
  · refine ⟨some ⟨g, 0, none⟩, cap, rfl, hnc, (fun h => by cases h), fun a ha j hj => ?_⟩
    obtain rfl := Option.some.inj ha
    have hu : us[j]? = some us[j] := by simp [hlen, hj]
    exact ⟨us[j], World.ownsRow.cells hh (g := g) rfl j _ hu, (Array.getElem?_eq_some_iff.1 hg).1, (hi j hj _ hu).rd⟩

theorem ownsRow_below {T : TypeId} {base B n : Nat} {w w' : World} {v : Value} {us : List Value} (h : w.ownsRow base T 1 v n us) (hb : Below B w w') (hB : ∀ k, v.ownBlock = some k → k < B) : w'.ownsRow base T 1 v n us := by
  refine ⟨h.1, ?_⟩
  rcases h.2 with hn | ⟨g, cap, cur, rfl, hbg, hgg, rest⟩
  · exact .inl hn
  · refine .inr ⟨g, cap, cur, rfl, hbg, ?_, rest⟩
    rw [hb.block g (hB g rfl)]
    exact hgg

theorem OwnL.keep {T E : TypeId} {base : Nat} {w w' : World} {v : Value} {ls : List (List UInt8)} (h : OwnL T E base w v ls) (hb : Below w.heap.size w w') : OwnL T E base w' v ls := by
  obtain ⟨us, ho, hi⟩ := h
  exact ⟨us, ownsRow_below ho hb fun k hk => (World.ownsRow.lt ho k hk).2, fun j hj u hu => (hi j hj u hu).keep hb⟩

theorem OwnL.mono {T E : TypeId} {base base' : Nat} {w : World} {v : Value} {ls : List (List UInt8)} (h : OwnL T E base w v ls) (hB : base' ≤ base) : OwnL T E base' w v ls := by
  obtain ⟨us, ho, hi⟩ := h
  refine ⟨us, ⟨ho.1, ?_⟩, fun j hj u hu => (hi j hj u hu).mono hB⟩
  rcases ho.2 with hn | ⟨g, cap, cur, rfl, hbg, hgg, rest⟩
  · exact .inl hn
  · exact .inr ⟨g, cap, cur, rfl, by omega, hgg, rest⟩

/-- A row of bytes is no row of strings. -/
theorem own_apart {T E : TypeId} (hTE : E ≠ T) {base base' n : Nat} {w : World} {u v : Value} {m : List UInt8} {us : List Value} (h : Own E base w u m) (k : w.ownsRow base' T 1 v n us) : u.ownBlock = none ∨ u.ownBlock ≠ v.ownBlock := by
  rcases h.2 with ⟨rfl, _⟩ | ⟨g, cap, cur, rfl, _, hg, _⟩
  · exact .inl rfl
  · right
    rcases k.2 with ⟨rfl, _⟩ | ⟨g', cap', cur', rfl, _, hg', _⟩
    · simp [Value.ownBlock]
    · simp only [Value.ownBlock, ne_eq, Option.some.injEq]
      rintro rfl
      rw [hg] at hg'
      simp only [Option.some.injEq, Obj.cells.injEq] at hg'
      exact hTE hg'.2.1

/-- The program's types: L is [][]byte, T is []byte, E is byte. -/
structure BL (P : Program) (L T E : TypeId) : Prop where
  sl : P.underlying L = some (.slice T)
  ne : E ≠ T
  info : (P.info? T).map (fun i => (i.zero, i.size, i.bytes)) = some (some (.slice none 0 0), 1, 24)

/-- append(list, string) -/
theorem run_append_ls {P : Program} {L T E : TypeId} (t : BL P L T E) (ty : TypeId) (w : World) (base : Nat) (v u : Value) (ls : List (List UInt8)) (m : List UInt8) (a : Addr) (c : Nat)
    (hown : OwnL T E base w v ls) (ha : w.cell? a = some u) (hu : Own E base w u m) (hlen : ls.length ≤ 1099511627776) (hbase : base ≤ w.heap.size) :
    ∃ v' w', (Builtin.append_ #[L, L] ty #[v, .slice (some a) 1 c]).run P w = .ok v' w' ∧ OwnL T E base w' v' (ls ++ [m]) ∧ Below base w w' ∧ ∀ b x m', Own E b w x m' → Own E b w' x m' := by
  obtain ⟨i0, hi, hz0, hz1, hz2⟩ := info_parts t.info
  obtain ⟨us, ho, hin⟩ := hown
  have hul : us.length = ls.length := by have := ho.1; omega
  have hone : u.oneCell' = true := by
    obtain ⟨ao, cap, rfl⟩ := hu.rd.len
    rfl
  obtain ⟨v', w', hr, h4, h5, _⟩ := run_append_own (P := P) w base L ty T i0 (.slice none 0 0) 1 24 t.sl hi hz0 hz1 hz2 rfl (by decide) v ls.length us ho
    a 1 c [u] rfl (fun j x hx => by
      match j, hx with
      | 0, hx => simp at hx; subst hx; simpa [Addr.add] using ha) (fun x hx => by simp at hx; subst hx; exact hone) (by unfold maxLen; omega) (by omega) hbase
  have hkept : ∀ b x m', Own E b w x m' → Own E b w' x m' := fun b x m' hx => World.ownsRow.kept hx h5 (own_apart t.ne hx ho)
  refine ⟨v', w', hr, ⟨us ++ [u], by simpa using h4, fun j hj x hx => ?_⟩, (Below.refl base w).grown h5 hbase fun k hk => (World.ownsRow.lt ho k hk).1, hkept⟩
  rcases Nat.lt_or_ge j ls.length with hjl | hjl
  · rw [List.getElem?_append_left (by omega)] at hx
    rw [List.getElem_append_left hjl]
    exact hkept base x _ (hin j hjl x hx)
  · have hj1 : j = ls.length := by simp at hj; omega
    subst hj1
    rw [List.getElem?_append_right (by omega)] at hx
    simp [hul] at hx
    subst hx
    simpa using hkept base u m hu

theorem wpList_append_ls {P : Program} {L T E : TypeId} (t : BL P L T E) {w : World} {ops : Array Oper} {rest : List Oper} {o : Oper} {a : Act} {Q : Exit → Act → World → Prop} (hgd : o.guard = none) (s x : Operand)
    (ho : o.op = .call { callee := .builtin .append, args := #[s, x], argTypes := #[L, L] })
    (base : Nat) (v u : Value) (ls : List (List UInt8)) (m : List UInt8) (ad : Addr) (c : Nat) (hs : a.eval s = v) (hown : OwnL T E base w v ls) (hx : a.eval x = .slice (some ad) 1 c) (ha : w.cell? ad = some u) (hu : Own E base w u m) (hlen : ls.length ≤ 1099511627776) (hbase : base ≤ w.heap.size)
    (h : ∀ v' w', OwnL T E base w' v' (ls ++ [m]) → Below base w w' → (∀ b x m', Own E b w x m' → Own E b w' x m') → wpList P ops Q rest (a.put o.dst v') w') : wpList P ops Q (o :: rest) a w := by
  refine wpList_plain hgd fun K hK => ?_
  obtain ⟨v', w', hr, h1, h2, h3⟩ := run_append_ls t o.type w base v u ls m ad c hown ha hu hlen hbase
  unfold Oper.wp execOp
  simp only [ho, resolve, invoke, builtin, Sem.run_bind, Sem.run_pure, Result.andThen_ok, List.map_toArray, List.map_cons, List.map_nil, hs, hx, hr]
  exact hK _ _ (h v' w' h1 h2 h3)

end Go.Proofs.YtabhmjaellagmaaDoor
