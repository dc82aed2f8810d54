/-
  What a call has made, as one list of blocks and their cells; what single operations do to it; and statements that draw their order and turn some of these blocks.
  Conditions: each element takes one cell.
-/
import Derived.Test.YtpfoeeiacfadfaaAr7
namespace Go.Proofs.Ytpfoeeiacfadfaa
open Go.RowKit

/-- A block: its number, its type, its cells. -/
structure Blk where
  g : Nat
  T : TypeId
  cs : List Value
/-- The block at a place of the list. -/
def Blk.at : List Blk → Nat → Blk → Prop
  | [], _, _ => False
  | b :: _, 0, c => b = c
  | _ :: L, i + 1, c => Blk.at L i c
/-- The block at a place gets other cells. -/
def Blk.put : List Blk → Nat → List Value → List Blk
  | [], _, _ => []
  | b :: L, 0, ds => ⟨b.g, b.T, ds⟩ :: L
  | b :: L, i + 1, ds => b :: Blk.put L i ds
theorem Blk.at_mem : ∀ {L : List Blk} {i : Nat} {b : Blk}, Blk.at L i b → b ∈ L
  | [], _, _, h => h.elim
  | _ :: _, 0, _, h => by cases h; exact List.mem_cons_self
  | _ :: _, _ + 1, _, h => List.mem_cons_of_mem _ (Blk.at_mem h)
theorem Blk.at_inj : ∀ {L : List Blk} {i j : Nat} {b c : Blk}, L.Pairwise (fun a b => a.g ≠ b.g) → Blk.at L i b → Blk.at L j c → b.g = c.g → i = j ∧ b = c
  | [], _, _, _, _, _, h, _, _ => h.elim
  | _ :: _, 0, 0, _, _, _, h, k, _ => ⟨rfl, h.symm.trans k⟩
  | _ :: _, 0, _ + 1, _, _, nd, h, k, e => by cases h; exact absurd e ((List.pairwise_cons.1 nd).1 _ (Blk.at_mem k))
  | _ :: _, _ + 1, 0, _, _, nd, h, k, e => by cases k; exact absurd e.symm ((List.pairwise_cons.1 nd).1 _ (Blk.at_mem h))
  | _ :: _, i + 1, j + 1, _, _, nd, h, k, e => by obtain ⟨h1, h2⟩ := Blk.at_inj (List.pairwise_cons.1 nd).2 h k e; exact ⟨by omega, h2⟩
theorem Blk.put_keys : ∀ (L : List Blk) (i : Nat) (ds : List Value), (Blk.put L i ds).map Blk.g = L.map Blk.g
  | [], _, _ => rfl
  | _ :: _, 0, _ => rfl
  | b :: L, i + 1, ds => by simp [Blk.put, Blk.put_keys L i ds]
theorem Blk.mem_put : ∀ {L : List Blk} {i : Nat} {ds : List Value} {b c : Blk}, Blk.at L i b → c ∈ Blk.put L i ds → c = ⟨b.g, b.T, ds⟩ ∨ (c ∈ L)
  | [], _, _, _, _, h, _ => h.elim
  | _ :: _, 0, _, _, _, h, k => by cases h; rcases List.mem_cons.1 k with rfl | k; exact .inl rfl; exact .inr (List.mem_cons_of_mem _ k)
  | _ :: _, i + 1, _, _, _, h, k => by
    rcases List.mem_cons.1 k with rfl | k
    · exact .inr List.mem_cons_self
    · rcases Blk.mem_put (L := _) (i := i) (show Blk.at _ i _ from h) k with h | h
      · exact .inl h
      · exact .inr (List.mem_cons_of_mem _ h)

/-- WHAT A CALL HAS MADE: these blocks have these cells, and nothing that was there ahead of the call has turned. -/
structure Mem (w0 w : World) (L : List Blk) : Prop where
  below : Below w0.heap.size w0 w
  own : ∀ b ∈ L, w0.heap.size ≤ b.g
  nd : L.Pairwise (fun a b => a.g ≠ b.g)
  arr : ∀ b ∈ L, Arr b.T w b.g b.cs

section
variable {w0 w w' : World} {L : List Blk} {i g : Nat} {T : TypeId} {cs ds : List Value}
theorem Mem.start (w : World) : Mem w w [] := ⟨Below.refl _ _, fun _ h => absurd h List.not_mem_nil, List.Pairwise.nil, fun _ h => absurd h List.not_mem_nil⟩
theorem Mem.gr (m : Mem w0 w L) (h : Gr w w') : Mem w0 w' L := ⟨m.below.trans (Below.mono h m.below.size), m.own, m.nd, fun b hb => (m.arr b hb).gr h⟩
theorem Mem.get (m : Mem w0 w L) (i : Nat) (h : Blk.at L i ⟨g, T, cs⟩) : Arr T w g cs := m.arr _ (Blk.at_mem h)
theorem Mem.new (m : Mem w0 w L) (hg : w.heap.size ≤ g) (ha : Arr T w' g cs) (hb : Below w.heap.size w w') : Mem w0 w' (⟨g, T, cs⟩ :: L) := by
  refine ⟨m.below.trans (Below.mono hb m.below.size), fun b h => ?_, List.pairwise_cons.2 ⟨fun b h => ?_, m.nd⟩, fun b h => ?_⟩
  · rcases List.mem_cons.1 h with rfl | h
    · have := m.below.size; show _ ≤ g; omega
    · exact m.own b h
  · have := (m.arr b h).lt; show g ≠ b.g; omega
  · rcases List.mem_cons.1 h with rfl | h
    · exact ha
    · exact (m.arr b h).gr hb
theorem keys_nd {L L' : List Blk} (h : L'.map Blk.g = L.map Blk.g) (nd : L.Pairwise (fun a b => a.g ≠ b.g)) : L'.Pairwise (fun a b => a.g ≠ b.g) := by
  have h1 : (L.map Blk.g).Pairwise (· ≠ ·) := List.pairwise_map.2 nd
  rw [← h] at h1
  exact List.pairwise_map.1 h1
theorem keys_own {L L' : List Blk} {B : Nat} (h : L'.map Blk.g = L.map Blk.g) (ho : ∀ b ∈ L, B ≤ b.g) : ∀ b ∈ L', B ≤ b.g := by
  intro b hb
  have : b.g ∈ L.map Blk.g := by rw [← h]; exact List.mem_map_of_mem hb
  obtain ⟨c, hc, e⟩ := List.mem_map.1 this
  rw [← e]; exact ho c hc
theorem Mem.put (m : Mem w0 w L) (i : Nat) (h : Blk.at L i ⟨g, T, cs⟩) (hb : But g w w') (ha : Arr T w' g ds) : Mem w0 w' (Blk.put L i ds) := by
  have hnd := keys_nd (Blk.put_keys L i ds) m.nd
  refine ⟨m.below.trans (hb.below (m.own _ (Blk.at_mem h))), keys_own (Blk.put_keys L i ds) m.own, hnd, fun b hm => ?_⟩
  by_cases e : b.g = g
  · have hd : ∀ {L : List Blk} {i : Nat}, Blk.at L i ⟨g, T, cs⟩ → L.Pairwise (fun a b => a.g ≠ b.g) → ∀ b ∈ Blk.put L i ds, b.g = g → b = ⟨g, T, ds⟩ := by
      intro L
      induction L with
      | nil => intro i h; exact h.elim
      | cons c L ih =>
        intro i h nd b hm e
        cases i with
        | zero =>
          cases h
          rcases List.mem_cons.1 hm with rfl | hm
          · rfl
          · exact absurd e.symm ((List.pairwise_cons.1 nd).1 b hm)
        | succ i =>
          rcases List.mem_cons.1 hm with rfl | hm
          · exact absurd e ((List.pairwise_cons.1 nd).1 _ (Blk.at_mem h))
          · exact ih h (List.pairwise_cons.1 nd).2 b hm e
    rw [hd h m.nd b hm e]; exact ha
  · rcases Blk.mem_put h hm with rfl | hm
    · exact absurd rfl e
    · exact (m.arr b hm).but hb e
/-- The block at a place is not one that is read from elsewhere. -/
theorem Mem.lt (m : Mem w0 w L) (i : Nat) (h : Blk.at L i ⟨g, T, cs⟩) : w0.heap.size ≤ g := m.own _ (Blk.at_mem h)
theorem Mem.size (m : Mem w0 w L) : w0.heap.size ≤ w.heap.size := m.below.size
/-- Some blocks are forgotten. -/
theorem Mem.sub {L' : List Blk} (m : Mem w0 w L) (h : L'.Sublist L) : Mem w0 w L' := ⟨m.below, fun b hb => m.own b (h.subset hb), m.nd.sublist h, fun b hb => m.arr b (h.subset hb)⟩
end

section
variable {P : Program} {A E : TypeId} {N : Nat} {z : Value} {w0 w : World} {L : List Blk} {ops : Array Oper} {rest : List Oper} {o : Oper} {a : Act} {Q : Exit → Act → World → Prop}
theorem wpList_box_mem (m : Mem w0 w L) (hgd : o.guard = none) (T : TypeId) (x : Operand) (ho : o.op = .box T x) (cs : List Value) (hx : a.eval x = .agg cs.toArray)
    (h : ∀ g w', Mem w0 w' (⟨g, T, cs⟩ :: L) → wpList P ops Q rest (a.put o.dst (.pointer (some ⟨g, 0, none⟩))) w') : wpList P ops Q (o :: rest) a w :=
  wpList_box_arr hgd T x ho cs hx fun g w' h1 h2 h3 => h g w' (m.new h1 h2 h3)
theorem wpList_alloc_mem (t : AT P A E N z) (m : Mem w0 w L) (hgd : o.guard = none) (ho : o.op = .alloc A) (d : Tmp) (hd : o.dst = some d) (cs : List Value) (hz : List.replicate N z = cs)
    (h : ∀ g w', Mem w0 w' (⟨g, A, cs⟩ :: L) → wpList P ops Q rest (a.put o.dst (.pointer (some ⟨g, 0, none⟩))) w') : wpList P ops Q (o :: rest) a w := by
  subst hz
  exact wpList_alloc_arr t hgd ho d hd fun g w' h1 h2 h3 => h g w' (m.new h1 h2 h3)
theorem wpList_load_mem (t : AT P A E N z) (m : Mem w0 w L) (hgd : o.guard = none) (x : Operand) (ho : o.op = .load A x) (i : Nat) {g : Nat} {cs : List Value} (hi : Blk.at L i ⟨g, A, cs⟩) (hc : cs.length = N) (hx : a.eval x = .pointer (some ⟨g, 0, none⟩))
    (h : wpList P ops Q rest (a.put o.dst (.agg cs.toArray)) w) : wpList P ops Q (o :: rest) a w := wpList_load_arr t hgd x ho g cs hc hx (m.get i hi) h
theorem wpList_store_mem (t : AT P A E N z) (m : Mem w0 w L) (hgd : o.guard = none) (x y : Operand) (ho : o.op = .store A x y) (hd : o.dst = none) (i : Nat) {g : Nat} {cs : List Value} (ds : List Value) (hi : Blk.at L i ⟨g, A, cs⟩) (hc : cs.length = N) (hds : ds.length = N) (h1 : ∀ v ∈ ds, v.oneCell' = true)
    (hx : a.eval x = .pointer (some ⟨g, 0, none⟩)) (hy : a.eval y = .agg ds.toArray) (h : ∀ w', Mem w0 w' (Blk.put L i ds) → wpList P ops Q rest a w') : wpList P ops Q (o :: rest) a w :=
  wpList_store_arr t hgd x y ho hd g cs ds hc hds h1 hx hy (m.get i hi) fun w' h1 h2 => h w' (m.put i hi h2 h1)
theorem wpList_get_mem {F : TypeId} {k : IntKind} (hF : P.underlying F = some (.int k)) (m : Mem w0 w L) (hgd : o.guard = none) (x : Operand) (ho : o.op = .load F x) (i j : Nat) {g : Nat} {T : TypeId} {cs : List Value} (v : Value) (hi : Blk.at L i ⟨g, T, cs⟩) (hv : cs[j]? = some v) (hx : a.eval x = .pointer (some ⟨g, j, none⟩))
    (h : wpList P ops Q rest (a.put o.dst v) w) : wpList P ops Q (o :: rest) a w := wpList_get hF hgd x ho g j cs v (m.get i hi) hv hx h
theorem wpList_set_mem (m : Mem w0 w L) (hgd : o.guard = none) (F : TypeId) (x y : Operand) (ho : o.op = .store F x y) (hd : o.dst = none) (hF : (P.info? F).map (·.size) = some 1) (i j : Nat) {g : Nat} {T : TypeId} {cs : List Value} (u : Value) (ds : List Value) (hds : cs.set j u = ds) (hi : Blk.at L i ⟨g, T, cs⟩) (hj : j < cs.length) (h1 : u.oneCell' = true)
    (hx : a.eval x = .pointer (some ⟨g, j, none⟩)) (hy : a.eval y = u) (h : ∀ w', Mem w0 w' (Blk.put L i ds) → wpList P ops Q rest a w') : wpList P ops Q (o :: rest) a w := by
  subst hds
  exact wpList_store_cell hgd F x y ho hd hF g j cs u hj h1 hx hy T (m.get i hi) fun w' h1 h2 => h w' (m.put i hi h2 h1)
end

/-- A call in a statement that draws, by its contract: one value. -/
theorem Mild2.step_callv {P : Program} {ops : Array Oper} {G : World → World → Prop} {C : World → Prop} {K0 : FuncId → Array Value → Value → World → Prop} {Q : Act → World → Prop} {o : Oper} {rest : List Oper} {a : Act} {fs : Option Tmp → World → Prop} (hw : Region.wanted o (yielded ops a.tmps) = true) (hd : o.dst.isSome = true) (f : FuncId) (args : Array Value) (v0 : Value)
    (hrun : ∀ w, (execOp a.eval o).run P w = .ok (.enter f args) w) (hc : ∀ w, C w → Calls P f args w (fun e w' => e = .returned v0 ∧ Gr w w')) (hsub : ∀ w w', Gr w w' → G w w') (hk0 : ∀ w, K0 f args v0 w) (hk : ∀ v w', K0 f args v w' → v = v0)
    (h : Mild2.wpMild P ops G C K0 Q rest (a.put o.dst v0) fs) : Mild2.wpMild P ops G C K0 Q (o :: rest) a fs := by
  refine Mild2.step_call hw f args hrun (fun v _ => v = v0) (fun v w w' _ h => h) (fun w hC _ => (hc w hC).mono fun e w' ⟨h1, h2⟩ => ⟨v0, h1, hsub _ _ h2, hk0 w'⟩) (fun v w' _ hv => hk v w' hv) (fun v hv => ?_)
  obtain ⟨w, _, rfl⟩ := hv (fun e => by rw [e] at hd; simp at hd)
  exact Mild2.wpMild_mono _ _ _ _ (fun t w _ h => h.1) h

/-! ### Statements that draw their order and turn some of these blocks. -/
/-- The blocks at these places turn. -/
def VM (L : List Blk) (ps : Nat → Option (List Value)) : Nat → List Value → List Value → Prop := fun k cs ds => ∃ i T, Blk.at L i ⟨k, T, cs⟩ ∧ ps i = some ds
section
variable {w0 w w' : World} {L : List Blk} {ps : Nat → Option (List Value)} {g : Nat} {T S : TypeId} {cs o n : List Value}
theorem VM_trans (m : Mem w0 w L) : ∀ k a b c, VM L ps k a b → VM L ps k b c → VM L ps k a c := by
  rintro k a b c ⟨i, T, h1, e1⟩ ⟨j, T', h2, e2⟩
  obtain ⟨rfl, e⟩ := Blk.at_inj m.nd h1 h2 rfl
  exact ⟨i, T, h1, e2⟩
theorem M_fit (T : TypeId) (m : Mem w0 w L) (ps : Nat → Option (List Value)) (K0 : FuncId → Array Value → Value → World → Prop) (hK : ∀ f args v w w', K0 f args v w → K0 f args v w') : Mild3.Fit (Vw T (VM L ps)) Gr (Vw T (VM L ps) w) (Gr w) K0 :=
  W_fit T _ (VM_trans m) w K0 hK
theorem M_fit2 (T : TypeId) (m : Mem w0 w L) (ps : Nat → Option (List Value)) (K0 : FuncId → Array Value → Value → World → Prop) (hK : ∀ f args v w w', K0 f args v w → K0 f args v w') : Mild2.Fit (Vw T (VM L ps)) (Vw T (VM L ps) w) K0 :=
  V_fit T _ (VM_trans m) w K0 hK
theorem Mem.was (m : Mem w0 w L) (hC : Vw T (VM L ps) w w') (i : Nat) (h : Blk.at L i ⟨g, T, o⟩) (hp : ps i = some n) : Arr T w' g o ∨ Arr T w' g n := by
  rcases hC.turn (m.get i h) with h1 | ⟨ds, ⟨j, S, hj, e⟩, h1⟩
  · exact .inl h1
  · obtain ⟨rfl, _⟩ := Blk.at_inj m.nd h hj rfl
    rw [hp] at e
    obtain rfl := Option.some.inj e
    exact .inr h1
theorem Mem.still (m : Mem w0 w L) (hC : Vw T (VM L ps) w w') (i : Nat) (h : Blk.at L i ⟨g, S, cs⟩) (hp : ps i = none) : Arr S w' g cs := by
  refine hC.keep (m.get i h) ?_
  rintro cs' ds ⟨j, S', hj, e⟩
  obtain ⟨rfl, _⟩ := Blk.at_inj m.nd h hj rfl
  rw [hp] at e; cases e
theorem Mem.note (m : Mem w0 w L) (i : Nat) (h : Blk.at L i ⟨g, T, o⟩) (hp : ps i = some n) : Mild3.Stab (Vw T (VM L ps)) (fun w => Arr T w g n) := by
  intro w1 w2 hw hr
  rcases hw.turn hr with h1 | ⟨ds, ⟨j, S, hj, e⟩, h1⟩
  · exact h1
  · obtain ⟨rfl, _⟩ := Blk.at_inj m.nd h hj rfl
    rw [hp] at e
    obtain rfl := Option.some.inj e
    exact h1
/-- All of these blocks have these cells. -/
def Arrs (w : World) : List Blk → Prop
  | [] => True
  | b :: L => Arr b.T w b.g b.cs ∧ Arrs w L
theorem Arrs.mem : ∀ {L : List Blk}, Arrs w L → ∀ b ∈ L, Arr b.T w b.g b.cs
  | _ :: _, h, _, hb => by rcases List.mem_cons.1 hb with rfl | hb; exact h.1; exact Arrs.mem h.2 _ hb
theorem Mem.done (m : Mem w0 w L) (hw : Vw T (VM L ps) w w') {L' : List Blk} (hk : L'.map Blk.g = L.map Blk.g) (ha : Arrs w' L') : Mem w0 w' L' :=
  ⟨m.below.trans (hw.below (B := w0.heap.size) (fun _ _ _ ⟨_, _, h, _⟩ => m.own _ (Blk.at_mem h)) m.below.size), keys_own hk m.own, keys_nd hk m.nd, ha.mem⟩
/-- A block was made, and turned. -/
theorem Mem.doneN (m : Mem w0 w L) (hw : Vw T (VN w.heap.size o n) w w') (hg : w.heap.size ≤ g) (ha : Arr T w' g n) : Mem w0 w' (⟨g, T, n⟩ :: L) := by
  refine ⟨m.below.trans (hw.below (B := w0.heap.size) (fun _ _ _ h => Nat.le_trans m.below.size h.1) m.below.size), fun b h => ?_, List.pairwise_cons.2 ⟨fun b h => ?_, m.nd⟩, fun b h => ?_⟩
  · rcases List.mem_cons.1 h with rfl | h
    · have := m.below.size; show _ ≤ g; omega
    · exact m.own b h
  · have := (m.arr b h).lt; show g ≠ b.g; omega
  · rcases List.mem_cons.1 h with rfl | h
    · exact ha
    · exact hw.keepN (m.arr b h) (m.arr b h).lt
theorem N_fit (T : TypeId) (w : World) (o n : List Value) (K0 : FuncId → Array Value → Value → World → Prop) (hK : ∀ f args v w w', K0 f args v w → K0 f args v w') : Mild2.Fit (Vw T (VN w.heap.size o n)) (Vw T (VN w.heap.size o n) w) K0 :=
  V_fit T _ VN_trans w K0 hK
theorem Mem.oldN (m : Mem w0 w L) (hC : Vw T (VN w.heap.size o n) w w') (i : Nat) (h : Blk.at L i ⟨g, S, cs⟩) : Arr S w' g cs := hC.keepN (m.get i h) (m.get i h).lt
end
end Go.Proofs.Ytpfoeeiacfadfaa
