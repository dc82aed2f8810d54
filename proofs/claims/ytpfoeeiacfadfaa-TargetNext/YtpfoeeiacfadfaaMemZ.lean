/-
  What a call has made, as one list of blocks and their cells; what single operations do to it; and statements that draw their order and turn some of these blocks.
  Conditions: each element takes one cell.
-/
import Derived.Test.YtpfoeeiacfadfaaMild2Z
import Derived.Test.YtpfoeeiacfadfaaV1
import Derived.Test.YtpfoeeiacfadfaaV2Z
import Derived.Test.YtpfoeeiacfadfaaV9
import Derived.Test.YtpfoeeiacfadfaaWdZ
namespace Go.Proofs.Ytpfoeeiacfadfaa
open Go.RowKit

/-- A block: its number, its type, its cells. -/
structure Blk where
  g : Nat
  T : TypeId
  cs : List Value
/-- The block at a place of the list. -/
def Blk.at : List Blk → Nat → Blk → Prop
  | [], _, _ => False
  | b :: _, 0, c => b = c
  | _ :: L, i + 1, c => Blk.at L i c
/-- The block at a place gets other cells. -/
def Blk.put : List Blk → Nat → List Value → List Blk
  | [], _, _ => []
  | b :: L, 0, ds => ⟨b.g, b.T, ds⟩ :: L
  | b :: L, i + 1, ds => b :: Blk.put L i ds
theorem Blk.at_mem : ∀ {L : List Blk} {i : Nat} {b : Blk}, Blk.at L i b → b ∈ L
  | [], _, _, h => h.elim
  | _ :: _, 0, _, h => by cases h; exact List.mem_cons_self
  | _ :: _, _ + 1, _, h => List.mem_cons_of_mem _ (Blk.at_mem h)
theorem Blk.at_inj : ∀ {L : List Blk} {i j : Nat} {b c : Blk}, L.Pairwise (fun a b => a.g ≠ b.g) → Blk.at L i b → Blk.at L j c → b.g = c.g → i = j ∧ b = c
  | [], _, _, _, _, _, h, _, _ => h.elim
  | _ :: _, 0, 0, _, _, _, h, k, _ => ⟨rfl, h.symm.trans k⟩
  | _ :: _, 0, _ + 1, _, _, nd, h, k, e => by cases h; exact absurd e ((List.pairwise_cons.1 nd).1 _ (Blk.at_mem k))
  | _ :: _, _ + 1, 0, _, _, nd, h, k, e => by cases k; exact absurd e.symm ((List.pairwise_cons.1 nd).1 _ (Blk.at_mem h))
  | _ :: _, i + 1, j + 1, _, _, nd, h, k, e => by obtain ⟨h1, h2⟩ := Blk.at_inj (List.pairwise_cons.1 nd).2 h k e; exact ⟨by omega, h2⟩
theorem Blk.put_keys : ∀ (L : List Blk) (i : Nat) (ds : List Value), (Blk.put L i ds).map Blk.g = L.map Blk.g
  | [], _, _ => rfl
  | _ :: _, 0, _ => rfl
  | b :: L, i + 1, ds => by simp [Blk.put, Blk.put_keys L i ds]
theorem Blk.mem_put : ∀ {L : List Blk} {i : Nat} {ds : List Value} {b c : Blk}, Blk.at L i b → c ∈ Blk.put L i ds → c = ⟨b.g, b.T, ds⟩ ∨ (c ∈ L)
  | [], _, _, _, _, h, _ => h.elim
  | _ :: _, 0, _, _, _, h, k => by cases h; rcases List.mem_cons.1 k with rfl | k; exact .inl rfl; exact .inr (List.mem_cons_of_mem _ k)
  | _ :: _, i + 1, _, _, _, h, k => by
    rcases List.mem_cons.1 k with rfl | k
    · exact .inr List.mem_cons_self
    · rcases Blk.mem_put (L := _) (i := i) (show Blk.at _ i _ from h) k with h | h
      · exact .inl h
      · exact .inr (List.mem_cons_of_mem _ h)

/-- WHAT A CALL HAS MADE: these blocks have these cells, and nothing that was there ahead of the call has turned. -/
structure Mem (w0 w : World) (L : List Blk) : Prop where
  below : Below w0.heap.size w0 w
  own : ∀ b ∈ L, w0.heap.size ≤ b.g
  nd : L.Pairwise (fun a b => a.g ≠ b.g)
  arr : ∀ b ∈ L, Arr b.T w b.g b.cs

section
variable {w0 w w' : World} {L : List Blk} {i g : Nat} {T : TypeId} {cs ds : List Value}
theorem Mem.start (w : World) : Mem w w [] := ⟨Below.refl _ _, fun _ h => absurd h List.not_mem_nil, List.Pairwise.nil, fun _ h => absurd h List.not_mem_nil⟩
theorem Mem.gr (m : Mem w0 w L) (h : Gr w w') : Mem w0 w' L := ⟨m.below.trans (Below.mono h m.below.size), m.own, m.nd, fun b hb => (m.arr b hb).gr h⟩
theorem Mem.get (m : Mem w0 w L) (i : Nat) (h : Blk.at L i ⟨g, T, cs⟩) : Arr T w g cs := m.arr _ (Blk.at_mem h)
theorem Mem.new (m : Mem w0 w L) (hg : w.heap.size ≤ g) (ha : Arr T w' g cs) (hb : Below w.heap.size w w') : Mem w0 w' (⟨g, T, cs⟩ :: L) := by
  refine ⟨m.below.trans (Below.mono hb m.below.size), fun b h => ?_, List.pairwise_cons.2 ⟨fun b h => ?_, m.nd⟩, fun b h => ?_⟩
  · rcases List.mem_cons.1 h with rfl | h
    · have := m.below.size; show _ ≤ g; omega
    · exact m.own b h
  · have := (m.arr b h).lt; show g ≠ b.g; omega
  · rcases List.mem_cons.1 h with rfl | h
    · exact ha
    · exact (m.arr b h).gr hb
theorem keys_nd {L L' : List Blk} (h : L'.map Blk.g = L.map Blk.g) (nd : L.Pairwise (fun a b => a.g ≠ b.g)) : L'.Pairwise (fun a b => a.g ≠ b.g) := by
  have h1 : (L.map Blk.g).Pairwise (· ≠ ·) := List.pairwise_map.2 nd
  rw [← h] at h1
  exact List.pairwise_map.1 h1
theorem keys_own {L L' : List Blk} {B : Nat} (h : L'.map Blk.g = L.map Blk.g) (ho : ∀ b ∈ L, B ≤ b.g) : ∀ b ∈ L', B ≤ b.g := by
  intro b hb
  have : b.g ∈ L.map Blk.g := by rw [← h]; exact List.mem_map_of_mem hb
  obtain ⟨c, hc, e⟩ := List.mem_map.1 this
  rw [← e]; exact ho c hc
theorem Mem.put (m : Mem w0 w L) (i : Nat) (h : Blk.at L i ⟨g, T, cs⟩) (hb : But g w w') (ha : Arr T w' g ds) : Mem w0 w' (Blk.put L i ds) := by
  have hnd := keys_nd (Blk.put_keys L i ds) m.nd
  refine ⟨m.below.trans (hb.below (m.own _ (Blk.at_mem h))), keys_own (Blk.put_keys L i ds) m.own, hnd, fun b hm => ?_⟩
  by_cases e : b.g = g
  · have hd : ∀ {L : List Blk} {i : Nat}, Blk.at L i ⟨g, T, cs⟩ → L.Pairwise (fun a b => a.g ≠ b.g) → ∀ b ∈ Blk.put L i ds, b.g = g → b = ⟨g, T, ds⟩ := by
      intro L
      induction L with
      | nil => intro i h; exact h.elim
      | cons c L ih =>
        intro i h nd b hm e
        cases i with
        | zero =>
          cases h
          rcases List.mem_cons.1 hm with rfl | hm
          · rfl
          · exact absurd e.symm ((List.pairwise_cons.1 nd).1 b hm)
        | succ i =>
          rcases List.mem_cons.1 hm with rfl | hm
          · exact absurd e ((List.pairwise_cons.1 nd).1 _ (Blk.at_mem h))
          · exact ih h (List.pairwise_cons.1 nd).2 b hm e
    rw [hd h m.nd b hm e]; exact ha
  · rcases Blk.mem_put h hm with rfl | hm
    · exact absurd rfl e
    · exact (m.arr b hm).but hb e
/-- The block at a place is not one that is read from elsewhere. -/
theorem Mem.lt (m : Mem w0 w L) (i : Nat) (h : Blk.at L i ⟨g, T, cs⟩) : w0.heap.size ≤ g := m.own _ (Blk.at_mem h)
theorem Mem.size (m : Mem w0 w L) : w0.heap.size ≤ w.heap.size := m.below.size
/-- Some blocks are forgotten. -/
theorem Mem.sub {L' : List Blk} (m : Mem w0 w L) (h : L'.Sublist L) : Mem w0 w L' := ⟨m.below, fun b hb => m.own b (h.subset hb), m.nd.sublist h, fun b hb => m.arr b (h.subset hb)⟩
end

section
variable {P : Program} {A E : TypeId} {N : Nat} {z : Value} {w0 w : World} {L : List Blk} {ops : Array Oper} {rest : List Oper} {o : Oper} {a : Act} {Q : Exit → Act → World → Prop}
theorem wpList_box_mem (m : Mem w0 w L) (hgd : o.guard = none) (T : TypeId) (x : Operand) (ho : o.op = .box T x) (cs : List Value) (hx : a.eval x = .agg cs.toArray)
    (h : ∀ g w', Mem w0 w' (⟨g, T, cs⟩ :: L) → wpList P ops Q rest (a.put o.dst (.pointer (some ⟨g, 0, none⟩))) w') : wpList P ops Q (o :: rest) a w :=
  wpList_box_arr hgd T x ho cs hx fun g w' h1 h2 h3 => h g w' (m.new h1 h2 h3)
theorem wpList_alloc_mem (t : AT P A E N z) (m : Mem w0 w L) (hgd : o.guard = none) (ho : o.op = .alloc A) (d : Tmp) (hd : o.dst = some d) (cs : List Value) (hz : List.replicate N z = cs)
    (h : ∀ g w', Mem w0 w' (⟨g, A, cs⟩ :: L) → wpList P ops Q rest (a.put o.dst (.pointer (some ⟨g, 0, none⟩))) w') : wpList P ops Q (o :: rest) a w := by
  subst hz
  exact wpList_alloc_arr t hgd ho d hd fun g w' h1 h2 h3 => h g w' (m.new h1 h2 h3)
theorem wpList_load_mem (t : AT P A E N z) (m : Mem w0 w L) (hgd : o.guard = none) (x : Operand) (ho : o.op = .load A x) (i : Nat) {g : Nat} {cs : List Value} (hi : Blk.at L i ⟨g, A, cs⟩) (hc : cs.length = N) (hx : a.eval x = .pointer (some ⟨g, 0, none⟩))
    (h : wpList P ops Q rest (a.put o.dst (.agg cs.toArray)) w) : wpList P ops Q (o :: rest) a w := wpList_load_arr t hgd x ho g cs hc hx (m.get i hi) h
theorem wpList_store_mem (t : AT P A E N z) (m : Mem w0 w L) (hgd : o.guard = none) (x y : Operand) (ho : o.op = .store A x y) (hd : o.dst = none) (i : Nat) {g : Nat} {cs : List Value} (ds : List Value) (hi : Blk.at L i ⟨g, A, cs⟩) (hc : cs.length = N) (hds : ds.length = N) (h1 : ∀ v ∈ ds, v.oneCell' = true)
    (hx : a.eval x = .pointer (some ⟨g, 0, none⟩)) (hy : a.eval y = .agg ds.toArray) (h : ∀ w', Mem w0 w' (Blk.put L i ds) → wpList P ops Q rest a w') : wpList P ops Q (o :: rest) a w :=
  wpList_store_arr t hgd x y ho hd g cs ds hc hds h1 hx hy (m.get i hi) fun w' h1 h2 => h w' (m.put i hi h2 h1)
theorem wpList_get_mem {F : TypeId} {k : IntKind} (hF : P.underlying F = some (.int k)) (m : Mem w0 w L) (hgd : o.guard = none) (x : Operand) (ho : o.op = .load F x) (i j : Nat) {g : Nat} {T : TypeId} {cs : List Value} (v : Value) (hi : Blk.at L i ⟨g, T, cs⟩) (hv : cs[j]? = some v) (hx : a.eval x = .pointer (some ⟨g, j, none⟩))
    (h : wpList P ops Q rest (a.put o.dst v) w) : wpList P ops Q (o :: rest) a w := wpList_get hF hgd x ho g j cs v (m.get i hi) hv hx h
theorem wpList_set_mem (m : Mem w0 w L) (hgd : o.guard = none) (F : TypeId) (x y : Operand) (ho : o.op = .store F x y) (hd : o.dst = none) (hF : (P.info? F).map (·.size) = some 1) (i j : Nat) {g : Nat} {T : TypeId} {cs : List Value} (u : Value) (ds : List Value) (hds : cs.set j u = ds) (hi : Blk.at L i ⟨g, T, cs⟩) (hj : j < cs.length) (h1 : u.oneCell' = true)
    (hx : a.eval x = .pointer (some ⟨g, j, none⟩)) (hy : a.eval y = u) (h : ∀ w', Mem w0 w' (Blk.put L i ds) → wpList P ops Q rest a w') : wpList P ops Q (o :: rest) a w := by
  subst hds
  exact wpList_store_cell hgd F x y ho hd hF g j cs u hj h1 hx hy T (m.get i hi) fun w' h1 h2 => h w' (m.put i hi h2 h1)
end

/-! ### Statements that draw their order and turn some of these blocks. -/
/-- The blocks at these places turn. -/
def VM (L : List Blk) (ps : Nat → Option (List Value)) : Nat → List Value → List Value → Prop := fun k cs ds => ∃ i T, Blk.at L i ⟨k, T, cs⟩ ∧ ps i = some ds
section
variable {w0 w w' : World} {L : List Blk} {ps : Nat → Option (List Value)} {g : Nat} {T S : TypeId} {cs o n : List Value}
theorem Mem.was (m : Mem w0 w L) (hC : Vw T (VM L ps) w w') (i : Nat) (h : Blk.at L i ⟨g, T, o⟩) (hp : ps i = some n) : Arr T w' g o ∨ Arr T w' g n := by
  rcases hC.turn (m.get i h) with h1 | ⟨ds, ⟨j, S, hj, e⟩, h1⟩
  · exact .inl h1
  · obtain ⟨rfl, _⟩ := Blk.at_inj m.nd h hj rfl
    rw [hp] at e
    obtain rfl := Option.some.inj e
    exact .inr h1
theorem Mem.still (m : Mem w0 w L) (hC : Vw T (VM L ps) w w') (i : Nat) (h : Blk.at L i ⟨g, S, cs⟩) (hp : ps i = none) : Arr S w' g cs := by
  refine hC.keep (m.get i h) ?_
  rintro cs' ds ⟨j, S', hj, e⟩
  obtain ⟨rfl, _⟩ := Blk.at_inj m.nd h hj rfl
  rw [hp] at e; cases e
/-- All of these blocks have these cells. -/
def Arrs (w : World) : List Blk → Prop
  | [] => True
  | b :: L => Arr b.T w b.g b.cs ∧ Arrs w L
theorem Arrs.mem : ∀ {L : List Blk}, Arrs w L → ∀ b ∈ L, Arr b.T w b.g b.cs
  | _ :: _, h, _, hb => by rcases List.mem_cons.1 hb with rfl | hb; exact h.1; exact Arrs.mem h.2 _ hb
theorem Mem.done (m : Mem w0 w L) (hw : Vw T (VM L ps) w w') {L' : List Blk} (hk : L'.map Blk.g = L.map Blk.g) (ha : Arrs w' L') : Mem w0 w' L' :=
  ⟨m.below.trans (hw.below (B := w0.heap.size) (fun _ _ _ ⟨_, _, h, _⟩ => m.own _ (Blk.at_mem h)) m.below.size), keys_own hk m.own, keys_nd hk m.nd, ha.mem⟩
theorem N_fit (T : TypeId) (w : World) (o n : List Value) (K0 : FuncId → Array Value → Value → World → Prop) (hK : ∀ f args v w w', K0 f args v w → K0 f args v w') : Mild2.Fit (Vw T (VN w.heap.size o n)) (Vw T (VN w.heap.size o n) w) K0 :=
  V_fit T _ VN_trans w K0 hK
theorem Mem.oldN (m : Mem w0 w L) (hC : Vw T (VN w.heap.size o n) w w') (i : Nat) (h : Blk.at L i ⟨g, S, cs⟩) : Arr S w' g cs := hC.keepN (m.get i h) (m.get i h).lt
end
end Go.Proofs.Ytpfoeeiacfadfaa
/-
  Numbers of 256 bits in blocks of memory: what single operations do to them.
-/
namespace Go.Proofs.Ytpfoeeiacfadfaa
open Go.RowKit

theorem wv_cell (n i : Nat) (h : i < 4) : (c64 (w4 n))[i]? = some (.int .u64 (gw (w4 n) i : Nat)) := c64_gw (by rw [w4_length]; exact h)
theorem wv_cellv (n i x : Nat) (h : i < 4) (hx : gw (w4 n) i = x) : (c64 (w4 n))[i]? = some (.int .u64 (x : Nat)) := by rw [← hx]; exact wv_cell n i h
section
variable {w0 w : World} {L : List Blk} {ops : Array Oper} {rest : List Oper} {o : Oper} {a : Act} {Q : Exit → Act → World → Prop}
theorem W.box (m : Mem w0 w L) (hgd : o.guard = none) (x : Operand) (ho : o.op = .box 24 x) (n : Nat) (hx : a.eval x = wv n)
    (h : ∀ g w', Mem w0 w' (⟨g, 24, c64 (w4 n)⟩ :: L) → wpList Try.prog ops Q rest (a.put o.dst (.pointer (some ⟨g, 0, none⟩))) w') : wpList Try.prog ops Q (o :: rest) a w :=
  wpList_box_mem m hgd _ x ho _ hx h
theorem W.alloc (m : Mem w0 w L) (hgd : o.guard = none) (ho : o.op = .alloc 24) (d : Tmp) (hd : o.dst = some d)
    (h : ∀ g w', Mem w0 w' (⟨g, 24, c64 (w4 0)⟩ :: L) → wpList Try.prog ops Q rest (a.put o.dst (.pointer (some ⟨g, 0, none⟩))) w') : wpList Try.prog ops Q (o :: rest) a w :=
  wpList_alloc_mem Try.aw m hgd ho d hd _ zeros4 h
theorem W.load (m : Mem w0 w L) (hgd : o.guard = none) (x : Operand) (ho : o.op = .load 24 x) (i : Nat) {g n : Nat} (hi : Blk.at L i ⟨g, 24, c64 (w4 n)⟩) (hx : a.eval x = .pointer (some ⟨g, 0, none⟩))
    (h : wpList Try.prog ops Q rest (a.put o.dst (wv n)) w) : wpList Try.prog ops Q (o :: rest) a w := wpList_load_mem Try.aw m hgd x ho i hi (wl n) hx h
theorem W.store (m : Mem w0 w L) (hgd : o.guard = none) (x y : Operand) (ho : o.op = .store 24 x y) (hd : o.dst = none) (i : Nat) {g : Nat} {l : List Nat} (n : Nat) (hi : Blk.at L i ⟨g, 24, c64 l⟩) (hl : l.length = 4) (hx : a.eval x = .pointer (some ⟨g, 0, none⟩)) (hy : a.eval y = wv n)
    (h : ∀ w', Mem w0 w' (Blk.put L i (c64 (w4 n))) → wpList Try.prog ops Q rest a w') : wpList Try.prog ops Q (o :: rest) a w :=
  wpList_store_mem Try.aw m hgd x y ho hd i (c64 (w4 n)) hi (by rw [c64_length]; exact hl) (wl n) (c64_one _) hx hy h
theorem W.idx (hgd : o.guard = none) (x y : Operand) (ho : o.op = .indexAddr 24 x y) (g i : Nat) (k : IntKind) (u : Int) (hu : u = (i : Int)) (hi : i < 4) (hx : a.eval x = .pointer (some ⟨g, 0, none⟩)) (hy : a.eval y = .int k u)
    (h : wpList Try.prog ops Q rest (a.put o.dst (.pointer (some ⟨g, i, none⟩))) w) : wpList Try.prog ops Q (o :: rest) a w := wpList_indexAt_arr Try.aw hgd x y ho g i k u hu hi hx hy h
theorem W.get (m : Mem w0 w L) (hgd : o.guard = none) (x : Operand) (ho : o.op = .load 22 x) (i j : Nat) {g n : Nat} (v : Nat) (hi : Blk.at L i ⟨g, 24, c64 (w4 n)⟩) (hj : j < 4) (hv : gw (w4 n) j = v) (hx : a.eval x = .pointer (some ⟨g, j, none⟩))
    (h : wpList Try.prog ops Q rest (a.put o.dst (.int .u64 (v : Int))) w) : wpList Try.prog ops Q (o :: rest) a w := wpList_get_mem Try.u64 m hgd x ho i j _ hi (wv_cellv n j v hj hv) hx h
theorem W.getL (m : Mem w0 w L) (hgd : o.guard = none) (x : Operand) (ho : o.op = .load 22 x) (i j : Nat) {g : Nat} {l : List Nat} (v : Nat) (hi : Blk.at L i ⟨g, 24, c64 l⟩) (hj : j < l.length) (hv : gw l j = v) (hx : a.eval x = .pointer (some ⟨g, j, none⟩))
    (h : wpList Try.prog ops Q rest (a.put o.dst (.int .u64 (v : Int))) w) : wpList Try.prog ops Q (o :: rest) a w := wpList_get_mem Try.u64 m hgd x ho i j _ hi (by rw [c64_gw hj, hv]) hx h
theorem W.set (m : Mem w0 w L) (hgd : o.guard = none) (x y : Operand) (ho : o.op = .store 22 x y) (hd : o.dst = none) (i j : Nat) {g : Nat} {l : List Nat} (v : Nat) (l' : List Nat) (hl' : l.set j v = l') (hi : Blk.at L i ⟨g, 24, c64 l⟩) (hj : j < l.length) (hx : a.eval x = .pointer (some ⟨g, j, none⟩)) (hy : a.eval y = .int .u64 (v : Int))
    (h : ∀ w', Mem w0 w' (Blk.put L i (c64 l')) → wpList Try.prog ops Q rest a w') : wpList Try.prog ops Q (o :: rest) a w :=
  wpList_set_mem m hgd _ x y ho hd Try.one64 i j _ (c64 l') (by rw [c64_set, hl']) hi (by rw [c64_length]; exact hj) rfl hx hy h
theorem W.build0 (hgd : o.guard = none) (ho : o.op = .build 24 #[]) (h : wpList Try.prog ops Q rest (a.put o.dst (wv 0)) w) : wpList Try.prog ops Q (o :: rest) a w := by
  have h' : wpList Try.prog ops Q rest (a.put o.dst (.agg (List.replicate 4 (Value.int .u64 0)).toArray)) w := by rw [zeros4]; exact h
  exact wpList_build_arr Try.aw hgd ho h'
theorem W.exec_eql {ρ : Operand → Value} (x y : Operand) (T : TypeId) (ho : o.op = .binOp .eql 24 x y T) (n k : Nat) (b : Bool) (hn : n < M) (hk : k < M) (hb : decide (n = k) = b) (hx : ρ x = wv n) (hy : ρ y = wv k) : (execOp ρ o).run Try.prog w = .ok (.value (.bool b)) w := by
  have := exec_eql_c64 Try.aw Try.u64 Try.eqw (w := w) x y T ho (w4 n) (w4 k) (w4_length n) (w4_length k) hx hy
  rw [this, ← hb]
  congr 3
  exact decide_eq_decide.2 (w4_inj hn hk)
theorem W.eql (hgd : o.guard = none) (x y : Operand) (T : TypeId) (ho : o.op = .binOp .eql 24 x y T) (n k : Nat) (b : Bool) (hn : n < M) (hk : k < M) (hb : decide (n = k) = b) (hx : a.eval x = wv n) (hy : a.eval y = wv k)
    (h : wpList Try.prog ops Q rest (a.put o.dst (.bool b)) w) : wpList Try.prog ops Q (o :: rest) a w := wpList_val hgd _ (W.exec_eql x y T ho n k b hn hk hb hx hy) h
end
/-! A statement that draws, and turns numbers: what is read and written. -/
section
variable {w0 w w' : World} {L : List Blk} {o : Oper} {ρ : Operand → Value}
theorem W.xload (m : Mem w0 w L) (hC : Gr w w') (x : Operand) (ho : o.op = .load 24 x) (i : Nat) {g n : Nat} (hi : Blk.at L i ⟨g, 24, c64 (w4 n)⟩) (hx : ρ x = .pointer (some ⟨g, 0, none⟩)) : (execOp ρ o).run Try.prog w' = .ok (.value (wv n)) w' :=
  exec_load_arr Try.aw x ho g _ (wl n) hx ((m.get i hi).gr hC)
theorem W.xidx (x y : Operand) (ho : o.op = .indexAddr 24 x y) (g i : Nat) (k : IntKind) (u : Int) (hu : u = (i : Int)) (hi : i < 4) (hx : ρ x = .pointer (some ⟨g, 0, none⟩)) (hy : ρ y = .int k u) : (execOp ρ o).run Try.prog w = .ok (.value (.pointer (some ⟨g, i, none⟩))) w :=
  exec_indexAt_arr Try.aw x y ho g i k u hu hi hx hy
theorem W.newget {n' : List Value} (m : Mem w0 w L) (hC : Vw 24 (VN w.heap.size (c64 (w4 0)) n') w w') (x : Operand) (ho : o.op = .load 22 x) (i j : Nat) {g n : Nat} (v : Nat) (hi : Blk.at L i ⟨g, 24, c64 (w4 n)⟩) (hj : j < 4) (hv : gw (w4 n) j = v) (hx : ρ x = .pointer (some ⟨g, j, none⟩)) : (execOp ρ o).run Try.prog w' = .ok (.value (.int .u64 (v : Int))) w' :=
  exec_get Try.u64 x ho g j _ _ (m.oldN hC i hi) (wv_cellv n j v hj hv) hx
end
theorem Mem.oldM {w0 w w' : World} {L : List Blk} {T : TypeId} {o n : List Value} (m : Mem w0 w L) (hw : Vw T (VN w.heap.size o n) w w') : Mem w0 w' L :=
  m.gr (hw.below (fun _ _ _ hv => hv.1) (Nat.le_refl _))
end Go.Proofs.Ytpfoeeiacfadfaa
/-
  Contracts of math/bits' Div64 (the divisor's highest bit is set), and of package wide's guess and divideWord.
-/
namespace Go.Proofs.Ytpfoeeiacfadfaa
open Go.RowKit

set_option maxHeartbeats 1000000 in
theorem div64_zero (l y : Nat) (hy : y ≠ 0) (hl : l < 18446744073709551616) (w : World) :
    Calls Try.prog 85 #[.int .u64 ((0 : Nat) : Int), .int .u64 (l : Int), .int .u64 (y : Int)] w fun e w' => (∃ r, e = .returned (.tuple #[.int .u64 ((l / y : Nat) : Int), r])) ∧ Below w.heap.size w w' := by
  have y0 : ((y : Int) == 0) = false := by simp; omega
  have yh : ¬ ((y : Int) ≤ 0) := by omega
  obtain ⟨q, hq⟩ : ∃ q, l / y = q := ⟨_, rfl⟩
  obtain ⟨r, hr⟩ : ∃ q, l % y = q := ⟨_, rfl⟩
  have HQ : Hid (l / y = q) := hq
  have HR : Hid (l % y = r) := hr
  have HL : Hid (l < 18446744073709551616) := hl
  have HY : Hid (y ≠ 0) := hy
  rw [hq]
  clear hq hr hl hy
  go_enter Try.func85, Try.ntmps85
  go_wp2
  have F := N_fit 24 w [] [] (fun _ _ _ _ => False) (fun _ _ _ _ _ h => h)
  refine Mild2.wp_region F (by kernel_rfl) (by kernel_rfl) (Vw.draw _) ?_
  iterate 2 (refine Mild2.step_quiet F rfl rfl rfl (fun w0 hC hF K hK => ?_); clear hF; go_big_quiet_op; refine hK _ ?_; clear hK K hC; clear w0)
  refine Mild2.step_known F rfl rfl (.int .u64 (q : Nat)) (fun w0 hC _ => exec_quoU (.tmp 28) (.tmp 29) _ _ rfl l y q HQ.out HL.out HY.out rfl rfl) ?_
  simp only [Act.put, List.setIfInBounds_toArray, List.set_cons_succ, List.set_cons_zero]
  iterate 2 (refine Mild2.step_quiet F rfl rfl rfl (fun w0 hC hF K hK => ?_); clear hF; go_big_quiet_op; refine hK _ ?_; clear hK K hC; clear w0)
  refine Mild2.step_known F rfl rfl (.int .u64 (r : Nat)) (fun w0 hC _ => exec_remN (.tmp 31) (.tmp 32) _ _ rfl l y r HR.out HY.out .u64 rfl rfl) ?_
  simp only [Act.put, List.setIfInBounds_toArray, List.set_cons_succ, List.set_cons_zero]
  iterate 2 (refine Mild2.step_quiet F rfl rfl rfl (fun w0 hC hF K hK => ?_); clear hF; go_big_quiet_op; refine hK _ ?_; clear hK K hC; clear w0)
  intro w8 hw8 hf8
  have hb8 : Below w.heap.size w w8 := hw8.below (fun _ _ _ hv => hv.1) (Nat.le_refl _)
  clear hf8 hw8 F
  go_wp2
  go_ret2
  exact ⟨⟨_, rfl⟩, hb8⟩

theorem div64_any (h l y : Nat) (hy : 9223372036854775808 ≤ y) (hyB : y < 18446744073709551616) (hh : h < y) (hl : l < 18446744073709551616) (w : World) :
    Calls Try.prog 85 #[.int .u64 (h : Int), .int .u64 (l : Int), .int .u64 (y : Int)] w fun e w' => (∃ r, e = .returned (.tuple #[.int .u64 (((h * 18446744073709551616 + l) / y : Nat) : Int), r])) ∧ Below w.heap.size w w' := by
  by_cases h0 : h = 0
  · subst h0
    have := div64_zero l y (by omega) hl w
    rw [Nat.zero_mul, Nat.zero_add]
    exact this
  · refine (div64_big h l y hy hyB hh hl h0 w).mono ?_
    rintro e w' ⟨r, rfl, rfl⟩
    exact ⟨⟨r, rfl⟩, Below.refl _ _⟩

theorem guess_any (t n d : Nat) (hd : 9223372036854775808 ≤ d) (hdB : d < 18446744073709551616) (hn : n < 18446744073709551616) (w : World) :
    Calls Try.prog 84 #[.int .u64 (t : Int), .int .u64 (n : Int), .int .u64 (d : Int)] w fun e w' => e = .returned (.int .u64 ((gsN t n d : Nat) : Int)) ∧ Below w.heap.size w w' := by
  by_cases h : d ≤ t
  · have HT : Hid (decide (d ≤ t) = true) := decide_eq_true h
    have HR : Hid (gsN t n d = 18446744073709551615) := by show _ = _; unfold gsN; rw [if_pos h]
    clear h hd hdB hn
    go_enter Try.func84, Try.ntmps84
    go_wp2_with ((first
      | (refine wpList_val rfl (.bool true) (exec_geqU (.tmp 9) (.tmp 10) _ _ rfl t d true HT.out .u64 rfl rfl) ?_)); try simp only [Act.put, List.setIfInBounds_toArray, List.set_cons_succ, List.set_cons_zero])
    go_ret
    exact ⟨by rw [HR.out]; rfl, Below.refl _ _⟩
  · have HT : Hid (decide (d ≤ t) = false) := decide_eq_false h
    have HR : Hid (gsN t n d = (t * 18446744073709551616 + n) / d) := by show _ = _; unfold gsN; rw [if_neg h]
    have HC : Hid (∀ w, Calls Try.prog 85 #[.int .u64 (t : Int), .int .u64 (n : Int), .int .u64 (d : Int)] w fun e w' => (∃ r, e = .returned (.tuple #[.int .u64 ((gsN t n d : Nat) : Int), r])) ∧ Below w.heap.size w w') := fun w => by
      rw [HR.out]; exact div64_any t n d hd hdB (by omega) hn w
    clear h hd hdB hn HR
    go_enter Try.func84, Try.ntmps84
    go_wp2_with ((first
      | (refine wpList_val rfl (.bool false) (exec_geqU (.tmp 9) (.tmp 10) _ _ rfl t d false HT.out .u64 rfl rfl) ?_)
      | (go_at_call 85; refine (HC.out _).mono ?_; rintro e w7 ⟨⟨r, rfl⟩, b7⟩)); try simp only [Act.put, List.setIfInBounds_toArray, List.set_cons_succ, List.set_cons_zero])
    go_ret
    exact ⟨rfl, b7⟩

end Go.Proofs.Ytpfoeeiacfadfaa
