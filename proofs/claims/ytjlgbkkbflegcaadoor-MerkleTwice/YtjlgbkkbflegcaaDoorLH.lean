/-
  Lists of hashes (each of 32 bytes) in memory, one behind the other; an argument of that type.
-/
import Derived.Test.YtjlgbkkbflegcaaDoorX2
import Derived.Deep.Slices
import Derived.OpenShut
namespace Go.Proofs.YtjlgbkkbflegcaaDoor
open Go.RowKit

/-- The cells of hashes. -/
def cH (l : List (List UInt8)) : List Value := l.flatMap cellsOf
def H32 (l : List (List UInt8)) : Prop := ∀ x ∈ l, x.length = 32
def atH (l : List (List UInt8)) (i : Nat) : List UInt8 := l.getD i []
theorem H32.nil : H32 [] := fun _ h => absurd h List.not_mem_nil
theorem H32.app {l m : List (List UInt8)} (h : H32 l) (k : H32 m) : H32 (l ++ m) := fun x hx => by
  rcases List.mem_append.1 hx with hx | hx
  · exact h x hx
  · exact k x hx
theorem H32.one {x : List UInt8} (h : x.length = 32) : H32 [x] := fun y hy => by rw [List.mem_singleton.1 hy]; exact h
theorem atH_get {l : List (List UInt8)} {i : Nat} (h : i < l.length) : l[i]? = some (atH l i) := by
  unfold atH; simp [List.getD_eq_getElem?_getD, h]
theorem H32.at {l : List (List UInt8)} (h : H32 l) {i : Nat} (hi : i < l.length) : (atH l i).length = 32 := h _ (List.mem_of_getElem? (atH_get hi))
theorem cH_append (l m : List (List UInt8)) : cH (l ++ m) = cH l ++ cH m := by simp [cH]
theorem cH_length {l : List (List UInt8)} (h : H32 l) : (cH l).length = l.length * 32 := by
  induction l with
  | nil => rfl
  | cons x l ih =>
    have h1 : (cH (x :: l)).length = (cellsOf x).length + (cH l).length := by simp [cH]
    rw [h1, cellsOf_length, h x List.mem_cons_self, ih fun y hy => h y (List.mem_cons_of_mem _ hy), List.length_cons]
    omega
theorem cH_one (l : List (List UInt8)) : ∀ u ∈ cH l, u.oneCell' = true := by
  intro u hu
  obtain ⟨x, _, hx⟩ := List.mem_flatMap.1 hu
  exact cellsOf_one x u hx
theorem cH_single (x : List UInt8) : cH [x] = cellsOf x := by simp [cH]
theorem cH_get {l : List (List UInt8)} (h : H32 l) {i : Nat} (hi : i < l.length) : ∀ j u, (cellsOf (atH l i))[j]? = some u → (cH l)[i * 32 + j]? = some u := by
  induction l generalizing i with
  | nil => simp at hi
  | cons x l ih =>
    intro j u hu
    have hx : (cellsOf x).length = 32 := by rw [cellsOf_length]; exact h x List.mem_cons_self
    have e : cH (x :: l) = cellsOf x ++ cH l := by simp [cH]
    rw [e]
    cases i with
    | zero =>
      have hu' : (cellsOf x)[j]? = some u := hu
      have hj : j < (cellsOf x).length := (List.getElem?_eq_some_iff.1 hu').1
      rw [Nat.zero_mul, Nat.zero_add, List.getElem?_append_left hj]; exact hu'
    | succ i =>
      have h1 := ih (fun y hy => h y (List.mem_cons_of_mem _ hy)) (by simpa using hi) j u hu
      rw [List.getElem?_append_right (by omega), ← h1, hx]
      congr 1
      omega

theorem len_of {x : List UInt8} {n : Nat} (h : (cellsOf x).length = n) : x.length = n := by rw [← h, cellsOf_length]
theorem H32.cons {x : List UInt8} {l : List (List UInt8)} (h : x.length = 32) (k : H32 l) : H32 (x :: l) := fun y hy => by
  rcases List.mem_cons.1 hy with rfl | hy
  · exact h
  · exact k y hy
theorem cH_len {l : List (List UInt8)} {n : Nat} (h : H32 l) (hn : l.length = n) : (cH l).length = n * 32 := by rw [cH_length h, hn]
/-- Hashes as values. -/
def vH (l : List (List UInt8)) : List Value := l.map fun x => .agg (cellsOf x).toArray
theorem vH_size {l : List (List UInt8)} (h : H32 l) : ∀ u ∈ vH l, u.cells.size = 32 := by
  intro u hu
  obtain ⟨x, hx, rfl⟩ := List.mem_map.1 hu
  show (cellsOf x).toArray.size = 32
  rw [List.size_toArray, cellsOf_length, h x hx]
theorem vH_flat (l : List (List UInt8)) : ((vH l).flatMap fun v => v.cells.toList) = cH l := by
  unfold vH cH
  rw [List.flatMap_map]
  rfl
/-- An argument of hashes. -/
theorem rh_of_trod {H : Type} {enc : TypeId × Value → H} {P : Program} {w : World} {held : Bool} {fuel : Nat} {L T E : TypeId} {x : DataW H × List MemPlace} {a : Option Addr} {len cap : Nat}
    (hL : P.underlying L = some (.slice T)) (hT : P.underlying T = some (.array 32 E)) (hE : P.underlying E = some (.int .u8)) (cT : P.cellsOf T = 32) (cE : P.cellsOf E = 1)
    (h : DataW.trod enc P w 0 (fun _ => true) held fuel L [.slice a len cap] = some x) : ∃ l : List (List UInt8), l.length = len ∧ H32 l ∧ Rc w.heap.size w (.slice a len cap) len (cH l) := by
  rcases Deep.open_slice hL h with ⟨hcs, _⟩ | ⟨a', len', cap', m, n, D, Pl, hcs, _, hl, hm, hmm, _, hr⟩
  · simp only [List.cons.injEq, Value.slice.injEq, and_true] at hcs
    obtain ⟨rfl, rfl, rfl⟩ := hcs
    exact ⟨[], rfl, H32.nil, Rc.nil _ _⟩
  · simp only [List.cons.injEq, Value.slice.injEq, and_true] at hcs
    obtain ⟨rfl, rfl, rfl⟩ := hcs
    simp only [if_true] at hmm
    subst hmm
    have key : ∀ i, i < m → ∃ y : List UInt8, y.length = 32 ∧ ∀ j u, (cellsOf y)[j]? = some u → w.cell? (a'.add (i * 32 + j)) = some u := by
      intro i hi
      obtain ⟨cs', h1, h2⟩ := hr i hi
      rw [cT] at h1
      obtain ⟨xs, k, _, _, hlen, hxl, hq⟩ := DataW.trod_array hT h2
      rw [cT] at hlen
      have each : ∀ j, j < 32 → ∃ c : UInt8, cs'[j]? = some (.int .u8 (c.toNat : Int)) := by
        intro j hj
        have h3 := hq j hj
        have h4 : xs[j]? = some xs[j] := by simp [show j < xs.length by omega]
        rw [h4] at h3
        obtain ⟨z, hz, _, hw⟩ := DataW.trod_int hE h3
        have e1 : IntKind.u8.min = 0 := rfl
        have e2 : IntKind.u8.max = 255 := rfl
        simp only [Lit.wf, e1, e2, Bool.and_eq_true, decide_eq_true_eq] at hw
        refine ⟨UInt8.ofNat z.toNat, ?_⟩
        have e3 : (((UInt8.ofNat z.toNat).toNat : Nat) : Int) = z := by simp only [UInt8.toNat_ofNat']; omega
        rw [e3]
        simp only [cE, Nat.mul_one] at hz
        have h9 : cs'[j]? = some (.int .u8 z) := by
          have h8 := congrArg (fun l : List Value => l[0]?) hz
          simpa [List.getElem?_take, List.getElem?_drop] using h8
        exact h9
      refine ⟨(List.range 32).map fun j => match (cs'[j]? : Option Value) with | some (.int _ n) => UInt8.ofNat n.toNat | _ => 0, by simp, fun j u hu => ?_⟩
      obtain ⟨hj, rfl⟩ := cellsOf_get hu
      have hj' : j < 32 := by simpa using hj
      obtain ⟨c, hc⟩ := each j hj'
      have hcell : w.cell? ((a'.add (i * 32)).add j) = some (.int .u8 (c.toNat : Int)) := by
        unfold World.cells? at h1
        split at h1
        · have h5 := mapM_some_get h1 j j (by simp [hj'])
          rw [h5, hc]
        · cases h1
      have e1 : (a'.add (i * 32)).add j = a'.add (i * 32 + j) := by
        obtain ⟨b, off, sp⟩ := a'
        unfold Addr.add
        by_cases e0 : i * 32 = 0
        · rw [e0]; simp
        · by_cases ej : j = 0
          · subst ej; simp
          · simp [e0, ej, Nat.add_assoc]
      rw [← e1, hcell]
      simp [hc]
    obtain ⟨Y, hY⟩ : ∃ Y : Nat → List UInt8, ∀ i, i < m → (Y i).length = 32 ∧ ∀ j u, (cellsOf (Y i))[j]? = some u → w.cell? (a'.add (i * 32 + j)) = some u := by
      refine ⟨fun i => if hi : i < m then Classical.choose (key i hi) else [], fun i hi => ?_⟩
      simp only [hi, dif_pos]
      exact Classical.choose_spec (key i hi)
    refine ⟨(List.range len).map Y, by simp, fun y hy => ?_, some a', m, rfl, hl, (fun h => by cases h), fun b hb j u hu => ?_⟩
    · obtain ⟨i, hi, rfl⟩ := List.mem_map.1 hy
      exact (hY i (by have := List.mem_range.1 hi; omega)).1
    · obtain rfl := Option.some.inj hb
      have h32 : H32 ((List.range len).map Y) := fun y hy => by
        obtain ⟨i, hi, rfl⟩ := List.mem_map.1 hy
        exact (hY i (by have := List.mem_range.1 hi; omega)).1
      have hj : j < (cH ((List.range len).map Y)).length := (List.getElem?_eq_some_iff.1 hu).1
      rw [cH_length h32] at hj
      simp only [List.length_map, List.length_range] at hj
      have hi : j / 32 < len := by omega
      have hat : atH ((List.range len).map Y) (j / 32) = Y (j / 32) := by unfold atH; simp [List.getD_eq_getElem?_getD, hi]
      have hlt : j % 32 < (cellsOf (Y (j / 32))).length := by rw [cellsOf_length, (hY _ (by omega)).1]; omega
      have h6 := cH_get h32 (i := j / 32) (by simpa using hi) (j % 32) _ (by rw [hat]; exact List.getElem?_eq_getElem hlt)
      have e2 : j / 32 * 32 + j % 32 = j := by omega
      rw [e2, hu] at h6
      obtain rfl := Option.some.inj h6
      have h7 := (hY _ (by omega)).2 (j % 32) _ (List.getElem?_eq_getElem hlt)
      rw [e2] at h7
      refine ⟨h7, ?_⟩
      have := World.block_lt_of_cell? w _ h7
      rwa [add_block] at this
end Go.Proofs.YtjlgbkkbflegcaaDoor
