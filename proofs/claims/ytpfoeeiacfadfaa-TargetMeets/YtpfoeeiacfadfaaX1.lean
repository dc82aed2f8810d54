/-
  Plain facts on single operations, each told as the value that it yields, or as what it turns.
-/
import Derived.Test.YtpfoeeiacfadfaaMo
import Derived.Great.BuildSlice
namespace Go.Proofs.Ytpfoeeiacfadfaa
open Go.RowKit

/-- A slice type T of elements E of z cells, b bytes. -/
structure ST (P : Program) (T E : TypeId) (z b : Nat) (zv : Value) : Prop where
  sl : P.underlying T = some (.slice E)
  info : (P.info? E).map (fun i => (i.zero, i.size, i.bytes)) = some (some zv, z, b)
  zs : zv.cells.size = z
  pos : 0 < z
  small : b ≤ 1024
section
variable {P : Program} {ρ : Operand → Value} {o : Oper} {w w0 : World} {L : List Res} {T E : TypeId} {z b : Nat} {zv : Value}
theorem ST.parts (t : ST P T E z b zv) : ∃ i, P.info? E = some i ∧ i.zero = some zv ∧ i.size = z ∧ i.bytes = b := by
  obtain ⟨i, hi, h⟩ := Option.map_eq_some_iff.1 t.info
  simp only [Prod.mk.injEq] at h
  exact ⟨i, hi, h.1, h.2.1, h.2.2⟩

theorem x_len (hT : P.underlying T = some (.slice E)) (x : Operand) (ho : o.op = .call { callee := .builtin .len, args := #[x], argTypes := #[T] }) {B : Nat} {v : Value} {n : Nat} {cs : List Value} (h : Rc B w v n cs) (hx : ρ x = v) :
    (execOp ρ o).run P w = .ok (.value (.int .i64 (n : Int))) w := by
  obtain ⟨ao, cap, rfl, _⟩ := h
  unfold execOp
  simp only [ho, resolve, invoke, builtin, Sem.run_bind, Sem.run_pure, Result.andThen_ok, List.map_toArray, List.map_cons, List.map_nil, hx]
  simp [Builtin.len_, run_underlying hT, goInt]
/-- &v[i] -/
theorem x_ep (t : ST P T E z b zv) (x y : Operand) (ho : o.op = .indexAddr T x y) {B : Nat} {v : Value} {n : Nat} {cs : List Value} (h : Rc B w v n cs) (i : Nat) (k : IntKind) (q : Nat) (hq : i * z = q) (hi : i < n) (hx : ρ x = v) (u : Int) (hu : u = (i : Int)) (hy : ρ y = .int k u) :
    (execOp ρ o).run P w = .ok (.value (eP v q)) w := by
  subst hu hq
  obtain ⟨ao, cap, rfl, h1, h2, _⟩ := h
  cases ao with
  | none => have := h2 rfl; omega
  | some a =>
    obtain ⟨j, hj, _, hs, _⟩ := t.parts
    have h : (Instr.indexAt T (.slice (some a) n cap) (.int k i)).run P w = .ok (.pointer (some (a.add (i * z)))) w := by
      simp [Instr.indexAt, asIntOf, run_underlying t.sl, hi, sizeOf, typeInfo, hj, hs]
    unfold execOp
    simp only [ho, hx, hy, Sem.run_bind, Sem.run_pure, Result.andThen_ok, h]
    rfl
/-- *p, one cell of a slice -/
theorem x_ldp {F : TypeId} {k : IntKind} (hF : P.underlying F = some (.int k)) (x : Operand) (ho : o.op = .load F x) {B : Nat} {v : Value} {n : Nat} {cs : List Value} (h : Rc B w v n cs) (j : Nat) (hn : 0 < n) (u : Value) (hu : cs[j]? = some u) (hx : ρ x = eP v j) :
    (execOp ρ o).run P w = .ok (.value u) w := by
  obtain ⟨a0, cap, rfl, he, hc⟩ := h.eP hn hu
  unfold execOp
  have h : (Instr.loadAt F (eP (.slice (some a0) n cap) j)).run P w = .ok u w := by rw [he]; simp [Instr.loadAt, Instr.sureAddr, loadVar, isAgg, run_underlying hF, hc]
  simp only [ho, hx, Sem.run_bind, Sem.run_pure, Result.andThen_ok, h]
/-- *p, some cells of a slice as an array -/
theorem x_lda {A F : TypeId} {N : Nat} {zz : Value} (t : AT P A F N zz) (x : Operand) (ho : o.op = .load A x) {B : Nat} {v : Value} {n : Nat} {cs : List Value} (h : Rc B w v n cs) (j : Nat) (hn : 0 < n) (us : List Value) (hl : us.length = N) (hN : 0 < N) (hu : ∀ i u, us[i]? = some u → cs[j + i]? = some u) (hx : ρ x = eP v j) :
    (execOp ρ o).run P w = .ok (.value (.agg us.toArray)) w := by
  obtain ⟨i, hi, hz, hs⟩ := t.parts
  obtain ⟨u0, hu0⟩ : ∃ u0, us[0]? = some u0 := ⟨us[0]'(by omega), List.getElem?_eq_getElem (by omega)⟩
  obtain ⟨a0, cap, rfl, he, hc⟩ := h.eP hn (hu 0 u0 hu0)
  rw [Nat.add_zero] at he
  have h1 := run_loadCells_list (P := P) w (a0.add j) us (fun k u hk => by
    obtain ⟨a1, cap1, e1, _, hc1⟩ := h.eP hn (hu k u hk)
    simp only [Value.slice.injEq, Option.some.injEq] at e1
    obtain ⟨rfl, _, rfl⟩ := e1
    rw [← hc1]
    congr 1
    obtain ⟨b, off, sp⟩ := a0
    unfold Addr.add
    by_cases e0 : j = 0
    · subst e0; simp
    · by_cases ej : k = 0
      · subst ej; simp
      · simp [e0, ej, Nat.add_assoc])
  rw [hl] at h1
  have h2 : (Instr.loadAt A (eP (.slice (some a0) n cap) j)).run P w = .ok (.agg us.toArray) w := by
    rw [he]
    simp [Instr.loadAt, Instr.sureAddr, loadVar, isAgg, run_underlying t.ar, sizeOf, typeInfo, hi, hs, h1]
  unfold execOp
  simp only [ho, hx, Sem.run_bind, Sem.run_pure, Result.andThen_ok, h2]
/-- v[lo:hi] -/
theorem x_sl (t : ST P T E z b zv) (x : Operand) (lo hi : Option Operand) (ho : o.op = .slice T x lo hi none) {B : Nat} {v : Value} {n : Nat} {cs : List Value} (h : Rc B w v n cs) (l m : Nat) (h1 : l ≤ m) (h2 : m ≤ n) (hx : ρ x = v)
    (hlo : match lo with | none => l = 0 | some y => ρ y = .int .i64 (l : Int)) (hhi : match hi with | none => m = n | some y => ρ y = .int .i64 (m : Int)) :
    (execOp ρ o).run P w = .ok (.value (sV z v l m)) w := by
  obtain ⟨ao, cap, rfl, h3, h4, _⟩ := h
  obtain ⟨j, hj, _, hs, _⟩ := t.parts
  have b1 : ∀ e : BoundsCode, (Instr.sliceBound (.int .i64 (l : Int)) m e).run P w = .ok l w := fun e => by simp [Instr.sliceBound, asIntOf]; omega
  have b2 : ∀ e : BoundsCode, (Instr.sliceBound (.int .i64 (m : Int)) cap e).run P w = .ok m w := fun e => by simp [Instr.sliceBound, asIntOf]; omega
  have b3 : ∀ e : BoundsCode, (Instr.sliceBound (.int .i64 (l : Int)) n e).run P w = .ok l w := fun e => by simp [Instr.sliceBound, asIntOf]; omega
  unfold execOp
  cases lo with
  | none =>
    have hl : l = 0 := hlo
    subst hl
    cases hi with
    | none => have hm : m = n := hhi; subst hm; simp [ho, hx, Instr.sliceAt, Instr.slice, run_underlying t.sl, Instr.sliceBounds, sizeOf, typeInfo, hj, sV]
    | some y => have hm : ρ y = .int .i64 (m : Int) := hhi; simp [ho, hx, hm, Instr.sliceAt, Instr.slice, run_underlying t.sl, Instr.sliceBounds, b2, sizeOf, typeInfo, hj, sV]
  | some y =>
    have hl : ρ y = .int .i64 (l : Int) := hlo
    cases hi with
    | none => have hm : m = n := hhi; subst hm; simp [ho, hx, hl, Instr.sliceAt, Instr.slice, run_underlying t.sl, Instr.sliceBounds, b3, sizeOf, typeInfo, hj, hs, sV]
    | some y => have hm : ρ y = .int .i64 (m : Int) := hhi; simp [ho, hx, hl, hm, Instr.sliceAt, Instr.slice, run_underlying t.sl, Instr.sliceBounds, b1, b2, sizeOf, typeInfo, hj, hs, sV]

/-- append(own, read..) -/
theorem x_app (t : ST P T E z b zv) (s x : Operand) (ho : o.op = .call { callee := .builtin .append, args := #[s, x], argTypes := #[T, T] }) (m : Mo w0 w L) (i : Nat) {v : Value} {n : Nat} {cs : List Value} (hi : L[i]? = some (.own E z v n cs)) (hs : ρ s = v)
    {B : Nat} {u : Value} {k : Nat} {ds : List Value} (hr : Rc B w u k ds) (hd : ds.length = k * z) (h1 : ∀ c ∈ ds, c.oneCell' = true) (hb : n + k ≤ 1073741824) (hx : ρ x = u) :
    ∃ v' w', (execOp ρ o).run P w = .ok (.value v') w' ∧ Mo w0 w' (L.set i (.own E z v' (n + k) (cs ++ ds))) := by
  obtain ⟨i0, hi0, hz0, hz1, hz2⟩ := t.parts
  have hown : w.ownsRow w0.heap.size E z v n cs := m.get hi
  have hsz := t.pos
  have hbts : (n + k) * b ≤ 140737488355328 := by
    have h1 : (n + k) * b ≤ 1073741824 * 1024 := Nat.mul_le_mul hb t.small
    omega
  obtain ⟨ao, cap, rfl, hc1, hc2, hc3⟩ := hr
  have key : ∃ v' w', (Builtin.append_ #[T, T] o.type #[v, .slice ao k cap]).run P w = .ok v' w' ∧ w'.ownsRow w0.heap.size E z v' (n + k) (cs ++ ds) ∧ w.grownBy w' v.ownBlock ∧ (∀ g, v'.ownBlock = some g → v.ownBlock = some g ∨ w.heap.size ≤ g) := by
    cases ao with
    | none =>
      have hc := hc2 rfl
      obtain rfl : k = 0 := by omega
      obtain rfl : ds = [] := List.eq_nil_of_length_eq_zero (by simpa using hd)
      subst hc
      exact ⟨v, w, run_append_owned_none (P := P) (w := w) w0.heap.size T o.type E i0 z t.sl hi0 v n cs hown, by simpa using hown, ⟨rfl, rfl, rfl, Nat.le_refl _, fun _ _ _ => rfl⟩, fun g hg => .inl hg⟩
    | some a =>
      have hnews : ∀ j u, ds[j]? = some u → w.cell? (a.add j) = some u := fun j u hu => (hc3 a rfl j u hu).1
      obtain ⟨v', w', hr, h4, h5, _⟩ := run_append_own (P := P) w w0.heap.size T o.type E i0 zv z b t.sl hi0 hz0 hz1 hz2 t.zs hsz v n cs hown a k cap ds hd hnews h1 (by unfold maxLen; omega) hbts m.size
      refine ⟨v', w', hr, h4, h5, fun g hg => ?_⟩
      rcases hown.2 with ⟨rfl, rfl⟩ | ⟨g0, cap0, cur, rfl, hbg, hg0, hnc, hcm, hcs, htake⟩
      · by_cases hk : k = 0
        · subst hk
          obtain ⟨rfl, rfl⟩ : v' = .slice none 0 0 ∧ w' = w := by
            have hn : ds = [] := List.eq_nil_of_length_eq_zero (by simpa using hd)
            subst hn
            have e : (Builtin.append_ #[T, T] o.type #[.slice none 0 0, .slice (some a) 0 cap]).run P w = .ok (.slice none 0 0) w := by
              simp [Builtin.append_, run_underlying t.sl, sizeOf, typeInfo, hi0, Builtin.lenOf, Builtin.firstCells, loadCells, loadCellsFrom]
            rw [e] at hr
            simp only [Result.ok.injEq] at hr
            exact ⟨hr.1.symm, hr.2.symm⟩
          cases hg
        · have e := run_append_nil (P := P) w T o.type E i0 zv t.sl hi0 hz0 a k cap ds (by rw [hz1]; exact hd) hnews (by omega) (by omega) (by rw [hz2]; rw [Nat.zero_add] at hbts; omega)
          rw [e] at hr
          simp only [Result.ok.injEq] at hr
          rw [← hr.1] at hg
          obtain rfl := Option.some.inj hg
          exact .inr (Nat.le_refl _)
      · by_cases hroom : n + k ≤ cap0
        · have hfit : n * i0.size + ds.length ≤ cur.size := by rw [hd, hcs, hz1, ← Nat.add_mul]; exact Nat.mul_le_mul_right _ hroom
          have e := run_append_room (P := P) w T o.type E i0 t.sl hi0 g0 n cap0 cur hg0 a k cap ds (by rw [hz1]; exact hd) hnews h1 hroom hfit
          rw [e] at hr
          simp only [Result.ok.injEq] at hr
          rw [← hr.1] at hg
          exact .inl hg
        · have holds : ∀ j u, cs[j]? = some u → w.cell? ((⟨g0, 0, none⟩ : Addr).add j) = some u := hown.cells (g := g0) rfl
          have e := run_append_grow (P := P) w T o.type E i0 zv t.sl hi0 hz0 ⟨g0, 0, none⟩ n cap0 cs (by rw [hz1]; exact hown.1) holds a k cap ds (by rw [hz1]; exact hd) hnews (by omega) (by omega) (growslice_fits (by omega) (by rw [hz2]; exact hbts))
          rw [e] at hr
          simp only [Result.ok.injEq] at hr
          rw [← hr.1] at hg
          obtain rfl := Option.some.inj hg
          exact .inr (Nat.le_refl _)
  obtain ⟨v', w', hr, h4, h5, h6⟩ := key
  refine ⟨v', w', ?_, m.turn hi h5 h4 h6⟩
  unfold execOp
  simp only [ho, resolve, invoke, builtin, Sem.run_bind, Sem.run_pure, Result.andThen_ok, List.map_toArray, List.map_cons, List.map_nil, hs, hx, hr]

def evs (ρ : Operand → Value) : List (Nat × Operand) → List (Nat × Value)
  | [] => []
  | (i, x) :: r => (i, ρ x) :: evs ρ r
def nm : Nat → List Value → List (Nat × Value)
  | _, [] => []
  | k, u :: r => (k, u) :: nm (k + 1) r
theorem evs_eq (ρ : Operand → Value) (ps : List (Nat × Operand)) : (ps.toArray.map fun (i, x) => (i, ρ x)).toList = evs ρ ps := by
  rw [Array.toList_map]
  show ps.map _ = _
  induction ps with
  | nil => rfl
  | cons p ps ih => rw [List.map_cons, ih]; rfl
theorem nm_eq : ∀ (us : List Value) (k : Nat), nm k us = (us.zipIdx k).map fun x => (x.2, x.1)
  | [], _ => rfl
  | u :: us, k => by rw [List.zipIdx_cons, List.map_cons, ← nm_eq us (k + 1)]; rfl
/-- []T{..}: all elements are written out. -/
theorem x_bld (t : ST P T E z b zv) (n : Nat) (ps : List (Nat × Operand)) (ho : o.op = .buildSlice T n ps.toArray) (m : Mo w0 w L) (us : List Value) (cs : List Value) (hn : us.length = n) (hs : n * z ≤ 1000000) (hu : ∀ u ∈ us, u.cells.size = z) (hc : (us.flatMap fun v => v.cells.toList) = cs)
    (hps : evs ρ ps = nm 0 us) :
    ∃ v w', (execOp ρ o).run P w = .ok (.value v) w' ∧ Mo w0 w' (.own E z v n cs :: L) := by
  have hp : (ps.toArray.map fun (i, x) => (i, ρ x)).toList = (us.zipIdx 0).map fun x => (x.2, x.1) := by rw [evs_eq, hps, nm_eq]
  clear hps
  subst hn hc
  obtain ⟨i, hi, hz0, hz1, _⟩ := t.parts
  subst hz1
  have hrun : (Instr.buildSlice T us.length (ps.toArray.map fun (i, x) => (i, ρ x))).run P w = .ok (.slice (some ⟨w.heap.size, 0, none⟩) us.length us.length) (w.alloc (.cells (us.flatMap fun v => v.cells.toList).toArray E)) := by
    by_cases h0 : us.length = 0
    · obtain rfl := List.eq_nil_of_length_eq_zero h0
      have hpn : (ps.toArray.map fun (i, x) => (i, ρ x)) = #[] := by
        apply Array.ext'
        rw [hp]; rfl
      rw [hpn]
      have e : ∀ f : Nat → Value, (Array.range 0).map f = #[] := fun f => Array.eq_empty_of_size_eq_zero (by simp)
      simp [Instr.buildSlice, run_underlying t.sl, sizeOf, typeInfo, hi, Instr.fill, newRow, e]
    · refine run_buildSlice w T E us.length _ _ i zv t.sl hi hz0 (by omega) ?_ ?_
      · have := Nat.mul_pos (Nat.pos_of_ne_zero h0) t.pos
        omega
      · rw [hp]
        exact Great.fill_whole t.pos us _ hu (by simp)
  have hlen : (us.flatMap fun v => v.cells.toList).length = us.length * i.size := by
    clear hp hs hrun ho
    induction us with
    | nil => simp
    | cons u us ih =>
      rw [List.flatMap_cons, List.length_append, ih (fun u hu' => hu u (List.mem_cons_of_mem _ hu')), Array.length_toList, hu u List.mem_cons_self, List.length_cons, Nat.add_mul]
      omega
  refine ⟨_, _, ?_, m.new (w' := w.alloc (.cells (us.flatMap fun v => v.cells.toList).toArray E)) (r := .own E i.size (.slice (some ⟨w.heap.size, 0, none⟩) us.length us.length) us.length _) ((Below.refl _ _).alloc (Nat.le_refl _) _) ?_⟩
  · unfold execOp
    simp only [ho, Sem.run_bind, Sem.run_pure, Result.andThen_ok, hrun]
  · refine ⟨hlen, .inr ⟨w.heap.size, us.length, _, rfl, Nat.le_refl _, heap_alloc_new w _, Nat.le_refl _, ?_, by simpa using hlen, by rw [← hlen]; exact List.take_of_length_le (Nat.le_refl _)⟩⟩
    have h9 : us.length * 1 ≤ us.length * i.size := Nat.mul_le_mul_left _ t.pos
    unfold maxLen; omega

/-- make([]T, n) -/
theorem x_mk (t : ST P T E z b zv) (s c : Operand) (ho : o.op = .makeSlice T s c) (m : Mo w0 w L) (kl kc : IntKind) (n : Nat) (hb : n ≤ 1073741824) (hs : ρ s = .int kl (n : Int)) (hc : ρ c = .int kc (n : Int)) :
    ∃ v w', (execOp ρ o).run P w = .ok (.value v) w' ∧ Mo w0 w' (.own E z v n (madeCells zv.cells (n * z)).toList :: L) := by
  obtain ⟨i, hi, hz0, hz1, hz2⟩ := t.parts
  have h1 : b * n ≤ 1024 * 1073741824 := Nat.mul_le_mul t.small hb
  obtain ⟨w', hr, h2, h3⟩ := run_make_full (P := P) w w.heap.size T E i zv z t.sl hi hz0 hz1 kl kc n (by rw [hz2]; omega) (by unfold maxLen; omega) (Nat.le_refl _)
  refine ⟨_, w', ?_, m.new (r := .own E z _ n _) ((Below.refl w.heap.size w).grown h3 (Nat.le_refl _) fun k hk => by cases hk) h2⟩
  unfold execOp
  simp only [ho, hs, hc, Sem.run_bind, Sem.run_pure, Result.andThen_ok, hr]
/-- make([]T, 0, n) -/
theorem x_mk0 (t : ST P T E z b zv) (s c : Operand) (ho : o.op = .makeSlice T s c) (m : Mo w0 w L) (kl kc : IntKind) (n : Nat) (hb : n ≤ 1073741824) (hs : ρ s = .int kl 0) (hc : ρ c = .int kc (n : Int)) :
    ∃ v w', (execOp ρ o).run P w = .ok (.value v) w' ∧ Mo w0 w' (.own E z v 0 [] :: L) := by
  obtain ⟨i, hi, hz0, hz1, hz2⟩ := t.parts
  have h1 : b * n ≤ 1024 * 1073741824 := Nat.mul_le_mul t.small hb
  obtain ⟨w', hr, h2, h3⟩ := run_make_own (P := P) w w.heap.size T E i zv z t.sl hi hz0 hz1 kl kc n (by rw [hz2]; omega) (by unfold maxLen; omega) (Nat.le_refl _)
  refine ⟨_, w', ?_, m.new (r := .own E z _ 0 _) ((Below.refl w.heap.size w).grown h3 (Nat.le_refl _) fun k hk => by cases hk) h2⟩
  unfold execOp
  simp only [ho, hs, hc, Sem.run_bind, Sem.run_pure, Result.andThen_ok, hr]

/-- own[..] = y, of whatever cells -/
theorem x_set {F : TypeId} (x y : Operand) (ho : o.op = .store F x y) (m : Mo w0 w L) (i : Nat) {v : Value} {n : Nat} {cs : List Value} (hi : L[i]? = some (.own E z v n cs)) (j : Nat) (us ds : List Value) (hF : (P.info? F).map (·.size) = some us.length) (hj : j + us.length ≤ cs.length) (h0 : 0 < us.length) (h1 : ∀ c ∈ us, c.oneCell' = true) (hds : cs.take j ++ us ++ cs.drop (j + us.length) = ds)
    (hx : ρ x = eP v j) (u : Value) (hu : u.cells = us.toArray) (hy : ρ y = u) : ∃ w', (execOp ρ o).run P w = .ok .skip w' ∧ Mo w0 w' (L.set i (.own E z v n ds)) := by
  subst hds
  obtain ⟨q, hq, hsz⟩ := Option.map_eq_some_iff.1 hF
  have hown : w.ownsRow w0.heap.size E z v n cs := m.get hi
  have hlen := hown.1
  rcases hown.2 with ⟨rfl, rfl⟩ | ⟨g, cap, cur, rfl, hbg, hg, hnc, hcm, hcs, htake⟩
  · have h9 : cs.length = 0 := by simpa using hlen
    omega
  · have hcur : n * z ≤ cur.size := by rw [hcs]; exact Nat.mul_le_mul_right _ hnc
    have hst := run_storeCells_at P g j E us 0 cur w hg (by omega) h1
    simp only [Nat.add_zero] at hst
    refine ⟨_, ?_, m.turn hi (w' := w.setRow g (cur.toList.take j ++ us ++ cur.toList.drop (j + us.length)).toArray) ⟨rfl, rfl, rfl, by simp, fun k _ hk => setRow_other w g k _ (fun e => hk (by simp [Res.blk, Value.ownBlock, e]))⟩ (r' := .own E z _ n (cs.take j ++ us ++ cs.drop (j + us.length))) ⟨by simp; omega, .inr ⟨g, cap, _, rfl, hbg, setRow_heap w g cur _ E _ hg, hnc, hcm, ?_, ?_⟩⟩ (fun g' hg' => .inl hg')⟩
    · unfold execOp
      simp only [ho, hx, hy, eP, Addr.add_lit, Nat.zero_add, Instr.storeAt, Instr.sureAddr, storeVar, sizeOf, typeInfo, hq, hsz, hu, Sem.run_bind, Sem.run_pure, Result.andThen_ok, run_program, List.size_toArray, ne_eq, not_true_eq_false, if_false, hst]
    · simp; omega
    · have hc : cs = cur.toList.take (n * z) := htake.symm
      have hl : cs.length = n * z := hlen
      simp only [List.append_assoc]
      rw [List.take_append, List.take_append]
      have l1 : (cur.toList.take j).length = j := by simp; omega
      rw [l1]
      have e1 : (cur.toList.take j).take (n * z) = cs.take j := by rw [hc, List.take_take, List.take_take]; congr 1; omega
      have e2 : us.take (n * z - j) = us := List.take_of_length_le (by omega)
      have e3 : (cur.toList.drop (j + us.length)).take (n * z - j - us.length) = cs.drop (j + us.length) := by rw [hc, List.drop_take]; congr 1; omega
      rw [e1, e2, e3]
/-- new(array) -/
theorem x_alc {A F : TypeId} {N : Nat} {zz : Value} (t : AT P A F N zz) (ho : o.op = .alloc A) (m : Mo w0 w L) (cs : List Value) (hz : List.replicate N zz = cs) :
    ∃ v w', (execOp ρ o).run P w = .ok (.value v) w' ∧ ∃ g, v = .pointer (some ⟨g, 0, none⟩) ∧ Mo w0 w' (.arr g A cs :: L) := by
  subst hz
  obtain ⟨i, hi, hz, hs⟩ := t.parts
  have hrun : (Instr.alloc A true (.tuple #[])).run P w = .ok (.pointer (some ⟨w.heap.size, 0, none⟩)) (w.alloc (.cells (List.replicate N zz).toArray A)) := by
    simp [Instr.alloc, zeroValue, typeInfo, hi, hz, newVar, newRow, newObj, Value.cells]
    rfl
  refine ⟨_, _, ?_, w.heap.size, rfl, m.new (w' := w.alloc (.cells (List.replicate N zz).toArray A)) (r := .arr w.heap.size A _) ((Below.refl _ _).alloc (Nat.le_refl _) _) ⟨Nat.le_refl _, heap_alloc_new w _⟩⟩
  unfold execOp
  simp only [ho, Sem.run_bind, Sem.run_pure, Result.andThen_ok, hrun]
/-- new(T) with a value of cells -/
theorem x_box (A : TypeId) (x : Operand) (ho : o.op = .box A x) (m : Mo w0 w L) (cs : List Value) (hx : ρ x = .agg cs.toArray) :
    ∃ v w', (execOp ρ o).run P w = .ok (.value v) w' ∧ ∃ g, v = .pointer (some ⟨g, 0, none⟩) ∧ Mo w0 w' (.arr g A cs :: L) := by
  have hrun : (Instr.box A (.agg cs.toArray)).run P w = .ok (.pointer (some ⟨w.heap.size, 0, none⟩)) (w.alloc (.cells cs.toArray A)) := by
    simp [Instr.box, newVar, newRow, newObj, Value.cells]
    rfl
  refine ⟨_, _, ?_, w.heap.size, rfl, m.new (w' := w.alloc (.cells cs.toArray A)) (r := .arr w.heap.size A _) ((Below.refl _ _).alloc (Nat.le_refl _) _) ⟨Nat.le_refl _, heap_alloc_new w _⟩⟩
  unfold execOp
  simp only [ho, hx, Sem.run_bind, Sem.run_pure, Result.andThen_ok, hrun]
/-- Cells of a block are written. -/
theorem x_sta {F : TypeId} (x y : Operand) (ho : o.op = .store F x y) (m : Mo w0 w L) (i : Nat) {g : Nat} {T : TypeId} {cs : List Value} (hi : L[i]? = some (.arr g T cs)) (j : Nat) (us ds : List Value) (hF : (P.info? F).map (·.size) = some us.length) (hj : j + us.length ≤ cs.length) (h1 : ∀ c ∈ us, c.oneCell' = true) (hds : cs.take j ++ us ++ cs.drop (j + us.length) = ds)
    (hx : ρ x = .pointer (some ⟨g, j, none⟩)) (u : Value) (hu : u.cells = us.toArray) (hy : ρ y = u) : ∃ w', (execOp ρ o).run P w = .ok .skip w' ∧ Mo w0 w' (L.set i (.arr g T ds)) := by
  subst hds
  obtain ⟨q, hq, hsz⟩ := Option.map_eq_some_iff.1 hF
  have hg := m.get hi
  have hst := run_storeCells_at P g j T us 0 cs.toArray w hg.2 (by simpa using hj) h1
  simp only [Nat.add_zero] at hst
  refine ⟨_, ?_, m.turn hi (w' := w.setRow g (cs.take j ++ us ++ cs.drop (j + us.length)).toArray) ⟨rfl, rfl, rfl, by simp, fun k _ hk => setRow_other w g k _ (fun e => hk (by simp [Res.blk, e]))⟩ (r' := .arr g T _) ⟨hg.1, setRow_heap w g _ _ T _ hg.2⟩ (fun g' hg' => .inl hg')⟩
  unfold execOp
  simp only [ho, hx, hy, Instr.storeAt, Instr.sureAddr, storeVar, sizeOf, typeInfo, hq, hsz, hu, Sem.run_bind, Sem.run_pure, Result.andThen_ok, run_program, List.size_toArray, ne_eq, not_true_eq_false, if_false, hst]
end
end Go.Proofs.Ytpfoeeiacfadfaa
