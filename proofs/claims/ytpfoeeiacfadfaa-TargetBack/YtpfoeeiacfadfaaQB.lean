/-
  Places of fields and of elements; slices of what is told.
-/
import Derived.Test.YtpfoeeiacfadfaaQA
import Derived.Lib.ConvBytes
import Derived.Laws.BytesString
noncomputable section
namespace Go.Proofs.Ytpfoeeiacfadfaa.Q
open Go.RowKit

theorem sameL_eq : ∀ {l m : List Ty}, sameL l m = true → l = m
  | [], [], _ => rfl
  | a :: l, b :: m, h => by
    unfold sameL at h
    rw [Bool.and_eq_true] at h
    rw [same_eq h.1, sameL_eq h.2]
  | [], _ :: _, h => by cases h
  | _ :: _, [], h => by cases h
section
variable {P : Program} {e : Env} {F : Nat → Prop} {w0 w : World} {L : List Res} {s : St} {vs : List (Nat × Value)} {β : Type} {K : SV → Option β} {r : β} {o : Oper}
theorem isT_ptr {mem : List Cn} {q k : Nat} {p : List PS} {t : Ty} (h : isT mem (.ptr q (some k) p) t = true) : ∃ ts fs u, mem[q]? = some (.blk ts fs) ∧ ts[k]? = some u ∧ pt u p = some t := by
  unfold isT at h
  simp only at h
  split at h
  · rename_i ts fs hm
    split at h
    · rename_i u hu
      split at h
      · rename_i v hv
        exact ⟨ts, fs, u, hm, hu, by rw [hv, same_eq h]⟩
      · cases h
    · cases h
  · cases h
theorem isT_eptr {mem : List Cn} {q k : Nat} {p : List PS} {t : Ty} (h : isT mem (.eptr q k p) t = true) : ∃ u l, mem[q]? = some (.sl u l) ∧ pt u p = some t := by
  unfold isT at h
  simp only at h
  split at h
  · rename_i u l hm
    split at h
    · rename_i v hv
      exact ⟨u, l, hm, by rw [hv, same_eq h]⟩
    · cases h
  · cases h
theorem some_inj2 {α : Type} {x : Option α} {a b : α} (h1 : x = some a) (h2 : x = some b) : a = b := by rw [h1] at h2; exact Option.some.inj h2
theorem y_fa (he : EnvOk P e) (m : MR P F w0 w s.mem L) (hf : FrR e F w s.mem L s.fr vs) (hG : GR e F w s.mem L) {T : TypeId} {x : Operand} {k : Nat} (ho : o.op = .fieldAddr T x k) (h : pureOp e s o K = some r) : Yields P F w s.mem L K r (execOp (ev e.N vs) o) := by
  unfold pureOp at h
  simp only [ho] at h
  have hx := av_r hf hG x
  replace h := bnd_some h
  obtain ⟨i, h1, h⟩ := h
  replace h := guard_some h
  obtain ⟨h2, h⟩ := h
  rw [Bool.and_eq_true] at h2
  have hk := blt_lt h2.1
  have ti := he.T _ _ h1
  have hst := ti.str h2.2
  have hk' : i.fts[k]? = some i.fts[k] := List.getElem?_eq_getElem hk
  obtain ⟨p1, p2, p3⟩ := fpath'_ok hk'
  have ety : i.t = sty i.fts := by obtain ⟨_, _, _, h, _⟩ := hst; exact h
  rw [← ety] at p1 p2 p3
  have run : ∀ (a : Addr), ev e.N vs x = .pointer (some a) → ∀ w', (execOp (ev e.N vs) o).run P w' = .ok (.value (.pointer (some (a.add (fo i.fts k))))) w' := fun a ha w' => by
    unfold execOp
    simp only [ho, ha, Sem.run_bind, run_fieldAt ti hst hk' a w', Result.andThen_ok, Sem.run_pure]
  split at h
  · rename_i q p hp
    rw [hp] at hx
    obtain ⟨_, g, T', cs, hL, hv⟩ := hx
    split at h
    · rename_i ts fs hm
      split at h
      · rename_i h1'
        split at h
        · rename_i u
          replace h := guard_some h
          obtain ⟨h3, h⟩ := h
          have e3 := same_eq h3
          have hl1 : i.fts.length = 1 := Nat.eq_of_beq_eq_true h1'
          have k0 : k = 0 := by omega
          subst k0
          have e4 : fpath' i.fts.length 0 = [.fst] := by rw [hl1]; rfl
          rw [e4] at p1 p2
          refine mk_y _ _ h ?_ (run _ hv)
          refine ⟨g, T', cs, [u], fs, u, hL, hm, rfl, by rw [e3]; exact p1, ?_⟩
          rw [alit, e3, p2]
          rfl
        · cases h
      · replace h := guard_some h
        obtain ⟨h3, h⟩ := h
        have e3 := sameL_eq h3
        subst e3
        refine mk_y _ _ h ?_ (run _ hv)
        have e0 : okP i.fts[k] [] := by cases i.fts[k] <;> trivial
        have e1 : po i.fts[k] [] = 0 := by cases i.fts[k] <;> rfl
        exact ⟨g, T', cs, i.fts, fs, _, hL, hm, hk', e0, by rw [alit, e1, Nat.zero_add, Nat.add_zero]⟩
    · cases h
  · rename_i q j p hp
    rw [hp] at hx
    replace h := guard_some h
    obtain ⟨h3, h⟩ := h
    obtain ⟨ts', fs', u', a1, a2, a3⟩ := isT_ptr h3
    obtain ⟨g, T', cs, ts, fs, t, hL, hm, ht, hok, hv⟩ := hx
    obtain ⟨rfl, rfl⟩ : ts = ts' ∧ fs = fs' := by have := some_inj2 hm a1; injection this with x y; exact ⟨x, y⟩
    obtain rfl := some_inj2 ht a2
    obtain ⟨b1, b2, b3⟩ := okP_app hok a3 p1
    refine mk_y _ _ h ?_ (run _ hv)
    refine ⟨g, T', cs, ts, fs, t, hL, hm, ht, b1, ?_⟩
    rw [alit, b2, p2, Nat.add_assoc]
  · rename_i q j p hp
    rw [hp] at hx
    replace h := guard_some h
    obtain ⟨h3, h⟩ := h
    obtain ⟨u', l', a1, a3⟩ := isT_eptr h3
    obtain ⟨E, zz, u, n, cs, t, l, hL, hm, hj, hok, hv⟩ := hx
    have e1 := some_inj2 hm a1
    injection e1 with e1 e2
    subst e1
    obtain ⟨b1, b2, b3⟩ := okP_app hok a3 p1
    obtain ⟨g, cap, rfl, _⟩ := own_ne m hL (by omega)
    refine mk_y _ _ h ?_ (run _ hv)
    refine ⟨E, zz, _, n, cs, t, l, hL, hm, hj, b1, ?_⟩
    rw [aadd, b2, p2, Nat.add_assoc]
    rfl
  · rename_i t x0 hp
    rw [hp] at hx
    replace h := bnd_some h
    obtain ⟨x2, h3, h⟩ := h
    have hx2 : AVR F w s.mem L (.rptr i.t x2) (ev e.N vs x) := by
      obtain ⟨e1, e2⟩ := cast_eq h3
      subst e1; subst e2; exact hx
    split at h
    · rename_i y hy
      obtain ⟨a, cs, hv, hr, hc⟩ := hx2
      obtain ⟨q1, q2, q3⟩ := get_rc hr p1 hy
      rw [p2] at q1 q2
      refine mk_y _ _ h ?_ (run _ hv)
      refine ⟨_, _, rfl, q1, fun j u hu => ?_⟩
      rw [List.getElem?_take] at hu
      split at hu
      · rw [List.getElem?_drop] at hu
        have := hc _ _ hu
        rw [aadd, ablk]
        exact this
      · cases hu
    · cases h
  · cases h
theorem run_ixs {T E : TypeId} {t : Ty} (hu : P.underlying T = some (.slice E)) (hE : EF P E t) {a : Addr} {n cap : Nat} {j : Int} (hj : 0 ≤ j ∧ j < n) (k : IntKind) (w : World) : (Instr.indexAt T (.slice (some a) n cap) (.int k j)).run P w = .ok (.pointer (some (a.add (j.toNat * z t)))) w := by
  unfold Instr.indexAt
  simp only [Sem.run_bind, asIntOf, Sem.run_pure, Result.andThen_ok, run_underlying hu]
  rw [if_pos ⟨hj.1, hj.2⟩]
  simp only [Sem.run_bind, hE.sizeOf, Result.andThen_ok, Sem.run_pure]
theorem run_ixa {T E : TypeId} {t : Ty} {n : Nat} (hu : P.underlying T = some (.array n E)) (hE : EF P E t) {a : Addr} {j : Int} (hj : 0 ≤ j ∧ j < n) (k : IntKind) (w : World) : (Instr.indexAt T (.pointer (some a)) (.int k j)).run P w = .ok (.pointer (some (a.add (j.toNat * z t)))) w := by
  unfold Instr.indexAt
  simp only [Sem.run_bind, asIntOf, Sem.run_pure, Result.andThen_ok, run_underlying hu, Instr.sureAddr]
  rw [if_pos ⟨hj.1, hj.2⟩]
  simp only [Sem.run_bind, hE.sizeOf, Result.andThen_ok, Sem.run_pure]
theorem ok_idx {n : Nat} {t : Ty} {j : Nat} (hj : j < n) : okP (.arr n t) [.idx j] ∧ po (.arr n t) [.idx j] = j * z t ∧ pt (.arr n t) [.idx j] = some t := by
  have e0 : okP t [] := by cases t <;> trivial
  have e1 : po t [] = 0 := by cases t <;> rfl
  have e2 : pt t [] = some t := by cases t <;> rfl
  exact ⟨⟨hj, e0⟩, by show j * z t + po t [] = _; rw [e1, Nat.add_zero], e2⟩
theorem y_ia (he : EnvOk P e) (m : MR P F w0 w s.mem L) (hf : FrR e F w s.mem L s.fr vs) (hG : GR e F w s.mem L) {T : TypeId} {x y : Operand} (ho : o.op = .indexAddr T x y) (h : pureOp e s o K = some r) : Yields P F w s.mem L K r (execOp (ev e.N vs) o) := by
  unfold pureOp at h
  simp only [ho] at h
  have hx := av_r hf hG x
  have hy := av_r hf hG y
  replace h := bnd_some h
  obtain ⟨i, h1, h⟩ := h
  replace h := bnd_some h
  obtain ⟨j, h2, h⟩ := h
  obtain ⟨k, hyv⟩ := asIdx_r h2 hy
  have hun := (he.T _ _ h1).un
  clear h1 h2
  obtain ⟨ty, E, fts⟩ := i
  simp only at hun h
  split at h
  · rename_i n t
    obtain ⟨hu, hE, hz⟩ := hun
    have run : ∀ (a : Addr), ev e.N vs x = .pointer (some a) → inB j n = true → ∀ w', (execOp (ev e.N vs) o).run P w' = .ok (.value (.pointer (some (a.add (j.toNat * z t))))) w' := fun a ha hb w' => by
      obtain ⟨b1, b2, b3, b4⟩ := inB_lt hb
      unfold execOp
      simp only [ho, ha, hyv, Sem.run_bind, run_ixa hu hE ⟨b1, b4⟩ k w', Result.andThen_ok, Sem.run_pure]
    split at h
    · rename_i q p hp
      rw [hp] at hx
      obtain ⟨_, g, T', cs, hL, hv⟩ := hx
      split at h
      · rename_i u fs hm
        replace h := guard_some h
        obtain ⟨h3, h⟩ := h
        replace h := guard_some h
        obtain ⟨h4, h⟩ := h
        obtain rfl := same_eq h3
        obtain ⟨b1, b2, b3⟩ := ok_idx (t := t) (inB_lt h4).2.1
        refine mk_y _ _ h ?_ (run _ hv h4)
        refine ⟨g, T', cs, _, fs, _, hL, hm, rfl, b1, ?_⟩
        rw [alit, b2]
        rfl
      · cases h
    · rename_i q k' p hp
      rw [hp] at hx
      replace h := guard_some h
      obtain ⟨h3, h⟩ := h
      replace h := guard_some h
      obtain ⟨h4, h⟩ := h
      obtain ⟨ts', fs', u', a1, a2, a3⟩ := isT_ptr h3
      obtain ⟨g, T', cs, ts, fs, t', hL, hm, ht, hok, hv⟩ := hx
      obtain ⟨rfl, rfl⟩ : ts = ts' ∧ fs = fs' := by have := some_inj2 hm a1; injection this with x y; exact ⟨x, y⟩
      obtain rfl := some_inj2 ht a2
      obtain ⟨c1, c2, c3⟩ := ok_idx (t := t) (inB_lt h4).2.1
      obtain ⟨b1, b2, b3⟩ := okP_app hok a3 c1
      refine mk_y _ _ h ?_ (run _ hv h4)
      refine ⟨g, T', cs, ts, fs, t', hL, hm, ht, b1, ?_⟩
      rw [alit, b2, c2, Nat.add_assoc]
    · rename_i q k' p hp
      rw [hp] at hx
      replace h := guard_some h
      obtain ⟨h3, h⟩ := h
      replace h := guard_some h
      obtain ⟨h4, h⟩ := h
      obtain ⟨u', l', a1, a3⟩ := isT_eptr h3
      obtain ⟨E', zz, u, n', cs, t', l, hL, hm, hj, hok, hv⟩ := hx
      have e1 := some_inj2 hm a1
      injection e1 with e1 e2
      subst e1
      obtain ⟨c1, c2, c3⟩ := ok_idx (t := t) (inB_lt h4).2.1
      obtain ⟨b1, b2, b3⟩ := okP_app hok a3 c1
      obtain ⟨g, cap, rfl, _⟩ := own_ne m hL (by omega)
      refine mk_y _ _ h ?_ (run _ hv h4)
      refine ⟨E', zz, _, n', cs, t', l, hL, hm, hj, b1, ?_⟩
      rw [aadd, b2, c2, Nat.add_assoc]
      rfl
    · rename_i u x0 hp
      rw [hp] at hx
      replace h := bnd_some h
      obtain ⟨x2, h3, h⟩ := h
      replace h := guard_some h
      obtain ⟨h4, h⟩ := h
      have hx2 : AVR F w s.mem L (.rptr (.arr n t) x2) (ev e.N vs x) := by
        obtain ⟨e1, e2⟩ := cast_eq h3
        subst e1; subst e2; exact hx
      obtain ⟨a, cs, hv, hr, hc⟩ := hx2
      obtain ⟨hn, hr⟩ := RC.arr.1 hr
      obtain ⟨b1, b2, b3, b4⟩ := inB_lt h4
      have hg := hr.get (getD_some (α := D t) x2 j.toNat (zv t) (by rw [hn]; exact b2))
      refine mk_y _ _ h ?_ (run _ hv h4)
      refine ⟨_, _, rfl, hg, fun j' u hu => ?_⟩
      rw [List.getElem?_take] at hu
      split at hu
      · rw [List.getElem?_drop] at hu
        have := hc _ _ hu
        rw [aadd, ablk]
        exact this
      · cases hu
    · cases h
  · rename_i t
    obtain ⟨hu, hE, hz⟩ := hun
    have run : ∀ (a : Addr) (n cap : Nat), ev e.N vs x = .slice (some a) n cap → inB j n = true → ∀ w', (execOp (ev e.N vs) o).run P w' = .ok (.value (.pointer (some (a.add (j.toNat * z t))))) w' := fun a n cap ha hb w' => by
      obtain ⟨b1, b2, b3, b4⟩ := inB_lt hb
      unfold execOp
      simp only [ho, ha, hyv, Sem.run_bind, run_ixs hu hE ⟨b1, b4⟩ k w', Result.andThen_ok, Sem.run_pure]
    split at h
    · rename_i u x0 hp
      rw [hp] at hx
      replace h := bnd_some h
      obtain ⟨x2, h3, h⟩ := h
      replace h := guard_some h
      obtain ⟨h4, h⟩ := h
      replace hx := cast_r h3 hx
      obtain ⟨ao, cap, ics, hv, c1, c2, hc, hr⟩ := avr_sl hx
      obtain ⟨b1, b2, b3, b4⟩ := inB_lt h4
      obtain ⟨a, rfl⟩ : ∃ a, ao = some a := by
        cases ao with
        | none => have := c2 rfl; omega
        | some a => exact ⟨a, rfl⟩
      have hg := hr.get (getD_some (α := D t) x2 j.toNat (zv t) b2)
      refine mk_y _ _ h ?_ (run _ _ _ hv h4)
      refine ⟨_, _, rfl, hg, fun j' u hu => ?_⟩
      rw [List.getElem?_take] at hu
      split at hu
      · rw [List.getElem?_drop] at hu
        have := hc a rfl _ _ hu
        rw [aadd, ablk]
        exact this
      · cases hu
    · rename_i q hp
      rw [hp] at hx
      split at h
      · rename_i u l hm
        replace h := guard_some h
        obtain ⟨h3, h⟩ := h
        replace h := guard_some h
        obtain ⟨h4, h⟩ := h
        obtain rfl := same_eq h3
        obtain ⟨E', zz, n, cs, hL⟩ := hx
        obtain ⟨E'', v', cs', hc, _⟩ := m.cn q _ _ hm hL
        injection hc with _ hzz _ hn _
        subst hn hzz
        obtain ⟨b1, b2, b3, b4⟩ := inB_lt h4
        obtain ⟨g, cap, hv, _⟩ := own_ne m hL (by omega)
        have e0 : okP u [] := by cases u <;> trivial
        have e1 : po u [] = 0 := by cases u <;> rfl
        refine mk_y _ _ h ?_ (run _ _ _ hv h4)
        refine ⟨E', z u, _, l.length, cs, u, l, hL, hm, b2, e0, ?_⟩
        rw [hv, e1]
        rfl
      · cases h
    · rename_i q lo hi hp
      rw [hp] at hx
      split at h
      · rename_i u l hm
        replace h := guard_some h
        obtain ⟨h3, h⟩ := h
        replace h := guard_some h
        obtain ⟨h4, h⟩ := h
        obtain rfl := same_eq h3
        obtain ⟨E', zz, v, n, cs, hL, hv, l1, l2⟩ := hx
        obtain ⟨E'', v', cs', hc, _⟩ := m.cn q _ _ hm hL
        injection hc with _ hzz _ hn _
        subst hn hzz
        obtain ⟨b1, b2, b3, b4⟩ := inB_lt h4
        obtain ⟨g, cap, rfl, hcap⟩ := own_ne m hL (by omega)
        have e0 : okP u [] := by cases u <;> trivial
        have e1 : po u [] = 0 := by cases u <;> rfl
        have hv2 : ev e.N vs x = .slice (some ((⟨g, 0, none⟩ : Addr).add (lo * z u))) (hi - lo) (cap - lo) := by
          rw [hv]
          show Value.slice (if cap = lo then _ else _) _ _ = _
          rw [if_neg (by omega)]
          rfl
        refine mk_y _ _ h ?_ (run _ _ _ hv2 h4)
        refine ⟨E', z u, _, l.length, cs, u, l, hL, hm, by omega, e0, ?_⟩
        rw [e1, aadd]
        show _ = Value.pointer (some ((⟨g, 0, none⟩ : Addr).add _))
        rw [Nat.add_mul, Nat.add_zero]
      · cases h
    · rename_i q k' p lo hi hp
      rw [hp] at hx
      split at h
      · rename_i ts fs hm
        split at h
        · rename_i u hu'
          split at h
          · rename_i n' v hpt
            replace h := guard_some h
            obtain ⟨h3, h⟩ := h
            replace h := guard_some h
            obtain ⟨h4, h⟩ := h
            obtain rfl := same_eq h3
            obtain ⟨g, T', cs, ts', fs', t', n, te, hL, hm', ht', hok, hpt', l1, l2, l3, hv⟩ := hx
            have e9 := some_inj2 hm hm'
            injection e9 with e9 e10
            subst e9 e10
            obtain rfl := some_inj2 hu' ht'
            have e9 := some_inj2 hpt hpt'
            injection e9 with e9 e10
            subst e9 e10
            obtain ⟨b1, b2, b3, b4⟩ := inB_lt h4
            obtain ⟨c1, c2, c3⟩ := ok_idx (n := n') (t := v) (j := lo + j.toNat) (by omega)
            obtain ⟨d1, d2, d3⟩ := okP_app hok hpt c1
            refine mk_y _ _ h ?_ (run _ _ _ hv h4)
            refine ⟨g, T', cs, ts, fs, u, hL, hm, hu', d1, ?_⟩
            rw [alit, d2, c2, Nat.add_mul]
            congr 3
            omega
          · cases h
        · cases h
      · cases h
    · cases h
  · cases h
end
end Go.Proofs.Ytpfoeeiacfadfaa.Q
/-
  Slices of what is told; literals; all operations that hang on no world.
-/
namespace Go.Proofs.Ytpfoeeiacfadfaa.Q
open Go.RowKit

section
variable {P : Program} {e : Env} {F : Nat → Prop} {w0 w : World} {L : List Res} {s : St} {vs : List (Nat × Value)} {β : Type} {K : SV → Option β} {r : β} {o : Oper}
/-- A bound that is left out, or told. -/
def BR (N : Nat) (vs : List (Nat × Value)) (lo : Option Operand) (d l : Int) : Prop := match lo with | none => l = d | some y => ∃ k, ev N vs y = .int k l
theorem bound_r (hf : FrR e F w s.mem L s.fr vs) (hG : GR e F w s.mem L) {lo : Option Operand} {d l : Int} (h : (match lo with | none => some d | some y => asIdx (av e s y)) = some l) : BR e.N vs lo d l := by
  cases lo with
  | none => exact (Option.some.inj h).symm
  | some y => exact asIdx_r h (av_r hf hG y)
theorem run_bound (k : IntKind) {l : Int} {n : Nat} (h0 : 0 ≤ l) (hn : l.toNat ≤ n) (c : BoundsCode) (w : World) : (Instr.sliceBound (.int k l) n c).run P w = .ok l.toNat w := by
  unfold Instr.sliceBound
  simp only [Sem.run_bind, asIntOf, Sem.run_pure, Result.andThen_ok]
  rw [if_pos ⟨h0, by omega⟩]
  rfl
theorem run_bounds {N : Nat} {lo hi : Option Operand} {l h : Int} {b : Bool} {n cap : Nat} (hl : BR N vs lo 0 l) (hh : BR N vs hi (n : Int) h) (l0 : 0 ≤ l) (lh : l.toNat ≤ h.toNat) (h0 : 0 ≤ h) (hn : h.toNat ≤ n) (hc : n ≤ cap) (w : World) :
    (Instr.sliceBounds b n cap (lo.map (ev N vs)) (hi.map (ev N vs)) none).run P w = .ok (l.toNat, h.toNat, cap) w := by
  unfold Instr.sliceBounds
  cases lo with
  | none =>
    have hl : l = 0 := hl
    subst hl
    cases hi with
    | none => have hh : h = (n : Int) := hh; subst hh; simp
    | some y => obtain ⟨k, hk⟩ := hh; simp [hk, run_bound k h0 (show h.toNat ≤ cap by omega)]
  | some y =>
    obtain ⟨k, hk⟩ := hl
    cases hi with
    | none => have hh : h = (n : Int) := hh; subst hh; simp [hk, run_bound k l0 (show l.toNat ≤ n by omega)]
    | some y => obtain ⟨k', hk'⟩ := hh; simp [hk, hk', run_bound k' h0 (show h.toNat ≤ cap by omega), run_bound k l0 lh]
theorem run_sl {T E : TypeId} {t : Ty} (hu : P.underlying T = some (.slice E)) (hE : EF P E t) {N : Nat} {lo hi : Option Operand} {l h : Int} {ao : Option Addr} {n cap : Nat} (hl : BR N vs lo 0 l) (hh : BR N vs hi (n : Int) h) (l0 : 0 ≤ l) (lh : l.toNat ≤ h.toNat) (h0 : 0 ≤ h) (hn : h.toNat ≤ n) (hc : n ≤ cap) (w : World) :
    (Instr.sliceAt T (.slice ao n cap) (lo.map (ev N vs)) (hi.map (ev N vs)) none).run P w = .ok (sV (z t) (.slice ao n cap) l.toNat h.toNat) w := by
  unfold Instr.sliceAt
  simp only [Sem.run_bind, run_underlying hu, Result.andThen_ok, Instr.slice, run_bounds hl hh l0 lh h0 hn hc, hE.sizeOf, Sem.run_pure]
  rfl
theorem run_sla {T E : TypeId} {t : Ty} {n : Nat} (hu : P.underlying T = some (.array n E)) (hE : EF P E t) {N : Nat} {lo hi : Option Operand} {l h : Int} {a : Addr} (hl : BR N vs lo 0 l) (hh : BR N vs hi (n : Int) h) (l0 : 0 ≤ l) (lh : l.toNat ≤ h.toNat) (h0 : 0 ≤ h) (hn : h.toNat ≤ n) (hlt : l.toNat < n) (w : World) :
    (Instr.sliceAt T (.pointer (some a)) (lo.map (ev N vs)) (hi.map (ev N vs)) none).run P w = .ok (.slice (some (a.add (l.toNat * z t))) (h.toNat - l.toNat) (n - l.toNat)) w := by
  unfold Instr.sliceAt
  simp only [Sem.run_bind, run_underlying hu, Result.andThen_ok, Instr.sureAddr, Sem.run_pure, run_bounds hl hh l0 lh h0 hn (Nat.le_refl n), hE.sizeOf]
  rw [if_neg (by omega)]
theorem leB2 {h : Int} {n : Nat} {l : Int} (hb : (leB h n && leB l h.toNat) = true) : 0 ≤ l ∧ l.toNat ≤ h.toNat ∧ 0 ≤ h ∧ h.toNat ≤ n := by
  rw [Bool.and_eq_true] at hb
  obtain ⟨h1, h2, _⟩ := leB_le hb.1
  obtain ⟨h3, h4, _⟩ := leB_le hb.2
  exact ⟨h3, h4, h1, h2⟩
theorem sl_dat {t : Ty} {x : List (D t)} {ao : Option Addr} {cap : Nat} {ics : List Value} (h2 : x.length ≤ cap) (h3 : ao = none → cap = 0) (h4 : ∀ a, ao = some a → ∀ j u, ics[j]? = some u → w.cell? (a.add j) = some u ∧ SF F L w a.block) (h5 : RL (SF F L w) w t ics x) {l h : Nat} (lh : l ≤ h) (hn : h ≤ x.length) :
    AVR F w s.mem L (.dat (.sl t) ((x.take h).drop l)) (sV (z t) (.slice ao x.length cap) l h) := by
  have hr := (h5.take h).drop l
  have hlen : ((x.take h).drop l).length = h - l := by simp; omega
  refine ⟨[sV (z t) (.slice ao x.length cap) l h], rfl, (if cap = l then ao else ao.map (·.add (l * z t))), cap - l, _, ?_, by rw [hlen]; omega, fun hn => ?_, fun a ha j u hu => ?_, hr⟩
  · rw [hlen]; rfl
  · split at hn
    · omega
    · cases ao with
      | none => have := h3 rfl; omega
      | some a => cases hn
  · rw [List.getElem?_drop, List.getElem?_take] at hu
    split at hu
    · rename_i hlt
      have hcap : ¬ cap = l := by
        intro e
        have : l = h := by omega
        subst this; omega
      rw [if_neg hcap] at ha
      cases ao with
      | none => cases ha
      | some a0 =>
        obtain rfl := Option.some.inj ha
        rw [aadd, ablk]
        exact h4 a0 rfl _ u hu
    · cases hu
theorem str_ext (x : List UInt8) (l h : Nat) (hl : l ≤ h) (_hh : h ≤ x.length) : (⟨x.toArray⟩ : ByteArray).extract l h = ⟨((x.take h).drop l).toArray⟩ := by
  apply ByteArray.ext
  simp [ByteArray.data_extract, List.extract_toArray]
  rw [List.take_drop, show l + (h - l) = h by omega]
theorem y_slice (he : EnvOk P e) (m : MR P F w0 w s.mem L) (hf : FrR e F w s.mem L s.fr vs) (hG : GR e F w s.mem L) {T : TypeId} {x : Operand} {lo hi mx : Option Operand} (ho : o.op = .slice T x lo hi mx) (h : pureOp e s o K = some r) : Yields P F w s.mem L K r (execOp (ev e.N vs) o) := by
  unfold pureOp at h
  simp only [ho] at h
  have hx := av_r hf hG x
  split at h
  · cases h
  · replace h := bnd_some h
    obtain ⟨i, h1, h⟩ := h
    replace h := bnd_some h
    obtain ⟨l, h2, h⟩ := h
    have hl := bound_r hf hG h2
    have hun := (he.T _ _ h1).un
    clear h1 h2
    obtain ⟨ty, E, fts⟩ := i
    simp only at hun h
    split at h
    · rename_i t
      obtain ⟨hu, hE, hz⟩ := hun
      split at h
      · rename_i u x0 hp
        rw [hp] at hx
        replace h := bnd_some h
        obtain ⟨x2, h3, h⟩ := h
        replace h := bnd_some h
        obtain ⟨hv, h4, h⟩ := h
        replace h := guard_some h
        obtain ⟨h5, h⟩ := h
        have hh := bound_r hf hG h4
        replace hx := cast_r h3 hx
        obtain ⟨ao, cap, ics, ev1, c1, c2, hc, hr⟩ := avr_sl hx
        obtain ⟨g1, g2, g3, g4⟩ := leB2 h5
        refine mk_y _ _ h (sl_dat (s := s) c1 c2 hc hr g2 g4) fun w' => ?_
        unfold execOp
        simp only [ho, ev1, Sem.run_bind, Option.map_none, run_sl hu hE hl hh g1 g2 g3 g4 c1 w', Result.andThen_ok, Sem.run_pure]
      · rename_i hp
        rw [hp] at hx
        replace h := bnd_some h
        obtain ⟨hv, h4, h⟩ := h
        replace h := guard_some h
        obtain ⟨h5, h⟩ := h
        have hh := bound_r hf hG h4
        have ev1 : ev e.N vs x = .slice none 0 0 := hx
        obtain ⟨g1, g2, g3, g4⟩ := leB2 h5
        have g5 : hv.toNat = 0 := by omega
        have g6 : l.toNat = 0 := by omega
        have hrun := fun w' => run_sl (P := P) hu hE (ao := none) (cap := 0) hl hh g1 g2 g3 g4 (Nat.le_refl 0) w'
        rw [g5, g6] at hrun
        refine mk_y _ _ h (show AVR F w s.mem L .nil (sV (z t) (.slice none 0 0) 0 0) from rfl) fun w' => ?_
        unfold execOp
        simp only [ho, ev1, Sem.run_bind, Option.map_none, hrun w', Result.andThen_ok, Sem.run_pure]
      · rename_i q hp
        rw [hp] at hx
        split at h
        · rename_i u x0 hm
          replace h := guard_some h
          obtain ⟨h6, h⟩ := h
          replace h := bnd_some h
          obtain ⟨hv, h4, h⟩ := h
          replace h := guard_some h
          obtain ⟨h5, h⟩ := h
          have hh := bound_r hf hG h4
          obtain rfl := same_eq h6
          obtain ⟨E', zz, n, cs, hL⟩ := hx
          obtain ⟨E'', v', cs', hc, _⟩ := m.cn q _ _ hm hL
          injection hc with _ hzz _ hn _
          subst hn hzz
          obtain ⟨g1, g2, g3, g4⟩ := leB2 h5
          obtain ⟨ao, cap, ev1, hcap⟩ : ∃ ao cap, ev e.N vs x = .slice ao x0.length cap ∧ x0.length ≤ cap := by
            have hk := m.mo.ok q _ hL
            rcases hk.2 with ⟨hu, h0⟩ | ⟨g, cap, cur, hu, _, _, hc, _⟩
            · exact ⟨none, 0, by rw [hu, h0], by omega⟩
            · exact ⟨_, _, hu, hc⟩
          have hrun : ∀ w', (execOp (ev e.N vs) o).run P w' = .ok (.value (sV (z u) (ev e.N vs x) l.toNat hv.toNat)) w' := fun w' => by
            unfold execOp
            rw [ev1]
            simp only [ho, ev1, Sem.run_bind, Option.map_none, run_sl hu hE hl hh g1 g2 g3 g4 hcap w', Result.andThen_ok, Sem.run_pure]
          split at h
          · have e1 : l = 0 := hl
            have e2 : hv = ((x0.length : Nat) : Int) := hh
            refine mk_y _ _ h ⟨E', z u, x0.length, cs, ?_⟩ hrun
            rw [hL, e1, e2]
            congr 1
            rw [ev1]
            show _ = Res.own E' (z u) (.slice (if cap = 0 then ao else ao.map (·.add (0 * z u))) (x0.length - 0) (cap - 0)) _ _
            have e3 : (if cap = 0 then ao else ao.map (·.add (0 * z u))) = ao := by
              split
              · rfl
              · cases ao with
                | none => rfl
                | some a => simp [Addr.add]
            rw [e3, Nat.sub_zero, Nat.sub_zero]
          · exact mk_y _ _ h ⟨E', z u, _, x0.length, cs, hL, rfl, g2, g4⟩ hrun
        · cases h
      · cases h
    · split at h
      · rename_i u x0 hp
        rw [hp] at hx
        replace h := bnd_some h
        obtain ⟨x2, h3, h⟩ := h
        replace h := bnd_some h
        obtain ⟨hv, h4, h⟩ := h
        replace h := guard_some h
        obtain ⟨h5, h⟩ := h
        have hh := bound_r hf hG h4
        replace hx := cast_r h3 hx
        have ev1 := avr_str.1 hx
        obtain ⟨g1, g2, g3, g4⟩ := leB2 h5
        refine mk_y _ _ h (svr_str _) fun w' => ?_
        have hb := run_bounds (P := P) (b := false) (n := List.length (α := UInt8) x2) (cap := List.length (α := UInt8) x2) hl hh g1 g2 g3 g4 (Nat.le_refl _) w'
        unfold execOp
        simp only [ho, ev1, Sem.run_bind, Option.map_none, Instr.sliceAt, run_underlying hun, Result.andThen_ok, Instr.slice, Option.isSome_none, Bool.false_eq_true, if_false, Sem.run_pure]
        rw [show (ByteArray.mk (List.toArray (α := UInt8) x2)).size = List.length (α := UInt8) x2 from rfl, hb]
        simp only [Result.andThen_ok]
        rw [str_ext x2 _ _ g2 g4]
      · cases h
    · rename_i n t
      obtain ⟨hu, hE, hz⟩ := hun
      replace h := bnd_some h
      obtain ⟨hv, h4, h⟩ := h
      replace h := guard_some h
      obtain ⟨h5, h⟩ := h
      have hh := bound_r hf hG h4
      rw [Bool.and_eq_true] at h5
      obtain ⟨g1, g2, g3, g4⟩ := leB2 h5.1
      have g5 := (inB_lt h5.2).2.1
      have run : ∀ (a : Addr), ev e.N vs x = .pointer (some a) → ∀ w', (execOp (ev e.N vs) o).run P w' = .ok (.value (.slice (some (a.add (l.toNat * z t))) (hv.toNat - l.toNat) (n - l.toNat))) w' := fun a ha w' => by
        unfold execOp
        simp only [ho, ha, Sem.run_bind, Option.map_none, run_sla hu hE hl hh g1 g2 g3 g4 g5 w', Result.andThen_ok, Sem.run_pure]
      split at h
      · rename_i q p hp
        rw [hp] at hx
        obtain ⟨_, g, T', cs, hL, hv'⟩ := hx
        split at h
        · rename_i u fs hm
          replace h := guard_some h
          obtain ⟨h3, h⟩ := h
          obtain rfl := same_eq h3
          refine mk_y _ _ h ?_ (run _ hv')
          refine ⟨g, T', cs, _, fs, _, n, t, hL, hm, rfl, trivial, rfl, g2, g4, g5, ?_⟩
          rw [alit]
          show _ = Value.slice (some ⟨g, 0 + 0 + _, none⟩) _ _
          rfl
        · cases h
      · rename_i q k' p hp
        rw [hp] at hx
        replace h := guard_some h
        obtain ⟨h3, h⟩ := h
        obtain ⟨ts', fs', u', a1, a2, a3⟩ := isT_ptr h3
        obtain ⟨g, T', cs, ts, fs, t', hL, hm, ht, hok, hv'⟩ := hx
        obtain ⟨rfl, rfl⟩ : ts = ts' ∧ fs = fs' := by have := some_inj2 hm a1; injection this with x y; exact ⟨x, y⟩
        obtain rfl := some_inj2 ht a2
        refine mk_y _ _ h ?_ (run _ hv')
        exact ⟨g, T', cs, ts, fs, t', n, t, hL, hm, ht, hok, a3, g2, g4, g5, by rw [alit]⟩
      · rename_i u x0 hp
        rw [hp] at hx
        replace h := bnd_some h
        obtain ⟨x2, h3, h⟩ := h
        have hx2 : AVR F w s.mem L (.rptr (.arr n t) x2) (ev e.N vs x) := by
          obtain ⟨e1, e2⟩ := cast_eq h3
          subst e1; subst e2; exact hx
        obtain ⟨a, cs, hv', hr, hc⟩ := hx2
        obtain ⟨hn, hr⟩ := RC.arr.1 hr
        refine mk_y _ _ h ?_ (run _ hv')
        have key := sl_dat (s := s) (F := F) (L := L) (w := w) (x := x2) (ao := some a) (cap := n) (ics := cs) (by rw [hn]; exact Nat.le_refl _) (fun h => by cases h) (fun b hb j u hu => by obtain rfl := Option.some.inj hb; exact hc j u hu) hr g2 (by rw [hn]; exact g4)
        have e1 : sV (z t) (.slice (some a) (List.length (α := D t) x2) n) l.toNat hv.toNat = .slice (some (a.add (l.toNat * z t))) (hv.toNat - l.toNat) (n - l.toNat) := by
          show Value.slice (if n = l.toNat then _ else _) _ _ = _
          rw [if_neg (by omega)]; rfl
        rw [e1] at key
        exact key
      · cases h
    · cases h
end
end Go.Proofs.Ytpfoeeiacfadfaa.Q
/-
  Literals; all operations that hang on no world.
-/
namespace Go.Proofs.Ytpfoeeiacfadfaa.Q
open Go.RowKit

theorem splice (off : Nat) : ∀ (vs : List Value) (k : Nat) (cs : Array Value), off + k + vs.length ≤ cs.size → ((vs.zipIdx k).foldl (fun (cs : Array Value) (p : Value × Nat) => cs.setIfInBounds (off + p.2) p.1) cs).toList = cs.toList.take (off + k) ++ vs ++ cs.toList.drop (off + k + vs.length)
  | [], k, cs, _ => by simp
  | v :: vs, k, cs, h => by
    rw [List.zipIdx_cons, List.foldl_cons, splice off vs (k + 1) _ (by simp at h ⊢; omega)]
    rw [List.length_cons] at h
    have hlt : off + k < cs.toList.length := by rw [Array.length_toList]; omega
    simp only [Array.toList_setIfInBounds, List.length_cons]
    rw [show off + (k + 1) = off + k + 1 by omega, List.take_succ_eq_append_getElem (by rw [List.length_set]; exact hlt), List.getElem_set_self, List.take_set_of_le (Nat.le_refl _), List.drop_set_of_lt (by omega), show off + k + 1 + vs.length = off + k + (vs.length + 1) by omega]
    simp
section
variable {P : Program} {e : Env} {F : Nat → Prop} {w0 w : World} {L : List Res} {s : St} {vs : List (Nat × Value)} {β : Type} {K : SV → Option β} {r : β} {o : Oper}
theorem toD0_r {mem : List Cn} {t : Ty} {a : AV} {y : D t} {v : Value} (h : toD0 t a = some y) (hv : AVR F w mem L a v) : AVR F w mem L (.dat t y) v := by
  unfold toD0 at h
  split at h
  · obtain ⟨e1, e2⟩ := cast_eq h
    subst e1; subst e2; exact hv
  · split at h
    · rename_i t'
      obtain rfl := Option.some.inj h
      exact ⟨[v], rfl, none, 0, [], by rw [show v = _ from hv]; rfl, Nat.le_refl _, fun _ => rfl, fun a h => (by cases h), RL.nil _⟩
    · cases h
  · cases h
theorem bld_r {mem : List Cn} {t : Ty} {pth : Nat → List PS} {place : Nat → Option (Nat × Nat)} (hp : ∀ k u, okP t (pth k) → pt t (pth k) = some u → place k = some (po t (pth k), z u)) :
    ∀ (ps : List (Nat × AV)) (qs : List (Nat × Value)) (x x' : D t) (cs : List Value), All2 (fun p q => p.1 = q.1 ∧ AVR F w mem L p.2 q.2) ps qs → bld t pth ps x = some x' → RC (SF F L w) w t cs x → (∀ p ∈ ps, okP t (pth p.1)) →
      ∃ cs', Instr.fill place cs.toArray qs = some cs'.toArray ∧ RC (SF F L w) w t cs' x'
  | [], [], x, x', cs, _, h, hr, _ => by
    simp only [bld, Option.some.injEq] at h
    subst h
    exact ⟨cs, rfl, hr⟩
  | (k, a) :: ps, (k', v) :: qs, x, x', cs, ha, h, hr, hk => by
    obtain ⟨⟨ek, hav⟩, ha⟩ := ha
    simp only at ek hav
    subst ek
    simp only [bld] at h
    split at h
    · rename_i u hu
      split at h
      · rename_i y hy
        split at h
        · rename_i x1 hx1
          obtain ⟨c, hv, hc⟩ := toD0_r hy hav
          have h1 := hk _ List.mem_cons_self
          have h2 := hp k u h1 hu
          obtain ⟨q1, q2, q3⟩ := set_rc hr h1 hx1 hc
          have hcl := hc.len
          have hvc : v.cells = c.toArray := by rw [hv]; exact mkV_cells hcl hc.one
          obtain ⟨cs', hf, hr'⟩ := bld_r hp ps qs x1 x' _ ha h q1 (fun j hj => hk j (List.mem_cons_of_mem _ hj))
          refine ⟨cs', ?_, hr'⟩
          unfold Instr.fill
          simp only at h2 ⊢
          rw [h2]
          simp only [hvc, List.size_toArray]
          rw [if_neg (by rw [hcl]; simp; omega)]
          rw [← hf]
          congr 1
          apply Array.ext'
          have := splice (po t (pth k)) c 0 cs.toArray (by rw [Nat.add_zero, hcl]; simpa using q2)
          rw [Nat.add_zero, hcl] at this
          rw [← Array.foldl_toList, Array.toList_zipIdx]
          exact this
        · cases h
      · cases h
    · cases h
  | [], _ :: _, _, _, _, h, _, _, _ => h.elim
  | _ :: _, [], _, _, _, h, _, _, _ => h.elim
theorem places_r : ∀ (fs : List Field), (∀ f ∈ fs, ∃ i, P.info? f.type = some i) → ∃ pl, fs.mapM (fun f => (P.info? f.type).map fun i => (f.offset, i.size)) = some pl ∧ ∀ (k : Nat) (f : Field) (i : TypeInfo), fs[k]? = some f → P.info? f.type = some i → pl[k]? = some (f.offset, i.size)
  | [], _ => ⟨[], rfl, fun k f i h => by simp at h⟩
  | f :: fs, h => by
    obtain ⟨i, hi⟩ := h f List.mem_cons_self
    obtain ⟨pl, h1, h2⟩ := places_r fs (fun g hg => h g (List.mem_cons_of_mem _ hg))
    refine ⟨(f.offset, i.size) :: pl, by simp [List.mapM_cons, hi, h1], fun k g j hk hj => ?_⟩
    cases k with
    | zero => simp at hk; subst hk; rw [hi] at hj; obtain rfl := Option.some.inj hj; rfl
    | succ k => simpa using h2 k g j (by simpa using hk) hj
theorem parts_r (hf : FrR e F w s.mem L s.fr vs) (hG : GR e F w s.mem L) : ∀ ps : List (Nat × Operand), All2 (fun (p : Nat × AV) (q : Nat × Value) => p.1 = q.1 ∧ AVR F w s.mem L p.2 q.2) (ps.map fun p => (p.1, av e s p.2)) (ps.map fun p => (p.1, ev e.N vs p.2))
  | [] => trivial
  | p :: ps => ⟨⟨rfl, av_r hf hG p.2⟩, parts_r hf hG ps⟩
theorem y_build (he : EnvOk P e) (hf : FrR e F w s.mem L s.fr vs) (hG : GR e F w s.mem L) {T : TypeId} {ps : Array (Nat × Operand)} (ho : o.op = .build T ps) (h : pureOp e s o K = some r) : Yields P F w s.mem L K r (execOp (ev e.N vs) o) := by
  unfold pureOp at h
  simp only [ho] at h
  replace h := bnd_some h
  obtain ⟨i, h1, h⟩ := h
  replace h := guard_some h
  obtain ⟨h2, h⟩ := h
  have ti := he.T _ _ h1
  have hpl := parts_r hf hG ps.toList
  have eps : (ps.map fun (i, x) => (i, ev e.N vs x)).toList = ps.toList.map fun p => (p.1, ev e.N vs p.2) := by simp
  obtain ⟨q, hq, hqs, hqz, _⟩ := ti.ef.info
  split at h
  · rename_i a b hab
    replace h := bnd_some h
    obtain ⟨x, h3, h⟩ := h
    replace h := guard_some h
    obtain ⟨h5, h⟩ := h
    obtain ⟨fs, hu, hsz, hst, hfs⟩ := ti.str (by rw [hab])
    rw [hab] at hst h2
    obtain ⟨pl, hp1, hp2⟩ := places_r (P := P) fs.toList (fun f hf => by
      obtain ⟨k, hk⟩ := List.getElem?_of_mem hf
      have hlt := (List.getElem?_eq_some_iff.1 hk).1
      have hk2 : k < i.fts.length := by rw [← hsz]; simpa using hlt
      obtain ⟨f', f1, _, f3, _⟩ := hfs k _ (List.getElem?_eq_getElem hk2)
      have : f' = f := by have : fs.toList[k]? = some f' := by simpa using f1
                          rw [hk] at this; exact (Option.some.inj this).symm
      subst this
      obtain ⟨j, hj, _⟩ := f3.info
      exact ⟨j, hj⟩)
    have hok : ∀ p ∈ ps.toList.map (fun p => (p.1, av e s p.2)), p.1 < i.fts.length := fun p hp => by
      obtain ⟨p', hp', rfl⟩ := List.mem_map.1 hp
      exact blt_lt (List.all_eq_true.1 h5 p' hp')
    have key : ∀ k u, okP (.pair a b) (fpath' i.fts.length k) → pt (.pair a b) (fpath' i.fts.length k) = some u → (match decide (k < i.fts.length) with | true => pl[k]? | false => some (po (.pair a b) (fpath' i.fts.length k), z u)) = some (po (.pair a b) (fpath' i.fts.length k), z u) := fun k u hok' hpt => by
      cases hd : decide (k < i.fts.length) with
      | false => rfl
      | true =>
        have hk2 := of_decide_eq_true hd
        have hk' := List.getElem?_eq_getElem hk2
        obtain ⟨p1, p2, p3⟩ := fpath'_ok hk'
        rw [← hst] at p1 p2 p3
        obtain ⟨f, f1, f2, f3, _⟩ := hfs k _ hk'
        obtain ⟨j, hj, hjs, _⟩ := f3.info
        rw [p3] at hpt
        obtain rfl := Option.some.inj hpt
        show pl[k]? = _
        rw [hp2 k f j (by simpa using f1) hj, f2, hjs, p2]
    obtain ⟨cs', hfill, hr⟩ := bld_r (F := F) (L := L) (w := w) (mem := s.mem) (place := fun k => match decide (k < i.fts.length) with | true => pl[k]? | false => some (po (.pair a b) (fpath' i.fts.length k), z ((pt (.pair a b) (fpath' i.fts.length k)).getD .unit))) (fun k u h1 h2 => by
      have := key k u h1 h2
      simp only [h2, Option.getD_some]
      exact this) _ _ _ _ _ hpl h3 (zero_rc h2) (fun p hp => by
      have hk2 := hok p hp
      have hk' := List.getElem?_eq_getElem hk2
      obtain ⟨p1, p2, p3⟩ := fpath'_ok hk'
      rw [hst]; exact p1)
    have hfill2 : ∀ (l : List (Nat × Value)) (c : Array Value), (∀ p ∈ l, p.1 < i.fts.length) → Instr.fill (pl.toArray[·]?) c l = Instr.fill (fun k => match decide (k < i.fts.length) with | true => pl[k]? | false => some (po (.pair a b) (fpath' i.fts.length k), z ((pt (.pair a b) (fpath' i.fts.length k)).getD .unit))) c l := by
      intro l
      induction l with
      | nil => intro c _; rfl
      | cons p l ih =>
        intro c hl
        obtain ⟨k, v⟩ := p
        have hk2 := hl _ List.mem_cons_self
        unfold Instr.fill
        simp only [decide_eq_true hk2, List.getElem?_toArray]
        cases pl[k]? with
        | none => rfl
        | some x =>
          obtain ⟨o1, o2⟩ := x
          simp only
          split
          · rfl
          · have := ih (Array.foldl (fun cs x => cs.setIfInBounds (o1 + x.snd) x.fst) c v.cells.zipIdx) (fun p hp => hl p (List.mem_cons_of_mem _ hp))
            simp only [List.getElem?_toArray] at this
            exact this
    have hb : P.built T (ps.map fun (i, x) => (i, ev e.N vs x)).toList = some cs'.toArray := by
      unfold Program.built
      simp only [hq, hu, hqz, hp1, eps]
      rw [hab, mkV_agg rfl]
      rw [hfill2 _ _ (fun p hp => by
        obtain ⟨p', hp', rfl⟩ := List.mem_map.1 hp
        exact blt_lt (List.all_eq_true.1 h5 p' hp'))]
      exact hfill
    refine mk_y _ _ h ⟨cs', rfl, hr⟩ fun w' => ?_
    unfold execOp
    simp only [ho, Sem.run_bind, run_build w' T _ _ hb, Result.andThen_ok, Sem.run_pure]
    rfl
  · rename_i n t hab
    replace h := guard_some h
    obtain ⟨h5, h⟩ := h
    replace h := bnd_some h
    obtain ⟨x, h3, h⟩ := h
    have hun := ti.un
    rw [hab] at h2
    obtain ⟨ty, E, fts⟩ := i
    simp only at hab hun
    subst hab
    obtain ⟨hu, hE, hz⟩ := hun
    obtain ⟨j, hj, hjs, _⟩ := hE.info
    have hok : ∀ p ∈ ps.toList.map (fun p => (p.1, av e s p.2)), p.1 < n := fun p hp => by
      obtain ⟨p', hp', rfl⟩ := List.mem_map.1 hp
      exact blt_lt (List.all_eq_true.1 h5 p' hp')
    obtain ⟨cs', hfill, hr⟩ := bld_r (F := F) (L := L) (w := w) (mem := s.mem) (place := fun k => some (k * j.size, j.size)) (fun k u h1 h2 => by
      have e2 : pt (.arr n t) [.idx k] = some t := (ok_idx h1.1).2.2
      rw [e2] at h2
      obtain rfl := Option.some.inj h2
      rw [(ok_idx h1.1).2.1, hjs]) _ _ _ _ _ hpl h3 (zero_rc h2) (fun p hp => (ok_idx (hok p hp)).1)
    have hb : P.built T (ps.map fun (i, x) => (i, ev e.N vs x)).toList = some cs'.toArray := by
      unfold Program.built
      simp only [hq, hu, hqz, hj, eps]
      rw [mkV_agg rfl]
      exact hfill
    refine mk_y _ _ h ⟨cs', rfl, hr⟩ fun w' => ?_
    unfold execOp
    simp only [ho, Sem.run_bind, run_build w' T _ _ hb, Result.andThen_ok, Sem.run_pure]
    rfl
  · cases h
/-- EACH OPERATION THAT HANGS ON NO WORLD YIELDS WHAT IS RECKONED. -/
theorem pure_r (he : EnvOk P e) (m : MR P F w0 w s.mem L) (hf : FrR e F w s.mem L s.fr vs) (hG : GR e F w s.mem L) (h : pureOp e s o K = some r) : Yields P F w s.mem L K r (execOp (ev e.N vs) o) := by
  cases ho : o.op with
  | move x => exact y_move hf hG (.inl ho) (by unfold pureOp at h; simp only [ho] at h; exact h)
  | assign x => exact y_move hf hG (.inr ho) (by unfold pureOp at h; simp only [ho] at h; exact h)
  | pick c a b => exact y_pick hf hG ho (by unfold pureOp at h; simp only [ho] at h; exact h)
  | binOp op T x y U => exact y_bin he hf hG ho h
  | unOp op T x => exact y_un hf hG ho h
  | convert S T x => exact y_conv he hf hG ho h
  | extract x i => exact y_ext hf hG ho h
  | nilCheck x => exact y_nil m hf hG ho h
  | build T ps => exact y_build he hf hG ho h
  | field T x k => exact y_field he hf hG ho h
  | index T x y => exact y_index he hf hG ho h
  | fieldAddr T x k => exact y_fa he m hf hG ho h
  | indexAddr T x y => exact y_ia he m hf hG ho h
  | slice T x lo hi mx => exact y_slice he m hf hG ho h
  | call c => exact y_len he m hf hG ho h
  | _ => unfold pureOp at h; simp only [ho] at h; cases h
end
end Go.Proofs.Ytpfoeeiacfadfaa.Q
/-
  Operations that read or turn memory, reckoned on values as they are told.
-/
namespace Go.Proofs.Ytpfoeeiacfadfaa.Q
open Go.RowKit

/-- A slice of one's own is only read from now on. -/
def fzA (r : Nat) (t : Ty) (l : List (D t)) : AV → AV
  | .own q => (match Nat.beq q r with | true => .dat (.sl t) l | false => .own q)
  | .view q lo hi => (match Nat.beq q r with | true => .dat (.sl t) ((l.take hi).drop lo) | false => .view q lo hi)
  | .eptr q i p => (match Nat.beq q r with | true => .undef | false => .eptr q i p)
  | a => a
def fz1 (r : Nat) (s : St) : St :=
  match s.mem[r]? with
  | some (.sl t l) => ⟨(s.map (fzA r t l)).fr, (s.map (fzA r t l)).mem.set r .gone⟩
  | _ => s
def fzL : List Nat → St → St
  | [], s => s
  | r :: rs, s => fzL rs (fz1 r s)
def ridOf : AV → List Nat
  | .own r => [r]
  | .view r _ _ => [r]
  | _ => []
def rids (l : List AV) : List Nat := l.flatMap ridOf
/-- The zero value of a variable. -/
def zAV (t : Ty) : AV := match t with | .sl _ => .nil | t => (match plain t with | true => .dat t (zv t) | false => .undef)
/-- May the value stand where such data stand? -/
def fits (mem : List Cn) (t : Ty) (a : AV) : Bool :=
  match a with
  | .dat s _ => same s t
  | .nil => (match t with | .sl _ => true | _ => false)
  | .own r => (match t, mem[r]? with | .sl t, some (.sl s _) => same s t | _, _ => false)
  | .ptr _ _ _ => (match t with | .opq _ => true | _ => false)
  | .rptr _ _ => (match t with | .opq _ => true | _ => false)
  | .fn _ => (match t with | .opq _ => true | _ => false)
  | _ => false
/-- The fields of a variable's block. -/
def lay (i : TI) : List Ty := match i.fts with | a :: b :: r => a :: b :: r | _ => [i.t]
def flds (i : TI) (a : AV) : Option (List AV) :=
  match i.fts with
  | b :: c :: r => (match a with | .dat s x => (match cast s (stru (b :: c :: r)) x with | some y => some (split (b :: c :: r) y) | none => none) | _ => none)
  | _ => some [a]
def joinD0 : (ts : List Ty) → List AV → Option (D (stru ts))
  | [], l => (match l with | [] => some () | _ => none)
  | [t], l => (match l with | [a] => toD0 t a | _ => none)
  | t :: u :: r, l => (match l with
    | a :: l => (match toD0 t a with
      | some x => (match joinD0 (u :: r) l with
        | some y => some ((x, y) : D t × D (stru (u :: r)))
        | none => none)
      | none => none)
    | [] => none)
/-- Elements, each a datum. -/
def elems (t : Ty) : Nat → List (Nat × AV) → Option (List (D t))
  | _, [] => some []
  | k, (j, a) :: r => (match Nat.beq j k with
    | true => (match toD0 t a, elems t (k + 1) r with | some x, some l => some (x :: l) | _, _ => none)
    | false => none)
def maxN : Nat := 1073741824
def kilS (r : Nat) (s : St) : St := ⟨(s.map (kil (Nat.beq r))).fr, (s.map (kil (Nat.beq r))).mem.set r .gone⟩
def addM (c : Cn) (s : St) : St := ⟨s.fr, s.mem ++ [c]⟩
def setM (r : Nat) (c : Cn) (s : St) : St := ⟨s.fr, s.mem.set r c⟩
/-- The value at a place. -/
def loadA {β : Type} (s : St) (i : TI) (a : AV) (K : SV → Option β) : Option β :=
  match a with
  | .rptr t x => bnd (cast t i.t x) fun y => K (.one (.dat i.t y))
  | .eptr r j p => (match s.mem[r]? with
    | some (.sl t l) => (match get t (List.getD l j (zv t)) p with
      | some y => bnd (cast y.t i.t y.x) fun y => K (.one (.dat i.t y))
      | none => none)
    | _ => none)
  | .ptr r none _ => (match s.mem[r]? with
    | some (.blk ts fs) => (match ts, fs with
      | [t], [a] => guard (same t i.t) (K (.one a))
      | ts, fs => bnd (joinD0 ts fs) fun x => bnd (cast (stru ts) i.t x) fun y => K (.one (.dat i.t y)))
    | _ => none)
  | .ptr r (some k) p => (match s.mem[r]? with
    | some (.blk ts fs) => (match ts[k]?, fs[k]? with
      | some t, some a => (match p with
        | [] => guard (same t i.t) (K (.one a))
        | p => (match a with
          | .dat u x => bnd (cast u t x) fun x => (match get t x p with
            | some y => bnd (cast y.t i.t y.x) fun y => K (.one (.dat i.t y))
            | none => none)
          | _ => none))
      | _, _ => none)
    | _ => none)
  | _ => none
/-- A value is laid at a place. -/
def storeA {β : Type} (s : St) (i : TI) (a b : AV) (K : St → Option β) : Option β :=
  match a with
  | .eptr r j p => (match s.mem[r]? with
    | some (.sl t l) => bnd (toD0 i.t b) fun y => (match set t (List.getD l j (zv t)) p i.t y with
      | some x => K (setM r (.sl t (l.set j x)) s)
      | none => none)
    | _ => none)
  | .ptr r none _ => (match s.mem[r]? with
    | some (.blk ts _) => (match ts with
      | [t] => guard (same t i.t && fits s.mem t b) (K (setM r (.blk [t] [b]) s))
      | t :: t' :: ts => (match b with
        | .dat u x => bnd (cast u (stru (t :: t' :: ts)) x) fun x => guard (same (stru (t :: t' :: ts)) i.t) (K (setM r (.blk (t :: t' :: ts) (split (t :: t' :: ts) x)) s))
        | _ => none)
      | [] => none)
    | _ => none)
  | .ptr r (some k) p => (match s.mem[r]? with
    | some (.blk ts fs) => (match ts[k]?, fs[k]? with
      | some t, some a => (match p with
        | [] => guard (same t i.t && fits s.mem t b) (K (setM r (.blk ts (fs.set k b)) s))
        | p => (match a with
          | .dat u x => bnd (cast u t x) fun x => bnd (toD0 i.t b) fun y => (match set t x p i.t y with
            | some x => K (setM r (.blk ts (fs.set k (.dat t x))) s)
            | none => none)
          | _ => none))
      | _, _ => none)
    | _ => none)
  | _ => none
/-- A slice that grows. -/
def appA {β : Type} (s : St) (t : Ty) (a : AV) (ys : List (D t)) (K : St → SV → Option β) : Option β :=
  match a with
  | .nil => guard (Nat.ble ys.length maxN) (K (addM (.sl t ys) s) (.one (.own s.mem.length)))
  | .own r => (match s.mem[r]? with
    | some (.sl u l) => bnd (cast (.sl u) (.sl t) l) fun l => guard (Nat.ble (List.length (α := D t) l + ys.length) maxN) (K (addM (.sl t (List.append (α := D t) l ys)) (kilS r s)) (.one (.own s.mem.length)))
    | _ => none)
  | .view r lo hi => (match lo, s.mem[r]? with
    | 0, some (.sl u l) => bnd (cast (.sl u) (.sl t) l) fun l => guard (Nat.ble (hi + ys.length) maxN) (K (addM (.sl t (List.append (List.take (α := D t) hi l) ys)) (kilS r s)) (.one (.own s.mem.length)))
    | _, _ => none)
  | _ => none
/-- What is copied in, as far as there is room. -/
def cpy {α : Type} (l : List α) (lo hi : Nat) (ys : List α) : List α := l.take lo ++ ys.take (min (hi - lo) ys.length) ++ l.drop (lo + min (hi - lo) ys.length)
def copyA {β : Type} (s : St) (t : Ty) (a : AV) (ys : List (D t)) (K : St → SV → Option β) : Option β :=
  match a with
  | .own r => (match s.mem[r]? with
    | some (.sl u l) => bnd (cast (.sl u) (.sl t) l) fun l => K (setM r (.sl t (cpy l 0 (List.length (α := D t) l) ys)) s) (.one (.dat (.int .i64) ((min (List.length (α := D t) l) ys.length : Nat) : Int)))
    | _ => none)
  | .view r lo hi => (match s.mem[r]? with
    | some (.sl u l) => bnd (cast (.sl u) (.sl t) l) fun l => K (setM r (.sl t (cpy l lo hi ys)) s) (.one (.dat (.int .i64) ((min (hi - lo) ys.length : Nat) : Int)))
    | _ => none)
  | .aview r k p lo hi => (match s.mem[r]? with
    | some (.blk ts fs) => (match ts[k]?, fs[k]? with
      | some u, some (.dat v x) => bnd (cast v u x) fun x => (match get u x p with
        | some ⟨.arr n w, y⟩ => bnd (cast (.arr n w) (.arr n t) y) fun y => (match set u x p (.arr n t) (cpy (show List (D t) from y) lo hi ys) with
          | some x => K (setM r (.blk ts (fs.set k (.dat u x))) s) (.one (.dat (.int .i64) ((min (hi - lo) ys.length : Nat) : Int)))
          | none => none)
        | _ => none)
      | _, _ => none)
    | _ => none)
  | _ => none
end Go.Proofs.Ytpfoeeiacfadfaa.Q
/-
  What is loaded from a place, what is stored there.
-/
namespace Go.Proofs.Ytpfoeeiacfadfaa.Q
open Go.RowKit

/-- The blocks that were handed in stay where they are. -/
def Ext (mem : List Cn) (L : List Res) (mem' : List Cn) (L' : List Res) : Prop :=
  (∀ (i g : Nat) (T : TypeId) (cs : List Value), L[i]? = some (.arr g T cs) → ∃ cs', L'[i]? = some (.arr g T cs')) ∧ ∀ (i : Nat) (ts : List Ty) (fs : List AV), mem[i]? = some (.blk ts fs) → ∃ fs', mem'[i]? = some (.blk ts fs')
theorem Ext.refl (mem : List Cn) (L : List Res) : Ext mem L mem L := ⟨fun _ _ _ cs h => ⟨cs, h⟩, fun _ _ fs h => ⟨fs, h⟩⟩
theorem Ext.trans {m1 m2 m3 : List Cn} {L1 L2 L3 : List Res} (h : Ext m1 L1 m2 L2) (k : Ext m2 L2 m3 L3) : Ext m1 L1 m3 L3 :=
  ⟨fun i g T cs hi => by obtain ⟨cs', h1⟩ := h.1 i g T cs hi; exact k.1 i g T cs' h1, fun i ts fs hi => by obtain ⟨fs', h1⟩ := h.2 i ts fs hi; exact k.2 i ts fs' h1⟩
theorem Ext.kp {m1 m2 : List Cn} {L1 L2 : List Res} (h : ∀ r, Kp m1 L1 m2 L2 r) : Ext m1 L1 m2 L2 := ⟨fun i => (h i).1, fun i => (h i).2.2.1⟩
structure SR (P : Program) (e : Env) (F : Nat → Prop) (w0 w : World) (s : St) (vs : List (Nat × Value)) (L : List Res) : Prop where
  m : MR P F w0 w s.mem L
  f : FrR e F w s.mem L s.fr vs
  g : GR e F w s.mem L
section
variable {P : Program} {e : Env} {F : Nat → Prop} {w0 w w' : World} {L L' : List Res} {s : St} {vs : List (Nat × Value)} {β : Type} {r : β} {o : Oper}
theorem lks_map (f : AV → AV) (hu : f .undef = .undef) (fr : List (Nat × SV)) (k : Nat) : lks (fr.map fun p => (p.1, p.2.map f)) k = (lks fr k).map f := by
  induction fr with
  | nil => show SV.one .undef = SV.map f (SV.one .undef); rw [SV.map, hu]
  | cons p fr ih =>
    obtain ⟨j, v⟩ := p
    simp only [List.map_cons, lks]
    cases Nat.beq j k with
    | true => rfl
    | false => exact ih
theorem SVR.map {mem mem' : List Cn} {f : AV → AV} (hA : ∀ a v, AVR F w mem L a v → AVR F w' mem' L' (f a) v) {sv : SV} {v : Value} (h : SVR F w mem L sv v) : SVR F w' mem' L' (sv.map f) v := by
  cases sv with
  | one a => exact hA a v h
  | tup l =>
    obtain ⟨us, h1, h2⟩ := h
    refine ⟨us, h1, ?_⟩
    have := All2.map (R := AVR F w' mem' L') (f := f) (g := id) (fun c d h => hA c d h) h2
    rwa [List.map_id] at this
theorem CR.map {mem mem' : List Cn} {f : AV → AV} (hs : Stp w L w' L') (hA : ∀ a v, AVR F w mem L a v → AVR F w' mem' L' (f a) v) {c : Cn} {q : Res} (h : CR P F w mem L c q) : CR P F w' mem' L' (cnm f c) q := by
  cases c with
  | gone => exact h
  | sl t l =>
    obtain ⟨E, v, cs, h1, h2, h3, h4⟩ := h
    exact ⟨E, v, cs, h1, h2, h3, h4.stp (SF.stp hs)⟩
  | blk ts fs =>
    obtain ⟨g, T, ps, h1, h2, h3⟩ := h
    refine ⟨g, T, ps, h1, h2, ?_⟩
    have h4 := All2.map (R := FR F w' mem' L') (f := f) (g := id) (fun c d (h : FR F w mem L c d) => ⟨hA _ _ h.1, h.2⟩) h3
    rw [List.map_id] at h4
    exact h4
/-- The world, and things of one's own, have turned. -/
theorem SR.upd (h : SR P e F w0 w s vs L) (f : AV → AV) (hu : f .undef = .undef) (hr : ∀ t x, f (.rptr t x) = .rptr t x) {mem' : List Cn} (hA : ∀ a v, AVR F w s.mem L a v → AVR F w' mem' L' (f a) v) (hs : Stp w L w' L') (mo : Mo w0 w' L') (hl : L'.length = mem'.length)
    (cn : ∀ (i : Nat) (c : Cn) (q : Res), mem'[i]? = some c → L'[i]? = some q → (∃ c0, s.mem[i]? = some c0 ∧ L[i]? = some q ∧ c = cnm f c0) ∨ CR P F w' mem' L' c q) : SR P e F w0 w' ⟨(s.map f).fr, mem'⟩ vs L' := by
  refine ⟨⟨mo, hl, fun i c q hc hq => ?_, fun g hg => (hs g (h.m.fz g hg)).1⟩, fun k => ?_, fun g x hx => ?_⟩
  · rcases cn i c q hc hq with ⟨c0, h1, h2, rfl⟩ | h1
    · exact CR.map hs hA (h.m.cn i c0 q h1 h2)
    · exact h1
  · show SVR F w' mem' L' (lks (s.fr.map fun p => (p.1, p.2.map f)) k) _
    rw [lks_map f hu]
    exact SVR.map hA (h.f k)
  · have := hA _ _ (h.g g x hx)
    rw [hr] at this
    exact this
theorem map_id (s : St) : s.map id = s := by
  obtain ⟨fr, mem⟩ := s
  have h1 : ∀ sv : SV, sv.map id = sv := fun sv => by cases sv with | one a => rfl | tup l => show SV.tup (l.map id) = _; rw [List.map_id]
  have h2 : ∀ c : Cn, cnm id c = c := fun c => by cases c with | blk ts fs => show Cn.blk ts (fs.map id) = _; rw [List.map_id] | _ => rfl
  show St.mk (fr.map fun p => (p.1, p.2.map id)) (mem.map (cnm id)) = _
  congr 1
  · rw [show (fun p : Nat × SV => (p.1, p.2.map id)) = id from funext fun p => by rw [h1]; rfl, List.map_id]
  · rw [show cnm id = id from funext h2, List.map_id]
theorem cnm_id (c : Cn) : cnm id c = c := by cases c with | blk ts fs => show Cn.blk ts (fs.map id) = _; rw [List.map_id] | _ => rfl
theorem SR.upd0 (h : SR P e F w0 w s vs L) {mem' : List Cn} (hk : ∀ r, Kp s.mem L mem' L' r) (hs : Stp w L w' L') (mo : Mo w0 w' L') (hl : L'.length = mem'.length)
    (cn : ∀ (i : Nat) (c : Cn) (q : Res), mem'[i]? = some c → L'[i]? = some q → (s.mem[i]? = some c ∧ L[i]? = some q) ∨ CR P F w' mem' L' c q) : SR P e F w0 w' ⟨s.fr, mem'⟩ vs L' := by
  have := SR.upd h id rfl (fun _ _ => rfl) (fun a v ha => AVR.stp0 hs hk ha) hs mo hl (fun i c q hc hq => by
    rcases cn i c q hc hq with ⟨h1, h2⟩ | h1
    · exact .inl ⟨c, h1, h2, (cnm_id c).symm⟩
    · exact .inr h1)
  rwa [map_id] at this

/-- The cells of a place. -/
def Pl (w : World) (a : Addr) (cs : List Value) : Prop := ∀ j u, cs[j]? = some u → w.cell? (a.add j) = some u
theorem run_ld {T : TypeId} {t : Ty} (hE : EF P T t) {a : Addr} {cs : List Value} (hl : cs.length = z t) (hp : Pl w a cs) : (Instr.loadAt T (.pointer (some a))).run P w = .ok (mkV t cs) w := by
  unfold Instr.loadAt loadVar mkV
  simp only [Sem.run_bind, Instr.sureAddr, Sem.run_pure, Result.andThen_ok, hE.isAgg]
  cases ha : agg t with
  | true =>
    have h1 := run_loadCells_list (P := P) w a cs hp
    rw [hl] at h1
    simp only [if_true, Sem.run_bind, hE.sizeOf, Result.andThen_ok, h1, Sem.run_pure]
  | false =>
    have hz := agg_z ha
    obtain ⟨c, rfl⟩ : ∃ c, cs = [c] := by
      cases cs with
      | nil => simp at hl; omega
      | cons c cs => cases cs with
        | nil => exact ⟨c, rfl⟩
        | cons d cs => simp at hl; omega
    have h1 := hp 0 c rfl
    have e1 : a.add 0 = a := rfl
    rw [e1] at h1
    simp [h1]
/-! Fields in a block. -/
/-- What a load tells, and of which cells. -/
def Ld (w : World) (i : TI) (v u : Value) : Prop := ∃ a cs, v = .pointer (some a) ∧ cs.length = z i.t ∧ Pl w a cs ∧ u = mkV i.t cs
theorem Ld.mk {i : TI} {a : Addr} {cs : List Value} (hl : cs.length = z i.t) (hp : Pl w a cs) : Ld w i (.pointer (some a)) (mkV i.t cs) := ⟨a, cs, rfl, hl, hp, rfl⟩
theorem Ld.run {T : TypeId} {i : TI} {v u : Value} (h : Ld w i v u) (hE : EF P T i.t) : (Instr.loadAt T v).run P w = .ok u w := by
  obtain ⟨a, cs, rfl, hl, hp, rfl⟩ := h
  exact run_ld hE hl hp
theorem Ld.stp {i : TI} {v u : Value} (h : Ld w i v u) (hb : ∀ a, v = .pointer (some a) → w'.heap[a.block]? = w.heap[a.block]?) : Ld w' i v u := by
  obtain ⟨a, cs, rfl, hl, hp, rfl⟩ := h
  refine ⟨a, cs, rfl, hl, fun j u hu => ?_, rfl⟩
  rw [← hp j u hu]
  refine World.cell?_of_block ?_
  rw [ablk]
  exact hb a rfl

theorem fld {ps : List (Ty × List Value)} (hl : ∀ p ∈ ps, p.2.length = z p.1) {k : Nat} {p : Ty × List Value} (hk : ps[k]? = some p) :
    fo (ps.map Prod.fst) k + z p.1 ≤ (ps.map Prod.snd).flatten.length ∧ ((ps.map Prod.snd).flatten.drop (fo (ps.map Prod.fst) k)).take (z p.1) = p.2 ∧ ∀ (t : Ty) (d : List Value), d.length = z t → z t = z p.1 → ((ps.set k (t, d)).map Prod.snd).flatten = (ps.map Prod.snd).flatten.take (fo (ps.map Prod.fst) k) ++ d ++ (ps.map Prod.snd).flatten.drop (fo (ps.map Prod.fst) k + z p.1) := by
  induction ps generalizing k with
  | nil => simp at hk
  | cons q ps ih =>
    have hq := hl q List.mem_cons_self
    cases k with
    | zero =>
      simp at hk
      subst hk
      refine ⟨?_, ?_, fun t d hd ht => ?_⟩
      · show 0 + z q.1 ≤ (q.2 ++ _).length
        rw [List.length_append, hq]; omega
      · show ((q.2 ++ _).drop 0).take _ = _
        rw [List.drop_zero, List.take_left' hq]
      · show d ++ _ = (q.2 ++ _).take 0 ++ d ++ (q.2 ++ _).drop (0 + z q.1)
        rw [Nat.zero_add, List.drop_left' hq, List.take_zero, List.nil_append]
    | succ k =>
      obtain ⟨h1, h2, h3⟩ := ih (fun p hp => hl p (List.mem_cons_of_mem _ hp)) (k := k) (by simpa using hk)
      refine ⟨?_, ?_, fun t d hd ht => ?_⟩
      · show z q.1 + fo _ k + z p.1 ≤ (q.2 ++ _).length
        rw [List.length_append, hq]
        have : fo (ps.map Prod.fst) k + z p.1 ≤ (ps.map Prod.snd).flatten.length := h1
        show z q.1 + fo (ps.map Prod.fst) k + z p.1 ≤ z q.1 + (ps.map Prod.snd).flatten.length
        omega
      · show ((q.2 ++ (ps.map Prod.snd).flatten).drop (z q.1 + fo (ps.map Prod.fst) k)).take _ = _
        rw [← hq, List.drop_append, List.drop_of_length_le (by omega), List.nil_append, show q.2.length + fo (ps.map Prod.fst) k - q.2.length = fo (ps.map Prod.fst) k by omega]
        exact h2
      · show q.2 ++ ((ps.set k (t, d)).map Prod.snd).flatten = (q.2 ++ (ps.map Prod.snd).flatten).take (z q.1 + fo (ps.map Prod.fst) k) ++ d ++ (q.2 ++ (ps.map Prod.snd).flatten).drop (z q.1 + fo (ps.map Prod.fst) k + z p.1)
        have e1 : (q.2 ++ (ps.map Prod.snd).flatten).take (z q.1 + fo (ps.map Prod.fst) k) = q.2 ++ ((ps.map Prod.snd).flatten).take (fo (ps.map Prod.fst) k) := by
          rw [← hq, List.take_append, List.take_of_length_le (by omega), show q.2.length + fo (ps.map Prod.fst) k - q.2.length = fo (ps.map Prod.fst) k by omega]
        have e2 : (q.2 ++ (ps.map Prod.snd).flatten).drop (z q.1 + fo (ps.map Prod.fst) k + z p.1) = ((ps.map Prod.snd).flatten).drop (fo (ps.map Prod.fst) k + z p.1) := by
          rw [← hq, List.drop_append, List.drop_of_length_le (by omega), List.nil_append, show q.2.length + fo (ps.map Prod.fst) k + z p.1 - q.2.length = fo (ps.map Prod.fst) k + z p.1 by omega]
        rw [h3 t d hd ht, e1, e2]
        simp
theorem arr_pl {T : TypeId} {g off n : Nat} {cs : List Value} (h : Arr T w g cs) : Pl w ⟨g, off, none⟩ ((cs.drop off).take n) := by
  intro j u hu
  rw [List.getElem?_take] at hu
  split at hu
  · rw [List.getElem?_drop] at hu
    rw [alit, cell_of_row w g (off + j) _ T (0, 0) h]
    simpa using hu
  · cases hu
theorem own_pl {E : TypeId} {zz n B g cap off k : Nat} {cs : List Value} (h : w.ownsRow B E zz (.slice (some ⟨g, 0, none⟩) n cap) n cs) : Pl w (⟨g, off, none⟩) ((cs.drop off).take k) := by
  intro j u hu
  rw [List.getElem?_take] at hu
  split at hu
  · rw [List.getElem?_drop] at hu
    have := World.ownsRow.cells h (g := g) rfl (off + j) u hu
    rw [alit] at this ⊢
    rw [Nat.zero_add] at this
    exact this
  · cases hu
theorem one_cells {mem : List Cn} {t : Ty} {a : AV} {p : List Value} {x : D t} (h : FR F w mem L a (t, p)) (hx : toD0 t a = some x) : RC (SF F L w) w t p x := by
  obtain ⟨ha, hl, ho⟩ := h
  obtain ⟨cs, hv, hr⟩ := toD0_r hx ha
  have hc := mkV_cells hl ho
  have hc2 := mkV_cells hr.len hr.one
  rw [hv, hc2] at hc
  have e1 : cs = p := by simpa using hc
  subst e1
  exact hr
theorem joinD0_r {mem : List Cn} : ∀ {ts : List Ty} {fs : List AV} {ps : List (Ty × List Value)} {x : D (stru ts)}, All2 (FR F w mem L) fs ps → ps.map Prod.fst = ts → joinD0 ts fs = some x → RC (SF F L w) w (stru ts) ((ps.map Prod.snd).flatten) x
  | [], fs, ps, x, h, ht, _ => by
    cases ps with
    | nil => rfl
    | cons p ps => cases ht
  | [t], fs, ps, x, h, ht, hj => by
    cases fs with
    | nil => cases hj
    | cons a fs => cases fs with
      | cons b fs => cases hj
      | nil => cases ps with
        | nil => exact h.elim
        | cons p ps => cases ps with
          | cons q ps => exact h.2.elim
          | nil =>
            obtain ⟨t', p⟩ := p
            obtain rfl : t' = t := by simpa using ht
            have := one_cells h.1 (show toD0 t' a = some x from hj)
            show RC (SF F L w) w t' ([p].flatten) x
            simpa using this
  | t :: u :: r, fs, ps, x, h, ht, hj => by
    cases fs with
    | nil => cases hj
    | cons a fs => cases ps with
      | nil => exact h.elim
      | cons p ps =>
        obtain ⟨t', p⟩ := p
        have ht' : t' = t ∧ ps.map Prod.fst = u :: r := by simpa using ht
        obtain ⟨rfl, ht2⟩ := ht'
        unfold joinD0 at hj
        simp only at hj
        cases hx : toD0 t' a with
        | none => rw [hx] at hj; cases hj
        | some x1 =>
          rw [hx] at hj
          cases hy : joinD0 (u :: r) fs with
          | none => rw [hy] at hj; cases hj
          | some y1 =>
            rw [hy] at hj
            obtain rfl := Option.some.inj hj
            exact ⟨p, (ps.map Prod.snd).flatten, rfl, one_cells h.1 hx, joinD0_r h.2 ht2 hy⟩
end
end Go.Proofs.Ytpfoeeiacfadfaa.Q
/-
  Loads and stores.
-/
namespace Go.Proofs.Ytpfoeeiacfadfaa.Q
open Go.RowKit

section
variable {P : Program} {e : Env} {F : Nat → Prop} {w0 w : World} {L : List Res} {s : St} {vs : List (Nat × Value)} {β : Type} {r : β} {o : Oper}
theorem lay_ps {g : Nat} {T : TypeId} {cs : List Value} {q : Nat} {ts : List Ty} {fs : List AV} (m : MR P F w0 w s.mem L) (hL : L[q]? = some (.arr g T cs)) (hm : s.mem[q]? = some (.blk ts fs)) :
    ∃ ps : List (Ty × List Value), cs = (ps.map Prod.snd).flatten ∧ ps.map Prod.fst = ts ∧ All2 (FR F w s.mem L) fs ps ∧ Arr T w g cs ∧ (∀ p ∈ ps, p.2.length = z p.1) := by
  obtain ⟨g', T', ps, h1, h2, h3⟩ := m.cn q _ _ hm hL
  injection h1 with h1 h4 h5
  refine ⟨ps, h5, h2, h3, (m.mo.ok q _ hL).2, fun p hp => ?_⟩
  obtain ⟨k, hk⟩ := List.getElem?_of_mem hp
  obtain ⟨a, _, ha⟩ := h3.get hk
  exact ha.2.1
theorem map_get {α β : Type} {f : α → β} {l : List α} {k : Nat} {b : β} (h : (l.map f)[k]? = some b) : ∃ a, l[k]? = some a ∧ f a = b := by
  rw [List.getElem?_map] at h
  obtain ⟨a, ha, hb⟩ := Option.map_eq_some_iff.1 h
  exact ⟨a, ha, hb⟩
theorem load_r {K : SV → Option β} (h : SR P e F w0 w s vs L) {T : TypeId} {i : TI} (_hi : TIok P T i) {a : AV} {v : Value} (ha : AVR F w s.mem L a v) (hl : loadA s i a K = some r) :
    ∃ u sv, K sv = some r ∧ SVR F w s.mem L sv u ∧ Ld w i v u := by
  unfold loadA at hl
  split at hl
  · rename_i t x
    replace hl := bnd_some hl
    obtain ⟨y, h1, hl⟩ := hl
    obtain ⟨b, cs, rfl, hr, hc⟩ := ha
    obtain ⟨e1, e2⟩ := cast_eq h1
    subst e1
    subst e2
    exact ⟨_, _, hl, ⟨cs, rfl, hr⟩, Ld.mk hr.len fun j u hu => (hc j u hu).1⟩
  · rename_i q j p
    split at hl
    · rename_i t l hm
      split at hl
      · rename_i y hy
        replace hl := bnd_some hl
        obtain ⟨y', h1, hl⟩ := hl
        obtain ⟨E, zz, u, n, cs, t', l', hL, hm', hj, hok, hv⟩ := ha
        have e9 := some_inj2 hm hm'
        injection e9 with e9 e10
        subst e9
        obtain rfl := eq_of_heq e10
        obtain ⟨E', v', cs', hc, hz, hE, hr⟩ := h.m.cn q _ _ hm hL
        injection hc with c1 c2 c3 c4 c5
        subst c1 c2 c3 c4 c5
        have hg := hr.get (getD_some (α := D t) l j (zv t) hj)
        obtain ⟨q1, q2, q3⟩ := get_rc hg hok hy
        obtain ⟨g, cap, rfl, _⟩ := own_ne h.m hL (by omega)
        have hown := h.m.mo.ok q _ hL
        obtain ⟨e1, e2⟩ := cast_eq h1
        obtain ⟨ty, y⟩ := y
        simp only at e1 e2 q1 q2
        subst e1
        subst e2
        have hd : ((List.take (z t) (List.drop (j * z t) cs)).drop (po t p)).take (z i.t) = (cs.drop (j * z t + po t p)).take (z i.t) := by
          rw [List.length_take, List.length_drop] at q2
          rw [List.drop_take, List.take_take, List.drop_drop, show min (z i.t) (z t - po t p) = z i.t by omega]
        rw [hd] at q1
        refine ⟨_, _, hl, ⟨_, rfl, q1⟩, ?_⟩
        rw [hv]
        show Ld w i (.pointer (some ((⟨g, 0, none⟩ : Addr).add _))) _
        rw [alit, Nat.zero_add]
        exact Ld.mk q1.len (own_pl hown)
      · cases hl
    · cases hl
  · rename_i q p
    obtain ⟨_, g, T', cs, hL, rfl⟩ := ha
    split at hl
    · rename_i ts fs hm
      obtain ⟨ps, rfl, hts, hfs, harr, hlen⟩ := lay_ps h.m hL hm
      split at hl
      · rename_i t b
        replace hl := guard_some hl
        obtain ⟨h1, hl⟩ := hl
        obtain rfl := same_eq h1
        cases ps with
        | nil => exact hfs.elim
        | cons p ps => cases ps with
          | cons q ps => exact hfs.2.elim
          | nil =>
            obtain ⟨t', c⟩ := p
            obtain rfl : t' = i.t := by simpa using hts
            obtain ⟨⟨hav, hcl, hco⟩, _⟩ := hfs
            have harr' : Arr T' w g c := by simpa using harr
            refine ⟨_, _, hl, hav, Ld.mk hcl fun j u hu => ?_⟩
            rw [alit, cell_of_row w g (0 + j) _ T' (0, 0) harr']
            simpa using hu
      · replace hl := bnd_some hl
        obtain ⟨x, h1, hl⟩ := hl
        replace hl := bnd_some hl
        obtain ⟨y, h2, hl⟩ := hl
        have hr := joinD0_r hfs hts h1
        obtain ⟨e1, e2⟩ := cast_eq h2
        have key : ∀ {t u : Ty} {x : D t} {y : D u} (e1 : t = u), e1 ▸ x = y → RC (SF F L w) w t ((ps.map Prod.snd).flatten) x → RC (SF F L w) w u ((ps.map Prod.snd).flatten) y := by
          intro t u x y e1 e2 hr; subst e1; subst e2; exact hr
        have hr2 := key e1 e2 hr
        refine ⟨_, _, hl, ⟨_, rfl, hr2⟩, Ld.mk hr2.len fun j u hu => ?_⟩
        rw [alit, cell_of_row w g (0 + j) _ T' (0, 0) harr]
        simpa using hu
    · cases hl
  · rename_i q k p
    obtain ⟨g, T', cs, ts, fs, t, hL, hm, htk, hok, rfl⟩ := ha
    obtain ⟨ps, rfl, hts, hfs, harr, hlen⟩ := lay_ps h.m hL hm
    simp only [hm, htk] at hl
    split at hl
    · rename_i t' a0 ht' hak
      obtain rfl := Option.some.inj ht'
      obtain ⟨p0, hp0, hFR⟩ := hfs.getl hak
      rw [← hts] at htk
      obtain ⟨p0', hp0', e0⟩ := map_get htk
      obtain rfl := some_inj2 hp0 hp0'
      obtain ⟨f1, f2, f3⟩ := fld hlen hp0
      rw [hts] at f1 f2
      obtain ⟨hav, hcl, hco⟩ := hFR
      rw [e0] at hcl hav f1 f2
      split at hl
      · replace hl := guard_some hl
        obtain ⟨h1, hl⟩ := hl
        obtain rfl := same_eq h1
        have e1 : po i.t [] = 0 := by cases i.t <;> rfl
        refine ⟨_, _, hl, hav, Ld.mk hcl ?_⟩
        rw [e1, Nat.add_zero, ← f2]
        exact arr_pl harr
      · split at hl
        · rename_i u x
          replace hl := bnd_some hl
          obtain ⟨x2, h1, hl⟩ := hl
          split at hl
          · rename_i y hy
            replace hl := bnd_some hl
            obtain ⟨y', h2, hl⟩ := hl
            obtain ⟨c, hv, hr⟩ := cast_r h1 hav
            have hc2 := mkV_cells hr.len hr.one
            have hc1 := mkV_cells hcl hco
            rw [hv, hc2] at hc1
            have e5 : c = p0.2 := by simpa using hc1
            subst e5
            obtain ⟨q1, q2, q3⟩ := get_rc hr hok hy
            obtain ⟨ty, y⟩ := y
            obtain ⟨e1, e2⟩ := cast_eq h2
            simp only at e1 e2 q1 q2
            subst e1
            subst e2
            have hd : (p0.2.drop (po t p)).take (z i.t) = (((ps.map Prod.snd).flatten).drop (fo ts k + po t p)).take (z i.t) := by
              rw [← f2, List.drop_take, List.take_take, List.drop_drop, show min (z i.t) (z t - po t p) = z i.t by omega]
            refine ⟨_, _, hl, ⟨_, rfl, q1⟩, Ld.mk q1.len ?_⟩
            rw [hd]
            exact arr_pl harr
          · cases hl
        · cases hl
    · cases hl
  · cases hl
end
end Go.Proofs.Ytpfoeeiacfadfaa.Q
/-
  Stores: a cell, a field, an element, a whole variable.
-/
namespace Go.Proofs.Ytpfoeeiacfadfaa.Q
open Go.RowKit

section
variable {P : Program} {e : Env} {F : Nat → Prop} {w0 w : World} {L : List Res} {s : St} {vs : List (Nat × Value)} {β : Type} {r : β} {o : Oper}
theorem run_st {T : TypeId} {t : Ty} (hE : EF P T t) {a : Addr} {u : Value} {us : List Value} (hu : u.cells = us.toArray) (hl : us.length = z t) {w' : World} (hs : (storeCells a us).run P w = .ok () w') : (Instr.storeAt T (.pointer (some a)) u).run P w = .ok () w' := by
  unfold Instr.storeAt storeVar
  simp only [Sem.run_bind, Instr.sureAddr, Sem.run_pure, Result.andThen_ok, hE.sizeOf, hu, List.size_toArray, hl, ne_eq, not_true_eq_false, if_false, hs]
/-- Cells of a block turn. -/
theorem put_arr (h : SR P e F w0 w s vs L) {q g off : Nat} {T : TypeId} {cs us : List Value} (hL : L[q]? = some (.arr g T cs)) (h1 : ∀ c ∈ us, c.oneCell' = true) (hf : off + us.length ≤ cs.length) :
    ∃ w', (storeCells ⟨g, off, none⟩ us).run P w = .ok () w' ∧ Mo w0 w' (L.set q (.arr g T (cs.take off ++ us ++ cs.drop (off + us.length)))) ∧ Stp w L w' (L.set q (.arr g T (cs.take off ++ us ++ cs.drop (off + us.length)))) := by
  have hg := h.m.mo.ok q _ hL
  have hst := run_storeCells_at P g off T us 0 cs.toArray w hg.2 (by simpa using hf) h1
  simp only [Nat.add_zero] at hst
  refine ⟨_, hst, h.m.mo.turn hL (w' := w.setRow g (cs.take off ++ us ++ cs.drop (off + us.length)).toArray) ⟨rfl, rfl, rfl, by simp, fun k _ hk => setRow_other w g k _ (fun e => hk (by simp [Res.blk, e]))⟩ (r' := .arr g T _) ⟨hg.1, setRow_heap w g _ _ T _ hg.2⟩ (fun g' hg' => .inl hg')⟩
/-- Cells of a slice of one's own turn. -/
theorem put_own (h : SR P e F w0 w s vs L) {q E zz n g cap off : Nat} {cs us : List Value} (hL : L[q]? = some (.own E zz (.slice (some ⟨g, 0, none⟩) n cap) n cs)) (h1 : ∀ c ∈ us, c.oneCell' = true) (hf : off + us.length ≤ cs.length) :
    ∃ w', (storeCells ⟨g, off, none⟩ us).run P w = .ok () w' ∧ Mo w0 w' (L.set q (.own E zz (.slice (some ⟨g, 0, none⟩) n cap) n (cs.take off ++ us ++ cs.drop (off + us.length)))) ∧ Stp w L w' (L.set q (.own E zz (.slice (some ⟨g, 0, none⟩) n cap) n (cs.take off ++ us ++ cs.drop (off + us.length)))) := by
  have hown := h.m.mo.ok q _ hL
  have hlen := hown.1
  rcases hown.2 with ⟨hv, _⟩ | ⟨g', cap', cur, hv, hbg, hg, hnc, hcm, hcs, htake⟩
  · cases hv
  · injection hv with hv hv2 hv3
    injection hv with hv
    injection hv with hv _ _
    subst hv hv3
    have hcur : n * zz ≤ cur.size := by rw [hcs]; exact Nat.mul_le_mul_right _ hnc
    have hst := run_storeCells_at P g off E us 0 cur w hg (by omega) h1
    simp only [Nat.add_zero] at hst
    refine ⟨_, hst, h.m.mo.turn hL (w' := w.setRow g (cur.toList.take off ++ us ++ cur.toList.drop (off + us.length)).toArray) ⟨rfl, rfl, rfl, by simp, fun k _ hk => setRow_other w g k _ (fun e => hk (by simp [Res.blk, Value.ownBlock, e]))⟩ (r' := .own E zz _ n (cs.take off ++ us ++ cs.drop (off + us.length))) ⟨by simp; omega, .inr ⟨g, cap, _, rfl, hbg, setRow_heap w g cur _ E _ hg, hnc, hcm, ?_, ?_⟩⟩ (fun g' hg' => .inl hg')⟩
    · simp; omega
    · have hc : cs = cur.toList.take (n * zz) := htake.symm
      have hl : cs.length = n * zz := hlen
      simp only [List.append_assoc]
      rw [List.take_append, List.take_append]
      have l1 : (cur.toList.take off).length = off := by simp; omega
      rw [l1]
      have e1 : (cur.toList.take off).take (n * zz) = cs.take off := by rw [hc, List.take_take, List.take_take]; congr 1; omega
      have e2 : us.take (n * zz - off) = us := List.take_of_length_le (by omega)
      have e3 : (cur.toList.drop (off + us.length)).take (n * zz - off - us.length) = cs.drop (off + us.length) := by rw [hc, List.drop_take]; congr 1; omega
      rw [e1, e2, e3]
/-- A thing of one's own holds another thing now. -/
theorem SR.set1 {w' : World} (h : SR P e F w0 w s vs L) {q : Nat} {c c0 : Cn} {q0 q1 : Res} (hm : s.mem[q]? = some c0) (hL : L[q]? = some q0) (mo : Mo w0 w' (L.set q q1)) (hs : Stp w L w' (L.set q q1))
    (hk : (∀ g T cs, q0 = .arr g T cs → ∃ cs', q1 = .arr g T cs') ∧ (∀ E zz v n cs, q0 = .own E zz v n cs → ∃ cs', q1 = .own E zz v n cs') ∧ (∀ ts fs, c0 = .blk ts fs → ∃ fs', c = .blk ts fs') ∧ (∀ t l, c0 = .sl t l → ∃ l', c = .sl t l'))
    (hc : CR P F w' (s.mem.set q c) (L.set q q1) c q1) : SR P e F w0 w' (setM q c s) vs (L.set q q1) ∧ Ext s.mem L (setM q c s).mem (L.set q q1) := by
  have hkp : ∀ r, Kp s.mem L (s.mem.set q c) (L.set q q1) r := fun r => Kp.set (fun c1 q2 h1 h2 => by
    obtain rfl := some_inj2 hm h1
    obtain rfl := some_inj2 hL h2
    exact hk) h.m.len r
  refine ⟨SR.upd0 h hkp hs mo (by rw [List.length_set, List.length_set]; exact h.m.len) fun i c1 q2 h1 h2 => ?_, Ext.kp hkp⟩
  rcases get_set h1 with ⟨rfl, rfl⟩ | ⟨h3, h4⟩
  · rcases get_set h2 with ⟨_, rfl⟩ | ⟨h5, _⟩
    · exact .inr hc
    · exact absurd rfl h5
  · rcases get_set h2 with ⟨h5, _⟩ | ⟨_, h6⟩
    · exact absurd h5 h3
    · exact .inl ⟨h4, h6⟩
theorem kp_set (h : SR P e F w0 w s vs L) {q : Nat} {c c0 : Cn} {q0 q1 : Res} (hm : s.mem[q]? = some c0) (hL : L[q]? = some q0)
    (hk : (∀ g T cs, q0 = .arr g T cs → ∃ cs', q1 = .arr g T cs') ∧ (∀ E zz v n cs, q0 = .own E zz v n cs → ∃ cs', q1 = .own E zz v n cs') ∧ (∀ ts fs, c0 = .blk ts fs → ∃ fs', c = .blk ts fs') ∧ (∀ t l, c0 = .sl t l → ∃ l', c = .sl t l')) : ∀ r, Kp s.mem L (s.mem.set q c) (L.set q q1) r := fun r => Kp.set (fun c1 q2 h1 h2 => by
    obtain rfl := some_inj2 hm h1
    obtain rfl := some_inj2 hL h2
    exact hk) h.m.len r
/-- What fits has the cells that are asked for. -/
theorem fits_r {mem : List Cn} {t : Ty} {a : AV} {v : Value} (h : fits mem t a = true) (ha : AVR F w mem L a v) (m : MR P F w0 w mem L) : ∃ cs, v = mkV t cs ∧ v.cells = cs.toArray ∧ cs.length = z t ∧ ∀ u ∈ cs, u.oneCell' = true := by
  have one : ∀ {t : Ty} {v : Value}, agg t = false → v.oneCell' = true → v.cells = #[v] → ∃ cs, v = mkV t cs ∧ v.cells = cs.toArray ∧ cs.length = z t ∧ ∀ u ∈ cs, u.oneCell' = true := fun {t v} h1 h2 h3 => by
    refine ⟨[v], ?_, h3, by rw [agg_z h1]; rfl, fun u hu => by rw [List.mem_singleton.1 hu]; exact h2⟩
    unfold mkV; rw [h1]; rfl
  have ptr : ∀ {x : Option Addr}, (Value.pointer x).oneCell' = true ∧ (Value.pointer x).cells = #[.pointer x] := fun {x} => ⟨rfl, rfl⟩
  cases a with
  | dat s x =>
    obtain rfl := same_eq (show same s t = true from h)
    obtain ⟨cs, hv, hr⟩ := ha
    exact ⟨cs, hv, by rw [hv]; exact mkV_cells hr.len hr.one, hr.len, hr.one⟩
  | nil =>
    cases t <;> first | (rw [show v = _ from ha]; exact one rfl rfl rfl) | cases h
  | own q =>
    cases t with
    | sl t =>
      obtain ⟨E, zz, n, cs, hL⟩ := ha
      have hk := m.mo.ok q _ hL
      rcases hk.2 with ⟨hv, _⟩ | ⟨g, cap, cur, hv, _⟩ <;> rw [hv] <;> exact one rfl rfl rfl
    | _ => cases h
  | ptr q k p =>
    cases t with
    | opq j =>
      obtain ⟨x, rfl⟩ : ∃ x, v = .pointer x := by
        cases k with
        | none => obtain ⟨_, g, T, cs, _, h⟩ := ha; exact ⟨_, h⟩
        | some k => obtain ⟨g, T, cs, ts, fs, t, _, _, _, _, h⟩ := ha; exact ⟨_, h⟩
      have hz : z (.opq j) = 1 := rfl
      exact one rfl rfl rfl
    | _ => cases h
  | rptr u x =>
    cases t with
    | opq j =>
      obtain ⟨b, cs, rfl, _⟩ := ha
      exact one rfl rfl rfl
    | _ => cases h
  | fn f =>
    cases t with
    | opq j => rw [show v = _ from ha]; exact one rfl rfl rfl
    | _ => cases h
  | _ => cases h
theorem all2_split {mem : List Cn} : ∀ {ts : List Ty} {x : D (stru ts)} {cs : List Value}, RC (SF F L w) w (stru ts) cs x → 2 ≤ ts.length → ∃ ps : List (Ty × List Value), cs = (ps.map Prod.snd).flatten ∧ ps.map Prod.fst = ts ∧ All2 (FR F w mem L) (split ts x) ps
  | [], _, _, _, h2 => by simp at h2
  | [_], _, _, _, h2 => by simp at h2
  | [t, u], x, cs, h, _ => by
    obtain ⟨c1, c2, rfl, h1, h2⟩ := h
    exact ⟨[(t, c1), (u, c2)], by simp, rfl, ⟨⟨c1, rfl, h1⟩, h1.len, h1.one⟩, ⟨⟨c2, rfl, h2⟩, RC.len (t := u) h2, RC.one (t := u) h2⟩, trivial⟩
  | t :: u :: v :: r, x, cs, h, _ => by
    obtain ⟨c1, c2, rfl, h1, h2⟩ := h
    obtain ⟨ps, rfl, h3, h4⟩ := all2_split (ts := u :: v :: r) h2 (by simp)
    exact ⟨(t, c1) :: ps, by simp, by simp [h3], ⟨⟨c1, rfl, h1⟩, h1.len, h1.one⟩, h4⟩
end
end Go.Proofs.Ytpfoeeiacfadfaa.Q
/-
  What is stored at a place is there.
-/
namespace Go.Proofs.Ytpfoeeiacfadfaa.Q
open Go.RowKit

section
variable {P : Program} {e : Env} {F : Nat → Prop} {w0 w : World} {L : List Res} {s : St} {vs : List (Nat × Value)} {β : Type} {r : β} {o : Oper}
theorem kpk_blk {g : Nat} {T' : TypeId} {cs cs1 : List Value} {ts : List Ty} {fs fs' : List AV} : (∀ g1 T1 cs2, Res.arr g T' cs = .arr g1 T1 cs2 → ∃ cs', Res.arr g T' cs1 = .arr g1 T1 cs') ∧ (∀ E zz v n cs2, Res.arr g T' cs = .own E zz v n cs2 → ∃ cs', Res.arr g T' cs1 = .own E zz v n cs') ∧ (∀ ts1 fs1, Cn.blk ts fs = .blk ts1 fs1 → ∃ fs2, Cn.blk ts fs' = .blk ts1 fs2) ∧ (∀ t l, Cn.blk ts fs = .sl t l → ∃ l', Cn.blk ts fs' = .sl t l') := by
  refine ⟨fun g1 T1 cs2 e => ?_, fun E zz v n cs2 e => ?_, fun ts1 fs1 e => ?_, fun t l e => ?_⟩
  · injection e with e1 e2 e3
    subst e1 e2
    exact ⟨_, rfl⟩
  · cases e
  · injection e with e1 e2
    subst e1
    exact ⟨_, rfl⟩
  · cases e
theorem kpk_sl {E zz n : Nat} {v : Value} {cs cs1 : List Value} {t : Ty} {l l1 : List (D t)} : (∀ g1 T1 cs2, Res.own E zz v n cs = .arr g1 T1 cs2 → ∃ cs', Res.own E zz v n cs1 = .arr g1 T1 cs') ∧ (∀ E2 z2 v2 n2 cs2, Res.own E zz v n cs = .own E2 z2 v2 n2 cs2 → ∃ cs', Res.own E zz v n cs1 = .own E2 z2 v2 n2 cs') ∧ (∀ ts1 fs1, Cn.sl t l = .blk ts1 fs1 → ∃ fs2, Cn.sl t l1 = .blk ts1 fs2) ∧ (∀ t2 l2, Cn.sl t l = .sl t2 l2 → ∃ l', Cn.sl t l1 = .sl t2 l') := by
  refine ⟨fun g1 T1 cs2 e => ?_, fun E zz v n cs2 e => ?_, fun ts1 fs1 e => ?_, fun t l e => ?_⟩
  · cases e
  · injection e with e1 e2 e3 e4 e5
    subst e1 e2 e3 e4
    exact ⟨_, rfl⟩
  · cases e
  · injection e with e1 e2
    subst e1
    exact ⟨_, rfl⟩
/-- A block's fields turn: from these cells on. -/
theorem st_blk (h : SR P e F w0 w s vs L) {T : TypeId} {i : TI} (hi : TIok P T i) {q g off : Nat} {T' : TypeId} {cs us ds : List Value} {ts : List Ty} {fs fs' : List AV} {u : Value} (hL : L[q]? = some (.arr g T' cs)) (hm : s.mem[q]? = some (.blk ts fs)) (hu : u.cells = us.toArray) (hl : us.length = z i.t) (h1 : ∀ c ∈ us, c.oneCell' = true) (hf : off + us.length ≤ cs.length) (hd : cs.take off ++ us ++ cs.drop (off + us.length) = ds)
    (hc : ∀ w', Stp w L w' (L.set q (.arr g T' ds)) → (∀ a v, AVR F w s.mem L a v → AVR F w' (s.mem.set q (.blk ts fs')) (L.set q (.arr g T' ds)) a v) → ∃ ps : List (Ty × List Value), ds = (ps.map Prod.snd).flatten ∧ ps.map Prod.fst = ts ∧ All2 (FR F w' (s.mem.set q (.blk ts fs')) (L.set q (.arr g T' ds))) fs' ps) :
    ∃ w', (Instr.storeAt T (.pointer (some ⟨g, off, none⟩)) u).run P w = .ok () w' ∧ SR P e F w0 w' (setM q (.blk ts fs') s) vs (L.set q (.arr g T' ds)) ∧ Stp w L w' (L.set q (.arr g T' ds)) ∧ Ext s.mem L (setM q (.blk ts fs') s).mem (L.set q (.arr g T' ds)) := by
  subst hd
  obtain ⟨w', hr, mo, hs⟩ := put_arr h hL h1 hf
  have hk : (∀ g1 T1 cs1, Res.arr g T' cs = .arr g1 T1 cs1 → ∃ cs', Res.arr g T' (cs.take off ++ us ++ cs.drop (off + us.length)) = .arr g1 T1 cs') ∧ (∀ E zz v n cs1, Res.arr g T' cs = .own E zz v n cs1 → ∃ cs', Res.arr g T' (cs.take off ++ us ++ cs.drop (off + us.length)) = .own E zz v n cs') ∧ (∀ ts1 fs1, Cn.blk ts fs = .blk ts1 fs1 → ∃ fs2, Cn.blk ts fs' = .blk ts1 fs2) ∧ (∀ t l, Cn.blk ts fs = .sl t l → ∃ l', Cn.blk ts fs' = .sl t l') :=
    kpk_blk
  have hkp := kp_set (q1 := .arr g T' (cs.take off ++ us ++ cs.drop (off + us.length))) (c := .blk ts fs') h hm hL hk
  obtain ⟨ps, p1, p2, p3⟩ := hc w' hs (fun a v ha => AVR.stp0 hs hkp ha)
  obtain ⟨h3, h4⟩ := h.set1 hm hL mo hs hk ⟨g, T', ps, by rw [p1], p2, p3⟩
  exact ⟨w', run_st hi.ef hu hl hr, h3, hs, h4⟩
theorem frs_mono {w' : World} {mem mem' : List Cn} {L' : List Res} (hA : ∀ a v, AVR F w mem L a v → AVR F w' mem' L' a v) {fs : List AV} {ps : List (Ty × List Value)} (h : All2 (FR F w mem L) fs ps) : All2 (FR F w' mem' L') fs ps := h.mono fun _ _ h => ⟨hA _ _ h.1, h.2⟩
theorem store_r {K : St → Option β} (h : SR P e F w0 w s vs L) {T : TypeId} {i : TI} (hi : TIok P T i) {a b : AV} {v u : Value} (ha : AVR F w s.mem L a v) (hb : AVR F w s.mem L b u) (hl : storeA s i a b K = some r) :
    ∃ s' w' L', K s' = some r ∧ (Instr.storeAt T v u).run P w = .ok () w' ∧ SR P e F w0 w' s' vs L' ∧ Stp w L w' L' ∧ Ext s.mem L s'.mem L' ∧ ∀ j g T cs, L[j]? = some (.arr g T cs) → (∀ k p, a ≠ .ptr j k p) → L'[j]? = some (.arr g T cs) := by
  unfold storeA at hl
  split at hl
  · rename_i q j p
    split at hl
    · rename_i t l hm
      replace hl := bnd_some hl
      obtain ⟨y, h1, hl⟩ := hl
      split at hl
      · rename_i x hx
        obtain ⟨E, zz, v0, n, cs, t', l', hL, hm', hj, hok, hv⟩ := ha
        have e9 := some_inj2 hm hm'
        injection e9 with e9 e10
        subst e9
        obtain rfl := eq_of_heq e10
        obtain ⟨E', v', cs', hc, hz, hE, hr⟩ := h.m.cn q _ _ hm hL
        injection hc with c1 c2 c3 c4 c5
        subst c1 c2 c3 c4 c5
        obtain ⟨us, huv, hur⟩ := toD0_r h1 hb
        have harr : RC (SF F L w) w (.arr l.length t) cs l := RC.arr.2 ⟨rfl, hr⟩
        have hset : set (.arr l.length t) (show D (.arr l.length t) from l) (.idx j :: p) i.t y = some (List.set l j x) := by
          show (match set t (List.getD (α := D t) l j (zv t)) p i.t y with | some u => some (List.set (α := D t) l j u) | none => none) = _
          rw [hx]
        obtain ⟨q1, q2, q3⟩ := set_rc harr (show okP (.arr l.length t) (.idx j :: p) from ⟨hj, hok⟩) hset hur
        have hlen := hur.len
        obtain ⟨g, cap, rfl, _⟩ := own_ne h.m hL (by omega)
        have epo : po (.arr l.length t) (.idx j :: p) = j * z t + po t p := rfl
        rw [epo] at q1 q2
        obtain ⟨w', hrun, mo, hs⟩ := put_own (off := j * z t + po t p) h hL hur.one (by rw [hlen]; exact q2)
        rw [hlen] at mo hs
        have hk : (∀ g1 T1 cs1, Res.own E (z t) (.slice (some ⟨g, 0, none⟩) l.length cap) l.length cs = .arr g1 T1 cs1 → ∃ cs', Res.own E (z t) (.slice (some ⟨g, 0, none⟩) l.length cap) l.length (cs.take (j * z t + po t p) ++ us ++ cs.drop (j * z t + po t p + z i.t)) = .arr g1 T1 cs') ∧ (∀ E1 zz v n cs1, Res.own E (z t) (.slice (some ⟨g, 0, none⟩) l.length cap) l.length cs = .own E1 zz v n cs1 → ∃ cs', Res.own E (z t) (.slice (some ⟨g, 0, none⟩) l.length cap) l.length (cs.take (j * z t + po t p) ++ us ++ cs.drop (j * z t + po t p + z i.t)) = .own E1 zz v n cs') ∧ (∀ ts1 fs1, Cn.sl t l = .blk ts1 fs1 → ∃ fs2, Cn.sl t (l.set j x) = .blk ts1 fs2) ∧ (∀ t1 l1, Cn.sl t l = .sl t1 l1 → ∃ l', Cn.sl t (l.set j x) = .sl t1 l') :=
          kpk_sl
        obtain ⟨h3, h4⟩ := h.set1 (c := .sl t (l.set j x)) hm hL mo hs hk ⟨E, _, _, by rw [List.length_set], hz, hE, ((RC.arr.1 q1).2).stp (SF.stp hs)⟩
        refine ⟨_, w', _, hl, ?_, h3, hs, h4, fun j g2 T2 c2 hj _ => (by
          by_cases e : q = j
          · subst e; rw [hL] at hj; cases hj
          · rw [List.getElem?_set_ne e]; exact hj)⟩
        rw [hv]
        show (Instr.storeAt T (.pointer (some ((⟨g, 0, none⟩ : Addr).add _))) u).run P w = _
        rw [alit, Nat.zero_add]
        exact run_st hi.ef (by rw [huv]; exact mkV_cells hlen hur.one) hlen hrun
      · cases hl
    · cases hl
  · rename_i q p
    obtain ⟨_, g, T', cs, hL, rfl⟩ := ha
    split at hl
    · rename_i ts fs hm
      obtain ⟨ps, rfl, hts, hfs, harr, hlen⟩ := lay_ps h.m hL hm
      split at hl
      · rename_i t
        replace hl := guard_some hl
        obtain ⟨h1, hl⟩ := hl
        rw [Bool.and_eq_true] at h1
        obtain rfl := same_eq h1.1
        cases ps with
        | nil => cases hts
        | cons p0 ps => cases ps with
          | cons q ps => simp at hts
          | nil =>
            obtain ⟨t', c⟩ := p0
            obtain rfl : t' = i.t := by simpa using hts
            obtain ⟨us, hu1, hu2, hu3, hu4⟩ := fits_r h1.2 hb h.m
            have hc := hlen _ List.mem_cons_self
            simp only at hc
            obtain ⟨w', g1, g2, g3, g4⟩ := st_blk (ds := us) (fs' := [b]) h hi hL hm hu2 hu3 hu4 (off := 0) (by simp; omega) (by simp; omega) (fun w' hs hA => ⟨[(i.t, us)], by simp, rfl, ⟨by show AVR _ _ _ _ b (mkV i.t us); rw [← hu1]; exact hA _ _ hb, hu3, hu4⟩, trivial⟩)
            exact ⟨_, w', _, hl, g1, g2, g3, g4, fun j g9 T9 c9 hj hne => by rw [List.getElem?_set_ne (fun e => hne _ _ (by subst e; rfl))]; exact hj⟩
      · rename_i t1 t2 ts
        split at hl
        · rename_i t0 x0
          replace hl := bnd_some hl
          obtain ⟨x, h1, hl⟩ := hl
          replace hl := guard_some hl
          obtain ⟨h2, hl⟩ := hl
          replace hb := cast_r h1 hb
          obtain ⟨us, hu, hr⟩ := hb
          have e2 := same_eq h2
          have hl2 := hr.len
          have hu2 : u.cells = us.toArray := by rw [hu]; exact mkV_cells hl2 hr.one
          have hcl : (ps.map Prod.snd).flatten.length = z (stru (t1 :: t2 :: ts)) := by
            have : ∀ {ts : List Ty} {ps : List (Ty × List Value)}, ps.map Prod.fst = ts → (∀ p ∈ ps, p.2.length = z p.1) → (ps.map Prod.snd).flatten.length = z (stru ts) := by
              intro ts
              induction ts with
              | nil => intro ps h1 _; cases ps with | nil => rfl | cons _ _ => cases h1
              | cons t ts ih =>
                intro ps h1 h2
                cases ps with
                | nil => cases h1
                | cons p ps =>
                  have e1 : p.1 = t ∧ ps.map Prod.fst = ts := by simpa using h1
                  have e2 := ih e1.2 (fun q hq => h2 q (List.mem_cons_of_mem _ hq))
                  have e3 := h2 p List.mem_cons_self
                  rw [List.map_cons, List.flatten_cons, List.length_append, e2, e3, e1.1]
                  cases ts with
                  | nil => rfl
                  | cons u ts => rfl
            exact this hts hlen
          have h2len : 2 ≤ (t1 :: t2 :: ts).length := by simp
          obtain ⟨w', g1, g2, g3, g4⟩ := st_blk (ds := us) (fs' := split (t1 :: t2 :: ts) x) h hi hL hm hu2 (by rw [hl2, e2]) hr.one (off := 0) (by rw [hcl, hl2]; omega) (by rw [hl2, ← hcl]; simp) (fun w' hs hA => all2_split (hr.stp (SF.stp hs)) h2len)
          exact ⟨_, w', _, hl, g1, g2, g3, g4, fun j g9 T9 c9 hj hne => by rw [List.getElem?_set_ne (fun e => hne _ _ (by subst e; rfl))]; exact hj⟩
        · cases hl
      · cases hl
    · cases hl
  · rename_i q k p
    obtain ⟨g, T', cs, ts, fs, t, hL, hm, htk, hok, rfl⟩ := ha
    obtain ⟨ps, rfl, hts, hfs, harr, hlen⟩ := lay_ps h.m hL hm
    simp only [hm, htk] at hl
    split at hl
    · rename_i t' a0 ht' hak
      obtain rfl := Option.some.inj ht'
      obtain ⟨p0, hp0, hFR⟩ := hfs.getl hak
      rw [← hts] at htk
      obtain ⟨p0', hp0', e0⟩ := map_get htk
      obtain rfl := some_inj2 hp0 hp0'
      obtain ⟨f1, f2, f3⟩ := fld hlen hp0
      rw [hts] at f1 f2 f3
      obtain ⟨hav, hcl, hco⟩ := hFR
      rw [e0] at hcl hav f1 f2 f3
      have efst : ∀ d : List Value, (ps.set k (t, d)).map Prod.fst = ts := fun d => by
        rw [List.map_set, hts]
        show ts.set k t = ts
        rw [hts] at htk
        obtain ⟨hlt, he⟩ := List.getElem?_eq_some_iff.1 htk
        rw [← he, List.set_getElem_self]
      split at hl
      · replace hl := guard_some hl
        obtain ⟨h1, hl⟩ := hl
        rw [Bool.and_eq_true] at h1
        obtain rfl := same_eq h1.1
        have e1 : po i.t [] = 0 := by cases i.t <;> rfl
        rw [e1, Nat.add_zero]
        obtain ⟨us, hu1, hu2, hu3, hu4⟩ := fits_r h1.2 hb h.m
        obtain ⟨w', g1, g2, g3, g4⟩ := st_blk (ds := ((ps.set k (i.t, us)).map Prod.snd).flatten) (fs' := fs.set k b) (off := fo ts k) h hi hL hm hu2 hu3 hu4 (by rw [hu3]; exact f1) (by rw [hu3]; exact (f3 i.t us hu3 rfl).symm) (fun w' hs hA => ⟨ps.set k (i.t, us), rfl, efst us, (frs_mono hA hfs).set ⟨by show AVR _ _ _ _ b (mkV i.t us); rw [← hu1]; exact hA _ _ hb, hu3, hu4⟩⟩)
        exact ⟨_, w', _, hl, g1, g2, g3, g4, fun j g9 T9 c9 hj hne => by rw [List.getElem?_set_ne (fun e => hne _ _ (by subst e; rfl))]; exact hj⟩
      · split at hl
        · rename_i u0 x
          replace hl := bnd_some hl
          obtain ⟨x2, h1, hl⟩ := hl
          replace hl := bnd_some hl
          obtain ⟨y, h2, hl⟩ := hl
          split at hl
          · rename_i x3 hx3
            obtain ⟨c, hv, hr⟩ := cast_r h1 hav
            have hc2 := mkV_cells hr.len hr.one
            have hc1 := mkV_cells hcl hco
            rw [hv, hc2] at hc1
            have e5 : c = p0.2 := by simpa using hc1
            subst e5
            obtain ⟨us, huv, hur⟩ := toD0_r h2 hb
            have hul := hur.len
            obtain ⟨q1, q2, q3⟩ := set_rc hr hok hx3 hur
            have e6 := f3 t _ q1.len rfl
            have e7 : (ps.map Prod.snd).flatten.take (fo ts k + po t p) ++ us ++ (ps.map Prod.snd).flatten.drop (fo ts k + po t p + us.length) = ((ps.set k (t, p0.2.take (po t p) ++ us ++ p0.2.drop (po t p + z i.t))).map Prod.snd).flatten := by
              rw [e6, ← f2, hul, List.take_add, List.take_take, show min (po t p) (z t) = po t p by omega, List.drop_take, List.drop_drop]
              have e8 := (List.take_append_drop (z t - (po t p + z i.t)) ((ps.map Prod.snd).flatten.drop (fo ts k + (po t p + z i.t)))).symm
              rw [List.drop_drop, show fo ts k + (po t p + z i.t) + (z t - (po t p + z i.t)) = fo ts k + z t by omega] at e8
              rw [show fo ts k + po t p + z i.t = fo ts k + (po t p + z i.t) by omega]
              conv =>
                lhs
                rw [e8]
              simp
            obtain ⟨w', g1, g2, g3, g4⟩ := st_blk (fs' := fs.set k (.dat t x3)) (off := fo ts k + po t p) h hi hL hm (show u.cells = us.toArray by rw [huv]; exact mkV_cells hul hur.one) hul hur.one (by rw [hul]; omega) e7 (fun w' hs hA => ⟨_, rfl, efst _, (frs_mono hA hfs).set ⟨⟨_, rfl, q1.stp (SF.stp hs)⟩, q1.len, q1.one⟩⟩)
            exact ⟨_, w', _, hl, g1, g2, g3, g4, fun j g9 T9 c9 hj hne => by rw [List.getElem?_set_ne (fun e => hne _ _ (by subst e; rfl))]; exact hj⟩
          · cases hl
        · cases hl
    · cases hl
  · cases hl
end
end Go.Proofs.Ytpfoeeiacfadfaa.Q
/-
  What is made: variables, slices; what grows.
-/
namespace Go.Proofs.Ytpfoeeiacfadfaa.Q
open Go.RowKit

section
variable {P : Program} {e : Env} {F : Nat → Prop} {w0 w w' : World} {L : List Res} {s : St} {vs : List (Nat × Value)} {β : Type} {r : β} {o : Oper}
/-- One thing more. -/
theorem SR.add (h : SR P e F w0 w s vs L) {c : Cn} {q : Res} (hb : Below w.heap.size w w') (hq : q.ok w.heap.size w')
    (hc : Stp w L w' (L ++ [q]) → (∀ a v, AVR F w s.mem L a v → AVR F w' (s.mem ++ [c]) (L ++ [q]) a v) → CR P F w' (s.mem ++ [c]) (L ++ [q]) c q) : SR P e F w0 w' (addM c s) vs (L ++ [q]) ∧ Stp w L w' (L ++ [q]) ∧ Ext s.mem L (addM c s).mem (L ++ [q]) ∧ (∀ a v, AVR F w s.mem L a v → AVR F w' (s.mem ++ [c]) (L ++ [q]) a v) := by
  obtain ⟨mo, hs⟩ := h.m.mo.new hb hq
  have hk : ∀ r, Kp s.mem L (s.mem ++ [c]) (L ++ [q]) r := fun r => Kp.app r
  have hA : ∀ a v, AVR F w s.mem L a v → AVR F w' (s.mem ++ [c]) (L ++ [q]) a v := fun a v ha => AVR.stp0 hs hk ha
  refine ⟨SR.upd0 h hk hs mo (by rw [List.length_append, List.length_append, h.m.len]; rfl) fun i c1 q1 h1 h2 => ?_, hs, Ext.kp hk, hA⟩
  rcases get_app h1 with h1 | ⟨e1, rfl⟩
  · rcases get_app h2 with h2 | ⟨e2, _⟩
    · exact .inl ⟨h1, h2⟩
    · have := (List.getElem?_eq_some_iff.1 h1).1; have := h.m.len; omega
  · rcases get_app h2 with h2 | ⟨_, rfl⟩
    · have := (List.getElem?_eq_some_iff.1 h2).1; have := h.m.len; omega
    · exact .inr (hc hs hA)
theorem zc_stru : ∀ ts : List Ty, zc (stru ts) = (ts.map zc).flatten
  | [] => rfl
  | [t] => by show zc t = [zc t].flatten; simp
  | t :: u :: r => by
    show zc t ++ zc (stru (u :: r)) = _
    rw [zc_stru (u :: r)]; simp
theorem zAV_r {mem : List Cn} (t : Ty) : FR F w mem L (zAV t) (t, zc t) := by
  refine ⟨?_, zc_len t, zc_one t⟩
  show AVR F w mem L (zAV t) (mkV t (zc t))
  unfold zAV
  split
  · rfl
  · split
    · exact ⟨_, rfl, zero_rc ‹_›⟩
    · trivial
theorem lay_sty {T : TypeId} {i : TI} (hi : TIok P T i) (h : (sty' i || Nat.ble i.fts.length 1) = true) : i.t = stru (lay i) ∧ lay i ≠ [] := by
  rw [Bool.or_eq_true] at h
  obtain ⟨t, E, fts⟩ := i
  match fts, h with
  | [], _ => exact ⟨rfl, by simp [lay]⟩
  | [u], _ => exact ⟨rfl, by simp [lay]⟩
  | a :: b :: l, h =>
    rcases h with h | h
    · obtain ⟨fs, _, _, hst, _⟩ := hi.str h
      exact ⟨hst, by simp [lay]⟩
    · simp at h
/-- A new block. -/
theorem new_blk (h : SR P e F w0 w s vs L) {T : TypeId} {ts : List Ty} {fs : List AV} {ps : List (Ty × List Value)} (hps : ps.map Prod.fst = ts) (hfs : All2 (FR F w s.mem L) fs ps) {run : Sem Value} {cs : List Value} (hcs : cs = (ps.map Prod.snd).flatten) (hr : run.run P w = .ok (.pointer (some ⟨w.heap.size, 0, none⟩)) (w.alloc (.cells cs.toArray T))) :
    ∃ w' L' u, run.run P w = .ok u w' ∧ SR P e F w0 w' (addM (.blk ts fs) s) vs L' ∧ Stp w L w' L' ∧ Ext s.mem L (addM (.blk ts fs) s).mem L' ∧ AVR F w' (addM (.blk ts fs) s).mem L' (.ptr s.mem.length none []) u ∧ Below w.heap.size w w' := by
  subst hcs
  have hb : Below w.heap.size w (w.alloc (.cells (ps.map Prod.snd).flatten.toArray T)) := (Below.refl _ _).alloc (Nat.le_refl _) _
  obtain ⟨h1, h2, h3, hA⟩ := h.add (c := .blk ts fs) (q := .arr w.heap.size T (ps.map Prod.snd).flatten) hb ⟨Nat.le_refl _, heap_alloc_new w _⟩ (fun hs hA => ⟨w.heap.size, T, ps, rfl, hps, frs_mono hA hfs⟩)
  exact ⟨_, _, _, hr, h1, h2, h3, ⟨rfl, w.heap.size, T, (ps.map Prod.snd).flatten, by rw [← h.m.len]; simp, rfl⟩, hb⟩
theorem alloc_r (h : SR P e F w0 w s vs L) {T : TypeId} {i : TI} (hi : TIok P T i) (hg : (sty' i || Nat.ble i.fts.length 1) = true) :
    ∃ w' L' u, (Instr.alloc T true (.tuple #[])).run P w = .ok u w' ∧ SR P e F w0 w' (addM (.blk (lay i) ((lay i).map zAV)) s) vs L' ∧ Stp w L w' L' ∧ Ext s.mem L (addM (.blk (lay i) ((lay i).map zAV)) s).mem L' ∧ AVR F w' (addM (.blk (lay i) ((lay i).map zAV)) s).mem L' (.ptr s.mem.length none []) u ∧ Below w.heap.size w w' := by
  obtain ⟨hst, hne⟩ := lay_sty hi hg
  have hall : ∀ l : List Ty, All2 (FR F w s.mem L) (l.map zAV) (l.map fun t => (t, zc t)) := fun l => by
    induction l with
    | nil => trivial
    | cons t l ih => exact ⟨zAV_r t, ih⟩
  refine new_blk h (T := T) (ps := (lay i).map fun t => (t, zc t)) (by rw [List.map_map]; show (lay i).map id = _; rw [List.map_id]) (hall _) (cs := zc i.t) (by rw [hst, zc_stru, List.map_map]; rfl) ?_
  have hz := hi.ef.zero w
  unfold Instr.alloc
  simp only [Sem.run_bind, hz, Result.andThen_ok, newVar, newRow, newObj, mkV_cells (zc_len _) (zc_one _)]
  rfl
theorem box_r (h : SR P e F w0 w s vs L) {T : TypeId} {i : TI} (hi : TIok P T i) (hg : (sty' i || Nat.ble i.fts.length 1) = true) {a : AV} {v : Value} (ha : AVR F w s.mem L a v) (hfit : fits s.mem i.t a = true) {fs : List AV} (hf : flds i a = some fs) :
    ∃ w' L' u, (Instr.box T v).run P w = .ok u w' ∧ SR P e F w0 w' (addM (.blk (lay i) fs) s) vs L' ∧ Stp w L w' L' ∧ Ext s.mem L (addM (.blk (lay i) fs) s).mem L' ∧ AVR F w' (addM (.blk (lay i) fs) s).mem L' (.ptr s.mem.length none []) u ∧ Below w.heap.size w w' := by
  obtain ⟨us, hu1, hu2, hu3, hu4⟩ := fits_r hfit ha h.m
  have hrun : (Instr.box T v).run P w = .ok (.pointer (some ⟨w.heap.size, 0, none⟩)) (w.alloc (.cells us.toArray T)) := by
    simp only [Instr.box, newVar, newRow, newObj, hu2]
    rfl
  obtain ⟨hst, _⟩ := lay_sty hi hg
  have single : (∀ b c r, i.fts ≠ b :: c :: r) → ∃ ps : List (Ty × List Value), us = (ps.map Prod.snd).flatten ∧ ps.map Prod.fst = lay i ∧ All2 (FR F w s.mem L) fs ps := fun hn => by
    have h1 : flds i a = some [a] := by
      unfold flds
      split
      · rename_i b c r hh; exact absurd hh (hn b c r)
      · rfl
    have h2 : lay i = [i.t] := by
      unfold lay
      split
      · rename_i b c r hh; exact absurd hh (hn b c r)
      · rfl
    rw [h1] at hf
    obtain rfl := Option.some.inj hf
    exact ⟨[(i.t, us)], by simp, h2.symm, ⟨by show AVR _ _ _ _ a (mkV i.t us); rw [← hu1]; exact ha, hu3, hu4⟩, trivial⟩
  have key : ∃ ps : List (Ty × List Value), us = (ps.map Prod.snd).flatten ∧ ps.map Prod.fst = lay i ∧ All2 (FR F w s.mem L) fs ps := by
    match hfts : i.fts with
    | [] => exact single (fun b c r => by rw [hfts]; intro e; cases e)
    | [u] => exact single (fun b c r => by rw [hfts]; intro e; cases e)
    | b :: c :: l =>
      have h2 : lay i = b :: c :: l := by unfold lay; rw [hfts]
      unfold flds at hf
      rw [hfts] at hf
      simp only at hf
      cases a with
      | dat u x =>
        simp only at hf
        split at hf
        · rename_i y hy
          obtain rfl := Option.some.inj hf
          obtain ⟨cs, hv, hr⟩ := cast_r hy ha
          have e1 : cs = us := by
            have := mkV_cells hr.len hr.one
            rw [← hv, hu2] at this
            simpa using this.symm
          subst e1
          obtain ⟨ps, p1, p2, p3⟩ := all2_split (mem := s.mem) hr (by simp)
          exact ⟨ps, p1, by rw [p2, h2], p3⟩
        · cases hf
      | _ => simp only at hf; cases hf
  obtain ⟨ps, p1, p2, p3⟩ := key
  exact new_blk h p2 p3 p1 hrun
/-- A new slice. -/
theorem new_sl (h : SR P e F w0 w s vs L) {E : TypeId} {t : Ty} (hE : EF P E t) (hz : 0 < z t) {l : List (D t)} {cs : List Value} (hr : RL (SF F L w) w t cs l) {v : Value} (hb : Below w.heap.size w w') (hq : w'.ownsRow w.heap.size E (z t) v l.length cs) :
    ∃ L', SR P e F w0 w' (addM (.sl t l) s) vs L' ∧ Stp w L w' L' ∧ Ext s.mem L (addM (.sl t l) s).mem L' ∧ AVR F w' (addM (.sl t l) s).mem L' (.own s.mem.length) v := by
  obtain ⟨h1, h2, h3, hA⟩ := h.add (c := .sl t l) (q := .own E (z t) v l.length cs) hb hq (fun hs hA => ⟨E, v, cs, rfl, hz, hE, hr.stp (SF.stp hs)⟩)
  exact ⟨_, h1, h2, h3, E, z t, l.length, cs, by rw [← h.m.len]; simp⟩
theorem made_rl {t : Ty} (hz : 0 < z t) (hp : plain t = true) {S : Nat → Prop} (n : Nat) : RL S w t (madeCells (mkV t (zc t)).cells (n * z t)).toList (List.replicate n (zv t)) := by
  refine ⟨List.replicate n (zc t), ?_, All2.rep (zero_rc hp) n⟩
  rw [mkV_cells (zc_len t) (zc_one t)]
  apply List.ext_getElem?
  intro j
  have hl : (List.replicate n (zc t)).flatten.length = n * z t := by
    rw [flat_len (n := z t) (fun c hc => by rw [List.eq_of_mem_replicate hc]; exact zc_len t), List.length_replicate]
  by_cases hj : j < n * z t
  · have hsz : (zc t).toArray.size = z t := by simpa using zc_len t
    have h1 : (madeCells (zc t).toArray (n * z t)).toList[j]? = (zc t)[j % z t]? := by
      have hm : j % z t < z t := Nat.mod_lt _ hz
      simp [madeCells, hj, hsz, zc_len t, hm]
    have h2 : (List.replicate n (zc t)).flatten[j]? = (zc t)[j % z t]? := by
      have hq : j / z t < n := Nat.div_lt_of_lt_mul (by rw [Nat.mul_comm]; exact hj)
      have hg := flat_get (css := List.replicate n (zc t)) (n := z t) (fun c hc => by rw [List.eq_of_mem_replicate hc]; exact zc_len t) (i := j / z t) (c := zc t) (by rw [List.getElem?_replicate, if_pos hq])
      have hm : j % z t < z t := Nat.mod_lt _ hz
      have e1 : (zc t)[j % z t]? = ((((List.replicate n (zc t)).flatten).drop (j / z t * z t)).take (z t))[j % z t]? := by rw [hg]
      rw [e1, List.getElem?_take, if_pos hm, List.getElem?_drop, Nat.mul_comm, Nat.div_add_mod]
    rw [h1, h2]
  · rw [List.getElem?_eq_none (by simp [madeCells]; omega), List.getElem?_eq_none (by rw [hl]; omega)]
end
end Go.Proofs.Ytpfoeeiacfadfaa.Q
/-
  Slices that are read; literals, make, append, copy, texts.
-/
namespace Go.Proofs.Ytpfoeeiacfadfaa.Q
open Go.RowKit

section
variable {P : Program} {e : Env} {F : Nat → Prop} {w0 w w' : World} {L : List Res} {s : St} {vs : List (Nat × Value)} {β : Type} {r : β} {o : Oper}
/-- The value is a slice of these elements, in these cells. -/
def Rd (F : Nat → Prop) (w : World) (L : List Res) (t : Ty) (v : Value) (l : List (D t)) : Prop :=
  ∃ ao cap cs, v = .slice ao l.length cap ∧ l.length ≤ cap ∧ (ao = none → cap = 0) ∧ (∀ a, ao = some a → ∀ j u, cs[j]? = some u → w.cell? (a.add j) = some u ∧ ¬ F a.block) ∧ RL (SF F L w) w t cs l
theorem own_rd (m : MR P F w0 w s.mem L) {q E zz n : Nat} {v : Value} {cs : List Value} {t : Ty} {l : List (D t)} (hL : L[q]? = some (.own E zz v n cs)) (hm : s.mem[q]? = some (.sl t l)) : n = l.length ∧ zz = z t ∧ RL (SF F L w) w t cs l ∧ EF P E t ∧ 0 < z t ∧ ((v = .slice none 0 0 ∧ l.length = 0) ∨ ∃ g cap, v = .slice (some ⟨g, 0, none⟩) l.length cap ∧ l.length ≤ cap ∧ cap ≤ maxLen ∧ ∀ j u, cs[j]? = some u → w.cell? ((⟨g, 0, none⟩ : Addr).add j) = some u) := by
  obtain ⟨E', v', cs', hc, hz, hE, hr⟩ := m.cn q _ _ hm hL
  injection hc with c1 c2 c3 c4 c5
  subst c1 c2 c3 c4 c5
  refine ⟨rfl, rfl, hr, hE, hz, ?_⟩
  have hk := m.mo.ok q _ hL
  have hk2 : w.ownsRow w0.heap.size E (z t) v l.length cs := hk
  rcases hk.2 with ⟨hv, h0⟩ | ⟨g, cap, cur, hv, _, _, hc, hcm, _⟩
  · exact .inl ⟨hv, h0⟩
  · exact .inr ⟨g, cap, hv, hc, hcm, World.ownsRow.cells hk2 (g := g) (by rw [hv]; rfl)⟩
theorem notF (m : MR P F w0 w s.mem L) {q g : Nat} {x : Res} (hL : L[q]? = some x) (hg : x.blk = some g) : ¬ F g := fun h => (m.fz g h).2 x (List.mem_of_getElem? hL) hg
theorem rdS_r (m : MR P F w0 w s.mem L) {t : Ty} {a : AV} {v : Value} {l : List (D t)} (ha : AVR F w s.mem L a v) (h : rdS s.mem t a = some l) : Rd F w L t v l := by
  cases a with
  | dat s0 x =>
    have h : cast s0 (.sl t) x = some l := h
    have hx := cast_r h ha
    obtain ⟨ao, cap, ics, h1, h2, h3, h4, h5⟩ := avr_sl hx
    exact ⟨ao, cap, ics, h1, h2, h3, fun a ha j u hu => ⟨(h4 a ha j u hu).1, (h4 a ha j u hu).2.2⟩, h5⟩
  | nil =>
    obtain rfl : [] = l := Option.some.inj h
    exact ⟨none, 0, [], ha, Nat.le_refl _, fun _ => rfl, fun a h => (by cases h), RL.nil t⟩
  | own q =>
    simp only [rdS] at h
    split at h
    · rename_i u x hm
      obtain ⟨E, zz, n, cs, hL⟩ := ha
      obtain ⟨rfl, rfl, hr, hE, hz, hv⟩ := own_rd m hL hm
      obtain ⟨e1, e2⟩ := cast_eq (show cast (.sl u) (.sl t) x = some l from h)
      injection e1 with e1
      subst e1
      obtain rfl : x = l := e2
      rcases hv with ⟨hv, h0⟩ | ⟨g, cap, hv, hc, _, hcell⟩
      · obtain rfl := List.eq_nil_of_length_eq_zero h0
        exact ⟨none, 0, cs, hv, Nat.le_refl _, fun _ => rfl, fun a h => (by cases h), hr⟩
      · exact ⟨_, cap, cs, hv, hc, fun h => (by cases h), fun a h j u hu => by obtain rfl := Option.some.inj h; exact ⟨hcell j u hu, notF m hL (by rw [hv]; rfl)⟩, hr⟩
    · cases h
  | view q lo hi =>
    simp only [rdS] at h
    split at h
    · rename_i u x hm
      split at h
      · rename_i x2 hx2
        obtain rfl := Option.some.inj h
        obtain ⟨E, zz, v0, n, cs, hL, hv0, l1, l2⟩ := ha
        obtain ⟨rfl, rfl, hr, hE, hz, hv⟩ := own_rd m hL hm
        obtain ⟨e1, e2⟩ := cast_eq (show cast (.sl u) (.sl t) x = some x2 from hx2)
        injection e1 with e1
        subst e1
        obtain rfl : x = x2 := e2
        have hlen : ((List.take hi x).drop lo).length = hi - lo := by simp; omega
        have hr2 := (hr.take hi).drop lo
        rcases hv with ⟨hv, h0⟩ | ⟨g, cap, hv, hc, _, hcell⟩
        · have e1 : lo = 0 := by omega
          have e2 : hi = 0 := by omega
          subst e1 e2
          exact ⟨none, 0, _, by rw [hv0, hv]; simp [sV], by simp, fun _ => rfl, fun a h => (by cases h), hr2⟩
        · have e1 : v = Value.slice (if cap = lo then some ⟨g, 0, none⟩ else some ((⟨g, 0, none⟩ : Addr).add (lo * z u))) (hi - lo) (cap - lo) := by rw [hv0, hv]; rfl
          refine ⟨(if cap = lo then some ⟨g, 0, none⟩ else some ((⟨g, 0, none⟩ : Addr).add (lo * z u))), cap - lo, (cs.take (hi * z u)).drop (lo * z u), by rw [hlen]; exact e1, by rw [hlen]; omega, fun hn => ?_, fun a ha j y hy => ?_, hr2⟩
          · split at hn <;> cases hn
          · rw [List.getElem?_drop, List.getElem?_take] at hy
            split at hy
            · rename_i hlt
              have hne : ¬ cap = lo := by
                intro e
                have : lo = hi := by omega
                subst this; omega
              rw [if_neg hne] at ha
              obtain rfl := Option.some.inj ha
              rw [aadd, ablk]
              exact ⟨hcell _ y hy, notF m hL (by rw [hv]; rfl)⟩
            · cases hy
      · cases h
    · cases h
  | aview q k p lo hi =>
    obtain ⟨g, T, cs, ts, fs, t0, n, te, hL, hm, htk, hok, hpt, l1, l2, l3, rfl⟩ := ha
    obtain ⟨ps, rfl, hts, hfs, harr, hlen⟩ := lay_ps m hL hm
    simp only [rdS, hm, htk] at h
    split at h
    · rename_i u s0 x hu hfk
      obtain rfl := Option.some.inj hu
      split at h
      · rename_i x2 hx2
        split at h
        · rename_i y hg
          simp only [hpt] at h
          split at h
          · rename_i l0 hl0
            obtain rfl := Option.some.inj h
            obtain ⟨p0, hp0, hav, hcl, hco⟩ := hfs.getl hfk
            rw [← hts] at htk
            obtain ⟨p0', hp0', e0⟩ := map_get htk
            obtain rfl := some_inj2 hp0 hp0'
            obtain ⟨f1, f2, f3⟩ := fld hlen hp0
            rw [hts] at f1 f2
            rw [e0] at hcl hav f1 f2
            obtain ⟨c, hv, hr⟩ := cast_r hx2 hav
            have hc2 := mkV_cells hr.len hr.one
            have hc1 := mkV_cells hcl hco
            rw [hv, hc2] at hc1
            have e5 : c = p0.2 := by simpa using hc1
            subst e5
            obtain ⟨q1, q2, q3⟩ := get_rc hr hok hg
            obtain ⟨ty, y⟩ := y
            obtain ⟨e1, e2⟩ := cast_eq hl0
            simp only at e1 e2 q1 q2 q3
            subst e1
            subst e2
            rw [hpt] at q3
            injection q3 with q3
            injection q3 with _ q3
            subst q3
            obtain ⟨hn, hr2⟩ := RC.arr.1 q1
            have hd : (p0.2.drop (po t0 p)).take (z (.arr n te)) = (((ps.map Prod.snd).flatten).drop (fo ts k + po t0 p)).take (z (.arr n te)) := by
              rw [← f2, List.drop_take, List.take_take, List.drop_drop, show min (z (.arr n te)) (z t0 - po t0 p) = z (.arr n te) by omega]
            rw [hd] at hr2
            have hr3 := (hr2.take hi).drop lo
            have hlen2 : ((List.take (α := D te) hi y).drop lo).length = hi - lo := by
              have h9 : List.length (α := D te) y = n := hn
              have h8 : (List.take (α := D te) hi y).length = min hi n := by rw [← h9]; exact List.length_take
              rw [List.length_drop, h8]; omega
            refine ⟨_, n - lo, _, by rw [hlen2], by rw [hlen2]; omega, fun h => (by cases h), fun a ha j u hu => ?_, hr3⟩
            obtain rfl := Option.some.inj ha
            rw [List.getElem?_drop, List.getElem?_take] at hu
            split at hu
            · have := arr_pl harr (off := fo ts k + po t0 p) (n := z (.arr n te)) _ u hu
              rw [alit] at this ⊢
              rw [Nat.add_assoc (fo ts k + po t0 p)]
              exact ⟨this, notF m hL rfl⟩
            · cases hu
          · cases h
        · cases h
      · cases h
    · cases h
  | _ => cases h
end
end Go.Proofs.Ytpfoeeiacfadfaa.Q
/-
  Slices that grow.
-/
namespace Go.Proofs.Ytpfoeeiacfadfaa.Q
open Go.RowKit

theorem room_tag {P : Program} (w : World) (t ty e e0 : TypeId) (i : TypeInfo) (ht : P.underlying t = some (.slice e)) (hi : P.info? e = some i)
    (g sLen sCap : Nat) (cur : Array Value) (hg : w.heap[g]? = some (.cells cur e0 (0, 0)))
    (a : Addr) (m c : Nat) (news : List Value) (hl : news.length = m * i.size) (hnews : ∀ j u, news[j]? = some u → w.cell? (a.add j) = some u) (h1 : ∀ u ∈ news, u.oneCell' = true)
    (hroom : sLen + m ≤ sCap) (hfit : sLen * i.size + news.length ≤ cur.size) :
    (Builtin.append_ #[t, t] ty #[.slice (some ⟨g, 0, none⟩) sLen sCap, .slice (some a) m c]).run P w =
      .ok (.slice (some ⟨g, 0, none⟩) (sLen + m) sCap) (w.setRow g (cur.toList.take (sLen * i.size) ++ news ++ cur.toList.drop (sLen * i.size + news.length)).toArray) := by
  have hf := run_firstCells_some (P := P) w i.size m a m c news hl hnews
  have hst := run_storeCells_at P g (sLen * i.size) e0 news 0 cur w hg (by simpa using hfit) h1
  simp only [Nat.add_zero] at hst
  simp [Builtin.append_, run_underlying ht, sizeOf, typeInfo, hi, Builtin.lenOf, hroom, hf, Addr.add_lit, hst]
section
variable {P : Program} {e : Env} {F : Nat → Prop} {w0 w w' : World} {L : List Res} {s : St} {vs : List (Nat × Value)} {β : Type} {r : β} {o : Oper}
/-- What is one's own grows, whatever its elements' type is called. -/
theorem app_own {base : Nat} {T ty E E0 : TypeId} {t : Ty} (hT : P.underlying T = some (.slice E)) (hE : EF P E t) (hE0 : EF P E0 t) (_hz : 0 < z t) {v : Value} {n : Nat} {xs : List Value} (hown : w.ownsRow base E0 (z t) v n xs)
    {ao : Option Addr} {m c : Nat} {news : List Value} (hc : m ≤ c) (hn0 : ao = none → c = 0) (hl : news.length = m * z t) (hnews : ∀ a, ao = some a → ∀ j u, news[j]? = some u → w.cell? (a.add j) = some u) (h1 : ∀ u ∈ news, u.oneCell' = true) (hmax : n + m ≤ maxN) (hbase : base ≤ w.heap.size) :
    ∃ v' w' E1, (Builtin.append_ #[T, T] ty #[v, .slice ao m c]).run P w = .ok v' w' ∧ w'.ownsRow base E1 (z t) v' (n + m) (xs ++ news) ∧ EF P E1 t ∧ w.grownBy w' v.ownBlock ∧ ∀ g, v'.ownBlock = some g → v.ownBlock = some g ∨ w.heap.size ≤ g := by
  obtain ⟨i, hi, hs, hz0, hby⟩ := hE.info
  have hmax' : n + m ≤ 1073741824 := hmax
  have h63 : n + m ≤ maxLen := by unfold maxLen; omega
  have hbytes : (n + m) * i.bytes ≤ 140737488355328 := by
    have h1 : (n + m) * i.bytes ≤ 1073741824 * 1024 := Nat.mul_le_mul hmax' hby
    omega
  have hzs : (mkV t (zc t)).cells.size = i.size := by rw [mkV_cells (zc_len t) (zc_one t), hs]; simpa using zc_len t
  rw [← hs] at hown hl ⊢
  have hlen : (xs ++ news).length = (n + m) * i.size := by rw [List.length_append, hown.1, hl, Nat.add_mul]
  cases ao with
  | none =>
    have hc0 := hn0 rfl
    subst hc0
    obtain rfl : m = 0 := by omega
    obtain rfl : news = [] := List.eq_nil_of_length_eq_zero (by simpa using hl)
    refine ⟨v, w, E0, ?_, by simpa using hown, hE0, ⟨rfl, rfl, rfl, Nat.le_refl _, fun _ _ _ => rfl⟩, fun g hg => .inl hg⟩
    rcases hown.2 with ⟨rfl, rfl⟩ | ⟨g, cap, cur, rfl, _, _, hnc, _⟩
    · simp [Builtin.append_, run_underlying hT, sizeOf, typeInfo, hi, Builtin.lenOf, Builtin.firstCells]
    · simp [Builtin.append_, run_underlying hT, sizeOf, typeInfo, hi, Builtin.lenOf, Builtin.firstCells, hnc, storeCells]
  | some a =>
    have hnews := hnews a rfl
    have grown : ∀ (old : Nat), old < n + m → ∀ (row : Option Nat),
        (w.drew.alloc (.cells (xs.toArray ++ news.toArray ++ Builtin.zeroCells (mkV t (zc t)).cells (grownCap w (n + m) old E - (n + m))) E)).ownsRow base E i.size
          (.slice (some ⟨w.heap.size, 0, none⟩) (n + m) (grownCap w (n + m) old E)) (n + m) (xs ++ news) ∧
        w.grownBy (w.drew.alloc (.cells (xs.toArray ++ news.toArray ++ Builtin.zeroCells (mkV t (zc t)).cells (grownCap w (n + m) old E - (n + m))) E)) row := by
      intro old ho row
      have hge := grownCap_ge w (n + m) old E
      have hcm : grownCap w (n + m) old E ≤ maxLen := grownCap_le_maxLen w (n + m) old E h63
      refine ⟨⟨hlen, .inr ⟨w.heap.size, _, _, rfl, hbase, heap_alloc_new w.drew _, hge, hcm, ?_, ?_⟩⟩, ⟨rfl, rfl, rfl, by simp, fun k hk _ => Below.heap_alloc w.drew _ k hk⟩⟩
      · simp only [Array.size_append, List.size_toArray, size_zeroCells, hzs, hown.1, hl, ← Nat.add_mul]
        congr 1
        omega
      · simp only [Array.toList_append, List.append_assoc]
        rw [← List.append_assoc, ← hlen]
        exact List.take_left
    rcases hown.2 with ⟨rfl, rfl⟩ | ⟨g, cap, cur, rfl, hbg, hg, hnc, hcm, hcs, htake⟩
    · have hx : xs = [] := List.eq_nil_of_length_eq_zero (by simpa using hown.1)
      subst hx
      by_cases hm : m = 0
      · subst hm
        have hn : news = [] := List.eq_nil_of_length_eq_zero (by simpa using hl)
        subst hn
        refine ⟨.slice none 0 0, w, E0, ?_, World.ownsRow_nil w base E0 i.size, hE0, ⟨rfl, rfl, rfl, Nat.le_refl _, fun _ _ _ => rfl⟩, fun g hg => .inl hg⟩
        simp [Builtin.append_, run_underlying hT, sizeOf, typeInfo, hi, Builtin.lenOf, Builtin.firstCells, loadCells, loadCellsFrom]
      · have hr := run_append_nil (P := P) w T ty E i _ hT hi hz0 a m c news hl hnews (by omega) (by omega) (by have hb := hbytes; simp only [Nat.zero_add] at hb; omega)
        have hgr := grown 0 (by omega) (Value.ownBlock (.slice none 0 0))
        simp only [Nat.zero_add, List.nil_append, Array.empty_append] at hgr ⊢
        exact ⟨_, _, E, hr, hgr.1, hE, hgr.2, fun g hg => by obtain rfl := Option.some.inj hg; exact .inr (Nat.le_refl _)⟩
    · by_cases hroom : n + m ≤ cap
      · have hfit : n * i.size + news.length ≤ cur.size := by rw [hl, hcs, ← Nat.add_mul]; exact Nat.mul_le_mul_right _ hroom
        have hr := room_tag (P := P) w T ty E E0 i hT hi g n cap cur hg a m c news hl hnews h1 hroom hfit
        refine ⟨_, _, E0, hr, ⟨hlen, .inr ⟨g, cap, _, rfl, hbg, setRow_heap w g cur _ E0 _ hg, hroom, hcm, ?_, ?_⟩⟩, hE0, ⟨rfl, rfl, rfl, by simp, fun k _ hk => setRow_other w g k _ (fun e => hk (by simp [Value.ownBlock, e]))⟩, fun g hg => .inl hg⟩
        · simp only [List.size_toArray, List.length_append, List.length_take, List.length_drop, Array.length_toList]
          omega
        · rw [htake, ← hlen]
          exact List.take_left
      · have holds : ∀ j u, xs[j]? = some u → w.cell? ((⟨g, 0, none⟩ : Addr).add j) = some u := hown.cells (g := g) rfl
        have hr := run_append_grow (P := P) w T ty E i _ hT hi hz0 ⟨g, 0, none⟩ n cap xs hown.1 holds a m c news hl hnews (by omega) (by omega) (growslice_fits (by omega) hbytes)
        have hgr := grown cap (by omega) (Value.ownBlock (.slice (some ⟨g, 0, none⟩) n cap))
        exact ⟨_, _, E, hr, hgr.1, hE, hgr.2, fun g hg => by obtain rfl := Option.some.inj hg; exact .inr (Nat.le_refl _)⟩
theorem nbeq {a b : Nat} : Nat.beq a b = true ↔ a = b := ⟨Nat.eq_of_beq_eq_true, fun h => by subst h; exact Nat.beq_refl a⟩
theorem nbeq' {a b : Nat} : Nat.beq a b = false ↔ a ≠ b := by
  constructor
  · intro h e
    subst e
    rw [Nat.beq_refl] at h; cases h
  · intro h
    cases hb : Nat.beq a b with
    | true => exact absurd (nbeq.1 hb) h
    | false => rfl
theorem gm {c : Cn} {mem : List Cn} {f : AV → AV} {i : Nat} (h : (mem.map (cnm f))[i]? = some c) : ∃ c0, mem[i]? = some c0 ∧ c = cnm f c0 := by
  obtain ⟨c0, h1, h2⟩ := map_get h
  exact ⟨c0, h1, h2.symm⟩
theorem kp_kil {q : Nat} {c : Cn} {q1 q2 : Res} {r : Nat} (hr : Nat.beq q r = false) (_hl : L.length = s.mem.length) : Kp s.mem L ((kilS q s).mem ++ [c]) (L.set q q1 ++ [q2]) r := by
  have hne := nbeq'.1 hr
  have h1 : ∀ {x : Res}, L[r]? = some x → (L.set q q1 ++ [q2])[r]? = some x := fun h => by
    rw [List.getElem?_append_left (by rw [List.length_set]; exact (List.getElem?_eq_some_iff.1 h).1), List.getElem?_set_ne hne]; exact h
  have h2 : ∀ {x : Cn}, s.mem[r]? = some x → ((kilS q s).mem ++ [c])[r]? = some (cnm (kil (Nat.beq q)) x) := fun {x} h => by
    have h3 : (s.map (kil (Nat.beq q))).mem[r]? = some (cnm (kil (Nat.beq q)) x) := by
      show (s.mem.map _)[r]? = _
      rw [List.getElem?_map, h]; rfl
    show ((s.map (kil (Nat.beq q))).mem.set q .gone ++ [c])[r]? = _
    rw [List.getElem?_append_left (by rw [List.length_set]; exact (List.getElem?_eq_some_iff.1 h3).1), List.getElem?_set_ne hne]; exact h3
  exact ⟨fun _ _ cs h => ⟨cs, h1 h⟩, fun _ _ _ _ cs h => ⟨cs, h1 h⟩, fun _ fs h => ⟨_, h2 h⟩, fun _ l h => ⟨l, h2 h⟩⟩
/-- One slice of one's own is gone, another one is there. -/
theorem SR.grow (h : SR P e F w0 w s vs L) {q : Nat} {E1 : TypeId} {t : Ty} {l : List (D t)} {cs : List Value} {v' : Value} {r0 : Res} (hL : L[q]? = some r0) (hz : 0 < z t) (hE : EF P E1 t) (hr : RL (SF F L w) w t cs l) (hown : w'.ownsRow w0.heap.size E1 (z t) v' l.length cs) (hg : w.grownBy w' r0.blk) (hb : ∀ g, v'.ownBlock = some g → r0.blk = some g ∨ w.heap.size ≤ g) :
    ∃ L', SR P e F w0 w' (addM (.sl t l) (kilS q s)) vs L' ∧ Stp w L w' L' ∧ AVR F w' (addM (.sl t l) (kilS q s)).mem L' (.own s.mem.length) v' ∧ (∀ (i g : Nat) (T : TypeId) (cs : List Value), i ≠ q → L[i]? = some (.arr g T cs) → ∃ cs', L'[i]? = some (.arr g T cs')) ∧ (∀ (i : Nat) (ts : List Ty) (fs : List AV), i ≠ q → s.mem[i]? = some (.blk ts fs) → ∃ fs', (addM (.sl t l) (kilS q s)).mem[i]? = some (.blk ts fs')) := by
  obtain ⟨mo1, hs1⟩ := h.m.mo.turn (r' := .own E1 (z t) v' l.length cs) hL hg hown hb
  have hq := (List.getElem?_eq_some_iff.1 hL).1
  have hset : (L.set q (.own E1 (z t) v' l.length cs))[q]? = some (.own E1 (z t) v' l.length cs) := by rw [List.getElem?_set_self hq]
  obtain ⟨mo2, hs2⟩ := mo1.move hset
  rw [List.set_set] at mo2 hs2
  have hs := hs1.trans hs2
  have hlen : (kilS q s).mem.length = s.mem.length := by
    show ((s.map (kil (Nat.beq q))).mem.set q .gone).length = _
    rw [List.length_set]; show (s.mem.map _).length = _; rw [List.length_map]
  have hA : ∀ a v, AVR F w s.mem L a v → AVR F w' ((kilS q s).mem ++ [.sl t l]) (L.set q .none ++ [.own E1 (z t) v' l.length cs]) (kil (Nat.beq q) a) v := fun a v ha => AVR.stp hs (Nat.beq q) (fun r hr => kp_kil hr h.m.len) ha
  have hSR : SR P e F w0 w' (addM (.sl t l) (kilS q s)) vs (L.set q .none ++ [.own E1 (z t) v' l.length cs]) := by
    show SR P e F w0 w' ⟨(s.map (kil (Nat.beq q))).fr, (kilS q s).mem ++ [.sl t l]⟩ vs (L.set q .none ++ [.own E1 (z t) v' l.length cs])
    refine SR.upd h (kil (Nat.beq q)) rfl (fun _ _ => rfl) hA hs mo2 (by rw [List.length_append, List.length_append, hlen, List.length_set, h.m.len]; rfl) (fun i c p hc hp => ?_)
    rcases get_app hc with hc | ⟨e1, rfl⟩
    · rcases get_app hp with hp | ⟨e2, _⟩
      · rcases get_set hc with ⟨rfl, rfl⟩ | ⟨h3, h4⟩
        · rcases get_set hp with ⟨_, rfl⟩ | ⟨h5, _⟩
          · exact .inr rfl
          · exact absurd rfl h5
        · rcases get_set hp with ⟨h5, _⟩ | ⟨_, h6⟩
          · exact absurd h5 h3
          · obtain ⟨c0, h7, h8⟩ := gm h4
            exact .inl ⟨c0, h7, h6, h8⟩
      · have := (List.getElem?_eq_some_iff.1 hc).1
        rw [hlen] at this
        rw [List.length_set] at e2
        have := h.m.len
        omega
    · rcases get_app hp with hp | ⟨_, rfl⟩
      · have := (List.getElem?_eq_some_iff.1 hp).1
        rw [List.length_set] at this
        rw [hlen] at e1
        have := h.m.len
        omega
      · exact .inr ⟨E1, v', cs, rfl, hz, hE, hr.stp (SF.stp hs)⟩
  refine ⟨L.set q .none ++ [.own E1 (z t) v' l.length cs], hSR, hs, ?_, fun i g T cs hi hLi => ?_, fun i ts fs hi hm => ?_⟩
  · refine ⟨E1, z t, l.length, cs, ?_⟩
    rw [← h.m.len, List.getElem?_append_right (by rw [List.length_set]; exact Nat.le_refl _), List.length_set, Nat.sub_self]; rfl
  · exact ⟨cs, by rw [List.getElem?_append_left (by rw [List.length_set]; exact (List.getElem?_eq_some_iff.1 hLi).1), List.getElem?_set_ne (fun e => hi e.symm)]; exact hLi⟩
  · have := (kp_kil (q := q) (r := i) (q1 := .none) (q2 := .none) (c := .sl t l) (nbeq'.2 (fun e => hi e.symm)) h.m.len).2.2.1 ts fs hm
    exact this
theorem append_r {K : St → SV → Option β} (h : SR P e F w0 w s vs L) {T ty E : TypeId} {t : Ty} (hT : P.underlying T = some (.slice E)) (hE : EF P E t) (hz : 0 < z t) {a : AV} {v u : Value} {ys : List (D t)} (ha : AVR F w s.mem L a v) (hy : Rd F w L t u ys) (hk : appA s t a ys K = some r) :
    ∃ s' sv w' L' v', K s' sv = some r ∧ (Builtin.append_ #[T, T] ty #[v, u]).run P w = .ok v' w' ∧ SR P e F w0 w' s' vs L' ∧ Stp w L w' L' ∧ Ext s.mem L s'.mem L' ∧ SVR F w' s'.mem L' sv v' := by
  obtain ⟨ao, cap, cs, rfl, c1, c2, c3', hr⟩ := hy
  have c3 : ∀ a, ao = some a → ∀ j u, cs[j]? = some u → w.cell? (a.add j) = some u := fun a ha j u hu => (c3' a ha j u hu).1
  have hds := hr.len
  unfold appA at hk
  split at hk
  · replace hk := guard_some hk
    obtain ⟨h1, hk⟩ := hk
    rw [show v = _ from ha]
    obtain ⟨v', w', E1, g1, g2, g3, g4, g5⟩ := app_own (P := P) (base := w.heap.size) (ty := ty) hT hE hE hz (World.ownsRow_nil w w.heap.size E (z t)) c1 c2 hds c3 hr.one (by rw [Nat.zero_add]; exact Nat.le_of_ble_eq_true h1) (Nat.le_refl _)
    rw [Nat.zero_add, List.nil_append] at g2
    have hb : Below w.heap.size w w' := ⟨g4.os, g4.tape, g4.output, g4.size, fun k hk => g4.block k hk (by intro e; cases e)⟩
    obtain ⟨L', h2, h3, h4, h5⟩ := new_sl h g3 hz hr hb g2
    exact ⟨_, _, w', L', v', hk, g1, h2, h3, h4, h5⟩
  · rename_i q
    split at hk
    · rename_i u0 l0 hm
      replace hk := bnd_some hk
      obtain ⟨l, h1, hk⟩ := hk
      replace hk := guard_some hk
      obtain ⟨h2, hk⟩ := hk
      obtain ⟨E0, zz, n, xs, hL⟩ := ha
      obtain ⟨rfl, rfl, hr0, hE0, _, _⟩ := own_rd h.m hL hm
      obtain ⟨e1, e2⟩ := cast_eq h1
      injection e1 with e1
      subst e1
      obtain rfl : l0 = l := e2
      obtain ⟨v', w', E1, g1, g2, g3, g4, g5⟩ := app_own (P := P) (ty := ty) hT hE hE0 hz (h.m.mo.ok q _ hL) c1 c2 hds c3 hr.one (Nat.le_of_ble_eq_true h2) h.m.mo.size
      obtain ⟨L', f1, f2, f3, f4, f5⟩ := h.grow (l := l0 ++ ys) hL hz g3 (hr0.app hr) (by rw [List.length_append]; exact g2) g4 g5
      refine ⟨_, _, w', L', v', hk, g1, f1, f2, ⟨fun i g T' cs' hi => ?_, fun i ts fs hi => ?_⟩, f3⟩
      · exact f4 i g T' cs' (fun e => by subst e; rw [hL] at hi; cases hi) hi
      · exact f5 i ts fs (fun e => by subst e; rw [hm] at hi; cases hi) hi
    · cases hk
  · rename_i q lo hi
    split at hk
    · rename_i u0 l0 hm
      replace hk := bnd_some hk
      obtain ⟨l, h1, hk⟩ := hk
      replace hk := guard_some hk
      obtain ⟨h2, hk⟩ := hk
      obtain ⟨E0, zz, v0, n, xs, hL, hv, l1, l2⟩ := ha
      obtain ⟨rfl, rfl, hr0, hE0, _, _⟩ := own_rd h.m hL hm
      obtain ⟨e1, e2⟩ := cast_eq h1
      injection e1 with e1
      subst e1
      obtain rfl : l0 = l := e2
      have hown := h.m.mo.ok q _ hL
      have hown2 : w.ownsRow w0.heap.size E0 (z u0) v hi (xs.take (hi * z u0)) ∧ v.ownBlock = v0.ownBlock := by
        have hlen : (xs.take (hi * z u0)).length = hi * z u0 := by
          rw [List.length_take, hown.1]
          have := Nat.mul_le_mul_right (z u0) l2
          omega
        rcases hown.2 with ⟨hv0, h0⟩ | ⟨g, cap', cur, hv0, hb, hg, hnc, hcm, hcs, htake⟩
        · have e0 : hi = 0 := by omega
          subst e0
          refine ⟨⟨hlen, .inl ⟨by rw [hv, hv0]; simp [sV], rfl⟩⟩, by rw [hv, hv0]; simp [sV]⟩
        · have e3 : v = .slice (some ⟨g, 0, none⟩) hi cap' := by
            rw [hv, hv0]
            show Value.slice (if cap' = 0 then some ⟨g, 0, none⟩ else (some (⟨g, 0, none⟩ : Addr)).map (·.add (0 * z u0))) (hi - 0) (cap' - 0) = _
            have e4 : (if cap' = 0 then some ⟨g, 0, none⟩ else (some (⟨g, 0, none⟩ : Addr)).map (·.add (0 * z u0))) = some ⟨g, 0, none⟩ := by
              split
              · rfl
              · simp [Addr.add]
            rw [e4, Nat.sub_zero, Nat.sub_zero]
          refine ⟨⟨hlen, .inr ⟨g, cap', cur, e3, hb, hg, by omega, hcm, hcs, ?_⟩⟩, by rw [e3, hv0]; rfl⟩
          rw [← htake, List.take_take]
          congr 1
          have := Nat.mul_le_mul_right (z u0) l2
          omega
      obtain ⟨v', w', E1, g1, g2, g3, g4, g5⟩ := app_own (P := P) (ty := ty) hT hE hE0 hz hown2.1 c1 c2 hds c3 hr.one (Nat.le_of_ble_eq_true h2) h.m.mo.size
      rw [hown2.2] at g4 g5
      have hlen2 : (l0.take hi).length = hi := by simp; omega
      obtain ⟨L', f1, f2, f3, f4, f5⟩ := h.grow (l := l0.take hi ++ ys) hL hz g3 ((hr0.take hi).app hr) (by rw [List.length_append, hlen2]; exact g2) g4 g5
      refine ⟨_, _, w', L', v', hk, g1, f1, f2, ⟨fun i g T' cs' hi => ?_, fun i ts fs hi => ?_⟩, f3⟩
      · exact f4 i g T' cs' (fun e => by subst e; rw [hL] at hi; cases hi) hi
      · exact f5 i ts fs (fun e => by subst e; rw [hm] at hi; cases hi) hi
    · cases hk
  · cases hk
end
end Go.Proofs.Ytpfoeeiacfadfaa.Q
/-
  A slice of one's own that is only read from now on; make, literals, texts and bytes.
-/
namespace Go.Proofs.Ytpfoeeiacfadfaa.Q
open Go.RowKit

section
variable {P : Program} {e : Env} {F : Nat → Prop} {w0 w w' : World} {L : List Res} {s : St} {vs : List (Nat × Value)} {β : Type} {r : β} {o : Oper}
theorem kp_fz {f : AV → AV} {q : Nat} {r : Nat} (hr : Nat.beq r q = false) : Kp s.mem L ((s.map f).mem.set q .gone) (L.set q .none) r := by
  have hne := nbeq'.1 hr
  have h1 : ∀ {x : Res}, L[r]? = some x → (L.set q .none)[r]? = some x := fun h => by rw [List.getElem?_set_ne (fun e => hne e.symm)]; exact h
  have h2 : ∀ {x : Cn}, s.mem[r]? = some x → ((s.map f).mem.set q .gone)[r]? = some (cnm f x) := fun {x} h => by
    have h3 : (s.map f).mem[r]? = some (cnm f x) := by
      show (s.mem.map _)[r]? = _
      rw [List.getElem?_map, h]; rfl
    rw [List.getElem?_set_ne (fun e => hne e.symm)]; exact h3
  exact ⟨fun _ _ cs h => ⟨cs, h1 h⟩, fun _ _ _ _ cs h => ⟨cs, h1 h⟩, fun _ fs h => ⟨_, h2 h⟩, fun _ l h => ⟨l, h2 h⟩⟩
theorem fz_a (h : SR P e F w0 w s vs L) {q : Nat} {t : Ty} {l : List (D t)} (hm : s.mem[q]? = some (.sl t l)) {a : AV} {v : Value} (ha : AVR F w s.mem L a v) : AVR F w ((s.map (fzA q t l)).mem.set q .gone) (L.set q .none) (fzA q t l a) v := by
  obtain ⟨hd, hs⟩ := h.m.mo.drop q
  have hq := (List.getElem?_eq_some_iff.1 hm).1
  obtain ⟨q0, hL0⟩ : ∃ q0, L[q]? = some q0 := ⟨_, List.getElem?_eq_getElem (by rw [h.m.len]; exact hq)⟩
  obtain ⟨E, v0, cs, rfl, hz, hE, hr⟩ := h.m.cn q _ _ hm hL0
  have hr' := hr.stp (SF.stp (F := F) hs)
  obtain ⟨_, _, _, _, _, hown⟩ := own_rd h.m hL0 hm
  have hblk : ∀ g, v0.ownBlock = some g → SF F (L.set q .none) w g := fun g hg => by
    have hlt := ((h.m.mo.ok q _ hL0).blk g hg).2
    refine ⟨⟨hlt, fun x hx e => ?_⟩, fun hF => (h.m.fz g hF).2 _ (List.mem_of_getElem? hL0) hg⟩
    rcases mem_set' hx with rfl | ⟨j, hj, hx⟩
    · cases e
    · exact h.m.mo.ap j q x _ g hj hx hL0 e hg
  have gen : ∀ (b : AV), kil (fun j => Nat.beq j q) a = b → AVR F w ((s.map (fzA q t l)).mem.set q .gone) (L.set q .none) b v := fun b hb => by
    rw [← hb]
    exact AVR.stp hs (fun j => Nat.beq j q) (fun r hr => kp_fz hr) ha
  have own' : ∀ {ao : Option Addr} {cap : Nat}, v0 = .slice ao l.length cap → l.length ≤ cap ∧ (ao = none → cap = 0) ∧ (∀ a, ao = some a → ∀ j u, cs[j]? = some u → w.cell? (a.add j) = some u ∧ SF F (L.set q .none) w a.block) := fun {ao cap} hv => by
    rcases hown with ⟨hv0, h0⟩ | ⟨g, cap', hv0, hc, _, hcell⟩
    · rw [hv0] at hv
      injection hv with e1 e2 e3
      subst e1 e3
      exact ⟨by omega, fun _ => rfl, fun a ha => by cases ha⟩
    · rw [hv0] at hv
      injection hv with e1 e2 e3
      subst e1 e3
      exact ⟨hc, fun e => (by cases e), fun a ha j u hu => by
        obtain rfl := Option.some.inj ha
        exact ⟨hcell j u hu, hblk g (by rw [hv0]; rfl)⟩⟩
  obtain ⟨ao, cap, hv0⟩ : ∃ ao cap, v0 = .slice ao l.length cap := by
    rcases hown with ⟨hv0, h0⟩ | ⟨g, cap', hv0, _⟩
    · exact ⟨none, 0, by rw [hv0, h0]⟩
    · exact ⟨_, _, hv0⟩
  obtain ⟨o1, o2, o3⟩ := own' hv0
  cases a with
  | own j =>
    show AVR _ _ _ _ (match Nat.beq j q with | true => .dat (.sl t) l | false => .own j) v
    cases hb : Nat.beq j q with
    | false => exact gen _ (by simp only [kil, hb])
    | true =>
      obtain rfl := nbeq.1 hb
      obtain ⟨E', zz, n, cs', hL⟩ := ha
      rw [hL0] at hL
      injection hL with hL
      injection hL with _ _ e3 _ _
      subst e3
      rw [hv0]
      exact ⟨[.slice ao l.length cap], rfl, ao, cap, cs, rfl, o1, o2, o3, hr'⟩
  | view j lo hi =>
    show AVR _ _ _ _ (match Nat.beq j q with | true => .dat (.sl t) ((l.take hi).drop lo) | false => .view j lo hi) v
    cases hb : Nat.beq j q with
    | false => exact gen _ (by simp only [kil, hb])
    | true =>
      obtain rfl := nbeq.1 hb
      obtain ⟨E', zz, u, n, cs', hL, hv, l1, l2⟩ := ha
      rw [hL0] at hL
      injection hL with hL
      injection hL with _ e2 e3 e4 _
      subst e2 e3 e4
      rw [hv, hv0]
      exact sl_dat (s := ⟨s.fr, (s.map (fzA j t l)).mem.set j .gone⟩) o1 o2 o3 hr' l1 l2
  | eptr j i p =>
    show AVR _ _ _ _ (match Nat.beq j q with | true => .undef | false => .eptr j i p) v
    cases hb : Nat.beq j q with
    | false => exact gen _ (by simp only [kil, hb])
    | true => trivial
  | ptr j k p =>
    cases hb : Nat.beq j q with
    | false => exact gen _ (by simp only [kil, hb]; rfl)
    | true =>
      obtain rfl := nbeq.1 hb
      cases k with
      | none => obtain ⟨_, g, T, cs', hL, _⟩ := ha; rw [hL0] at hL; cases hL
      | some k => obtain ⟨g, T, cs', ts, fs, t', hL, _⟩ := ha; rw [hL0] at hL; cases hL
  | aview j k p lo hi =>
    cases hb : Nat.beq j q with
    | false => exact gen _ (by simp only [kil, hb]; rfl)
    | true =>
      obtain rfl := nbeq.1 hb
      obtain ⟨g, T, cs', ts, fs, t', n, te, hL, _⟩ := ha
      rw [hL0] at hL; cases hL
  | undef => trivial
  | dat u x => exact gen _ rfl
  | nil => exact gen _ rfl
  | rptr u x => exact gen _ rfl
  | fn f => exact gen _ rfl
theorem fz1_r (h : SR P e F w0 w s vs L) (q : Nat) : ∃ L', SR P e F w0 w (fz1 q s) vs L' ∧ Stp w L w L' ∧ Ext s.mem L (fz1 q s).mem L' := by
  unfold fz1
  split
  · rename_i t l hm
    obtain ⟨hd, hs⟩ := h.m.mo.drop q
    have hq := (List.getElem?_eq_some_iff.1 hm).1
    obtain ⟨q0, hL0⟩ : ∃ q0, L[q]? = some q0 := ⟨_, List.getElem?_eq_getElem (by rw [h.m.len]; exact hq)⟩
    obtain ⟨E, v0, cs, rfl, hz, hE, hr⟩ := h.m.cn q _ _ hm hL0
    refine ⟨L.set q .none, SR.upd h (fzA q t l) rfl (fun _ _ => rfl) (fun a v ha => fz_a h hm ha) hs hd ?_ (fun i c p hc hp => ?_), hs, ⟨fun i g T cs' hi => ?_, fun i ts fs hi => ?_⟩⟩
    · rw [List.length_set, List.length_set, h.m.len]; exact (List.length_map _).symm
    · rcases get_set hc with ⟨rfl, rfl⟩ | ⟨h3, h4⟩
      · rcases get_set hp with ⟨_, rfl⟩ | ⟨h5, _⟩
        · exact .inr rfl
        · exact absurd rfl h5
      · rcases get_set hp with ⟨h5, _⟩ | ⟨_, h6⟩
        · exact absurd h5 h3
        · obtain ⟨c0, h7, h8⟩ := gm h4
          exact .inl ⟨c0, h7, h6, h8⟩
    · have hne : q ≠ i := fun e => by subst e; rw [hL0] at hi; cases hi
      exact ⟨cs', by rw [List.getElem?_set_ne hne]; exact hi⟩
    · have hne : q ≠ i := fun e => by subst e; rw [hm] at hi; cases hi
      refine ⟨fs.map (fzA q t l), ?_⟩
      show ((s.mem.map (cnm (fzA q t l))).set q Cn.gone)[i]? = _
      rw [List.getElem?_set_ne hne, List.getElem?_map, hi]; rfl
  · exact ⟨L, h, Stp.refl _ _, Ext.refl _ _⟩
theorem fzL_r : ∀ (rs : List Nat) {s : St} {L : List Res}, SR P e F w0 w s vs L → ∃ L', SR P e F w0 w (fzL rs s) vs L' ∧ Stp w L w L' ∧ Ext s.mem L (fzL rs s).mem L'
  | [], s, L, h => ⟨L, h, Stp.refl _ _, Ext.refl _ _⟩
  | q :: rs, s, L, h => by
    obtain ⟨L1, h1, h2, h3⟩ := fz1_r h q
    obtain ⟨L2, h4, h5, h6⟩ := fzL_r rs h1
    exact ⟨L2, h4, h2.trans h5, h3.trans h6⟩
theorem make_r (h : SR P e F w0 w s vs L) {T E : TypeId} {t : Ty} (hT : P.underlying T = some (.slice E)) (hE : EF P E t) (hz : 0 < z t) (hp : plain t = true) (jl jc : IntKind) {l c : Int} (h0 : 0 ≤ c) (hc : c.toNat ≤ maxN) (hl : l = c ∨ l = 0) :
    ∃ w' L' u, (Instr.makeSlice T (.int jl l) (.int jc c)).run P w = .ok u w' ∧ SR P e F w0 w' (addM (.sl t (List.replicate l.toNat (zv t))) s) vs L' ∧ Stp w L w' L' ∧ Ext s.mem L (addM (.sl t (List.replicate l.toNat (zv t))) s).mem L' ∧ AVR F w' (addM (.sl t (List.replicate l.toNat (zv t))) s).mem L' (.own s.mem.length) u ∧ Below w.heap.size w w' := by
  obtain ⟨i, hi, hs, hz0, hby⟩ := hE.info
  have hc' : c.toNat ≤ 1073741824 := hc
  have h1 : i.bytes * c.toNat ≤ 1024 * 1073741824 := Nat.mul_le_mul hby hc'
  have hm : c.toNat ≤ maxLen := by unfold maxLen; omega
  have ec : c = ((c.toNat : Nat) : Int) := by omega
  rcases hl with rfl | rfl
  · obtain ⟨w', hr, g1, g2⟩ := run_make_full (P := P) w w.heap.size T E i _ (z t) hT hi hz0 hs jl jc l.toNat (by omega) hm (Nat.le_refl _)
    have hb : Below w.heap.size w w' := ⟨g2.os, g2.tape, g2.output, g2.size, fun k hk => g2.block k hk (by intro e; cases e)⟩
    have hlen : (List.replicate l.toNat (zv t)).length = l.toNat := List.length_replicate
    obtain ⟨L', f1, f2, f3, f4⟩ := new_sl (l := List.replicate l.toNat (zv t)) h hE hz (made_rl hz hp l.toNat) hb (by rw [hlen]; exact g1)
    exact ⟨w', L', _, by rw [← ec] at hr; exact hr, f1, f2, f3, f4, hb⟩
  · obtain ⟨w', hr, g1, g2⟩ := run_make_own (P := P) w w.heap.size T E i _ (z t) hT hi hz0 hs jl jc c.toNat (by omega) hm (Nat.le_refl _)
    have hb : Below w.heap.size w w' := ⟨g2.os, g2.tape, g2.output, g2.size, fun k hk => g2.block k hk (by intro e; cases e)⟩
    obtain ⟨L', f1, f2, f3, f4⟩ := new_sl (l := []) h hE hz (RL.nil t) hb g1
    exact ⟨w', L', _, by rw [← ec] at hr; exact hr, f1, f2, f3, f4, hb⟩
/-- string(b) -/
theorem b2s_r {T E S : TypeId} (hT : P.underlying T = some (.slice E)) (hE : P.underlying E = some (.int .u8)) (hS : P.underlying S = some .string) {v : Value} {l : List UInt8} (hy : Rd F w L (.int .u8) v l) : (convert T S v).run P w = .ok (.string ⟨l.toArray⟩) w := by
  obtain ⟨ao, cap, cs, rfl, c1, c2, c3', hr⟩ := hy
  have c3 : ∀ a, ao = some a → ∀ j u, cs[j]? = some u → w.cell? (a.add j) = some u := fun a ha j u hu => (c3' a ha j u hu).1
  show (convert T S (.slice ao (List.length (α := UInt8) l) cap)).run P w = _
  rw [run_convert_bytes_string (P := P) w T S E ao l.length cap hT hE hS]
  have hcs : ∀ (l : List UInt8) (cs : List Value), RL (SF F L w) w (.int .u8) cs l → cs = l.map fun c => Value.int .u8 ((c.toNat : Nat) : Int) := by
    intro l cs ⟨css, h1, h2⟩
    subst h1
    induction l generalizing css with
    | nil => cases css with | nil => rfl | cons _ _ => exact h2.elim
    | cons c l ih => cases css with
      | nil => exact h2.elim
      | cons d css =>
        have hd : d = [.int .u8 ((c.toNat : Nat) : Int)] := h2.1
        rw [List.flatten_cons, hd, ih css h2.2]; rfl
  have fold : ∀ (l : List UInt8) (s : ByteArray), (l.map (fun c => (c.toNat : Int))).foldl (fun r n => r.push (UInt8.ofNat n.toNat)) s = ⟨s.data ++ l.toArray⟩ := by
    intro l
    induction l with
    | nil => intro s; simp
    | cons c l ih => intro s; simp only [List.map_cons, List.foldl_cons]; rw [ih]; simp [ByteArray.push]
  cases ao with
  | none =>
    have hc := c2 rfl
    have c1' : List.length (α := UInt8) l ≤ cap := c1
    obtain rfl : l = [] := List.eq_nil_of_length_eq_zero (by omega)
    simp [Conv.bytesToString, Sem.run_pure]
    rfl
  | some a =>
    have hl : (loadCells a l.length).run P w = .ok ((l.map (fun c => (c.toNat : Int))).map (Value.int .u8)).toArray w := by
      have := run_loadCells_list (P := P) w a cs (c3 a rfl)
      have hlen := hr.len
      rw [show z (.int .u8) = 1 from rfl, Nat.mul_one] at hlen
      rw [hlen, hcs l cs hr] at this
      refine (show (loadCells a (List.length (α := UInt8) l)).run P w = _ from this).trans ?_
      simp
    rw [run_bytesToString (P := P) w a l.length cap _ hl, fold]
    simp
end
end Go.Proofs.Ytpfoeeiacfadfaa.Q
/-
  []T{..}: all elements written out.
-/
namespace Go.Proofs.Ytpfoeeiacfadfaa.Q
open Go.RowKit

def bsD (t : Ty) : List AV → Option (List (D t))
  | [] => some []
  | a :: l => (match toD0 t a with
    | some x => (match bsD t l with
      | some y => some (x :: y)
      | none => none)
    | none => none)
def bsQ : Nat → List Nat → Bool
  | _, [] => true
  | n, k :: l => Nat.beq k n && bsQ (n + 1) l
section
variable {P : Program} {e : Env} {F : Nat → Prop} {w0 w w' : World} {L L' : List Res} {s : St} {vs : List (Nat × Value)}
theorem bsD_r {mem : List Cn} {t : Ty} : ∀ {as : List AV} {us : List Value} {xs : List (D t)}, bsD t as = some xs → All2 (AVR F w mem L) as us → ∃ css, us = css.map (mkV t) ∧ All2 (RC (SF F L w) w t) css xs
  | [], [], xs, h, _ => by obtain rfl := Option.some.inj h; exact ⟨[], rfl, trivial⟩
  | a :: as, u :: us, xs, h, ha => by
    unfold bsD at h
    split at h
    · rename_i x hx
      split at h
      · rename_i y hy
        obtain rfl := Option.some.inj h
        obtain ⟨cs, h1, h2⟩ := toD0_r hx ha.1
        obtain ⟨css, h3, h4⟩ := bsD_r hy ha.2
        exact ⟨cs :: css, by rw [h1, h3]; rfl, h2, h4⟩
      · cases h
    · cases h
  | [], _ :: _, _, _, h => h.elim
  | _ :: _, [], _, _, h => h.elim
theorem bsQ_r (ρ : Operand → Value) : ∀ {ps : List (Nat × Operand)} {n : Nat}, bsQ n (ps.map Prod.fst) = true → ps.map (fun p => (p.1, ρ p.2)) = ((ps.map fun p => ρ p.2).zipIdx n).map fun x => (x.2, x.1)
  | [], _, _ => rfl
  | p :: ps, n, h => by
    have h : (Nat.beq p.1 n && bsQ (n + 1) (ps.map Prod.fst)) = true := h
    rw [Bool.and_eq_true] at h
    rw [List.map_cons, List.map_cons, List.zipIdx_cons, List.map_cons, bsQ_r ρ h.2, nbeq.1 h.1]
theorem bs_cells {t : Ty} {S : Nat → Prop} : ∀ {css : List (List Value)} {xs : List (D t)}, All2 (RC S w t) css xs → ((css.map (mkV t)).flatMap fun v => v.cells.toList) = css.flatten ∧ (∀ u ∈ css.map (mkV t), u.cells.size = z t) ∧ css.flatten.length = css.length * z t
  | [], [], _ => ⟨rfl, fun _ h => by simp at h, by simp⟩
  | cs :: css, x :: xs, h => by
    obtain ⟨h1, h2, h3⟩ := bs_cells h.2
    have e := mkV_cells h.1.len h.1.one
    refine ⟨by rw [List.map_cons, List.flatMap_cons, h1, e]; rfl, fun u hu => ?_, ?_⟩
    · rw [List.map_cons] at hu
      rcases List.mem_cons.1 hu with rfl | hu
      · rw [e, List.size_toArray]; exact h.1.len
      · exact h2 u hu
    · rw [List.flatten_cons, List.length_append, h3, h.1.len, List.length_cons, Nat.add_mul]; omega
  | [], _ :: _, h => h.elim
  | _ :: _, [], h => h.elim
theorem build_r (h : SR P e F w0 w s vs L) {T E : TypeId} {t : Ty} (hT : P.underlying T = some (.slice E)) (hE : EF P E t) (hz : 0 < z t) {ps : Array (Nat × Operand)} (hq : bsQ 0 (ps.toList.map Prod.fst) = true) (hn : ps.size * z t ≤ 1000000) {xs : List (D t)} (hx : bsD t (ps.toList.map fun p => av e s p.2) = some xs) :
    ∃ w' L' u, (Instr.buildSlice T ps.size (ps.map fun (i, x) => (i, ev e.N vs x))).run P w = .ok u w' ∧ SR P e F w0 w' (addM (.sl t xs) s) vs L' ∧ Stp w L w' L' ∧ Ext s.mem L (addM (.sl t xs) s).mem L' ∧ AVR F w' (addM (.sl t xs) s).mem L' (.own s.mem.length) u ∧ Below w.heap.size w w' := by
  have hall : All2 (AVR F w s.mem L) (ps.toList.map fun p => av e s p.2) (ps.toList.map fun p => ev e.N vs p.2) := by
    generalize ps.toList = l
    induction l with
    | nil => exact trivial
    | cons p l ih => exact ⟨av_r h.f h.g p.2, ih⟩
  obtain ⟨css, h1, h2⟩ := bsD_r hx hall
  obtain ⟨c1, c2, c3⟩ := bs_cells h2
  have hp : (ps.map fun (i, x) => (i, ev e.N vs x)).toList = ((css.map (mkV t)).zipIdx 0).map fun x => (x.2, x.1) := by
    rw [Array.toList_map, ← h1]
    exact bsQ_r (ev e.N vs) hq
  have hlen : ps.size = (css.map (mkV t)).length := by rw [← h1, List.length_map, Array.length_toList]
  have hl2 : css.length = xs.length := All2.len h2
  have hln : ps.size = xs.length := by rw [hlen, List.length_map, hl2]
  obtain ⟨i, hi, hs, hz0, _⟩ := hE.info
  have hrun : (Instr.buildSlice T ps.size (ps.map fun (i, x) => (i, ev e.N vs x))).run P w = .ok (.slice (some ⟨w.heap.size, 0, none⟩) ps.size ps.size) (w.alloc (.cells css.flatten.toArray E)) := by
    by_cases h0 : ps.size = 0
    · have hpe : ps = #[] := Array.eq_empty_of_size_eq_zero h0
      have hce : css = [] := List.eq_nil_of_length_eq_zero (by omega)
      subst hpe hce
      have e0 : ∀ f : Nat → Value, (Array.range 0).map f = #[] := fun f => Array.eq_empty_of_size_eq_zero (by simp)
      simp [Instr.buildSlice, run_underlying hT, sizeOf, typeInfo, hi, Instr.fill, newRow, e0]
    · rw [← c1]
      refine run_buildSlice w T E ps.size _ _ i _ hT hi hz0 (by rw [hs]; omega) (by rw [hs]; exact Nat.ne_of_gt (Nat.mul_pos (Nat.pos_of_ne_zero h0) hz)) ?_
      rw [hp, hs]
      exact Great.fill_whole hz _ _ c2 (by simp [← hlen])
  have hmx : ps.size ≤ maxLen := by
    have := Nat.mul_le_mul_left ps.size hz
    unfold maxLen; omega
  obtain ⟨L', f1, f2, f3, f4⟩ := new_sl (l := xs) (cs := css.flatten) (v := .slice (some ⟨w.heap.size, 0, none⟩) ps.size ps.size) h hE hz ⟨css, rfl, h2⟩ (w' := w.alloc (.cells css.flatten.toArray E)) ((Below.refl _ _).alloc (Nat.le_refl _) _)
    ⟨by rw [c3, hl2], .inr ⟨w.heap.size, ps.size, _, by rw [hln], Nat.le_refl _, heap_alloc_new w _, by omega, hmx, by simpa [hln, hl2] using c3, by rw [← hl2, ← c3]; exact List.take_of_length_le (Nat.le_refl _)⟩⟩
  exact ⟨_, L', _, hrun, f1, f2, f3, f4, (Below.refl _ _).alloc (Nat.le_refl _) _⟩
end
end Go.Proofs.Ytpfoeeiacfadfaa.Q
