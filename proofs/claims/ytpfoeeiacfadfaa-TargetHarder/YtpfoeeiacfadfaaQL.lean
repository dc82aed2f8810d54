/-
  Numbers of 256 bits as data: contracts in plain numbers become contracts of the reckoner.
  Conditions: none of any program.
-/
import Derived.Test.YtpfoeeiacfadfaaQC
import Derived.Test.YtpfoeeiacfadfaaWdZ
namespace Go.Proofs.Ytpfoeeiacfadfaa.Q
open Go.RowKit

/-- api.Wide, in words. -/
def wl (n : Nat) : List UInt64 := (w4 n).map UInt64.ofNat
def val (l : List UInt64) : Nat := v4 (l.map UInt64.toNat)
def B64 : Nat := 18446744073709551616
theorem wl_eq (n : Nat) : wl n = [UInt64.ofNat (n % 18446744073709551616), UInt64.ofNat (n / 18446744073709551616 % 18446744073709551616), UInt64.ofNat (n / 18446744073709551616 / 18446744073709551616 % 18446744073709551616), UInt64.ofNat (n / 18446744073709551616 / 18446744073709551616 / 18446744073709551616 % 18446744073709551616)] := by
  unfold wl; rw [w4_eq]; rfl
theorem wl_len (n : Nat) : (wl n).length = 4 := by rw [wl_eq]; rfl
theorem un (n : Nat) (h : n < 18446744073709551616) : (UInt64.ofNat n).toNat = n := by
  rw [UInt64.toNat_ofNat']; exact Nat.mod_eq_of_lt h
theorem ut (a : UInt64) : a.toNat < 18446744073709551616 := a.toNat_lt
theorem len4 {α : Type} {l : List α} (h : l.length = 4) : ∃ a b c d, l = [a, b, c, d] := by
  match l, h with
  | [a, b, c, d], _ => exact ⟨a, b, c, d, rfl⟩
theorem val_lt {l : List UInt64} (h : l.length = 4) : val l < M := by
  obtain ⟨a, b, c, d, rfl⟩ := len4 h
  exact v4_lt _ _ _ _ (ut a) (ut b) (ut c) (ut d)
theorem w4_val {l : List UInt64} (h : l.length = 4) : w4 (val l) = l.map UInt64.toNat := by
  obtain ⟨a, b, c, d, rfl⟩ := len4 h
  exact w4_of _ _ _ _ (ut a) (ut b) (ut c) (ut d)
theorem wl_val {l : List UInt64} (h : l.length = 4) : wl (val l) = l := by
  unfold wl; rw [w4_val h, List.map_map]
  have : (UInt64.ofNat ∘ UInt64.toNat) = id := by funext x; simp
  rw [this, List.map_id]
theorem map_wl (n : Nat) : (wl n).map UInt64.toNat = w4 n := by
  rw [wl_eq, w4_eq]
  simp only [List.map_cons, List.map_nil]
  rw [un _ (Nat.mod_lt _ (by decide)), un _ (Nat.mod_lt _ (by decide)), un _ (Nat.mod_lt _ (by decide)), un _ (Nat.mod_lt _ (by decide))]
theorem val_wl {n : Nat} (h : n < M) : val (wl n) = n := by unfold val; rw [map_wl, v4_w4 n h]
theorem wl_inj {a b : Nat} (ha : a < M) (hb : b < M) : wl a = wl b ↔ a = b :=
  ⟨fun h => by have := congrArg val h; rwa [val_wl ha, val_wl hb] at this, fun h => h ▸ rfl⟩
/-- The cells of a row of words. -/
theorem rc_words {S : Nat → Prop} {w : World} : ∀ {css : List (List Value)} {x : List UInt64}, All2 (RC S w (.int .u64)) css x → css.flatten = x.map fun u => Value.int .u64 (u.toNat : Int)
  | [], [], _ => rfl
  | c :: css, u :: x, h => by
    rw [List.flatten_cons, rc_words h.2, show c = [.int .u64 (u.toNat : Int)] from h.1]; rfl
  | [], _ :: _, h => h.elim
  | _ :: _, [], h => h.elim
theorem words_rc {S : Nat → Prop} {w : World} : ∀ (x : List UInt64), All2 (RC S w (.int .u64)) (x.map fun u => [Value.int .u64 (u.toNat : Int)]) x
  | [] => trivial
  | _ :: x => ⟨rfl, words_rc x⟩
section
variable {F : Nat → Prop} {w : World} {mem : List Cn} {L : List Res} {v : Value}
def wvQ (n : Nat) : Value := .agg ((w4 n).map fun k => Value.int .u64 ((k : Nat) : Int)).toArray
theorem avr_w {x : List UInt64} (h : AVR F w mem L (.dat (.arr 4 (.int .u64)) x) v) : x.length = 4 ∧ v = wvQ (val x) := by
  obtain ⟨cs, hv, hl, css, rfl, hc⟩ := h
  refine ⟨hl, ?_⟩
  rw [hv, rc_words hc]
  unfold wvQ
  rw [w4_val hl, List.map_map]; rfl
theorem w_avr (n : Nat) : AVR F w mem L (.dat (.arr 4 (.int .u64)) (wl n)) (wvQ n) := by
  refine ⟨_, ?_, wl_len n, _, rfl, words_rc (wl n)⟩
  have e : ((wl n).map fun u => [Value.int .u64 (u.toNat : Int)]).flatten = (w4 n).map fun k => Value.int .u64 ((k : Nat) : Int) := by
    rw [← map_wl n]
    generalize wl n = l
    induction l with
    | nil => rfl
    | cons a l ih => simp only [List.map_cons, List.flatten_cons, ih]; rfl
  rw [e]; rfl
theorem avr_i {k : IntKind} {x : IK k} (h : AVR F w mem L (.dat (.int k) x) v) : v = .int k (toI k x) := by
  obtain ⟨cs, hv, hc⟩ := h
  rw [hv, show cs = _ from hc]; rfl
theorem i_avr {k : IntKind} (x : IK k) : AVR F w mem L (.dat (.int k) x) (.int k (toI k x)) := ⟨_, rfl, rfl⟩
theorem u_avr {n : Nat} (h : n < 18446744073709551616) : AVR F w mem L (.dat (.int .u64) (UInt64.ofNat n)) (.int .u64 (n : Int)) := by
  have := i_avr (F := F) (w := w) (mem := mem) (L := L) (k := .u64) (UInt64.ofNat n)
  rwa [show toI .u64 (UInt64.ofNat n) = ((n : Nat) : Int) by show (((UInt64.ofNat n).toNat : Nat) : Int) = _; rw [un n h]] at this
end
section
variable {F : Nat → Prop} {w : World} {v : Value}
theorem a1w {x : List UInt64} (h : Arg1 F w (.d (.arr 4 (.int .u64))) x v) : x.length = 4 ∧ v = wvQ (val x) := avr_w (mem := []) (L := []) h
theorem a1i {k : IntKind} {x : IK k} (h : Arg1 F w (.d (.int k)) x v) : v = .int k (toI k x) := avr_i (mem := []) (L := []) h
theorem r_w (n : Nat) : AVR F w [] [] (.dat (.arr 4 (.int .u64)) (wl n)) (wvQ n) := w_avr n
theorem r_u {n : Nat} (h : n < 18446744073709551616) : AVR F w [] [] (.dat (.int .u64) (UInt64.ofNat n)) (.int .u64 (n : Int)) := u_avr h
theorem r_i {k : IntKind} (x : IK k) : AVR F w [] [] (.dat (.int k) x) (.int k (toI k x)) := i_avr x
end
section
variable {P : Program} {f : FuncId} {hd : Hd}
/-- A contract in the old form, of a function that tells data alone. -/
theorem fn_of (hgo : isGo P f = true) (hfl : hd.rks.all flatK = true) (h : ∀ (F : Nat → Prop) (w : World) (d : Dat hd.pks) (y : Dat hd.rks) (vs : List Value), hd.fm d = some y → ArgR F w hd.pks d vs →
    Calls P f vs.toArray w fun en w' => ∃ v, en = .returned v ∧ Below w.heap.size w w' ∧ SVR F w' [] [] (svOf (resL 0 hd.rks y).1) v) : FnOk P f hd := by
  refine .inl ⟨hgo, fun F w0 w d y vs hf ha m0 => (h F w d y vs hf ha).mono ?_⟩
  rintro en w' ⟨v, rfl, hb, hs⟩
  have e0 := (flat_res (w' := w') (F1 := F) (F2 := F) (M1 := []) (M2 := []) (L1 := []) (L2 := []) (ks := hd.rks) (y := y) (n := 0) (m := 0) hfl).1
  obtain ⟨m', s'⟩ := m0.gr hb
  exact ⟨[], v, rfl, by rw [e0]; exact m', s', by rw [e0]; exact hs⟩
/-- A law's function: it says that the statement holds, and leaves all as it was. -/
theorem law_of {ks : List PK} {m : Dat ks → Option Bool} (h : FnG P f ⟨ks, [.d .bool], m⟩) {d : Dat ks} (hm : m d = some true) {vs : List Value} {w : World} (ha : ArgR (fun _ => False) w ks d vs) :
    Calls P f vs.toArray w fun e w' => e = .returned (.bool true) ∧ Below w.heap.size w w' := by
  have m0 : MR P (fun _ => False) w w [] [] := ⟨⟨Below.refl _ _, fun i r hi => by simp at hi, fun i j a b g _ hi => by simp at hi⟩, rfl, fun r c q hc => by simp at hc, fun g hg => hg.elim⟩
  refine (h.2 (fun _ => False) w w d true vs hm ha m0).mono ?_
  rintro en w' ⟨L', v, rfl, m', hs, hv⟩
  have hb := (avr_bool (F := fun _ => False) (w := w') (mem := []) (L := L')).1 hv
  exact ⟨by rw [hb], m'.mo.below⟩
end
end Go.Proofs.Ytpfoeeiacfadfaa.Q
