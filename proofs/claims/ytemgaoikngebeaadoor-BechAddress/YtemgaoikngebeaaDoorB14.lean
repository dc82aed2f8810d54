/-
  Contracts of package bech: the parts of a script, and a script of its parts.
-/
import Derived.Test.YtemgaoikngebeaaDoorB13
import Derived.Test.YtemgaoikngebeaaDoorAdr
namespace Go.Proofs.YtemgaoikngebeaaDoor
open Go.RowKit

/-- v[k:], as a region spells it. -/
theorem Rd.dropIf {B : Nat} {w : World} {ao : Option Addr} {cap k : Nat} {l : List UInt8} (h : Rd B w (.slice ao l.length cap) l) (hk : k ≤ l.length) :
    Rd B w (.slice (if cap = k then ao else Option.map (fun x => x.add k) ao) (l.length - k) (cap - k)) (l.drop k) := by
  have := Rd.sliced h hk (Nat.le_refl _)
  simpa [Go.sliced] using this
/-- []byte{..}: the call's own. -/
theorem Own.lit (E : TypeId) (base : Nat) (w : World) (l : List UInt8) (cs : Array Value) (hcs : cs = (cellsOf l).toArray) (n : Nat) (hn : n = l.length) (h : n ≤ 1000) (hb : base ≤ w.heap.size) :
    Own E base (w.alloc (.cells cs E)) (.slice (some ⟨w.heap.size, 0, none⟩) n n) l := by
  subst hcs hn
  have := World.ownsRow_lit (base := base) (e := E) (size := 1) w (cellsOf l).toArray l.length hb (by unfold maxLen; omega) (by simp [cellsOf])
  exact this

def prOk (n : Nat) : Bool := decide (2 ≤ n) && decide (n ≤ 40)
set_option maxHeartbeats 400000 in
theorem isProgram_any (w : World) (ao : Option Addr) (n cap : Nat) (hn : n ≤ 1000000) :
    Calls Tryd.prog 38 #[.slice ao n cap] w fun e w' => e = .returned (.bool (prOk n)) ∧ w' = w := by
  by_cases h1 : 2 ≤ n
  · have HE : Hid (prOk n = decide ((n : Int) ≤ 40)) := by show _ = _; rw [prOk, Bool.eq_iff_iff]; simp; omega
    go_enter Tryd.func38, Tryd.ntmps38
    go_wp2
    go_ret
    rw [HE.out]; exact ⟨rfl, rfl⟩
  · have HE : Hid (prOk n = false) := by show _ = _; simp [prOk, h1]
    go_enter Tryd.func38, Tryd.ntmps38
    go_wp2
    go_ret
    rw [HE.out]; exact ⟨rfl, rfl⟩
theorem isProgram_r (w : World) (ao : Option Addr) (n cap : Nat) (hn : n ≤ 1000000) (b : Bool) (hb : prOk n = b) :
    Calls Tryd.prog 38 #[.slice ao n cap] w fun e w' => e = .returned (.bool b) ∧ w' = w := by
  subst hb; exact isProgram_any w ao n cap hn

set_option maxHeartbeats 400000 in
theorem versionOf_ok (w : World) (f : UInt8) (h : verOk f = true) :
    Calls Tryd.prog 44 #[.int .u8 (f.toNat : Int)] w fun e w' => e = .returned (.tuple #[.int .u8 ((verOf f).toNat : Int), .bool true]) ∧ w' = w := by
  have hv := verOf_nat h
  generalize (verOf f).toNat = v at hv ⊢
  generalize f.toNat = n at hv ⊢
  clear h
  rcases hv with ⟨rfl, rfl⟩ | ⟨h1, h2, rfl⟩
  · go_enter Tryd.func44, Tryd.ntmps44
    go_wp2
    go_ret2
    exact ⟨rfl, rfl⟩
  · have HE : Hid (((n - 80 : Nat) : Int) = (n : Int) - 80) := by show _ = _; omega
    have d96 : decide ((n : Int) ≤ 96) = true := by simp; omega
    go_enter Tryd.func44, Tryd.ntmps44
    go_wp2
    go_ret2
    rw [HE.out]
    exact ⟨rfl, rfl⟩
set_option maxHeartbeats 400000 in
theorem versionOf_no (w : World) (f : UInt8) (h : verOk f = false) :
    Calls Tryd.prog 44 #[.int .u8 (f.toNat : Int)] w fun e w' => ∃ z : Value, e = .returned (.tuple #[z, .bool false]) ∧ w' = w := by
  have hv : ¬ f.toNat = 0 ∧ (¬ 80 < f.toNat ∨ 96 < f.toNat) := by
    simp only [verOk, Bool.or_eq_false_iff, Bool.and_eq_false_iff, decide_eq_false_iff_not] at h
    exact ⟨h.1, h.2.imp id (by omega)⟩
  have hn := f.toNat_lt
  generalize f.toNat = n at hv hn ⊢
  clear h
  obtain ⟨h0, h1⟩ := hv
  have d0 : ((n : Int) == 0) = false := by simp; omega
  by_cases h2 : 80 < n
  · have d96 : decide ((n : Int) ≤ 96) = false := by simp; omega
    clear h1 h0
    go_enter Tryd.func44, Tryd.ntmps44
    go_wp2
    go_ret2
    exact ⟨_, rfl, rfl⟩
  · clear h1 h0
    go_enter Tryd.func44, Tryd.ntmps44
    go_wp2
    all_goals
      go_ret2
      exact ⟨⟨_, rfl⟩, rfl⟩

theorem getD_at {c : List UInt8} {k : Nat} (h : k < c.length) : c.getD k 0 = c[k] := by simp [List.getD, h]

set_option maxHeartbeats 1000000 in
theorem parts_ok (w : World) (B : Nat) (v : Value) (c : List UInt8) (h : Rd B w v c) (hk : scOk c = true) :
    Calls Tryd.prog 37 #[v] w fun e w' => ∃ v', e = .returned (.tuple #[.int .u8 ((verOf (c.getD 0 0)).toNat : Int), v', .bool true]) ∧ Rd B w v' (c.drop 2) ∧ w' = w := by
  obtain ⟨h1, h2, h3, h4⟩ := scOk_parts hk
  obtain ⟨b0, off, cap, rfl, hcap, hB, hc⟩ := h.at (by omega)
  have q0 := hc 0 (by omega)
  have q1 := hc 1 (by omega)
  rw [← getD_at] at q0 q1
  rw [h3] at q1
  simp only [Nat.add_zero] at q0
  have HV := (show Hid (∀ w, _) from fun w => versionOf_ok w (c.getD 0 0) h4)
  have HR : Hid (Rd B w (.slice (some ⟨b0, off, none⟩) c.length cap) c) := h
  have HP : Hid (prOk (c.length - 2) = true) := by show _ = _; simp [prOk]; omega
  generalize (verOf (c.getD 0 0)).toNat = vv at HV ⊢
  generalize (c.getD 0 0).toNat = f at q0 HV
  have d2 : (((c.length - 2 : Nat) : Int) == (c.length : Int) - 2) = true := by simp; omega
  have dl : decide ((c.length : Int) < 2) = false := by simp; omega
  clear h hk h3 h4 hc
  go_enter Tryd.func37, Tryd.ntmps37
  go_wp2_with (first
    | (go_at_call 44; refine (HV.out _).mono ?_; rintro e w' ⟨rfl, rfl⟩)
    | (go_at_call 38; refine (isProgram_r _ _ _ _ (by omega) true HP.out).mono ?_; rintro e w' ⟨rfl, rfl⟩))
  go_ret3
  exact ⟨_, rfl, Rd.drop HR.out (by omega) _ _ _ _ (.inr ⟨rfl, rfl⟩) rfl (by omega), rfl⟩

/-- It is told that there are none. -/
def NoParts (e : Ending) : Prop := ∃ z v', e = .returned (.tuple #[z, v', .bool false])
theorem NoParts.mk (z v' : Value) : NoParts (.returned (.tuple #[z, v', .bool false])) := ⟨z, v', rfl⟩
theorem versionOf_no' (w : World) (f : UInt8) (h : verOk f = false) :
    Calls Tryd.prog 44 #[.int .u8 (f.toNat : Int)] w fun e w' => ∃ z : Value, e = .returned (.tuple #[z, .bool false]) ∧ w' = w := versionOf_no w f h

set_option maxHeartbeats 1000000 in
theorem parts_no (w : World) (B : Nat) (v : Value) (c : List UInt8) (h : Rd B w v c) (hl : c.length ≤ 100000) (hk : scOk c = false) :
    Calls Tryd.prog 37 #[v] w fun e w' => NoParts e ∧ w' = w := by
  by_cases hlen : 2 ≤ c.length
  · obtain ⟨b0, off, cap, rfl, hcap, hB, hc⟩ := h.at (by omega)
    have q0 := hc 0 (by omega)
    have q1 := hc 1 (by omega)
    rw [← getD_at] at q0 q1
    simp only [Nat.add_zero] at q0
    have dl : decide ((c.length : Int) < 2) = false := by simp; omega
    by_cases h1 : (c.getD 1 0).toNat = c.length - 2
    · cases hv : verOk (c.getD 0 0) with
      | false =>
        have HV : Hid (∀ w, Calls Tryd.prog 44 #[.int .u8 ((c.getD 0 0).toNat : Int)] w fun e w' => ∃ z : Value, e = .returned (.tuple #[z, .bool false]) ∧ w' = w) := fun w => versionOf_no' w _ hv
        rw [h1] at q1
        generalize (c.getD 0 0).toNat = f at q0 HV
        have d2 : (((c.length - 2 : Nat) : Int) == (c.length : Int) - 2) = true := by simp; omega
        clear h hk h1 hc hv
        go_enter Tryd.func37, Tryd.ntmps37
        go_wp2_with (go_at_call 44; refine (HV.out _).mono ?_; rintro e w' ⟨z, rfl, rfl⟩)
        all_goals
          go_ret3
          exact ⟨NoParts.mk _ _, rfl⟩
      | true =>
        have HP : Hid (prOk (c.length - 2) = false) := by
          show _ = _
          have h2 := hk
          simp only [scOk, hv, h1, decide_true, Bool.and_true, Bool.and_eq_false_iff, decide_eq_false_iff_not] at h2
          simp only [prOk, Bool.and_eq_false_iff, decide_eq_false_iff_not]
          omega
        have HV : Hid (∀ w, Calls Tryd.prog 44 #[.int .u8 ((c.getD 0 0).toNat : Int)] w fun e w' => e = .returned (.tuple #[.int .u8 ((verOf (c.getD 0 0)).toNat : Int), .bool true]) ∧ w' = w) := fun w => versionOf_ok w _ hv
        rw [h1] at q1
        generalize (verOf (c.getD 0 0)).toNat = vv at HV
        generalize (c.getD 0 0).toNat = f at q0 HV
        have d2 : (((c.length - 2 : Nat) : Int) == (c.length : Int) - 2) = true := by simp; omega
        clear h hk h1 hc hv
        go_enter Tryd.func37, Tryd.ntmps37
        go_wp2_with (first
          | (go_at_call 44; refine (HV.out _).mono ?_; rintro e w' ⟨rfl, rfl⟩)
          | (go_at_call 38; refine (isProgram_r _ _ _ _ (by omega) false HP.out).mono ?_; rintro e w' ⟨rfl, rfl⟩))
        all_goals
          go_ret3
          exact ⟨NoParts.mk _ _, rfl⟩
    · have hf := (c.getD 1 0).toNat_lt
      generalize (c.getD 1 0).toNat = f at q1 h1 hf
      have d2 : ((f : Int) != (c.length : Int) - 2) = true := by simp; omega
      clear h hk h1 hc q0
      go_enter Tryd.func37, Tryd.ntmps37
      go_wp2
      go_ret3
      exact ⟨NoParts.mk _ _, rfl⟩
  · obtain ⟨ao, cap, rfl⟩ := h.len
    have dl : decide ((c.length : Int) < 2) = true := by simp; omega
    clear h hk
    go_enter Tryd.func37, Tryd.ntmps37
    go_wp2
    go_ret3
    exact ⟨NoParts.mk _ _, rfl⟩

theorem Own.two (E : TypeId) (base : Nat) (w : World) (a b : UInt8) (y z : Int) (hy : y = (a.toNat : Int)) (hz : z = (b.toNat : Int)) (hb : base ≤ w.heap.size) :
    Own E base (w.alloc (.cells #[.int .u8 y, .int .u8 z] E)) (.slice (some ⟨w.heap.size, 0, none⟩) 2 2) [a, b] := by
  subst hy hz
  exact Own.lit E base w [a, b] _ rfl 2 rfl (by decide) hb
theorem Own.one (E : TypeId) (base : Nat) (w : World) (a : UInt8) (y : Int) (hy : y = (a.toNat : Int)) (hb : base ≤ w.heap.size) :
    Own E base (w.alloc (.cells #[.int .u8 y] E)) (.slice (some ⟨w.heap.size, 0, none⟩) 1 1) [a] := by
  subst hy
  exact Own.lit E base w [a] _ rfl 1 rfl (by decide) hb
theorem firstOf_int (v : UInt8) (h : ¬ v.toNat = 0) : ((v.toNat : Int) + 80) % 256 = ((firstOf v).toNat : Int) := by
  rw [firstOf, if_neg h]; simp only [UInt8.toNat_ofNat']; omega
theorem lenByte (n : Nat) : (n : Int) % 256 = ((UInt8.ofNat n).toNat : Int) := by simp only [UInt8.toNat_ofNat']; omega

set_option maxHeartbeats 1000000 in
theorem lay_any (w : World) (B : Nat) (v : Value) (p : List UInt8) (h : Rd B w v p) (hl : p.length ≤ 100000) (c : UInt8) :
    Calls Tryd.prog 39 #[.int .u8 (c.toNat : Int), v] w fun e w' => ∃ v', e = .returned v' ∧ Own 5 w.heap.size w' v' (layL c p) ∧ Below w.heap.size w w' := by
  have hrd : Hid (Rs w v p) := h.rs
  obtain ⟨ao, cap, rfl⟩ := h.len
  have HN : Hid ((p.length : Int) % 256 = ((UInt8.ofNat p.length).toNat : Int)) := lenByte _
  have HL : Hid (layL c p = [firstOf c, UInt8.ofNat p.length] ++ p) := rfl
  generalize UInt8.ofNat p.length = k at HN HL
  clear h
  by_cases h0 : c.toNat = 0
  · have HF : Hid ((0 : Int) = ((firstOf c).toNat : Int)) := by show _ = _; rw [firstOf, if_pos h0]; rfl
    rw [h0]
    clear h0
    go_enter Tryd.func39, Tryd.ntmps39
    go_wp2_with (at_builtin; refine wpList_append_rd Tryd.bt rfl (.tmp 15) (.tmp 16) rfl w.heap.size _ _ _ [firstOf c, k] p rfl (Own.two 5 _ _ _ _ _ _ HF.out HN.out (Nat.le_refl _)) rfl (hrd.out.gr ((Below.refl _ _).alloc (Nat.le_refl _) _)) (by show 2 + _ ≤ _; omega) (by simp) ?_; intro v2 w2 ho2 hb2)
    go_ret
    rw [HL.out]
    exact ⟨_, rfl, ho2, ((Below.refl _ _).alloc (Nat.le_refl _) _).trans hb2⟩
  · have HF : Hid (((c.toNat : Int) + 80) % 256 = ((firstOf c).toNat : Int)) := firstOf_int c h0
    have hc := c.toNat_lt
    generalize c.toNat = n at h0 hc HF ⊢
    have hn : 0 < n := by omega
    clear h0 hc
    go_enter Tryd.func39, Tryd.ntmps39
    go_wp2_with (at_builtin; refine wpList_append_rd Tryd.bt rfl (.tmp 15) (.tmp 16) rfl w.heap.size _ _ _ [firstOf c, k] p rfl (Own.two 5 _ _ _ _ _ _ HF.out HN.out (Nat.le_refl _)) rfl (hrd.out.gr ((Below.refl _ _).alloc (Nat.le_refl _) _)) (by show 2 + _ ≤ _; omega) (by simp) ?_; intro v2 w2 ho2 hb2)
    go_ret
    rw [HL.out]
    exact ⟨_, rfl, ho2, ((Below.refl _ _).alloc (Nat.le_refl _) _).trans hb2⟩
end Go.Proofs.YtemgaoikngebeaaDoor
