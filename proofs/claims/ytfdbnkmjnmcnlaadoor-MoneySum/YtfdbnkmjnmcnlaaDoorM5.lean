/-
  Contracts of package money's reading of a text, sign by sign.
-/
import Derived.Test.YtfdbnkmjnmcnlaaDoorM4
import Derived.Laws.RangeAny
namespace Go.Proofs.YtfdbnkmjnmcnlaaDoor
open Go.RowKit

/-- The variable that is read into. -/
def cellsS (s : St) : List Value := [.int .u64 (s.v : Int), .int .i64 (s.a : Int), .int .i64 (s.b : Int), .bool s.p]
def Rdg (w : World) (g : Nat) (s : St) : Prop := Arr 39 w g (cellsS s)

theorem Rdg.v {w : World} {g : Nat} {s : St} (h : Rdg w g s) : w.cell? ⟨g, 0, none⟩ = some (.int .u64 (s.v : Int)) := Arr.cell h (i := 0) (by simp [cellsS])
theorem Rdg.a {w : World} {g : Nat} {s : St} (h : Rdg w g s) : w.cell? ⟨g, 1, none⟩ = some (.int .i64 (s.a : Int)) := Arr.cell h (i := 1) (by simp [cellsS])
theorem Rdg.b {w : World} {g : Nat} {s : St} (h : Rdg w g s) : w.cell? ⟨g, 2, none⟩ = some (.int .i64 (s.b : Int)) := Arr.cell h (i := 2) (by simp [cellsS])
theorem Rdg.p {w : World} {g : Nat} {s : St} (h : Rdg w g s) : w.cell? ⟨g, 3, none⟩ = some (.bool s.p) := Arr.cell h (i := 3) (by simp [cellsS])

theorem Arr.setCell {T : TypeId} {w : World} {g i : Nat} {cs : List Value} (h : Arr T w g cs) (u : Value) : Arr T (w.setCell ⟨g, i, none⟩ u) g (cs.set i u) := by
  unfold Arr World.setCell at *
  simp [Array.getElem?_modify, h]
theorem But.setCell (w : World) (g i : Nat) (u : Value) : But g w (w.setCell ⟨g, i, none⟩ u) :=
  ⟨rfl, rfl, rfl, by simp [World.setCell], fun k hk => Below.heap_setCell _ _ _ _ hk⟩

theorem cap_min (v c : Nat) (h1 : 48 ≤ c) (h2 : c ≤ 57) (hv : v ≤ MM + 1) : min (IntKind.u64.wrap (IntKind.u64.wrap (10 * (v : Int)) + ((c : Int) - 48))) 2100000000000001 = ((capS (MM + 1) v (c - 48) : Nat) : Int) := by
  unfold MM at *
  rw [IntKind.wrap_u64, IntKind.wrap_u64]
  unfold capS
  split <;> omega

set_option maxHeartbeats 1000000 in
set_option maxRecDepth 100000 in
theorem add_any (w : World) (g : Nat) (s : St) (c : Nat) (hA : Rdg w g s) (h1 : 48 ≤ c) (h2 : c ≤ 57) (hv : s.v ≤ MM + 1) :
    Calls Tryd.prog 31 #[.pointer (some ⟨g, 0, none⟩), .int .i32 (c : Int)] w fun e w' => e = .returned (.tuple #[]) ∧ Rdg w' g { s with v := capS (MM + 1) s.v (c - 48) } ∧ But g w w' := by
  have HA : Hid (Rdg w g s) := hA
  have c0 := hA.v
  have f0 : w.frozen? ⟨g, 0, none⟩ = false := Arr.thaw hA
  clear hA
  go_enter Tryd.func31, Tryd.ntmps31
  go_wp2
  rw [cap_min s.v c h1 h2 hv]
  refine bodyPost_end (results_none rfl _ _ _) rfl ?_
  exact ⟨rfl, Arr.setCell (i := 0) HA.out _, But.setCell _ _ _ _⟩

/-- What holds of what has been read. -/
def Fine (s : St) : Prop := s.v ≤ MM + 1 ∧ s.a ≤ 1000000 ∧ s.b ≤ 8

set_option maxHeartbeats 1000000 in
set_option maxRecDepth 100000 in
theorem point_any (w : World) (g : Nat) (s : St) (hA : Rdg w g s) :
    Calls Tryd.prog 28 #[.pointer (some ⟨g, 0, none⟩)] w fun e w' => (s.p = true → e = .returned (.bool false) ∧ w' = w) ∧ (s.p = false → e = .returned (.bool true) ∧ Rdg w' g { s with p := true } ∧ But g w w') := by
  have HA : Hid (Rdg w g s) := hA
  have c3 := hA.p
  have f3 : w.frozen? ⟨g, 3, none⟩ = false := Arr.thaw hA
  clear hA
  cases hp : s.p with
  | true =>
    rw [hp] at c3
    go_enter Tryd.func28, Tryd.ntmps28
    go_wp2
    go_ret
    exact ⟨fun _ => ⟨rfl, rfl⟩, fun h => by cases h⟩
  | false =>
    rw [hp] at c3
    go_enter Tryd.func28, Tryd.ntmps28
    go_wp2
    go_ret
    exact ⟨fun h => (by cases h), fun _ => ⟨rfl, Arr.setCell (i := 3) HA.out _, But.setCell _ _ _ _⟩⟩

set_option maxHeartbeats 1000000 in
set_option maxRecDepth 100000 in
theorem behind_any (w : World) (g : Nat) (s : St) (c : Nat) (hA : Rdg w g s) (h1 : 48 ≤ c) (h2 : c ≤ 57) (hs : Fine s) :
    Calls Tryd.prog 29 #[.pointer (some ⟨g, 0, none⟩), .int .i32 (c : Int)] w fun e w' => (s.b = 8 → e = .returned (.bool false) ∧ w' = w) ∧ (¬ s.b = 8 → e = .returned (.bool true) ∧ Rdg w' g { s with b := s.b + 1, v := capS (MM + 1) s.v (c - 48) } ∧ But g w w') := by
  have HA : Hid (Rdg w g s) := hA
  have HV : Hid (Fine s) := hs
  have c2 := hA.b
  have f2 : w.frozen? ⟨g, 2, none⟩ = false := Arr.thaw hA
  have hb8 := hs.2.2
  clear hA hs
  by_cases h8 : s.b = 8
  · have d : ((s.b : Int) == 8) = true := by simp; omega
    go_enter Tryd.func29, Tryd.ntmps29
    go_wp2_with fail
    go_ret
    exact ⟨fun _ => ⟨rfl, rfl⟩, fun h => absurd h8 h⟩
  · have d : ((s.b : Int) == 8) = false := by simp; omega
    go_enter Tryd.func29, Tryd.ntmps29
    go_wp2_with fail
    have hA1 : Rdg (w.setCell ⟨g, 2, none⟩ (.int .i64 ((s.b : Int) + 1))) g { s with b := s.b + 1 } := Arr.setCell (i := 2) HA.out _
    refine (add_any _ g _ c hA1 h1 h2 HV.out.1).mono ?_
    rintro e w2 ⟨rfl, hA2, hb2⟩
    go_wp2
    go_ret
    exact ⟨fun h => absurd h h8, fun _ => ⟨rfl, hA2, (But.setCell _ _ _ _).trans hb2⟩⟩

set_option maxHeartbeats 1000000 in
set_option maxRecDepth 100000 in
theorem ahead_any (w : World) (g : Nat) (s : St) (c : Nat) (hA : Rdg w g s) (h1 : 48 ≤ c) (h2 : c ≤ 57) (hs : Fine s) :
    Calls Tryd.prog 30 #[.pointer (some ⟨g, 0, none⟩), .int .i32 (c : Int)] w fun e w' => (0 < s.a ∧ s.v = 0 → e = .returned (.bool false) ∧ w' = w) ∧ (¬ (0 < s.a ∧ s.v = 0) → e = .returned (.bool true) ∧ Rdg w' g { s with a := s.a + 1, v := capS (MM + 1) s.v (c - 48) } ∧ But g w w') := by
  have HA : Hid (Rdg w g s) := hA
  have HV : Hid (Fine s) := hs
  have c0 := hA.v
  have c1 := hA.a
  have f1 : w.frozen? ⟨g, 1, none⟩ = false := Arr.thaw hA
  have ha := hs.2.1
  clear hA hs
  by_cases hpos : 0 < s.a
  · have dp : decide ((s.a : Int) > 0) = true := by simp; omega
    by_cases hz : s.v = 0
    · have d : ((s.v : Int) == 0) = true := by simp; omega
      go_enter Tryd.func30, Tryd.ntmps30
      go_wp2_with fail
      go_ret
      exact ⟨fun _ => ⟨rfl, rfl⟩, fun h => absurd ⟨hpos, hz⟩ h⟩
    · have d : ((s.v : Int) == 0) = false := by simp; omega
      go_enter Tryd.func30, Tryd.ntmps30
      go_wp2_with fail
      have hA1 : Rdg (w.setCell ⟨g, 1, none⟩ (.int .i64 ((s.a : Int) + 1))) g { s with a := s.a + 1 } := Arr.setCell (i := 1) HA.out _
      refine (add_any _ g _ c hA1 h1 h2 HV.out.1).mono ?_
      rintro e w2 ⟨rfl, hA2, hb2⟩
      go_wp2
      go_ret
      exact ⟨fun h => absurd h.2 hz, fun _ => ⟨rfl, hA2, (But.setCell _ _ _ _).trans hb2⟩⟩
  · have dp : decide ((s.a : Int) > 0) = false := by simp; omega
    go_enter Tryd.func30, Tryd.ntmps30
    go_wp2_with fail
    have hA1 : Rdg (w.setCell ⟨g, 1, none⟩ (.int .i64 ((s.a : Int) + 1))) g { s with a := s.a + 1 } := Arr.setCell (i := 1) HA.out _
    refine (add_any _ g _ c hA1 h1 h2 HV.out.1).mono ?_
    rintro e w2 ⟨rfl, hA2, hb2⟩
    go_wp2
    go_ret
    exact ⟨fun h => absurd h.1 hpos, fun _ => ⟨rfl, hA2, (But.setCell _ _ _ _).trans hb2⟩⟩
end Go.Proofs.YtfdbnkmjnmcnlaaDoor
