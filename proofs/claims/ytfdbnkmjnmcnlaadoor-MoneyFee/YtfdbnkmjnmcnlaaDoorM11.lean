/-
  The laws' live question.
-/
import Derived.Test.YtfdbnkmjnmcnlaaDoorM9
import Derived.Test.YtfdbnkmjnmcnlaaDoorM10
namespace Go.Proofs.YtfdbnkmjnmcnlaaDoor
open Go.RowKit

theorem parse_r (w : World) (S : ByteArray) (hS : S.size ≤ 900000) (v : Nat) (e : Int) (h1 : parseV (MM + 1) (bl S) = v) (h2 : parseE (MM + 1) (bl S) = e) :
    Calls Tryd.prog 16 #[.string S] w fun x w' => x = .returned (.tuple #[.int .u64 (v : Nat), .int .i64 e]) ∧ Below w.heap.size w w' := by
  subst h1 h2; exact parse_any w S hS
theorem sum_r (w : World) (v : Value) (l : List Nat) (h : Rw w v l) (hl : l.length ≤ 1000000) (n : Nat) (e : Int) (h1 : sumV l = n) (h2 : chk l.sum = e) :
    Calls Tryd.prog 10 #[v] w fun x w' => x = .returned (.tuple #[.int .u64 (n : Int), .int .i64 e]) ∧ w' = w := by
  subst h1 h2; exact sum_any w v l h hl
theorem print_r (v : Nat) (hv : v < 18446744073709551616) (w : World) (htab : Tb w) (S : ByteArray) (h : S = ⟨(printL v).toArray⟩) :
    Calls Tryd.prog 14 #[.int .u64 (v : Int)] w fun e w' => e = .returned (.string S) ∧ Below w.heap.size w w' := by
  subst h; exact print_spec v hv w htab

theorem live1 : parseV (MM + 1) [49, 46, 53] = 150000000 ∧ parseE (MM + 1) [49, 46, 53] = 0 := by decide
theorem live2 : parseV (MM + 1) [48, 49, 46, 53] = 0 ∧ parseE (MM + 1) [48, 49, 46, 53] = 3 := by decide
theorem live3 : sumV [1, 2] = 3 ∧ chk [1, 2].sum = 0 := by decide
theorem live4 : printL 150000330 = [49, 46, 53, 48, 48, 48, 48, 51, 51, 48] := by
  unfold printL; simp [figs]

set_option maxHeartbeats 1000000 in
set_option maxRecDepth 100000 in
theorem alive_any (w : World) (htab : Tb w) :
    Calls Tryd.prog 9 #[] w fun e w' => e = .returned (.bool true) ∧ Below w.heap.size w w' := by
  have HT : Hid (Tb w) := htab
  clear htab
  go_enter Tryd.func9, Tryd.ntmps9
  go_wp2_with fail
  refine (parse_r w ⟨#[49, 46, 53]⟩ (by decide) 150000000 0 live1.1 live1.2).mono ?_
  rintro e w1 ⟨rfl, hb1⟩
  go_wp2_with fail
  refine (parse_r w1 ⟨#[48, 49, 46, 53]⟩ (by decide) 0 3 live2.1 live2.2).mono ?_
  rintro e w2 ⟨rfl, hb2⟩
  go_wp2_with fail
  refine (sum_r _ _ [1, 2] (Rw.lit 23 w2 [1, 2] _ rfl 2 rfl) (by decide) 3 0 live3.1 live3.2).mono ?_
  rintro e w3 ⟨rfl, rfl⟩
  have hb3 : Below w.heap.size w (w2.alloc (Obj.cells (c64 [1, 2]).toArray 23)) := (hb1.trans (hb2.mono hb1.size)).alloc (by have := hb1.size; have := hb2.size; omega) _
  have HB3 : Hid (Below w.heap.size w (w2.alloc (Obj.cells (c64 [1, 2]).toArray 23))) := hb3
  clear hb1 hb2 hb3
  generalize w2.alloc (Obj.cells (c64 [1, 2]).toArray 23) = w3 at *
  go_wp2_with fail
  refine (print_r 150000330 (by decide) w3 (HT.out.gr HB3.out) ⟨#[49, 46, 53, 48, 48, 48, 48, 51, 51, 48]⟩ (by rw [live4])).mono ?_
  rintro e w4 ⟨rfl, hb4⟩
  go_wp2
  go_ret
  exact ⟨rfl, HB3.out.trans (hb4.mono HB3.out.size)⟩
end Go.Proofs.YtfdbnkmjnmcnlaaDoor
