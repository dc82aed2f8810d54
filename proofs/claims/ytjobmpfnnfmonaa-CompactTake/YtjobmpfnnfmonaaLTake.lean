/-
  What the law CompactTake comes to: true, and nothing that was there has turned; for whatever bytes and number.
-/
import Derived.Test.YtjobmpfnnfmonaaW6
namespace Go.Proofs.Ytjobmpfnnfmonaa
open Go.RowKit

/-- An owned slice that is not empty, written out. -/
theorem Own.at {E : TypeId} {base : Nat} {w : World} {v : Value} {l : List UInt8} (h : Own E base w v l) (hl : 0 < l.length) :
    ∃ g cap, v = .slice (some ⟨g, 0, none⟩) l.length cap ∧ base ≤ g ∧ g < w.heap.size ∧ (∀ i (hi : i < l.length), w.cell? ⟨g, i, none⟩ = some (.int .u8 (l[i].toNat : Int))) ∧ ∀ i, w.frozen? ⟨g, i, none⟩ = false := by
  have hh := h
  rcases h.2 with ⟨rfl, hn⟩ | ⟨g, cap, cur, rfl, hb, hg, hnc, hcm, hcs, htake⟩
  · omega
  · refine ⟨g, cap, rfl, hb, (Array.getElem?_eq_some_iff.1 hg).1, fun i hi => ?_, fun i => World.ownsRow.frozenAt hh i⟩
    rw [World.ownsRow.cellAt hh i (by omega)]
    simp [cellsOf, hi]

theorem Own.stored {E : TypeId} {base g n cap : Nat} {w : World} {l : List UInt8} (h : Own E base w (.slice (some ⟨g, 0, none⟩) n cap) l) (hn : n = l.length) (j : Nat) (c : UInt8) (z : Int) (hz : z = (c.toNat : Int)) :
    Own E base (w.setCell ⟨g, j, none⟩ (.int .u8 z)) (.slice (some ⟨g, 0, none⟩) n cap) (l.set j c) ∧ Below base w (w.setCell ⟨g, j, none⟩ (.int .u8 z)) := by
  subst hn hz
  have hb : base ≤ g := (World.ownsRow.lt h g rfl).1
  obtain ⟨h1, _⟩ := World.ownsRow.stored h j (.int .u8 (c.toNat : Int))
  refine ⟨?_, (Below.refl _ _).setCell hb _⟩
  unfold Own
  rw [List.length_set]
  have e : cellsOf (l.set j c) = (cellsOf l).set j (.int .u8 (c.toNat : Int)) := by simp [cellsOf, List.map_set]
  rw [e]
  exact h1

theorem takeN_le (n : Int) (l : List UInt8) : (takeN n l).1.length ≤ l.length := by
  unfold takeN
  split
  · simp
  · split
    · simp
    · simp; omega

set_option maxRecDepth 100000 in
set_option maxHeartbeats 4000000 in
theorem take_small (w : World) (B : Nat) (v : Value) (l : List UInt8) (n : Int) (h : Rd B w v l) (hl : l.length ≤ 300) :
    Calls Try.prog 5 #[v, .int .i64 n] w fun e w' => e = .returned (.bool true) ∧ Below w.heap.size w w' := by
  have hrd : Hid (Rs w v l) := h.rs
  obtain ⟨ao, cap, rfl⟩ := h.len
  clear h
  go_enter Try.func5, Try.ntmps5
  go_wp2_with fail
  refine (own_any _ _ _ _ hrd.out (by omega)).mono ?_
  rintro e w1 ⟨v1, rfl, ho1, hb1⟩
  have HB1 : Hid (Gr w w1) := hb1
  go_wp2_with fail
  refine (take_any _ _ _ _ n ho1.rd (by omega)).mono ?_
  rintro e w2 ⟨x1, x2, rfl, hx1, hx2, hb2⟩
  go_wp2_with fail
  refine (refTake_any _ _ _ _ n (hrd.out.gr (Gr.trans hb1 hb2)) (by omega)).mono ?_
  rintro e w3 ⟨y1, y2, rfl, hy1, hy2, hb3⟩
  have H : Hid (Gr w w3 ∧ Gr w1 w3 ∧ Own 5 w.heap.size w1 v1 l ∧ Own 5 w1.heap.size w3 x1 (takeN n l).1) :=
    ⟨Gr.trans (Gr.trans hb1 hb2) hb3, Gr.trans hb2 hb3, ho1, hx1.keep hb3⟩
  have c1 := run_conv_rd Try.bt 9 (by kernel_rfl) w3 _ x1 _ (hx1.keep hb3).rd
  have c2 := run_conv_rd Try.bt 9 (by kernel_rfl) w3 _ x2 _ (hx2.keep hb3).rd
  have c3 := run_conv_rd Try.bt 9 (by kernel_rfl) w3 _ y1 _ hy1.rd
  have c4 := run_conv_rd Try.bt 9 (by kernel_rfl) w3 _ y2 _ hy2.rd
  clear ho1 hb1 hx1 hx2 hb2 hy1 hy2 hb3
  go_wp2_with fail
  obtain ⟨hg0, hg1, ho, hx⟩ := H.out
  refine (take32_any _ _ _ _ ((ho.keep hg1).rd) (by omega)).mono ?_
  rintro e w4 ⟨x3, rfl, hx2, hb2⟩
  go_wp2_with fail
  refine (refNumber_any _ _ _ _ 4 (by omega) (hrd.out.gr (Gr.trans hg0 hb2)) (by omega)).mono ?_
  rintro e w5 ⟨y3, rfl, hy2, hb3⟩
  have H' : Hid (Gr w w5 ∧ Gr w1 w5 ∧ Own 5 w.heap.size w1 v1 l ∧ Own 5 w1.heap.size w5 x1 (takeN n l).1) :=
    ⟨Gr.trans (Gr.trans hg0 hb2) hb3, Gr.trans (Gr.trans hg1 hb2) hb3, ho, (hx.keep hb2).keep hb3⟩
  clear H
  have H := H'
  clear H' c1 c2 c3 c4
  have c1 := run_conv_rd Try.bt 9 (by kernel_rfl) w5 _ x3 _ (hx2.keep hb3).rd
  have c2 := run_conv_rd Try.bt 9 (by kernel_rfl) w5 _ y3 _ hy2.rd
  have c3 := c1
  have c4 := c2
  have hw32 : IntKind.u64.wrap ((takeNum 4 l).1 : Int) = ((takeNum 4 l).1 : Int) := by have := tn32 l; rw [IntKind.wrap_u64]; omega
  clear ho hx hx2 hy2 hb2 hb3 hg0 hg1
  go_wp2_with fail
  obtain ⟨hg0, hg1, ho, hx⟩ := H.out
  refine (take64_any _ _ _ _ ((ho.keep hg1).rd) (by omega)).mono ?_
  rintro e w6 ⟨x4, rfl, hx2, hb2⟩
  go_wp2_with fail
  refine (refNumber_any _ _ _ _ 8 (by omega) (hrd.out.gr (Gr.trans hg0 hb2)) (by omega)).mono ?_
  rintro e w7 ⟨y4, rfl, hy2, hb3⟩
  have H' : Hid (Gr w w7 ∧ Gr w1 w7 ∧ Own 5 w.heap.size w1 v1 l ∧ Own 5 w1.heap.size w7 x1 (takeN n l).1) :=
    ⟨Gr.trans (Gr.trans hg0 hb2) hb3, Gr.trans (Gr.trans hg1 hb2) hb3, ho, (hx.keep hb2).keep hb3⟩
  clear H
  have H := H'
  clear H' c1 c2 c3 c4
  have c1 := run_conv_rd Try.bt 9 (by kernel_rfl) w7 _ x4 _ (hx2.keep hb3).rd
  have c2 := run_conv_rd Try.bt 9 (by kernel_rfl) w7 _ y4 _ hy2.rd
  have c3 := c1
  have c4 := c2
  clear ho hx hx2 hy2 hb2 hb3 hg0 hg1
  go_wp2_with fail
  obtain ⟨hg0, hg1, ho, hx⟩ := H.out
  refine (takeSize_any _ _ _ _ ((ho.keep hg1).rd) (by omega)).mono ?_
  rintro e w8 ⟨x5, rfl, hx2, hb2⟩
  go_wp2_with fail
  refine (refTakeSize_any _ _ _ _ (hrd.out.gr (Gr.trans hg0 hb2)) (by omega)).mono ?_
  rintro e w9 ⟨y5, rfl, hy2, hb3⟩
  have H' : Hid (Gr w w9 ∧ Gr w1 w9 ∧ Own 5 w.heap.size w1 v1 l ∧ Own 5 w1.heap.size w9 x1 (takeN n l).1) :=
    ⟨Gr.trans (Gr.trans hg0 hb2) hb3, Gr.trans (Gr.trans hg1 hb2) hb3, ho, (hx.keep hb2).keep hb3⟩
  clear H
  have H := H'
  clear H' c1 c2 c3 c4
  have c1 := run_conv_rd Try.bt 9 (by kernel_rfl) w9 _ x5 _ (hx2.keep hb3).rd
  have c2 := run_conv_rd Try.bt 9 (by kernel_rfl) w9 _ y5 _ hy2.rd
  have c3 := c1
  have c4 := c2
  clear ho hx hx2 hy2 hb2 hb3 hg0 hg1
  obtain ⟨gx, capx, rfl⟩ := H.out.2.2.2.rd.len
  have hXl := takeN_le n l
  generalize (takeN n l).1 = X at H hXl ⊢
  have HX : Hid (X.length ≤ l.length) := hXl
  clear hXl
  go_wp2_with fail
  clear c1 c2 c3 c4 hw32
  go_loopw [16] (fun i wr => ∃ k : Nat, k ≤ X.length ∧ i = .int .i64 k ∧ ∃ xs : List UInt8, xs.length = X.length ∧ Own 5 w1.heap.size wr (.slice gx X.length capx) xs ∧ Below w1.heap.size w9 wr) (fun i _ => X.length - (intOf i).toNat)
  case atStart => exact ⟨0, Nat.zero_le _, rfl, X, rfl, H.out.2.2.2, Below.refl _ _⟩
  case round =>
    obtain ⟨k, hk, rfl, xs, hxs, hox, hbx⟩ := hrel
    have hX : X.length ≤ 300 := by
      have h1 := HX.out
      omega
    by_cases hlt : k < X.length
    · obtain ⟨g, cap', e, hbg, hgs, hc, hf⟩ := hox.at (by omega)
      simp only [Value.slice.injEq] at e
      obtain ⟨rfl, -, rfl⟩ := e
      have hc0 := hc k (by omega)
      have hf0 := hf k
      have hst := hox.stored hxs.symm k 77 77 (by decide)
      have Hst : Hid _ := hst
      have Hbx : Hid (Below w1.heap.size w9 wr) := hbx
      clear hc hf hst hox hbx hbg hgs
      go_wp2
      go_roundw
      case rel => exact ⟨k + 1, by omega, by go_num, xs.set k 77, by simpa using hxs, Hst.out.1, Hbx.out.trans Hst.out.2⟩
      case measure => simp [intOf]; omega
    · obtain rfl : k = X.length := by omega
      have Hbx : Hid (Below w1.heap.size w9 wr) := hbx
      clear hox hbx hlt
      go_wp2_with fail
      refine (alive_any _).mono ?_
      rintro e w10 ⟨rfl, hb10⟩
      obtain ⟨hg0, hg1, ho, -⟩ := H.out
      have q1 : Below w1.heap.size w1 wr := Below.trans hg1 Hbx.out
      have q2 : Gr w1 w10 := Gr.trans q1 hb10
      have q3 : Gr w w1 := HB1.out
      have c1 := run_conv_rd Try.bt 9 (by kernel_rfl) w10 _ v1 _ (ho.keep q2).rd
      have c2 := run_conv_rd Try.bt 9 (by kernel_rfl) w10 _ _ _ (hrd.out.gr (Gr.trans q3 q2))
      have q : Hid (Gr w w10) := Gr.trans q3 q2
      clear hg0 hg1 ho q1 q2 q3 hb10
      go_wp2
      go_ret
      exact ⟨rfl, q.out⟩

set_option maxRecDepth 100000 in
set_option maxHeartbeats 400000 in
theorem take_large (w : World) (ao : Option Addr) (len cap : Nat) (z : Int) (hl : 300 < len) :
    Calls Try.prog 5 #[.slice ao len cap, .int .i64 z] w fun e w' => e = .returned (.bool true) ∧ Below w.heap.size w w' := by
  go_enter Try.func5, Try.ntmps5
  go_wp2_with (go_at_call 10; refine (alive_any _).mono ?_; rintro e w1 ⟨rfl, hb1⟩)
  go_ret
  exact ⟨rfl, hb1⟩

end Go.Proofs.Ytjobmpfnnfmonaa
