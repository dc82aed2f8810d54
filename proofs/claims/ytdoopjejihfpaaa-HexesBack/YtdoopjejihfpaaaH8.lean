/-
  Contracts of names: Name, Parse, and the document's.
-/
import Derived.Test.YtdoopjejihfpaaaH7
namespace Go.Proofs.Ytdoopjejihfpaaa
open Go.RowKit

theorem rev_take_succ (l : List UInt8) (k : Nat) (h : k < l.length) : ∃ c, l[l.length - 1 - k]? = some c ∧ Hid (l.reverse.take (k + 1) = l.reverse.take k ++ [c]) := by
  refine ⟨l[l.length - 1 - k], by simp [show l.length - 1 - k < l.length by omega], ?_⟩
  show _ = _
  rw [List.take_succ_eq_append_getElem (by simpa using h), List.getElem_reverse]

set_option maxHeartbeats 1000000 in
theorem refTurned_any (w : World) (B : Nat) (v : Value) (l : List UInt8) (h : Rd B w v l) (hl : l.length ≤ 1000000) :
    Calls Try.prog 21 #[v] w fun e w' => ∃ v', e = .returned v' ∧ Own 5 w.heap.size w' v' l.reverse ∧ Below w.heap.size w w' := by
  have hrd : Hid (Rd B w v l) := h
  obtain ⟨ao, cap, rfl⟩ := h.len
  clear h
  go_enter Try.func21, Try.ntmps21
  go_wp2
  go_loopw [3, 4] (fun b i wr => ∃ k : Nat, k ≤ l.length ∧ i = .int .i64 ((l.length : Int) - 1 - k) ∧ Own 5 w.heap.size wr b (l.reverse.take k) ∧ Below w.heap.size w wr) (fun _ i _ => (intOf i + 1).toNat)
  case atStart => exact ⟨0, by omega, by simp, by simpa using Own.empty 5 w.heap.size w (Nat.le_refl _), (Below.refl _ _).alloc (Nat.le_refl _) _⟩
  case round =>
    obtain ⟨k, hk, rfl, ho, hb⟩ := hrel
    by_cases hlt : k < l.length
    · obtain ⟨c, hc, HT⟩ := rev_take_succ l k hlt
      obtain ⟨hlt', hcc⟩ := List.getElem?_eq_some_iff.1 hc
      obtain ⟨b0, off, cap', ev, hcap, hbB, hcell⟩ := ((hrd.out.self).below hb).at (by omega)
      simp only [Value.slice.injEq] at ev
      obtain ⟨rfl, _, rfl⟩ := ev
      have hck := hcell _ hlt'
      rw [hcc] at hck
      clear hcell hc hcc
      have hlen : (l.reverse.take k).length ≤ 1000000 := by simp; omega
      have e1 : ((l.length : Int) - 1 - k).toNat = l.length - 1 - k := by omega
      have h0 : 0 ≤ (l.length : Int) - 1 - k := by omega
      go_wp2_with (at_builtin; refine wpList_append_rd Try.bt rfl (.tmp 13) (.tmp 18) rfl w.heap.size _ _ _ _ [c] rfl (ho.alloc _) rfl (Rd.one 5 wr _ _ rfl) (by show _ + 1 ≤ _; omega) (by have := hb.size; simp; omega) ?_; intro v2 w2 ho2 hb2)
      go_roundw
      case rel => exact ⟨k + 1, by omega, by go_num, by rw [HT.out]; exact ho2, hb.trans (((Below.refl _ _).alloc (by have := hb.size; omega) _).trans hb2)⟩
      case measure => simp [intOf]; omega
    · obtain rfl : k = l.length := by omega
      rw [List.take_of_length_le (by simp)] at ho
      have h0 : ¬ 0 ≤ (l.length : Int) - 1 - l.length := by omega
      go_wp2
      go_ret
      exact ⟨_, rfl, ho, hb⟩

/-- The array, k of its 32 bytes laid. -/
def lay (l : List UInt8) (k : Nat) : List UInt8 := l.take k ++ List.replicate (32 - k) 0
theorem lay_length (l : List UInt8) (k : Nat) (hl : l.length = 32) (hk : k ≤ 32) : (lay l k).length = 32 := by simp [lay, hl]; omega
theorem lay_zero (l : List UInt8) : lay l 0 = List.replicate 32 0 := by simp [lay]
theorem lay_succ (l : List UInt8) (k : Nat) (hl : l.length = 32) (hk : k < 32) : ∃ c, l[k]? = some c ∧ Hid ((lay l k).set k c = lay l (k + 1)) := by
  refine ⟨l[k], by simp [hl, hk], ?_⟩
  show _ = _
  unfold lay
  rw [List.set_append_right _ _ (by simp; omega), List.take_succ_eq_append_getElem (by omega)]
  have e : 32 - k = (32 - (k + 1)) + 1 := by omega
  rw [e, List.replicate_succ]
  rw [List.append_assoc, List.length_take, Nat.min_eq_left (by omega : k ≤ l.length), Nat.sub_self]
  rfl
theorem lay_end (l : List UInt8) (hl : l.length = 32) : lay l 32 = l := by
  simp [lay, List.take_of_length_le (by omega : l.length ≤ 32)]

set_option maxHeartbeats 1000000 in
theorem refHash_any (w : World) (B : Nat) (v : Value) (l : List UInt8) (h : Rd B w v l) (hl : l.length = 32) :
    Calls Try.prog 20 #[v] w fun e w' => e = .returned (.agg (cellsOf l).toArray) ∧ Below w.heap.size w w' := by
  have hrd : Hid (Rd B w v l) := h
  have HL : Hid (l.length = 32) := hl
  obtain ⟨b0, off, cap, rfl, hcap, hbB, hc⟩ := h.at (by omega)
  clear h hc hl
  go_enter Try.func20, Try.ntmps20
  go_wp2_with (first
    | (refine wpList_alloc_arr Try.at32 rfl rfl 2 rfl ?_; intro g2 w2 hg2 ha2 hb2)
    | (refine wpList_build_arr Try.at32 rfl rfl ?_)
    | (refine wpList_alloc_arr Try.at32 rfl rfl 3 rfl ?_; intro g3 w3 hg3 ha3 hb3)
    | (refine wpList_store_arr Try.at32 rfl (.tmp 3) (.tmp 5) rfl rfl g3 (List.replicate 32 (.int .u8 0)) (List.replicate 32 (.int .u8 0)) (by simp) (by simp) (by simp [Value.oneCell']) rfl rfl ha3 ?_; intro w4 ha4 hb4))
  have hne : g2 ≠ g3 := by have := ha2.lt; omega
  have hg3' : w.heap.size ≤ g3 := by have := hb2.size; omega
  have hbB' : Below w.heap.size w w4 := Below.trans (Gr.trans hb2 hb3) (hb4.below hg3')
  have ha2' := (ha2.gr hb3).but hb4 hne
  have ha4' : Arr 30 w4 g3 (cellsOf (lay l 0)) := by rw [lay_zero]; exact ha4
  clear ha2 ha3 ha4 hb2 hb3 hb4 hg3
  go_loopw [4] (fun i wr => ∃ k : Nat, k ≤ 32 ∧ i = .int .i64 k ∧ Arr 30 wr g3 (cellsOf (lay l k)) ∧ Arr 30 wr g2 (List.replicate 32 (.int .u8 0)) ∧ Below w.heap.size w wr) (fun i _ => 32 - (intOf i).toNat)
  case atStart => exact ⟨0, by omega, rfl, ha4', ha2', hbB'⟩
  case round =>
    obtain ⟨k, hk, rfl, hr3, hr2, hb⟩ := hrel
    clear ha2' ha4' hbB'
    have htl := lay_length l k HL.out hk
    have hct : (cellsOf (lay l k)).length = 32 := by rw [cellsOf_length]; exact htl
    by_cases hlt : k < 32
    · obtain ⟨c, hc, HTS⟩ := lay_succ l k HL.out hlt
      have hkl : (k : Int) < (l.length : Int) := by have := HL.out; omega
      have hk32 : (k : Int) < 32 := by omega
      have hck : wr.cell? ⟨b0, off + k, none⟩ = some (.int .u8 (c.toNat : Int)) := by
        obtain ⟨b0', off', cap', ev, _, _, hcell⟩ := ((hrd.out.self).below hb).at (by omega)
        simp only [Value.slice.injEq, Option.some.injEq, Addr.mk.injEq] at ev
        obtain ⟨⟨rfl, rfl, _⟩, _, rfl⟩ := ev
        obtain ⟨hlt', hcc⟩ := List.getElem?_eq_some_iff.1 hc
        rw [hcell k hlt', hcc]
      go_wp2_with (first
        | (refine wpList_indexAt_arr Try.at32 rfl (.tmp 3) (.tmp 16) rfl g3 k .i64 (k : Int) rfl hlt rfl rfl ?_)
        | (refine wpList_store_byte rfl 5 (.tmp 21) (.tmp 20) rfl rfl (by kernel_rfl) g3 k (lay l k) _ c HTS.out (by omega) rfl rfl _ hr3 ?_; intro w5 hr5 hb5))
      go_roundw
      case rel => exact ⟨k + 1, by omega, by go_num, hr5, hr2.but hb5 hne, hb.trans (hb5.below hg3')⟩
      case measure => simp [intOf]; omega
    · obtain rfl : k = 32 := by omega
      have HTE : Hid (lay l 32 = l) := lay_end l HL.out
      have hd : decide ((32 : Int) < (l.length : Int)) = false := by have := HL.out; simp; omega
      go_wp2_with (first
        | (refine wpList_load_arr Try.at32 rfl (.tmp 3) rfl g3 (cellsOf (lay l 32)) hct rfl hr3 ?_)
        | (refine wpList_store_arr Try.at32 rfl (.tmp 2) (.tmp 22) rfl rfl g2 (List.replicate 32 (.int .u8 0)) (cellsOf (lay l 32)) (by simp) hct (cellsOf_one _) rfl rfl hr2 ?_; intro w4 hr4 hb4))
      refine bodyPost_ret (results_arr Try.at32 rfl _ _ g2 _ hct rfl hr4) rfl ⟨?_, hb.trans (hb4.below hg2)⟩
      rw [HTE.out]

set_option maxHeartbeats 1000000 in
theorem name_any (w : World) (l : List UInt8) (hl : l.length = 32) :
    Calls Try.prog 15 #[.agg (cellsOf l).toArray] w fun e w' => e = .returned (.string ⟨(enc l.reverse).toArray⟩) ∧ Below w.heap.size w w' := by
  have hcl : (cellsOf l).length = 32 := by simp [cellsOf, hl]
  have hcr : (cellsOf l.reverse).length = 32 := by simp [cellsOf, hl]
  go_enter Try.func15, Try.ntmps15
  go_wp2_with (first
    | (refine wpList_box_arr rfl _ _ rfl (cellsOf l) rfl ?_; intro g1 w1 hg1 ha1 hb1)
    | (refine wpList_load_arr Try.at32 rfl (.tmp 1) rfl g1 (cellsOf l) hcl rfl ha1 ?_)
    | (go_at_call 19; refine (turned_any _ l hl).mono ?_; rintro e w2 ⟨rfl, hb2⟩)
    | (refine wpList_alloc_arr Try.at32 rfl rfl 3 rfl ?_; intro g3 w3 hg3 ha3 hb3)
    | (refine wpList_store_arr Try.at32 rfl (.tmp 3) (.tmp 5) rfl rfl g3 (List.replicate 32 (.int .u8 0)) (cellsOf l.reverse) (by simp) hcr (cellsOf_one _) rfl rfl ha3 ?_; intro w4 ha4 hb4)
    | (refine wpList_slice_arr Try.at32 rfl (.tmp 3) rfl g3 rfl ?_)
    | (go_at_call 9; refine (encode_any _ _ _ l.reverse (Arr.rd ha4 32 (by simp [hl])) (by simp [hl])).mono ?_; rintro e w5 ⟨rfl, hb5⟩))
  go_ret
  have hw : Below w.heap.size w w4 := Below.trans (Gr.trans (Gr.trans hb1 hb2) hb3) (hb4.below (by have := hb1.size; have := hb2.size; omega))
  exact ⟨rfl, Gr.trans hw hb5⟩

set_option maxHeartbeats 1000000 in
theorem refName_any (w : World) (l : List UInt8) (hl : l.length = 32) :
    Calls Try.prog 16 #[.agg (cellsOf l).toArray] w fun e w' => e = .returned (.string ⟨(enc l.reverse).toArray⟩) ∧ Below w.heap.size w w' := by
  go_enter Try.func16, Try.ntmps16
  go_wp2_with (first
    | (refine wpList_box_arr rfl _ _ rfl (cellsOf l) rfl ?_; intro g1 w1 hg1 ha1 hb1)
    | (refine wpList_slice_arr Try.at32 rfl (.tmp 1) rfl g1 rfl ?_)
    | (go_at_call 21; refine (refTurned_any _ _ _ l (Arr.rd ha1 32 (by simp [hl])) (by simp [hl])).mono ?_; rintro e w2 ⟨v2, rfl, ho2, hb2⟩)
    | (go_at_call 10; refine (refEncode_any _ _ _ l.reverse ho2.rd (by simp [hl])).mono ?_; rintro e w5 ⟨rfl, hb5⟩))
  go_ret
  exact ⟨rfl, Gr.trans (Gr.trans hb1 hb2) hb5⟩
end Go.Proofs.Ytdoopjejihfpaaa
