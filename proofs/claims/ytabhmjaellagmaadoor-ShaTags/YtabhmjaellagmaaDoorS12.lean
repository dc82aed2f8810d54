/-
  ShaPieces: what is written piece by piece has the hash of all of it.
-/
import Derived.Test.YtabhmjaellagmaaDoorS11
import Derived.Test.YtabhmjaellagmaaDoorLMem
namespace Go.Proofs.YtabhmjaellagmaaDoor
open Go.RowKit

theorem Hash.lt {w : World} {g : Nat} {all : List UInt8} (h : Hash w g all) : g < w.heap.size := by
  obtain ⟨nums, rest, h⟩ := h
  exact World.block_lt_of_cell? w _ h.n

set_option maxHeartbeats 2000000 in
theorem pieces_law (v : Value) (ls : List (List UInt8)) (w : World) (hr : RsL w v ls) (ht : Tabs w) (h2 : 2 ≤ w.heap.size) :
    Calls Tryd.prog 5 #[v] w fun e w' => e = .returned (.bool true) ∧ Below w.heap.size w w' := by
  have HNW : Hid (Calls Tryd.prog 17 #[] w fun e w'' => ∃ g, e = .returned (.pointer (some ⟨g, 0, none⟩)) ∧ w.heap.size ≤ g ∧ Hash w'' g [] ∧ Below w.heap.size w w'') := new_any w h2
  have Hu : Hid (RsL w v ls) := hr
  have HT : Hid (Tabs w) := ht
  have H2 : Hid (2 ≤ w.heap.size) := h2
  obtain ⟨ao, cap, rfl⟩ := hr.len
  clear hr ht h2
  go_enter Tryd.func5, Tryd.ntmps5
  go_wp2_with (go_at_call 17; refine HNW.out.mono ?_; rintro e w1 ⟨g, rfl, hg, hh, b1⟩; clear HNW; have HG : Hid (w.heap.size ≤ g) := hg; have HH : Hid (Hash w1 g []) := hh; have HB1 : Hid (Below w.heap.size w w1) := b1; clear hg hh b1)
  go_loopw [4, 5] (fun va i wr => ∃ (k : Nat) (acc : List UInt8), k ≤ ls.length ∧ k ≤ 20 ∧ i = .int .i64 k ∧ Own 5 (g + 1) wr va acc ∧ Hash wr g acc ∧ Below w.heap.size w wr ∧ acc.length ≤ 300 * k) (fun _ i _ => 20 - (intOf i).toNat)
  case atStart => exact ⟨0, [], Nat.zero_le _, by omega, rfl, Own.empty 5 (g + 1) w1 HH.out.lt, HH.out.gr ((Below.refl _ _).alloc (Nat.le_refl _) _), HB1.out.trans ((Below.refl _ _).alloc HB1.out.size _), by simp⟩
  case round =>
    obtain ⟨k, acc, hk, hk20, rfl, ho, hh, hb, hac⟩ := hrel
    have HO : Hid (Own 5 (g + 1) wr u4 acc) := ho
    have HHr : Hid (Hash wr g acc) := hh
    have HB : Hid (Below w.heap.size w wr) := hb
    have HAC : Hid (acc.length ≤ 300 * k) := hac
    have HK : Hid (k ≤ 20) := hk20
    clear ho hh hb hac
    by_cases hlt : k < ls.length
    · by_cases h20 : k < 20
      · obtain ⟨b, off, cap', e, hcap, hbB, hc⟩ := (RdL.below Hu.out HB.out).at (by omega)
        simp only [Value.slice.injEq] at e
        obtain ⟨rfl, -, rfl⟩ := e
        obtain ⟨a1, c1, hcell, hrd⟩ := hc k hlt
        obtain ⟨p, ep⟩ : ∃ p, ls[k] = p := ⟨_, rfl⟩
        rw [ep] at hcell hrd
        clear hc ep
        by_cases h3 : 300 < p.length
        · clear hrd
          go_wp2
          go_roundw
          case rel => exact ⟨k + 1, acc, by omega, by omega, by go_num, HO.out, HHr.out, HB.out, by have := HAC.out; omega⟩
          case measure => simp [intOf]; omega
        · have HR : Hid (Rd w.heap.size wr (.slice a1 p.length c1) p) := hrd
          have HC : Hid (∀ w', Below (g + 1) wr w' → w'.cell? ⟨b, off + k, none⟩ = some (.slice a1 p.length c1)) := fun w' hw => by rw [hw.cell (by show b < g + 1; have := HG.out; omega)]; exact hcell
          have HP : Hid (p.length ≤ 300) := Nat.le_of_not_lt h3
          have HWR : Hid (∀ w3, Below (g + 1) wr w3 → Calls Tryd.prog 18 #[.pointer (some ⟨g, 0, none⟩), .slice a1 p.length c1] w3 fun e w' => e = .returned (.tuple #[]) ∧ Hash w' g (acc ++ p) ∧ Gx g w3 w') := fun w3 hw => by
            have hg := HG.out
            have hb3 : Below w.heap.size wr w3 := hw.mono (by omega)
            have hac := HAC.out
            exact write_any g w.heap.size acc p _ w3 (HHr.out.below hw (by omega)) (HT.out.gr (HB.out.trans hb3)) (HR.out.below hb3) (fun hl => by
              obtain ⟨b0, o0, c0, e0, _, hb0, _⟩ := HR.out.at hl
              rw [e0]
              intro a n c e
              simp only [Value.slice.injEq, Option.some.injEq] at e
              obtain ⟨rfl, _, _⟩ := e
              show b0 ≠ g
              omega) (by have := HP.out; omega)
          have HQ : Hid ((acc ++ p).length ≤ 300 * (k + 1)) := by show _ ≤ _; rw [List.length_append]; have := HAC.out; have := HP.out; omega
          have HQ9 : Hid (acc.length + p.length ≤ 70368744177664) := by show _ ≤ _; have := HAC.out; have := HP.out; omega
          obtain ⟨q, eq⟩ : ∃ q, acc ++ p = q := ⟨_, rfl⟩
          rw [eq] at HWR HQ
          have HEQ : Hid (acc ++ p = q) := eq
          have hz : IntKind.u64.wrap (q.length : Int) = q.length := by rw [IntKind.wrap_u64]; have := HQ.out; omega
          have HSU : Hid (∀ w', Below w.heap.size w w' → Hash w' g q → Calls Tryd.prog 19 #[.pointer (some ⟨g, 0, none⟩)] w' fun e w'' => e = .returned (.agg (cellsOf (hsh q)).toArray) ∧ Below w'.heap.size w' w'') := fun w' hw hh => sum_any g q w' hh (HT.out.gr hw) (by have := HQ.out; have := HK.out; omega)
          have HSS : Hid (∀ w' u, Below w.heap.size w w' → Rd w'.heap.size w' u q → Calls Tryd.prog 11 #[u] w' fun e w'' => e = .returned (.agg (cellsOf (hsh q)).toArray) ∧ Below w'.heap.size w' w'') := fun w' u hw hu => shasum_any _ q u w' hu (HT.out.gr hw) (Nat.le_trans H2.out (Below.size hw)) (by have := HQ.out; have := HK.out; omega)
          have HLN : Hid (∀ w', Hash w' g q → Calls Tryd.prog 20 #[.pointer (some ⟨g, 0, none⟩)] w' fun e w'' => e = .returned (.int .u64 (q.length : Int)) ∧ w'' = w') := fun w' hh => by
            obtain ⟨_, _, hs⟩ := hh
            exact len_any g q.length w' hs.n
          have HL : Hid ((hsh q).length = 32) := hsh_length q
          obtain ⟨H, eH⟩ : ∃ H, hsh q = H := ⟨_, rfl⟩
          rw [eH] at HSU HSS HL
          clear eH eq hrd
          have HGL : Hid (g + 1 ≤ wr.heap.size) := HHr.out.lt
          go_wp2_with ((first
            | (refine wpList_append_rd Tryd.bt rfl (.tmp 26) (.tmp 30) rfl (g + 1) w.heap.size _ _ acc p rfl HO.out rfl HR.out HQ9.out HGL.out ?_; intro v3 w3 ho3 hb3; rw [HEQ.out] at ho3; have hcell3 := HC.out w3 hb3; have HO3 : Hid (Own 5 (g + 1) w3 v3 q) := ho3; have HB3 : Hid (Below (g + 1) wr w3) := hb3; clear ho3 hb3 hcell HC)
            | (go_at_call 18; refine (HWR.out _ HB3.out).mono ?_; rintro e w4 ⟨rfl, hh4, hx4⟩; have HO4 : Hid (Own 5 (g + 1) w4 v3 q) := HO3.out.gx hx4 (Nat.lt_succ_self g); have HB4 : Hid (Below w.heap.size w w4) := HB.out.trans ((HB3.out.mono (by have := HG.out; omega)).trans (hx4.below HG.out (Nat.le_trans HB.out.size HB3.out.size))); have HH4 : Hid (Hash w4 g q) := hh4; clear hh4 hx4 HB3 HO3 HWR hcell3)
            | (go_at_call 19; refine (HSU.out _ HB4.out HH4.out).mono ?_; rintro e w5 ⟨rfl, b5⟩; have HO5 : Hid (Own 5 (g + 1) w5 v3 q) := HO4.out.keep b5; have HB5 : Hid (Below w.heap.size w w5) := HB4.out.trans (Below.mono b5 HB4.out.size); have HH5 : Hid (Hash w5 g q) := HH4.out.gr b5; clear HO4 HB4 HH4 b5 HSU)
            | (go_at_call 11; refine (HSS.out _ _ HB5.out HO5.out.rd).mono ?_; rintro e w6 ⟨rfl, b6⟩; have HO6 : Hid (Own 5 (g + 1) w6 v3 q) := HO5.out.keep b6; have HB6 : Hid (Below w.heap.size w w6) := HB5.out.trans (Below.mono b6 HB5.out.size); have HH6 : Hid (Hash w6 g q) := HH5.out.gr b6; clear HO5 HB5 HH5 b6 HSS; obtain ⟨a3, c3, e3⟩ := HO6.out.rd.len; subst e3)
            | (refine wpList_val rfl (.bool false) (exec_neq_same (.tmp 39) (.tmp 41) _ rfl H HL.out rfl rfl) ?_)
            | (go_at_call 20; refine (HLN.out _ HH6.out).mono ?_; rintro e w7 ⟨rfl, h7⟩; rw [h7]; clear h7 w7 HLN)); try simp only [Act.put, List.setIfInBounds_toArray, List.set_cons_succ, List.set_cons_zero])
          go_roundw
          case rel => exact ⟨k + 1, q, by omega, by omega, by go_num, HO6.out, HH6.out, HB6.out, HQ.out⟩
          case measure => simp [intOf]; omega
      · have HAL : Hid (Calls Tryd.prog 10 #[] wr fun e w'' => e = .returned (.bool true) ∧ Below wr.heap.size wr w'') := alive_any wr (HT.out.gr HB.out) (Nat.le_trans H2.out HB.out.size)
        have HSU : Hid (∀ w', Below w.heap.size w w' → Hash w' g acc → Calls Tryd.prog 19 #[.pointer (some ⟨g, 0, none⟩)] w' fun e w'' => e = .returned (.agg (cellsOf (hsh acc)).toArray) ∧ Below w'.heap.size w' w'') := fun w' hw hh => sum_any g acc w' hh (HT.out.gr hw) (by have := HAC.out; have := HK.out; omega)
        have HSS : Hid (∀ w' u, Below w.heap.size w w' → Rd w'.heap.size w' u acc → Calls Tryd.prog 11 #[u] w' fun e w'' => e = .returned (.agg (cellsOf (hsh acc)).toArray) ∧ Below w'.heap.size w' w'') := fun w' u hw hu => shasum_any _ acc u w' hu (HT.out.gr hw) (Nat.le_trans H2.out (Below.size hw)) (by have := HAC.out; have := HK.out; omega)
        have HL : Hid ((hsh acc).length = 32) := hsh_length acc
        obtain ⟨H, eH⟩ : ∃ H, hsh acc = H := ⟨_, rfl⟩
        rw [eH] at HSU HSS HL
        clear eH
        go_wp2_with ((first
          | (go_at_call 10; refine HAL.out.mono ?_; rintro e w4 ⟨rfl, b4⟩; have HO4 : Hid (Own 5 (g + 1) w4 u4 acc) := HO.out.keep b4; have HB4 : Hid (Below w.heap.size w w4) := HB.out.trans (Below.mono b4 HB.out.size); have HH4 : Hid (Hash w4 g acc) := HHr.out.gr b4; clear b4 HAL)
          | (go_at_call 19; refine (HSU.out _ HB4.out HH4.out).mono ?_; rintro e w5 ⟨rfl, b5⟩; have HO5 : Hid (Own 5 (g + 1) w5 u4 acc) := HO4.out.keep b5; have HB5 : Hid (Below w.heap.size w w5) := HB4.out.trans (Below.mono b5 HB4.out.size); clear HO4 HB4 HH4 b5 HSU)
          | (go_at_call 11; refine (HSS.out _ _ HB5.out HO5.out.rd).mono ?_; rintro e w6 ⟨rfl, b6⟩; have HB6 : Hid (Below w.heap.size w w6) := HB5.out.trans (Below.mono b6 HB5.out.size); clear HO5 HB5 b6 HSS)
          | (refine wpList_valG rfl (.bool true) (exec_eql_same (.tmp 54) (.tmp 56) _ rfl H HL.out rfl rfl) ?_)); try simp only [Act.put, List.setIfInBounds_toArray, List.set_cons_succ, List.set_cons_zero])
        go_ret
        exact ⟨rfl, HB6.out⟩
    · have HAL : Hid (Calls Tryd.prog 10 #[] wr fun e w'' => e = .returned (.bool true) ∧ Below wr.heap.size wr w'') := alive_any wr (HT.out.gr HB.out) (Nat.le_trans H2.out HB.out.size)
      have HSU : Hid (∀ w', Below w.heap.size w w' → Hash w' g acc → Calls Tryd.prog 19 #[.pointer (some ⟨g, 0, none⟩)] w' fun e w'' => e = .returned (.agg (cellsOf (hsh acc)).toArray) ∧ Below w'.heap.size w' w'') := fun w' hw hh => sum_any g acc w' hh (HT.out.gr hw) (by have := HAC.out; have := HK.out; omega)
      have HSS : Hid (∀ w' u, Below w.heap.size w w' → Rd w'.heap.size w' u acc → Calls Tryd.prog 11 #[u] w' fun e w'' => e = .returned (.agg (cellsOf (hsh acc)).toArray) ∧ Below w'.heap.size w' w'') := fun w' u hw hu => shasum_any _ acc u w' hu (HT.out.gr hw) (Nat.le_trans H2.out (Below.size hw)) (by have := HAC.out; have := HK.out; omega)
      have HL : Hid ((hsh acc).length = 32) := hsh_length acc
      obtain ⟨H, eH⟩ : ∃ H, hsh acc = H := ⟨_, rfl⟩
      rw [eH] at HSU HSS HL
      clear eH
      go_wp2_with ((first
        | (go_at_call 10; refine HAL.out.mono ?_; rintro e w4 ⟨rfl, b4⟩; have HO4 : Hid (Own 5 (g + 1) w4 u4 acc) := HO.out.keep b4; have HB4 : Hid (Below w.heap.size w w4) := HB.out.trans (Below.mono b4 HB.out.size); have HH4 : Hid (Hash w4 g acc) := HHr.out.gr b4; clear b4 HAL)
        | (go_at_call 19; refine (HSU.out _ HB4.out HH4.out).mono ?_; rintro e w5 ⟨rfl, b5⟩; have HO5 : Hid (Own 5 (g + 1) w5 u4 acc) := HO4.out.keep b5; have HB5 : Hid (Below w.heap.size w w5) := HB4.out.trans (Below.mono b5 HB4.out.size); clear HO4 HB4 HH4 b5 HSU)
        | (go_at_call 11; refine (HSS.out _ _ HB5.out HO5.out.rd).mono ?_; rintro e w6 ⟨rfl, b6⟩; have HB6 : Hid (Below w.heap.size w w6) := HB5.out.trans (Below.mono b6 HB5.out.size); clear HO5 HB5 b6 HSS)
        | (refine wpList_valG rfl (.bool true) (exec_eql_same (.tmp 54) (.tmp 56) _ rfl H HL.out rfl rfl) ?_)); try simp only [Act.put, List.setIfInBounds_toArray, List.set_cons_succ, List.set_cons_zero])
      go_ret
      exact ⟨rfl, HB6.out⟩
end Go.Proofs.YtabhmjaellagmaaDoor
