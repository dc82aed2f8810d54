/-
  Contracts of package bech: Spread, Gather.
-/
import Derived.Test.YtemgaoikngebeaaDoorB10
namespace Go.Proofs.YtemgaoikngebeaaDoor
open Go.RowKit

set_option maxHeartbeats 1000000 in
theorem spread_any (w : World) (B : Nat) (v : Value) (l : List UInt8) (h : Rd B w v l) (hl : l.length ≤ 100000) :
    Calls Tryd.prog 19 #[v] w fun e w' => ∃ v', e = .returned v' ∧ Own 5 w.heap.size w' v' (spr l) ∧ Below w.heap.size w w' := by
  have hr := regroup85 w B v l h hl
  clear h
  go_enter Tryd.func19, Tryd.ntmps19
  go_wp2_with fail
  refine hr.mono ?_
  rintro e w1 ⟨v1, g, x, c, rfl, ho1, hb1, hi, hc⟩
  have HS := spr_of hi hc
  have Ho1 : Hid (Own 5 w.heap.size w1 v1 g) := ho1
  have Hb1 : Hid (Below w.heap.size w w1) := hb1
  have hgl : g.length ≤ 1000000 := by have := hi.1; omega
  have HX : Hid (x < 16) := by
    have h5 := (hi.2.2 (bytes_small l)).2.1
    have h6 : 2 ^ c ≤ 2 ^ 4 := Nat.pow_le_pow_right (by decide) (by omega)
    show _ < _
    omega
  obtain rfl | rfl | rfl | rfl | rfl : c = 0 ∨ c = 1 ∨ c = 2 ∨ c = 3 ∨ c = 4 := by omega
  · have HG : Hid (g = spr l) := HS.1 rfl
    clear hr ho1 hb1 hi hc HS
    go_wp2
    go_ret
    exact ⟨_, rfl, by rw [← HG.out]; exact Ho1.out, Hb1.out⟩
  · have HG : Hid (g ++ [UInt8.ofNat (x * 2 ^ (5 - 1))] = spr l) := HS.2 (by decide)
    have hx : x < 16 := HX.out
    have HD : Hid ((x : Int) * 16 = ((UInt8.ofNat (x * 2 ^ (5 - 1))).toNat : Int)) := by show _ = _; simp only [UInt8.toNat_ofNat']; omega
    generalize UInt8.ofNat (x * 2 ^ (5 - 1)) = u at HG HD
    clear hr ho1 hb1 hi hc HS
    go_wp2_with (at_builtin; refine wpList_append_rd Tryd.bt rfl (.tmp 14) (.tmp 20) rfl w.heap.size _ _ _ _ [u] rfl (Ho1.out.alloc _) rfl (Rd.one 5 _ _ _ HD.out) (by show _ + 1 ≤ _; omega) (by have := Hb1.out.size; simp; omega) ?_; intro v2 w2 ho2 hb2)
    go_ret
    exact ⟨_, rfl, by rw [← HG.out]; exact ho2, Hb1.out.trans (((Below.refl _ _).alloc (by have := Hb1.out.size; omega) _).trans hb2)⟩
  · have HG : Hid (g ++ [UInt8.ofNat (x * 2 ^ (5 - 2))] = spr l) := HS.2 (by decide)
    have hx : x < 16 := HX.out
    have HD : Hid ((x : Int) * 8 = ((UInt8.ofNat (x * 2 ^ (5 - 2))).toNat : Int)) := by show _ = _; simp only [UInt8.toNat_ofNat']; omega
    generalize UInt8.ofNat (x * 2 ^ (5 - 2)) = u at HG HD
    clear hr ho1 hb1 hi hc HS
    go_wp2_with (at_builtin; refine wpList_append_rd Tryd.bt rfl (.tmp 14) (.tmp 20) rfl w.heap.size _ _ _ _ [u] rfl (Ho1.out.alloc _) rfl (Rd.one 5 _ _ _ HD.out) (by show _ + 1 ≤ _; omega) (by have := Hb1.out.size; simp; omega) ?_; intro v2 w2 ho2 hb2)
    go_ret
    exact ⟨_, rfl, by rw [← HG.out]; exact ho2, Hb1.out.trans (((Below.refl _ _).alloc (by have := Hb1.out.size; omega) _).trans hb2)⟩
  · have HG : Hid (g ++ [UInt8.ofNat (x * 2 ^ (5 - 3))] = spr l) := HS.2 (by decide)
    have hx : x < 16 := HX.out
    have HD : Hid ((x : Int) * 4 = ((UInt8.ofNat (x * 2 ^ (5 - 3))).toNat : Int)) := by show _ = _; simp only [UInt8.toNat_ofNat']; omega
    generalize UInt8.ofNat (x * 2 ^ (5 - 3)) = u at HG HD
    clear hr ho1 hb1 hi hc HS
    go_wp2_with (at_builtin; refine wpList_append_rd Tryd.bt rfl (.tmp 14) (.tmp 20) rfl w.heap.size _ _ _ _ [u] rfl (Ho1.out.alloc _) rfl (Rd.one 5 _ _ _ HD.out) (by show _ + 1 ≤ _; omega) (by have := Hb1.out.size; simp; omega) ?_; intro v2 w2 ho2 hb2)
    go_ret
    exact ⟨_, rfl, by rw [← HG.out]; exact ho2, Hb1.out.trans (((Below.refl _ _).alloc (by have := Hb1.out.size; omega) _).trans hb2)⟩
  · have HG : Hid (g ++ [UInt8.ofNat (x * 2 ^ (5 - 4))] = spr l) := HS.2 (by decide)
    have hx : x < 16 := HX.out
    have HD : Hid ((x : Int) * 2 = ((UInt8.ofNat (x * 2 ^ (5 - 4))).toNat : Int)) := by show _ = _; simp only [UInt8.toNat_ofNat']; omega
    generalize UInt8.ofNat (x * 2 ^ (5 - 4)) = u at HG HD
    clear hr ho1 hb1 hi hc HS
    go_wp2_with (at_builtin; refine wpList_append_rd Tryd.bt rfl (.tmp 14) (.tmp 20) rfl w.heap.size _ _ _ _ [u] rfl (Ho1.out.alloc _) rfl (Rd.one 5 _ _ _ HD.out) (by show _ + 1 ≤ _; omega) (by have := Hb1.out.size; simp; omega) ?_; intro v2 w2 ho2 hb2)
    go_ret
    exact ⟨_, rfl, by rw [← HG.out]; exact ho2, Hb1.out.trans (((Below.refl _ _).alloc (by have := Hb1.out.size; omega) _).trans hb2)⟩

theorem gat_cmp {l g : List UInt8} {x c : Nat} (h : Inv 5 8 l l.length g x c) (hc : c < 8) : decide (spr g = l) = gatOk l ∧ (gatOk l = true → g = gat l) := by
  by_cases hl : ∀ v ∈ l, v.toNat < 32
  · have hg := gat_of h hc hl
    have ha : l.all (fun c => decide (c.toNat ≤ 31)) = true := by
      rw [List.all_eq_true]; intro v hv; have := hl v hv; simp; omega
    exact ⟨by rw [gatOk, ha, ← hg]; simp, fun _ => hg⟩
  · have ha : l.all (fun c => decide (c.toNat ≤ 31)) = false := by
      rw [Bool.eq_false_iff]
      intro h1
      apply hl
      intro v hv
      rw [List.all_eq_true] at h1
      have := h1 v hv
      simp at this; omega
    have hn : ¬ spr g = l := fun e => hl (by rw [← e]; exact spr_lt g)
    rw [gatOk, ha]
    exact ⟨by simp [hn], fun h => by simp at h⟩

set_option maxHeartbeats 1000000 in
theorem gather_any (w : World) (B : Nat) (v : Value) (l : List UInt8) (h : Rd B w v l) (hl : l.length ≤ 100000) :
    Calls Tryd.prog 17 #[v] w fun e w' => ∃ v', e = .returned (.tuple #[v', .int .i64 (gatE l)]) ∧ Own 5 w.heap.size w' v' (gatL l) ∧ Below w.heap.size w w' := by
  have hrd : Hid (Rs w v l) := h.rs
  clear h
  go_enter Tryd.func17, Tryd.ntmps17
  go_wp2_with fail
  refine (regroup58 w _ v l hrd.out hl).mono ?_
  rintro e w1 ⟨v1, g, x, c, rfl, ho1, hb1, hi, hc⟩
  have hgl : g.length ≤ 100000 := by have := hi.1; omega
  obtain ⟨hq1, hq2⟩ := gat_cmp hi hc
  have Hq1 : Hid (decide (spr g = l) = gatOk l) := hq1
  have Hq2 : Hid (gatOk l = true → g = gat l) := hq2
  have Ho1 : Hid (Own 5 w.heap.size w1 v1 g) := ho1
  have Hb1 : Hid (Below w.heap.size w w1) := hb1
  clear ho1 hb1 hi hc hq1 hq2
  go_wp2_with fail
  refine (spread_any w1 _ v1 g Ho1.out.rd hgl).mono ?_
  rintro e w2 ⟨v2, rfl, ho2, hb2⟩
  have Ho2 : Hid (Own 5 w1.heap.size w2 v2 (spr g)) := ho2
  have Hb2 : Hid (Gr w w2) := Gr.trans Hb1.out hb2
  have Ho1' : Hid (Own 5 w.heap.size w2 v1 g) := Ho1.out.keep hb2
  clear ho2 hb2
  go_wp2_with fail
  refine (equal_any w2 _ _ v2 v _ l Ho2.out.rd (hrd.out.gr Hb2.out)).mono ?_
  rw [Hq1.out]
  rintro e w3 ⟨rfl, rfl⟩
  cases hk : gatOk l with
  | true =>
    have HE : Hid (gatL l = g ∧ gatE l = 0) := ⟨by rw [(gat_ok hk).1, Hq2.out hk], (gat_ok hk).2⟩
    clear hk
    go_wp2
    go_ret2
    rw [HE.out.1, HE.out.2]
    exact ⟨_, rfl, Ho1'.out, Hb2.out⟩
  | false =>
    have HE : Hid (gatL l = [] ∧ gatE l = 3) := gat_no hk
    clear hk
    go_wp2
    go_ret2
    rw [HE.out.1, HE.out.2]
    exact ⟨_, rfl, Own.nil _ _ _, Hb2.out⟩
end Go.Proofs.YtemgaoikngebeaaDoor
