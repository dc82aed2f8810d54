/-
  Contract of slices.Reverse, on the 32 bytes of an array.
-/
import Derived.Test.YtpfoeeiacfadfaaX2
namespace Go.Proofs.Ytpfoeeiacfadfaa
open Go.RowKit

theorem Try.sbR : ST Try.prog 62 5 1 1 (.int .u8 0) := ⟨by kernel_rfl, by kernel_rfl, rfl, by decide, by decide⟩
theorem Try.u8R : Try.prog.underlying 5 = some (.int .u8) := by kernel_rfl
theorem Try.oneR : (Try.prog.info? 5).map (·.size) = some 1 := by kernel_rfl
/-- The first so many places, each exchanged with its mate. -/
def sw (l : List UInt8) : Nat → List UInt8
  | 0 => l
  | i + 1 => ((sw l i).set i ((sw l i).getD (31 - i) 0)).set (31 - i) ((sw l i).getD i 0)
theorem sw_len (l : List UInt8) : ∀ i, (sw l i).length = l.length
  | 0 => rfl
  | i + 1 => by show (List.set _ _ _).length = _; rw [List.length_set, List.length_set, sw_len l i]
theorem getD_set8 (l : List UInt8) (i j : Nat) (v : UInt8) (h : i < l.length) : (l.set i v).getD j 0 = if i = j then v else l.getD j 0 := by
  rw [List.getD_eq_getElem?_getD, List.getD_eq_getElem?_getD, List.getElem?_set]
  by_cases e : i = j
  · subst e; simp [h]
  · simp [e]
theorem sw_get {l : List UInt8} (hl : l.length = 32) : ∀ i, i ≤ 16 → ∀ j, j < 32 → (sw l i).getD j 0 = if j < i ∨ 31 - j < i then l.getD (31 - j) 0 else l.getD j 0
  | 0, _, j, _ => by rw [if_neg (by omega)]; rfl
  | i + 1, hi, j, hj => by
    have h1 := sw_get hl i (by omega)
    have hs : (sw l i).length = 32 := (sw_len l i).trans hl
    show (((sw l i).set i ((sw l i).getD (31 - i) 0)).set (31 - i) ((sw l i).getD i 0)).getD j 0 = _
    rw [getD_set8 _ _ _ _ (by rw [List.length_set]; omega), getD_set8 _ _ _ _ (by omega), h1 i (by omega), h1 (31 - i) (by omega), h1 j hj]
    by_cases c1 : 31 - i = j
    · rw [if_pos c1, if_neg (by omega), if_pos (show j < i + 1 ∨ 31 - j < i + 1 by omega)]
      congr 1; omega
    · rw [if_neg c1]
      by_cases c2 : i = j
      · rw [if_pos c2, if_neg (by omega), if_pos (show j < i + 1 ∨ 31 - j < i + 1 by omega)]
        congr 1; omega
      · rw [if_neg c2]
        by_cases c3 : j < i ∨ 31 - j < i
        · rw [if_pos c3, if_pos (by omega)]
        · rw [if_neg c3, if_neg (by omega)]
theorem sw_all' {l : List UInt8} (n : Nat) (hn : n = 16) (h : l.length = 32) : sw l n = l.reverse := by
  refine List.ext_getElem (by rw [sw_len, List.length_reverse]) fun j h1 h2 => ?_
  have hj : j < 32 := by rw [sw_len, h] at h1; exact h1
  have e1 : (sw l n)[j] = (sw l n).getD j 0 := by simp [List.getD_eq_getElem?_getD, List.getElem?_eq_getElem h1]
  rw [e1, sw_get h n (by omega) j hj, List.getElem_reverse, if_pos (by omega)]
  have h3 : 31 - j < l.length := by omega
  simp [List.getD_eq_getElem?_getD, List.getElem?_eq_getElem h3, h]
theorem sw_all {l : List UInt8} (h : l.length = 32) : sw l 16 = l.reverse := sw_all' 16 rfl h
theorem cells_get {l : List UInt8} {j : Nat} (h : j < l.length) : (cellsOf l)[j]? = some (.int .u8 ((l.getD j 0).toNat : Int)) := by
  unfold cellsOf
  rw [List.getElem?_map, List.getElem?_eq_getElem h]
  simp [List.getD_eq_getElem?_getD, List.getElem?_eq_getElem h]
theorem cells_set {l : List UInt8} {j : Nat} (c : UInt8) (h : j < l.length) : (cellsOf l).take j ++ [Value.int .u8 (c.toNat : Int)] ++ (cellsOf l).drop (j + 1) = cellsOf (l.set j c) := by
  rw [List.set_eq_take_append_cons_drop, if_pos h]
  unfold cellsOf
  rw [List.map_append, List.map_cons, List.map_take, List.map_drop, List.append_assoc]
  rfl

set_option maxHeartbeats 1000000 in
theorem reverse_any {w0 w : World} {L : List Res} (m : Mo w0 w L) (k g : Nat) (T : TypeId) (l : List UInt8) (hl : l.length = 32) (hk : L[k]? = some (.arr g T (cellsOf l))) :
    Calls Try.prog 61 #[.slice (some ⟨g, 0, none⟩) 32 32] w fun e w' => e = .returned (.tuple #[]) ∧ Mo w0 w' (L.set k (.arr g T (cellsOf l.reverse))) := by
  have hkl : k < L.length := (List.getElem?_eq_some_iff.1 hk).1
  have hget : ∀ r : Res, (L.set k r)[k]? = some r := fun r => List.getElem?_set_self hkl
  have m0 : Mo w0 w (L.set k (.arr g T (cellsOf (sw l 0)))) := by
    have e : L.set k (.arr g T (cellsOf (sw l 0))) = L := by
      refine List.ext_getElem? fun i => ?_
      by_cases h : k = i
      · subst h; rw [hget, hk]; rfl
      · rw [List.getElem?_set_ne h]
    rw [e]; exact m
  obtain ⟨S, hS⟩ : ∃ S : Value, S = .slice (some ⟨g, 0, none⟩) 32 32 := ⟨_, rfl⟩
  rw [← hS]
  have rc : ∀ {w1 : World} {l' : List UInt8}, Mo w0 w1 (L.set k (.arr g T (cellsOf l'))) → Rc w1.heap.size w1 S 32 (cellsOf l') := fun m1 => by rw [hS]; exact m1.arc k (hget _) 32
  have heP : ∀ j : Nat, eP S j = .pointer (some ⟨g, j, none⟩) := fun j => by
    rw [hS]
    show Value.pointer (some (Addr.add ⟨g, 0, none⟩ j)) = _
    unfold Addr.add; split <;> simp_all
  clear hS
  refine enter [S] 28 Try.func61 rfl Try.ntmps61 (Nat.le_of_ble_eq_true rfl) ?_
  refine sq ?_
  refine cz [(0, S)] ⟨rfl, trivial⟩ (fun _ => ?_)
  refine rp [0, 1, 0, 0, 0] ?_
  refine k0 (wt_none rfl _) rfl S (fun _ _ => exec_move (.tmp 0) (.inl rfl) _ rfl) ?_
  refine k1 (wt_none rfl _) rfl (.int .i64 ((32 : Nat) : Int)) (x_len Try.sbR.sl (.tmp 4) rfl (rc m0) rfl) ?_
  refine k0 (wt_none rfl _) rfl (.int .i64 ((31 : Nat) : Int)) (fun _ _ => x_sub (.tmp 5) (.const (.int .i64 1)) _ _ rfl 32 1 31 .i64 (by exact ⟨rfl, (show 31 < 9223372036854775808 by decide)⟩) rfl rfl) ?_
  refine k0 (wt_none rfl _) rfl (.int .i64 0) (fun _ _ => exec_move (.const (.int .i64 0)) (.inr rfl) _ rfl) ?_
  refine k0 (wt_none rfl _) rfl (.int .i64 ((31 : Nat) : Int)) (fun _ _ => exec_move (.tmp 6) (.inr rfl) _ rfl) ?_
  refine kend ?_
  refine th_n ?_
  refine bk ?_
  refine lp (fun (i : Nat) => [(0, S), (2, .int .i64 ((i : Nat) : Int)), (3, .int .i64 ((31 - i : Nat) : Int))]) (fun (i : Nat) w1 => i ≤ 16 ∧ Mo w0 w1 (L.set k (.arr g T (cellsOf (sw l i))))) (fun (i : Nat) => 16 - i) 0 ⟨rfl, rfl, rfl, trivial⟩ ⟨by decide, m0⟩ ?_
  rintro i _ w1 ⟨hi, m1⟩
  replace hi : i ≤ 16 := hi
  have hsl : (sw l i).length = 32 := (sw_len l i).trans hl
  refine cz [(0, S), (2, .int .i64 ((i : Nat) : Int)), (3, .int .i64 ((31 - i : Nat) : Int))] ⟨rfl, rfl, rfl, trivial⟩ (fun _ => ?_)
  by_cases hlt : i < 16
  · refine sq ?_
    refine sq ?_
    refine rp [0, 0, 0] ?_
    refine k0 (wt_none rfl _) rfl (.int .i64 ((i : Nat) : Int)) (fun _ _ => exec_move (.tmp 2) (.inl rfl) _ rfl) ?_
    refine k0 (wt_none rfl _) rfl (.int .i64 ((31 - i : Nat) : Int)) (fun _ _ => exec_move (.tmp 3) (.inl rfl) _ rfl) ?_
    refine k0 (wt_none rfl _) rfl (.bool true) (fun _ _ => x_lss_t (.tmp 7) (.tmp 8) _ _ rfl i (31 - i) .i64 (by omega) rfl rfl) ?_
    refine kend ?_
    refine th_n ?_
    refine cdt rfl ?_
    refine sk ?_
    refine th_n ?_
    refine sq ?_
    refine bk ?_
    refine cz [(0, S), (2, .int .i64 ((i : Nat) : Int)), (3, .int .i64 ((31 - i : Nat) : Int))] ⟨rfl, rfl, rfl, trivial⟩ (fun _ => ?_)
    have m2 := m1.drew
    refine rq (fun w2 => ∃ l' : List UInt8, l'.length = 32 ∧ Mo w0 w2 (L.set k (.arr g T (cellsOf l')))) [0, 0, 0, 0, 0, 0, 0, 1, 0, 0, 0, 1, 0, 2, 0, 2] (by kernel_rfl) (by kernel_rfl) (by kernel_rfl) ⟨_, hsl, m2⟩ ?_
    refine k0 (wt_none rfl _) rfl S (fun _ _ => exec_move (.tmp 0) (.inl rfl) _ rfl) ?_
    refine k0 (wt_none rfl _) rfl (.int .i64 ((i : Nat) : Int)) (fun _ _ => exec_move (.tmp 2) (.inl rfl) _ rfl) ?_
    refine k0 (wt_none rfl _) rfl S (fun _ _ => exec_move (.tmp 0) (.inl rfl) _ rfl) ?_
    refine k0 (wt_none rfl _) rfl (.int .i64 ((31 - i : Nat) : Int)) (fun _ _ => exec_move (.tmp 3) (.inl rfl) _ rfl) ?_
    refine k0 (wt_none rfl _) rfl S (fun _ _ => exec_move (.tmp 0) (.inl rfl) _ rfl) ?_
    refine k0 (wt_none rfl _) rfl (.int .i64 ((31 - i : Nat) : Int)) (fun _ _ => exec_move (.tmp 3) (.inl rfl) _ rfl) ?_
    refine k0 (wt_none rfl _) rfl (eP S (31 - i)) (fun _ ⟨_, _, m'⟩ => x_ep Try.sbR (.tmp 18) (.tmp 19) rfl (rc m') (31 - i) .i64 (31 - i) (Nat.mul_one _) (by omega) rfl _ rfl rfl) ?_
    refine k1 (wt_none rfl _) rfl (.int .u8 (((sw l i).getD (31 - i) 0).toNat : Int)) (x_ldp Try.u8R (.tmp 20) rfl (rc m2) (31 - i) (by decide) _ (cells_get (by omega)) rfl) ?_
    refine k0 (wt_none rfl _) rfl S (fun _ _ => exec_move (.tmp 0) (.inl rfl) _ rfl) ?_
    refine k0 (wt_none rfl _) rfl (.int .i64 ((i : Nat) : Int)) (fun _ _ => exec_move (.tmp 2) (.inl rfl) _ rfl) ?_
    refine k0 (wt_none rfl _) rfl (eP S i) (fun _ ⟨_, _, m'⟩ => x_ep Try.sbR (.tmp 22) (.tmp 23) rfl (rc m') i .i64 i (Nat.mul_one _) (by omega) rfl _ rfl rfl) ?_
    refine k1 (wt_none rfl _) rfl (.int .u8 (((sw l i).getD i 0).toNat : Int)) (x_ldp Try.u8R (.tmp 24) rfl (rc m2) i (by decide) _ (cells_get (by omega)) rfl) ?_
    refine k0 (wt_none rfl _) rfl (eP S i) (fun _ ⟨_, _, m'⟩ => x_ep Try.sbR (.tmp 14) (.tmp 15) rfl (rc m') i .i64 i (Nat.mul_one _) (by omega) rfl _ rfl rfl) ?_
    refine ks (wt_none rfl _) rfl rfl (x_sta (.tmp 26) (.tmp 21) rfl m2 k (hget _) i [.int .u8 (((sw l i).getD (31 - i) 0).toNat : Int)] (cellsOf ((sw l i).set i ((sw l i).getD (31 - i) 0))) Try.oneR (by rw [cellsOf_length, hsl]; show i + 1 ≤ 32; omega) (fun c hc => by rw [List.mem_singleton.1 hc]; rfl) (cells_set _ (by omega)) (heP i) _ rfl rfl) ?_
    rintro w3 m3
    rw [List.set_set] at m3
    have hs2 : ((sw l i).set i ((sw l i).getD (31 - i) 0)).length = 32 := by rw [List.length_set, hsl]
    refine ⟨⟨_, hs2, m3⟩, ?_⟩
    refine k0 (wt_none rfl _) rfl (eP S (31 - i)) (fun _ ⟨_, _, m'⟩ => x_ep Try.sbR (.tmp 16) (.tmp 17) rfl (rc m') (31 - i) .i64 (31 - i) (Nat.mul_one _) (by omega) rfl _ rfl rfl) ?_
    refine ks (wt_none rfl _) rfl rfl (x_sta (.tmp 27) (.tmp 25) rfl m3 k (hget _) (31 - i) [.int .u8 (((sw l i).getD i 0).toNat : Int)] (cellsOf (sw l (i + 1))) Try.oneR (by rw [cellsOf_length, hs2]; show 31 - i + 1 ≤ 32; omega) (fun c hc => by rw [List.mem_singleton.1 hc]; rfl) (cells_set _ (by omega)) (heP (31 - i)) _ rfl rfl) ?_
    rintro w4 m4
    rw [List.set_set] at m4
    refine ⟨⟨_, (sw_len l (i + 1)).trans hl, m4⟩, ?_⟩
    refine kend ?_
    refine ib_n ?_
    refine th_n ?_
    refine cz [(0, S), (2, .int .i64 ((i : Nat) : Int)), (3, .int .i64 ((31 - i : Nat) : Int))] ⟨rfl, rfl, rfl, trivial⟩ (fun _ => ?_)
    refine rp [0, 0, 0, 0, 0, 0] ?_
    refine k0 (wt_none rfl _) rfl (.int .i64 ((i : Nat) : Int)) (fun _ _ => exec_move (.tmp 2) (.inl rfl) _ rfl) ?_
    refine k0 (wt_none rfl _) rfl (.int .i64 ((i + 1 : Nat) : Int)) (fun _ _ => x_add (.tmp 10) (.const (.int .i64 1)) _ _ rfl i 1 (i + 1) .i64 (by exact ⟨rfl, (show _ < 9223372036854775808 by omega)⟩) rfl rfl) ?_
    refine k0 (wt_none rfl _) rfl (.int .i64 ((31 - i : Nat) : Int)) (fun _ _ => exec_move (.tmp 3) (.inl rfl) _ rfl) ?_
    refine k0 (wt_none rfl _) rfl (.int .i64 ((31 - (i + 1) : Nat) : Int)) (fun _ _ => x_sub (.tmp 12) (.const (.int .i64 1)) _ _ rfl (31 - i) 1 (31 - (i + 1)) .i64 (by exact ⟨by omega, (show _ < 9223372036854775808 by omega)⟩) rfl rfl) ?_
    refine k0 (wt_none rfl _) rfl (.int .i64 ((i + 1 : Nat) : Int)) (fun _ _ => exec_move (.tmp 11) (.inr rfl) _ rfl) ?_
    refine k0 (wt_none rfl _) rfl (.int .i64 ((31 - (i + 1) : Nat) : Int)) (fun _ _ => exec_move (.tmp 13) (.inr rfl) _ rfl) ?_
    refine kend ?_
    refine th_n ?_
    exact ⟨_, i + 1, rfl, ⟨rfl, rfl, rfl, trivial⟩, ⟨(show i + 1 ≤ 16 by omega), m4⟩, (show 16 - (i + 1) < 16 - i by omega)⟩
  · obtain rfl : i = 16 := by omega
    refine sq ?_
    refine sq ?_
    refine rp [0, 0, 0] ?_
    refine k0 (wt_none rfl _) rfl (.int .i64 ((16 : Nat) : Int)) (fun _ _ => exec_move (.tmp 2) (.inl rfl) _ rfl) ?_
    refine k0 (wt_none rfl _) rfl (.int .i64 ((15 : Nat) : Int)) (fun _ _ => exec_move (.tmp 3) (.inl rfl) _ rfl) ?_
    refine k0 (wt_none rfl _) rfl (.bool false) (fun _ _ => x_lss_f (.tmp 7) (.tmp 8) _ _ rfl 16 15 .i64 (by decide) rfl rfl) ?_
    refine kend ?_
    refine th_n ?_
    refine cdf rfl ?_
    refine ex ?_
    refine th_x ?_
    refine th_x ?_
    refine ib_x ?_
    refine rt0n rfl ?_
    rw [sw_all hl] at m1
    exact ⟨rfl, m1⟩
end Go.Proofs.Ytpfoeeiacfadfaa
