/-
  MerkleRoot, MerkleBranch, MerkleClimb, MerkleUp, MerkleTwice.
-/
import Derived.Test.YtjlgbkkbflegcaaDoorK4
namespace Go.Proofs.YtjlgbkkbflegcaaDoor
open Go.RowKit
section
variable {P : Program} {w : World} {ρ : Operand → Value} {o : Oper}
theorem x_bld1 {A E : TypeId} {N : Nat} {z : Value} (t : AT P A E N z) (x : Operand) (ho : o.op = .build A #[(0, x)]) (k : IntKind) (u : Int) (hx : ρ x = .int k u) (hN : 0 < N) {cs : List Value} (hz : (List.replicate N z).set 0 (.int k u) = cs) : (execOp ρ o).run P w = .ok (.value (.agg cs.toArray)) w := by
  subst hz
  obtain ⟨i, hi, hz, hs⟩ := t.parts
  obtain ⟨j, hj, hs'⟩ := t.elem
  have hb : (Instr.build A #[(0, Value.int k u)]).run P w = .ok (.agg ((List.replicate N z).set 0 (.int k u)).toArray) w := by
    simp [Instr.build, zeroValue, typeInfo, hi, hz, run_underlying t.ar, sizeOf, hj, hs', Instr.fill, Value.cells, Nat.pos_iff_ne_zero.1 hN]
    rw [← List.toArray_replicate, List.setIfInBounds_toArray]
  unfold execOp
  simp only [ho, List.map_toArray, List.map_cons, List.map_nil, hx, Sem.run_bind, Sem.run_pure, Result.andThen_ok, hb]
theorem x_eqB {T : TypeId} (hT : P.underlying T = some .bool) (x y : Operand) (U : TypeId) (ho : o.op = .binOp .eql T x y U) (b : Bool) (hx : ρ x = .bool b) (hy : ρ y = .bool b) : (execOp ρ o).run P w = .ok (.value (.bool true)) w := by
  unfold execOp
  simp [go_sem, ho, hx, hy, hT]
end
def c1 : List UInt8 := 1 :: List.replicate 31 0
theorem c1_len : (cellsOf c1).length = 32 := rfl
theorem c1_32 : c1.length = 32 := rfl
theorem rootS_len {l : List (List UInt8)} (h : H32 l) : (cellsOf (rootS l)).length = 32 := by
  rw [cellsOf_length]
  unfold rootS
  by_cases h0 : l.length = 0
  · rw [if_pos h0]; rfl
  · rw [if_neg h0]; exact (up_h32 h _).at (up_pos (by omega) _)
theorem topK_len1 {l : List (List UInt8)} (h : l.length = 1) : topK l = 0 := topK_eq ⟨fun j hj => absurd hj (Nat.not_lt_zero j), by show l.length ≤ 1; omega⟩
theorem topK_top (l : List (List UInt8)) : ∃ k, isTop l k := by
  have key : ∀ n k, (up l k).length ≤ n → (∀ j, j < k → 1 < (up l j).length) → ∃ k, isTop l k := by
    intro n
    induction n with
    | zero => intro k hk hj; exact ⟨k, hj, by omega⟩
    | succ n ih =>
      intro k hk hj
      by_cases h : 1 < (up l k).length
      · refine ih (k + 1) ?_ (top_step hj h)
        have : (up l (k + 1)).length = ((up l k).length + 1) / 2 := lft_length _
        omega
      · exact ⟨k, hj, by omega⟩
  exact key _ 0 (Nat.le_refl _) (fun j hj => absurd hj (Nat.not_lt_zero j))
theorem topK_is (l : List (List UInt8)) : isTop l (topK l) := by
  obtain ⟨k, h⟩ := topK_top l
  rw [topK_eq h]; exact h
theorem topK_pos {l : List (List UInt8)} (h : 1 < l.length) : 0 < topK l := by
  rcases Nat.eq_zero_or_pos (topK l) with e | e
  · have h1 := (topK_is l).2
    rw [e] at h1
    have : (up l 0).length = l.length := rfl
    omega
  · exact e
theorem rootS_c1 : rootS [c1] = c1 := by
  unfold rootS
  rw [if_neg (by decide), topK_len1 rfl]; rfl
theorem dblS_c1 : dblS [c1] = false := by
  unfold dblS
  rw [if_neg (by decide), topK_len1 rfl]; rfl
theorem dblS_first {l : List (List UInt8)} (h : alike l = true) (h1 : 1 < l.length) : dblS l = true := by
  unfold dblS
  rw [if_neg (by omega)]
  exact dbl_first h (topK_pos h1)
theorem dblS_c2 : dblS [c1, c1] = true := dblS_first (alike_last rfl (by decide) rfl) (by decide)
theorem topK_twice {l : List (List UInt8)} (h : l.length % 2 = 1) (h1 : 1 < l.length) : topK (l ++ [atH l (l.length - 1)]) = topK l := by
  refine topK_eq ⟨fun j hj => ?_, ?_⟩
  · cases j with
    | zero => show 1 < (l ++ [_]).length; simp; omega
    | succ j => rw [up_twice h]; exact (topK_is l).1 _ hj
  · obtain ⟨m, hm⟩ : ∃ m, topK l = m + 1 := ⟨topK l - 1, by have := topK_pos h1; omega⟩
    rw [hm, up_twice h, ← hm]; exact (topK_is l).2
theorem rootS_twice {l : List (List UInt8)} (h : l.length % 2 = 1) (h1 : 1 < l.length) : rootS (l ++ [atH l (l.length - 1)]) = rootS l := by
  obtain ⟨m, hm⟩ : ∃ m, topK l = m + 1 := ⟨topK l - 1, by have := topK_pos h1; omega⟩
  unfold rootS
  rw [if_neg (by simp), if_neg (by omega), topK_twice h h1, hm, up_twice h]
theorem dblS_twice {l : List (List UInt8)} (h : l.length % 2 = 1) (h1 : 1 < l.length) : dblS (l ++ [atH l (l.length - 1)]) = true := by
  refine dblS_first (alike_last (by simp; omega) (by simp; omega) ?_) (by simp; omega)
  rw [atH_app_last (by simp), show (l ++ [atH l (l.length - 1)]).length - 2 = l.length - 1 by simp, atH_app_left (by omega)]
theorem climb_root {l : List (List UInt8)} {i : Nat} (hi : i < l.length) : clb (atH l i) i (way l i (topK l)) (topK l) = rootS l := by
  rw [clb_way l i _ hi _ (Nat.le_refl _)]
  have h1 := place_lt hi (topK l)
  have h2 := (topK_is l).2
  unfold rootS
  have h3 : i / 2 ^ topK l = 0 := by
    generalize i / 2 ^ topK l = q at h1
    omega
  rw [if_neg (by omega), h3]
theorem root_any (v : Value) (l : List (List UInt8)) (w : World) (h32 : H32 l) (hv : Rc w.heap.size w v l.length (cH l)) (hn : l.length ≤ 1000000) (ht : Tabs w) (h2 : 2 ≤ w.heap.size) :
    Calls Tryd.prog 10 #[v] w fun e w' => e = .returned (.tuple #[.agg (cellsOf (rootS l)).toArray, .bool (dblS l)]) ∧ Below w.heap.size w w' := by
  rcases Nat.eq_zero_or_pos l.length with h0 | h0
  · exact root_any0 v l w hv h0
  · exact root_any1 v l w h32 hv hn ht h2 h0
theorem root_doc (v : Value) (l : List (List UInt8)) (w : World) (h32 : H32 l) (hv : Rc w.heap.size w v l.length (cH l)) (hn : l.length ≤ 1000000) :
    Calls Tryd.prog 11 #[v] w fun e w' => e = .returned (.tuple #[.agg (cellsOf (rootS l)).toArray, .bool (dblS l)]) ∧ Below w.heap.size w w' := by
  rcases Nat.eq_zero_or_pos l.length with h0 | h0
  · exact root_doc0 v l w hv h0
  · exact root_doc1 v l w h32 hv hn h0
theorem root_again (v : Value) (l : List (List UInt8)) (w : World) (h32 : H32 l) (hv : Rc w.heap.size w v (l.length + 1) (cH (l ++ [atH l (l.length - 1)]))) (h : l.length % 2 = 1) (h1 : 1 < l.length) (hn : l.length ≤ 900000) (ht : Tabs w) (h2 : 2 ≤ w.heap.size) :
    Calls Tryd.prog 10 #[v] w fun e w' => e = .returned (.tuple #[.agg (cellsOf (rootS l)).toArray, .bool true]) ∧ Below w.heap.size w w' := by
  have e : (l ++ [atH l (l.length - 1)]).length = l.length + 1 := by simp
  have hr := root_any v (l ++ [atH l (l.length - 1)]) w (h32.app (H32.one (h32.at (by omega)))) (by rw [e]; exact hv) (by omega) ht h2
  rw [rootS_twice h h1, dblS_twice h h1] at hr
  exact hr
theorem alive_r1 (v : Value) (w : World) (hv : Rc w.heap.size w v 1 (cH [c1])) (ht : Tabs w) (h2 : 2 ≤ w.heap.size) :
    Calls Tryd.prog 10 #[v] w fun e w' => e = .returned (.tuple #[.agg (cellsOf c1).toArray, .bool false]) ∧ Below w.heap.size w w' := by
  have h := root_any v [c1] w (H32.one c1_32) hv (by decide) ht h2
  rw [rootS_c1, dblS_c1] at h
  exact h
theorem alive_r2 (v : Value) (w : World) (hv : Rc w.heap.size w v 2 (cH [c1, c1])) (ht : Tabs w) (h2 : 2 ≤ w.heap.size) :
    Calls Tryd.prog 10 #[v] w fun e w' => e = .returned (.tuple #[.agg (cellsOf (rootS [c1, c1])).toArray, .bool true]) ∧ Below w.heap.size w w' := by
  have h := root_any v [c1, c1] w (H32.cons c1_32 (H32.one c1_32)) hv (by decide) ht h2
  rw [dblS_c2] at h
  exact h
theorem climb_nat (lf : List UInt8) (i : Nat) (v : Value) (b : List (List UInt8)) (w : World) (hx : (cellsOf lf).length = 32) (h32 : H32 b) (hv : Rc w.heap.size w v b.length (cH b)) (hn : b.length ≤ 1000000) (hz : i < 9223372036854775808) (ht : Tabs w) (h2 : 2 ≤ w.heap.size) :
    Calls Tryd.prog 15 #[.agg (cellsOf lf).toArray, .int .i64 ((i : Nat) : Int), v] w fun e w' => e = .returned (.agg (cellsOf (clb lf i b b.length)).toArray) ∧ Below w.heap.size w w' :=
  climb_any lf i v b w hx h32 hv hn (by omega) ht h2
theorem climb_neg (lf : List UInt8) (z : Int) (v : Value) (b : List (List UInt8)) (w : World) (hx : (cellsOf lf).length = 32) (h32 : H32 b) (hv : Rc w.heap.size w v b.length (cH b)) (hn : b.length ≤ 1000000) (hz : z < 0) (ht : Tabs w) (h2 : 2 ≤ w.heap.size) :
    Calls Tryd.prog 15 #[.agg (cellsOf lf).toArray, .int .i64 z, v] w fun e w' => e = .returned (.agg (cellsOf (clb lf 0 b b.length)).toArray) ∧ Below w.heap.size w w' := by
  have h := climb_any lf z v b w hx h32 hv hn (by omega) ht h2
  rw [show z.toNat = 0 by omega] at h
  exact h
theorem climb_up (l : List (List UInt8)) (i : Nat) (v : Value) (w : World) (h32 : H32 l) (hv : Rc w.heap.size w v (topK l) (cH (way l i (topK l)))) (hn : topK l ≤ 1000000) (hl : l.length ≤ 1000000) (hi : i < l.length) (ht : Tabs w) (h2 : 2 ≤ w.heap.size) :
    Calls Tryd.prog 15 #[.agg (cellsOf (atH l i)).toArray, .int .i64 ((i : Nat) : Int), v] w fun e w' => e = .returned (.agg (cellsOf (rootS l)).toArray) ∧ Below w.heap.size w w' := by
  have hwl := way_length l i (topK l)
  have h := climb_nat (atH l i) i v (way l i (topK l)) w (by rw [cellsOf_length]; exact h32.at hi) (way_h32 h32 hi _) (by rw [hwl]; exact hv) (by omega) (by omega) ht h2
  rw [hwl, climb_root hi] at h
  exact h
theorem same_way {l : List (List UInt8)} {i : Nat} (v1 v2 : Value) (w : World) (h32 : H32 l) (hi : i < l.length) (h1 : Rc w.heap.size w v1 (topK l) (cH (way l i (topK l)))) (h2 : Rc w.heap.size w v2 (topK l) (cH (way l i (topK l)))) (hn : topK l ≤ 1000000) :
    Calls Tryd.prog 12 #[v1, v2] w fun e w' => e = .returned (.bool true) ∧ Below w.heap.size w w' := by
  have hwl := way_length l i (topK l)
  exact same_doc v1 v2 (way l i (topK l)) w (way_h32 h32 hi _) (by rw [hwl]; exact h1) (by rw [hwl]; exact h2) (by omega)
theorem topK_small {l : List (List UInt8)} (h : l.length ≤ 40) : topK l ≤ 40 := by
  have key : ∀ k, (∀ j, j < k → 1 < (up l j).length) → (up l k).length + k ≤ l.length := by
    intro k
    induction k with
    | zero => intro _; exact Nat.le_refl _
    | succ k ih =>
      intro hk
      have h1 := ih (fun j hj => hk j (by omega))
      have h2 := hk k (by omega)
      have h3 : (up l (k + 1)).length = ((up l k).length + 1) / 2 := lft_length _
      omega
  have := key _ (topK_is l).1
  omega

set_option maxHeartbeats 1000000 in
theorem alive_any (w : World) (ht : Tabs w) (h2 : 2 ≤ w.heap.size) :
    Calls Tryd.prog 9 #[] w fun e w' => e = .returned (.bool true) ∧ Below w.heap.size w w' := by
  have m0 := Mo.start w
  refine enter [] 46 Tryd.func9 rfl Tryd.ntmps9 (Nat.le_of_ble_eq_true rfl) ?_
  refine sq ?_
  refine cz [] trivial (fun _ => ?_)
  refine rp [0] ?_
  refine k0 (wt_none rfl _) rfl (.bool false) (fun _ _ => exec_move (.const (.bool false)) (.inr rfl) _ rfl) ?_
  refine kend ?_
  refine th_n ?_
  refine sq ?_
  refine cz [(0, .bool false)] ⟨rfl, trivial⟩ (fun _ => ?_)
  refine rp [0, 2, 2] ?_
  refine k0 (wt_none rfl _) rfl (.agg (cellsOf c1).toArray) (fun _ _ => x_bld1 Tryd.ah (.const (.int .u8 1)) rfl .u8 1 rfl (by decide) rfl) ?_
  refine k2 (wt_none rfl _) rfl (x_alc Tryd.ah rfl m0 (cellsOf (List.replicate 32 0)) rfl) ?_
  rintro _ ww2 ⟨gg4, rfl, mm3⟩
  refine ⟨trivial, ?_⟩
  refine ks (wt_none rfl _) rfl rfl (x_sta (.tmp 1) (.tmp 8) rfl mm3 0 rfl 0 (cellsOf c1) (cellsOf c1) (at_size Tryd.ah c1_len) (sta_len (by rfl : (cellsOf (List.replicate 32 0)).length = 32) c1_len) (cellsOf_one _) (sta_all (by rfl : (cellsOf (List.replicate 32 0)).length = 32) c1_len) rfl (.agg (cellsOf c1).toArray) rfl rfl) ?_
  rintro ww5 mm6
  have mm7 : Mo w ww5 [.arr gg4 24 (cellsOf c1)] := mm6
  refine ⟨trivial, ?_⟩
  refine kend ?_
  refine th_n ?_
  refine sq ?_
  refine cz [(0, .bool false), (1, .pointer (some ⟨gg4, 0, none⟩))] ⟨rfl, rfl, trivial⟩ (fun _ => ?_)
  refine rp [1, 2, 2, 0, 0, 0, 2, 2, 0] ?_
  refine k1 (wt_none rfl _) rfl (.agg (cellsOf c1).toArray) (exec_load_arr Tryd.ah (.tmp 1) rfl gg4 _ c1_len rfl (mm7.arr 0 rfl)) ?_
  refine k2 (wt_none rfl _) rfl (x_bld Tryd.sh 1 _ rfl mm7 (vH [c1]) (cH [c1]) rfl (by decide) (vH_size (H32.one (len_of c1_len))) (vH_flat [c1]) rfl) ?_
  rintro vv8 ww9 mm10
  refine ⟨trivial, ?_⟩
  refine kc (wt_none rfl _) rfl (x_cl1 (v0 := vv8) rfl rfl (by kernel_rfl)) (alive_r1 vv8 _ (mm10.rc 0 rfl) (ht.gr mm10.below) (Nat.le_trans h2 mm10.size)) ?_
  rintro _ ww11 ⟨rfl, mm12⟩
  have mm13 : Mo w ww11 [.own 24 32 vv8 1 (cH ([c1])), .arr gg4 24 (cellsOf c1)] := mm10.gr mm12
  refine ⟨_, rfl, trivial, ?_⟩
  refine k0 (wt_none rfl _) rfl (.tuple #[.agg (cellsOf c1).toArray, .bool false]) (fun _ _ => exec_move (.tmp 12) (.inl rfl) _ rfl) ?_
  refine k0 (wt_none rfl _) rfl (.agg (cellsOf c1).toArray) (fun _ _ => exec_extract (.tmp 9) 0 rfl [.agg (cellsOf c1).toArray, .bool false] _ rfl rfl) ?_
  refine k0 (wt_none rfl _) rfl (.bool false) (fun _ _ => exec_extract (.tmp 9) 1 rfl [.agg (cellsOf c1).toArray, .bool false] _ rfl rfl) ?_
  refine k2 (wt_none rfl _) rfl (x_alc Tryd.ah rfl mm13 (cellsOf (List.replicate 32 0)) rfl) ?_
  rintro _ ww15 ⟨gg17, rfl, mm16⟩
  refine ⟨trivial, ?_⟩
  refine ks (wt_none rfl _) rfl rfl (x_sta (.tmp 2) (.tmp 13) rfl mm16 0 rfl 0 (cellsOf c1) (cellsOf c1) (at_size Tryd.ah c1_len) (sta_len (by rfl : (cellsOf (List.replicate 32 0)).length = 32) c1_len) (cellsOf_one _) (sta_all (by rfl : (cellsOf (List.replicate 32 0)).length = 32) c1_len) rfl (.agg (cellsOf c1).toArray) rfl rfl) ?_
  rintro ww18 mm19
  have mm20 : Mo w ww18 [.arr gg17 24 (cellsOf c1), .own 24 32 vv8 1 (cH ([c1])), .arr gg4 24 (cellsOf c1)] := mm19
  refine ⟨trivial, ?_⟩
  refine k0 (wt_none rfl _) rfl (.bool false) (fun _ _ => exec_move (.tmp 14) (.inr rfl) _ rfl) ?_
  refine kend ?_
  refine th_n ?_
  refine sq ?_
  refine cz [(0, .bool false), (1, .pointer (some ⟨gg4, 0, none⟩)), (2, .pointer (some ⟨gg17, 0, none⟩)), (3, .bool false)] ⟨rfl, rfl, rfl, rfl, trivial⟩ (fun _ => ?_)
  refine rp [1, 1, 2, 2, 0, 0, 0, 2, 2, 0] ?_
  refine k1 (wt_none rfl _) rfl (.agg (cellsOf c1).toArray) (exec_load_arr Tryd.ah (.tmp 1) rfl gg4 _ c1_len rfl (mm20.arr 2 rfl)) ?_
  refine k1 (wt_none rfl _) rfl (.agg (cellsOf c1).toArray) (exec_load_arr Tryd.ah (.tmp 1) rfl gg4 _ c1_len rfl (mm20.arr 2 rfl)) ?_
  refine k2 (wt_none rfl _) rfl (x_bld Tryd.sh 2 _ rfl mm20 (vH [c1, c1]) (cH [c1, c1]) rfl (by decide) (vH_size (H32.cons (len_of c1_len) (H32.cons (len_of c1_len) H32.nil))) (vH_flat [c1, c1]) rfl) ?_
  rintro vv21 ww22 mm23
  refine ⟨trivial, ?_⟩
  refine kc (wt_none rfl _) rfl (x_cl1 (v0 := vv21) rfl rfl (by kernel_rfl)) (alive_r2 vv21 _ (mm23.rc 0 rfl) (ht.gr mm23.below) (Nat.le_trans h2 mm23.size)) ?_
  rintro _ ww24 ⟨rfl, mm25⟩
  have mm26 : Mo w ww24 [.own 24 32 vv21 2 (cH ([c1, c1])), .arr gg17 24 (cellsOf c1), .own 24 32 vv8 1 (cH ([c1])), .arr gg4 24 (cellsOf c1)] := mm23.gr mm25
  refine ⟨_, rfl, trivial, ?_⟩
  refine k0 (wt_none rfl _) rfl (.tuple #[.agg (cellsOf (rootS [c1, c1])).toArray, .bool true]) (fun _ _ => exec_move (.tmp 19) (.inl rfl) _ rfl) ?_
  refine k0 (wt_none rfl _) rfl (.agg (cellsOf (rootS [c1, c1])).toArray) (fun _ _ => exec_extract (.tmp 15) 0 rfl [.agg (cellsOf (rootS [c1, c1])).toArray, .bool true] _ rfl rfl) ?_
  refine k0 (wt_none rfl _) rfl (.bool true) (fun _ _ => exec_extract (.tmp 15) 1 rfl [.agg (cellsOf (rootS [c1, c1])).toArray, .bool true] _ rfl rfl) ?_
  refine k2 (wt_none rfl _) rfl (x_alc Tryd.ah rfl mm26 (cellsOf (List.replicate 32 0)) rfl) ?_
  rintro _ ww28 ⟨gg30, rfl, mm29⟩
  refine ⟨trivial, ?_⟩
  refine ks (wt_none rfl _) rfl rfl (x_sta (.tmp 4) (.tmp 20) rfl mm29 0 rfl 0 (cellsOf (rootS [c1, c1])) (cellsOf (rootS [c1, c1])) (at_size Tryd.ah (rootS_len (H32.cons c1_32 (H32.one c1_32)))) (sta_len (by rfl : (cellsOf (List.replicate 32 0)).length = 32) (rootS_len (H32.cons c1_32 (H32.one c1_32)))) (cellsOf_one _) (sta_all (by rfl : (cellsOf (List.replicate 32 0)).length = 32) (rootS_len (H32.cons c1_32 (H32.one c1_32)))) rfl (.agg (cellsOf (rootS [c1, c1])).toArray) rfl rfl) ?_
  rintro ww31 mm32
  have mm33 : Mo w ww31 [.arr gg30 24 (cellsOf (rootS [c1, c1])), .own 24 32 vv21 2 (cH ([c1, c1])), .arr gg17 24 (cellsOf c1), .own 24 32 vv8 1 (cH ([c1])), .arr gg4 24 (cellsOf c1)] := mm32
  refine ⟨trivial, ?_⟩
  refine k0 (wt_none rfl _) rfl (.bool true) (fun _ _ => exec_move (.tmp 21) (.inr rfl) _ rfl) ?_
  refine kend ?_
  refine th_n ?_
  refine sq ?_
  refine cz [(0, .bool false), (1, .pointer (some ⟨gg4, 0, none⟩)), (2, .pointer (some ⟨gg17, 0, none⟩)), (3, .bool false), (5, .bool true)] ⟨rfl, rfl, rfl, rfl, rfl, trivial⟩ (fun _ => ?_)
  refine rp [2, 0, 0, 0, 0, 0] ?_
  refine kc (wt_none rfl _) rfl (x_cl2 (v0 := .slice none 0 0) (v1 := .int .i64 0) rfl rfl rfl (by kernel_rfl)) (branch_any_big (.slice none 0 0) [] 0 _ (Rc.nil _ _) (Nat.zero_le _)) ?_
  rintro _ ww34 ⟨rfl, mm35⟩
  have mm36 : Mo w ww34 [.arr gg30 24 (cellsOf (rootS [c1, c1])), .own 24 32 vv21 2 (cH ([c1, c1])), .arr gg17 24 (cellsOf c1), .own 24 32 vv8 1 (cH ([c1])), .arr gg4 24 (cellsOf c1)] := mm33.gr mm35
  refine ⟨_, rfl, trivial, ?_⟩
  refine k0 (wt_none rfl _) rfl (.tuple #[.slice none 0 0, .int .i64 1]) (fun _ _ => exec_move (.tmp 23) (.inl rfl) _ rfl) ?_
  refine k0 (wt_none rfl _) rfl (.slice none 0 0) (fun _ _ => exec_extract (.tmp 22) 0 rfl [.slice none 0 0, .int .i64 1] _ rfl rfl) ?_
  refine k0 (wt_none rfl _) rfl (.int .i64 1) (fun _ _ => exec_extract (.tmp 22) 1 rfl [.slice none 0 0, .int .i64 1] _ rfl rfl) ?_
  refine k0 (wt_none rfl _) rfl (.slice none 0 0) (fun _ _ => exec_move (.tmp 24) (.inr rfl) _ rfl) ?_
  refine k0 (wt_none rfl _) rfl (.int .i64 1) (fun _ _ => exec_move (.tmp 25) (.inr rfl) _ rfl) ?_
  refine kend ?_
  refine th_n ?_
  refine sq ?_
  refine cz [(0, .bool false), (1, .pointer (some ⟨gg4, 0, none⟩)), (2, .pointer (some ⟨gg17, 0, none⟩)), (3, .bool false), (5, .bool true), (7, .int .i64 1)] ⟨rfl, rfl, rfl, rfl, rfl, rfl, trivial⟩ (fun _ => ?_)
  have mm38 := mm36.drew
  refine rq (fun w1 => Mo w w1 [.arr gg30 24 (cellsOf (rootS [c1, c1])), .own 24 32 vv21 2 (cH ([c1, c1])), .arr gg17 24 (cellsOf c1), .own 24 32 vv8 1 (cH ([c1])), .arr gg4 24 (cellsOf c1)]) [0, 0, 0, 0, 0, 0, 0, 0, 0, 0, 0, 0, 0, 0, 0, 0, 2, 0, 0, 0, 0] (by kernel_rfl) (by kernel_rfl) (by kernel_rfl) (mm38.sub (List.Sublist.cons_cons _ (List.Sublist.cons_cons _ (List.Sublist.cons_cons _ (List.Sublist.cons_cons _ (List.Sublist.cons_cons _ List.Sublist.slnil)))))) ?_
  refine k0 (wt_none rfl _) rfl (.agg (cellsOf c1).toArray) (fun _ hC => exec_load_arr Tryd.ah (.tmp 2) rfl gg17 _ c1_len rfl (hC.arr 2 rfl)) ?_
  refine k0 (wt_none rfl _) rfl (.agg (cellsOf c1).toArray) (fun _ hC => exec_load_arr Tryd.ah (.tmp 1) rfl gg4 _ c1_len rfl (hC.arr 4 rfl)) ?_
  refine k0 (wt_none rfl _) rfl (.bool true) (fun _ _ => x_eqa Tryd.ah Tryd.u8 (by kernel_rfl) (.tmp 26) (.tmp 27) _ rfl c1 c1 c1_len c1_len true (decide_eq_true rfl) rfl rfl) ?_
  refine k0 (wt_none rfl _) rfl (.bool true) (fun _ _ => exec_move (.tmp 28) (.inl rfl) _ rfl) ?_
  refine k0 (wt_some rfl rfl rfl rfl) rfl (.bool false) (fun _ _ => exec_move (.tmp 3) (.inl rfl) _ rfl) ?_
  refine k0 (wt_some rfl rfl rfl rfl) rfl (.bool true) (fun _ _ => x_not (.tmp 30) _ rfl false rfl) ?_
  refine k0 (wt_none rfl _) rfl (.bool true) (fun _ _ => x_pick (.tmp 29) (.tmp 31) (.const (.bool false)) rfl true _ rfl rfl) ?_
  refine k0 (wt_none rfl _) rfl (.bool true) (fun _ _ => exec_move (.tmp 32) (.inl rfl) _ rfl) ?_
  refine k0 (wt_some rfl rfl rfl rfl) rfl (.bool true) (fun _ _ => exec_move (.tmp 5) (.inl rfl) _ rfl) ?_
  refine k0 (wt_none rfl _) rfl (.bool true) (fun _ _ => x_pick (.tmp 33) (.tmp 34) (.const (.bool false)) rfl true _ rfl rfl) ?_
  refine k0 (wt_none rfl _) rfl (.bool true) (fun _ _ => exec_move (.tmp 35) (.inl rfl) _ rfl) ?_
  refine k0 (wt_some rfl rfl rfl rfl) rfl (.int .i64 1) (fun _ _ => exec_move (.tmp 7) (.inl rfl) _ rfl) ?_
  refine k0 (wt_some rfl rfl rfl rfl) rfl (.bool true) (fun _ _ => x_eql_t (.tmp 37) (.const (.int .i64 1)) _ _ rfl 1 1 .i64 (by omega) rfl rfl) ?_
  refine k0 (wt_none rfl _) rfl (.bool true) (fun _ _ => x_pick (.tmp 36) (.tmp 38) (.const (.bool false)) rfl true _ rfl rfl) ?_
  refine k0 (wt_none rfl _) rfl (.bool true) (fun _ _ => exec_move (.tmp 39) (.inl rfl) _ rfl) ?_
  refine k0 (wt_some rfl rfl rfl rfl) rfl (.agg (cellsOf c1).toArray) (fun _ hC => exec_load_arr Tryd.ah (.tmp 1) rfl gg4 _ c1_len rfl (hC.arr 4 rfl)) ?_
  refine kc (wt_some rfl rfl rfl rfl) rfl (x_cl3 (v0 := .agg (cellsOf c1).toArray) (v1 := .int .i64 0) (v2 := .slice none 0 0) rfl rfl rfl rfl (by kernel_rfl)) (climb_nat c1 0 (.slice none 0 0) [] _ c1_len H32.nil (Rc.nil _ _) (Nat.zero_le _) (by decide) (ht.gr mm38.below) (Nat.le_trans h2 mm38.size)) ?_
  rintro _ ww39 ⟨rfl, mm40⟩
  have mm41 : Mo w ww39 [.arr gg30 24 (cellsOf (rootS [c1, c1])), .own 24 32 vv21 2 (cH ([c1, c1])), .arr gg17 24 (cellsOf c1), .own 24 32 vv8 1 (cH ([c1])), .arr gg4 24 (cellsOf c1)] := mm38.gr mm40
  refine ⟨_, rfl, (mm41.sub (List.Sublist.cons_cons _ (List.Sublist.cons_cons _ (List.Sublist.cons_cons _ (List.Sublist.cons_cons _ (List.Sublist.cons_cons _ List.Sublist.slnil)))))), ?_⟩
  refine k0 (wt_some rfl rfl rfl rfl) rfl (.agg (cellsOf c1).toArray) (fun _ hC => exec_load_arr Tryd.ah (.tmp 1) rfl gg4 _ c1_len rfl (hC.arr 4 rfl)) ?_
  refine k0 (wt_some rfl rfl rfl rfl) rfl (.bool true) (fun _ _ => x_eqa Tryd.ah Tryd.u8 (by kernel_rfl) (.tmp 42) (.tmp 43) _ rfl c1 c1 c1_len c1_len true (decide_eq_true rfl) rfl rfl) ?_
  refine k0 (wt_none rfl _) rfl (.bool true) (fun _ _ => x_pick (.tmp 40) (.tmp 44) (.const (.bool false)) rfl true _ rfl rfl) ?_
  refine k0 (wt_none rfl _) rfl (.bool true) (fun _ _ => exec_move (.tmp 45) (.inr rfl) _ rfl) ?_
  refine kend ?_
  refine th_n ?_
  refine re ?_
  refine rt1 rfl ?_
  exact ⟨rfl, mm41.below⟩

set_option maxHeartbeats 1000000 in
theorem root_law (v : Value) (l : List (List UInt8)) (w : World) (h32 : H32 l) (hv : Rc w.heap.size w v l.length (cH l)) (ht : Tabs w) (h2 : 2 ≤ w.heap.size) :
    Calls Tryd.prog 3 #[v] w fun e w' => e = .returned (.bool true) ∧ Below w.heap.size w w' := by
  have m0 := Mo.start w
  refine enter [v] 41 Tryd.func3 rfl Tryd.ntmps3 (Nat.le_of_ble_eq_true rfl) ?_
  refine sq ?_
  refine cz [(0, v)] ⟨rfl, trivial⟩ (fun _ => ?_)
  refine rp [0] ?_
  refine k0 (wt_none rfl _) rfl (.bool false) (fun _ _ => exec_move (.const (.bool false)) (.inr rfl) _ rfl) ?_
  refine kend ?_
  refine th_n ?_
  refine sq ?_
  refine sq ?_
  by_cases hm : l.length > 40
  · skip
    refine cz [(0, v), (2, .bool false)] ⟨rfl, rfl, trivial⟩ (fun _ => ?_)
    refine rp [0, 1, 0] ?_
    refine k0 (wt_none rfl _) rfl (v) (fun _ _ => exec_move (.tmp 0) (.inl rfl) _ rfl) ?_
    refine k1 (wt_none rfl _) rfl (.int .i64 ((l.length : Nat) : Int)) (x_len Tryd.sh.sl (.tmp 8) rfl (Rc.at hv m0) rfl) ?_
    refine k0 (wt_none rfl _) rfl (.bool true) (fun _ _ => x_gtr_t (.tmp 9) (.const (.int .i64 40)) _ _ rfl l.length 40 .i64 (by omega) rfl rfl) ?_
    refine kend ?_
    refine th_n ?_
    refine cdt rfl ?_
    refine sq ?_
    refine cz [(0, v), (2, .bool false), (10, .bool true)] ⟨rfl, rfl, rfl, trivial⟩ (fun _ => ?_)
    refine rp [2, 0] ?_
    refine kc (wt_none rfl _) rfl (x_cl0 rfl (by kernel_rfl)) (alive_any _ (ht.gr m0.below) (Nat.le_trans h2 m0.size)) ?_
    rintro _ ww1 ⟨rfl, mm2⟩
    have mm3 : Mo w ww1 [] := m0.gr mm2
    refine ⟨_, rfl, trivial, ?_⟩
    refine k0 (wt_none rfl _) rfl (.bool true) (fun _ _ => exec_move (.tmp 11) (.inr rfl) _ rfl) ?_
    refine kend ?_
    refine th_n ?_
    refine re ?_
    refine th_r ?_
    refine rt1 rfl ?_
    exact ⟨rfl, mm3.below⟩
  · skip
    refine cz [(0, v), (2, .bool false)] ⟨rfl, rfl, trivial⟩ (fun _ => ?_)
    refine rp [0, 1, 0] ?_
    refine k0 (wt_none rfl _) rfl (v) (fun _ _ => exec_move (.tmp 0) (.inl rfl) _ rfl) ?_
    refine k1 (wt_none rfl _) rfl (.int .i64 ((l.length : Nat) : Int)) (x_len Tryd.sh.sl (.tmp 8) rfl (Rc.at hv m0) rfl) ?_
    refine k0 (wt_none rfl _) rfl (.bool false) (fun _ _ => x_gtr_f (.tmp 9) (.const (.int .i64 40)) _ _ rfl l.length 40 .i64 (by omega) rfl rfl) ?_
    refine kend ?_
    refine th_n ?_
    refine cdf rfl ?_
    refine sk ?_
    refine th_n ?_
    refine sq ?_
    refine cz [(0, v), (2, .bool false), (10, .bool false)] ⟨rfl, rfl, rfl, trivial⟩ (fun _ => ?_)
    refine rp [2, 0, 2, 0] ?_
    refine k2 (wt_none rfl _) rfl (x_bld Tryd.sh 0 _ rfl m0 [] [] rfl (by decide) (fun _ h => absurd h List.not_mem_nil) rfl rfl) ?_
    rintro vv4 ww5 mm6
    refine ⟨trivial, ?_⟩
    refine k0 (wt_none rfl _) rfl (v) (fun _ _ => exec_move (.tmp 0) (.inl rfl) _ rfl) ?_
    refine k2 (wt_none rfl _) rfl (x_app Tryd.sh (.tmp 12) (.tmp 13) rfl mm6 0 rfl rfl (Rc.at hv mm6) (cH_len h32 (by first | rfl | omega)) (cH_one _) (by omega) rfl) ?_
    rintro vv7 ww8 mm9
    have mm10 : Mo w ww8 [.own 24 32 vv7 l.length (cH l)] := (by have h := mm9; rw [List.nil_append, Nat.zero_add] at h; exact h)
    refine ⟨trivial, ?_⟩
    refine k0 (wt_none rfl _) rfl (vv7) (fun _ _ => exec_move (.tmp 14) (.inr rfl) _ rfl) ?_
    refine kend ?_
    refine th_n ?_
    refine sq ?_
    refine cz [(0, v), (2, .bool false), (3, vv7), (10, .bool false)] ⟨rfl, rfl, rfl, rfl, trivial⟩ (fun _ => ?_)
    refine rp [0, 2, 0, 0, 0, 2, 2, 0] ?_
    refine k0 (wt_none rfl _) rfl (vv7) (fun _ _ => exec_move (.tmp 3) (.inl rfl) _ rfl) ?_
    refine kc (wt_none rfl _) rfl (x_cl1 (v0 := vv7) rfl rfl (by kernel_rfl)) (root_any vv7 l _ h32 (mm10.rc 0 rfl) (by omega) (ht.gr mm10.below) (Nat.le_trans h2 mm10.size)) ?_
    rintro _ ww11 ⟨rfl, mm12⟩
    have mm13 : Mo w ww11 [.own 24 32 vv7 l.length (cH l)] := mm10.gr mm12
    refine ⟨_, rfl, trivial, ?_⟩
    refine k0 (wt_none rfl _) rfl (.tuple #[.agg (cellsOf (rootS l)).toArray, .bool (dblS l)]) (fun _ _ => exec_move (.tmp 17) (.inl rfl) _ rfl) ?_
    refine k0 (wt_none rfl _) rfl (.agg (cellsOf (rootS l)).toArray) (fun _ _ => exec_extract (.tmp 15) 0 rfl [.agg (cellsOf (rootS l)).toArray, .bool (dblS l)] _ rfl rfl) ?_
    refine k0 (wt_none rfl _) rfl (.bool (dblS l)) (fun _ _ => exec_extract (.tmp 15) 1 rfl [.agg (cellsOf (rootS l)).toArray, .bool (dblS l)] _ rfl rfl) ?_
    refine k2 (wt_none rfl _) rfl (x_alc Tryd.ah rfl mm13 (cellsOf (List.replicate 32 0)) rfl) ?_
    rintro _ ww15 ⟨gg17, rfl, mm16⟩
    refine ⟨trivial, ?_⟩
    refine ks (wt_none rfl _) rfl rfl (x_sta (.tmp 4) (.tmp 18) rfl mm16 0 rfl 0 (cellsOf (rootS l)) (cellsOf (rootS l)) (at_size Tryd.ah (rootS_len h32)) (sta_len (by rfl : (cellsOf (List.replicate 32 0)).length = 32) (rootS_len h32)) (cellsOf_one _) (sta_all (by rfl : (cellsOf (List.replicate 32 0)).length = 32) (rootS_len h32)) rfl (.agg (cellsOf (rootS l)).toArray) rfl rfl) ?_
    rintro ww18 mm19
    have mm20 : Mo w ww18 [.arr gg17 24 (cellsOf (rootS l)), .own 24 32 vv7 l.length (cH l)] := mm19
    refine ⟨trivial, ?_⟩
    refine k0 (wt_none rfl _) rfl (.bool (dblS l)) (fun _ _ => exec_move (.tmp 19) (.inr rfl) _ rfl) ?_
    refine kend ?_
    refine th_n ?_
    refine sq ?_
    refine cz [(0, v), (2, .bool false), (3, vv7), (4, .pointer (some ⟨gg17, 0, none⟩)), (5, .bool (dblS l)), (10, .bool false)] ⟨rfl, rfl, rfl, rfl, rfl, rfl, trivial⟩ (fun _ => ?_)
    refine rp [0, 2, 0, 0, 0, 2, 2, 0] ?_
    refine k0 (wt_none rfl _) rfl (v) (fun _ _ => exec_move (.tmp 0) (.inl rfl) _ rfl) ?_
    refine kc (wt_none rfl _) rfl (x_cl1 (v0 := v) rfl rfl (by kernel_rfl)) (root_doc v l _ h32 (Rc.at hv mm20) (by omega)) ?_
    rintro _ ww21 ⟨rfl, mm22⟩
    have mm23 : Mo w ww21 [.arr gg17 24 (cellsOf (rootS l)), .own 24 32 vv7 l.length (cH l)] := mm20.gr mm22
    refine ⟨_, rfl, trivial, ?_⟩
    refine k0 (wt_none rfl _) rfl (.tuple #[.agg (cellsOf (rootS l)).toArray, .bool (dblS l)]) (fun _ _ => exec_move (.tmp 22) (.inl rfl) _ rfl) ?_
    refine k0 (wt_none rfl _) rfl (.agg (cellsOf (rootS l)).toArray) (fun _ _ => exec_extract (.tmp 20) 0 rfl [.agg (cellsOf (rootS l)).toArray, .bool (dblS l)] _ rfl rfl) ?_
    refine k0 (wt_none rfl _) rfl (.bool (dblS l)) (fun _ _ => exec_extract (.tmp 20) 1 rfl [.agg (cellsOf (rootS l)).toArray, .bool (dblS l)] _ rfl rfl) ?_
    refine k2 (wt_none rfl _) rfl (x_alc Tryd.ah rfl mm23 (cellsOf (List.replicate 32 0)) rfl) ?_
    rintro _ ww25 ⟨gg27, rfl, mm26⟩
    refine ⟨trivial, ?_⟩
    refine ks (wt_none rfl _) rfl rfl (x_sta (.tmp 6) (.tmp 23) rfl mm26 0 rfl 0 (cellsOf (rootS l)) (cellsOf (rootS l)) (at_size Tryd.ah (rootS_len h32)) (sta_len (by rfl : (cellsOf (List.replicate 32 0)).length = 32) (rootS_len h32)) (cellsOf_one _) (sta_all (by rfl : (cellsOf (List.replicate 32 0)).length = 32) (rootS_len h32)) rfl (.agg (cellsOf (rootS l)).toArray) rfl rfl) ?_
    rintro ww28 mm29
    have mm30 : Mo w ww28 [.arr gg27 24 (cellsOf (rootS l)), .arr gg17 24 (cellsOf (rootS l)), .own 24 32 vv7 l.length (cH l)] := mm29
    refine ⟨trivial, ?_⟩
    refine k0 (wt_none rfl _) rfl (.bool (dblS l)) (fun _ _ => exec_move (.tmp 24) (.inr rfl) _ rfl) ?_
    refine kend ?_
    refine th_n ?_
    refine sq ?_
    refine cz [(0, v), (2, .bool false), (3, vv7), (4, .pointer (some ⟨gg17, 0, none⟩)), (5, .bool (dblS l)), (6, .pointer (some ⟨gg27, 0, none⟩)), (7, .bool (dblS l)), (10, .bool false)] ⟨rfl, rfl, rfl, rfl, rfl, rfl, rfl, rfl, trivial⟩ (fun _ => ?_)
    refine rp [2, 0, 1, 1, 0, 0, 0, 0, 0, 0, 0, 0, 0, 0, 2, 0, 0] ?_
    refine kc (wt_none rfl _) rfl (x_cl0 rfl (by kernel_rfl)) (alive_any _ (ht.gr mm30.below) (Nat.le_trans h2 mm30.size)) ?_
    rintro _ ww31 ⟨rfl, mm32⟩
    have mm33 : Mo w ww31 [.arr gg27 24 (cellsOf (rootS l)), .arr gg17 24 (cellsOf (rootS l)), .own 24 32 vv7 l.length (cH l)] := mm30.gr mm32
    refine ⟨_, rfl, trivial, ?_⟩
    refine k0 (wt_none rfl _) rfl (.bool true) (fun _ _ => exec_move (.tmp 25) (.inl rfl) _ rfl) ?_
    refine k1 (wt_some rfl rfl rfl rfl) rfl (.agg (cellsOf (rootS l)).toArray) (exec_load_arr Tryd.ah (.tmp 4) rfl gg17 _ (rootS_len h32) rfl (mm33.arr 1 rfl)) ?_
    refine k1 (wt_some rfl rfl rfl rfl) rfl (.agg (cellsOf (rootS l)).toArray) (exec_load_arr Tryd.ah (.tmp 6) rfl gg27 _ (rootS_len h32) rfl (mm33.arr 0 rfl)) ?_
    refine k0 (wt_some rfl rfl rfl rfl) rfl (.bool true) (fun _ _ => x_eqa Tryd.ah Tryd.u8 (by kernel_rfl) (.tmp 27) (.tmp 28) _ rfl (rootS l) (rootS l) (rootS_len h32) (rootS_len h32) true (decide_eq_true rfl) rfl rfl) ?_
    refine k0 (wt_none rfl _) rfl (.bool true) (fun _ _ => x_pick (.tmp 26) (.tmp 29) (.const (.bool false)) rfl true _ rfl rfl) ?_
    refine k0 (wt_none rfl _) rfl (.bool true) (fun _ _ => exec_move (.tmp 30) (.inl rfl) _ rfl) ?_
    refine k0 (wt_some rfl rfl rfl rfl) rfl (.bool (dblS l)) (fun _ _ => exec_move (.tmp 5) (.inl rfl) _ rfl) ?_
    refine k0 (wt_some rfl rfl rfl rfl) rfl (.bool (dblS l)) (fun _ _ => exec_move (.tmp 7) (.inl rfl) _ rfl) ?_
    refine k0 (wt_some rfl rfl rfl rfl) rfl (.bool true) (fun _ _ => x_eqB (by kernel_rfl) (.tmp 32) (.tmp 33) _ rfl (dblS l) rfl rfl) ?_
    refine k0 (wt_none rfl _) rfl (.bool true) (fun _ _ => x_pick (.tmp 31) (.tmp 34) (.const (.bool false)) rfl true _ rfl rfl) ?_
    refine k0 (wt_none rfl _) rfl (.bool true) (fun _ _ => exec_move (.tmp 35) (.inl rfl) _ rfl) ?_
    refine k0 (wt_some rfl rfl rfl rfl) rfl (vv7) (fun _ _ => exec_move (.tmp 3) (.inl rfl) _ rfl) ?_
    refine k0 (wt_some rfl rfl rfl rfl) rfl (v) (fun _ _ => exec_move (.tmp 0) (.inl rfl) _ rfl) ?_
    refine kc (wt_some rfl rfl rfl rfl) rfl (x_cl2 (v0 := vv7) (v1 := v) rfl rfl rfl (by kernel_rfl)) (same_doc vv7 v l _ h32 (mm33.rc 2 rfl) (Rc.at hv mm33) (by omega)) ?_
    rintro _ ww34 ⟨rfl, mm35⟩
    have mm36 : Mo w ww34 [.arr gg27 24 (cellsOf (rootS l)), .arr gg17 24 (cellsOf (rootS l)), .own 24 32 vv7 l.length (cH l)] := mm33.gr mm35
    refine ⟨_, rfl, trivial, ?_⟩
    refine k0 (wt_none rfl _) rfl (.bool true) (fun _ _ => x_pick (.tmp 36) (.tmp 39) (.const (.bool false)) rfl true _ rfl rfl) ?_
    refine k0 (wt_none rfl _) rfl (.bool true) (fun _ _ => exec_move (.tmp 40) (.inr rfl) _ rfl) ?_
    refine kend ?_
    refine th_n ?_
    refine re ?_
    refine rt1 rfl ?_
    exact ⟨rfl, mm36.below⟩

set_option maxHeartbeats 1000000 in
theorem branch_law_neg (v : Value) (l : List (List UInt8)) (w : World) (_h32 : H32 l) (hv : Rc w.heap.size w v l.length (cH l)) (z : Int) (hz : z < 0) (ht : Tabs w) (h2 : 2 ≤ w.heap.size) :
    Calls Tryd.prog 4 #[v, .int .i64 z] w fun e w' => e = .returned (.bool true) ∧ Below w.heap.size w w' := by
  have m0 := Mo.start w
  refine enter [v, .int .i64 z] 36 Tryd.func4 rfl Tryd.ntmps4 (Nat.le_of_ble_eq_true rfl) ?_
  refine sq ?_
  refine cz [(0, v), (1, .int .i64 z)] ⟨rfl, rfl, trivial⟩ (fun _ => ?_)
  refine rp [0] ?_
  refine k0 (wt_none rfl _) rfl (.bool false) (fun _ _ => exec_move (.const (.bool false)) (.inr rfl) _ rfl) ?_
  refine kend ?_
  refine th_n ?_
  refine sq ?_
  refine sq ?_
  by_cases hm : l.length > 40
  · skip
    refine cz [(0, v), (1, .int .i64 z), (4, .bool false)] ⟨rfl, rfl, rfl, trivial⟩ (fun _ => ?_)
    refine rp [0, 1, 0] ?_
    refine k0 (wt_none rfl _) rfl (v) (fun _ _ => exec_move (.tmp 0) (.inl rfl) _ rfl) ?_
    refine k1 (wt_none rfl _) rfl (.int .i64 ((l.length : Nat) : Int)) (x_len Tryd.sh.sl (.tmp 9) rfl (Rc.at hv m0) rfl) ?_
    refine k0 (wt_none rfl _) rfl (.bool true) (fun _ _ => x_gtr_t (.tmp 10) (.const (.int .i64 40)) _ _ rfl l.length 40 .i64 (by omega) rfl rfl) ?_
    refine kend ?_
    refine th_n ?_
    refine cdt rfl ?_
    refine sq ?_
    refine cz [(0, v), (1, .int .i64 z), (4, .bool false), (11, .bool true)] ⟨rfl, rfl, rfl, rfl, trivial⟩ (fun _ => ?_)
    refine rp [2, 0] ?_
    refine kc (wt_none rfl _) rfl (x_cl0 rfl (by kernel_rfl)) (alive_any _ (ht.gr m0.below) (Nat.le_trans h2 m0.size)) ?_
    rintro _ ww1 ⟨rfl, mm2⟩
    have mm3 : Mo w ww1 [] := m0.gr mm2
    refine ⟨_, rfl, trivial, ?_⟩
    refine k0 (wt_none rfl _) rfl (.bool true) (fun _ _ => exec_move (.tmp 12) (.inr rfl) _ rfl) ?_
    refine kend ?_
    refine th_n ?_
    refine re ?_
    refine th_r ?_
    refine rt1 rfl ?_
    exact ⟨rfl, mm3.below⟩
  · skip
    refine cz [(0, v), (1, .int .i64 z), (4, .bool false)] ⟨rfl, rfl, rfl, trivial⟩ (fun _ => ?_)
    refine rp [0, 1, 0] ?_
    refine k0 (wt_none rfl _) rfl (v) (fun _ _ => exec_move (.tmp 0) (.inl rfl) _ rfl) ?_
    refine k1 (wt_none rfl _) rfl (.int .i64 ((l.length : Nat) : Int)) (x_len Tryd.sh.sl (.tmp 9) rfl (Rc.at hv m0) rfl) ?_
    refine k0 (wt_none rfl _) rfl (.bool false) (fun _ _ => x_gtr_f (.tmp 10) (.const (.int .i64 40)) _ _ rfl l.length 40 .i64 (by omega) rfl rfl) ?_
    refine kend ?_
    refine th_n ?_
    refine cdf rfl ?_
    refine sk ?_
    refine th_n ?_
    refine sq ?_
    refine cz [(0, v), (1, .int .i64 z), (4, .bool false), (11, .bool false)] ⟨rfl, rfl, rfl, rfl, trivial⟩ (fun _ => ?_)
    refine rp [0, 0, 2, 0, 0, 0, 0, 0] ?_
    refine k0 (wt_none rfl _) rfl (v) (fun _ _ => exec_move (.tmp 0) (.inl rfl) _ rfl) ?_
    refine k0 (wt_none rfl _) rfl (.int .i64 z) (fun _ _ => exec_move (.tmp 1) (.inl rfl) _ rfl) ?_
    refine kc (wt_none rfl _) rfl (x_cl2 (v0 := v) (v1 := .int .i64 z) rfl rfl rfl (by kernel_rfl)) (branch_any_neg v z _ hz) ?_
    rintro _ ww4 ⟨rfl, mm5⟩
    have mm6 : Mo w ww4 [] := m0.gr mm5
    refine ⟨_, rfl, trivial, ?_⟩
    refine k0 (wt_none rfl _) rfl (.tuple #[.slice none 0 0, .int .i64 1]) (fun _ _ => exec_move (.tmp 16) (.inl rfl) _ rfl) ?_
    refine k0 (wt_none rfl _) rfl (.slice none 0 0) (fun _ _ => exec_extract (.tmp 13) 0 rfl [.slice none 0 0, .int .i64 1] _ rfl rfl) ?_
    refine k0 (wt_none rfl _) rfl (.int .i64 1) (fun _ _ => exec_extract (.tmp 13) 1 rfl [.slice none 0 0, .int .i64 1] _ rfl rfl) ?_
    refine k0 (wt_none rfl _) rfl (.slice none 0 0) (fun _ _ => exec_move (.tmp 17) (.inr rfl) _ rfl) ?_
    refine k0 (wt_none rfl _) rfl (.int .i64 1) (fun _ _ => exec_move (.tmp 18) (.inr rfl) _ rfl) ?_
    refine kend ?_
    refine th_n ?_
    refine sq ?_
    refine cz [(0, v), (1, .int .i64 z), (4, .bool false), (5, .slice none 0 0), (6, .int .i64 1), (11, .bool false)] ⟨rfl, rfl, rfl, rfl, rfl, rfl, trivial⟩ (fun _ => ?_)
    refine rp [0, 0, 2, 0, 0, 0, 0, 0] ?_
    refine k0 (wt_none rfl _) rfl (v) (fun _ _ => exec_move (.tmp 0) (.inl rfl) _ rfl) ?_
    refine k0 (wt_none rfl _) rfl (.int .i64 z) (fun _ _ => exec_move (.tmp 1) (.inl rfl) _ rfl) ?_
    refine kc (wt_none rfl _) rfl (x_cl2 (v0 := v) (v1 := .int .i64 z) rfl rfl rfl (by kernel_rfl)) (branch_doc_neg v z _ hz) ?_
    rintro _ ww7 ⟨rfl, mm8⟩
    have mm9 : Mo w ww7 [] := mm6.gr mm8
    refine ⟨_, rfl, trivial, ?_⟩
    refine k0 (wt_none rfl _) rfl (.tuple #[.slice none 0 0, .int .i64 1]) (fun _ _ => exec_move (.tmp 22) (.inl rfl) _ rfl) ?_
    refine k0 (wt_none rfl _) rfl (.slice none 0 0) (fun _ _ => exec_extract (.tmp 19) 0 rfl [.slice none 0 0, .int .i64 1] _ rfl rfl) ?_
    refine k0 (wt_none rfl _) rfl (.int .i64 1) (fun _ _ => exec_extract (.tmp 19) 1 rfl [.slice none 0 0, .int .i64 1] _ rfl rfl) ?_
    refine k0 (wt_none rfl _) rfl (.slice none 0 0) (fun _ _ => exec_move (.tmp 23) (.inr rfl) _ rfl) ?_
    refine k0 (wt_none rfl _) rfl (.int .i64 1) (fun _ _ => exec_move (.tmp 24) (.inr rfl) _ rfl) ?_
    refine kend ?_
    refine th_n ?_
    refine sq ?_
    refine cz [(0, v), (1, .int .i64 z), (4, .bool false), (5, .slice none 0 0), (6, .int .i64 1), (7, .slice none 0 0), (8, .int .i64 1), (11, .bool false)] ⟨rfl, rfl, rfl, rfl, rfl, rfl, rfl, rfl, trivial⟩ (fun _ => ?_)
    refine rp [2, 0, 0, 0, 2, 0, 0, 0, 0, 0, 0, 0] ?_
    refine kc (wt_none rfl _) rfl (x_cl0 rfl (by kernel_rfl)) (alive_any _ (ht.gr mm9.below) (Nat.le_trans h2 mm9.size)) ?_
    rintro _ ww10 ⟨rfl, mm11⟩
    have mm12 : Mo w ww10 [] := mm9.gr mm11
    refine ⟨_, rfl, trivial, ?_⟩
    refine k0 (wt_none rfl _) rfl (.bool true) (fun _ _ => exec_move (.tmp 25) (.inl rfl) _ rfl) ?_
    refine k0 (wt_some rfl rfl rfl rfl) rfl (.slice none 0 0) (fun _ _ => exec_move (.tmp 5) (.inl rfl) _ rfl) ?_
    refine k0 (wt_some rfl rfl rfl rfl) rfl (.slice none 0 0) (fun _ _ => exec_move (.tmp 7) (.inl rfl) _ rfl) ?_
    refine kc (wt_some rfl rfl rfl rfl) rfl (x_cl2 (v0 := .slice none 0 0) (v1 := .slice none 0 0) rfl rfl rfl (by kernel_rfl)) (same_doc (.slice none 0 0) (.slice none 0 0) [] _ H32.nil (Rc.nil _ _) (Rc.nil _ _) (Nat.zero_le _)) ?_
    rintro _ ww13 ⟨rfl, mm14⟩
    have mm15 : Mo w ww13 [] := mm12.gr mm14
    refine ⟨_, rfl, trivial, ?_⟩
    refine k0 (wt_none rfl _) rfl (.bool true) (fun _ _ => x_pick (.tmp 26) (.tmp 29) (.const (.bool false)) rfl true _ rfl rfl) ?_
    refine k0 (wt_none rfl _) rfl (.bool true) (fun _ _ => exec_move (.tmp 30) (.inl rfl) _ rfl) ?_
    refine k0 (wt_some rfl rfl rfl rfl) rfl (.int .i64 1) (fun _ _ => exec_move (.tmp 6) (.inl rfl) _ rfl) ?_
    refine k0 (wt_some rfl rfl rfl rfl) rfl (.int .i64 1) (fun _ _ => exec_move (.tmp 8) (.inl rfl) _ rfl) ?_
    refine k0 (wt_some rfl rfl rfl rfl) rfl (.bool true) (fun _ _ => x_eql_t (.tmp 32) (.tmp 33) _ _ rfl 1 1 .i64 (by omega) rfl rfl) ?_
    refine k0 (wt_none rfl _) rfl (.bool true) (fun _ _ => x_pick (.tmp 31) (.tmp 34) (.const (.bool false)) rfl true _ rfl rfl) ?_
    refine k0 (wt_none rfl _) rfl (.bool true) (fun _ _ => exec_move (.tmp 35) (.inr rfl) _ rfl) ?_
    refine kend ?_
    refine th_n ?_
    refine re ?_
    refine rt1 rfl ?_
    exact ⟨rfl, mm15.below⟩

set_option maxHeartbeats 1000000 in
theorem branch_law_big (v : Value) (l : List (List UInt8)) (w : World) (_h32 : H32 l) (hv : Rc w.heap.size w v l.length (cH l)) (i : Nat) (hz : i ≥ l.length) (ht : Tabs w) (h2 : 2 ≤ w.heap.size) :
    Calls Tryd.prog 4 #[v, .int .i64 ((i : Nat) : Int)] w fun e w' => e = .returned (.bool true) ∧ Below w.heap.size w w' := by
  have m0 := Mo.start w
  refine enter [v, .int .i64 ((i : Nat) : Int)] 36 Tryd.func4 rfl Tryd.ntmps4 (Nat.le_of_ble_eq_true rfl) ?_
  refine sq ?_
  refine cz [(0, v), (1, .int .i64 ((i : Nat) : Int))] ⟨rfl, rfl, trivial⟩ (fun _ => ?_)
  refine rp [0] ?_
  refine k0 (wt_none rfl _) rfl (.bool false) (fun _ _ => exec_move (.const (.bool false)) (.inr rfl) _ rfl) ?_
  refine kend ?_
  refine th_n ?_
  refine sq ?_
  refine sq ?_
  by_cases hm : l.length > 40
  · skip
    refine cz [(0, v), (1, .int .i64 ((i : Nat) : Int)), (4, .bool false)] ⟨rfl, rfl, rfl, trivial⟩ (fun _ => ?_)
    refine rp [0, 1, 0] ?_
    refine k0 (wt_none rfl _) rfl (v) (fun _ _ => exec_move (.tmp 0) (.inl rfl) _ rfl) ?_
    refine k1 (wt_none rfl _) rfl (.int .i64 ((l.length : Nat) : Int)) (x_len Tryd.sh.sl (.tmp 9) rfl (Rc.at hv m0) rfl) ?_
    refine k0 (wt_none rfl _) rfl (.bool true) (fun _ _ => x_gtr_t (.tmp 10) (.const (.int .i64 40)) _ _ rfl l.length 40 .i64 (by omega) rfl rfl) ?_
    refine kend ?_
    refine th_n ?_
    refine cdt rfl ?_
    refine sq ?_
    refine cz [(0, v), (1, .int .i64 ((i : Nat) : Int)), (4, .bool false), (11, .bool true)] ⟨rfl, rfl, rfl, rfl, trivial⟩ (fun _ => ?_)
    refine rp [2, 0] ?_
    refine kc (wt_none rfl _) rfl (x_cl0 rfl (by kernel_rfl)) (alive_any _ (ht.gr m0.below) (Nat.le_trans h2 m0.size)) ?_
    rintro _ ww1 ⟨rfl, mm2⟩
    have mm3 : Mo w ww1 [] := m0.gr mm2
    refine ⟨_, rfl, trivial, ?_⟩
    refine k0 (wt_none rfl _) rfl (.bool true) (fun _ _ => exec_move (.tmp 12) (.inr rfl) _ rfl) ?_
    refine kend ?_
    refine th_n ?_
    refine re ?_
    refine th_r ?_
    refine rt1 rfl ?_
    exact ⟨rfl, mm3.below⟩
  · skip
    refine cz [(0, v), (1, .int .i64 ((i : Nat) : Int)), (4, .bool false)] ⟨rfl, rfl, rfl, trivial⟩ (fun _ => ?_)
    refine rp [0, 1, 0] ?_
    refine k0 (wt_none rfl _) rfl (v) (fun _ _ => exec_move (.tmp 0) (.inl rfl) _ rfl) ?_
    refine k1 (wt_none rfl _) rfl (.int .i64 ((l.length : Nat) : Int)) (x_len Tryd.sh.sl (.tmp 9) rfl (Rc.at hv m0) rfl) ?_
    refine k0 (wt_none rfl _) rfl (.bool false) (fun _ _ => x_gtr_f (.tmp 10) (.const (.int .i64 40)) _ _ rfl l.length 40 .i64 (by omega) rfl rfl) ?_
    refine kend ?_
    refine th_n ?_
    refine cdf rfl ?_
    refine sk ?_
    refine th_n ?_
    refine sq ?_
    refine cz [(0, v), (1, .int .i64 ((i : Nat) : Int)), (4, .bool false), (11, .bool false)] ⟨rfl, rfl, rfl, rfl, trivial⟩ (fun _ => ?_)
    refine rp [0, 0, 2, 0, 0, 0, 0, 0] ?_
    refine k0 (wt_none rfl _) rfl (v) (fun _ _ => exec_move (.tmp 0) (.inl rfl) _ rfl) ?_
    refine k0 (wt_none rfl _) rfl (.int .i64 ((i : Nat) : Int)) (fun _ _ => exec_move (.tmp 1) (.inl rfl) _ rfl) ?_
    refine kc (wt_none rfl _) rfl (x_cl2 (v0 := v) (v1 := .int .i64 ((i : Nat) : Int)) rfl rfl rfl (by kernel_rfl)) (branch_any_big v l i _ (Rc.at hv m0) hz) ?_
    rintro _ ww4 ⟨rfl, mm5⟩
    have mm6 : Mo w ww4 [] := m0.gr mm5
    refine ⟨_, rfl, trivial, ?_⟩
    refine k0 (wt_none rfl _) rfl (.tuple #[.slice none 0 0, .int .i64 1]) (fun _ _ => exec_move (.tmp 16) (.inl rfl) _ rfl) ?_
    refine k0 (wt_none rfl _) rfl (.slice none 0 0) (fun _ _ => exec_extract (.tmp 13) 0 rfl [.slice none 0 0, .int .i64 1] _ rfl rfl) ?_
    refine k0 (wt_none rfl _) rfl (.int .i64 1) (fun _ _ => exec_extract (.tmp 13) 1 rfl [.slice none 0 0, .int .i64 1] _ rfl rfl) ?_
    refine k0 (wt_none rfl _) rfl (.slice none 0 0) (fun _ _ => exec_move (.tmp 17) (.inr rfl) _ rfl) ?_
    refine k0 (wt_none rfl _) rfl (.int .i64 1) (fun _ _ => exec_move (.tmp 18) (.inr rfl) _ rfl) ?_
    refine kend ?_
    refine th_n ?_
    refine sq ?_
    refine cz [(0, v), (1, .int .i64 ((i : Nat) : Int)), (4, .bool false), (5, .slice none 0 0), (6, .int .i64 1), (11, .bool false)] ⟨rfl, rfl, rfl, rfl, rfl, rfl, trivial⟩ (fun _ => ?_)
    refine rp [0, 0, 2, 0, 0, 0, 0, 0] ?_
    refine k0 (wt_none rfl _) rfl (v) (fun _ _ => exec_move (.tmp 0) (.inl rfl) _ rfl) ?_
    refine k0 (wt_none rfl _) rfl (.int .i64 ((i : Nat) : Int)) (fun _ _ => exec_move (.tmp 1) (.inl rfl) _ rfl) ?_
    refine kc (wt_none rfl _) rfl (x_cl2 (v0 := v) (v1 := .int .i64 ((i : Nat) : Int)) rfl rfl rfl (by kernel_rfl)) (branch_doc_big v l i _ (Rc.at hv mm6) hz) ?_
    rintro _ ww7 ⟨rfl, mm8⟩
    have mm9 : Mo w ww7 [] := mm6.gr mm8
    refine ⟨_, rfl, trivial, ?_⟩
    refine k0 (wt_none rfl _) rfl (.tuple #[.slice none 0 0, .int .i64 1]) (fun _ _ => exec_move (.tmp 22) (.inl rfl) _ rfl) ?_
    refine k0 (wt_none rfl _) rfl (.slice none 0 0) (fun _ _ => exec_extract (.tmp 19) 0 rfl [.slice none 0 0, .int .i64 1] _ rfl rfl) ?_
    refine k0 (wt_none rfl _) rfl (.int .i64 1) (fun _ _ => exec_extract (.tmp 19) 1 rfl [.slice none 0 0, .int .i64 1] _ rfl rfl) ?_
    refine k0 (wt_none rfl _) rfl (.slice none 0 0) (fun _ _ => exec_move (.tmp 23) (.inr rfl) _ rfl) ?_
    refine k0 (wt_none rfl _) rfl (.int .i64 1) (fun _ _ => exec_move (.tmp 24) (.inr rfl) _ rfl) ?_
    refine kend ?_
    refine th_n ?_
    refine sq ?_
    refine cz [(0, v), (1, .int .i64 ((i : Nat) : Int)), (4, .bool false), (5, .slice none 0 0), (6, .int .i64 1), (7, .slice none 0 0), (8, .int .i64 1), (11, .bool false)] ⟨rfl, rfl, rfl, rfl, rfl, rfl, rfl, rfl, trivial⟩ (fun _ => ?_)
    refine rp [2, 0, 0, 0, 2, 0, 0, 0, 0, 0, 0, 0] ?_
    refine kc (wt_none rfl _) rfl (x_cl0 rfl (by kernel_rfl)) (alive_any _ (ht.gr mm9.below) (Nat.le_trans h2 mm9.size)) ?_
    rintro _ ww10 ⟨rfl, mm11⟩
    have mm12 : Mo w ww10 [] := mm9.gr mm11
    refine ⟨_, rfl, trivial, ?_⟩
    refine k0 (wt_none rfl _) rfl (.bool true) (fun _ _ => exec_move (.tmp 25) (.inl rfl) _ rfl) ?_
    refine k0 (wt_some rfl rfl rfl rfl) rfl (.slice none 0 0) (fun _ _ => exec_move (.tmp 5) (.inl rfl) _ rfl) ?_
    refine k0 (wt_some rfl rfl rfl rfl) rfl (.slice none 0 0) (fun _ _ => exec_move (.tmp 7) (.inl rfl) _ rfl) ?_
    refine kc (wt_some rfl rfl rfl rfl) rfl (x_cl2 (v0 := .slice none 0 0) (v1 := .slice none 0 0) rfl rfl rfl (by kernel_rfl)) (same_doc (.slice none 0 0) (.slice none 0 0) [] _ H32.nil (Rc.nil _ _) (Rc.nil _ _) (Nat.zero_le _)) ?_
    rintro _ ww13 ⟨rfl, mm14⟩
    have mm15 : Mo w ww13 [] := mm12.gr mm14
    refine ⟨_, rfl, trivial, ?_⟩
    refine k0 (wt_none rfl _) rfl (.bool true) (fun _ _ => x_pick (.tmp 26) (.tmp 29) (.const (.bool false)) rfl true _ rfl rfl) ?_
    refine k0 (wt_none rfl _) rfl (.bool true) (fun _ _ => exec_move (.tmp 30) (.inl rfl) _ rfl) ?_
    refine k0 (wt_some rfl rfl rfl rfl) rfl (.int .i64 1) (fun _ _ => exec_move (.tmp 6) (.inl rfl) _ rfl) ?_
    refine k0 (wt_some rfl rfl rfl rfl) rfl (.int .i64 1) (fun _ _ => exec_move (.tmp 8) (.inl rfl) _ rfl) ?_
    refine k0 (wt_some rfl rfl rfl rfl) rfl (.bool true) (fun _ _ => x_eql_t (.tmp 32) (.tmp 33) _ _ rfl 1 1 .i64 (by omega) rfl rfl) ?_
    refine k0 (wt_none rfl _) rfl (.bool true) (fun _ _ => x_pick (.tmp 31) (.tmp 34) (.const (.bool false)) rfl true _ rfl rfl) ?_
    refine k0 (wt_none rfl _) rfl (.bool true) (fun _ _ => exec_move (.tmp 35) (.inr rfl) _ rfl) ?_
    refine kend ?_
    refine th_n ?_
    refine re ?_
    refine rt1 rfl ?_
    exact ⟨rfl, mm15.below⟩

set_option maxHeartbeats 1000000 in
theorem branch_law_in (v : Value) (l : List (List UInt8)) (w : World) (h32 : H32 l) (hv : Rc w.heap.size w v l.length (cH l)) (i : Nat) (hi : i < l.length) (ht : Tabs w) (h2 : 2 ≤ w.heap.size) :
    Calls Tryd.prog 4 #[v, .int .i64 ((i : Nat) : Int)] w fun e w' => e = .returned (.bool true) ∧ Below w.heap.size w w' := by
  have hts : l.length ≤ 40 → topK l ≤ 40 := topK_small
  have m0 := Mo.start w
  refine enter [v, .int .i64 ((i : Nat) : Int)] 36 Tryd.func4 rfl Tryd.ntmps4 (Nat.le_of_ble_eq_true rfl) ?_
  refine sq ?_
  refine cz [(0, v), (1, .int .i64 ((i : Nat) : Int))] ⟨rfl, rfl, trivial⟩ (fun _ => ?_)
  refine rp [0] ?_
  refine k0 (wt_none rfl _) rfl (.bool false) (fun _ _ => exec_move (.const (.bool false)) (.inr rfl) _ rfl) ?_
  refine kend ?_
  refine th_n ?_
  refine sq ?_
  refine sq ?_
  by_cases hm : l.length > 40
  · skip
    refine cz [(0, v), (1, .int .i64 ((i : Nat) : Int)), (4, .bool false)] ⟨rfl, rfl, rfl, trivial⟩ (fun _ => ?_)
    refine rp [0, 1, 0] ?_
    refine k0 (wt_none rfl _) rfl (v) (fun _ _ => exec_move (.tmp 0) (.inl rfl) _ rfl) ?_
    refine k1 (wt_none rfl _) rfl (.int .i64 ((l.length : Nat) : Int)) (x_len Tryd.sh.sl (.tmp 9) rfl (Rc.at hv m0) rfl) ?_
    refine k0 (wt_none rfl _) rfl (.bool true) (fun _ _ => x_gtr_t (.tmp 10) (.const (.int .i64 40)) _ _ rfl l.length 40 .i64 (by omega) rfl rfl) ?_
    refine kend ?_
    refine th_n ?_
    refine cdt rfl ?_
    refine sq ?_
    refine cz [(0, v), (1, .int .i64 ((i : Nat) : Int)), (4, .bool false), (11, .bool true)] ⟨rfl, rfl, rfl, rfl, trivial⟩ (fun _ => ?_)
    refine rp [2, 0] ?_
    refine kc (wt_none rfl _) rfl (x_cl0 rfl (by kernel_rfl)) (alive_any _ (ht.gr m0.below) (Nat.le_trans h2 m0.size)) ?_
    rintro _ ww1 ⟨rfl, mm2⟩
    have mm3 : Mo w ww1 [] := m0.gr mm2
    refine ⟨_, rfl, trivial, ?_⟩
    refine k0 (wt_none rfl _) rfl (.bool true) (fun _ _ => exec_move (.tmp 12) (.inr rfl) _ rfl) ?_
    refine kend ?_
    refine th_n ?_
    refine re ?_
    refine th_r ?_
    refine rt1 rfl ?_
    exact ⟨rfl, mm3.below⟩
  · skip
    refine cz [(0, v), (1, .int .i64 ((i : Nat) : Int)), (4, .bool false)] ⟨rfl, rfl, rfl, trivial⟩ (fun _ => ?_)
    refine rp [0, 1, 0] ?_
    refine k0 (wt_none rfl _) rfl (v) (fun _ _ => exec_move (.tmp 0) (.inl rfl) _ rfl) ?_
    refine k1 (wt_none rfl _) rfl (.int .i64 ((l.length : Nat) : Int)) (x_len Tryd.sh.sl (.tmp 9) rfl (Rc.at hv m0) rfl) ?_
    refine k0 (wt_none rfl _) rfl (.bool false) (fun _ _ => x_gtr_f (.tmp 10) (.const (.int .i64 40)) _ _ rfl l.length 40 .i64 (by omega) rfl rfl) ?_
    refine kend ?_
    refine th_n ?_
    refine cdf rfl ?_
    refine sk ?_
    refine th_n ?_
    refine sq ?_
    refine cz [(0, v), (1, .int .i64 ((i : Nat) : Int)), (4, .bool false), (11, .bool false)] ⟨rfl, rfl, rfl, rfl, trivial⟩ (fun _ => ?_)
    refine rp [0, 0, 2, 0, 0, 0, 0, 0] ?_
    refine k0 (wt_none rfl _) rfl (v) (fun _ _ => exec_move (.tmp 0) (.inl rfl) _ rfl) ?_
    refine k0 (wt_none rfl _) rfl (.int .i64 ((i : Nat) : Int)) (fun _ _ => exec_move (.tmp 1) (.inl rfl) _ rfl) ?_
    refine kc (wt_none rfl _) rfl (x_cl2 (v0 := v) (v1 := .int .i64 ((i : Nat) : Int)) rfl rfl rfl (by kernel_rfl)) (branch_any v l i _ h32 (Rc.at hv m0) (by omega) (ht.gr m0.below) (Nat.le_trans h2 m0.size) hi) ?_
    rintro _ ww4 ⟨vv6, rfl, mm5⟩
    have mm7 : Mo w ww4 [.own 24 32 vv6 (topK l) (cH (way l i (topK l)))] := m0.join mm5
    refine ⟨_, rfl, trivial, ?_⟩
    refine k0 (wt_none rfl _) rfl (.tuple #[vv6, .int .i64 0]) (fun _ _ => exec_move (.tmp 16) (.inl rfl) _ rfl) ?_
    refine k0 (wt_none rfl _) rfl (vv6) (fun _ _ => exec_extract (.tmp 13) 0 rfl [vv6, .int .i64 0] _ rfl rfl) ?_
    refine k0 (wt_none rfl _) rfl (.int .i64 0) (fun _ _ => exec_extract (.tmp 13) 1 rfl [vv6, .int .i64 0] _ rfl rfl) ?_
    refine k0 (wt_none rfl _) rfl (vv6) (fun _ _ => exec_move (.tmp 17) (.inr rfl) _ rfl) ?_
    refine k0 (wt_none rfl _) rfl (.int .i64 0) (fun _ _ => exec_move (.tmp 18) (.inr rfl) _ rfl) ?_
    refine kend ?_
    refine th_n ?_
    refine sq ?_
    refine cz [(0, v), (1, .int .i64 ((i : Nat) : Int)), (4, .bool false), (5, vv6), (6, .int .i64 0), (11, .bool false)] ⟨rfl, rfl, rfl, rfl, rfl, rfl, trivial⟩ (fun _ => ?_)
    refine rp [0, 0, 2, 0, 0, 0, 0, 0] ?_
    refine k0 (wt_none rfl _) rfl (v) (fun _ _ => exec_move (.tmp 0) (.inl rfl) _ rfl) ?_
    refine k0 (wt_none rfl _) rfl (.int .i64 ((i : Nat) : Int)) (fun _ _ => exec_move (.tmp 1) (.inl rfl) _ rfl) ?_
    refine kc (wt_none rfl _) rfl (x_cl2 (v0 := v) (v1 := .int .i64 ((i : Nat) : Int)) rfl rfl rfl (by kernel_rfl)) (branch_doc v l i _ h32 (Rc.at hv mm7) (by omega) hi) ?_
    rintro _ ww8 ⟨vv10, rfl, mm9⟩
    have mm11 : Mo w ww8 [.own 24 32 vv10 (topK l) (cH (way l i (topK l))), .own 24 32 vv6 (topK l) (cH (way l i (topK l)))] := mm7.join mm9
    refine ⟨_, rfl, trivial, ?_⟩
    refine k0 (wt_none rfl _) rfl (.tuple #[vv10, .int .i64 0]) (fun _ _ => exec_move (.tmp 22) (.inl rfl) _ rfl) ?_
    refine k0 (wt_none rfl _) rfl (vv10) (fun _ _ => exec_extract (.tmp 19) 0 rfl [vv10, .int .i64 0] _ rfl rfl) ?_
    refine k0 (wt_none rfl _) rfl (.int .i64 0) (fun _ _ => exec_extract (.tmp 19) 1 rfl [vv10, .int .i64 0] _ rfl rfl) ?_
    refine k0 (wt_none rfl _) rfl (vv10) (fun _ _ => exec_move (.tmp 23) (.inr rfl) _ rfl) ?_
    refine k0 (wt_none rfl _) rfl (.int .i64 0) (fun _ _ => exec_move (.tmp 24) (.inr rfl) _ rfl) ?_
    refine kend ?_
    refine th_n ?_
    refine sq ?_
    refine cz [(0, v), (1, .int .i64 ((i : Nat) : Int)), (4, .bool false), (5, vv6), (6, .int .i64 0), (7, vv10), (8, .int .i64 0), (11, .bool false)] ⟨rfl, rfl, rfl, rfl, rfl, rfl, rfl, rfl, trivial⟩ (fun _ => ?_)
    refine rp [2, 0, 0, 0, 2, 0, 0, 0, 0, 0, 0, 0] ?_
    refine kc (wt_none rfl _) rfl (x_cl0 rfl (by kernel_rfl)) (alive_any _ (ht.gr mm11.below) (Nat.le_trans h2 mm11.size)) ?_
    rintro _ ww12 ⟨rfl, mm13⟩
    have mm14 : Mo w ww12 [.own 24 32 vv10 (topK l) (cH (way l i (topK l))), .own 24 32 vv6 (topK l) (cH (way l i (topK l)))] := mm11.gr mm13
    refine ⟨_, rfl, trivial, ?_⟩
    refine k0 (wt_none rfl _) rfl (.bool true) (fun _ _ => exec_move (.tmp 25) (.inl rfl) _ rfl) ?_
    refine k0 (wt_some rfl rfl rfl rfl) rfl (vv6) (fun _ _ => exec_move (.tmp 5) (.inl rfl) _ rfl) ?_
    refine k0 (wt_some rfl rfl rfl rfl) rfl (vv10) (fun _ _ => exec_move (.tmp 7) (.inl rfl) _ rfl) ?_
    refine kc (wt_some rfl rfl rfl rfl) rfl (x_cl2 (v0 := vv6) (v1 := vv10) rfl rfl rfl (by kernel_rfl)) (same_way vv6 vv10 _ h32 hi (mm14.rc 1 rfl) (mm14.rc 0 rfl) (by omega)) ?_
    rintro _ ww15 ⟨rfl, mm16⟩
    have mm17 : Mo w ww15 [.own 24 32 vv10 (topK l) (cH (way l i (topK l))), .own 24 32 vv6 (topK l) (cH (way l i (topK l)))] := mm14.gr mm16
    refine ⟨_, rfl, trivial, ?_⟩
    refine k0 (wt_none rfl _) rfl (.bool true) (fun _ _ => x_pick (.tmp 26) (.tmp 29) (.const (.bool false)) rfl true _ rfl rfl) ?_
    refine k0 (wt_none rfl _) rfl (.bool true) (fun _ _ => exec_move (.tmp 30) (.inl rfl) _ rfl) ?_
    refine k0 (wt_some rfl rfl rfl rfl) rfl (.int .i64 0) (fun _ _ => exec_move (.tmp 6) (.inl rfl) _ rfl) ?_
    refine k0 (wt_some rfl rfl rfl rfl) rfl (.int .i64 0) (fun _ _ => exec_move (.tmp 8) (.inl rfl) _ rfl) ?_
    refine k0 (wt_some rfl rfl rfl rfl) rfl (.bool true) (fun _ _ => x_eql_t (.tmp 32) (.tmp 33) _ _ rfl 0 0 .i64 (by omega) rfl rfl) ?_
    refine k0 (wt_none rfl _) rfl (.bool true) (fun _ _ => x_pick (.tmp 31) (.tmp 34) (.const (.bool false)) rfl true _ rfl rfl) ?_
    refine k0 (wt_none rfl _) rfl (.bool true) (fun _ _ => exec_move (.tmp 35) (.inr rfl) _ rfl) ?_
    refine kend ?_
    refine th_n ?_
    refine re ?_
    refine rt1 rfl ?_
    exact ⟨rfl, mm17.below⟩

set_option maxHeartbeats 1000000 in
theorem climb_law_neg (lf : List UInt8) (v : Value) (b : List (List UInt8)) (w : World) (hx : (cellsOf lf).length = 32) (h32 : H32 b) (hv : Rc w.heap.size w v b.length (cH b)) (z : Int) (hz : z < 0) (ht : Tabs w) (h2 : 2 ≤ w.heap.size) :
    Calls Tryd.prog 5 #[.agg (cellsOf lf).toArray, .int .i64 z, v] w fun e w' => e = .returned (.bool true) ∧ Below w.heap.size w w' := by
  have m0 := Mo.start w
  refine enter [.agg (cellsOf lf).toArray, .int .i64 z, v] 23 Tryd.func5 rfl Tryd.ntmps5 (Nat.le_of_ble_eq_true rfl) ?_
  refine sq ?_
  refine cz [(0, .agg (cellsOf lf).toArray), (1, .int .i64 z), (2, v)] ⟨rfl, rfl, rfl, trivial⟩ (fun _ => ?_)
  refine rp [2, 0] ?_
  refine k2 (wt_none rfl _) rfl (x_box 24 (.tmp 0) rfl m0 (cellsOf lf) rfl) ?_
  rintro _ ww1 ⟨gg3, rfl, mm2⟩
  refine ⟨trivial, ?_⟩
  refine k0 (wt_none rfl _) rfl (.bool false) (fun _ _ => exec_move (.const (.bool false)) (.inr rfl) _ rfl) ?_
  refine kend ?_
  refine th_n ?_
  refine sq ?_
  refine sq ?_
  by_cases hm : b.length > 40
  · skip
    refine cz [(0, .agg (cellsOf lf).toArray), (1, .int .i64 z), (2, v), (3, .pointer (some ⟨gg3, 0, none⟩)), (6, .bool false)] ⟨rfl, rfl, rfl, rfl, rfl, trivial⟩ (fun _ => ?_)
    refine rp [0, 1, 0] ?_
    refine k0 (wt_none rfl _) rfl (v) (fun _ _ => exec_move (.tmp 2) (.inl rfl) _ rfl) ?_
    refine k1 (wt_none rfl _) rfl (.int .i64 ((b.length : Nat) : Int)) (x_len Tryd.sh.sl (.tmp 7) rfl (Rc.at hv mm2) rfl) ?_
    refine k0 (wt_none rfl _) rfl (.bool true) (fun _ _ => x_gtr_t (.tmp 8) (.const (.int .i64 40)) _ _ rfl b.length 40 .i64 (by omega) rfl rfl) ?_
    refine kend ?_
    refine th_n ?_
    refine cdt rfl ?_
    refine sq ?_
    refine cz [(0, .agg (cellsOf lf).toArray), (1, .int .i64 z), (2, v), (3, .pointer (some ⟨gg3, 0, none⟩)), (6, .bool false), (9, .bool true)] ⟨rfl, rfl, rfl, rfl, rfl, rfl, trivial⟩ (fun _ => ?_)
    refine rp [2, 0] ?_
    refine kc (wt_none rfl _) rfl (x_cl0 rfl (by kernel_rfl)) (alive_any _ (ht.gr mm2.below) (Nat.le_trans h2 mm2.size)) ?_
    rintro _ ww4 ⟨rfl, mm5⟩
    have mm6 : Mo w ww4 [.arr gg3 24 (cellsOf lf)] := mm2.gr mm5
    refine ⟨_, rfl, trivial, ?_⟩
    refine k0 (wt_none rfl _) rfl (.bool true) (fun _ _ => exec_move (.tmp 10) (.inr rfl) _ rfl) ?_
    refine kend ?_
    refine th_n ?_
    refine re ?_
    refine th_r ?_
    refine rt1 rfl ?_
    exact ⟨rfl, mm6.below⟩
  · skip
    refine cz [(0, .agg (cellsOf lf).toArray), (1, .int .i64 z), (2, v), (3, .pointer (some ⟨gg3, 0, none⟩)), (6, .bool false)] ⟨rfl, rfl, rfl, rfl, rfl, trivial⟩ (fun _ => ?_)
    refine rp [0, 1, 0] ?_
    refine k0 (wt_none rfl _) rfl (v) (fun _ _ => exec_move (.tmp 2) (.inl rfl) _ rfl) ?_
    refine k1 (wt_none rfl _) rfl (.int .i64 ((b.length : Nat) : Int)) (x_len Tryd.sh.sl (.tmp 7) rfl (Rc.at hv mm2) rfl) ?_
    refine k0 (wt_none rfl _) rfl (.bool false) (fun _ _ => x_gtr_f (.tmp 8) (.const (.int .i64 40)) _ _ rfl b.length 40 .i64 (by omega) rfl rfl) ?_
    refine kend ?_
    refine th_n ?_
    refine cdf rfl ?_
    refine sk ?_
    refine th_n ?_
    refine sq ?_
    refine cz [(0, .agg (cellsOf lf).toArray), (1, .int .i64 z), (2, v), (3, .pointer (some ⟨gg3, 0, none⟩)), (6, .bool false), (9, .bool false)] ⟨rfl, rfl, rfl, rfl, rfl, rfl, trivial⟩ (fun _ => ?_)
    have mm8 := mm2.drew
    refine rq (fun w1 => Mo w w1 [.arr gg3 24 (cellsOf lf)]) [2, 0, 0, 0, 0, 2, 0, 0, 0, 2, 0, 0, 0] (by kernel_rfl) (by kernel_rfl) (by kernel_rfl) (mm8.sub (List.Sublist.cons_cons _ List.Sublist.slnil)) ?_
    refine kc (wt_none rfl _) rfl (x_cl0 rfl (by kernel_rfl)) (alive_any _ (ht.gr mm8.below) (Nat.le_trans h2 mm8.size)) ?_
    rintro _ ww9 ⟨rfl, mm10⟩
    have mm11 : Mo w ww9 [.arr gg3 24 (cellsOf lf)] := mm8.gr mm10
    refine ⟨_, rfl, (mm11.sub (List.Sublist.cons_cons _ List.Sublist.slnil)), ?_⟩
    refine k0 (wt_none rfl _) rfl (.bool true) (fun _ _ => exec_move (.tmp 11) (.inl rfl) _ rfl) ?_
    refine k0 (wt_some rfl rfl rfl rfl) rfl (.agg (cellsOf lf).toArray) (fun _ hC => exec_load_arr Tryd.ah (.tmp 3) rfl gg3 _ hx rfl (hC.arr 0 rfl)) ?_
    refine k0 (wt_some rfl rfl rfl rfl) rfl (.int .i64 z) (fun _ _ => exec_move (.tmp 1) (.inl rfl) _ rfl) ?_
    refine k0 (wt_some rfl rfl rfl rfl) rfl (v) (fun _ _ => exec_move (.tmp 2) (.inl rfl) _ rfl) ?_
    refine kc (wt_some rfl rfl rfl rfl) rfl (x_cl3 (v0 := .agg (cellsOf lf).toArray) (v1 := .int .i64 z) (v2 := v) rfl rfl rfl rfl (by kernel_rfl)) (climb_neg lf z v b _ hx h32 (Rc.at hv mm11) (by omega) hz (ht.gr mm11.below) (Nat.le_trans h2 mm11.size)) ?_
    rintro _ ww12 ⟨rfl, mm13⟩
    have mm14 : Mo w ww12 [.arr gg3 24 (cellsOf lf)] := mm11.gr mm13
    refine ⟨_, rfl, (mm14.sub (List.Sublist.cons_cons _ List.Sublist.slnil)), ?_⟩
    refine k0 (wt_some rfl rfl rfl rfl) rfl (.agg (cellsOf lf).toArray) (fun _ hC => exec_load_arr Tryd.ah (.tmp 3) rfl gg3 _ hx rfl (hC.arr 0 rfl)) ?_
    refine k0 (wt_some rfl rfl rfl rfl) rfl (.int .i64 z) (fun _ _ => exec_move (.tmp 1) (.inl rfl) _ rfl) ?_
    refine k0 (wt_some rfl rfl rfl rfl) rfl (v) (fun _ _ => exec_move (.tmp 2) (.inl rfl) _ rfl) ?_
    refine kc (wt_some rfl rfl rfl rfl) rfl (x_cl3 (v0 := .agg (cellsOf lf).toArray) (v1 := .int .i64 z) (v2 := v) rfl rfl rfl rfl (by kernel_rfl)) (climb_doc_neg lf z v b _ hx h32 (Rc.at hv mm14) (by omega) hz) ?_
    rintro _ ww15 ⟨rfl, mm16⟩
    have mm17 : Mo w ww15 [.arr gg3 24 (cellsOf lf)] := mm14.gr mm16
    refine ⟨_, rfl, (mm17.sub (List.Sublist.cons_cons _ List.Sublist.slnil)), ?_⟩
    refine k0 (wt_some rfl rfl rfl rfl) rfl (.bool true) (fun _ _ => x_eqa Tryd.ah Tryd.u8 (by kernel_rfl) (.tmp 16) (.tmp 20) _ rfl (clb lf 0 b b.length) (clb lf 0 b b.length) (by rw [cellsOf_length]; exact clb_length (len_of hx) _ _ _) (by rw [cellsOf_length]; exact clb_length (len_of hx) _ _ _) true (decide_eq_true rfl) rfl rfl) ?_
    refine k0 (wt_none rfl _) rfl (.bool true) (fun _ _ => x_pick (.tmp 12) (.tmp 21) (.const (.bool false)) rfl true _ rfl rfl) ?_
    refine k0 (wt_none rfl _) rfl (.bool true) (fun _ _ => exec_move (.tmp 22) (.inr rfl) _ rfl) ?_
    refine kend ?_
    refine th_n ?_
    refine re ?_
    refine rt1 rfl ?_
    exact ⟨rfl, mm17.below⟩

set_option maxHeartbeats 1000000 in
theorem climb_law_nat (lf : List UInt8) (v : Value) (b : List (List UInt8)) (w : World) (hx : (cellsOf lf).length = 32) (h32 : H32 b) (hv : Rc w.heap.size w v b.length (cH b)) (i : Nat) (hz : i < 9223372036854775808) (ht : Tabs w) (h2 : 2 ≤ w.heap.size) :
    Calls Tryd.prog 5 #[.agg (cellsOf lf).toArray, .int .i64 ((i : Nat) : Int), v] w fun e w' => e = .returned (.bool true) ∧ Below w.heap.size w w' := by
  have m0 := Mo.start w
  refine enter [.agg (cellsOf lf).toArray, .int .i64 ((i : Nat) : Int), v] 23 Tryd.func5 rfl Tryd.ntmps5 (Nat.le_of_ble_eq_true rfl) ?_
  refine sq ?_
  refine cz [(0, .agg (cellsOf lf).toArray), (1, .int .i64 ((i : Nat) : Int)), (2, v)] ⟨rfl, rfl, rfl, trivial⟩ (fun _ => ?_)
  refine rp [2, 0] ?_
  refine k2 (wt_none rfl _) rfl (x_box 24 (.tmp 0) rfl m0 (cellsOf lf) rfl) ?_
  rintro _ ww1 ⟨gg3, rfl, mm2⟩
  refine ⟨trivial, ?_⟩
  refine k0 (wt_none rfl _) rfl (.bool false) (fun _ _ => exec_move (.const (.bool false)) (.inr rfl) _ rfl) ?_
  refine kend ?_
  refine th_n ?_
  refine sq ?_
  refine sq ?_
  by_cases hm : b.length > 40
  · skip
    refine cz [(0, .agg (cellsOf lf).toArray), (1, .int .i64 ((i : Nat) : Int)), (2, v), (3, .pointer (some ⟨gg3, 0, none⟩)), (6, .bool false)] ⟨rfl, rfl, rfl, rfl, rfl, trivial⟩ (fun _ => ?_)
    refine rp [0, 1, 0] ?_
    refine k0 (wt_none rfl _) rfl (v) (fun _ _ => exec_move (.tmp 2) (.inl rfl) _ rfl) ?_
    refine k1 (wt_none rfl _) rfl (.int .i64 ((b.length : Nat) : Int)) (x_len Tryd.sh.sl (.tmp 7) rfl (Rc.at hv mm2) rfl) ?_
    refine k0 (wt_none rfl _) rfl (.bool true) (fun _ _ => x_gtr_t (.tmp 8) (.const (.int .i64 40)) _ _ rfl b.length 40 .i64 (by omega) rfl rfl) ?_
    refine kend ?_
    refine th_n ?_
    refine cdt rfl ?_
    refine sq ?_
    refine cz [(0, .agg (cellsOf lf).toArray), (1, .int .i64 ((i : Nat) : Int)), (2, v), (3, .pointer (some ⟨gg3, 0, none⟩)), (6, .bool false), (9, .bool true)] ⟨rfl, rfl, rfl, rfl, rfl, rfl, trivial⟩ (fun _ => ?_)
    refine rp [2, 0] ?_
    refine kc (wt_none rfl _) rfl (x_cl0 rfl (by kernel_rfl)) (alive_any _ (ht.gr mm2.below) (Nat.le_trans h2 mm2.size)) ?_
    rintro _ ww4 ⟨rfl, mm5⟩
    have mm6 : Mo w ww4 [.arr gg3 24 (cellsOf lf)] := mm2.gr mm5
    refine ⟨_, rfl, trivial, ?_⟩
    refine k0 (wt_none rfl _) rfl (.bool true) (fun _ _ => exec_move (.tmp 10) (.inr rfl) _ rfl) ?_
    refine kend ?_
    refine th_n ?_
    refine re ?_
    refine th_r ?_
    refine rt1 rfl ?_
    exact ⟨rfl, mm6.below⟩
  · skip
    refine cz [(0, .agg (cellsOf lf).toArray), (1, .int .i64 ((i : Nat) : Int)), (2, v), (3, .pointer (some ⟨gg3, 0, none⟩)), (6, .bool false)] ⟨rfl, rfl, rfl, rfl, rfl, trivial⟩ (fun _ => ?_)
    refine rp [0, 1, 0] ?_
    refine k0 (wt_none rfl _) rfl (v) (fun _ _ => exec_move (.tmp 2) (.inl rfl) _ rfl) ?_
    refine k1 (wt_none rfl _) rfl (.int .i64 ((b.length : Nat) : Int)) (x_len Tryd.sh.sl (.tmp 7) rfl (Rc.at hv mm2) rfl) ?_
    refine k0 (wt_none rfl _) rfl (.bool false) (fun _ _ => x_gtr_f (.tmp 8) (.const (.int .i64 40)) _ _ rfl b.length 40 .i64 (by omega) rfl rfl) ?_
    refine kend ?_
    refine th_n ?_
    refine cdf rfl ?_
    refine sk ?_
    refine th_n ?_
    refine sq ?_
    refine cz [(0, .agg (cellsOf lf).toArray), (1, .int .i64 ((i : Nat) : Int)), (2, v), (3, .pointer (some ⟨gg3, 0, none⟩)), (6, .bool false), (9, .bool false)] ⟨rfl, rfl, rfl, rfl, rfl, rfl, trivial⟩ (fun _ => ?_)
    have mm8 := mm2.drew
    refine rq (fun w1 => Mo w w1 [.arr gg3 24 (cellsOf lf)]) [2, 0, 0, 0, 0, 2, 0, 0, 0, 2, 0, 0, 0] (by kernel_rfl) (by kernel_rfl) (by kernel_rfl) (mm8.sub (List.Sublist.cons_cons _ List.Sublist.slnil)) ?_
    refine kc (wt_none rfl _) rfl (x_cl0 rfl (by kernel_rfl)) (alive_any _ (ht.gr mm8.below) (Nat.le_trans h2 mm8.size)) ?_
    rintro _ ww9 ⟨rfl, mm10⟩
    have mm11 : Mo w ww9 [.arr gg3 24 (cellsOf lf)] := mm8.gr mm10
    refine ⟨_, rfl, (mm11.sub (List.Sublist.cons_cons _ List.Sublist.slnil)), ?_⟩
    refine k0 (wt_none rfl _) rfl (.bool true) (fun _ _ => exec_move (.tmp 11) (.inl rfl) _ rfl) ?_
    refine k0 (wt_some rfl rfl rfl rfl) rfl (.agg (cellsOf lf).toArray) (fun _ hC => exec_load_arr Tryd.ah (.tmp 3) rfl gg3 _ hx rfl (hC.arr 0 rfl)) ?_
    refine k0 (wt_some rfl rfl rfl rfl) rfl (.int .i64 ((i : Nat) : Int)) (fun _ _ => exec_move (.tmp 1) (.inl rfl) _ rfl) ?_
    refine k0 (wt_some rfl rfl rfl rfl) rfl (v) (fun _ _ => exec_move (.tmp 2) (.inl rfl) _ rfl) ?_
    refine kc (wt_some rfl rfl rfl rfl) rfl (x_cl3 (v0 := .agg (cellsOf lf).toArray) (v1 := .int .i64 ((i : Nat) : Int)) (v2 := v) rfl rfl rfl rfl (by kernel_rfl)) (climb_nat lf i v b _ hx h32 (Rc.at hv mm11) (by omega) hz (ht.gr mm11.below) (Nat.le_trans h2 mm11.size)) ?_
    rintro _ ww12 ⟨rfl, mm13⟩
    have mm14 : Mo w ww12 [.arr gg3 24 (cellsOf lf)] := mm11.gr mm13
    refine ⟨_, rfl, (mm14.sub (List.Sublist.cons_cons _ List.Sublist.slnil)), ?_⟩
    refine k0 (wt_some rfl rfl rfl rfl) rfl (.agg (cellsOf lf).toArray) (fun _ hC => exec_load_arr Tryd.ah (.tmp 3) rfl gg3 _ hx rfl (hC.arr 0 rfl)) ?_
    refine k0 (wt_some rfl rfl rfl rfl) rfl (.int .i64 ((i : Nat) : Int)) (fun _ _ => exec_move (.tmp 1) (.inl rfl) _ rfl) ?_
    refine k0 (wt_some rfl rfl rfl rfl) rfl (v) (fun _ _ => exec_move (.tmp 2) (.inl rfl) _ rfl) ?_
    refine kc (wt_some rfl rfl rfl rfl) rfl (x_cl3 (v0 := .agg (cellsOf lf).toArray) (v1 := .int .i64 ((i : Nat) : Int)) (v2 := v) rfl rfl rfl rfl (by kernel_rfl)) (climb_doc lf i v b _ hx h32 (Rc.at hv mm14) (by omega) hz) ?_
    rintro _ ww15 ⟨rfl, mm16⟩
    have mm17 : Mo w ww15 [.arr gg3 24 (cellsOf lf)] := mm14.gr mm16
    refine ⟨_, rfl, (mm17.sub (List.Sublist.cons_cons _ List.Sublist.slnil)), ?_⟩
    refine k0 (wt_some rfl rfl rfl rfl) rfl (.bool true) (fun _ _ => x_eqa Tryd.ah Tryd.u8 (by kernel_rfl) (.tmp 16) (.tmp 20) _ rfl (clb lf i b b.length) (clb lf i b b.length) (by rw [cellsOf_length]; exact clb_length (len_of hx) _ _ _) (by rw [cellsOf_length]; exact clb_length (len_of hx) _ _ _) true (decide_eq_true rfl) rfl rfl) ?_
    refine k0 (wt_none rfl _) rfl (.bool true) (fun _ _ => x_pick (.tmp 12) (.tmp 21) (.const (.bool false)) rfl true _ rfl rfl) ?_
    refine k0 (wt_none rfl _) rfl (.bool true) (fun _ _ => exec_move (.tmp 22) (.inr rfl) _ rfl) ?_
    refine kend ?_
    refine th_n ?_
    refine re ?_
    refine rt1 rfl ?_
    exact ⟨rfl, mm17.below⟩

set_option maxHeartbeats 1000000 in
theorem up_law (v : Value) (l : List (List UInt8)) (w : World) (h32 : H32 l) (hv : Rc w.heap.size w v l.length (cH l)) (ht : Tabs w) (h2 : 2 ≤ w.heap.size) :
    Calls Tryd.prog 6 #[v] w fun e w' => e = .returned (.bool true) ∧ Below w.heap.size w w' := by
  have hts : l.length ≤ 40 → topK l ≤ 40 := topK_small
  have hlk : ∀ k, (up l (k + 1)).length = ((up l k).length + 1) / 2 := fun k => lft_length _
  have m0 := Mo.start w
  refine enter [v] 60 Tryd.func6 rfl Tryd.ntmps6 (Nat.le_of_ble_eq_true rfl) ?_
  refine sq ?_
  refine cz [(0, v)] ⟨rfl, trivial⟩ (fun _ => ?_)
  refine rp [0] ?_
  refine k0 (wt_none rfl _) rfl (.bool false) (fun _ _ => exec_move (.const (.bool false)) (.inr rfl) _ rfl) ?_
  refine kend ?_
  refine th_n ?_
  refine sq ?_
  refine sq ?_
  by_cases hm : l.length > 40
  · skip
    refine cz [(0, v), (2, .bool false)] ⟨rfl, rfl, trivial⟩ (fun _ => ?_)
    refine rp [0, 1, 0] ?_
    refine k0 (wt_none rfl _) rfl (v) (fun _ _ => exec_move (.tmp 0) (.inl rfl) _ rfl) ?_
    refine k1 (wt_none rfl _) rfl (.int .i64 ((l.length : Nat) : Int)) (x_len Tryd.sh.sl (.tmp 10) rfl (Rc.at hv m0) rfl) ?_
    refine k0 (wt_none rfl _) rfl (.bool true) (fun _ _ => x_gtr_t (.tmp 11) (.const (.int .i64 40)) _ _ rfl l.length 40 .i64 (by omega) rfl rfl) ?_
    refine kend ?_
    refine th_n ?_
    refine cdt rfl ?_
    refine sq ?_
    refine cz [(0, v), (2, .bool false), (12, .bool true)] ⟨rfl, rfl, rfl, trivial⟩ (fun _ => ?_)
    refine rp [2, 0] ?_
    refine kc (wt_none rfl _) rfl (x_cl0 rfl (by kernel_rfl)) (alive_any _ (ht.gr m0.below) (Nat.le_trans h2 m0.size)) ?_
    rintro _ ww1 ⟨rfl, mm2⟩
    have mm3 : Mo w ww1 [] := m0.gr mm2
    refine ⟨_, rfl, trivial, ?_⟩
    refine k0 (wt_none rfl _) rfl (.bool true) (fun _ _ => exec_move (.tmp 13) (.inr rfl) _ rfl) ?_
    refine kend ?_
    refine th_n ?_
    refine re ?_
    refine th_r ?_
    refine rt1 rfl ?_
    exact ⟨rfl, mm3.below⟩
  · skip
    refine cz [(0, v), (2, .bool false)] ⟨rfl, rfl, trivial⟩ (fun _ => ?_)
    refine rp [0, 1, 0] ?_
    refine k0 (wt_none rfl _) rfl (v) (fun _ _ => exec_move (.tmp 0) (.inl rfl) _ rfl) ?_
    refine k1 (wt_none rfl _) rfl (.int .i64 ((l.length : Nat) : Int)) (x_len Tryd.sh.sl (.tmp 10) rfl (Rc.at hv m0) rfl) ?_
    refine k0 (wt_none rfl _) rfl (.bool false) (fun _ _ => x_gtr_f (.tmp 11) (.const (.int .i64 40)) _ _ rfl l.length 40 .i64 (by omega) rfl rfl) ?_
    refine kend ?_
    refine th_n ?_
    refine cdf rfl ?_
    refine sk ?_
    refine th_n ?_
    refine sq ?_
    refine cz [(0, v), (2, .bool false), (12, .bool false)] ⟨rfl, rfl, rfl, trivial⟩ (fun _ => ?_)
    refine rp [0, 2, 0, 0, 0, 2, 2, 0] ?_
    refine k0 (wt_none rfl _) rfl (v) (fun _ _ => exec_move (.tmp 0) (.inl rfl) _ rfl) ?_
    refine kc (wt_none rfl _) rfl (x_cl1 (v0 := v) rfl rfl (by kernel_rfl)) (root_any v l _ h32 (Rc.at hv m0) (by omega) (ht.gr m0.below) (Nat.le_trans h2 m0.size)) ?_
    rintro _ ww4 ⟨rfl, mm5⟩
    have mm6 : Mo w ww4 [] := m0.gr mm5
    refine ⟨_, rfl, trivial, ?_⟩
    refine k0 (wt_none rfl _) rfl (.tuple #[.agg (cellsOf (rootS l)).toArray, .bool (dblS l)]) (fun _ _ => exec_move (.tmp 16) (.inl rfl) _ rfl) ?_
    refine k0 (wt_none rfl _) rfl (.agg (cellsOf (rootS l)).toArray) (fun _ _ => exec_extract (.tmp 14) 0 rfl [.agg (cellsOf (rootS l)).toArray, .bool (dblS l)] _ rfl rfl) ?_
    refine k0 (wt_none rfl _) rfl (.bool (dblS l)) (fun _ _ => exec_extract (.tmp 14) 1 rfl [.agg (cellsOf (rootS l)).toArray, .bool (dblS l)] _ rfl rfl) ?_
    refine k2 (wt_none rfl _) rfl (x_alc Tryd.ah rfl mm6 (cellsOf (List.replicate 32 0)) rfl) ?_
    rintro _ ww8 ⟨gg10, rfl, mm9⟩
    refine ⟨trivial, ?_⟩
    refine ks (wt_none rfl _) rfl rfl (x_sta (.tmp 3) (.tmp 17) rfl mm9 0 rfl 0 (cellsOf (rootS l)) (cellsOf (rootS l)) (at_size Tryd.ah (rootS_len h32)) (sta_len (by rfl : (cellsOf (List.replicate 32 0)).length = 32) (rootS_len h32)) (cellsOf_one _) (sta_all (by rfl : (cellsOf (List.replicate 32 0)).length = 32) (rootS_len h32)) rfl (.agg (cellsOf (rootS l)).toArray) rfl rfl) ?_
    rintro ww11 mm12
    have mm13 : Mo w ww11 [.arr gg10 24 (cellsOf (rootS l))] := mm12
    refine ⟨trivial, ?_⟩
    refine k0 (wt_none rfl _) rfl (.bool (dblS l)) (fun _ _ => exec_move (.tmp 18) (.inr rfl) _ rfl) ?_
    refine kend ?_
    refine th_n ?_
    refine sq ?_
    refine cz [(0, v), (2, .bool false), (3, .pointer (some ⟨gg10, 0, none⟩)), (12, .bool false)] ⟨rfl, rfl, rfl, rfl, trivial⟩ (fun _ => ?_)
    refine rp [0] ?_
    refine k0 (wt_none rfl _) rfl (.int .i64 0) (fun _ _ => exec_move (.const (.int .i64 0)) (.inr rfl) _ rfl) ?_
    refine kend ?_
    refine th_n ?_
    refine sq ?_
    refine sq ?_
    refine cz [(0, v), (2, .bool false), (3, .pointer (some ⟨gg10, 0, none⟩)), (5, .int .i64 0), (12, .bool false)] ⟨rfl, rfl, rfl, rfl, rfl, trivial⟩ (fun _ => ?_)
    refine rp [0, 1, 0] ?_
    refine k0 (wt_none rfl _) rfl (v) (fun _ _ => exec_move (.tmp 0) (.inl rfl) _ rfl) ?_
    refine k1 (wt_none rfl _) rfl (.int .i64 ((l.length : Nat) : Int)) (x_len Tryd.sh.sl (.tmp 19) rfl (Rc.at hv mm13) rfl) ?_
    refine k0 (wt_none rfl _) rfl (.int .i64 ((l.length : Nat) : Int)) (fun _ _ => exec_move (.tmp 20) (.inr rfl) _ rfl) ?_
    refine kend ?_
    refine th_n ?_
    refine bk ?_
    refine lp (fun (xs : Nat) => [(0, v), (3, .pointer (some ⟨gg10, 0, none⟩)), (5, .int .i64 ((xs : Nat) : Int)), (6, .int .i64 (((up l xs).length : Nat) : Int))]) (fun (xs : Nat) w1 => (∀ j, j < xs → 1 < (up l j).length) ∧ ((up l xs).length + xs ≤ l.length) ∧ Mo w w1 [.arr gg10 24 (cellsOf (rootS l))]) (fun (xs : Nat) => (up l xs).length) 0 ⟨rfl, rfl, rfl, rfl, trivial⟩ ⟨(show ∀ j, j < 0 → 1 < (up l j).length from (fun j hj => absurd hj (Nat.not_lt_zero j))), (show (up l 0).length + 0 ≤ l.length from (Nat.le_refl _)), (show Mo w ww11 [.arr gg10 24 (cellsOf (rootS l))] from mm13)⟩ ?_
    rintro k _ ww15 ⟨hh16, hh17, mm14⟩
    replace hh16 : ∀ j, j < k → 1 < (up l j).length := hh16
    replace hh17 : (up l k).length + k ≤ l.length := hh17
    replace mm14 : Mo w ww15 [.arr gg10 24 (cellsOf (rootS l))] := mm14
    refine cz [(0, v), (3, .pointer (some ⟨gg10, 0, none⟩)), (5, .int .i64 ((k : Nat) : Int)), (6, .int .i64 (((up l k).length : Nat) : Int))] ⟨rfl, rfl, rfl, rfl, trivial⟩ (fun _ => ?_)
    by_cases hlt : (up l k).length > 1
    · -- round
      have hk1 := hlk k
      refine sq ?_
      refine sq ?_
      refine cz [(0, v), (3, .pointer (some ⟨gg10, 0, none⟩)), (5, .int .i64 ((k : Nat) : Int)), (6, .int .i64 (((up l k).length : Nat) : Int))] ⟨rfl, rfl, rfl, rfl, trivial⟩ (fun _ => ?_)
      refine rp [0, 0] ?_
      refine k0 (wt_none rfl _) rfl (.int .i64 (((up l k).length : Nat) : Int)) (fun _ _ => exec_move (.tmp 6) (.inl rfl) _ rfl) ?_
      refine k0 (wt_none rfl _) rfl (.bool true) (fun _ _ => x_gtr_t (.tmp 21) (.const (.int .i64 1)) _ _ rfl ((up l k).length) 1 .i64 (by omega) rfl rfl) ?_
      refine kend ?_
      refine th_n ?_
      refine cdt rfl ?_
      refine sk ?_
      refine th_n ?_
      refine sq ?_
      refine bk ?_
      refine cz [(0, v), (3, .pointer (some ⟨gg10, 0, none⟩)), (5, .int .i64 ((k : Nat) : Int)), (6, .int .i64 (((up l k).length : Nat) : Int)), (22, .bool true)] ⟨rfl, rfl, rfl, rfl, rfl, trivial⟩ (fun _ => ?_)
      refine rp [0, 0, 0] ?_
      refine k0 (wt_none rfl _) rfl (.int .i64 ((k : Nat) : Int)) (fun _ _ => exec_move (.tmp 5) (.inl rfl) _ rfl) ?_
      refine k0 (wt_none rfl _) rfl (.int .i64 ((k + 1 : Nat) : Int)) (fun _ _ => x_add (.tmp 26) (.const (.int .i64 1)) _ _ rfl k 1 (k + 1) .i64 (by exact ⟨by omega, (show _ < 9223372036854775808 by omega)⟩) rfl rfl) ?_
      refine k0 (wt_none rfl _) rfl (.int .i64 ((k + 1 : Nat) : Int)) (fun _ _ => exec_move (.tmp 27) (.inr rfl) _ rfl) ?_
      refine kend ?_
      refine ib_n ?_
      refine th_n ?_
      refine cz [(0, v), (3, .pointer (some ⟨gg10, 0, none⟩)), (5, .int .i64 ((k + 1 : Nat) : Int)), (6, .int .i64 (((up l k).length : Nat) : Int)), (22, .bool true)] ⟨rfl, rfl, rfl, rfl, rfl, trivial⟩ (fun _ => ?_)
      refine rp [0, 0, 0, 0] ?_
      refine k0 (wt_none rfl _) rfl (.int .i64 (((up l k).length : Nat) : Int)) (fun _ _ => exec_move (.tmp 6) (.inl rfl) _ rfl) ?_
      refine k0 (wt_none rfl _) rfl (.int .i64 ((((up l k).length) + 1 : Nat) : Int)) (fun _ _ => x_add (.tmp 23) (.const (.int .i64 1)) _ _ rfl ((up l k).length) 1 (((up l k).length) + 1) .i64 (by exact ⟨by omega, (show _ < 9223372036854775808 by omega)⟩) rfl rfl) ?_
      refine k0 (wt_none rfl _) rfl (.int .i64 (((up l (k + 1)).length : Nat) : Int)) (fun _ _ => x_quo (.tmp 24) (.const (.int .i64 2)) _ _ rfl (((up l k).length) + 1) 2 ((up l (k + 1)).length) .i64 (by exact ⟨(hlk k).symm, by omega, (show _ < 9223372036854775808 by omega)⟩) rfl rfl) ?_
      refine k0 (wt_none rfl _) rfl (.int .i64 (((up l (k + 1)).length : Nat) : Int)) (fun _ _ => exec_move (.tmp 25) (.inr rfl) _ rfl) ?_
      refine kend ?_
      refine th_n ?_
      exact ⟨_, (k + 1 : Nat), rfl, ⟨rfl, rfl, rfl, rfl, trivial⟩, ⟨(show ∀ j, j < (k + 1) → 1 < (up l j).length from (top_step hh16 hlt)), (show (up l (k + 1)).length + (k + 1) ≤ l.length from (by omega)), (show Mo w ww15 [.arr gg10 24 (cellsOf (rootS l))] from mm14)⟩, (show (up l (k + 1)).length < (up l k).length by omega)⟩
    · -- behind the loop
      have ek : topK l = k := topK_eq ⟨hh16, by omega⟩
      refine sq ?_
      refine sq ?_
      refine cz [(0, v), (3, .pointer (some ⟨gg10, 0, none⟩)), (5, .int .i64 ((k : Nat) : Int)), (6, .int .i64 (((up l k).length : Nat) : Int))] ⟨rfl, rfl, rfl, rfl, trivial⟩ (fun _ => ?_)
      refine rp [0, 0] ?_
      refine k0 (wt_none rfl _) rfl (.int .i64 (((up l k).length : Nat) : Int)) (fun _ _ => exec_move (.tmp 6) (.inl rfl) _ rfl) ?_
      refine k0 (wt_none rfl _) rfl (.bool false) (fun _ _ => x_gtr_f (.tmp 21) (.const (.int .i64 1)) _ _ rfl ((up l k).length) 1 .i64 (by omega) rfl rfl) ?_
      refine kend ?_
      refine th_n ?_
      refine cdf rfl ?_
      refine ex ?_
      refine th_x ?_
      refine th_x ?_
      refine ib_x ?_
      refine th_n ?_
      refine sq ?_
      refine sq ?_
      refine cz [(0, v), (3, .pointer (some ⟨gg10, 0, none⟩)), (5, .int .i64 ((k : Nat) : Int)), (6, .int .i64 (((up l k).length : Nat) : Int)), (22, .bool false)] ⟨rfl, rfl, rfl, rfl, rfl, trivial⟩ (fun _ => ?_)
      refine rp [0] ?_
      refine k0 (wt_none rfl _) rfl (.int .i64 0) (fun _ _ => exec_move (.const (.int .i64 0)) (.inr rfl) _ rfl) ?_
      refine kend ?_
      refine th_n ?_
      refine bk ?_
      refine lp (fun (xs : Nat) => [(0, v), (3, .pointer (some ⟨gg10, 0, none⟩)), (5, .int .i64 ((k : Nat) : Int)), (7, .int .i64 ((xs : Nat) : Int))]) (fun (xs : Nat) w1 => (xs ≤ l.length) ∧ Mo w w1 [.arr gg10 24 (cellsOf (rootS l))]) (fun (xs : Nat) => l.length - xs) 0 ⟨rfl, rfl, rfl, rfl, trivial⟩ ⟨(show 0 ≤ l.length from (Nat.zero_le _)), (show Mo w ww15 [.arr gg10 24 (cellsOf (rootS l))] from mm14)⟩ ?_
      rintro i _ ww19 ⟨hh20, mm18⟩
      replace hh20 : i ≤ l.length := hh20
      replace mm18 : Mo w ww19 [.arr gg10 24 (cellsOf (rootS l))] := mm18
      refine cz [(0, v), (3, .pointer (some ⟨gg10, 0, none⟩)), (5, .int .i64 ((k : Nat) : Int)), (7, .int .i64 ((i : Nat) : Int))] ⟨rfl, rfl, rfl, rfl, trivial⟩ (fun _ => ?_)
      by_cases hlt : i < l.length
      · -- round
        have hi := hlt
        refine sq ?_
        refine sq ?_
        refine cz [(0, v), (3, .pointer (some ⟨gg10, 0, none⟩)), (5, .int .i64 ((k : Nat) : Int)), (7, .int .i64 ((i : Nat) : Int))] ⟨rfl, rfl, rfl, rfl, trivial⟩ (fun _ => ?_)
        refine rp [0, 0, 1, 0] ?_
        refine k0 (wt_none rfl _) rfl (.int .i64 ((i : Nat) : Int)) (fun _ _ => exec_move (.tmp 7) (.inl rfl) _ rfl) ?_
        refine k0 (wt_none rfl _) rfl (v) (fun _ _ => exec_move (.tmp 0) (.inl rfl) _ rfl) ?_
        refine k1 (wt_none rfl _) rfl (.int .i64 ((l.length : Nat) : Int)) (x_len Tryd.sh.sl (.tmp 29) rfl (Rc.at hv mm18) rfl) ?_
        refine k0 (wt_none rfl _) rfl (.bool true) (fun _ _ => x_lss_t (.tmp 28) (.tmp 30) _ _ rfl i l.length .i64 (by omega) rfl rfl) ?_
        refine kend ?_
        refine th_n ?_
        refine cdt rfl ?_
        refine sk ?_
        refine th_n ?_
        refine sq ?_
        refine bk ?_
        refine sq ?_
        refine cz [(0, v), (3, .pointer (some ⟨gg10, 0, none⟩)), (5, .int .i64 ((k : Nat) : Int)), (7, .int .i64 ((i : Nat) : Int)), (31, .bool true)] ⟨rfl, rfl, rfl, rfl, rfl, trivial⟩ (fun _ => ?_)
        refine rp [0, 0, 2, 0, 0, 0, 0, 0] ?_
        refine k0 (wt_none rfl _) rfl (v) (fun _ _ => exec_move (.tmp 0) (.inl rfl) _ rfl) ?_
        refine k0 (wt_none rfl _) rfl (.int .i64 ((i : Nat) : Int)) (fun _ _ => exec_move (.tmp 7) (.inl rfl) _ rfl) ?_
        refine kc (wt_none rfl _) rfl (x_cl2 (v0 := v) (v1 := .int .i64 ((i : Nat) : Int)) rfl rfl rfl (by kernel_rfl)) (branch_any v l i _ h32 (Rc.at hv mm18) (by omega) (ht.gr mm18.below) (Nat.le_trans h2 mm18.size) hi) ?_
        rintro _ ww21 ⟨vv23, rfl, mm22⟩
        have mm24 : Mo w ww21 [.own 24 32 vv23 (topK l) (cH (way l i (topK l))), .arr gg10 24 (cellsOf (rootS l))] := mm18.join mm22
        refine ⟨_, rfl, trivial, ?_⟩
        refine k0 (wt_none rfl _) rfl (.tuple #[vv23, .int .i64 0]) (fun _ _ => exec_move (.tmp 37) (.inl rfl) _ rfl) ?_
        refine k0 (wt_none rfl _) rfl (vv23) (fun _ _ => exec_extract (.tmp 34) 0 rfl [vv23, .int .i64 0] _ rfl rfl) ?_
        refine k0 (wt_none rfl _) rfl (.int .i64 0) (fun _ _ => exec_extract (.tmp 34) 1 rfl [vv23, .int .i64 0] _ rfl rfl) ?_
        refine k0 (wt_none rfl _) rfl (vv23) (fun _ _ => exec_move (.tmp 38) (.inr rfl) _ rfl) ?_
        refine k0 (wt_none rfl _) rfl (.int .i64 0) (fun _ _ => exec_move (.tmp 39) (.inr rfl) _ rfl) ?_
        refine kend ?_
        refine th_n ?_
        refine sq ?_
        refine cz [(0, v), (3, .pointer (some ⟨gg10, 0, none⟩)), (5, .int .i64 ((k : Nat) : Int)), (7, .int .i64 ((i : Nat) : Int)), (8, vv23), (9, .int .i64 0), (31, .bool true)] ⟨rfl, rfl, rfl, rfl, rfl, rfl, rfl, trivial⟩ (fun _ => ?_)
        have mm26 := mm24.drew
        refine rq (fun w1 => Mo w w1 [.own 24 32 vv23 (topK l) (cH (way l i (topK l))), .arr gg10 24 (cellsOf (rootS l))]) [0, 0, 0, 0, 0, 0, 0, 0, 0, 0, 0, 0, 0, 0, 0, 2, 0, 0, 0] (by kernel_rfl) (by kernel_rfl) (by kernel_rfl) (mm26.sub (List.Sublist.cons_cons _ (List.Sublist.cons_cons _ List.Sublist.slnil))) ?_
        refine k0 (wt_none rfl _) rfl (.int .i64 0) (fun _ _ => exec_move (.tmp 9) (.inl rfl) _ rfl) ?_
        refine k0 (wt_none rfl _) rfl (.bool false) (fun _ _ => x_neq_f (.tmp 40) (.const (.int .i64 0)) _ _ rfl 0 0 .i64 (by omega) rfl rfl) ?_
        refine k0 (wt_none rfl _) rfl (.bool false) (fun _ _ => exec_move (.tmp 41) (.inl rfl) _ rfl) ?_
        refine k0 (wt_some rfl rfl rfl rfl) rfl (vv23) (fun _ _ => exec_move (.tmp 8) (.inl rfl) _ rfl) ?_
        refine k0 (wt_some rfl rfl rfl rfl) rfl (.int .i64 ((topK l : Nat) : Int)) (fun _ hC => x_len Tryd.sh.sl (.tmp 43) rfl (hC.rc 0 rfl) rfl) ?_
        refine k0 (wt_some rfl rfl rfl rfl) rfl (.int .i64 ((k : Nat) : Int)) (fun _ _ => exec_move (.tmp 5) (.inl rfl) _ rfl) ?_
        refine k0 (wt_some rfl rfl rfl rfl) rfl (.bool false) (fun _ _ => x_neq_f (.tmp 44) (.tmp 45) _ _ rfl (topK l) k .i64 ek rfl rfl) ?_
        refine k0 (wt_none rfl _) rfl (.bool false) (fun _ _ => x_pick (.tmp 42) (.const (.bool true)) (.tmp 46) rfl false _ rfl rfl) ?_
        refine k0 (wt_none rfl _) rfl (.bool false) (fun _ _ => exec_move (.tmp 47) (.inl rfl) _ rfl) ?_
        refine k0 (wt_some rfl rfl rfl rfl) rfl (v) (fun _ _ => exec_move (.tmp 0) (.inl rfl) _ rfl) ?_
        refine k0 (wt_some rfl rfl rfl rfl) rfl (.int .i64 ((i : Nat) : Int)) (fun _ _ => exec_move (.tmp 7) (.inl rfl) _ rfl) ?_
        refine k0 (wt_some rfl rfl rfl rfl) rfl (eP v (i * 32)) (fun _ hC => x_ep Tryd.sh (.tmp 49) (.tmp 50) rfl (Rc.at hv hC) i .i64 (i * 32) rfl hlt rfl _ rfl rfl) ?_
        refine k0 (wt_some rfl rfl rfl rfl) rfl (.agg (cellsOf (atH l i)).toArray) (fun _ hC => x_lda Tryd.ah (.tmp 51) rfl (Rc.at hv hC) (i * 32) (by omega) (cellsOf (atH l i)) (by rw [cellsOf_length]; exact H32.at h32 hlt) (by decide) (cH_get h32 hlt) rfl) ?_
        refine k0 (wt_some rfl rfl rfl rfl) rfl (.int .i64 ((i : Nat) : Int)) (fun _ _ => exec_move (.tmp 7) (.inl rfl) _ rfl) ?_
        refine k0 (wt_some rfl rfl rfl rfl) rfl (vv23) (fun _ _ => exec_move (.tmp 8) (.inl rfl) _ rfl) ?_
        refine kc (wt_some rfl rfl rfl rfl) rfl (x_cl3 (v0 := .agg (cellsOf (atH l i)).toArray) (v1 := .int .i64 ((i : Nat) : Int)) (v2 := vv23) rfl rfl rfl rfl (by kernel_rfl)) (climb_up l i vv23 _ h32 (mm26.rc 0 rfl) (by omega) (by omega) hlt (ht.gr mm26.below) (Nat.le_trans h2 mm26.size)) ?_
        rintro _ ww27 ⟨rfl, mm28⟩
        have mm29 : Mo w ww27 [.own 24 32 vv23 (topK l) (cH (way l i (topK l))), .arr gg10 24 (cellsOf (rootS l))] := mm26.gr mm28
        refine ⟨_, rfl, (mm29.sub (List.Sublist.cons_cons _ (List.Sublist.cons_cons _ List.Sublist.slnil))), ?_⟩
        refine k0 (wt_some rfl rfl rfl rfl) rfl (.agg (cellsOf (rootS l)).toArray) (fun _ hC => exec_load_arr Tryd.ah (.tmp 3) rfl gg10 _ (rootS_len h32) rfl (hC.arr 1 rfl)) ?_
        refine k0 (wt_some rfl rfl rfl rfl) rfl (.bool false) (fun _ _ => x_nea Tryd.ah Tryd.u8 (by kernel_rfl) (.tmp 55) (.tmp 56) _ rfl (rootS l) (rootS l) (rootS_len h32) (rootS_len h32) true (decide_eq_true rfl) rfl rfl) ?_
        refine k0 (wt_none rfl _) rfl (.bool false) (fun _ _ => x_pick (.tmp 48) (.const (.bool true)) (.tmp 57) rfl false _ rfl rfl) ?_
        refine kend ?_
        refine th_n ?_
        refine cdf rfl ?_
        refine sk ?_
        refine ib_n ?_
        refine th_n ?_
        refine cz [(0, v), (3, .pointer (some ⟨gg10, 0, none⟩)), (5, .int .i64 ((k : Nat) : Int)), (7, .int .i64 ((i : Nat) : Int)), (8, vv23), (9, .int .i64 0), (31, .bool true), (58, .bool false)] ⟨rfl, rfl, rfl, rfl, rfl, rfl, rfl, rfl, trivial⟩ (fun _ => ?_)
        refine rp [0, 0, 0] ?_
        refine k0 (wt_none rfl _) rfl (.int .i64 ((i : Nat) : Int)) (fun _ _ => exec_move (.tmp 7) (.inl rfl) _ rfl) ?_
        refine k0 (wt_none rfl _) rfl (.int .i64 ((i + 1 : Nat) : Int)) (fun _ _ => x_add (.tmp 32) (.const (.int .i64 1)) _ _ rfl i 1 (i + 1) .i64 (by exact ⟨by omega, (show _ < 9223372036854775808 by omega)⟩) rfl rfl) ?_
        refine k0 (wt_none rfl _) rfl (.int .i64 ((i + 1 : Nat) : Int)) (fun _ _ => exec_move (.tmp 33) (.inr rfl) _ rfl) ?_
        refine kend ?_
        refine th_n ?_
        exact ⟨_, (i + 1 : Nat), rfl, ⟨rfl, rfl, rfl, rfl, trivial⟩, ⟨(show (i + 1) ≤ l.length from (by omega)), (show Mo w ww27 [.arr gg10 24 (cellsOf (rootS l))] from mm29.pick [1] (by decide) ⟨rfl, trivial⟩)⟩, (show l.length - (i + 1) < l.length - i by omega)⟩
      · -- behind the loop
        refine sq ?_
        refine sq ?_
        refine cz [(0, v), (3, .pointer (some ⟨gg10, 0, none⟩)), (5, .int .i64 ((k : Nat) : Int)), (7, .int .i64 ((i : Nat) : Int))] ⟨rfl, rfl, rfl, rfl, trivial⟩ (fun _ => ?_)
        refine rp [0, 0, 1, 0] ?_
        refine k0 (wt_none rfl _) rfl (.int .i64 ((i : Nat) : Int)) (fun _ _ => exec_move (.tmp 7) (.inl rfl) _ rfl) ?_
        refine k0 (wt_none rfl _) rfl (v) (fun _ _ => exec_move (.tmp 0) (.inl rfl) _ rfl) ?_
        refine k1 (wt_none rfl _) rfl (.int .i64 ((l.length : Nat) : Int)) (x_len Tryd.sh.sl (.tmp 29) rfl (Rc.at hv mm18) rfl) ?_
        refine k0 (wt_none rfl _) rfl (.bool false) (fun _ _ => x_lss_f (.tmp 28) (.tmp 30) _ _ rfl i l.length .i64 (by omega) rfl rfl) ?_
        refine kend ?_
        refine th_n ?_
        refine cdf rfl ?_
        refine ex ?_
        refine th_x ?_
        refine th_x ?_
        refine ib_x ?_
        refine th_n ?_
        refine sq ?_
        refine cz [(0, v), (3, .pointer (some ⟨gg10, 0, none⟩)), (5, .int .i64 ((k : Nat) : Int)), (7, .int .i64 ((i : Nat) : Int)), (31, .bool false)] ⟨rfl, rfl, rfl, rfl, rfl, trivial⟩ (fun _ => ?_)
        refine rp [2, 0] ?_
        refine kc (wt_none rfl _) rfl (x_cl0 rfl (by kernel_rfl)) (alive_any _ (ht.gr mm18.below) (Nat.le_trans h2 mm18.size)) ?_
        rintro _ ww30 ⟨rfl, mm31⟩
        have mm32 : Mo w ww30 [.arr gg10 24 (cellsOf (rootS l))] := mm18.gr mm31
        refine ⟨_, rfl, trivial, ?_⟩
        refine k0 (wt_none rfl _) rfl (.bool true) (fun _ _ => exec_move (.tmp 59) (.inr rfl) _ rfl) ?_
        refine kend ?_
        refine th_n ?_
        refine re ?_
        refine rt1 rfl ?_
        exact ⟨rfl, mm32.below⟩

end Go.Proofs.YtjlgbkkbflegcaaDoor
