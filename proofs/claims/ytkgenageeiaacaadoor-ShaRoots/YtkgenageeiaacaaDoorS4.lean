/-
  A hash that goes on, in its block of memory; contracts of package sha's held, soFar, Len, New, fill.
  Conditions: the tables are as the program's text lays them; at most 1,000,000 bytes.
-/
import Derived.Test.YtkgenageeiaacaaDoorS3
namespace Go.Proofs.YtkgenageeiaacaaDoor
open Go.RowKit

/-- NOTHING THAT WAS THERE HAS TURNED, BUT THE BLOCK g. -/
structure Gx (g : Nat) (w w' : World) : Prop where
  os : w'.os = w.os
  tape : w'.tape = w.tape
  output : w'.output = w.output
  size : w.heap.size ≤ w'.heap.size
  block : ∀ k, k < w.heap.size → k ≠ g → w'.heap[k]? = w.heap[k]?
theorem Gx.refl (g : Nat) (w : World) : Gx g w w := ⟨rfl, rfl, rfl, Nat.le_refl _, fun _ _ _ => rfl⟩
theorem Gx.trans {g : Nat} {a b c : World} (h : Gx g a b) (k : Gx g b c) : Gx g a c := ⟨k.os.trans h.os, k.tape.trans h.tape, k.output.trans h.output, Nat.le_trans h.size k.size, fun i hi hn => (k.block i (Nat.lt_of_lt_of_le hi h.size) hn).trans (h.block i hi hn)⟩
theorem Gr.gx {w w' : World} (h : Gr w w') (g : Nat) : Gx g w w' := ⟨Below.os h, Below.tape h, Below.output h, Below.size h, fun k hk _ => Below.block h k hk⟩
theorem But.gx {g : Nat} {w w' : World} (h : But g w w') : Gx g w w' := ⟨h.os, h.tape, h.output, Nat.le_of_eq h.size.symm, fun k _ hn => h.block k hn⟩
theorem Gx.below {g B : Nat} {w w' : World} (h : Gx g w w') (hB : B ≤ g) (hs : B ≤ w.heap.size) : Below B w w' := ⟨h.os, h.tape, h.output, h.size, fun k hk => h.block k (by omega) (by omega)⟩
theorem Gx.arr {T : TypeId} {g k : Nat} {w w' : World} {cs : List Value} (h : Gx g w w') (ha : Arr T w k cs) (hn : k ≠ g) : Arr T w' k cs := by
  unfold Arr; rw [h.block k ha.lt hn]; exact ha
theorem Gx.tabs {g : Nat} {w w' : World} (h : Gx g w w') (hg : 2 ≤ g) (ht : Tabs w) : Tabs w' := by
  have key : ∀ (name : String) (k : IntKind) (zs : List Int) (n : Nat), n < 2 → Tryd.prog.globalNamed name = some n → Lib.TabIs Tryd.prog w name k zs → Lib.TabIs Tryd.prog w' name k zs := by
    intro name k zs n hn hgn hh
    unfold Lib.TabIs World.var? at *
    simp only [hgn, Option.bind_some] at hh ⊢
    have hlt : n < w.heap.size := by
      rcases Nat.lt_or_ge n w.heap.size with h' | h'
      · exact h'
      · rw [Array.getElem?_eq_none h'] at hh; simp at hh
    rw [h.block n hlt (by omega)]
    exact hh
  exact ⟨key _ _ _ 0 (by decide) (by kernel_rfl) ht.f, key _ _ _ 1 (by decide) (by kernel_rfl) ht.s⟩
/-- Where the slice does not lie in g. -/
def Off (g : Nat) (v : Value) : Prop := ∀ a n c, v = .slice (some a) n c → a.block ≠ g
theorem Gx.rd {g B : Nat} {w w' : World} {v : Value} {l : List UInt8} (h : Gx g w w') (hr : Rd B w v l) (ho : Off g v) : Rd B w' v l := by
  obtain ⟨ao, cap, rfl, h1, h2, h3⟩ := hr
  refine ⟨ao, cap, rfl, h1, h2, fun a ha j u hu => ⟨?_, (h3 a ha j u hu).2⟩⟩
  have hc := (h3 a ha j u hu).1
  subst ha
  have hlt := World.block_lt_of_cell? w _ hc
  have hne := ho a _ _ rfl
  rw [← hc]
  unfold World.cell?
  rw [h.block _ hlt (by rw [add_block]; exact hne)]

/-- The cells of a hash. -/
def hc (nums : List Nat) (rest : List UInt8) (n : Nat) : List Value := c32 nums ++ (cellsOf rest ++ [.int .u64 (n : Int)])
section
variable {nums : List Nat} {rest : List UInt8} {n : Nat}
theorem hc_length (h1 : nums.length = 8) (h2 : rest.length = 64) : (hc nums rest n).length = 73 := by simp [hc, c32_length, cellsOf_length, h1, h2]
theorem hc_num (_h1 : nums.length = 8) (j : Nat) (v : Value) (hv : (c32 nums)[j]? = some v) : (hc nums rest n)[j]? = some v := by
  unfold hc
  rw [List.getElem?_append_left (by have := (List.getElem?_eq_some_iff.1 hv).1; exact this)]
  exact hv
theorem hc_rest (h1 : nums.length = 8) (j : Nat) (v : Value) (hv : (cellsOf rest)[j]? = some v) : (hc nums rest n)[8 + j]? = some v := by
  have e : (c32 nums).length = 8 := by rw [c32_length]; exact h1
  unfold hc
  rw [List.getElem?_append_right (by omega), e, Nat.add_sub_cancel_left, List.getElem?_append_left (List.getElem?_eq_some_iff.1 hv).1]
  exact hv
theorem hc_n (h1 : nums.length = 8) (h2 : rest.length = 64) : (hc nums rest n)[72]? = some (.int .u64 (n : Int)) := by
  have e : (c32 nums).length = 8 := by rw [c32_length]; exact h1
  have e2 : (cellsOf rest).length = 64 := by rw [cellsOf_length]; exact h2
  unfold hc
  rw [List.getElem?_append_right (by omega), e, List.getElem?_append_right (by omega), e2]
  rfl
theorem hc_setn (h1 : nums.length = 8) (h2 : rest.length = 64) (n' : Nat) : (hc nums rest n).set 72 (.int .u64 (n' : Int)) = hc nums rest n' := by
  have e : (c32 nums).length = 8 := by rw [c32_length]; exact h1
  have e2 : (cellsOf rest).length = 64 := by rw [cellsOf_length]; exact h2
  unfold hc
  rw [List.set_append_right _ _ (by omega), e, List.set_append_right _ _ (by omega), e2]
  rfl
theorem hc_setnums (h1 : nums.length = 8) (nums' : List Nat) : c32 nums' ++ (hc nums rest n).drop 8 = hc nums' rest n := by
  have e : (c32 nums).length = 8 := by rw [c32_length]; exact h1
  unfold hc
  rw [List.drop_left' e]
theorem hc_append (h1 : nums.length = 8) (h2 : rest.length = 64) (k : Nat) (p : List UInt8) (hk : k + p.length ≤ 64) :
    (hc nums rest n).take (8 + k) ++ cellsOf p ++ (hc nums rest n).drop (8 + k + p.length) = hc nums (rest.take k ++ p ++ rest.drop (k + p.length)) n := by
  have e : (c32 nums).length = 8 := by rw [c32_length]; exact h1
  have e2 : (cellsOf rest).length = 64 := by rw [cellsOf_length]; exact h2
  have t1 : (cellsOf rest).take k = cellsOf (rest.take k) := by simp [cellsOf]
  have t2 : (cellsOf rest).drop (k + p.length) = cellsOf (rest.drop (k + p.length)) := by simp [cellsOf]
  unfold hc
  rw [show 8 + k = (c32 nums).length + k by omega, List.take_length_add_append, List.take_append_of_le_length (by omega), t1]
  rw [show (c32 nums).length + k + p.length = (c32 nums).length + (k + p.length) by omega, List.drop_length_add_append, List.drop_append_of_le_length (by omega), t2]
  simp [cellsOf_append, List.append_assoc]
end

/-- THE BLOCK g IS A HASH OF all. -/
structure Hs (w : World) (g : Nat) (all : List UInt8) (nums : List Nat) (rest : List UInt8) : Prop where
  arr : Arr 47 w g (hc nums rest all.length)
  ln : nums.length = 8
  lr : rest.length = 64
  num : 64 ≤ all.length → nums = sofar all
  held : rest.take (all.length % 64) = all.drop (64 * (all.length / 64))
  two : 2 ≤ g
def Hash (w : World) (g : Nat) (all : List UInt8) : Prop := ∃ nums rest, Hs w g all nums rest
theorem Hs.gr {w w' : World} {g : Nat} {all : List UInt8} {nums : List Nat} {rest : List UInt8} (h : Hs w g all nums rest) (hb : Gr w w') : Hs w' g all nums rest := ⟨h.arr.gr hb, h.ln, h.lr, h.num, h.held, h.two⟩
theorem Hash.gr {w w' : World} {g : Nat} {all : List UInt8} (h : Hash w g all) (hb : Gr w w') : Hash w' g all := by
  obtain ⟨nums, rest, h⟩ := h; exact ⟨nums, rest, h.gr hb⟩
section
variable {w : World} {g : Nat} {all : List UInt8} {nums : List Nat} {rest : List UInt8}
theorem Hs.n (h : Hs w g all nums rest) : w.cell? ⟨g, 72, none⟩ = some (.int .u64 (all.length : Int)) := cell_of_arr h.arr (hc_n h.ln h.lr)
theorem Hs.rd (h : Hs w g all nums rest) (n : Nat) (hn : n ≤ 64) (c : Nat) (hcp : n ≤ c) : Rd (g + 1) w (.slice (some ⟨g, 8, none⟩) n c) (rest.take n) := by
  have hl : (rest.take n).length = n := by simp [h.lr]; omega
  refine ⟨_, c, by rw [hl], by omega, (fun h => by cases h), fun a ha j u hu => ?_⟩
  obtain rfl := Option.some.inj ha
  obtain ⟨hj, rfl⟩ := cellsOf_get hu
  rw [Addr.add_lit]
  refine ⟨cell_of_arr h.arr (hc_rest h.ln j _ ?_), Nat.lt_succ_self _⟩
  rw [hl] at hj
  have hj' : j < rest.length := by have := h.lr; omega
  simp [cellsOf, hj']
end

set_option maxHeartbeats 1000000 in
theorem held_any (g : Nat) (n : Nat) (w : World) (hc : w.cell? ⟨g, 72, none⟩ = some (.int .u64 (n : Int))) :
    Calls Tryd.prog 25 #[.pointer (some ⟨g, 0, none⟩)] w fun e w' => e = .returned (.int .i64 ((n % 64 : Nat) : Int)) ∧ w' = w := by
  obtain ⟨r, er⟩ : ∃ r, n % 64 = r := ⟨_, rfl⟩
  rw [er]
  have HR : Hid (n % 64 = r) := er
  have HZ : Hid (64 ≠ 0) := by show _ ≠ _; decide
  have HW : Hid (IntKind.i64.wrap (r : Int) = (r : Int)) := wrap_small _ (by omega) (by omega)
  clear er
  go_enter Tryd.func25, Tryd.ntmps25
  go_wp2_with ((first
    | (refine wpList_val rfl (.int .u64 (r : Int)) (exec_remN (.tmp 6) (.const (.int .u64 64)) _ _ rfl n 64 r HR.out HZ.out .u64 rfl rfl) ?_)
    | (refine wpList_val rfl (.int .i64 (r : Int)) (exec_conv Tryd.u64' Tryd.i64 (.tmp 7) rfl r r HW.out rfl) ?_)); try simp only [Act.put, List.setIfInBounds_toArray, List.set_cons_succ, List.set_cons_zero])
  go_ret
  exact ⟨rfl, rfl⟩

set_option maxHeartbeats 1000000 in
theorem len_any (g : Nat) (n : Nat) (w : World) (hc : w.cell? ⟨g, 72, none⟩ = some (.int .u64 (n : Int))) :
    Calls Tryd.prog 20 #[.pointer (some ⟨g, 0, none⟩)] w fun e w' => e = .returned (.int .u64 (n : Int)) ∧ w' = w := by
  go_enter Tryd.func20, Tryd.ntmps20
  go_wp2
  go_ret
  exact ⟨rfl, rfl⟩

set_option maxHeartbeats 1000000 in
theorem soFar_any (g : Nat) (all : List UInt8) (nums : List Nat) (rest : List UInt8) (w : World) (h : Hs w g all nums rest) (ht : Tabs w) :
    Calls Tryd.prog 27 #[.pointer (some ⟨g, 0, none⟩)] w fun e w' => e = .returned (.agg (c32 (sofar all)).toArray) ∧ Below w.heap.size w w' := by
  have HH : Hid (Hs w g all nums rest) := h
  have HT : Hid (Tabs w) := ht
  have HS : Hid ((c32 (sofar all)).length = 8) := by show _ = _; rw [c32_length, sofar_length]
  have m := Mem.start w
  have H0 : Hid (∀ w', Below w.heap.size w w' → w'.cell? ⟨g, 72, none⟩ = some (.int .u64 (all.length : Int))) := fun w' hw => (h.gr hw).n
  by_cases hlt : all.length < 64
  · have HE : Hid (sofar all = firstL) := sofar_small all hlt
    rw [HE.out] at HS ⊢
    have hd : decide ((all.length : Int) < 64) = true := decide_eq_true (by omega)
    have HF : Hid (∀ w', Below w.heap.size w w' → ∀ j v, (c32 firstL)[j]? = some v → w'.cell? ⟨0, 0 + j, none⟩ = some v) := fun w' hw j v hv => by
      have hj : j < 8 := by have := (List.getElem?_eq_some_iff.1 hv).1; rwa [c32_length, firstL_length] at this
      rw [Nat.zero_add, (HT.out.gr hw).first j hj]
      rw [c32_get (by rw [firstL_length]; exact hj)] at hv
      exact hv
    generalize firstL = F at *
    generalize all.length = n at *
    clear hlt h ht
    go_enter Tryd.func27, Tryd.ntmps27
    go_wp2_with ((first
      | (refine wpList_alloc_mem Tryd.a8 m rfl rfl 2 rfl _ zeros8 ?_; clear m; intro g2 wx2 m)
      | (refine wpList_val rfl (.int .u64 (n : Int)) (exec_cell Tryd.u64' (.tmp 5) rfl g 72 _ (H0.out _ m.below) rfl) ?_)
      | (refine wpList_val rfl (.agg (c32 F).toArray) (exec_load_cells Tryd.a8 (.global 0) rfl 0 0 _ HS.out (HF.out _ m.below) rfl) ?_)
      | (refine wpList_store_mem Tryd.a8 m rfl (.tmp 2) (.tmp 8) rfl rfl 0 (c32 F) rfl rfl HS.out (c32_one _) rfl rfl ?_; clear m; intro wx9 m)); try simp only [Act.put, List.setIfInBounds_toArray, List.set_cons_succ, List.set_cons_zero])
    refine bodyPost_ret (results_arr Tryd.a8 Tryd.results27 _ wx9 g2 (c32 F) HS.out rfl (m.get 0 rfl)) rfl ⟨rfl, m.below⟩
  · have hd : decide ((all.length : Int) < 64) = false := decide_eq_false (by omega)
    have HF : Hid (∀ w', Below w.heap.size w w' → ∀ j v, (c32 (sofar all))[j]? = some v → w'.cell? ⟨g, 0 + j, none⟩ = some v) := fun w' hw j v hv => by
      rw [← h.num (by omega)] at hv
      rw [Nat.zero_add]
      exact cell_of_arr (h.gr hw).arr (hc_num h.ln j v hv)
    generalize sofar all = F at *
    generalize all.length = n at *
    clear hlt h ht
    go_enter Tryd.func27, Tryd.ntmps27
    go_wp2_with ((first
      | (refine wpList_alloc_mem Tryd.a8 m rfl rfl 2 rfl _ zeros8 ?_; clear m; intro g2 wx2 m)
      | (refine wpList_val rfl (.int .u64 (n : Int)) (exec_cell Tryd.u64' (.tmp 5) rfl g 72 _ (H0.out _ m.below) rfl) ?_)
      | (refine wpList_val rfl (.agg (c32 F).toArray) (exec_load_cells Tryd.a8 (.tmp 11) rfl g 0 _ HS.out (HF.out _ m.below) rfl) ?_)
      | (refine wpList_store_mem Tryd.a8 m rfl (.tmp 2) (.tmp 12) rfl rfl 0 (c32 F) rfl rfl HS.out (c32_one _) rfl rfl ?_; clear m; intro wx9 m)); try simp only [Act.put, List.setIfInBounds_toArray, List.set_cons_succ, List.set_cons_zero])
    refine bodyPost_ret (results_arr Tryd.a8 Tryd.results27 _ wx9 g2 (c32 F) HS.out rfl (m.get 0 rfl)) rfl ⟨rfl, m.below⟩
end Go.Proofs.YtkgenageeiaacaaDoor
