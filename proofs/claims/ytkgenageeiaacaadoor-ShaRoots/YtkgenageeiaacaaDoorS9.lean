/-
  Contracts of package sha's Tagged, and of the statements' alive.
  Conditions: the tables are as the program's text lays them; at most 800,000 bytes.
-/
import Derived.Test.YtkgenageeiaacaaDoorS8
import Derived.Lib.ConvBytes
namespace Go.Proofs.YtkgenageeiaacaaDoor
open Go.RowKit Go.Lib

/-- []byte(s) -/
theorem wpList_conv_str {P : Program} {T E : TypeId} (t : BT P T E) {w : World} {ops : Array Oper} {rest : List Oper} {o : Oper} {a : Act} {Q : Exit → Act → World → Prop} (hgd : o.guard = none) (S : TypeId) (x : Operand) (ho : o.op = .convert S T x) (hS : P.underlying S = some .string) (s : ByteArray) (hx : a.eval x = .string s)
    (h : ∀ v w', Rd w'.heap.size w' v s.data.toList → Gr w w' → wpList P ops Q rest (a.put o.dst v) w') : wpList P ops Q (o :: rest) a w := by
  have hg : Gr w (bytesWorld w E s) := ⟨rfl, rfl, rfl, by rw [bytesWorld_size]; omega, fun k hk => bytesWorld_at_old w E s k hk⟩
  refine wpList_plain hgd fun K hK => ?_
  unfold Oper.wp execOp
  have e := Go.Lib.run_convert_string_bytes w S T E s hS t.sl t.el
  simp only [ho, hx, Sem.run_bind, Sem.run_pure]
  rw [e, Result.andThen_ok]
  refine hK _ _ (h _ _ ?_ hg)
  refine ⟨some ⟨w.heap.size, 0, none⟩, grownCap w s.size 0 E, by simp, by simpa using grownCap_ge w s.size 0 E, (fun h => by cases h), fun a ha j u hu => ?_⟩
  obtain rfl := Option.some.inj ha
  obtain ⟨hj, rfl⟩ := cellsOf_get hu
  rw [Addr.add_lit, Nat.zero_add, bytesWorld_cell w E s j (by simpa using hj), bytesWorld_size]
  refine ⟨?_, Nat.lt_succ_self _⟩
  rw [List.getD_eq_getElem?_getD, List.getElem?_eq_getElem hj, Option.getD_some]

/-- []byte("..") of a constant -/
theorem wpList_conv_lit {P : Program} {T E : TypeId} (t : BT P T E) {w : World} {ops : Array Oper} {rest : List Oper} {o : Oper} {a : Act} {Q : Exit → Act → World → Prop} (hgd : o.guard = none) (x : Operand) (ho : o.op = .convert T T x) (l : List UInt8) (cs : Array Value) (hcs : cs = (cellsOf l).toArray) (n : Nat) (hn : n = l.length) (hx : a.eval x = .slice (some ⟨w.heap.size, 0, none⟩) n n)
    (h : ∀ w', Rd w'.heap.size w' (.slice (some ⟨w.heap.size, 0, none⟩) n n) l → Gr w w' → wpList P ops Q rest (a.put o.dst (.slice (some ⟨w.heap.size, 0, none⟩) n n)) w') : wpList P ops Q (o :: rest) a (w.alloc (.cells cs E)) := by
  have hsh : (w.alloc (.cells cs E)).shape? w.heap.size = some (E, cs.size) := by simp [World.shape?, World.alloc, -World.alloc_eq]
  have e : (convert T T (.slice (some ⟨w.heap.size, 0, none⟩) n n)).run P (w.alloc (.cells cs E)) = .ok (.slice (some ⟨w.heap.size, 0, none⟩) n n) (w.alloc (.cells cs E (cs.size, cs.size + 1))) := by
    have e2 : (w.alloc (.cells cs E)).freeze ⟨w.heap.size, cs.size, none⟩ 1 = w.alloc (.cells cs E (cs.size, cs.size + 1)) := by
      unfold World.freeze World.alloc
      rw [if_neg (by decide)]
      congr 1
      apply Array.ext_getElem?
      intro i
      rw [Array.getElem?_modify, Array.getElem?_push, Array.getElem?_push]
      by_cases h : i = w.heap.size
      · subst h; simp
      · simp [h, Ne.symm h]
    simp [convert, run_underlying t.sl, run_underlying t.el, markStringish, hsh, Result.andThen, e2]
  refine wpList_plain hgd fun K hK => ?_
  unfold Oper.wp execOp
  simp only [ho, hx, Sem.run_bind, Sem.run_pure]
  rw [e, Result.andThen_ok]
  refine hK _ _ (h _ ?_ ((Below.refl _ _).alloc (Nat.le_refl _) _))
  subst hcs hn
  refine ⟨some ⟨w.heap.size, 0, none⟩, l.length, rfl, Nat.le_refl _, (fun h => by cases h), fun a ha j u hu => ?_⟩
  obtain rfl := Option.some.inj ha
  rw [Addr.add_lit, Nat.zero_add]
  exact ⟨by simp [World.cell?, World.alloc, -World.alloc_eq, hu], by simp [World.alloc, -World.alloc_eq]⟩

set_option maxHeartbeats 2000000 in
theorem tagged_any (B : Nat) (tag : ByteArray) (b : List UInt8) (v : Value) (w : World) (hr : Rd B w v b) (ht : Tabs w) (h2 : 2 ≤ w.heap.size) (hN : b.length ≤ 800000) (hT : tag.size ≤ 800000) :
    Calls Tryd.prog 15 #[.string tag, v] w fun e w' => e = .returned (.agg (cellsOf (hsh (hsh tag.data.toList ++ hsh tag.data.toList ++ b))).toArray) ∧ Below w.heap.size w w' := by
  have HS1 : Hid (∀ w' u, Gr w w' → Rd w'.heap.size w' u tag.data.toList → Calls Tryd.prog 11 #[u] w' fun e w'' => e = .returned (.agg (cellsOf (hsh tag.data.toList)).toArray) ∧ Below w'.heap.size w' w'') := fun w' u hw hu => shasum_any _ _ u w' hu (ht.gr hw) (Nat.le_trans h2 (Below.size hw)) (by simp only [Array.length_toList, ByteArray.size_data]; omega)
  have hl : (hsh tag.data.toList).length = 32 := hsh_length _
  obtain ⟨H, eH⟩ : ∃ H, hsh tag.data.toList = H := ⟨_, rfl⟩
  rw [eH] at HS1 hl ⊢
  have HNW : Hid (∀ w', Gr w w' → Calls Tryd.prog 17 #[] w' fun e w'' => ∃ g, e = .returned (.pointer (some ⟨g, 0, none⟩)) ∧ w'.heap.size ≤ g ∧ Hash w'' g [] ∧ Below w'.heap.size w' w'') := fun w' hw => new_any w' (Nat.le_trans h2 (Below.size hw))
  have hwr : ∀ (all l : List UInt8) (u : Value) (g : Nat) (w1 w2 : World), Gr w w1 → w1.heap.size ≤ g → Gr w1 w2 → Hash w2 g all → Rd w1.heap.size w1 u l → all.length + l.length ≤ 900000 →
      Calls Tryd.prog 18 #[.pointer (some ⟨g, 0, none⟩), u] w2 fun e w' => e = .returned (.tuple #[]) ∧ Hash w' g (all ++ l) ∧ Gr w1 w' := fun all l u g w1 w2 h1 hg h12 hh hu hn =>
    (write_any g _ all l u w2 hh (ht.gr (Gr.trans h1 h12)) (hu.grow h12) (fun hl => hu.off hl hg) hn).mono fun e w' h => ⟨h.1, h.2.1, Below.trans h12 (h.2.2.below hg (Below.size h12))⟩
  have HW1 : Hid (∀ g5 g w1 w2, Gr w w1 → w1.heap.size ≤ g → Gr w1 w2 → Hash w2 g [] → Arr 24 w1 g5 (cellsOf H) → Calls Tryd.prog 18 #[.pointer (some ⟨g, 0, none⟩), .slice (some ⟨g5, 0, none⟩) 32 32] w2 fun e w' => e = .returned (.tuple #[]) ∧ Hash w' g H ∧ Gr w1 w') := fun g5 g w1 w2 h1 hg h12 hh ha => by
    have h := hwr [] H (.slice (some ⟨g5, 0, none⟩) 32 32) g w1 w2 h1 hg h12 hh (ha.rd 32 hl.symm).self (by rw [hl]; decide)
    rw [List.nil_append] at h
    exact h
  have HW2 : Hid (∀ g5 g w1 w2, Gr w w1 → w1.heap.size ≤ g → Gr w1 w2 → Hash w2 g H → Arr 24 w1 g5 (cellsOf H) → Calls Tryd.prog 18 #[.pointer (some ⟨g, 0, none⟩), .slice (some ⟨g5, 0, none⟩) 32 32] w2 fun e w' => e = .returned (.tuple #[]) ∧ Hash w' g (H ++ H) ∧ Gr w1 w') := fun g5 g w1 w2 h1 hg h12 hh ha => hwr H H _ g w1 w2 h1 hg h12 hh (ha.rd 32 hl.symm).self (by rw [hl]; decide)
  have HW3 : Hid (∀ g w1 w2, Gr w w1 → w1.heap.size ≤ g → Gr w1 w2 → Hash w2 g (H ++ H) → Calls Tryd.prog 18 #[.pointer (some ⟨g, 0, none⟩), v] w2 fun e w' => e = .returned (.tuple #[]) ∧ Hash w' g (H ++ H ++ b) ∧ Gr w1 w') := fun g w1 w2 h1 hg h12 hh => hwr (H ++ H) b v g w1 w2 h1 hg h12 hh (hr.self.grow h1).self (by rw [List.length_append, hl]; omega)
  have HSU : Hid (∀ g w', Gr w w' → Hash w' g (H ++ H ++ b) → Calls Tryd.prog 19 #[.pointer (some ⟨g, 0, none⟩)] w' fun e w'' => e = .returned (.agg (cellsOf (hsh (H ++ H ++ b))).toArray) ∧ Below w'.heap.size w' w'') := fun g w' hw hh => sum_any g _ w' hh (ht.gr hw) (by rw [List.length_append, List.length_append, hl]; omega)
  have HL1 : Hid ((cellsOf H).length = 32) := by show _ = _; rw [cellsOf_length, hl]
  have HL2 : Hid ((cellsOf (hsh (H ++ H ++ b))).length = 32) := by show _ = _; rw [cellsOf_length, hsh_length]
  obtain ⟨H2, eH2⟩ : ∃ H2, hsh (H ++ H ++ b) = H2 := ⟨_, rfl⟩
  rw [eH2] at HSU HL2 ⊢
  have m := Mem.start w
  have hS : Tryd.prog.underlying 9 = some .string := by kernel_rfl
  have HST : Hid (Tryd.prog.underlying 9 = some .string) := hS
  clear eH ht h2 hr hN eH2 hl hT hwr hS
  go_enter Tryd.func15, Tryd.ntmps15
  go_wp2_with ((first
    | (refine wpList_alloc_mem Tryd.ah m rfl rfl 4 rfl _ zeros32 ?_; clear m; intro g4 wx2 m)
    | (refine wpList_conv_str Tryd.bt rfl 9 (.tmp 7) rfl HST.out tag rfl ?_; intro v1 wx1 hr1 b1; replace m := m.gr b1; clear b1)
    | (go_at_call 11; refine (HS1.out _ _ m.below hr1).mono ?_; rintro e wx4 ⟨rfl, b4⟩; replace m := m.gr b4; clear b4 HS1 hr1)
    | (refine wpList_alloc_mem Tryd.ah m rfl rfl 5 rfl _ zeros32 ?_; clear m; intro g5 wx5 m)
    | (refine wpList_store_mem Tryd.ah m rfl (.tmp 5) (.tmp 9) rfl rfl 0 (cellsOf H) rfl rfl HL1.out (cellsOf_one _) rfl rfl ?_; clear m; intro wx6 m)
    | (go_at_call 17; refine (HNW.out _ m.below).mono ?_; rintro e wx7 ⟨g, rfl, hg, hh7, b7⟩; clear HNW)
    | (refine wpList_slice_arr Tryd.ah rfl (.tmp 5) rfl g5 rfl ?_)
    | (go_at_call 18; refine (HW1.out g5 g _ _ m.below hg b7 hh7 (m.get 0 rfl)).mono ?_; rintro e wx8 ⟨rfl, hh8, b8⟩; clear b7 hh7 HW1)
    | (go_at_call 18; refine (HW2.out g5 g _ _ m.below hg b8 hh8 (m.get 0 rfl)).mono ?_; rintro e wx9 ⟨rfl, hh9, b9⟩; clear b8 hh8 HW2)
    | (go_at_call 18; refine (HW3.out g _ _ m.below hg b9 hh9).mono ?_; rintro e wx10 ⟨rfl, hh10, b10⟩; replace m := m.gr b10; clear b9 hh9 HW3 hg b10)
    | (go_at_call 19; refine (HSU.out g _ m.below hh10).mono ?_; rintro e wx11 ⟨rfl, b11⟩; replace m := m.gr b11; clear b11 HSU hh10)
    | (refine wpList_store_mem Tryd.ah m rfl (.tmp 4) (.tmp 21) rfl rfl 1 (cellsOf H2) rfl rfl HL2.out (cellsOf_one _) rfl rfl ?_; clear m; intro wx12 m)); try simp only [Act.put, List.setIfInBounds_toArray, List.set_cons_succ, List.set_cons_zero])
  refine bodyPost_ret (results_arr Tryd.ah Tryd.results15 _ wx12 g4 (cellsOf H2) HL2.out rfl (m.get 1 rfl)) rfl ⟨rfl, m.below⟩

set_option maxRecDepth 100000 in
theorem hsh_abc : hsh [97, 98, 99] = [0xba, 0x78, 0x16, 0xbf, 0x8f, 0x01, 0xcf, 0xea, 0x41, 0x41, 0x40, 0xde, 0x5d, 0xae, 0x22, 0x23, 0xb0, 0x03, 0x61, 0xa3, 0x96, 0x17, 0x7a, 0x9c, 0xb4, 0x10, 0xff, 0x61, 0xf2, 0x00, 0x15, 0xad] := by decide +kernel
set_option maxRecDepth 100000 in
theorem hsh_none : hsh [] = [0xe3, 0xb0, 0xc4, 0x42, 0x98, 0xfc, 0x1c, 0x14, 0x9a, 0xfb, 0xf4, 0xc8, 0x99, 0x6f, 0xb9, 0x24, 0x27, 0xae, 0x41, 0xe4, 0x64, 0x9b, 0x93, 0x4c, 0xa4, 0x95, 0x99, 0x1b, 0x78, 0x52, 0xb8, 0x55] := by decide +kernel

set_option maxHeartbeats 1000000 in
theorem alive_any (w : World) (ht : Tabs w) (h2 : 2 ≤ w.heap.size) :
    Calls Tryd.prog 10 #[] w fun e w' => e = .returned (.bool true) ∧ Below w.heap.size w w' := by
  have HS1 : Hid (∀ w' u, Gr w w' → Rd w'.heap.size w' u [97, 98, 99] → Calls Tryd.prog 11 #[u] w' fun e w'' => e = .returned (.agg (cellsOf (hsh [97, 98, 99])).toArray) ∧ Below w'.heap.size w' w'') := fun w' u hw hu => shasum_any _ _ u w' hu (ht.gr hw) (Nat.le_trans h2 (Below.size hw)) (by decide)
  have HS2 : Hid (∀ w', Gr w w' → Calls Tryd.prog 11 #[.slice none 0 0] w' fun e w'' => e = .returned (.agg (cellsOf (hsh [])).toArray) ∧ Below w'.heap.size w' w'') := fun w' hw => shasum_any _ [] _ w' (Rd.nil 0 w') (ht.gr hw) (Nat.le_trans h2 (Below.size hw)) (by decide)
  have HA0 : Hid ((cellsOf (hsh [97, 98, 99]))[0]? = some (.int .u8 186)) := by show _ = _; rw [hsh_abc]; rfl
  have HA1 : Hid ((cellsOf (hsh [97, 98, 99]))[31]? = some (.int .u8 173)) := by show _ = _; rw [hsh_abc]; rfl
  have HB0 : Hid ((cellsOf (hsh []))[0]? = some (.int .u8 227)) := by show _ = _; rw [hsh_none]; rfl
  have HB1 : Hid ((cellsOf (hsh []))[31]? = some (.int .u8 85)) := by show _ = _; rw [hsh_none]; rfl
  have HL1 : Hid ((cellsOf (hsh [97, 98, 99])).length = 32) := by show _ = _; rw [cellsOf_length, hsh_length]
  have HL2 : Hid ((cellsOf (hsh [])).length = 32) := by show _ = _; rw [cellsOf_length, hsh_length]
  obtain ⟨HA, eA⟩ : ∃ H, hsh [97, 98, 99] = H := ⟨_, rfl⟩
  obtain ⟨HB, eB⟩ : ∃ H, hsh [] = H := ⟨_, rfl⟩
  rw [eA] at HS1 HA0 HA1 HL1
  rw [eB] at HS2 HB0 HB1 HL2
  have m := Mem.start w
  clear eA eB ht h2
  go_enter Tryd.func10, Tryd.ntmps10
  go_wp2_with ((first
    | (refine wpList_conv_lit Tryd.bt rfl (.tmp 3) rfl [97, 98, 99] _ rfl 3 rfl rfl ?_; intro wx0 hr0 b0; replace m := m.gr b0; clear b0)
    | (go_at_call 11; refine (HS1.out _ _ m.below hr0).mono ?_; rintro e wx1 ⟨rfl, b1⟩; replace m := m.gr b1; clear b1 HS1 hr0)
    | (refine wpList_alloc_mem Tryd.ah m rfl rfl 1 rfl _ zeros32 ?_; clear m; intro g1 wx2 m)
    | (refine wpList_store_mem Tryd.ah m rfl (.tmp 1) (.tmp 5) rfl rfl 0 (cellsOf HA) rfl rfl HL1.out (cellsOf_one _) rfl rfl ?_; clear m; intro wx3 m)
    | (go_at_call 11; refine (HS2.out _ m.below).mono ?_; rintro e wx4 ⟨rfl, b4⟩; replace m := m.gr b4; clear b4 HS2)
    | (refine wpList_alloc_mem Tryd.ah m rfl rfl 2 rfl _ zeros32 ?_; clear m; intro g2 wx5 m)
    | (refine wpList_store_mem Tryd.ah m rfl (.tmp 2) (.tmp 6) rfl rfl 0 (cellsOf HB) rfl rfl HL2.out (cellsOf_one _) rfl rfl ?_; clear m; intro wx9 m; have c1 := cell_of_arr (m.get 1 rfl) HA0.out; have c2 := cell_of_arr (m.get 1 rfl) HA1.out; have c3 := cell_of_arr (m.get 0 rfl) HB0.out; have c4 := cell_of_arr (m.get 0 rfl) HB1.out; have HB9 : Hid (Below w.heap.size w wx9) := m.below; clear m)); try simp only [Act.put, List.setIfInBounds_toArray, List.set_cons_succ, List.set_cons_zero])
  go_ret
  exact ⟨rfl, HB9.out⟩
end Go.Proofs.YtkgenageeiaacaaDoor
