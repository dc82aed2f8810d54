/-
  Contracts of Script: package bech's, and the document's.
-/
import Derived.Test.YtemgaoikngebeaaDoorB15
namespace Go.Proofs.YtemgaoikngebeaaDoor
open Go.RowKit

theorem decode_r (w : World) (s : ByteArray) (hs : s.size ≤ 100000) (ht : Tn w) (E : ByteArray) (d : List UInt8) (x : Int) (hE : bl E = decH (bl s)) (hd : decD (bl s) = d) (hx : decF (bl s) = x) :
    Calls Tryd.prog 15 #[.string s] w fun e w' => ∃ v', e = .returned (.tuple #[.string E, v', .int .i64 x]) ∧ Own 5 w.heap.size w' v' d ∧ Below w.heap.size w w' := by
  subst hd hx
  have := decode_any w s hs ht
  rw [← hE, ← tx_bl] at this
  exact this
theorem rdecode_r (w : World) (s : ByteArray) (hs : s.size ≤ 100000) (E : ByteArray) (d : List UInt8) (x : Int) (hE : bl E = decH (bl s)) (hd : decD (bl s) = d) (hx : decF (bl s) = x) :
    Calls Tryd.prog 16 #[.string s] w fun e w' => ∃ v', e = .returned (.tuple #[.string E, v', .int .i64 x]) ∧ Own 5 w.heap.size w' v' d ∧ Below w.heap.size w w' := by
  subst hd hx
  have := rdecode_any w s hs
  rw [← hE, ← tx_bl] at this
  exact this

/-- How it comes that a text is no address, or is one. -/
theorem scr_cases (s : ByteArray) : (decOk (bl s) = false ∧ scrOk (bl s) = false) ∨ (decOk (bl s) = true ∧ headOf (bl s) ≠ en ∧ scrOk (bl s) = false) ∨ (decOk (bl s) = true ∧ headOf (bl s) = en ∧ dataOf (bl s) = [] ∧ scrOk (bl s) = false) ∨
    (decOk (bl s) = true ∧ headOf (bl s) = en ∧ 1 ≤ (dataOf (bl s)).length ∧ scrOk (bl s) = datOk (dataOf (bl s))) := by
  cases h1 : decOk (bl s) with
  | false => exact .inl ⟨rfl, by rw [scrOk, h1]; rfl⟩
  | true =>
    by_cases h2 : headOf (bl s) = en
    · by_cases h3 : 1 ≤ (dataOf (bl s)).length
      · exact .inr (.inr (.inr ⟨rfl, h2, h3, by rw [scrOk, h1, decide_eq_true h2, decide_eq_true h3]; rfl⟩))
      · exact .inr (.inr (.inl ⟨rfl, h2, List.eq_nil_of_length_eq_zero (by omega), by rw [scrOk, decide_eq_false h3]; simp⟩))
    · exact .inr (.inl ⟨rfl, h2, by rw [scrOk, decide_eq_false h2]; simp⟩)
theorem en_ne {E : ByteArray} (h : bl E ≠ en) : (E.toList == [101, 110]) = false := by
  rw [Lib.toList_data]
  have : ¬ E.data.toList = [101, 110] := h
  simpa using this
theorem dataOf_len (s : ByteArray) (hs : s.size ≤ 100000) : (dataOf (bl s)).length ≤ 100000 := by
  simp only [dataOf, numsOf, midOf, List.length_map, List.length_drop, List.length_take, bl_length]; omega

set_option maxHeartbeats 1000000 in
theorem script_no (w : World) (s : ByteArray) (hs : s.size ≤ 100000) (ht : Tn w) (hk : decOk (bl s) = false ∨ (decOk (bl s) = true ∧ headOf (bl s) ≠ en) ∨ (decOk (bl s) = true ∧ headOf (bl s) = en ∧ dataOf (bl s) = [])) :
    Calls Tryd.prog 23 #[.string s] w fun e w' => e = .returned (.tuple #[.slice none 0 0, .int .i64 3]) ∧ Below w.heap.size w w' := by
  have HT : Hid (Tn w) := ht
  clear ht
  rcases hk with h | ⟨h1, h2⟩ | ⟨h1, h2, h3⟩
  · obtain ⟨d1, d2, d3⟩ := dec_no h
    have HD : Hid (decH (bl s) = [] ∧ decD (bl s) = [] ∧ decF (bl s) = 3) := ⟨d1, d2, d3⟩
    clear h d1 d2 d3
    go_enter Tryd.func23, Tryd.ntmps23
    go_wp2_with fail
    refine (decode_r w s hs HT.out ⟨#[]⟩ [] 3 (by rw [HD.out.1]; rfl) HD.out.2.1 HD.out.2.2).mono ?_
    rintro e w1 ⟨v1, rfl, ho1, hb1⟩
    have HB1 : Hid (Below w.heap.size w w1) := hb1
    clear ho1 hb1
    go_wp2
    go_ret2
    exact ⟨rfl, HB1.out⟩
  · obtain ⟨d1, d2, d3⟩ := dec_ok h1
    have HD : Hid (decH (bl s) = headOf (bl s) ∧ decD (bl s) = dataOf (bl s) ∧ decF (bl s) = 0) := ⟨d1, d2, d3⟩
    obtain ⟨E, HE⟩ : ∃ E : ByteArray, Hid (bl E = headOf (bl s)) := ⟨⟨(headOf (bl s)).toArray⟩, bl_mk _⟩
    have hq : (E.toList == [101, 110]) = false := en_ne (by rw [HE.out]; exact h2)
    clear h1 h2 d1 d2 d3
    go_enter Tryd.func23, Tryd.ntmps23
    go_wp2_with fail
    refine (decode_r w s hs HT.out E (dataOf (bl s)) 0 (by rw [HD.out.1, HE.out]) HD.out.2.1 HD.out.2.2).mono ?_
    rintro e w1 ⟨v1, rfl, ho1, hb1⟩
    have HB1 : Hid (Below w.heap.size w w1) := hb1
    clear ho1 hb1
    go_wp2
    go_ret2
    exact ⟨rfl, HB1.out⟩
  · obtain ⟨d1, d2, d3⟩ := dec_ok h1
    have HD : Hid (decH (bl s) = en ∧ decD (bl s) = [] ∧ decF (bl s) = 0) := ⟨d1.trans h2, d2.trans h3, d3⟩
    clear h1 h2 h3 d1 d2 d3
    go_enter Tryd.func23, Tryd.ntmps23
    go_wp2_with fail
    refine (decode_r w s hs HT.out ⟨#[101, 110]⟩ [] 0 (by rw [HD.out.1]; rfl) HD.out.2.1 HD.out.2.2).mono ?_
    rintro e w1 ⟨v1, rfl, ho1, hb1⟩
    have HB1 : Hid (Below w.heap.size w w1) := hb1
    obtain ⟨ao, cap, rfl⟩ := ho1.rd.len
    clear ho1 hb1
    go_wp2
    go_ret2
    exact ⟨rfl, HB1.out⟩

theorem datOk_gat {d : List UInt8} (h : gatOk (d.drop 1) = false) : datOk d = false := by rw [datOk, h]; simp
theorem datOk_ver {d : List UInt8} (h : 16 < (d.getD 0 0).toNat) : datOk d = false := by rw [datOk, decide_eq_false (by omega)]; rfl
theorem datOk_prog {d : List UInt8} (h : prOk (gat (d.drop 1)).length = false) : datOk d = false := by
  rw [datOk, show progOk (gat (d.drop 1)) = false from h]; simp
theorem datOk_all {d : List UInt8} (h1 : (d.getD 0 0).toNat ≤ 16) (h2 : gatOk (d.drop 1) = true) (h3 : prOk (gat (d.drop 1)).length = true) : datOk d = true := by
  rw [datOk, decide_eq_true h1, h2, show progOk (gat (d.drop 1)) = true from h3]; rfl

set_option maxHeartbeats 2000000 in
theorem script_go (w : World) (s : ByteArray) (hs : s.size ≤ 100000) (ht : Tn w) (h1 : decOk (bl s) = true) (h2 : headOf (bl s) = en) (h3 : 1 ≤ (dataOf (bl s)).length) (hk : scrOk (bl s) = datOk (dataOf (bl s))) (r : List UInt8) (x : Int) (hr : scrL (bl s) = r) (hx : scrF (bl s) = x) :
    Calls Tryd.prog 23 #[.string s] w fun e w' => ∃ v', e = .returned (.tuple #[v', .int .i64 x]) ∧ Own 5 w.heap.size w' v' r ∧ Below w.heap.size w w' := by
  have HT : Hid (Tn w) := ht
  obtain ⟨d1, d2, d3⟩ := dec_ok h1
  have HD : Hid (decH (bl s) = en ∧ decD (bl s) = dataOf (bl s) ∧ decF (bl s) = 0) := ⟨d1.trans h2, d2, d3⟩
  have hdl := dataOf_len s hs
  have HN : Hid (datOk (dataOf (bl s)) = false → r = [] ∧ x = 3) := fun h => by
    have := scr_no (hk.trans h)
    exact ⟨hr ▸ this.1, hx ▸ this.2⟩
  have HY : Hid (datOk (dataOf (bl s)) = true → r = layL ((dataOf (bl s)).getD 0 0) (gat ((dataOf (bl s)).drop 1)) ∧ x = 0) := fun h => by
    have := scr_ok (hk.trans h)
    exact ⟨hr ▸ this.1, hx ▸ this.2⟩
  clear ht h1 h2 hk hr hx d1 d2 d3
  generalize dataOf (bl s) = d at HD HN HY h3 hdl
  go_enter Tryd.func23, Tryd.ntmps23
  go_wp2_with fail
  refine (decode_r w s hs HT.out ⟨#[101, 110]⟩ d 0 (by rw [HD.out.1]; rfl) HD.out.2.1 HD.out.2.2).mono ?_
  rintro e w1 ⟨v1, rfl, ho1, hb1⟩
  have HB1 : Hid (Gr w w1) := hb1
  have hr1 := ho1.rd
  obtain ⟨b0, off, cap, rfl, hcap, _, hc⟩ := hr1.at (by omega)
  have q0 := hc 0 (by omega)
  rw [← getD_at] at q0
  simp only [Nat.add_zero] at q0
  have HR1 : Hid (Rs w1 (.slice (some ⟨b0, off, none⟩) d.length cap) d) := hr1
  have hv0 := (d.getD 0 0).toNat_lt
  have HV : Hid ((d.getD 0 0).toNat = (d.getD 0 0).toNat) := rfl
  obtain ⟨n, Hn⟩ : ∃ n : Nat, Hid ((d.getD 0 0).toNat = n) := ⟨(d.getD 0 0).toNat, rfl⟩
  rw [Hn.out] at q0 hv0
  have d0 : ((d.length : Int) == 0) = false := by rw [beq_eq_false_iff_ne]; omega
  clear ho1 hb1 hr1 hc HV
  go_wp2_with fail
  all_goals
    refine (gather_any w1 w1.heap.size _ (d.drop 1) (by first | exact Rd.drop HR1.out h3 _ _ _ _ (.inr ⟨rfl, rfl⟩) rfl (by omega) | exact Rd.drop HR1.out h3 _ _ _ _ (.inl (by omega)) rfl (by omega)) (by simp; omega)).mono ?_
    rintro e w2 ⟨v2, rfl, ho2, hb2⟩
    have HB2 : Hid (Gr w w2) := Gr.trans HB1.out hb2
    cases hg : gatOk (d.drop 1) with
    | false =>
      have HE : Hid (r = [] ∧ x = 3) := HN.out (datOk_gat hg)
      rw [(gat_no hg).2]
      clear ho2 hb2 hg
      go_wp2
      go_ret2
      rw [HE.out.1, HE.out.2]
      exact ⟨_, rfl, Own.nil _ _ _, HB2.out⟩
    | true =>
      obtain ⟨p, hpe⟩ : ∃ p : List UInt8, gat (d.drop 1) = p := ⟨_, rfl⟩
      have hpl : p.length ≤ 100000 := by rw [← hpe, gat_length, List.length_drop]; omega
      have HG : Hid (prOk p.length = true → n ≤ 16 → r = layL (d.getD 0 0) p ∧ x = 0) := fun h1 h2 => by
        rw [← hpe]; exact HY.out (datOk_all (by rw [Hn.out]; exact h2) hg (by rw [hpe]; exact h1))
      have HGN : Hid (prOk p.length = false → r = [] ∧ x = 3) := fun h1 => HN.out (datOk_prog (by rw [hpe]; exact h1))
      rw [(gat_ok hg).2]
      rw [(gat_ok hg).1, hpe] at ho2
      have HO2 : Hid (Own 5 w1.heap.size w2 v2 p) := ho2
      obtain ⟨ao2, cap2, rfl⟩ := ho2.rd.len
      clear ho2 hb2 hg hpe
      by_cases h16 : 16 < n
      · have HE : Hid (r = [] ∧ x = 3) := HN.out (datOk_ver (by rw [Hn.out]; exact h16))
        have d16 : decide ((n : Int) > 16) = true := by simp; omega
        clear h16
        go_wp2
        go_ret2
        rw [HE.out.1, HE.out.2]
        exact ⟨_, rfl, Own.nil _ _ _, HB2.out⟩
      · have d16 : decide ((n : Int) > 16) = false := by simp; omega
        cases hp : prOk p.length with
        | false =>
          have HE : Hid (r = [] ∧ x = 3) := HGN.out hp
          have HP : Hid (prOk p.length = false) := hp
          clear hp h16
          go_wp2_with (go_at_call 38; refine (isProgram_r _ _ _ _ (by omega) false HP.out).mono ?_; rintro e w' ⟨rfl, rfl⟩)
          go_ret2
          rw [HE.out.1, HE.out.2]
          exact ⟨_, rfl, Own.nil _ _ _, HB2.out⟩
        | true =>
          have HE : Hid (r = layL (d.getD 0 0) p ∧ x = 0) := HG.out hp (by omega)
          have HP : Hid (prOk p.length = true) := hp
          have HLy : Hid (∀ (w : World) (B : Nat) (v : Value), Rd B w v p → Calls Tryd.prog 39 #[.int .u8 (n : Int), v] w fun e w' => ∃ v', e = .returned v' ∧ Own 5 w.heap.size w' v' (layL (d.getD 0 0) p) ∧ Below w.heap.size w w') := fun w B v h => by
            rw [← Hn.out]; exact lay_any w B v p h hpl (d.getD 0 0)
          clear hp h16
          go_wp2_with (go_at_call 38; refine (isProgram_r _ _ _ _ (by omega) true HP.out).mono ?_; rintro e w' ⟨rfl, rfl⟩)
          refine (HLy.out _ _ _ HO2.out.rd).mono ?_
          rintro e w3 ⟨v3, rfl, ho3, hb3⟩
          have HB3 : Hid (Gr w w3) := Gr.trans HB2.out hb3
          have HO3 : Hid (Own 5 w.heap.size w3 v3 (layL (d.getD 0 0) p)) := ho3.mono (Below.size HB2.out)
          clear ho3 hb3
          go_wp2
          go_ret2
          rw [HE.out.1, HE.out.2]
          exact ⟨_, rfl, HO3.out, HB3.out⟩
end Go.Proofs.YtemgaoikngebeaaDoor
