/-
  Contracts of Script: package bech's, whole; the document's.
-/
import Derived.Test.YtemgaoikngebeaaDoorB16
namespace Go.Proofs.YtemgaoikngebeaaDoor
open Go.RowKit

theorem script_r (w : World) (s : ByteArray) (hs : s.size ≤ 100000) (ht : Tn w) (r : List UInt8) (x : Int) (hr : scrL (bl s) = r) (hx : scrF (bl s) = x) :
    Calls Tryd.prog 23 #[.string s] w fun e w' => ∃ v', e = .returned (.tuple #[v', .int .i64 x]) ∧ Own 5 w.heap.size w' v' r ∧ Below w.heap.size w w' := by
  rcases scr_cases s with ⟨h1, h2⟩ | ⟨h1, h2, h3⟩ | ⟨h1, h2, h3, h4⟩ | ⟨h1, h2, h3, h4⟩
  · rw [(scr_no h2).1] at hr
    rw [(scr_no h2).2] at hx
    subst hr hx
    exact (script_no w s hs ht (.inl h1)).mono fun e w' ⟨he, hb⟩ => ⟨_, he, Own.nil _ _ _, hb⟩
  · rw [(scr_no h3).1] at hr
    rw [(scr_no h3).2] at hx
    subst hr hx
    exact (script_no w s hs ht (.inr (.inl ⟨h1, h2⟩))).mono fun e w' ⟨he, hb⟩ => ⟨_, he, Own.nil _ _ _, hb⟩
  · rw [(scr_no h4).1] at hr
    rw [(scr_no h4).2] at hx
    subst hr hx
    exact (script_no w s hs ht (.inr (.inr ⟨h1, h2, h3⟩))).mono fun e w' ⟨he, hb⟩ => ⟨_, he, Own.nil _ _ _, hb⟩
  · exact script_go w s hs ht h1 h2 h3 h4 r x hr hx

set_option maxHeartbeats 1000000 in
theorem rscript_no (w : World) (s : ByteArray) (hs : s.size ≤ 100000) (hk : decOk (bl s) = false ∨ (decOk (bl s) = true ∧ headOf (bl s) ≠ en) ∨ (decOk (bl s) = true ∧ headOf (bl s) = en ∧ dataOf (bl s) = [])) :
    Calls Tryd.prog 24 #[.string s] w fun e w' => e = .returned (.tuple #[.slice none 0 0, .int .i64 3]) ∧ Below w.heap.size w w' := by
  rcases hk with h | ⟨h1, h2⟩ | ⟨h1, h2, h3⟩
  · obtain ⟨d1, d2, d3⟩ := dec_no h
    have HD : Hid (decH (bl s) = [] ∧ decD (bl s) = [] ∧ decF (bl s) = 3) := ⟨d1, d2, d3⟩
    clear h d1 d2 d3
    go_enter Tryd.func24, Tryd.ntmps24
    go_wp2_with fail
    refine (rdecode_r w s hs ⟨#[]⟩ [] 3 (by rw [HD.out.1]; rfl) HD.out.2.1 HD.out.2.2).mono ?_
    rintro e w1 ⟨v1, rfl, ho1, hb1⟩
    have HB1 : Hid (Below w.heap.size w w1) := hb1
    clear ho1 hb1
    go_wp2
    go_ret2
    exact ⟨rfl, HB1.out⟩
  · obtain ⟨d1, d2, d3⟩ := dec_ok h1
    have HD : Hid (decH (bl s) = headOf (bl s) ∧ decD (bl s) = dataOf (bl s) ∧ decF (bl s) = 0) := ⟨d1, d2, d3⟩
    obtain ⟨E, HE⟩ : ∃ E : ByteArray, Hid (bl E = headOf (bl s)) := ⟨⟨(headOf (bl s)).toArray⟩, bl_mk _⟩
    have hq : (E.toList == [101, 110]) = false := en_ne (by rw [HE.out]; exact h2)
    clear h1 h2 d1 d2 d3
    go_enter Tryd.func24, Tryd.ntmps24
    go_wp2_with fail
    refine (rdecode_r w s hs E (dataOf (bl s)) 0 (by rw [HD.out.1, HE.out]) HD.out.2.1 HD.out.2.2).mono ?_
    rintro e w1 ⟨v1, rfl, ho1, hb1⟩
    have HB1 : Hid (Below w.heap.size w w1) := hb1
    clear ho1 hb1
    go_wp2
    go_ret2
    exact ⟨rfl, HB1.out⟩
  · obtain ⟨d1, d2, d3⟩ := dec_ok h1
    have HD : Hid (decH (bl s) = en ∧ decD (bl s) = [] ∧ decF (bl s) = 0) := ⟨d1.trans h2, d2.trans h3, d3⟩
    clear h1 h2 h3 d1 d2 d3
    go_enter Tryd.func24, Tryd.ntmps24
    go_wp2_with fail
    refine (rdecode_r w s hs ⟨#[101, 110]⟩ [] 0 (by rw [HD.out.1]; rfl) HD.out.2.1 HD.out.2.2).mono ?_
    rintro e w1 ⟨v1, rfl, ho1, hb1⟩
    have HB1 : Hid (Below w.heap.size w w1) := hb1
    obtain ⟨ao, cap, rfl⟩ := ho1.rd.len
    clear ho1 hb1
    go_wp2
    go_ret2
    exact ⟨rfl, HB1.out⟩


set_option maxHeartbeats 2000000 in
theorem rscript_go (w : World) (s : ByteArray) (hs : s.size ≤ 100000) (h1 : decOk (bl s) = true) (h2 : headOf (bl s) = en) (h3 : 1 ≤ (dataOf (bl s)).length) (hk : scrOk (bl s) = datOk (dataOf (bl s))) (r : List UInt8) (x : Int) (hr : scrL (bl s) = r) (hx : scrF (bl s) = x) :
    Calls Tryd.prog 24 #[.string s] w fun e w' => ∃ v', e = .returned (.tuple #[v', .int .i64 x]) ∧ Own 5 w.heap.size w' v' r ∧ Below w.heap.size w w' := by
  obtain ⟨d1, d2, d3⟩ := dec_ok h1
  have HD : Hid (decH (bl s) = en ∧ decD (bl s) = dataOf (bl s) ∧ decF (bl s) = 0) := ⟨d1.trans h2, d2, d3⟩
  have hdl := dataOf_len s hs
  have HN : Hid (datOk (dataOf (bl s)) = false → r = [] ∧ x = 3) := fun h => by
    have := scr_no (hk.trans h)
    exact ⟨hr ▸ this.1, hx ▸ this.2⟩
  have HY : Hid (datOk (dataOf (bl s)) = true → r = layL ((dataOf (bl s)).getD 0 0) (gat ((dataOf (bl s)).drop 1)) ∧ x = 0) := fun h => by
    have := scr_ok (hk.trans h)
    exact ⟨hr ▸ this.1, hx ▸ this.2⟩
  clear h1 h2 hk hr hx d1 d2 d3
  generalize dataOf (bl s) = d at HD HN HY h3 hdl
  go_enter Tryd.func24, Tryd.ntmps24
  go_wp2_with fail
  refine (rdecode_r w s hs ⟨#[101, 110]⟩ d 0 (by rw [HD.out.1]; rfl) HD.out.2.1 HD.out.2.2).mono ?_
  rintro e w1 ⟨v1, rfl, ho1, hb1⟩
  have HB1 : Hid (Gr w w1) := hb1
  have hr1 := ho1.rd
  obtain ⟨b0, off, cap, rfl, hcap, hB0, hc⟩ := hr1.at (by omega)
  have q0 := hc 0 (by omega)
  rw [← getD_at] at q0
  simp only [Nat.add_zero] at q0
  have HR1 : Hid (Rs w1 (.slice (some ⟨b0, off, none⟩) d.length cap) d) := hr1
  have hv0 := (d.getD 0 0).toNat_lt
  obtain ⟨n, Hn⟩ : ∃ n : Nat, Hid ((d.getD 0 0).toNat = n) := ⟨(d.getD 0 0).toNat, rfl⟩
  rw [Hn.out] at q0 hv0
  have d0 : ((d.length : Int) == 0) = false := by rw [beq_eq_false_iff_ne]; omega
  clear ho1 hb1 hr1 hc
  by_cases h16 : 16 < n
  · have HE : Hid (r = [] ∧ x = 3) := HN.out (datOk_ver (by rw [Hn.out]; exact h16))
    have d16 : decide ((n : Int) > 16) = true := by simp; omega
    clear h16
    go_wp2
    go_ret2
    rw [HE.out.1, HE.out.2]
    exact ⟨_, rfl, Own.nil _ _ _, HB1.out⟩
  have d16 : decide ((n : Int) > 16) = false := by simp; omega
  have Hn16 : Hid (n ≤ 16) := by show _ ≤ _; omega
  clear h16
  go_wp2_with fail
  all_goals
    refine (rgather_any w1 w1.heap.size _ (d.drop 1) (by first | exact Rd.drop HR1.out h3 _ _ _ _ (.inr ⟨rfl, rfl⟩) rfl (by omega) | exact Rd.drop HR1.out h3 _ _ _ _ (.inl (by omega)) rfl (by omega)) (by simp; omega)).mono ?_
    rintro e w2 ⟨v2, rfl, ho2, hb2⟩
    have HB2 : Hid (Gr w w2) := Gr.trans HB1.out hb2
    have q2 : w2.cell? ⟨b0, off, none⟩ = some (.int .u8 (n : Int)) := by rw [Below.cell hb2 (by exact hB0)]; exact q0
    cases hg : gatOk (d.drop 1) with
    | false =>
      have HE : Hid (r = [] ∧ x = 3) := HN.out (datOk_gat hg)
      rw [(gat_no hg).2]
      clear ho2 hb2 hg
      go_wp2
      go_ret2
      rw [HE.out.1, HE.out.2]
      exact ⟨_, rfl, Own.nil _ _ _, HB2.out⟩
    | true =>
      obtain ⟨p, hpe⟩ : ∃ p : List UInt8, gat (d.drop 1) = p := ⟨_, rfl⟩
      have hpl : p.length ≤ 100000 := by rw [← hpe, gat_length, List.length_drop]; omega
      have HG : Hid (prOk p.length = true → n ≤ 16 → r = layL (d.getD 0 0) p ∧ x = 0) := fun h1 h2 => by
        rw [← hpe]; exact HY.out (datOk_all (by rw [Hn.out]; exact h2) hg (by rw [hpe]; exact h1))
      have HGN : Hid (prOk p.length = false → r = [] ∧ x = 3) := fun h1 => HN.out (datOk_prog (by rw [hpe]; exact h1))
      rw [(gat_ok hg).2]
      rw [(gat_ok hg).1, hpe] at ho2
      have HO2 : Hid (Own 5 w1.heap.size w2 v2 p) := ho2
      obtain ⟨ao2, cap2, rfl⟩ := ho2.rd.len
      clear ho2 hb2 hg hpe
      by_cases hp2 : p.length < 2
      · have HE : Hid (r = [] ∧ x = 3) := HGN.out (by simp only [prOk, Bool.and_eq_false_iff, decide_eq_false_iff_not]; omega)
        have dp : decide ((p.length : Int) < 2) = true := by simp; omega
        clear hp2
        go_wp2
        go_ret2
        rw [HE.out.1, HE.out.2]
        exact ⟨_, rfl, Own.nil _ _ _, HB2.out⟩
      · have dp : decide ((p.length : Int) < 2) = false := by simp; omega
        by_cases hp40 : 40 < p.length
        · have HE : Hid (r = [] ∧ x = 3) := HGN.out (by simp only [prOk, Bool.and_eq_false_iff, decide_eq_false_iff_not]; omega)
          have dp2 : decide ((p.length : Int) > 40) = true := by simp; omega
          clear hp2 hp40
          go_wp2
          go_ret2
          rw [HE.out.1, HE.out.2]
          exact ⟨_, rfl, Own.nil _ _ _, HB2.out⟩
        · have HE : Hid (r = layL (d.getD 0 0) p ∧ x = 0) := HG.out (by simp only [prOk, Bool.and_eq_true, decide_eq_true_eq]; omega) Hn16.out
          have dp2 : decide ((p.length : Int) > 40) = false := by simp; omega
          have HL : Hid (layL (d.getD 0 0) p = [firstOf (d.getD 0 0), UInt8.ofNat p.length] ++ p) := rfl
          have hp41 : p.length ≤ 40 := by omega
          have HNb : Hid ((p.length : Int) = ((UInt8.ofNat p.length).toNat : Int)) := by show _ = _; simp only [UInt8.toNat_ofNat']; omega
          generalize UInt8.ofNat p.length = k at HNb HL
          by_cases hz : n = 0
          · have HF : Hid ((0 : Int) = ((firstOf (d.getD 0 0)).toNat : Int)) := by show _ = _; rw [firstOf, if_pos (by rw [Hn.out]; exact hz)]; rfl
            clear hp2 hp40
            subst hz
            go_wp2_with (at_builtin; refine wpList_append_rd Tryd.bt rfl (.tmp 61) (.tmp 62) rfl w.heap.size _ _ _ [firstOf (d.getD 0 0), k] p rfl (Own.two 5 _ _ _ _ _ _ HF.out HNb.out (Below.size HB2.out)) rfl (Rd.rs (HO2.out.rd) |>.gr ((Below.refl _ _).alloc (Nat.le_refl _) _)) (by show 2 + _ ≤ _; omega) (by have := Below.size HB2.out; simp; omega) ?_; intro v3 w3 ho3 hb3)
            go_ret2
            rw [HE.out.1, HE.out.2, HL.out]
            exact ⟨_, rfl, ho3, Below.trans (Gr.trans HB2.out ((Below.refl _ _).alloc (Nat.le_refl _) _)) hb3⟩
          · have HF : Hid ((n : Int) + 80 = ((firstOf (d.getD 0 0)).toNat : Int)) := by
              have := firstOf_int (d.getD 0 0) (by rw [Hn.out]; exact hz)
              rw [Hn.out] at this
              have h16 := Hn16.out
              show _ = _
              omega
            have hnp : 0 < n := by omega
            have hn16 : n ≤ 16 := Hn16.out
            clear hp2 hp40 hz
            go_wp2_with (at_builtin; refine wpList_append_rd Tryd.bt rfl (.tmp 61) (.tmp 62) rfl w.heap.size _ _ _ [firstOf (d.getD 0 0), k] p rfl (Own.two 5 _ _ _ _ _ _ HF.out HNb.out (Below.size HB2.out)) rfl (Rd.rs (HO2.out.rd) |>.gr ((Below.refl _ _).alloc (Nat.le_refl _) _)) (by show 2 + _ ≤ _; omega) (by have := Below.size HB2.out; simp; omega) ?_; intro v3 w3 ho3 hb3)
            go_ret2
            rw [HE.out.1, HE.out.2, HL.out]
            exact ⟨_, rfl, ho3, Below.trans (Gr.trans HB2.out ((Below.refl _ _).alloc (Nat.le_refl _) _)) hb3⟩

theorem rscript_r (w : World) (s : ByteArray) (hs : s.size ≤ 100000) (r : List UInt8) (x : Int) (hr : scrL (bl s) = r) (hx : scrF (bl s) = x) :
    Calls Tryd.prog 24 #[.string s] w fun e w' => ∃ v', e = .returned (.tuple #[v', .int .i64 x]) ∧ Own 5 w.heap.size w' v' r ∧ Below w.heap.size w w' := by
  rcases scr_cases s with ⟨h1, h2⟩ | ⟨h1, h2, h3⟩ | ⟨h1, h2, h3, h4⟩ | ⟨h1, h2, h3, h4⟩
  · rw [(scr_no h2).1] at hr
    rw [(scr_no h2).2] at hx
    subst hr hx
    exact (rscript_no w s hs (.inl h1)).mono fun e w' ⟨he, hb⟩ => ⟨_, he, Own.nil _ _ _, hb⟩
  · rw [(scr_no h3).1] at hr
    rw [(scr_no h3).2] at hx
    subst hr hx
    exact (rscript_no w s hs (.inr (.inl ⟨h1, h2⟩))).mono fun e w' ⟨he, hb⟩ => ⟨_, he, Own.nil _ _ _, hb⟩
  · rw [(scr_no h4).1] at hr
    rw [(scr_no h4).2] at hx
    subst hr hx
    exact (rscript_no w s hs (.inr (.inr ⟨h1, h2, h3⟩))).mono fun e w' ⟨he, hb⟩ => ⟨_, he, Own.nil _ _ _, hb⟩
  · exact rscript_go w s hs h1 h2 h3 h4 r x hr hx
end Go.Proofs.YtemgaoikngebeaaDoor
