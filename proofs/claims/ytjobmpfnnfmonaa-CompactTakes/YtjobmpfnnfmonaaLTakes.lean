/-
  What the law CompactTakes comes to: true, and nothing that was there has turned; for whatever bytes and limits.
-/
import Derived.Test.YtjobmpfnnfmonaaLOnly
import Derived.Test.YtjobmpfnnfmonaaLTake
namespace Go.Proofs.Ytjobmpfnnfmonaa
open Go.RowKit

/-- The slice v and its strings are the call's own; the strings have these lengths. -/
def ShpL (T E : TypeId) (base : Nat) (w : World) (v : Value) (ns : List Nat) : Prop :=
  ∃ us : List Value, w.ownsRow base T 1 v ns.length us ∧ ∀ j (hj : j < ns.length) u, us[j]? = some u → ∃ m : List UInt8, m.length = ns[j] ∧ Own E base w u m

theorem OwnL.shp {T E : TypeId} {base : Nat} {w : World} {v : Value} {ls : List (List UInt8)} (h : OwnL T E base w v ls) : ShpL T E base w v (ls.map List.length) := by
  obtain ⟨us, h1, h2⟩ := h
  refine ⟨us, by simpa using h1, fun j hj u hu => ?_⟩
  have hj' : j < ls.length := by simpa using hj
  exact ⟨ls[j], by simp, h2 j hj' u hu⟩

theorem ShpL.len {T E : TypeId} {base : Nat} {w : World} {v : Value} {ns : List Nat} (h : ShpL T E base w v ns) : ∃ ao cap, v = .slice ao ns.length cap := by
  obtain ⟨us, h1, h2⟩ := h
  rcases h1.2 with ⟨rfl, hn⟩ | ⟨g, cap, cur, rfl, _⟩
  · exact ⟨none, 0, by rw [hn]⟩
  · exact ⟨_, _, rfl⟩

/-- One string, written out. -/
theorem ShpL.at {T E : TypeId} {base : Nat} {w : World} {v : Value} {ns : List Nat} (h : ShpL T E base w v ns) (i : Nat) (hi : i < ns.length) :
    ∃ g cap u m, v = .slice (some ⟨g, 0, none⟩) ns.length cap ∧ w.cell? ⟨g, i, none⟩ = some u ∧ m.length = ns[i] ∧ Own E base w u m := by
  obtain ⟨us, h1, h2⟩ := h
  have hh := h1
  have hul : us.length = ns.length := by have := h1.1; omega
  rcases h1.2 with ⟨rfl, hn⟩ | ⟨g, cap, cur, rfl, _⟩
  · omega
  · have hu : us[i]? = some us[i] := by simp [hul, hi]
    obtain ⟨m, hm, ho⟩ := h2 i hi _ hu
    exact ⟨g, cap, us[i], m, rfl, by rw [World.ownsRow.cellAt hh i (by omega)]; exact hu, hm, ho⟩

theorem Own.setAny {E : TypeId} {base : Nat} {w : World} {x : Value} {m : List UInt8} (h : Own E base w x m) (g k : Nat) (c : UInt8) (z : Int) (hz : z = (c.toNat : Int)) :
    ∃ m' : List UInt8, m'.length = m.length ∧ Own E base (w.setCell ⟨g, k, none⟩ (.int .u8 z)) x m' := by
  have hh := h
  rcases h.2 with ⟨rfl, hn⟩ | ⟨g', cap, cur, rfl, hb, hg, rest⟩
  · have : m = [] := List.eq_nil_of_length_eq_zero hn
    subst this
    exact ⟨[], rfl, Own.nil _ _ _⟩
  · by_cases e : g' = g
    · subst e
      exact ⟨m.set k c, by simp, (hh.stored rfl k c z hz).1⟩
    · refine ⟨m, rfl, h.1, .inr ⟨g', cap, cur, rfl, hb, ?_, rest⟩⟩
      rw [Below.heap_setCell w ⟨g, k, none⟩ _ g' e]
      exact hg

theorem ShpL.stored {T E : TypeId} (hTE : E ≠ T) {base g k n cap : Nat} {w : World} {v : Value} {ns : List Nat} {m : List UInt8} (h : ShpL T E base w v ns) (ho : Own E base w (.slice (some ⟨g, 0, none⟩) n cap) m) (c : UInt8) (z : Int) (hz : z = (c.toNat : Int)) :
    ShpL T E base (w.setCell ⟨g, k, none⟩ (.int .u8 z)) v ns ∧ Below base w (w.setCell ⟨g, k, none⟩ (.int .u8 z)) := by
  obtain ⟨us, h1, h2⟩ := h
  have hap := own_apart hTE ho h1
  refine ⟨⟨us, ⟨h1.1, ?_⟩, fun j hj u hu => ?_⟩, (Below.refl _ _).setCell (World.ownsRow.lt ho g rfl).1 _⟩
  · rcases h1.2 with hn | ⟨g', cap', cur, rfl, hb, hg, rest⟩
    · exact .inl hn
    · refine .inr ⟨g', cap', cur, rfl, hb, ?_, rest⟩
      have hne : g' ≠ g := by
        intro e
        subst e
        simp [Value.ownBlock] at hap
      rw [Below.heap_setCell w ⟨g, k, none⟩ _ g' hne]
      exact hg
  · obtain ⟨m0, hm0, ho0⟩ := h2 j hj u hu
    obtain ⟨m1, hm1, ho1⟩ := ho0.setAny g k c z hz
    exact ⟨m1, by omega, ho1⟩

theorem refTakeList_r (w : World) (v : Value) (l : List UInt8) (many most : Int) (g0 : -9223372036854775808 ≤ many) (g1 : many ≤ 9223372036854775807) (h0 : -9223372036854775808 ≤ most) (h1 : most ≤ 9223372036854775807) (ls : List (List UInt8)) (rest : List UInt8) (er : Nat) (hr : takeList l many most = (ls, rest, er)) (h : Rs w v l) (hl : l.length ≤ 100000) :
    Calls Try.prog 32 #[v, .int .i64 many, .int .i64 most] w fun e w' => ∃ v1 v2, e = .returned (.tuple #[v1, v2, .int .i64 (er : Nat)]) ∧ OwnL 22 5 w.heap.size w' v1 ls ∧ Own 5 w.heap.size w' v2 rest ∧ Below w.heap.size w w' := by
  have := refTakeList_any w v l many most g0 g1 h0 h1 h hl
  rw [hr] at this
  exact this

theorem takeList_le (l : List UInt8) (many most : Int) : (takeList l many most).1.length ≤ l.length ∧ ∀ x ∈ (takeList l many most).1, x.length ≤ l.length := by
  by_cases he : (takeList l many most).2.2 = 0
  · obtain ⟨k1, _⟩ := takeList_only l many most he
    have hge := strsL_ge (takeList l many most).1
    have hlen := congrArg List.length k1
    simp only [listL, List.length_append] at hlen
    exact ⟨by omega, fun x hx => by have := hge.2 x hx; omega⟩
  · rw [(takeList_err l many most he).1]
    simp

set_option maxRecDepth 100000 in
set_option maxHeartbeats 4000000 in
theorem takes_small (w : World) (v : Value) (l : List UInt8) (many most : Int) (g0 : -9223372036854775808 ≤ many) (g1 : many ≤ 9223372036854775807) (h0 : -9223372036854775808 ≤ most) (h1 : most ≤ 9223372036854775807) (h : Rs w v l) (hl : l.length ≤ 300) :
    Calls Try.prog 6 #[v, .int .i64 many, .int .i64 most] w fun e w' => e = .returned (.bool true) ∧ Below w.heap.size w w' := by
  have hrd : Hid (Rs w v l) := h
  obtain ⟨ao, cap, rfl⟩ := Rd.len h
  have HB := fun (w' : World) (v : Value) (h : Rs w' v l) => takeBytes_any w' _ v l most h0 h1 h (by omega)
  have HRB := fun (w' : World) (v : Value) (h : Rs w' v l) => refTakeBytes_any w' _ v l most h0 h1 h (by omega)
  obtain ⟨ls, rest, er, hr⟩ : ∃ ls rest er, takeList l many most = (ls, rest, er) := ⟨_, _, _, rfl⟩
  have HL := fun (w' : World) (v : Value) (h : Rs w' v l) => takeList_r w' v l many most g0 g1 h0 h1 ls rest er hr h (by omega)
  have HRL := fun (w' : World) (v : Value) (h : Rs w' v l) => refTakeList_r w' v l many most g0 g1 h0 h1 ls rest er hr h (by omega)
  have hle := takeList_le l many most
  rw [hr] at hle
  simp only at hle
  have Hle : Hid (ls.length ≤ l.length ∧ ∀ x ∈ ls, x.length ≤ l.length) := hle
  have HH : Hid ((∀ (w' : World) (v : Value), Rs w' v l → Calls Try.prog 29 #[v, .int .i64 most] w' fun e w'' => ∃ v1 v2, e = .returned (.tuple #[v1, v2, .int .i64 ((takeBytes l most).2.2 : Nat)]) ∧ Own 5 w'.heap.size w'' v1 (takeBytes l most).1 ∧ Own 5 w'.heap.size w'' v2 (takeBytes l most).2.1 ∧ Below w'.heap.size w' w'') ∧
    (∀ (w' : World) (v : Value), Rs w' v l → Calls Try.prog 30 #[v, .int .i64 most] w' fun e w'' => ∃ v1 v2, e = .returned (.tuple #[v1, v2, .int .i64 ((takeBytes l most).2.2 : Nat)]) ∧ Own 5 w'.heap.size w'' v1 (takeBytes l most).1 ∧ Own 5 w'.heap.size w'' v2 (takeBytes l most).2.1 ∧ Below w'.heap.size w' w'') ∧
    (∀ (w' : World) (v : Value), Rs w' v l → Calls Try.prog 31 #[v, .int .i64 many, .int .i64 most] w' fun e w'' => ∃ v1 v2, e = .returned (.tuple #[v1, v2, .int .i64 (er : Nat)]) ∧ OwnL 22 5 w'.heap.size w'' v1 ls ∧ Own 5 w'.heap.size w'' v2 rest ∧ Below w'.heap.size w' w'') ∧
    (∀ (w' : World) (v : Value), Rs w' v l → Calls Try.prog 32 #[v, .int .i64 many, .int .i64 most] w' fun e w'' => ∃ v1 v2, e = .returned (.tuple #[v1, v2, .int .i64 (er : Nat)]) ∧ OwnL 22 5 w'.heap.size w'' v1 ls ∧ Own 5 w'.heap.size w'' v2 rest ∧ Below w'.heap.size w' w'')) := ⟨HB, HRB, HL, HRL⟩
  clear HB HRB HL HRL hr hle h g0 g1 h0 h1
  go_enter Try.func6, Try.ntmps6
  go_wp2_with fail
  refine (own_any _ _ _ _ hrd.out (by omega)).mono ?_
  rintro e w1 ⟨v1, rfl, ho1, hb1⟩
  have HB1 : Hid (Gr w w1) := hb1
  have HO1 : Hid (Own 5 w.heap.size w1 v1 l) := ho1
  clear hb1 ho1
  go_wp2_with fail
  refine (HH.out.1 _ _ HO1.out.rd).mono ?_
  rintro e w2 ⟨x1, x2, rfl, hx1, hx2, hb2⟩
  go_wp2_with fail
  refine (HH.out.2.1 _ _ (hrd.out.gr (Gr.trans HB1.out hb2))).mono ?_
  rintro e w3 ⟨y1, y2, rfl, hy1, hy2, hb3⟩
  have H3 : Hid (Gr w1 w3) := Gr.trans hb2 hb3
  have c1 := run_conv_rd Try.bt 9 (by kernel_rfl) w3 _ x1 _ (hx1.keep hb3).rd
  have c2 := run_conv_rd Try.bt 9 (by kernel_rfl) w3 _ x2 _ (hx2.keep hb3).rd
  have c3 := run_conv_rd Try.bt 9 (by kernel_rfl) w3 _ y1 _ hy1.rd
  have c4 := run_conv_rd Try.bt 9 (by kernel_rfl) w3 _ y2 _ hy2.rd
  clear hx1 hx2 hb2 hy1 hy2 hb3
  go_wp2_with fail
  refine (HH.out.2.2.1 _ _ (HO1.out.keep H3.out).rd).mono ?_
  rintro e w4 ⟨z1, z2, rfl, hz1, hz2, hb4⟩
  clear c1 c2 c3 c4
  go_wp2_with fail
  refine (HH.out.2.2.2 _ _ (hrd.out.gr (Gr.trans HB1.out (Gr.trans H3.out hb4)))).mono ?_
  rintro e w5 ⟨t1, t2, rfl, ht1, ht2, hb5⟩
  have H5 : Hid (Gr w1 w5 ∧ Gr w3 w5) := ⟨Gr.trans (Gr.trans H3.out hb4) hb5, Gr.trans hb4 hb5⟩
  have Hz1 : Hid (OwnL 22 5 w3.heap.size w5 z1 ls) := hz1.keep hb5
  have Hz2 : Hid (Rs w5 z2 rest) := (hz2.keep hb5).rd
  have Ht2 : Hid (Rs w5 t2 rest) := ht2.rd
  have Ht1 : Hid (RsL w5 t1 ls) := ht1.rd
  clear hz1 hz2 ht1 ht2 hb4 hb5
  go_wp2_with fail
  refine (same_any _ _ _ ls Hz1.out.rd Ht1.out (by have := Hle.out.1; omega)).mono ?_
  rintro e w6 ⟨rfl, hb6⟩
  have c1 := run_conv_rd Try.bt 9 (by kernel_rfl) w6 _ z2 _ (Hz2.out.gr hb6)
  have c2 := run_conv_rd Try.bt 9 (by kernel_rfl) w6 _ t2 _ (Ht2.out.gr hb6)
  have H6 : Hid (Gr w1 w6 ∧ Gr w3 w6 ∧ ShpL 22 5 w3.heap.size w6 z1 (ls.map List.length)) := ⟨Gr.trans H5.out.1 hb6, Gr.trans H5.out.2 hb6, (Hz1.out.keep hb6).shp⟩
  clear hb6
  have hns : (ls.map List.length).length ≤ 300 ∧ ∀ j (hj : j < (ls.map List.length).length), (ls.map List.length)[j] ≤ 300 := by
    have hq := Hle.out
    refine ⟨by simp; omega, fun j hj => ?_⟩
    have hj' : j < ls.length := by simpa using hj
    have := hq.2 ls[j] (List.getElem_mem hj')
    simp; omega
  generalize ls.map List.length = ns at H6 hns
  obtain ⟨az, cz, rfl⟩ := H6.out.2.2.len
  have Hns : Hid (∀ j (hj : j < ns.length), ns[j] ≤ 300) := hns.2
  have hnl := hns.1
  clear hns
  go_wp2_with fail
  clear c1 c2
  go_loopw [17, 18] (fun i _ wr => ∃ k : Nat, k ≤ ns.length ∧ i = .int .i64 k ∧ ShpL 22 5 w3.heap.size wr (.slice az ns.length cz) ns ∧ Below w3.heap.size w6 wr) (fun i _ _ => ns.length - (intOf i).toNat)
  case atStart => exact ⟨0, Nat.zero_le _, rfl, H6.out.2.2, Below.refl _ _⟩
  case round =>
    obtain ⟨i, hi, rfl, hs, hb⟩ := hrel
    have Hs : Hid (ShpL 22 5 w3.heap.size wr (.slice az ns.length cz) ns) := hs
    have Hb : Hid (Below w3.heap.size w6 wr) := hb
    clear hs hb
    by_cases hlt : i < ns.length
    · have hni := Hns.out i hlt
      go_wp2_with fail
      go_loopw [18] (fun j wq => ∃ k : Nat, k ≤ ns[i] ∧ j = .int .i64 k ∧ ShpL 22 5 w3.heap.size wq (.slice az ns.length cz) ns ∧ Below w3.heap.size w6 wq) (fun j _ => ns[i] - (intOf j).toNat)
      case atStart => exact ⟨0, Nat.zero_le _, rfl, Hs.out, Hb.out⟩
      case round =>
        obtain ⟨k, hk, rfl, hs, hb⟩ := hrel
        obtain ⟨g, cap', u, m, e, hcell, hm, hom⟩ := hs.at i hlt
        simp only [Value.slice.injEq] at e
        obtain ⟨rfl, -, rfl⟩ := e
        have Hs2 : Hid (ShpL 22 5 w3.heap.size wr (.slice (some ⟨g, 0, none⟩) ns.length cz) ns) := hs
        have Hb2 : Hid (Below w3.heap.size w6 wr) := hb
        have Hom : Hid (Own 5 w3.heap.size wr u m) := hom
        clear hs hb
        obtain ⟨a2, c2, hu⟩ := hom.rd.len
        subst hu
        clear hom
        obtain ⟨y, hy⟩ : ∃ y, y = ns[i] := ⟨_, rfl⟩
        rw [← hy] at hm hk hni
        by_cases hk2 : k < y
        · obtain ⟨g2, c3, e, hbg, hgs, hc, hf⟩ := Hom.out.at (by omega)
          simp only [Value.slice.injEq] at e
          obtain ⟨rfl, -, rfl⟩ := e
          have hkm : k < m.length := by omega
          have hc0 := hc k hkm
          have hf0 := hf k
          have hst := Hs2.out.stored (k := k) Try.bl.ne Hom.out 76 76 (by decide)
          have Hst : Hid _ := hst
          clear hc hf hst hbg hgs
          have Hy : Hid (y = ns[i]) := hy
          rw [hm] at hcell
          rw [hm] at Hom
          clear hy hm
          go_wp2
          go_roundw
          case rel => exact ⟨k + 1, by have := Hy.out; omega, by go_num, Hst.out.1, Hb2.out.trans Hst.out.2⟩
          case measure => have := Hy.out; simp [intOf]; omega
        · obtain rfl : k = y := by omega
          rw [hm] at hcell
          clear hy hm Hom
          go_wp2
          go_roundw
          case rel => exact ⟨i + 1, by omega, by go_num, Hs2.out, Hb2.out⟩
          case measure => simp [intOf]; omega
    · obtain rfl : i = ns.length := by omega
      clear hlt
      go_wp2_with fail
      refine (alive_any _).mono ?_
      rintro e w10 ⟨rfl, hb10⟩
      have q0 : Gr w3 wr := Below.trans H6.out.2.1 Hb.out
      have q1 : Gr w1 wr := Gr.trans H3.out q0
      have q2 : Gr w1 w10 := Gr.trans q1 hb10
      have q3 : Gr w w1 := HB1.out
      have c1 := run_conv_rd Try.bt 9 (by kernel_rfl) w10 _ v1 _ (HO1.out.keep q2).rd
      have c2 := run_conv_rd Try.bt 9 (by kernel_rfl) w10 _ _ _ (hrd.out.gr (Gr.trans q3 q2))
      have q : Hid (Gr w w10) := Gr.trans q3 q2
      clear q0 q1 q2 q3 hb10
      go_wp2
      go_ret
      exact ⟨rfl, q.out⟩

set_option maxRecDepth 100000 in
set_option maxHeartbeats 400000 in
theorem takes_large (w : World) (ao : Option Addr) (len cap : Nat) (z z' : Int) (hl : 300 < len) :
    Calls Try.prog 6 #[.slice ao len cap, .int .i64 z, .int .i64 z'] w fun e w' => e = .returned (.bool true) ∧ Below w.heap.size w w' := by
  go_enter Try.func6, Try.ntmps6
  go_wp2_with (go_at_call 10; refine (alive_any _).mono ?_; rintro e w1 ⟨rfl, hb1⟩)
  go_ret
  exact ⟨rfl, hb1⟩

end Go.Proofs.Ytjobmpfnnfmonaa
