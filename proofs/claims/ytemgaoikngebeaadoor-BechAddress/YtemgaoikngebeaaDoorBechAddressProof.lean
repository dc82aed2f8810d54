/-
  The law BechAddress of layer 4, for every input: any script's address, and the script of any text, are as the document says; where the five numbers of the check are as the program's text lays them.
-/
import Derived.Test.YtemgaoikngebeaaDoorCards
import Derived.Test.YtemgaoikngebeaaDoorTie
import Derived.Test.YtemgaoikngebeaaDoorLaid
import Derived.Test.YtemgaoikngebeaaDoorB17
import Derived.WalkKit
import Derived.ProofKit
import Derived.OpenShut
import Derived.ShutString
import Derived.ChangeOld
import Derived.Below
import Derived.Deep.DeepHandedRow
namespace Go.Proofs.YtemgaoikngebeaaDoor.bechAddress
open Go.ChangeShapes Go.WideShapes Go.ChangeAt Go.RowKit
open Go.ChangeMaps (open_string shut_string)
set_option linter.unusedVariables false

theorem own : ownKnob Tryd.prog.godebug = none := by kernel_rfl
theorem laidOut : laidOutB Tryd.prog = true := by kernel_rfl

/-- The walk. -/
theorem walk (a0 : Option Addr) (len0 cap0 : Nat) (l0 : List UInt8) (a1 : ByteArray) (w : World) (e0 : l0.length = len0) (w0 : Rs w (.slice a0 len0 cap0) l0) (w1 : a1.size ≤ maxLen) (ht : Facts w) :
    Calls Tryd.prog 7 #[.slice a0 len0 cap0, .string a1] w fun e w' => e = .returned (.bool true) ∧ Below w.heap.size w w' := by
  have HT : Hid (Tn w) := ht
  subst e0
  have HR : Hid (Rs w (.slice a0 l0.length cap0) l0) := w0
  clear ht w0 w1
  by_cases hbig : 200 < l0.length
  · go_enter Tryd.func7, Tryd.ntmps7
    go_wp2_with fail
    refine (alive_any w HT.out).mono ?_
    rintro e w1 ⟨rfl, hb1⟩
    have HB1 : Hid (Below w.heap.size w w1) := hb1
    clear hb1
    go_wp2
    go_ret
    exact ⟨rfl, HB1.out⟩
  · by_cases hbig2 : 200 < a1.size
    · go_enter Tryd.func7, Tryd.ntmps7
      go_wp2_with fail
      refine (alive_any w HT.out).mono ?_
      rintro e w1 ⟨rfl, hb1⟩
      have HB1 : Hid (Below w.heap.size w w1) := hb1
      clear hb1
      go_wp2
      go_ret
      exact ⟨rfl, HB1.out⟩
    · obtain ⟨E, HE⟩ : ∃ E : ByteArray, Hid (bl E = adrL l0) := ⟨⟨(adrL l0).toArray⟩, bl_mk _⟩
      obtain ⟨x, Hx⟩ : ∃ x : Int, Hid (adrE l0 = x) := ⟨adrE l0, rfl⟩
      obtain ⟨r, Hr⟩ : ∃ r : List UInt8, Hid (scrL (bl a1) = r) := ⟨scrL (bl a1), rfl⟩
      obtain ⟨y, Hy⟩ : ∃ y : Int, Hid (scrF (bl a1) = y) := ⟨scrF (bl a1), rfl⟩
      go_enter Tryd.func7, Tryd.ntmps7
      go_wp2_with fail
      refine (address_r w _ _ l0 HR.out (by omega) HT.out E x HE.out Hx.out).mono ?_
      rintro e w1 ⟨rfl, hb1⟩
      have Hb1 : Hid (Gr w w1) := hb1
      clear hb1
      go_wp2_with fail
      refine (raddress_r w1 _ _ l0 (HR.out.gr Hb1.out) (by omega) E x HE.out Hx.out).mono ?_
      rintro e w2 ⟨rfl, hb2⟩
      have Hb2 : Hid (Gr w w2) := Gr.trans Hb1.out hb2
      clear hb2
      go_wp2_with fail
      refine (script_r w2 a1 (by omega) (HT.out.gr Hb2.out) r y Hr.out Hy.out).mono ?_
      rintro e w3 ⟨v3, rfl, ho3, hb3⟩
      have Hb3 : Hid (Gr w w3) := Gr.trans Hb2.out hb3
      have Ho3 : Hid (Rs w3 v3 r) := ho3.rd
      clear hb3 ho3
      go_wp2_with fail
      refine (rscript_r w3 a1 (by omega) r y Hr.out Hy.out).mono ?_
      rintro e w4 ⟨v4, rfl, ho4, hb4⟩
      have Hb4 : Hid (Gr w w4) := Gr.trans Hb3.out hb4
      have Ho34 : Hid (Rs w4 v3 r) := Ho3.out.gr hb4
      have Ho4 : Hid (Rs w4 v4 r) := ho4.rd
      clear hb4 ho4
      go_wp2_with fail
      refine (alive_any w4 (HT.out.gr Hb4.out)).mono ?_
      rintro e w5 ⟨rfl, hb5⟩
      have Hb5 : Hid (Gr w w5) := Gr.trans Hb4.out hb5
      have c1 := run_conv_rd Tryd.bt 9 (by kernel_rfl) w5 _ _ _ (Ho34.out.gr hb5)
      have c2 := run_conv_rd Tryd.bt 9 (by kernel_rfl) w5 _ _ _ (Ho4.out.gr hb5)
      clear hb5
      go_wp2
      go_ret
      exact ⟨rfl, Hb5.out⟩

theorem contract (H : Type) (enc : TypeId × Value → H) (W : World) (base : Nat) (args : Array Value) (ds gs : List (DataW H)) (before : List MemPlace)
    (hval0 : ∀ (j : Nat) t v, Tryd.f7.params[j]? = some t → args[j]? = some v → Value.okWide Tryd.prog W .any base t v)
    (hW : DataW.Whole enc Tryd.prog Tryd.f7.params.toList Rows.bechAddressSpec.vars false W args.toList ds gs before) (hL : laidMetH Tryd.prog Rows.bechAddressRow.laid W) :
    Calls Tryd.prog 7 args W fun e W' => ∃ v, e = .returned v ∧ Rows.bechAddressSpec.post enc Tryd.prog Tryd.f7 false true false false W args v W' := by
  have hval : ∀ (j : Nat) t v, Tryd.f7.params[j]? = some t → args[j]? = some v → Value.okWide Tryd.prog W .any base t v := hval0
  have hW' := hW
  obtain ⟨p, q, hA0, hV, rfl, hfz, hnd⟩ := hW
  have hA : DataW.TrodAll enc Tryd.prog W 0 (fun _ => true) true Tryd.f7.params.toList args.toList ds p := hA0
  rw [Tryd.params7] at hA hval
  obtain ⟨v0, vs0, d0, ds0, p0, q0, hargs, rfl, rfl, h0, r0⟩ := trodAll_cons hA
  obtain ⟨v1, vs1, d1, ds1, p1, q1, rfl, rfl, rfl, h1, r1⟩ := trodAll_cons r0
  obtain ⟨rfl, rfl, rfl⟩ := trodAll_nil r1
  obtain rfl : args = #[v0, v1] := by cases args; simp_all
  obtain ⟨rfl, rfl⟩ := trodVars_none hV
  obtain ⟨a0, len0, cap0, rfl⟩ := okWide_slice Tryd.underlying22 (hval 0 22 v0 rfl rfl)
  have k0 := h0
  have lt0 : ∀ x ∈ p0, x.block < W.heap.size := by obtain ⟨m, hm⟩ := k0; exact DataW.trod_lt m _ _ _ hm
  obtain ⟨l0, e0, w0⟩ : ∃ l, l.length = len0 ∧ Rs W (.slice a0 len0 cap0) l := by
    obtain ⟨fuel, hf⟩ := h0
    rcases open_ints Tryd.underlying22 Tryd.underlying5 (by kernel_rfl) hf with ⟨hcs, _⟩ | ⟨x, l, c, zs, hcs, _, hl, hm, hz, _, hcell, hwz⟩
    · simp [Value.cells] at hcs
      obtain ⟨rfl, rfl, rfl⟩ := hcs
      exact rd_of_row (.inl ⟨rfl, rfl, rfl, rfl⟩)
    · simp [Value.cells] at hcs
      obtain ⟨rfl, rfl, rfl⟩ := hcs
      exact rd_of_row (.inr ⟨_, rfl, hl, hm, by simpa using hz, hcell, hwz⟩)
  obtain ⟨a1, rfl, rfl, rfl, w1⟩ := open_string Tryd.underlying9 (hval 1 9 v1 rfl rfl) h1
  clear hA0 hval0
  refine (walk a0 len0 cap0 l0 a1 W e0 w0 w1 (facts_of hL)).mono fun e W' ⟨he, bel⟩ => ?_
  subst he
  exact ⟨_, rfl, _, _, _, [], _, [], hW', trodAll_mk1 (shut_bool Tryd.underlying4 _), (trodAll_cons_mk (Below.trod laidOut (by kernel_rfl) (of_decide_eq_true (by kernel_rfl)) k0 bel lt0) (trodAll_cons_mk (shut_string Tryd.underlying9 w1) trodAll_mk0)), rfl, bel.frame _, fun h => by cases h⟩

theorem laid_met (os : Os) : laidMet Tryd.prog Rows.bechAddressRow.laid ((laidWorld os).forCall (fun _ _ => 0) ⟨#[], #[.slice none 0 0, .string ByteArray.empty], []⟩).memory :=
  laidMet_of_run' 8 (by kernel_rfl) (by kernel_rfl)
theorem reads (os : Os) {H : Type} (enc : TypeId × Value → H) : ∃ places, DataW.whole enc Tryd.prog ((laidWorld os).forCall (fun _ _ => 0) ⟨#[], #[.slice none 0 0, .string ByteArray.empty], []⟩).memory Tryd.f7.params.toList Rows.bechAddressSpec.vars false (#[.slice none 0 0, .string ByteArray.empty] : Array Value).toList 8 = some ([.nil, .lit (.string [])], [], places) :=
  ⟨[], by kernel_rfl⟩

set_option maxRecDepth 100000 in
theorem lifted (os : Os) (started : os.Started) (H : Type) (enc : TypeId × Value → H) (F : Stop.Interp) :
    ReturnsInHanded {} Tryd.checked os 7 .any ((OpenSpec.ofChange Rows.bechAddressSpec).preRow enc Tryd.prog Tryd.f7 Rows.bechAddressRow.domain false Rows.bechAddressRow.laid) (((OpenSpec.ofChange Rows.bechAddressSpec).at F).post enc Tryd.prog Tryd.f7 false true false false) := by
  obtain ⟨places, hx⟩ := reads os enc
  refine returnsInHanded_of_row (C := Tryd.checked) (s := OpenSpec.ofChange Rows.bechAddressSpec) own started (by kernel_rfl) Tryd.func7
    (witness_row_at (enc := enc) (C := Tryd.checked) false (laidWorld os) #[.slice none 0 0, .string ByteArray.empty] rfl (by kernel_rfl) (by kernel_rfl) (by kernel_rfl)
      (OpenSpec.preRow_of_cond 8 hx (by kernel_rfl) (fun k hk => by cases hk) (by kernel_rfl) (laid_met os))) ?_
  intro W base args ds gs before hval hW _ _ _ hL _ _
  exact contract H enc W base args ds gs before hval hW hL

theorem said : Rows.BechAddressSaid :=
  OpenClaim.holds_of_cond 7 Tryd.f7 rfl rfl rfl rfl rfl rfl rfl ⟨rfl, rfl, rfl, rfl, rfl⟩ rfl rfl rfl rfl rfl (by kernel_rfl) Tryd.func7 (by kernel_rfl)
    (of_decide_eq_true (by kernel_rfl)) (by unfold Func.isWrapper; first | (rw [if_pos (by decide +kernel)]; kernel_rfl) | (rw [if_neg (by decide +kernel)]; exact ⟨rfl, rfl⟩))
    (fun os started H enc _ F => by rw [OpenClaim.pre_eq_preRow]; exact lifted os started H enc F)

theorem plain (f : FuncId) (fn : Func) (hf : Tryd.pinned.checked.prog.funcNamed "entail/entaillaw04.BechAddress" = some f) (hfn : Tryd.pinned.checked.prog.funcs[f]? = some fn) :
    false = Tryd.pinned.checked.prog.looks [] ∧ ∀ (j : Nat) t, fn.params[j]? = some t → Tryd.pinned.checked.prog.wantsStandIn t = false := by
  obtain rfl : f = 7 := Option.some.inj ((show Tryd.prog.funcNamed "entail/entaillaw04.BechAddress" = some 7 by kernel_rfl).symm.trans hf) |>.symm
  obtain rfl : fn = Tryd.f7 := (Option.some.inj (Tryd.func7.symm.trans hfn)).symm
  refine ⟨by kernel_rfl, fun j t ht => ?_⟩
  rw [Tryd.params7] at ht
  have hm := Array.mem_of_getElem? ht
  simp at hm
  rcases hm with rfl | rfl
  all_goals first | exact (show Tryd.prog.wantsStandIn 9 = false by kernel_rfl) | exact (show Tryd.prog.wantsStandIn 22 = false by kernel_rfl)

/-- The statement. -/
theorem proved : Rows.BechAddressCardSaid :=
  Claim7.holds_tied_plain_at .later [] _ _ _ _ said (fun _ h => by cases h) (by kernel_rfl) (fun _ h => by cases h) bechAddress_row_tie rfl ⟨rfl, rfl⟩ (by kernel_rfl) rfl plain (by kernel_rfl)
#print axioms proved
end Go.Proofs.YtemgaoikngebeaaDoor.bechAddress
