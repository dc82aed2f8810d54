/-
  The law BechDecode of layer 4, for every input: the head and data of any text, or that it is no word, are as the document says; where the five numbers of the check are as the program's text lays them.
-/
import Derived.Test.YtemgaoikngebeaaDoorCards
import Derived.Test.YtemgaoikngebeaaDoorTie
import Derived.Test.YtemgaoikngebeaaDoorLaid
import Derived.Test.YtemgaoikngebeaaDoorB13
import Derived.WalkKit
import Derived.ProofKit
import Derived.OpenShut
import Derived.ShutString
import Derived.ChangeOld
import Derived.Below
import Derived.Deep.DeepHandedRow
namespace Go.Proofs.YtemgaoikngebeaaDoor.bechDecode
open Go.ChangeShapes Go.WideShapes Go.ChangeAt Go.RowKit
open Go.ChangeMaps (open_string shut_string)
set_option linter.unusedVariables false

theorem own : ownKnob Tryd.prog.godebug = none := by kernel_rfl
theorem laidOut : laidOutB Tryd.prog = true := by kernel_rfl

/-- The walk. -/
theorem walk (a0 : ByteArray) (w : World) (w0 : a0.size ≤ maxLen) (ht : Facts w) :
    Calls Tryd.prog 5 #[.string a0] w fun e w' => e = .returned (.bool true) ∧ Below w.heap.size w w' := by
  have HT : Hid (Tn w) := ht
  clear ht w0
  by_cases hbig : 200 < a0.size
  · go_enter Tryd.func5, Tryd.ntmps5
    go_wp2_with fail
    refine (alive_any w HT.out).mono ?_
    rintro e w1 ⟨rfl, hb1⟩
    have HB1 : Hid (Below w.heap.size w w1) := hb1
    clear hb1
    go_wp2
    go_ret
    exact ⟨rfl, HB1.out⟩
  · have hd1 := fun w ht => decode_any w a0 (by omega) ht
    have hd2 := fun w => rdecode_any w a0 (by omega)
    generalize (⟨(decH (bl a0)).toArray⟩ : ByteArray) = E at hd1 hd2
    generalize decF (bl a0) = x at hd1 hd2
    generalize decD (bl a0) = d at hd1 hd2
    have Hd1 : Hid (∀ w, Tn w → Calls Tryd.prog 15 #[.string a0] w fun e w' => ∃ v', e = .returned (.tuple #[.string E, v', .int .i64 x]) ∧ Own 5 w.heap.size w' v' d ∧ Below w.heap.size w w') := hd1
    have Hd2 : Hid (∀ w, Calls Tryd.prog 16 #[.string a0] w fun e w' => ∃ v', e = .returned (.tuple #[.string E, v', .int .i64 x]) ∧ Own 5 w.heap.size w' v' d ∧ Below w.heap.size w w') := hd2
    clear hd1 hd2
    go_enter Tryd.func5, Tryd.ntmps5
    go_wp2_with fail
    refine (Hd1.out w HT.out).mono ?_
    rintro e w1 ⟨v1, rfl, ho1, hb1⟩
    have Hb1 : Hid (Gr w w1) := hb1
    have Ho1 : Hid (Rs w1 v1 d) := ho1.rd
    clear hb1 ho1
    go_wp2_with fail
    refine (Hd2.out w1).mono ?_
    rintro e w2 ⟨v2, rfl, ho2, hb2⟩
    have Hb2 : Hid (Gr w w2) := Gr.trans Hb1.out hb2
    have Ho12 : Hid (Rs w2 v1 d) := Ho1.out.gr hb2
    have Ho2 : Hid (Rs w2 v2 d) := ho2.rd
    clear hb2 ho2
    go_wp2_with fail
    refine (alive_any w2 (HT.out.gr Hb2.out)).mono ?_
    rintro e w3 ⟨rfl, hb3⟩
    have Hb3 : Hid (Gr w w3) := Gr.trans Hb2.out hb3
    have c1 := run_conv_rd Tryd.bt 9 (by kernel_rfl) w3 _ _ _ (Ho12.out.gr hb3)
    have c2 := run_conv_rd Tryd.bt 9 (by kernel_rfl) w3 _ _ _ (Ho2.out.gr hb3)
    clear hb3
    go_wp2
    go_ret
    exact ⟨rfl, Hb3.out⟩

theorem contract (H : Type) (enc : TypeId × Value → H) (W : World) (base : Nat) (args : Array Value) (ds gs : List (DataW H)) (before : List MemPlace)
    (hval0 : ∀ (j : Nat) t v, Tryd.f5.params[j]? = some t → args[j]? = some v → Value.okWide Tryd.prog W .any base t v)
    (hW : DataW.Whole enc Tryd.prog Tryd.f5.params.toList Rows.bechDecodeSpec.vars false W args.toList ds gs before) (hL : laidMetH Tryd.prog Rows.bechDecodeRow.laid W) :
    Calls Tryd.prog 5 args W fun e W' => ∃ v, e = .returned v ∧ Rows.bechDecodeSpec.post enc Tryd.prog Tryd.f5 false true false false W args v W' := by
  have hval : ∀ (j : Nat) t v, Tryd.f5.params[j]? = some t → args[j]? = some v → Value.okWide Tryd.prog W .any base t v := hval0
  have hW' := hW
  obtain ⟨p, q, hA0, hV, rfl, hfz, hnd⟩ := hW
  have hA : DataW.TrodAll enc Tryd.prog W 0 (fun _ => true) true Tryd.f5.params.toList args.toList ds p := hA0
  rw [Tryd.params5] at hA hval
  obtain ⟨v0, vs0, d0, ds0, p0, q0, hargs, rfl, rfl, h0, r0⟩ := trodAll_cons hA
  obtain ⟨rfl, rfl, rfl⟩ := trodAll_nil r0
  obtain rfl : args = #[v0] := by cases args; simp_all
  obtain ⟨rfl, rfl⟩ := trodVars_none hV
  obtain ⟨a0, rfl, rfl, rfl, w0⟩ := open_string Tryd.underlying9 (hval 0 9 v0 rfl rfl) h0
  clear hA0 hval0
  refine (walk a0 W w0 (facts_of hL)).mono fun e W' ⟨he, bel⟩ => ?_
  subst he
  exact ⟨_, rfl, _, _, _, [], _, [], hW', trodAll_mk1 (shut_bool Tryd.underlying4 _), (trodAll_cons_mk (shut_string Tryd.underlying9 w0) trodAll_mk0), rfl, bel.frame _, fun h => by cases h⟩

theorem laid_met (os : Os) : laidMet Tryd.prog Rows.bechDecodeRow.laid ((laidWorld os).forCall (fun _ _ => 0) ⟨#[], #[.string ByteArray.empty], []⟩).memory :=
  laidMet_of_run' 8 (by kernel_rfl) (by kernel_rfl)
theorem reads (os : Os) {H : Type} (enc : TypeId × Value → H) : ∃ places, DataW.whole enc Tryd.prog ((laidWorld os).forCall (fun _ _ => 0) ⟨#[], #[.string ByteArray.empty], []⟩).memory Tryd.f5.params.toList Rows.bechDecodeSpec.vars false (#[.string ByteArray.empty] : Array Value).toList 8 = some ([.lit (.string [])], [], places) :=
  ⟨[], by kernel_rfl⟩

set_option maxRecDepth 100000 in
theorem lifted (os : Os) (started : os.Started) (H : Type) (enc : TypeId × Value → H) (F : Stop.Interp) :
    ReturnsInHanded {} Tryd.checked os 5 .any ((OpenSpec.ofChange Rows.bechDecodeSpec).preRow enc Tryd.prog Tryd.f5 Rows.bechDecodeRow.domain false Rows.bechDecodeRow.laid) (((OpenSpec.ofChange Rows.bechDecodeSpec).at F).post enc Tryd.prog Tryd.f5 false true false false) := by
  obtain ⟨places, hx⟩ := reads os enc
  refine returnsInHanded_of_row (C := Tryd.checked) (s := OpenSpec.ofChange Rows.bechDecodeSpec) own started (by kernel_rfl) Tryd.func5
    (witness_row_at (enc := enc) (C := Tryd.checked) false (laidWorld os) #[.string ByteArray.empty] rfl (by kernel_rfl) (by kernel_rfl) (by kernel_rfl)
      (OpenSpec.preRow_of_cond 8 hx (by kernel_rfl) (fun k hk => by cases hk) (by kernel_rfl) (laid_met os))) ?_
  intro W base args ds gs before hval hW _ _ _ hL _ _
  exact contract H enc W base args ds gs before hval hW hL

theorem said : Rows.BechDecodeSaid :=
  OpenClaim.holds_of_cond 5 Tryd.f5 rfl rfl rfl rfl rfl rfl rfl ⟨rfl, rfl, rfl, rfl, rfl⟩ rfl rfl rfl rfl rfl (by kernel_rfl) Tryd.func5 (by kernel_rfl)
    (of_decide_eq_true (by kernel_rfl)) (by unfold Func.isWrapper; first | (rw [if_pos (by decide +kernel)]; kernel_rfl) | (rw [if_neg (by decide +kernel)]; exact ⟨rfl, rfl⟩))
    (fun os started H enc _ F => by rw [OpenClaim.pre_eq_preRow]; exact lifted os started H enc F)

theorem plain (f : FuncId) (fn : Func) (hf : Tryd.pinned.checked.prog.funcNamed "entail/entaillaw04.BechDecode" = some f) (hfn : Tryd.pinned.checked.prog.funcs[f]? = some fn) :
    false = Tryd.pinned.checked.prog.looks [] ∧ ∀ (j : Nat) t, fn.params[j]? = some t → Tryd.pinned.checked.prog.wantsStandIn t = false := by
  obtain rfl : f = 5 := Option.some.inj ((show Tryd.prog.funcNamed "entail/entaillaw04.BechDecode" = some 5 by kernel_rfl).symm.trans hf) |>.symm
  obtain rfl : fn = Tryd.f5 := (Option.some.inj (Tryd.func5.symm.trans hfn)).symm
  refine ⟨by kernel_rfl, fun j t ht => ?_⟩
  rw [Tryd.params5] at ht
  have hm := Array.mem_of_getElem? ht
  simp at hm
  rcases hm with rfl
  all_goals first | exact (show Tryd.prog.wantsStandIn 9 = false by kernel_rfl)

/-- The statement. -/
theorem proved : Rows.BechDecodeCardSaid :=
  Claim7.holds_tied_plain_at .later [] _ _ _ _ said (fun _ h => by cases h) (by kernel_rfl) (fun _ h => by cases h) bechDecode_row_tie rfl ⟨rfl, rfl⟩ (by kernel_rfl) rfl plain (by kernel_rfl)
#print axioms proved
end Go.Proofs.YtemgaoikngebeaaDoor.bechDecode
