/-
  Written by qgen.py: functions reckoned.
-/
import Derived.Test.YthlbdpmnljcapaaQM
import Derived.Test.YthlbdpmnljcapaaRows
namespace Go.Proofs.Ythlbdpmnljcapaa.Q
open Go.RowKit
theorem e3 : EF Try.prog 3 (.int .i64) := EF.mk' (b := 8) (by kernel_rfl) rfl (by kernel_rfl)
theorem v3 : Try.prog.underlying 3 = some (.int .i64) := by kernel_rfl
theorem e4 : EF Try.prog 4 (.bool) := EF.mk' (b := 1) (by kernel_rfl) rfl (by kernel_rfl)
theorem v4 : Try.prog.underlying 4 = some (.bool) := by kernel_rfl
theorem e23 : EF Try.prog 23 (.int .u64) := EF.mk' (b := 8) (by kernel_rfl) rfl (by kernel_rfl)
theorem v23 : Try.prog.underlying 23 = some (.int .u64) := by kernel_rfl
theorem e25 : EF Try.prog 25 (.arr 4 (.int .u64)) := EF.mk' (b := 32) (by kernel_rfl) rfl (by kernel_rfl)
theorem v25 : Try.prog.underlying 25 = some (.array 4 23) := by kernel_rfl
theorem e56 : EF Try.prog 56 (.int .u64) := EF.mk' (b := 8) (by kernel_rfl) rfl (by kernel_rfl)
theorem v56 : Try.prog.underlying 56 = some (.int .u64) := by kernel_rfl
theorem e70 : EF Try.prog 70 (.arr 8 (.int .u64)) := EF.mk' (b := 64) (by kernel_rfl) rfl (by kernel_rfl)
theorem v70 : Try.prog.underlying 70 = some (.array 8 23) := by kernel_rfl
theorem e72 : EF Try.prog 72 (.arr 16 (.int .u64)) := EF.mk' (b := 128) (by kernel_rfl) rfl (by kernel_rfl)
theorem v72 : Try.prog.underlying 72 = some (.array 16 23) := by kernel_rfl
theorem e82 : EF Try.prog 82 (.arr 10 (.int .u64)) := EF.mk' (b := 80) (by kernel_rfl) rfl (by kernel_rfl)
theorem v82 : Try.prog.underlying 82 = some (.array 10 23) := by kernel_rfl
def tab : List (Nat × TI) := [(3, ⟨.int .i64, 0, []⟩), (4, ⟨.bool, 0, []⟩), (23, ⟨.int .u64, 0, []⟩), (25, ⟨.arr 4 (.int .u64), 23, []⟩), (56, ⟨.int .u64, 0, []⟩), (70, ⟨.arr 8 (.int .u64), 23, []⟩), (72, ⟨.arr 16 (.int .u64), 23, []⟩), (82, ⟨.arr 10 (.int .u64), 23, []⟩)]
theorem tab_ok : Each0 (TRow Try.prog) tab := ⟨⟨⟨e3, v3⟩, fun _ => ⟨(.int v3), by decide, by kernel_rfl⟩⟩,
  ⟨⟨e4, v4⟩, fun _ => ⟨(.bool v4), by decide, by kernel_rfl⟩⟩,
  ⟨⟨e23, v23⟩, fun _ => ⟨(.int v23), by decide, by kernel_rfl⟩⟩,
  ⟨⟨e25, v25, e23, by decide⟩, fun _ => ⟨(.arr v25 e23 (.int v23)), by decide, by kernel_rfl⟩⟩,
  ⟨⟨e56, v56⟩, fun _ => ⟨(.int v56), by decide, by kernel_rfl⟩⟩,
  ⟨⟨e70, v70, e23, by decide⟩, fun _ => ⟨(.arr v70 e23 (.int v23)), by decide, by kernel_rfl⟩⟩,
  ⟨⟨e72, v72, e23, by decide⟩, fun _ => ⟨(.arr v72 e23 (.int v23)), by decide, by kernel_rfl⟩⟩,
  ⟨⟨e82, v82, e23, by decide⟩, fun _ => ⟨(.arr v82 e23 (.int v23)), by decide, by kernel_rfl⟩⟩,
  trivial⟩
def env (n : Nat) (hs : List (Nat × Hd)) : Env := ⟨n, lkT tab, lkT hs, fun _ => none⟩
theorem mixed : Try.prog.follows .mixedOrders = true := by kernel_rfl
theorem okk (ht : Each0 (TRow Try.prog) tab) {n : Nat} {hs : List (Nat × Hd)} (h : Each0 (fun p => FnOk Try.prog p.1 p.2) hs) (hm : Try.prog.follows .mixedOrders = true) : Okk Try.prog (env n hs) := ⟨⟨env_ok ht _ _ _, fun _ _ hf => lkT_each h hf⟩, hm⟩
/-! entail/field.Prime -/
noncomputable def c33 : Code := ((Try.f33).body).getD .skip
noncomputable def b33 (_d : Unit) : Option ((List UInt64)) :=
  let t4_1 : List UInt64 := [(0 : UInt64), (0 : UInt64), (0 : UInt64), (0 : UInt64)]
  bnd (fFrom (4294968273 : UInt64)) fun y_2 =>
  bnd (fSub (t4_1, y_2)) fun y_3 =>
  some y_3.1
noncomputable def m33 : Unit → Option ((List UInt64)) := hide b33
theorem m33_eq (d : Unit) : m33 d = b33 d := congrFun (hide_eq _) d
noncomputable def hd33 : Hd := ⟨[], [.d (.arr 4 (.int .u64))], m33⟩
theorem ok33 : Okk Try.prog (env 10 [(28, hd28), (52, hd52)]) := okk tab_ok (n := 10) (hs := [(28, hd28), (52, hd52)]) ⟨fn28, fn52, trivial⟩ mixed
set_option maxRecDepth 100000 in
theorem r33 (d : Dat hd33.pks) : runF (env 10 [(28, hd28), (52, hd52)]) (lkU []) c33 (Try.f33).results.toList [] hd33.pks hd33.rks d = b33 d := by kernel_rfl
theorem q33 (d : Dat hd33.pks) (y : Dat hd33.rks) : (hd33.fm d = some y) = (m33 d = some y) := by kernel_rfl
theorem t33 (d : Dat hd33.pks) (y : Dat hd33.rks) (h : hd33.fm d = some y) : runF (env 10 [(28, hd28), (52, hd52)]) (lkU []) c33 (Try.f33).results.toList [] hd33.pks hd33.rks d = some y := (r33 d).trans ((m33_eq d).symm.trans ((q33 d y).mp h))
theorem gn33 : FnG Try.prog 33 hd33 :=
  fn_g (hl := lkU []) (un := []) ok33 (fun _ => rfl) Try.func33 rfl Try.ntmps33 (by kernel_rfl) (rv := (Try.f33).results.toList) (by kernel_rfl) (by decide) (uall_at trivial) t33
theorem fn33 : FnOk Try.prog 33 hd33 := .inl gn33
/-! entail/field.Reduce -/
noncomputable def c35 : Code := ((Try.f35).body).getD .skip
def h35_0 : Sh := ⟨[.d (.arr 4 (.int .u64)), .d (.arr 4 (.int .u64))], [], [(1, [.arr 4 (.int .u64)]), (2, [.arr 4 (.int .u64)])], [], []⟩
def o35_0 : Outs := ⟨⟨[.d (.int .u64), .d (.arr 4 (.int .u64)), .d (.arr 4 (.int .u64)), .d (.arr 4 (.int .u64))], [4], [(1, [.arr 4 (.int .u64)]), (2, [.arr 4 (.int .u64)]), (3, [.arr 4 (.int .u64)])], [], []⟩, 0, ⟨[], [], [], [], []⟩, ⟨[], [], [], [], []⟩⟩
def p35_0 : Plan := (.op 0 (.alt (.op 1 (.alt (.op 2 (.op 3 (.op 4 (.op 5 (.op 6 (.op 7 (.op 8 .fin))))))) (.op 6 (.op 2 (.op 3 (.op 4 (.op 5 (.op 7 (.op 8 .fin))))))))) (.op 6 (.op 1 (.op 2 (.op 3 (.op 4 (.op 5 (.op 7 (.op 8 .fin))))))))))
noncomputable def a35_0 (d : (List UInt64) × (List UInt64)) : Option (O3 (UInt64 × (List UInt64) × (List UInt64) × (List UInt64)) (Unit) (Unit)) :=
  bnd (fFrom (4294968273 : UInt64)) fun y_1 =>
  bnd (fAdd (d.1, y_1)) fun y_2 =>
  some (.n (y_2.2, d.1, d.2, y_2.1))
noncomputable def l35_0 : ((List UInt64) × (List UInt64)) → Option (O3 (UInt64 × (List UInt64) × (List UInt64) × (List UInt64)) (Unit) (Unit)) := hide a35_0
theorem l35_0_eq (d : (List UInt64) × (List UInt64)) : l35_0 d = a35_0 d := congrFun (hide_eq _) d
noncomputable def g35_0 (d : (List UInt64) × (List UInt64)) : Option (List (O3 (UInt64 × (List UInt64) × (List UInt64) × (List UInt64)) (Unit) (Unit))) :=
  bnd
   (bnd (fFrom (4294968273 : UInt64)) fun y_4 =>
   bnd
    (bnd (fAdd (d.1, y_4)) fun y_6 =>
    some [.n (y_6.2, d.1, d.2, y_6.1)]) fun x_5 =>
   bnd
    (bnd (fAdd (d.1, y_4)) fun y_7 =>
    some [.n (y_7.2, d.1, d.2, y_7.1)]) fun x_8 =>
   some (x_5 ++ x_8)) fun x_3 =>
  bnd
   (bnd (fFrom (4294968273 : UInt64)) fun y_9 =>
   bnd (fAdd (d.1, y_9)) fun y_10 =>
   some [.n (y_10.2, d.1, d.2, y_10.1)]) fun x_11 =>
  some (x_3 ++ x_11)
theorem j35_0 (d : (List UInt64) × (List UInt64)) (y : O3 (UInt64 × (List UInt64) × (List UInt64) × (List UInt64)) (Unit) (Unit)) (hd : l35_0 d = some y) : ∃ r, g35_0 d = some r ∧ ∀ x ∈ r, x = y := by
  rw [l35_0_eq] at hd
  unfold a35_0 at hd
  obtain ⟨y_1, h0, hd⟩ := bnd_some hd
  obtain ⟨y_2, h1, hd⟩ := bnd_some hd
  obtain rfl := Option.some.inj hd
  refine ⟨_, by unfold g35_0; simp only [h0, h1, bnd_s]; rfl, by simp⟩
noncomputable def u35_0 : UH := unit (env 15 [(30, hd30), (52, hd52)]) h35_0 o35_0 l35_0
noncomputable def b35 (d : (List UInt64)) : Option ((List UInt64)) :=
  bnd (l35_0 (d, (List.replicate 4 (0 : UInt64)))) fun o => (match o with
   | .n o => (cnd (decide (o.1 = (0 : UInt64)))
    (some o.2.1)
    (some o.2.2.2))
   | .x _o => none
   | .r _o => none)
noncomputable def m35 : (List UInt64) → Option ((List UInt64)) := hide b35
theorem m35_eq (d : (List UInt64)) : m35 d = b35 d := congrFun (hide_eq _) d
noncomputable def hd35 : Hd := ⟨[.d (.arr 4 (.int .u64))], [.d (.arr 4 (.int .u64))], m35⟩
theorem ok35 : Okk Try.prog (env 15 [(30, hd30), (52, hd52)]) := okk tab_ok (n := 15) (hs := [(30, hd30), (52, hd52)]) ⟨fn30, fn52, trivial⟩ mixed
set_option maxRecDepth 100000 in
theorem e35_0 (d : Dat h35_0.ks) : regF (env 15 [(30, hd30), (52, hd52)]) (unitAt c35 0) p35_0 h35_0 o35_0 d = g35_0 d := by kernel_rfl
theorem x35_0 : UOk Try.prog (env 15 [(30, hd30), (52, hd52)]) (unitAt c35 0) u35_0 ∧ Pk Try.prog (env 15 [(30, hd30), (52, hd52)]) u35_0.pk u35_0.up :=
  reg_at ok35 (show regOk (env 15 [(30, hd30), (52, hd52)]) (unitAt c35 0) p35_0 = true by kernel_rfl) (h := h35_0) (o := o35_0) l35_0 (fun d y hy => by obtain ⟨r, h1, h2⟩ := j35_0 d y hy; exact ⟨r, (e35_0 d).trans h1, h2⟩)
set_option maxRecDepth 100000 in
theorem r35 (d : Dat hd35.pks) : runF (env 15 [(30, hd30), (52, hd52)]) (lkU [(0, u35_0)]) c35 (Try.f35).results.toList [] hd35.pks hd35.rks d = b35 d := by kernel_rfl
theorem q35 (d : Dat hd35.pks) (y : Dat hd35.rks) : (hd35.fm d = some y) = (m35 d = some y) := by kernel_rfl
theorem t35 (d : Dat hd35.pks) (y : Dat hd35.rks) (h : hd35.fm d = some y) : runF (env 15 [(30, hd30), (52, hd52)]) (lkU [(0, u35_0)]) c35 (Try.f35).results.toList [] hd35.pks hd35.rks d = some y := (r35 d).trans ((m35_eq d).symm.trans ((q35 d y).mp h))
theorem gn35 : FnG Try.prog 35 hd35 :=
  fn_g (hl := lkU [(0, u35_0)]) (un := []) ok35 (fun _ => rfl) Try.func35 rfl Try.ntmps35 (by kernel_rfl) (rv := (Try.f35).results.toList) (by kernel_rfl) (by decide) (uall_at ⟨⟨_, Nat.le_of_ble_eq_true rfl, (show (units c35)[0]? = some (unitAt c35 0) by kernel_rfl), x35_0⟩, trivial⟩) t35
theorem fn35 : FnOk Try.prog 35 hd35 := .inl gn35
/-! entail/field.plusGaps -/
noncomputable def c89 : Code := ((Try.f89).body).getD .skip
def h89_0 : Sh := ⟨[.d (.int .u64), .d (.int .i64), .d (.arr 4 (.int .u64)), .d (.arr 4 (.int .u64)), .d (.arr 4 (.int .u64))], [6, 12], [(2, [.arr 4 (.int .u64)]), (3, [.arr 4 (.int .u64)]), (4, [.arr 4 (.int .u64)])], [], []⟩
def o89_0 : Outs := ⟨⟨[], [], [], [], []⟩, 0, ⟨[.d (.int .u64), .d (.arr 4 (.int .u64)), .d (.arr 4 (.int .u64))], [6], [(2, [.arr 4 (.int .u64)]), (4, [.arr 4 (.int .u64)])], [], []⟩, ⟨[], [], [], [], []⟩⟩
noncomputable def k89_0 (f : UInt64 × Int × (List UInt64) × (List UInt64) × (List UInt64) → Option (O3 (Unit) (UInt64 × (List UInt64) × (List UInt64)) (Unit))) (d : UInt64 × Int × (List UInt64) × (List UInt64) × (List UInt64)) : Option (O3 (Unit) (UInt64 × (List UInt64) × (List UInt64)) (Unit)) :=
  cnd (decide (d.2.1 < (4 : Int)))
   (guard (inB d.2.1 4) <|
   let t18_1 : UInt64 := (List.getD d.2.2.2.1 d.2.1.toNat (0 : UInt64))
   bnd (fMul64 (t18_1, (4294968273 : UInt64))) fun y_2 =>
   guard (inB d.2.1 4) <|
   let t26_3 : UInt64 := (List.getD d.2.2.1 d.2.1.toNat (0 : UInt64))
   bnd (fAdd64 (y_2.2, t26_3, (0 : UInt64))) fun y_4 =>
   let t32_5 : UInt64 := (y_2.1 + y_4.2)
   bnd (fAdd64 (y_4.1, d.1, (0 : UInt64))) fun y_6 =>
   guard (inB d.2.1 4) <|
   let m0_7 : List UInt64 := (List.set d.2.2.1 d.2.1.toNat y_6.1)
   let t43_8 : UInt64 := (t32_5 + y_6.2)
   guard (inR .i64 (d.2.1 + (1 : Int))) <|
   let t44_9 : Int := (d.2.1 + (1 : Int))
   f (t43_8, t44_9, m0_7, d.2.2.2.1, d.2.2.2.2))
   (some (.x (d.1, d.2.2.1, d.2.2.2.2)))
noncomputable def l89_0 : UInt64 × Int × (List UInt64) × (List UInt64) × (List UInt64) → Option (O3 (Unit) (UInt64 × (List UInt64) × (List UInt64)) (Unit)) := itN k89_0 fuel
noncomputable def u89_0 : UH := unit (env 47 [(69, hd69), (88, hd88)]) h89_0 o89_0 l89_0
noncomputable def b89 (d : (List UInt64) × (List UInt64)) : Option ((List UInt64) × UInt64) :=
  bnd (l89_0 ((0 : UInt64), (0 : Int), d.1, d.2, (List.replicate 4 (0 : UInt64)))) fun o => (match o with
   | .n _o => none
   | .x o => (some (o.2.1, o.1))
   | .r _o => none)
noncomputable def m89 : ((List UInt64) × (List UInt64)) → Option ((List UInt64) × UInt64) := hide b89
theorem m89_eq (d : (List UInt64) × (List UInt64)) : m89 d = b89 d := congrFun (hide_eq _) d
noncomputable def hd89 : Hd := ⟨[.d (.arr 4 (.int .u64)), .d (.arr 4 (.int .u64))], [.d (.arr 4 (.int .u64)), .d (.int .u64)], m89⟩
theorem ok89 : Okk Try.prog (env 47 [(69, hd69), (88, hd88)]) := okk tab_ok (n := 47) (hs := [(69, hd69), (88, hd88)]) ⟨fn69, fn88, trivial⟩ mixed
set_option maxRecDepth 100000 in
theorem e89_0 (f : Dat h89_0.ks → Option o89_0.O) (d : Dat h89_0.ks) : loopF (env 47 [(69, hd69), (88, hd88)]) (lkU []) 0 (lbody (unitAt c89 0)) h89_0 o89_0 f d = k89_0 f d := by kernel_rfl
theorem x89_0 : UOk Try.prog (env 47 [(69, hd69), (88, hd88)]) (unitAt c89 0) u89_0 ∧ Pk Try.prog (env 47 [(69, hd69), (88, hd88)]) u89_0.pk u89_0.up :=
  loop_at ok89 (show unitAt c89 0 = .loop (lbody (unitAt c89 0)) by kernel_rfl) (h := h89_0) (o := o89_0) (n := 0) (hl := lkU []) (uall_at trivial) k89_0 fuel e89_0
set_option maxRecDepth 100000 in
theorem r89 (d : Dat hd89.pks) : runF (env 47 [(69, hd69), (88, hd88)]) (lkU [(0, u89_0)]) c89 (Try.f89).results.toList [] hd89.pks hd89.rks d = b89 d := by kernel_rfl
theorem q89 (d : Dat hd89.pks) (y : Dat hd89.rks) : (hd89.fm d = some y) = (m89 d = some y) := by kernel_rfl
theorem t89 (d : Dat hd89.pks) (y : Dat hd89.rks) (h : hd89.fm d = some y) : runF (env 47 [(69, hd69), (88, hd88)]) (lkU [(0, u89_0)]) c89 (Try.f89).results.toList [] hd89.pks hd89.rks d = some y := (r89 d).trans ((m89_eq d).symm.trans ((q89 d y).mp h))
theorem gn89 : FnG Try.prog 89 hd89 :=
  fn_g (hl := lkU [(0, u89_0)]) (un := []) ok89 (fun _ => rfl) Try.func89 rfl Try.ntmps89 (by kernel_rfl) (rv := (Try.f89).results.toList) (by kernel_rfl) (by decide) (uall_at ⟨⟨_, Nat.le_of_ble_eq_true rfl, (show (units c89)[0]? = some (unitAt c89 0) by kernel_rfl), x89_0⟩, trivial⟩) t89
theorem fn89 : FnOk Try.prog 89 hd89 := .inl gn89
/-! entail/field.fold -/
noncomputable def c72 : Code := ((Try.f72).body).getD .skip
def h72_0 : Sh := ⟨[.d (.arr 4 (.int .u64)), .d (.arr 4 (.int .u64)), .d (.arr 4 (.int .u64))], [], [(2, [.arr 4 (.int .u64)]), (3, [.arr 4 (.int .u64)]), (4, [.arr 4 (.int .u64)])], [], []⟩
def o72_0 : Outs := ⟨⟨[], [], [], [], []⟩, 0, ⟨[.d (.arr 4 (.int .u64)), .d (.arr 4 (.int .u64))], [], [(2, [.arr 4 (.int .u64)]), (4, [.arr 4 (.int .u64)])], [], []⟩, ⟨[], [], [], [], []⟩⟩
noncomputable def k72_0 (f : (List UInt64) × (List UInt64) × (List UInt64) → Option (O3 (Unit) ((List UInt64) × (List UInt64)) (Unit))) (d : (List UInt64) × (List UInt64) × (List UInt64)) : Option (O3 (Unit) ((List UInt64) × (List UInt64)) (Unit)) :=
  let t7_1 : List UInt64 := [(0 : UInt64), (0 : UInt64), (0 : UInt64), (0 : UInt64)]
  cnd (!(eqD (.arr 4 (.int .u64)) d.2.1 t7_1))
   (bnd (m89 (d.1, d.2.1)) fun y_2 =>
   bnd (fFrom y_2.2) fun y_3 =>
   f (y_2.1, y_3, d.2.2))
   (some (.x (d.1, d.2.2)))
noncomputable def l72_0 : (List UInt64) × (List UInt64) × (List UInt64) → Option (O3 (Unit) ((List UInt64) × (List UInt64)) (Unit)) := itN k72_0 fuel
noncomputable def u72_0 : UH := unit (env 19 [(35, hd35), (52, hd52), (89, hd89)]) h72_0 o72_0 l72_0
noncomputable def b72 (d : (List UInt64) × (List UInt64)) : Option ((List UInt64)) :=
  bnd (l72_0 (d.1, d.2, (List.replicate 4 (0 : UInt64)))) fun o => (match o with
   | .n _o => none
   | .x o => (bnd (m35 o.1) fun y_4 =>
   some y_4)
   | .r _o => none)
noncomputable def m72 : ((List UInt64) × (List UInt64)) → Option ((List UInt64)) := hide b72
theorem m72_eq (d : (List UInt64) × (List UInt64)) : m72 d = b72 d := congrFun (hide_eq _) d
noncomputable def hd72 : Hd := ⟨[.d (.arr 4 (.int .u64)), .d (.arr 4 (.int .u64))], [.d (.arr 4 (.int .u64))], m72⟩
theorem ok72 : Okk Try.prog (env 19 [(35, hd35), (52, hd52), (89, hd89)]) := okk tab_ok (n := 19) (hs := [(35, hd35), (52, hd52), (89, hd89)]) ⟨fn35, fn52, fn89, trivial⟩ mixed
set_option maxRecDepth 100000 in
theorem e72_0 (f : Dat h72_0.ks → Option o72_0.O) (d : Dat h72_0.ks) : loopF (env 19 [(35, hd35), (52, hd52), (89, hd89)]) (lkU []) 0 (lbody (unitAt c72 0)) h72_0 o72_0 f d = k72_0 f d := by kernel_rfl
theorem x72_0 : UOk Try.prog (env 19 [(35, hd35), (52, hd52), (89, hd89)]) (unitAt c72 0) u72_0 ∧ Pk Try.prog (env 19 [(35, hd35), (52, hd52), (89, hd89)]) u72_0.pk u72_0.up :=
  loop_at ok72 (show unitAt c72 0 = .loop (lbody (unitAt c72 0)) by kernel_rfl) (h := h72_0) (o := o72_0) (n := 0) (hl := lkU []) (uall_at trivial) k72_0 fuel e72_0
set_option maxRecDepth 100000 in
theorem r72 (d : Dat hd72.pks) : runF (env 19 [(35, hd35), (52, hd52), (89, hd89)]) (lkU [(0, u72_0)]) c72 (Try.f72).results.toList [] hd72.pks hd72.rks d = b72 d := by kernel_rfl
theorem q72 (d : Dat hd72.pks) (y : Dat hd72.rks) : (hd72.fm d = some y) = (m72 d = some y) := by kernel_rfl
theorem t72 (d : Dat hd72.pks) (y : Dat hd72.rks) (h : hd72.fm d = some y) : runF (env 19 [(35, hd35), (52, hd52), (89, hd89)]) (lkU [(0, u72_0)]) c72 (Try.f72).results.toList [] hd72.pks hd72.rks d = some y := (r72 d).trans ((m72_eq d).symm.trans ((q72 d y).mp h))
theorem gn72 : FnG Try.prog 72 hd72 :=
  fn_g (hl := lkU [(0, u72_0)]) (un := []) ok72 (fun _ => rfl) Try.func72 rfl Try.ntmps72 (by kernel_rfl) (rv := (Try.f72).results.toList) (by kernel_rfl) (by decide) (uall_at ⟨⟨_, Nat.le_of_ble_eq_true rfl, (show (units c72)[0]? = some (unitAt c72 0) by kernel_rfl), x72_0⟩, trivial⟩) t72
theorem fn72 : FnOk Try.prog 72 hd72 := .inl gn72
/-! entail/field.Add -/
noncomputable def c37 : Code := ((Try.f37).body).getD .skip
noncomputable def b37 (d : (List UInt64) × (List UInt64)) : Option ((List UInt64)) :=
  bnd (fAdd (d.1, d.2)) fun y_1 =>
  bnd (fFrom y_1.2) fun y_2 =>
  bnd (m72 (y_1.1, y_2)) fun y_3 =>
  some y_3
noncomputable def m37 : ((List UInt64) × (List UInt64)) → Option ((List UInt64)) := hide b37
theorem m37_eq (d : (List UInt64) × (List UInt64)) : m37 d = b37 d := congrFun (hide_eq _) d
noncomputable def hd37 : Hd := ⟨[.d (.arr 4 (.int .u64)), .d (.arr 4 (.int .u64))], [.d (.arr 4 (.int .u64))], m37⟩
theorem ok37 : Okk Try.prog (env 17 [(30, hd30), (52, hd52), (72, hd72)]) := okk tab_ok (n := 17) (hs := [(30, hd30), (52, hd52), (72, hd72)]) ⟨fn30, fn52, fn72, trivial⟩ mixed
set_option maxRecDepth 100000 in
theorem r37 (d : Dat hd37.pks) : runF (env 17 [(30, hd30), (52, hd52), (72, hd72)]) (lkU []) c37 (Try.f37).results.toList [] hd37.pks hd37.rks d = b37 d := by kernel_rfl
theorem q37 (d : Dat hd37.pks) (y : Dat hd37.rks) : (hd37.fm d = some y) = (m37 d = some y) := by kernel_rfl
theorem t37 (d : Dat hd37.pks) (y : Dat hd37.rks) (h : hd37.fm d = some y) : runF (env 17 [(30, hd30), (52, hd52), (72, hd72)]) (lkU []) c37 (Try.f37).results.toList [] hd37.pks hd37.rks d = some y := (r37 d).trans ((m37_eq d).symm.trans ((q37 d y).mp h))
theorem gn37 : FnG Try.prog 37 hd37 :=
  fn_g (hl := lkU []) (un := []) ok37 (fun _ => rfl) Try.func37 rfl Try.ntmps37 (by kernel_rfl) (rv := (Try.f37).results.toList) (by kernel_rfl) (by decide) (uall_at trivial) t37
theorem fn37 : FnOk Try.prog 37 hd37 := .inl gn37
/-! entail/field.Neg -/
noncomputable def c41 : Code := ((Try.f41).body).getD .skip
def h41_0 : Sh := ⟨[.d (.arr 4 (.int .u64)), .d (.arr 4 (.int .u64))], [], [(1, [.arr 4 (.int .u64)]), (2, [.arr 4 (.int .u64)])], [], []⟩
def o41_0 : Outs := ⟨⟨[.d (.arr 4 (.int .u64)), .d (.arr 4 (.int .u64))], [], [(2, [.arr 4 (.int .u64)]), (3, [.arr 4 (.int .u64)])], [], []⟩, 0, ⟨[], [], [], [], []⟩, ⟨[], [], [], [], []⟩⟩
def p41_0 : Plan := (.op 1 (.alt (.op 0 (.alt (.op 2 (.alt (.op 3 (.op 4 (.op 5 (.op 6 (.op 7 (.op 8 (.op 9 .fin))))))) (.op 7 (.op 3 (.op 4 (.op 5 (.op 6 (.op 8 (.op 9 .fin))))))))) (.op 7 (.op 2 (.op 3 (.op 4 (.op 5 (.op 6 (.op 8 (.op 9 .fin)))))))))) (.op 7 (.op 0 (.op 2 (.op 3 (.op 4 (.op 5 (.op 6 (.op 8 (.op 9 .fin)))))))))))
noncomputable def a41_0 (d : (List UInt64) × (List UInt64)) : Option (O3 ((List UInt64) × (List UInt64)) (Unit) (Unit)) :=
  bnd (m33 ()) fun y_1 =>
  bnd (m35 d.1) fun y_2 =>
  bnd (fSub (y_1, y_2)) fun y_3 =>
  some (.n (d.2, y_3.1))
noncomputable def l41_0 : ((List UInt64) × (List UInt64)) → Option (O3 ((List UInt64) × (List UInt64)) (Unit) (Unit)) := hide a41_0
theorem l41_0_eq (d : (List UInt64) × (List UInt64)) : l41_0 d = a41_0 d := congrFun (hide_eq _) d
noncomputable def g41_0 (d : (List UInt64) × (List UInt64)) : Option (List (O3 ((List UInt64) × (List UInt64)) (Unit) (Unit))) :=
  bnd
   (bnd (m33 ()) fun y_5 =>
   bnd
    (bnd (m35 d.1) fun y_7 =>
    bnd
     (bnd (fSub (y_5, y_7)) fun y_9 =>
     some [.n (d.2, y_9.1)]) fun x_8 =>
    bnd
     (bnd (fSub (y_5, y_7)) fun y_10 =>
     some [.n (d.2, y_10.1)]) fun x_11 =>
    some (x_8 ++ x_11)) fun x_6 =>
   bnd
    (bnd (m35 d.1) fun y_12 =>
    bnd (fSub (y_5, y_12)) fun y_13 =>
    some [.n (d.2, y_13.1)]) fun x_14 =>
   some (x_6 ++ x_14)) fun x_4 =>
  bnd
   (bnd (m33 ()) fun y_15 =>
   bnd (m35 d.1) fun y_16 =>
   bnd (fSub (y_15, y_16)) fun y_17 =>
   some [.n (d.2, y_17.1)]) fun x_18 =>
  some (x_4 ++ x_18)
theorem j41_0 (d : (List UInt64) × (List UInt64)) (y : O3 ((List UInt64) × (List UInt64)) (Unit) (Unit)) (hd : l41_0 d = some y) : ∃ r, g41_0 d = some r ∧ ∀ x ∈ r, x = y := by
  rw [l41_0_eq] at hd
  unfold a41_0 at hd
  obtain ⟨y_1, h0, hd⟩ := bnd_some hd
  obtain ⟨y_2, h1, hd⟩ := bnd_some hd
  obtain ⟨y_3, h2, hd⟩ := bnd_some hd
  obtain rfl := Option.some.inj hd
  refine ⟨_, by unfold g41_0; simp only [h0, h1, h2, bnd_s]; rfl, by simp⟩
noncomputable def u41_0 : UH := unit (env 14 [(28, hd28), (33, hd33), (35, hd35)]) h41_0 o41_0 l41_0
noncomputable def b41 (d : (List UInt64)) : Option ((List UInt64)) :=
  bnd (l41_0 (d, (List.replicate 4 (0 : UInt64)))) fun o => (match o with
   | .n o => (bnd (m35 o.2) fun y_19 =>
   some y_19)
   | .x _o => none
   | .r _o => none)
noncomputable def m41 : (List UInt64) → Option ((List UInt64)) := hide b41
theorem m41_eq (d : (List UInt64)) : m41 d = b41 d := congrFun (hide_eq _) d
noncomputable def hd41 : Hd := ⟨[.d (.arr 4 (.int .u64))], [.d (.arr 4 (.int .u64))], m41⟩
theorem ok41 : Okk Try.prog (env 14 [(28, hd28), (33, hd33), (35, hd35)]) := okk tab_ok (n := 14) (hs := [(28, hd28), (33, hd33), (35, hd35)]) ⟨fn28, fn33, fn35, trivial⟩ mixed
set_option maxRecDepth 100000 in
theorem e41_0 (d : Dat h41_0.ks) : regF (env 14 [(28, hd28), (33, hd33), (35, hd35)]) (unitAt c41 0) p41_0 h41_0 o41_0 d = g41_0 d := by kernel_rfl
theorem x41_0 : UOk Try.prog (env 14 [(28, hd28), (33, hd33), (35, hd35)]) (unitAt c41 0) u41_0 ∧ Pk Try.prog (env 14 [(28, hd28), (33, hd33), (35, hd35)]) u41_0.pk u41_0.up :=
  reg_at ok41 (show regOk (env 14 [(28, hd28), (33, hd33), (35, hd35)]) (unitAt c41 0) p41_0 = true by kernel_rfl) (h := h41_0) (o := o41_0) l41_0 (fun d y hy => by obtain ⟨r, h1, h2⟩ := j41_0 d y hy; exact ⟨r, (e41_0 d).trans h1, h2⟩)
set_option maxRecDepth 100000 in
theorem r41 (d : Dat hd41.pks) : runF (env 14 [(28, hd28), (33, hd33), (35, hd35)]) (lkU [(0, u41_0)]) c41 (Try.f41).results.toList [] hd41.pks hd41.rks d = b41 d := by kernel_rfl
theorem q41 (d : Dat hd41.pks) (y : Dat hd41.rks) : (hd41.fm d = some y) = (m41 d = some y) := by kernel_rfl
theorem t41 (d : Dat hd41.pks) (y : Dat hd41.rks) (h : hd41.fm d = some y) : runF (env 14 [(28, hd28), (33, hd33), (35, hd35)]) (lkU [(0, u41_0)]) c41 (Try.f41).results.toList [] hd41.pks hd41.rks d = some y := (r41 d).trans ((m41_eq d).symm.trans ((q41 d y).mp h))
theorem gn41 : FnG Try.prog 41 hd41 :=
  fn_g (hl := lkU [(0, u41_0)]) (un := []) ok41 (fun _ => rfl) Try.func41 rfl Try.ntmps41 (by kernel_rfl) (rv := (Try.f41).results.toList) (by kernel_rfl) (by decide) (uall_at ⟨⟨_, Nat.le_of_ble_eq_true rfl, (show (units c41)[0]? = some (unitAt c41 0) by kernel_rfl), x41_0⟩, trivial⟩) t41
theorem fn41 : FnOk Try.prog 41 hd41 := .inl gn41
/-! entail/field.Sub -/
noncomputable def c39 : Code := ((Try.f39).body).getD .skip
noncomputable def b39 (d : (List UInt64) × (List UInt64)) : Option ((List UInt64)) :=
  bnd (m41 d.2) fun y_1 =>
  bnd (m37 (d.1, y_1)) fun y_2 =>
  some y_2
noncomputable def m39 : ((List UInt64) × (List UInt64)) → Option ((List UInt64)) := hide b39
theorem m39_eq (d : (List UInt64) × (List UInt64)) : m39 d = b39 d := congrFun (hide_eq _) d
noncomputable def hd39 : Hd := ⟨[.d (.arr 4 (.int .u64)), .d (.arr 4 (.int .u64))], [.d (.arr 4 (.int .u64))], m39⟩
theorem ok39 : Okk Try.prog (env 9 [(37, hd37), (41, hd41)]) := okk tab_ok (n := 9) (hs := [(37, hd37), (41, hd41)]) ⟨fn37, fn41, trivial⟩ mixed
set_option maxRecDepth 100000 in
theorem r39 (d : Dat hd39.pks) : runF (env 9 [(37, hd37), (41, hd41)]) (lkU []) c39 (Try.f39).results.toList [] hd39.pks hd39.rks d = b39 d := by kernel_rfl
theorem q39 (d : Dat hd39.pks) (y : Dat hd39.rks) : (hd39.fm d = some y) = (m39 d = some y) := by kernel_rfl
theorem t39 (d : Dat hd39.pks) (y : Dat hd39.rks) (h : hd39.fm d = some y) : runF (env 9 [(37, hd37), (41, hd41)]) (lkU []) c39 (Try.f39).results.toList [] hd39.pks hd39.rks d = some y := (r39 d).trans ((m39_eq d).symm.trans ((q39 d y).mp h))
theorem gn39 : FnG Try.prog 39 hd39 :=
  fn_g (hl := lkU []) (un := []) ok39 (fun _ => rfl) Try.func39 rfl Try.ntmps39 (by kernel_rfl) (rv := (Try.f39).results.toList) (by kernel_rfl) (by decide) (uall_at trivial) t39
theorem fn39 : FnOk Try.prog 39 hd39 := .inl gn39
/-! entail/field.Mul -/
noncomputable def c43 : Code := ((Try.f43).body).getD .skip
noncomputable def b43 (d : (List UInt64) × (List UInt64)) : Option ((List UInt64)) :=
  bnd (fMul (d.1, d.2)) fun y_1 =>
  bnd (m72 (y_1.1, y_1.2)) fun y_2 =>
  some y_2
noncomputable def m43 : ((List UInt64) × (List UInt64)) → Option ((List UInt64)) := hide b43
theorem m43_eq (d : (List UInt64) × (List UInt64)) : m43 d = b43 d := congrFun (hide_eq _) d
noncomputable def hd43 : Hd := ⟨[.d (.arr 4 (.int .u64)), .d (.arr 4 (.int .u64))], [.d (.arr 4 (.int .u64))], m43⟩
theorem ok43 : Okk Try.prog (env 11 [(31, hd31), (72, hd72)]) := okk tab_ok (n := 11) (hs := [(31, hd31), (72, hd72)]) ⟨fn31, fn72, trivial⟩ mixed
set_option maxRecDepth 100000 in
theorem r43 (d : Dat hd43.pks) : runF (env 11 [(31, hd31), (72, hd72)]) (lkU []) c43 (Try.f43).results.toList [] hd43.pks hd43.rks d = b43 d := by kernel_rfl
theorem q43 (d : Dat hd43.pks) (y : Dat hd43.rks) : (hd43.fm d = some y) = (m43 d = some y) := by kernel_rfl
theorem t43 (d : Dat hd43.pks) (y : Dat hd43.rks) (h : hd43.fm d = some y) : runF (env 11 [(31, hd31), (72, hd72)]) (lkU []) c43 (Try.f43).results.toList [] hd43.pks hd43.rks d = some y := (r43 d).trans ((m43_eq d).symm.trans ((q43 d y).mp h))
theorem gn43 : FnG Try.prog 43 hd43 :=
  fn_g (hl := lkU []) (un := []) ok43 (fun _ => rfl) Try.func43 rfl Try.ntmps43 (by kernel_rfl) (rv := (Try.f43).results.toList) (by kernel_rfl) (by decide) (uall_at trivial) t43
theorem fn43 : FnOk Try.prog 43 hd43 := .inl gn43
/-! entail/field.Pow -/
noncomputable def c47 : Code := ((Try.f47).body).getD .skip
def h47_0 : Sh := ⟨[.d (.int .i64), .d (.arr 4 (.int .u64)), .d (.arr 4 (.int .u64)), .d (.arr 4 (.int .u64)), .d (.arr 4 (.int .u64))], [6], [(2, [.arr 4 (.int .u64)]), (3, [.arr 4 (.int .u64)]), (4, [.arr 4 (.int .u64)]), (5, [.arr 4 (.int .u64)])], [], []⟩
def o47_0 : Outs := ⟨⟨[], [], [], [], []⟩, 0, ⟨[.d (.arr 4 (.int .u64)), .d (.arr 4 (.int .u64))], [], [(4, [.arr 4 (.int .u64)]), (5, [.arr 4 (.int .u64)])], [], []⟩, ⟨[], [], [], [], []⟩⟩
noncomputable def k47_0 (f : Int × (List UInt64) × (List UInt64) × (List UInt64) × (List UInt64) → Option (O3 (Unit) ((List UInt64) × (List UInt64)) (Unit))) (d : Int × (List UInt64) × (List UInt64) × (List UInt64) × (List UInt64)) : Option (O3 (Unit) ((List UInt64) × (List UInt64)) (Unit)) :=
  cnd (decide ((0 : Int) ≤ d.1))
   (bnd (m43 (d.2.2.2.2, d.2.2.2.2)) fun y_4 =>
   guard (inR .i64 (d.1.tdiv (64 : Int))) <|
   let t19_5 : Int := (Int.tdiv d.1 (64 : Int))
   guard (inB t19_5 4) <|
   let t21_6 : UInt64 := (List.getD d.2.2.1 t19_5.toNat (0 : UInt64))
   let t23_7 : Int := (Int.tmod d.1 (64 : Int))
   guard (decide (0 ≤ t23_7)) <|
   let t24_8 : UInt64 := (shrK .u64 t21_6 t23_7.toNat)
   let t25_9 : UInt64 := (andK .u64 t24_8 (1 : UInt64))
   cnd (decide (t25_9 = (1 : UInt64)))
    (bnd (m43 (y_4, d.2.1)) fun y_10 =>
    guard (inR .i64 (d.1 - (1 : Int))) <|
    let t14_11 : Int := (d.1 - (1 : Int))
    f (t14_11, d.2.1, d.2.2.1, d.2.2.2.1, y_10))
    (guard (inR .i64 (d.1 - (1 : Int))) <|
    let t14_12 : Int := (d.1 - (1 : Int))
    f (t14_12, d.2.1, d.2.2.1, d.2.2.2.1, y_4)))
   (some (.x (d.2.2.2.1, d.2.2.2.2)))
noncomputable def l47_0 : Int × (List UInt64) × (List UInt64) × (List UInt64) × (List UInt64) → Option (O3 (Unit) ((List UInt64) × (List UInt64)) (Unit)) := itN k47_0 fuel
noncomputable def u47_0 : UH := unit (env 31 [(29, hd29), (43, hd43), (52, hd52)]) h47_0 o47_0 l47_0
noncomputable def b47 (d : (List UInt64) × (List UInt64)) : Option ((List UInt64)) :=
  bnd (fFrom (1 : UInt64)) fun y_1 =>
  bnd (fLen d.2) fun y_2 =>
  guard (inR .i64 (y_2 - (1 : Int))) <|
  let t10_3 : Int := (y_2 - (1 : Int))
  bnd (l47_0 (t10_3, d.1, d.2, (List.replicate 4 (0 : UInt64)), y_1)) fun o => (match o with
   | .n _o => none
   | .x o => (some o.2)
   | .r _o => none)
noncomputable def m47 : ((List UInt64) × (List UInt64)) → Option ((List UInt64)) := hide b47
theorem m47_eq (d : (List UInt64) × (List UInt64)) : m47 d = b47 d := congrFun (hide_eq _) d
noncomputable def hd47 : Hd := ⟨[.d (.arr 4 (.int .u64)), .d (.arr 4 (.int .u64))], [.d (.arr 4 (.int .u64))], m47⟩
theorem ok47 : Okk Try.prog (env 31 [(29, hd29), (43, hd43), (52, hd52)]) := okk tab_ok (n := 31) (hs := [(29, hd29), (43, hd43), (52, hd52)]) ⟨fn29, fn43, fn52, trivial⟩ mixed
set_option maxRecDepth 100000 in
theorem e47_0 (f : Dat h47_0.ks → Option o47_0.O) (d : Dat h47_0.ks) : loopF (env 31 [(29, hd29), (43, hd43), (52, hd52)]) (lkU []) 0 (lbody (unitAt c47 0)) h47_0 o47_0 f d = k47_0 f d := by kernel_rfl
theorem x47_0 : UOk Try.prog (env 31 [(29, hd29), (43, hd43), (52, hd52)]) (unitAt c47 0) u47_0 ∧ Pk Try.prog (env 31 [(29, hd29), (43, hd43), (52, hd52)]) u47_0.pk u47_0.up :=
  loop_at ok47 (show unitAt c47 0 = .loop (lbody (unitAt c47 0)) by kernel_rfl) (h := h47_0) (o := o47_0) (n := 0) (hl := lkU []) (uall_at trivial) k47_0 fuel e47_0
set_option maxRecDepth 100000 in
theorem r47 (d : Dat hd47.pks) : runF (env 31 [(29, hd29), (43, hd43), (52, hd52)]) (lkU [(0, u47_0)]) c47 (Try.f47).results.toList [] hd47.pks hd47.rks d = b47 d := by kernel_rfl
theorem q47 (d : Dat hd47.pks) (y : Dat hd47.rks) : (hd47.fm d = some y) = (m47 d = some y) := by kernel_rfl
theorem t47 (d : Dat hd47.pks) (y : Dat hd47.rks) (h : hd47.fm d = some y) : runF (env 31 [(29, hd29), (43, hd43), (52, hd52)]) (lkU [(0, u47_0)]) c47 (Try.f47).results.toList [] hd47.pks hd47.rks d = some y := (r47 d).trans ((m47_eq d).symm.trans ((q47 d y).mp h))
theorem gn47 : FnG Try.prog 47 hd47 :=
  fn_g (hl := lkU [(0, u47_0)]) (un := []) ok47 (fun _ => rfl) Try.func47 rfl Try.ntmps47 (by kernel_rfl) (rv := (Try.f47).results.toList) (by kernel_rfl) (by decide) (uall_at ⟨⟨_, Nat.le_of_ble_eq_true rfl, (show (units c47)[0]? = some (unitAt c47 0) by kernel_rfl), x47_0⟩, trivial⟩) t47
theorem fn47 : FnOk Try.prog 47 hd47 := .inl gn47
/-! entail/field.Root -/
noncomputable def c45 : Code := ((Try.f45).body).getD .skip
def h45_0 : Sh := ⟨[.d (.arr 4 (.int .u64)), .d (.arr 4 (.int .u64)), .d (.arr 4 (.int .u64))], [], [(1, [.arr 4 (.int .u64)]), (2, [.arr 4 (.int .u64)]), (4, [.arr 4 (.int .u64)])], [], []⟩
def o45_0 : Outs := ⟨⟨[.d (.arr 4 (.int .u64)), .d (.arr 4 (.int .u64)), .d (.arr 4 (.int .u64))], [], [(1, [.arr 4 (.int .u64)]), (2, [.arr 4 (.int .u64)]), (6, [.arr 4 (.int .u64)])], [], []⟩, 0, ⟨[], [], [], [], []⟩, ⟨[], [], [], [], []⟩⟩
def p45_0 : Plan := (.op 0 (.op 1 (.alt (.op 2 (.alt (.op 3 (.op 4 (.op 5 .fin))) (.op 4 (.op 3 (.op 5 .fin))))) (.op 4 (.op 2 (.op 3 (.op 5 .fin)))))))
noncomputable def a45_0 (d : (List UInt64) × (List UInt64) × (List UInt64)) : Option (O3 ((List UInt64) × (List UInt64) × (List UInt64)) (Unit) (Unit)) :=
  bnd (fShr (d.2.2, (2 : Int))) fun y_4 =>
  bnd (m47 (d.1, y_4)) fun y_5 =>
  some (.n (d.1, d.2.1, y_5))
noncomputable def l45_0 : ((List UInt64) × (List UInt64) × (List UInt64)) → Option (O3 ((List UInt64) × (List UInt64) × (List UInt64)) (Unit) (Unit)) := hide a45_0
theorem l45_0_eq (d : (List UInt64) × (List UInt64) × (List UInt64)) : l45_0 d = a45_0 d := congrFun (hide_eq _) d
noncomputable def g45_0 (d : (List UInt64) × (List UInt64) × (List UInt64)) : Option (List (O3 ((List UInt64) × (List UInt64) × (List UInt64)) (Unit) (Unit))) :=
  bnd
   (bnd (fShr (d.2.2, (2 : Int))) fun y_7 =>
   bnd
    (bnd (m47 (d.1, y_7)) fun y_9 =>
    some [.n (d.1, d.2.1, y_9)]) fun x_8 =>
   bnd
    (bnd (m47 (d.1, y_7)) fun y_10 =>
    some [.n (d.1, d.2.1, y_10)]) fun x_11 =>
   some (x_8 ++ x_11)) fun x_6 =>
  bnd
   (bnd (fShr (d.2.2, (2 : Int))) fun y_12 =>
   bnd (m47 (d.1, y_12)) fun y_13 =>
   some [.n (d.1, d.2.1, y_13)]) fun x_14 =>
  some (x_6 ++ x_14)
theorem j45_0 (d : (List UInt64) × (List UInt64) × (List UInt64)) (y : O3 ((List UInt64) × (List UInt64) × (List UInt64)) (Unit) (Unit)) (hd : l45_0 d = some y) : ∃ r, g45_0 d = some r ∧ ∀ x ∈ r, x = y := by
  rw [l45_0_eq] at hd
  unfold a45_0 at hd
  obtain ⟨y_4, h0, hd⟩ := bnd_some hd
  obtain ⟨y_5, h1, hd⟩ := bnd_some hd
  obtain rfl := Option.some.inj hd
  refine ⟨_, by unfold g45_0; simp only [h0, h1, bnd_s]; rfl, by simp⟩
noncomputable def u45_0 : UH := unit (env 31 [(30, hd30), (33, hd33), (35, hd35), (41, hd41), (43, hd43), (47, hd47), (52, hd52), (77, hd77)]) h45_0 o45_0 l45_0
noncomputable def b45 (d : (List UInt64)) : Option ((List UInt64) × Bool) :=
  bnd (m33 ()) fun y_1 =>
  bnd (fFrom (1 : UInt64)) fun y_2 =>
  bnd (fAdd (y_1, y_2)) fun y_3 =>
  bnd (l45_0 (d, (List.replicate 4 (0 : UInt64)), y_3.1)) fun o => (match o with
   | .n o => (bnd (m43 (o.2.2, o.2.2)) fun y_15 =>
   bnd (m35 o.1) fun y_16 =>
   cnd (!(eqD (.arr 4 (.int .u64)) y_15 y_16))
    (let t23_17 : List UInt64 := [(0 : UInt64), (0 : UInt64), (0 : UInt64), (0 : UInt64)]
    some (t23_17, false))
    (let t25_18 : UInt64 := (List.getD o.2.2 0 (0 : UInt64))
    let t26_19 : UInt64 := (t25_18 % (2 : UInt64))
    cnd (decide (t26_19 = (1 : UInt64)))
     (bnd (m41 o.2.2) fun y_20 =>
     some (y_20, true))
     (some (o.2.2, true))))
   | .x _o => none
   | .r _o => none)
noncomputable def m45 : (List UInt64) → Option ((List UInt64) × Bool) := hide b45
theorem m45_eq (d : (List UInt64)) : m45 d = b45 d := congrFun (hide_eq _) d
noncomputable def hd45 : Hd := ⟨[.d (.arr 4 (.int .u64))], [.d (.arr 4 (.int .u64)), .d (.bool)], m45⟩
theorem ok45 : Okk Try.prog (env 31 [(30, hd30), (33, hd33), (35, hd35), (41, hd41), (43, hd43), (47, hd47), (52, hd52), (77, hd77)]) := okk tab_ok (n := 31) (hs := [(30, hd30), (33, hd33), (35, hd35), (41, hd41), (43, hd43), (47, hd47), (52, hd52), (77, hd77)]) ⟨fn30, fn33, fn35, fn41, fn43, fn47, fn52, fn77, trivial⟩ mixed
set_option maxRecDepth 100000 in
theorem e45_0 (d : Dat h45_0.ks) : regF (env 31 [(30, hd30), (33, hd33), (35, hd35), (41, hd41), (43, hd43), (47, hd47), (52, hd52), (77, hd77)]) (unitAt c45 0) p45_0 h45_0 o45_0 d = g45_0 d := by kernel_rfl
theorem x45_0 : UOk Try.prog (env 31 [(30, hd30), (33, hd33), (35, hd35), (41, hd41), (43, hd43), (47, hd47), (52, hd52), (77, hd77)]) (unitAt c45 0) u45_0 ∧ Pk Try.prog (env 31 [(30, hd30), (33, hd33), (35, hd35), (41, hd41), (43, hd43), (47, hd47), (52, hd52), (77, hd77)]) u45_0.pk u45_0.up :=
  reg_at ok45 (show regOk (env 31 [(30, hd30), (33, hd33), (35, hd35), (41, hd41), (43, hd43), (47, hd47), (52, hd52), (77, hd77)]) (unitAt c45 0) p45_0 = true by kernel_rfl) (h := h45_0) (o := o45_0) l45_0 (fun d y hy => by obtain ⟨r, h1, h2⟩ := j45_0 d y hy; exact ⟨r, (e45_0 d).trans h1, h2⟩)
set_option maxRecDepth 100000 in
theorem r45 (d : Dat hd45.pks) : runF (env 31 [(30, hd30), (33, hd33), (35, hd35), (41, hd41), (43, hd43), (47, hd47), (52, hd52), (77, hd77)]) (lkU [(0, u45_0)]) c45 (Try.f45).results.toList [] hd45.pks hd45.rks d = b45 d := by kernel_rfl
theorem q45 (d : Dat hd45.pks) (y : Dat hd45.rks) : (hd45.fm d = some y) = (m45 d = some y) := by kernel_rfl
theorem t45 (d : Dat hd45.pks) (y : Dat hd45.rks) (h : hd45.fm d = some y) : runF (env 31 [(30, hd30), (33, hd33), (35, hd35), (41, hd41), (43, hd43), (47, hd47), (52, hd52), (77, hd77)]) (lkU [(0, u45_0)]) c45 (Try.f45).results.toList [] hd45.pks hd45.rks d = some y := (r45 d).trans ((m45_eq d).symm.trans ((q45 d y).mp h))
theorem gn45 : FnG Try.prog 45 hd45 :=
  fn_g (hl := lkU [(0, u45_0)]) (un := []) ok45 (fun _ => rfl) Try.func45 rfl Try.ntmps45 (by kernel_rfl) (rv := (Try.f45).results.toList) (by kernel_rfl) (by decide) (uall_at ⟨⟨_, Nat.le_of_ble_eq_true rfl, (show (units c45)[0]? = some (unitAt c45 0) by kernel_rfl), x45_0⟩, trivial⟩) t45
theorem fn45 : FnOk Try.prog 45 hd45 := .inl gn45
/-! entail/field.Inv -/
noncomputable def c49 : Code := ((Try.f49).body).getD .skip
noncomputable def b49 (d : (List UInt64)) : Option ((List UInt64)) :=
  bnd (m33 ()) fun y_1 =>
  bnd (fFrom (2 : UInt64)) fun y_2 =>
  bnd (fSub (y_1, y_2)) fun y_3 =>
  bnd (m47 (d, y_3.1)) fun y_4 =>
  some y_4
noncomputable def m49 : (List UInt64) → Option ((List UInt64)) := hide b49
theorem m49_eq (d : (List UInt64)) : m49 d = b49 d := congrFun (hide_eq _) d
noncomputable def hd49 : Hd := ⟨[.d (.arr 4 (.int .u64))], [.d (.arr 4 (.int .u64))], m49⟩
theorem ok49 : Okk Try.prog (env 14 [(28, hd28), (33, hd33), (47, hd47), (52, hd52)]) := okk tab_ok (n := 14) (hs := [(28, hd28), (33, hd33), (47, hd47), (52, hd52)]) ⟨fn28, fn33, fn47, fn52, trivial⟩ mixed
set_option maxRecDepth 100000 in
theorem r49 (d : Dat hd49.pks) : runF (env 14 [(28, hd28), (33, hd33), (47, hd47), (52, hd52)]) (lkU []) c49 (Try.f49).results.toList [] hd49.pks hd49.rks d = b49 d := by kernel_rfl
theorem q49 (d : Dat hd49.pks) (y : Dat hd49.rks) : (hd49.fm d = some y) = (m49 d = some y) := by kernel_rfl
theorem t49 (d : Dat hd49.pks) (y : Dat hd49.rks) (h : hd49.fm d = some y) : runF (env 14 [(28, hd28), (33, hd33), (47, hd47), (52, hd52)]) (lkU []) c49 (Try.f49).results.toList [] hd49.pks hd49.rks d = some y := (r49 d).trans ((m49_eq d).symm.trans ((q49 d y).mp h))
theorem gn49 : FnG Try.prog 49 hd49 :=
  fn_g (hl := lkU []) (un := []) ok49 (fun _ => rfl) Try.func49 rfl Try.ntmps49 (by kernel_rfl) (rv := (Try.f49).results.toList) (by kernel_rfl) (by decide) (uall_at trivial) t49
theorem fn49 : FnOk Try.prog 49 hd49 := .inl gn49
/-! entail/entaillaw12.alive -/
noncomputable def c32 : Code := ((Try.f32).body).getD .skip
noncomputable def b32 (_d : Unit) : Option (Bool) :=
  bnd (m33 ()) fun y_1 =>
  let t9_2 : List UInt64 := [(1 : UInt64), (0 : UInt64), (0 : UInt64), (0 : UInt64)]
  bnd (fSub (y_1, t9_2)) fun y_3 =>
  let t14_4 : List UInt64 := [(4 : UInt64), (0 : UInt64), (0 : UInt64), (0 : UInt64)]
  bnd (m45 t14_4) fun y_5 =>
  let t19_6 : List UInt64 := [(2 : UInt64), (0 : UInt64), (0 : UInt64), (0 : UInt64)]
  bnd (m37 (y_3.1, t19_6)) fun y_7 =>
  let t21_8 : List UInt64 := [(1 : UInt64), (0 : UInt64), (0 : UInt64), (0 : UInt64)]
  cnd (eqD (.arr 4 (.int .u64)) y_7 t21_8)
   (let t25_9 : List UInt64 := [(2 : UInt64), (0 : UInt64), (0 : UInt64), (0 : UInt64)]
   cnd (eqD (.arr 4 (.int .u64)) y_5.1 t25_9)
    (cnd y_5.2
     (let t32_10 : List UInt64 := [(3 : UInt64), (0 : UInt64), (0 : UInt64), (0 : UInt64)]
     let t33_11 : List UInt64 := [(5 : UInt64), (0 : UInt64), (0 : UInt64), (0 : UInt64)]
     bnd (m43 (t32_10, t33_11)) fun y_12 =>
     let t35_13 : List UInt64 := [(15 : UInt64), (0 : UInt64), (0 : UInt64), (0 : UInt64)]
     cnd (eqD (.arr 4 (.int .u64)) y_12 t35_13)
      (let t39_14 : List UInt64 := [(1 : UInt64), (0 : UInt64), (0 : UInt64), (0 : UInt64)]
      bnd (m49 t39_14) fun y_15 =>
      let t41_16 : List UInt64 := [(1 : UInt64), (0 : UInt64), (0 : UInt64), (0 : UInt64)]
      some (eqD (.arr 4 (.int .u64)) y_15 t41_16))
      (some false))
     (some false))
    (some false))
   (some false)
noncomputable def m32 : Unit → Option (Bool) := hide b32
theorem m32_eq (d : Unit) : m32 d = b32 d := congrFun (hide_eq _) d
noncomputable def hd32 : Hd := ⟨[], [.d (.bool)], m32⟩
theorem ok32 : Okk Try.prog (env 44 [(28, hd28), (33, hd33), (37, hd37), (43, hd43), (45, hd45), (49, hd49)]) := okk tab_ok (n := 44) (hs := [(28, hd28), (33, hd33), (37, hd37), (43, hd43), (45, hd45), (49, hd49)]) ⟨fn28, fn33, fn37, fn43, fn45, fn49, trivial⟩ mixed
set_option maxRecDepth 100000 in
theorem r32 (d : Dat hd32.pks) : runF (env 44 [(28, hd28), (33, hd33), (37, hd37), (43, hd43), (45, hd45), (49, hd49)]) (lkU []) c32 (Try.f32).results.toList [] hd32.pks hd32.rks d = b32 d := by kernel_rfl
theorem q32 (d : Dat hd32.pks) (y : Dat hd32.rks) : (hd32.fm d = some y) = (m32 d = some y) := by kernel_rfl
theorem t32 (d : Dat hd32.pks) (y : Dat hd32.rks) (h : hd32.fm d = some y) : runF (env 44 [(28, hd28), (33, hd33), (37, hd37), (43, hd43), (45, hd45), (49, hd49)]) (lkU []) c32 (Try.f32).results.toList [] hd32.pks hd32.rks d = some y := (r32 d).trans ((m32_eq d).symm.trans ((q32 d y).mp h))
theorem gn32 : FnG Try.prog 32 hd32 :=
  fn_g (hl := lkU []) (un := []) ok32 (fun _ => rfl) Try.func32 rfl Try.ntmps32 (by kernel_rfl) (rv := (Try.f32).results.toList) (by kernel_rfl) (by decide) (uall_at trivial) t32
theorem fn32 : FnOk Try.prog 32 hd32 := .inl gn32
/-! entail/entailref12.Prime -/
noncomputable def c34 : Code := ((Try.f34).body).getD .skip
noncomputable def b34 (_d : Unit) : Option ((List UInt64)) :=
  let t1_1 : List UInt64 := [(18446744069414583343 : UInt64), (18446744073709551615 : UInt64), (18446744073709551615 : UInt64), (18446744073709551615 : UInt64)]
  some t1_1
noncomputable def m34 : Unit → Option ((List UInt64)) := hide b34
theorem m34_eq (d : Unit) : m34 d = b34 d := congrFun (hide_eq _) d
noncomputable def hd34 : Hd := ⟨[], [.d (.arr 4 (.int .u64))], m34⟩
theorem ok34 : Okk Try.prog (env 2 []) := okk tab_ok (n := 2) (hs := []) trivial mixed
set_option maxRecDepth 100000 in
theorem r34 (d : Dat hd34.pks) : runF (env 2 []) (lkU []) c34 (Try.f34).results.toList [] hd34.pks hd34.rks d = b34 d := by kernel_rfl
theorem q34 (d : Dat hd34.pks) (y : Dat hd34.rks) : (hd34.fm d = some y) = (m34 d = some y) := by kernel_rfl
theorem t34 (d : Dat hd34.pks) (y : Dat hd34.rks) (h : hd34.fm d = some y) : runF (env 2 []) (lkU []) c34 (Try.f34).results.toList [] hd34.pks hd34.rks d = some y := (r34 d).trans ((m34_eq d).symm.trans ((q34 d y).mp h))
theorem gn34 : FnG Try.prog 34 hd34 :=
  fn_g (hl := lkU []) (un := []) ok34 (fun _ => rfl) Try.func34 rfl Try.ntmps34 (by kernel_rfl) (rv := (Try.f34).results.toList) (by kernel_rfl) (by decide) (uall_at trivial) t34
theorem fn34 : FnOk Try.prog 34 hd34 := .inl gn34
/-! entail/entailref12.Less -/
noncomputable def c74 : Code := ((Try.f74).body).getD .skip
def h74_0 : Sh := ⟨[.d (.int .u64), .d (.int .i64), .d (.arr 4 (.int .u64)), .d (.arr 4 (.int .u64)), .d (.arr 4 (.int .u64)), .d (.arr 4 (.int .u64))], [7, 8], [(2, [.arr 4 (.int .u64)]), (3, [.arr 4 (.int .u64)]), (4, [.arr 4 (.int .u64)]), (6, [.arr 4 (.int .u64)])], [], []⟩
def o74_0 : Outs := ⟨⟨[], [], [], [], []⟩, 0, ⟨[.d (.int .u64), .d (.arr 4 (.int .u64)), .d (.arr 4 (.int .u64))], [7], [(4, [.arr 4 (.int .u64)]), (6, [.arr 4 (.int .u64)])], [], []⟩, ⟨[], [], [], [], []⟩⟩
noncomputable def k74_0 (f : UInt64 × Int × (List UInt64) × (List UInt64) × (List UInt64) × (List UInt64) → Option (O3 (Unit) (UInt64 × (List UInt64) × (List UInt64)) (Unit))) (d : UInt64 × Int × (List UInt64) × (List UInt64) × (List UInt64) × (List UInt64)) : Option (O3 (Unit) (UInt64 × (List UInt64) × (List UInt64)) (Unit)) :=
  cnd (decide (d.2.1 < (4 : Int)))
   (guard (inB d.2.1 4) <|
   let t17_2 : UInt64 := (List.getD d.2.2.1 d.2.1.toNat (0 : UInt64))
   guard (inB d.2.1 4) <|
   let t20_3 : UInt64 := (List.getD d.2.2.2.1 d.2.1.toNat (0 : UInt64))
   let t21_4 : UInt64 := (t17_2 - t20_3)
   let t23_5 : UInt64 := (t21_4 - d.1)
   guard (inB d.2.1 4) <|
   let m3_6 : List UInt64 := (List.set d.2.2.2.2.2 d.2.1.toNat t23_5)
   guard (inB d.2.1 4) <|
   let t27_7 : UInt64 := (List.getD d.2.2.1 d.2.1.toNat (0 : UInt64))
   guard (inB d.2.1 4) <|
   let t30_8 : UInt64 := (List.getD d.2.2.2.1 d.2.1.toNat (0 : UInt64))
   cnd (decide (t27_7 < t30_8))
    (guard (inR .i64 (d.2.1 + (1 : Int))) <|
    let t13_9 : Int := (d.2.1 + (1 : Int))
    f ((1 : UInt64), t13_9, d.2.2.1, d.2.2.2.1, d.2.2.2.2.1, m3_6))
    (guard (inB d.2.1 4) <|
    let t35_10 : UInt64 := (List.getD d.2.2.1 d.2.1.toNat (0 : UInt64))
    guard (inB d.2.1 4) <|
    let t38_11 : UInt64 := (List.getD d.2.2.2.1 d.2.1.toNat (0 : UInt64))
    cnd (decide (t35_10 = t38_11))
     (cnd (decide (d.1 = (1 : UInt64)))
      (guard (inR .i64 (d.2.1 + (1 : Int))) <|
      let t13_12 : Int := (d.2.1 + (1 : Int))
      f ((1 : UInt64), t13_12, d.2.2.1, d.2.2.2.1, d.2.2.2.2.1, m3_6))
      (guard (inR .i64 (d.2.1 + (1 : Int))) <|
      let t13_13 : Int := (d.2.1 + (1 : Int))
      f ((0 : UInt64), t13_13, d.2.2.1, d.2.2.2.1, d.2.2.2.2.1, m3_6)))
     (guard (inR .i64 (d.2.1 + (1 : Int))) <|
     let t13_14 : Int := (d.2.1 + (1 : Int))
     f ((0 : UInt64), t13_14, d.2.2.1, d.2.2.2.1, d.2.2.2.2.1, m3_6))))
   (some (.x (d.1, d.2.2.2.2.1, d.2.2.2.2.2)))
noncomputable def l74_0 : UInt64 × Int × (List UInt64) × (List UInt64) × (List UInt64) × (List UInt64) → Option (O3 (Unit) (UInt64 × (List UInt64) × (List UInt64)) (Unit)) := itN k74_0 fuel
noncomputable def u74_0 : UH := unit (env 47 []) h74_0 o74_0 l74_0
noncomputable def b74 (d : (List UInt64) × (List UInt64)) : Option ((List UInt64) × UInt64) :=
  let t9_1 : List UInt64 := [(0 : UInt64), (0 : UInt64), (0 : UInt64), (0 : UInt64)]
  bnd (l74_0 ((0 : UInt64), (0 : Int), d.1, d.2, (List.replicate 4 (0 : UInt64)), t9_1)) fun o => (match o with
   | .n _o => none
   | .x o => (some (o.2.2, o.1))
   | .r _o => none)
noncomputable def m74 : ((List UInt64) × (List UInt64)) → Option ((List UInt64) × UInt64) := hide b74
theorem m74_eq (d : (List UInt64) × (List UInt64)) : m74 d = b74 d := congrFun (hide_eq _) d
noncomputable def hd74 : Hd := ⟨[.d (.arr 4 (.int .u64)), .d (.arr 4 (.int .u64))], [.d (.arr 4 (.int .u64)), .d (.int .u64)], m74⟩
theorem ok74 : Okk Try.prog (env 47 []) := okk tab_ok (n := 47) (hs := []) trivial mixed
set_option maxRecDepth 100000 in
theorem e74_0 (f : Dat h74_0.ks → Option o74_0.O) (d : Dat h74_0.ks) : loopF (env 47 []) (lkU []) 0 (lbody (unitAt c74 0)) h74_0 o74_0 f d = k74_0 f d := by kernel_rfl
theorem x74_0 : UOk Try.prog (env 47 []) (unitAt c74 0) u74_0 ∧ Pk Try.prog (env 47 []) u74_0.pk u74_0.up :=
  loop_at ok74 (show unitAt c74 0 = .loop (lbody (unitAt c74 0)) by kernel_rfl) (h := h74_0) (o := o74_0) (n := 0) (hl := lkU []) (uall_at trivial) k74_0 fuel e74_0
set_option maxRecDepth 100000 in
theorem r74 (d : Dat hd74.pks) : runF (env 47 []) (lkU [(0, u74_0)]) c74 (Try.f74).results.toList [] hd74.pks hd74.rks d = b74 d := by kernel_rfl
theorem q74 (d : Dat hd74.pks) (y : Dat hd74.rks) : (hd74.fm d = some y) = (m74 d = some y) := by kernel_rfl
theorem t74 (d : Dat hd74.pks) (y : Dat hd74.rks) (h : hd74.fm d = some y) : runF (env 47 []) (lkU [(0, u74_0)]) c74 (Try.f74).results.toList [] hd74.pks hd74.rks d = some y := (r74 d).trans ((m74_eq d).symm.trans ((q74 d y).mp h))
theorem gn74 : FnG Try.prog 74 hd74 :=
  fn_g (hl := lkU [(0, u74_0)]) (un := []) ok74 (fun _ => rfl) Try.func74 rfl Try.ntmps74 (by kernel_rfl) (rv := (Try.f74).results.toList) (by kernel_rfl) (by decide) (uall_at ⟨⟨_, Nat.le_of_ble_eq_true rfl, (show (units c74)[0]? = some (unitAt c74 0) by kernel_rfl), x74_0⟩, trivial⟩) t74
theorem fn74 : FnOk Try.prog 74 hd74 := .inl gn74
/-! entail/entailref12.below -/
noncomputable def c71 : Code := ((Try.f71).body).getD .skip
def h71_0 : Sh := ⟨[.d (.arr 4 (.int .u64)), .d (.arr 4 (.int .u64))], [], [(1, [.arr 4 (.int .u64)]), (2, [.arr 4 (.int .u64)])], [], []⟩
def o71_0 : Outs := ⟨⟨[.d (.int .u64), .d (.arr 4 (.int .u64)), .d (.arr 4 (.int .u64)), .d (.arr 4 (.int .u64))], [4], [(1, [.arr 4 (.int .u64)]), (2, [.arr 4 (.int .u64)]), (3, [.arr 4 (.int .u64)])], [], []⟩, 0, ⟨[], [], [], [], []⟩, ⟨[], [], [], [], []⟩⟩
def p71_0 : Plan := (.op 0 (.alt (.op 1 (.alt (.op 2 (.op 3 (.op 4 (.op 5 (.op 6 (.op 7 (.op 8 .fin))))))) (.op 6 (.op 2 (.op 3 (.op 4 (.op 5 (.op 7 (.op 8 .fin))))))))) (.op 6 (.op 1 (.op 2 (.op 3 (.op 4 (.op 5 (.op 7 (.op 8 .fin))))))))))
noncomputable def a71_0 (d : (List UInt64) × (List UInt64)) : Option (O3 (UInt64 × (List UInt64) × (List UInt64) × (List UInt64)) (Unit) (Unit)) :=
  bnd (m34 ()) fun y_1 =>
  bnd (m74 (d.1, y_1)) fun y_2 =>
  some (.n (y_2.2, d.1, d.2, y_2.1))
noncomputable def l71_0 : ((List UInt64) × (List UInt64)) → Option (O3 (UInt64 × (List UInt64) × (List UInt64) × (List UInt64)) (Unit) (Unit)) := hide a71_0
theorem l71_0_eq (d : (List UInt64) × (List UInt64)) : l71_0 d = a71_0 d := congrFun (hide_eq _) d
noncomputable def g71_0 (d : (List UInt64) × (List UInt64)) : Option (List (O3 (UInt64 × (List UInt64) × (List UInt64) × (List UInt64)) (Unit) (Unit))) :=
  bnd
   (bnd (m34 ()) fun y_4 =>
   bnd
    (bnd (m74 (d.1, y_4)) fun y_6 =>
    some [.n (y_6.2, d.1, d.2, y_6.1)]) fun x_5 =>
   bnd
    (bnd (m74 (d.1, y_4)) fun y_7 =>
    some [.n (y_7.2, d.1, d.2, y_7.1)]) fun x_8 =>
   some (x_5 ++ x_8)) fun x_3 =>
  bnd
   (bnd (m34 ()) fun y_9 =>
   bnd (m74 (d.1, y_9)) fun y_10 =>
   some [.n (y_10.2, d.1, d.2, y_10.1)]) fun x_11 =>
  some (x_3 ++ x_11)
theorem j71_0 (d : (List UInt64) × (List UInt64)) (y : O3 (UInt64 × (List UInt64) × (List UInt64) × (List UInt64)) (Unit) (Unit)) (hd : l71_0 d = some y) : ∃ r, g71_0 d = some r ∧ ∀ x ∈ r, x = y := by
  rw [l71_0_eq] at hd
  unfold a71_0 at hd
  obtain ⟨y_1, h0, hd⟩ := bnd_some hd
  obtain ⟨y_2, h1, hd⟩ := bnd_some hd
  obtain rfl := Option.some.inj hd
  refine ⟨_, by unfold g71_0; simp only [h0, h1, bnd_s]; rfl, by simp⟩
noncomputable def u71_0 : UH := unit (env 15 [(34, hd34), (74, hd74)]) h71_0 o71_0 l71_0
noncomputable def b71 (d : (List UInt64)) : Option ((List UInt64)) :=
  bnd (l71_0 (d, (List.replicate 4 (0 : UInt64)))) fun o => (match o with
   | .n o => (cnd (decide (o.1 = (1 : UInt64)))
    (some o.2.1)
    (some o.2.2.2))
   | .x _o => none
   | .r _o => none)
noncomputable def m71 : (List UInt64) → Option ((List UInt64)) := hide b71
theorem m71_eq (d : (List UInt64)) : m71 d = b71 d := congrFun (hide_eq _) d
noncomputable def hd71 : Hd := ⟨[.d (.arr 4 (.int .u64))], [.d (.arr 4 (.int .u64))], m71⟩
theorem ok71 : Okk Try.prog (env 15 [(34, hd34), (74, hd74)]) := okk tab_ok (n := 15) (hs := [(34, hd34), (74, hd74)]) ⟨fn34, fn74, trivial⟩ mixed
set_option maxRecDepth 100000 in
theorem e71_0 (d : Dat h71_0.ks) : regF (env 15 [(34, hd34), (74, hd74)]) (unitAt c71 0) p71_0 h71_0 o71_0 d = g71_0 d := by kernel_rfl
theorem x71_0 : UOk Try.prog (env 15 [(34, hd34), (74, hd74)]) (unitAt c71 0) u71_0 ∧ Pk Try.prog (env 15 [(34, hd34), (74, hd74)]) u71_0.pk u71_0.up :=
  reg_at ok71 (show regOk (env 15 [(34, hd34), (74, hd74)]) (unitAt c71 0) p71_0 = true by kernel_rfl) (h := h71_0) (o := o71_0) l71_0 (fun d y hy => by obtain ⟨r, h1, h2⟩ := j71_0 d y hy; exact ⟨r, (e71_0 d).trans h1, h2⟩)
set_option maxRecDepth 100000 in
theorem r71 (d : Dat hd71.pks) : runF (env 15 [(34, hd34), (74, hd74)]) (lkU [(0, u71_0)]) c71 (Try.f71).results.toList [] hd71.pks hd71.rks d = b71 d := by kernel_rfl
theorem q71 (d : Dat hd71.pks) (y : Dat hd71.rks) : (hd71.fm d = some y) = (m71 d = some y) := by kernel_rfl
theorem t71 (d : Dat hd71.pks) (y : Dat hd71.rks) (h : hd71.fm d = some y) : runF (env 15 [(34, hd34), (74, hd74)]) (lkU [(0, u71_0)]) c71 (Try.f71).results.toList [] hd71.pks hd71.rks d = some y := (r71 d).trans ((m71_eq d).symm.trans ((q71 d y).mp h))
theorem gn71 : FnG Try.prog 71 hd71 :=
  fn_g (hl := lkU [(0, u71_0)]) (un := []) ok71 (fun _ => rfl) Try.func71 rfl Try.ntmps71 (by kernel_rfl) (rv := (Try.f71).results.toList) (by kernel_rfl) (by decide) (uall_at ⟨⟨_, Nat.le_of_ble_eq_true rfl, (show (units c71)[0]? = some (unitAt c71 0) by kernel_rfl), x71_0⟩, trivial⟩) t71
theorem fn71 : FnOk Try.prog 71 hd71 := .inl gn71
/-! entail/entailref12.Reduce -/
noncomputable def c36 : Code := ((Try.f36).body).getD .skip
noncomputable def b36 (d : (List UInt64)) : Option ((List UInt64)) :=
  bnd (m71 d) fun y_1 =>
  some y_1
noncomputable def m36 : (List UInt64) → Option ((List UInt64)) := hide b36
theorem m36_eq (d : (List UInt64)) : m36 d = b36 d := congrFun (hide_eq _) d
noncomputable def hd36 : Hd := ⟨[.d (.arr 4 (.int .u64))], [.d (.arr 4 (.int .u64))], m36⟩
theorem ok36 : Okk Try.prog (env 5 [(71, hd71)]) := okk tab_ok (n := 5) (hs := [(71, hd71)]) ⟨fn71, trivial⟩ mixed
set_option maxRecDepth 100000 in
theorem r36 (d : Dat hd36.pks) : runF (env 5 [(71, hd71)]) (lkU []) c36 (Try.f36).results.toList [] hd36.pks hd36.rks d = b36 d := by kernel_rfl
theorem q36 (d : Dat hd36.pks) (y : Dat hd36.rks) : (hd36.fm d = some y) = (m36 d = some y) := by kernel_rfl
theorem t36 (d : Dat hd36.pks) (y : Dat hd36.rks) (h : hd36.fm d = some y) : runF (env 5 [(71, hd71)]) (lkU []) c36 (Try.f36).results.toList [] hd36.pks hd36.rks d = some y := (r36 d).trans ((m36_eq d).symm.trans ((q36 d y).mp h))
theorem gn36 : FnG Try.prog 36 hd36 :=
  fn_g (hl := lkU []) (un := []) ok36 (fun _ => rfl) Try.func36 rfl Try.ntmps36 (by kernel_rfl) (rv := (Try.f36).results.toList) (by kernel_rfl) (by decide) (uall_at trivial) t36
theorem fn36 : FnOk Try.prog 36 hd36 := .inl gn36
/-! entail/entailref12.More -/
noncomputable def c73 : Code := ((Try.f73).body).getD .skip
def h73_0 : Sh := ⟨[.d (.int .u64), .d (.int .i64), .d (.arr 4 (.int .u64)), .d (.arr 4 (.int .u64)), .d (.arr 4 (.int .u64)), .d (.arr 4 (.int .u64))], [7, 8], [(2, [.arr 4 (.int .u64)]), (3, [.arr 4 (.int .u64)]), (4, [.arr 4 (.int .u64)]), (6, [.arr 4 (.int .u64)])], [], []⟩
def o73_0 : Outs := ⟨⟨[], [], [], [], []⟩, 0, ⟨[.d (.int .u64), .d (.arr 4 (.int .u64)), .d (.arr 4 (.int .u64))], [7], [(4, [.arr 4 (.int .u64)]), (6, [.arr 4 (.int .u64)])], [], []⟩, ⟨[], [], [], [], []⟩⟩
noncomputable def k73_0 (f : UInt64 × Int × (List UInt64) × (List UInt64) × (List UInt64) × (List UInt64) → Option (O3 (Unit) (UInt64 × (List UInt64) × (List UInt64)) (Unit))) (d : UInt64 × Int × (List UInt64) × (List UInt64) × (List UInt64) × (List UInt64)) : Option (O3 (Unit) (UInt64 × (List UInt64) × (List UInt64)) (Unit)) :=
  cnd (decide (d.2.1 < (4 : Int)))
   (guard (inB d.2.1 4) <|
   let t18_2 : UInt64 := (List.getD d.2.2.1 d.2.1.toNat (0 : UInt64))
   guard (inB d.2.1 4) <|
   let t21_3 : UInt64 := (List.getD d.2.2.2.1 d.2.1.toNat (0 : UInt64))
   let t22_4 : UInt64 := (t18_2 + t21_3)
   let t25_5 : UInt64 := (t22_4 + d.1)
   guard (inB d.2.1 4) <|
   let t29_6 : UInt64 := (List.getD d.2.2.1 d.2.1.toNat (0 : UInt64))
   cnd (decide (t22_4 < t29_6))
    (guard (inB d.2.1 4) <|
    let m3_7 : List UInt64 := (List.set d.2.2.2.2.2 d.2.1.toNat t25_5)
    guard (inR .i64 (d.2.1 + (1 : Int))) <|
    let t15_8 : Int := (d.2.1 + (1 : Int))
    f ((1 : UInt64), t15_8, d.2.2.1, d.2.2.2.1, d.2.2.2.2.1, m3_7))
    (cnd (decide (t25_5 < t22_4))
     (guard (inB d.2.1 4) <|
     let m3_9 : List UInt64 := (List.set d.2.2.2.2.2 d.2.1.toNat t25_5)
     guard (inR .i64 (d.2.1 + (1 : Int))) <|
     let t15_10 : Int := (d.2.1 + (1 : Int))
     f ((1 : UInt64), t15_10, d.2.2.1, d.2.2.2.1, d.2.2.2.2.1, m3_9))
     (guard (inB d.2.1 4) <|
     let m3_11 : List UInt64 := (List.set d.2.2.2.2.2 d.2.1.toNat t25_5)
     guard (inR .i64 (d.2.1 + (1 : Int))) <|
     let t15_12 : Int := (d.2.1 + (1 : Int))
     f ((0 : UInt64), t15_12, d.2.2.1, d.2.2.2.1, d.2.2.2.2.1, m3_11))))
   (some (.x (d.1, d.2.2.2.2.1, d.2.2.2.2.2)))
noncomputable def l73_0 : UInt64 × Int × (List UInt64) × (List UInt64) × (List UInt64) × (List UInt64) → Option (O3 (Unit) (UInt64 × (List UInt64) × (List UInt64)) (Unit)) := itN k73_0 fuel
noncomputable def u73_0 : UH := unit (env 41 []) h73_0 o73_0 l73_0
noncomputable def b73 (d : (List UInt64) × (List UInt64)) : Option ((List UInt64) × UInt64) :=
  let t11_1 : List UInt64 := [(0 : UInt64), (0 : UInt64), (0 : UInt64), (0 : UInt64)]
  bnd (l73_0 ((0 : UInt64), (0 : Int), d.1, d.2, (List.replicate 4 (0 : UInt64)), t11_1)) fun o => (match o with
   | .n _o => none
   | .x o => (some (o.2.2, o.1))
   | .r _o => none)
noncomputable def m73 : ((List UInt64) × (List UInt64)) → Option ((List UInt64) × UInt64) := hide b73
theorem m73_eq (d : (List UInt64) × (List UInt64)) : m73 d = b73 d := congrFun (hide_eq _) d
noncomputable def hd73 : Hd := ⟨[.d (.arr 4 (.int .u64)), .d (.arr 4 (.int .u64))], [.d (.arr 4 (.int .u64)), .d (.int .u64)], m73⟩
theorem ok73 : Okk Try.prog (env 41 []) := okk tab_ok (n := 41) (hs := []) trivial mixed
set_option maxRecDepth 100000 in
theorem e73_0 (f : Dat h73_0.ks → Option o73_0.O) (d : Dat h73_0.ks) : loopF (env 41 []) (lkU []) 0 (lbody (unitAt c73 0)) h73_0 o73_0 f d = k73_0 f d := by kernel_rfl
theorem x73_0 : UOk Try.prog (env 41 []) (unitAt c73 0) u73_0 ∧ Pk Try.prog (env 41 []) u73_0.pk u73_0.up :=
  loop_at ok73 (show unitAt c73 0 = .loop (lbody (unitAt c73 0)) by kernel_rfl) (h := h73_0) (o := o73_0) (n := 0) (hl := lkU []) (uall_at trivial) k73_0 fuel e73_0
set_option maxRecDepth 100000 in
theorem r73 (d : Dat hd73.pks) : runF (env 41 []) (lkU [(0, u73_0)]) c73 (Try.f73).results.toList [] hd73.pks hd73.rks d = b73 d := by kernel_rfl
theorem q73 (d : Dat hd73.pks) (y : Dat hd73.rks) : (hd73.fm d = some y) = (m73 d = some y) := by kernel_rfl
theorem t73 (d : Dat hd73.pks) (y : Dat hd73.rks) (h : hd73.fm d = some y) : runF (env 41 []) (lkU [(0, u73_0)]) c73 (Try.f73).results.toList [] hd73.pks hd73.rks d = some y := (r73 d).trans ((m73_eq d).symm.trans ((q73 d y).mp h))
theorem gn73 : FnG Try.prog 73 hd73 :=
  fn_g (hl := lkU [(0, u73_0)]) (un := []) ok73 (fun _ => rfl) Try.func73 rfl Try.ntmps73 (by kernel_rfl) (rv := (Try.f73).results.toList) (by kernel_rfl) (by decide) (uall_at ⟨⟨_, Nat.le_of_ble_eq_true rfl, (show (units c73)[0]? = some (unitAt c73 0) by kernel_rfl), x73_0⟩, trivial⟩) t73
theorem fn73 : FnOk Try.prog 73 hd73 := .inl gn73
/-! entail/entailref12.Add -/
noncomputable def c38 : Code := ((Try.f38).body).getD .skip
def h38_0 : Sh := ⟨[.d (.arr 4 (.int .u64)), .d (.arr 4 (.int .u64)), .d (.arr 4 (.int .u64))], [], [(2, [.arr 4 (.int .u64)]), (3, [.arr 4 (.int .u64)]), (4, [.arr 4 (.int .u64)])], [], []⟩
def o38_0 : Outs := ⟨⟨[.d (.int .u64), .d (.arr 4 (.int .u64)), .d (.arr 4 (.int .u64))], [6], [(4, [.arr 4 (.int .u64)]), (5, [.arr 4 (.int .u64)])], [], []⟩, 0, ⟨[], [], [], [], []⟩, ⟨[], [], [], [], []⟩⟩
def p38_0 : Plan := (.op 0 (.op 2 (.alt (.op 1 (.alt (.op 3 (.alt (.op 4 (.op 5 (.op 6 (.op 7 (.op 8 (.op 9 (.op 10 .fin))))))) (.op 8 (.op 4 (.op 5 (.op 6 (.op 7 (.op 9 (.op 10 .fin))))))))) (.op 8 (.op 3 (.op 4 (.op 5 (.op 6 (.op 7 (.op 9 (.op 10 .fin)))))))))) (.op 8 (.op 1 (.op 3 (.op 4 (.op 5 (.op 6 (.op 7 (.op 9 (.op 10 .fin))))))))))))
noncomputable def a38_0 (d : (List UInt64) × (List UInt64) × (List UInt64)) : Option (O3 (UInt64 × (List UInt64) × (List UInt64)) (Unit) (Unit)) :=
  bnd (m71 d.1) fun y_1 =>
  bnd (m71 d.2.1) fun y_2 =>
  bnd (m73 (y_1, y_2)) fun y_3 =>
  some (.n (y_3.2, d.2.2, y_3.1))
noncomputable def l38_0 : ((List UInt64) × (List UInt64) × (List UInt64)) → Option (O3 (UInt64 × (List UInt64) × (List UInt64)) (Unit) (Unit)) := hide a38_0
theorem l38_0_eq (d : (List UInt64) × (List UInt64) × (List UInt64)) : l38_0 d = a38_0 d := congrFun (hide_eq _) d
noncomputable def g38_0 (d : (List UInt64) × (List UInt64) × (List UInt64)) : Option (List (O3 (UInt64 × (List UInt64) × (List UInt64)) (Unit) (Unit))) :=
  bnd
   (bnd (m71 d.1) fun y_5 =>
   bnd
    (bnd (m71 d.2.1) fun y_7 =>
    bnd
     (bnd (m73 (y_5, y_7)) fun y_9 =>
     some [.n (y_9.2, d.2.2, y_9.1)]) fun x_8 =>
    bnd
     (bnd (m73 (y_5, y_7)) fun y_10 =>
     some [.n (y_10.2, d.2.2, y_10.1)]) fun x_11 =>
    some (x_8 ++ x_11)) fun x_6 =>
   bnd
    (bnd (m71 d.2.1) fun y_12 =>
    bnd (m73 (y_5, y_12)) fun y_13 =>
    some [.n (y_13.2, d.2.2, y_13.1)]) fun x_14 =>
   some (x_6 ++ x_14)) fun x_4 =>
  bnd
   (bnd (m71 d.1) fun y_15 =>
   bnd (m71 d.2.1) fun y_16 =>
   bnd (m73 (y_15, y_16)) fun y_17 =>
   some [.n (y_17.2, d.2.2, y_17.1)]) fun x_18 =>
  some (x_4 ++ x_18)
theorem j38_0 (d : (List UInt64) × (List UInt64) × (List UInt64)) (y : O3 (UInt64 × (List UInt64) × (List UInt64)) (Unit) (Unit)) (hd : l38_0 d = some y) : ∃ r, g38_0 d = some r ∧ ∀ x ∈ r, x = y := by
  rw [l38_0_eq] at hd
  unfold a38_0 at hd
  obtain ⟨y_1, h0, hd⟩ := bnd_some hd
  obtain ⟨y_2, h1, hd⟩ := bnd_some hd
  obtain ⟨y_3, h2, hd⟩ := bnd_some hd
  obtain rfl := Option.some.inj hd
  refine ⟨_, by unfold g38_0; simp only [h0, h1, h2, bnd_s]; rfl, by simp⟩
noncomputable def u38_0 : UH := unit (env 25 [(71, hd71), (73, hd73)]) h38_0 o38_0 l38_0
noncomputable def b38 (d : (List UInt64) × (List UInt64)) : Option ((List UInt64)) :=
  bnd (l38_0 (d.1, d.2, (List.replicate 4 (0 : UInt64)))) fun o => (match o with
   | .n o => (cnd (decide (o.1 = (1 : UInt64)))
    (let t19_19 : List UInt64 := [(4294968273 : UInt64), (0 : UInt64), (0 : UInt64), (0 : UInt64)]
    bnd (m73 (o.2.2, t19_19)) fun y_20 =>
    bnd (m71 y_20.1) fun y_21 =>
    some y_21)
    (bnd (m71 o.2.2) fun y_22 =>
    some y_22))
   | .x _o => none
   | .r _o => none)
noncomputable def m38 : ((List UInt64) × (List UInt64)) → Option ((List UInt64)) := hide b38
theorem m38_eq (d : (List UInt64) × (List UInt64)) : m38 d = b38 d := congrFun (hide_eq _) d
noncomputable def hd38 : Hd := ⟨[.d (.arr 4 (.int .u64)), .d (.arr 4 (.int .u64))], [.d (.arr 4 (.int .u64))], m38⟩
theorem ok38 : Okk Try.prog (env 25 [(71, hd71), (73, hd73)]) := okk tab_ok (n := 25) (hs := [(71, hd71), (73, hd73)]) ⟨fn71, fn73, trivial⟩ mixed
set_option maxRecDepth 100000 in
theorem e38_0 (d : Dat h38_0.ks) : regF (env 25 [(71, hd71), (73, hd73)]) (unitAt c38 0) p38_0 h38_0 o38_0 d = g38_0 d := by kernel_rfl
theorem x38_0 : UOk Try.prog (env 25 [(71, hd71), (73, hd73)]) (unitAt c38 0) u38_0 ∧ Pk Try.prog (env 25 [(71, hd71), (73, hd73)]) u38_0.pk u38_0.up :=
  reg_at ok38 (show regOk (env 25 [(71, hd71), (73, hd73)]) (unitAt c38 0) p38_0 = true by kernel_rfl) (h := h38_0) (o := o38_0) l38_0 (fun d y hy => by obtain ⟨r, h1, h2⟩ := j38_0 d y hy; exact ⟨r, (e38_0 d).trans h1, h2⟩)
set_option maxRecDepth 100000 in
theorem r38 (d : Dat hd38.pks) : runF (env 25 [(71, hd71), (73, hd73)]) (lkU [(0, u38_0)]) c38 (Try.f38).results.toList [] hd38.pks hd38.rks d = b38 d := by kernel_rfl
theorem q38 (d : Dat hd38.pks) (y : Dat hd38.rks) : (hd38.fm d = some y) = (m38 d = some y) := by kernel_rfl
theorem t38 (d : Dat hd38.pks) (y : Dat hd38.rks) (h : hd38.fm d = some y) : runF (env 25 [(71, hd71), (73, hd73)]) (lkU [(0, u38_0)]) c38 (Try.f38).results.toList [] hd38.pks hd38.rks d = some y := (r38 d).trans ((m38_eq d).symm.trans ((q38 d y).mp h))
theorem gn38 : FnG Try.prog 38 hd38 :=
  fn_g (hl := lkU [(0, u38_0)]) (un := []) ok38 (fun _ => rfl) Try.func38 rfl Try.ntmps38 (by kernel_rfl) (rv := (Try.f38).results.toList) (by kernel_rfl) (by decide) (uall_at ⟨⟨_, Nat.le_of_ble_eq_true rfl, (show (units c38)[0]? = some (unitAt c38 0) by kernel_rfl), x38_0⟩, trivial⟩) t38
theorem fn38 : FnOk Try.prog 38 hd38 := .inl gn38
/-! entail/entailref12.Sub -/
noncomputable def c40 : Code := ((Try.f40).body).getD .skip
def h40_2 : Sh := ⟨[.d (.arr 4 (.int .u64)), .d (.arr 4 (.int .u64))], [], [(4, [.arr 4 (.int .u64)]), (5, [.arr 4 (.int .u64)])], [], []⟩
def o40_2 : Outs := ⟨⟨[.d (.arr 4 (.int .u64)), .d (.arr 4 (.int .u64))], [], [(4, [.arr 4 (.int .u64)]), (5, [.arr 4 (.int .u64)])], [], []⟩, 0, ⟨[], [], [], [], []⟩, ⟨[], [], [], [], []⟩⟩
def p40_2 : Plan := (.alt (.op 0 (.op 1 (.op 2 (.op 3 (.op 4 (.op 5 (.op 6 .fin))))))) (.op 1 (.op 0 (.op 2 (.op 3 (.op 4 (.op 5 (.op 6 .fin))))))))
noncomputable def a40_2 (d : (List UInt64) × (List UInt64)) : Option (O3 ((List UInt64) × (List UInt64)) (Unit) (Unit)) :=
  bnd (m34 ()) fun y_19 =>
  bnd (m73 (d.2, y_19)) fun y_20 =>
  some (.n (d.1, y_20.1))
noncomputable def l40_2 : ((List UInt64) × (List UInt64)) → Option (O3 ((List UInt64) × (List UInt64)) (Unit) (Unit)) := hide a40_2
theorem l40_2_eq (d : (List UInt64) × (List UInt64)) : l40_2 d = a40_2 d := congrFun (hide_eq _) d
noncomputable def g40_2 (d : (List UInt64) × (List UInt64)) : Option (List (O3 ((List UInt64) × (List UInt64)) (Unit) (Unit))) :=
  bnd
   (bnd (m34 ()) fun y_22 =>
   bnd (m73 (d.2, y_22)) fun y_23 =>
   some [.n (d.1, y_23.1)]) fun x_21 =>
  bnd
   (bnd (m34 ()) fun y_24 =>
   bnd (m73 (d.2, y_24)) fun y_25 =>
   some [.n (d.1, y_25.1)]) fun x_26 =>
  some (x_21 ++ x_26)
theorem j40_2 (d : (List UInt64) × (List UInt64)) (y : O3 ((List UInt64) × (List UInt64)) (Unit) (Unit)) (hd : l40_2 d = some y) : ∃ r, g40_2 d = some r ∧ ∀ x ∈ r, x = y := by
  rw [l40_2_eq] at hd
  unfold a40_2 at hd
  obtain ⟨y_19, h0, hd⟩ := bnd_some hd
  obtain ⟨y_20, h1, hd⟩ := bnd_some hd
  obtain rfl := Option.some.inj hd
  refine ⟨_, by unfold g40_2; simp only [h0, h1, bnd_s]; rfl, by simp⟩
noncomputable def u40_2 : UH := unit (env 24 [(34, hd34), (71, hd71), (73, hd73), (74, hd74)]) h40_2 o40_2 l40_2
def h40_0 : Sh := ⟨[.d (.arr 4 (.int .u64)), .d (.arr 4 (.int .u64)), .d (.arr 4 (.int .u64))], [], [(2, [.arr 4 (.int .u64)]), (3, [.arr 4 (.int .u64)]), (4, [.arr 4 (.int .u64)])], [], []⟩
def o40_0 : Outs := ⟨⟨[.d (.int .u64), .d (.arr 4 (.int .u64)), .d (.arr 4 (.int .u64))], [6], [(4, [.arr 4 (.int .u64)]), (5, [.arr 4 (.int .u64)])], [], []⟩, 0, ⟨[], [], [], [], []⟩, ⟨[], [], [], [], []⟩⟩
def p40_0 : Plan := (.op 0 (.op 2 (.alt (.op 1 (.alt (.op 3 (.alt (.op 4 (.op 5 (.op 6 (.op 7 (.op 8 (.op 9 (.op 10 .fin))))))) (.op 8 (.op 4 (.op 5 (.op 6 (.op 7 (.op 9 (.op 10 .fin))))))))) (.op 8 (.op 3 (.op 4 (.op 5 (.op 6 (.op 7 (.op 9 (.op 10 .fin)))))))))) (.op 8 (.op 1 (.op 3 (.op 4 (.op 5 (.op 6 (.op 7 (.op 9 (.op 10 .fin))))))))))))
noncomputable def a40_0 (d : (List UInt64) × (List UInt64) × (List UInt64)) : Option (O3 (UInt64 × (List UInt64) × (List UInt64)) (Unit) (Unit)) :=
  bnd (m71 d.1) fun y_1 =>
  bnd (m71 d.2.1) fun y_2 =>
  bnd (m74 (y_1, y_2)) fun y_3 =>
  some (.n (y_3.2, d.2.2, y_3.1))
noncomputable def l40_0 : ((List UInt64) × (List UInt64) × (List UInt64)) → Option (O3 (UInt64 × (List UInt64) × (List UInt64)) (Unit) (Unit)) := hide a40_0
theorem l40_0_eq (d : (List UInt64) × (List UInt64) × (List UInt64)) : l40_0 d = a40_0 d := congrFun (hide_eq _) d
noncomputable def g40_0 (d : (List UInt64) × (List UInt64) × (List UInt64)) : Option (List (O3 (UInt64 × (List UInt64) × (List UInt64)) (Unit) (Unit))) :=
  bnd
   (bnd (m71 d.1) fun y_5 =>
   bnd
    (bnd (m71 d.2.1) fun y_7 =>
    bnd
     (bnd (m74 (y_5, y_7)) fun y_9 =>
     some [.n (y_9.2, d.2.2, y_9.1)]) fun x_8 =>
    bnd
     (bnd (m74 (y_5, y_7)) fun y_10 =>
     some [.n (y_10.2, d.2.2, y_10.1)]) fun x_11 =>
    some (x_8 ++ x_11)) fun x_6 =>
   bnd
    (bnd (m71 d.2.1) fun y_12 =>
    bnd (m74 (y_5, y_12)) fun y_13 =>
    some [.n (y_13.2, d.2.2, y_13.1)]) fun x_14 =>
   some (x_6 ++ x_14)) fun x_4 =>
  bnd
   (bnd (m71 d.1) fun y_15 =>
   bnd (m71 d.2.1) fun y_16 =>
   bnd (m74 (y_15, y_16)) fun y_17 =>
   some [.n (y_17.2, d.2.2, y_17.1)]) fun x_18 =>
  some (x_4 ++ x_18)
theorem j40_0 (d : (List UInt64) × (List UInt64) × (List UInt64)) (y : O3 (UInt64 × (List UInt64) × (List UInt64)) (Unit) (Unit)) (hd : l40_0 d = some y) : ∃ r, g40_0 d = some r ∧ ∀ x ∈ r, x = y := by
  rw [l40_0_eq] at hd
  unfold a40_0 at hd
  obtain ⟨y_1, h0, hd⟩ := bnd_some hd
  obtain ⟨y_2, h1, hd⟩ := bnd_some hd
  obtain ⟨y_3, h2, hd⟩ := bnd_some hd
  obtain rfl := Option.some.inj hd
  refine ⟨_, by unfold g40_0; simp only [h0, h1, h2, bnd_s]; rfl, by simp⟩
noncomputable def u40_0 : UH := unit (env 24 [(34, hd34), (71, hd71), (73, hd73), (74, hd74)]) h40_0 o40_0 l40_0
noncomputable def b40 (d : (List UInt64) × (List UInt64)) : Option ((List UInt64)) :=
  bnd (l40_0 (d.1, d.2, (List.replicate 4 (0 : UInt64)))) fun o => (match o with
   | .n o => (cnd (decide (o.1 = (1 : UInt64)))
    (bnd (l40_2 (o.2.1, o.2.2)) fun o => (match o with
     | .n o => (some o.2)
     | .x _o => none
     | .r _o => none))
    (some o.2.2))
   | .x _o => none
   | .r _o => none)
noncomputable def m40 : ((List UInt64) × (List UInt64)) → Option ((List UInt64)) := hide b40
theorem m40_eq (d : (List UInt64) × (List UInt64)) : m40 d = b40 d := congrFun (hide_eq _) d
noncomputable def hd40 : Hd := ⟨[.d (.arr 4 (.int .u64)), .d (.arr 4 (.int .u64))], [.d (.arr 4 (.int .u64))], m40⟩
theorem ok40 : Okk Try.prog (env 24 [(34, hd34), (71, hd71), (73, hd73), (74, hd74)]) := okk tab_ok (n := 24) (hs := [(34, hd34), (71, hd71), (73, hd73), (74, hd74)]) ⟨fn34, fn71, fn73, fn74, trivial⟩ mixed
set_option maxRecDepth 100000 in
theorem e40_2 (d : Dat h40_2.ks) : regF0 (env 24 [(34, hd34), (71, hd71), (73, hd73), (74, hd74)]) (unitAt c40 2) p40_2 h40_2 o40_2 d = g40_2 d := by kernel_rfl
theorem x40_2 : UOk Try.prog (env 24 [(34, hd34), (71, hd71), (73, hd73), (74, hd74)]) (unitAt c40 2) u40_2 ∧ Pk Try.prog (env 24 [(34, hd34), (71, hd71), (73, hd73), (74, hd74)]) u40_2.pk u40_2.up :=
  reg0_at ok40 (show regOk0 (env 24 [(34, hd34), (71, hd71), (73, hd73), (74, hd74)]) (unitAt c40 2) p40_2 = true by kernel_rfl) (h := h40_2) (o := o40_2) l40_2 (fun d y hy => by obtain ⟨r, h1, h2⟩ := j40_2 d y hy; exact ⟨r, (e40_2 d).trans h1, h2⟩)
set_option maxRecDepth 100000 in
theorem e40_0 (d : Dat h40_0.ks) : regF (env 24 [(34, hd34), (71, hd71), (73, hd73), (74, hd74)]) (unitAt c40 0) p40_0 h40_0 o40_0 d = g40_0 d := by kernel_rfl
theorem x40_0 : UOk Try.prog (env 24 [(34, hd34), (71, hd71), (73, hd73), (74, hd74)]) (unitAt c40 0) u40_0 ∧ Pk Try.prog (env 24 [(34, hd34), (71, hd71), (73, hd73), (74, hd74)]) u40_0.pk u40_0.up :=
  reg_at ok40 (show regOk (env 24 [(34, hd34), (71, hd71), (73, hd73), (74, hd74)]) (unitAt c40 0) p40_0 = true by kernel_rfl) (h := h40_0) (o := o40_0) l40_0 (fun d y hy => by obtain ⟨r, h1, h2⟩ := j40_0 d y hy; exact ⟨r, (e40_0 d).trans h1, h2⟩)
set_option maxRecDepth 100000 in
theorem r40 (d : Dat hd40.pks) : runF (env 24 [(34, hd34), (71, hd71), (73, hd73), (74, hd74)]) (lkU [(0, u40_0), (2, u40_2)]) c40 (Try.f40).results.toList [] hd40.pks hd40.rks d = b40 d := by kernel_rfl
theorem q40 (d : Dat hd40.pks) (y : Dat hd40.rks) : (hd40.fm d = some y) = (m40 d = some y) := by kernel_rfl
theorem t40 (d : Dat hd40.pks) (y : Dat hd40.rks) (h : hd40.fm d = some y) : runF (env 24 [(34, hd34), (71, hd71), (73, hd73), (74, hd74)]) (lkU [(0, u40_0), (2, u40_2)]) c40 (Try.f40).results.toList [] hd40.pks hd40.rks d = some y := (r40 d).trans ((m40_eq d).symm.trans ((q40 d y).mp h))
theorem gn40 : FnG Try.prog 40 hd40 :=
  fn_g (hl := lkU [(0, u40_0), (2, u40_2)]) (un := []) ok40 (fun _ => rfl) Try.func40 rfl Try.ntmps40 (by kernel_rfl) (rv := (Try.f40).results.toList) (by kernel_rfl) (by decide) (uall_at ⟨⟨_, Nat.le_of_ble_eq_true rfl, (show (units c40)[0]? = some (unitAt c40 0) by kernel_rfl), x40_0⟩, ⟨_, Nat.le_of_ble_eq_true rfl, (show (units c40)[2]? = some (unitAt c40 2) by kernel_rfl), x40_2⟩, trivial⟩) t40
theorem fn40 : FnOk Try.prog 40 hd40 := .inl gn40
/-! entail/entailref12.Neg -/
noncomputable def c42 : Code := ((Try.f42).body).getD .skip
noncomputable def b42 (d : (List UInt64)) : Option ((List UInt64)) :=
  let t3_1 : List UInt64 := [(0 : UInt64), (0 : UInt64), (0 : UInt64), (0 : UInt64)]
  bnd (m40 (t3_1, d)) fun y_2 =>
  some y_2
noncomputable def m42 : (List UInt64) → Option ((List UInt64)) := hide b42
theorem m42_eq (d : (List UInt64)) : m42 d = b42 d := congrFun (hide_eq _) d
noncomputable def hd42 : Hd := ⟨[.d (.arr 4 (.int .u64))], [.d (.arr 4 (.int .u64))], m42⟩
theorem ok42 : Okk Try.prog (env 6 [(40, hd40)]) := okk tab_ok (n := 6) (hs := [(40, hd40)]) ⟨fn40, trivial⟩ mixed
set_option maxRecDepth 100000 in
theorem r42 (d : Dat hd42.pks) : runF (env 6 [(40, hd40)]) (lkU []) c42 (Try.f42).results.toList [] hd42.pks hd42.rks d = b42 d := by kernel_rfl
theorem q42 (d : Dat hd42.pks) (y : Dat hd42.rks) : (hd42.fm d = some y) = (m42 d = some y) := by kernel_rfl
theorem t42 (d : Dat hd42.pks) (y : Dat hd42.rks) (h : hd42.fm d = some y) : runF (env 6 [(40, hd40)]) (lkU []) c42 (Try.f42).results.toList [] hd42.pks hd42.rks d = some y := (r42 d).trans ((m42_eq d).symm.trans ((q42 d y).mp h))
theorem gn42 : FnG Try.prog 42 hd42 :=
  fn_g (hl := lkU []) (un := []) ok42 (fun _ => rfl) Try.func42 rfl Try.ntmps42 (by kernel_rfl) (rv := (Try.f42).results.toList) (by kernel_rfl) (by decide) (uall_at trivial) t42
theorem fn42 : FnOk Try.prog 42 hd42 := .inl gn42
/-! entail/entailref12.halves -/
noncomputable def c75 : Code := ((Try.f75).body).getD .skip
def h75_0 : Sh := ⟨[.d (.int .i64), .d (.arr 4 (.int .u64)), .d (.arr 8 (.int .u64)), .d (.arr 8 (.int .u64))], [4], [(1, [.arr 4 (.int .u64)]), (2, [.arr 8 (.int .u64)]), (3, [.arr 8 (.int .u64)])], [], []⟩
def o75_0 : Outs := ⟨⟨[], [], [], [], []⟩, 0, ⟨[.d (.arr 8 (.int .u64)), .d (.arr 8 (.int .u64))], [], [(2, [.arr 8 (.int .u64)]), (3, [.arr 8 (.int .u64)])], [], []⟩, ⟨[], [], [], [], []⟩⟩
noncomputable def k75_0 (f : Int × (List UInt64) × (List UInt64) × (List UInt64) → Option (O3 (Unit) ((List UInt64) × (List UInt64)) (Unit))) (d : Int × (List UInt64) × (List UInt64) × (List UInt64)) : Option (O3 (Unit) ((List UInt64) × (List UInt64)) (Unit)) :=
  cnd (decide (d.1 < (8 : Int)))
   (guard (inR .i64 (d.1.tdiv (2 : Int))) <|
   let t12_2 : Int := (Int.tdiv d.1 (2 : Int))
   guard (inB t12_2 4) <|
   let t14_3 : UInt64 := (List.getD d.2.1 t12_2.toNat (0 : UInt64))
   let t16_4 : Int := (Int.tmod d.1 (2 : Int))
   guard (inR .i64 ((32 : Int) * t16_4)) <|
   let t17_5 : Int := ((32 : Int) * t16_4)
   let t18_6 : UInt64 := (ofI .u64 t17_5)
   guard (decide (0 ≤ (t18_6.toNat : Int))) <|
   let t19_7 : UInt64 := (shrK .u64 t14_3 (t18_6.toNat : Int).toNat)
   let t20_8 : UInt64 := (andK .u64 t19_7 (4294967295 : UInt64))
   guard (inB d.1 8) <|
   let m2_9 : List UInt64 := (List.set d.2.2.2 d.1.toNat t20_8)
   guard (inR .i64 (d.1 + (1 : Int))) <|
   let t9_10 : Int := (d.1 + (1 : Int))
   f (t9_10, d.2.1, d.2.2.1, m2_9))
   (some (.x (d.2.2.1, d.2.2.2)))
noncomputable def l75_0 : Int × (List UInt64) × (List UInt64) × (List UInt64) → Option (O3 (Unit) ((List UInt64) × (List UInt64)) (Unit)) := itN k75_0 fuel
noncomputable def u75_0 : UH := unit (env 23 []) h75_0 o75_0 l75_0
noncomputable def b75 (d : (List UInt64)) : Option ((List UInt64)) :=
  let t5_1 : List UInt64 := [(0 : UInt64), (0 : UInt64), (0 : UInt64), (0 : UInt64), (0 : UInt64), (0 : UInt64), (0 : UInt64), (0 : UInt64)]
  bnd (l75_0 ((0 : Int), d, (List.replicate 8 (0 : UInt64)), t5_1)) fun o => (match o with
   | .n _o => none
   | .x o => (some o.2)
   | .r _o => none)
noncomputable def m75 : (List UInt64) → Option ((List UInt64)) := hide b75
theorem m75_eq (d : (List UInt64)) : m75 d = b75 d := congrFun (hide_eq _) d
noncomputable def hd75 : Hd := ⟨[.d (.arr 4 (.int .u64))], [.d (.arr 8 (.int .u64))], m75⟩
theorem ok75 : Okk Try.prog (env 23 []) := okk tab_ok (n := 23) (hs := []) trivial mixed
set_option maxRecDepth 100000 in
theorem e75_0 (f : Dat h75_0.ks → Option o75_0.O) (d : Dat h75_0.ks) : loopF (env 23 []) (lkU []) 0 (lbody (unitAt c75 0)) h75_0 o75_0 f d = k75_0 f d := by kernel_rfl
theorem x75_0 : UOk Try.prog (env 23 []) (unitAt c75 0) u75_0 ∧ Pk Try.prog (env 23 []) u75_0.pk u75_0.up :=
  loop_at ok75 (show unitAt c75 0 = .loop (lbody (unitAt c75 0)) by kernel_rfl) (h := h75_0) (o := o75_0) (n := 0) (hl := lkU []) (uall_at trivial) k75_0 fuel e75_0
set_option maxRecDepth 100000 in
theorem r75 (d : Dat hd75.pks) : runF (env 23 []) (lkU [(0, u75_0)]) c75 (Try.f75).results.toList [] hd75.pks hd75.rks d = b75 d := by kernel_rfl
theorem q75 (d : Dat hd75.pks) (y : Dat hd75.rks) : (hd75.fm d = some y) = (m75 d = some y) := by kernel_rfl
theorem t75 (d : Dat hd75.pks) (y : Dat hd75.rks) (h : hd75.fm d = some y) : runF (env 23 []) (lkU [(0, u75_0)]) c75 (Try.f75).results.toList [] hd75.pks hd75.rks d = some y := (r75 d).trans ((m75_eq d).symm.trans ((q75 d y).mp h))
theorem gn75 : FnG Try.prog 75 hd75 :=
  fn_g (hl := lkU [(0, u75_0)]) (un := []) ok75 (fun _ => rfl) Try.func75 rfl Try.ntmps75 (by kernel_rfl) (rv := (Try.f75).results.toList) (by kernel_rfl) (by decide) (uall_at ⟨⟨_, Nat.le_of_ble_eq_true rfl, (show (units c75)[0]? = some (unitAt c75 0) by kernel_rfl), x75_0⟩, trivial⟩) t75
theorem fn75 : FnOk Try.prog 75 hd75 := .inl gn75
/-! entail/entailref12.twice -/
noncomputable def c90 : Code := ((Try.f90).body).getD .skip
def h90_0 : Sh := ⟨[.d (.int .u64), .d (.int .u64), .d (.int .u64), .d (.bool), .d (.arr 4 (.int .u64))], [0, 5, 6, 16], [(2, [.arr 4 (.int .u64)])], [], []⟩
def o90_0 : Outs := ⟨⟨[.d (.int .u64), .d (.int .u64), .d (.int .u64), .d (.arr 4 (.int .u64))], [0, 5, 6], [(2, [.arr 4 (.int .u64)])], [], []⟩, 0, ⟨[], [], [], [], []⟩, ⟨[], [], [], [], []⟩⟩
noncomputable def a90_0 (d : UInt64 × UInt64 × UInt64 × Bool × (List UInt64)) : Option (O3 (UInt64 × UInt64 × UInt64 × (List UInt64)) (Unit) (Unit)) :=
  cnd d.2.2.2.1
   (some (.n (d.1, d.2.1, (1 : UInt64), d.2.2.2.2)))
   (some (.n (d.1, d.2.1, d.2.2.1, d.2.2.2.2)))
noncomputable def l90_0 : (UInt64 × UInt64 × UInt64 × Bool × (List UInt64)) → Option (O3 (UInt64 × UInt64 × UInt64 × (List UInt64)) (Unit) (Unit)) := hide a90_0
theorem l90_0_eq (d : UInt64 × UInt64 × UInt64 × Bool × (List UInt64)) : l90_0 d = a90_0 d := congrFun (hide_eq _) d
noncomputable def u90_0 : UH := unit (env 23 []) h90_0 o90_0 l90_0
noncomputable def b90 (d : UInt64) : Option ((List UInt64)) :=
  let t8_1 : UInt64 := (d * (977 : UInt64))
  guard (decide (0 ≤ (32 : Int)) && inR .u64 ((d.toNat : Int) * 2 ^ min 32 (IntKind.bits .u64))) <|
  let t10_2 : UInt64 := (shlK .u64 d 32)
  let t13_3 : UInt64 := (t8_1 + t10_2)
  bnd (l90_0 (d, t13_3, (0 : UInt64), (decide (t13_3 < t8_1)), (List.replicate 4 (0 : UInt64)))) fun o => (match o with
   | .n o => (let t19_4 : UInt64 := (shrK .u64 o.1 32)
   let t21_5 : UInt64 := (t19_4 + o.2.2.1)
   let t22_6 : List UInt64 := [o.2.1, t21_5, (0 : UInt64), (0 : UInt64)]
   some t22_6)
   | .x _o => none
   | .r _o => none)
noncomputable def m90 : UInt64 → Option ((List UInt64)) := hide b90
theorem m90_eq (d : UInt64) : m90 d = b90 d := congrFun (hide_eq _) d
noncomputable def hd90 : Hd := ⟨[.d (.int .u64)], [.d (.arr 4 (.int .u64))], m90⟩
theorem ok90 : Okk Try.prog (env 23 []) := okk tab_ok (n := 23) (hs := []) trivial mixed
set_option maxRecDepth 100000 in
theorem e90_0 (d : Dat h90_0.ks) : condU (env 23 []) (lkU []) 0 (unitAt c90 0) h90_0 o90_0 d = a90_0 d := by kernel_rfl
theorem x90_0 : UOk Try.prog (env 23 []) (unitAt c90 0) u90_0 ∧ Pk Try.prog (env 23 []) u90_0.pk u90_0.up :=
  cond_at ok90 (show isCond (unitAt c90 0) = true by kernel_rfl) (h := h90_0) (o := o90_0) (n := 0) (hl := lkU []) rfl (uall_at trivial) l90_0 (fun d => (e90_0 d).trans (l90_0_eq d).symm)
set_option maxRecDepth 100000 in
theorem r90 (d : Dat hd90.pks) : runF (env 23 []) (lkU [(0, u90_0)]) c90 (Try.f90).results.toList [] hd90.pks hd90.rks d = b90 d := by kernel_rfl
theorem q90 (d : Dat hd90.pks) (y : Dat hd90.rks) : (hd90.fm d = some y) = (m90 d = some y) := by kernel_rfl
theorem t90 (d : Dat hd90.pks) (y : Dat hd90.rks) (h : hd90.fm d = some y) : runF (env 23 []) (lkU [(0, u90_0)]) c90 (Try.f90).results.toList [] hd90.pks hd90.rks d = some y := (r90 d).trans ((m90_eq d).symm.trans ((q90 d y).mp h))
theorem gn90 : FnG Try.prog 90 hd90 :=
  fn_g (hl := lkU [(0, u90_0)]) (un := []) ok90 (fun _ => rfl) Try.func90 rfl Try.ntmps90 (by kernel_rfl) (rv := (Try.f90).results.toList) (by kernel_rfl) (by decide) (uall_at ⟨⟨_, Nat.le_of_ble_eq_true rfl, (show (units c90)[0]? = some (unitAt c90 0) by kernel_rfl), x90_0⟩, trivial⟩) t90
theorem fn90 : FnOk Try.prog 90 hd90 := .inl gn90
/-! entail/entailref12.folded -/
noncomputable def c76 : Code := ((Try.f76).body).getD .skip
def h76_8 : Sh := ⟨[.d (.int .u64), .d (.arr 4 (.int .u64)), .d (.arr 4 (.int .u64))], [6], [(2, [.arr 4 (.int .u64)]), (7, [.arr 4 (.int .u64)])], [], []⟩
def o76_8 : Outs := ⟨⟨[.d (.int .u64), .d (.arr 4 (.int .u64)), .d (.arr 4 (.int .u64))], [10], [(2, [.arr 4 (.int .u64)]), (9, [.arr 4 (.int .u64)])], [], []⟩, 0, ⟨[], [], [], [], []⟩, ⟨[], [], [], [], []⟩⟩
def p76_8 : Plan := (.op 0 (.op 1 (.alt (.op 2 (.alt (.op 3 (.op 4 (.op 5 (.op 6 (.op 7 (.op 8 (.op 9 .fin))))))) (.op 7 (.op 3 (.op 4 (.op 5 (.op 6 (.op 8 (.op 9 .fin))))))))) (.op 7 (.op 2 (.op 3 (.op 4 (.op 5 (.op 6 (.op 8 (.op 9 .fin)))))))))))
noncomputable def a76_8 (d : UInt64 × (List UInt64) × (List UInt64)) : Option (O3 (UInt64 × (List UInt64) × (List UInt64)) (Unit) (Unit)) :=
  bnd (m90 d.1) fun y_69 =>
  bnd (m73 (d.2.2, y_69)) fun y_70 =>
  some (.n (y_70.2, d.2.1, y_70.1))
noncomputable def l76_8 : (UInt64 × (List UInt64) × (List UInt64)) → Option (O3 (UInt64 × (List UInt64) × (List UInt64)) (Unit) (Unit)) := hide a76_8
theorem l76_8_eq (d : UInt64 × (List UInt64) × (List UInt64)) : l76_8 d = a76_8 d := congrFun (hide_eq _) d
noncomputable def g76_8 (d : UInt64 × (List UInt64) × (List UInt64)) : Option (List (O3 (UInt64 × (List UInt64) × (List UInt64)) (Unit) (Unit))) :=
  bnd
   (bnd (m90 d.1) fun y_72 =>
   bnd
    (bnd (m73 (d.2.2, y_72)) fun y_74 =>
    some [.n (y_74.2, d.2.1, y_74.1)]) fun x_73 =>
   bnd
    (bnd (m73 (d.2.2, y_72)) fun y_75 =>
    some [.n (y_75.2, d.2.1, y_75.1)]) fun x_76 =>
   some (x_73 ++ x_76)) fun x_71 =>
  bnd
   (bnd (m90 d.1) fun y_77 =>
   bnd (m73 (d.2.2, y_77)) fun y_78 =>
   some [.n (y_78.2, d.2.1, y_78.1)]) fun x_79 =>
  some (x_71 ++ x_79)
theorem j76_8 (d : UInt64 × (List UInt64) × (List UInt64)) (y : O3 (UInt64 × (List UInt64) × (List UInt64)) (Unit) (Unit)) (hd : l76_8 d = some y) : ∃ r, g76_8 d = some r ∧ ∀ x ∈ r, x = y := by
  rw [l76_8_eq] at hd
  unfold a76_8 at hd
  obtain ⟨y_69, h0, hd⟩ := bnd_some hd
  obtain ⟨y_70, h1, hd⟩ := bnd_some hd
  obtain rfl := Option.some.inj hd
  refine ⟨_, by unfold g76_8; simp only [h0, h1, bnd_s]; rfl, by simp⟩
noncomputable def u76_8 : UH := unit (env 88 [(71, hd71), (73, hd73), (90, hd90)]) h76_8 o76_8 l76_8
def h76_5 : Sh := ⟨[.d (.int .u64), .d (.int .i64), .d (.arr 4 (.int .u64)), .d (.arr 10 (.int .u64)), .d (.arr 4 (.int .u64))], [6, 8], [(2, [.arr 4 (.int .u64)]), (3, [.arr 10 (.int .u64)]), (7, [.arr 4 (.int .u64)])], [], []⟩
def o76_5 : Outs := ⟨⟨[], [], [], [], []⟩, 2, ⟨[.d (.int .u64), .d (.arr 4 (.int .u64)), .d (.arr 4 (.int .u64))], [6], [(2, [.arr 4 (.int .u64)]), (7, [.arr 4 (.int .u64)])], [], []⟩, ⟨[], [], [], [], []⟩⟩
noncomputable def k76_5 (f : UInt64 × Int × (List UInt64) × (List UInt64) × (List UInt64) → Option (O3 (Unit) (UInt64 × (List UInt64) × (List UInt64)) (Unit))) (d : UInt64 × Int × (List UInt64) × (List UInt64) × (List UInt64)) : Option (O3 (Unit) (UInt64 × (List UInt64) × (List UInt64)) (Unit)) :=
  cnd (decide (d.2.1 < (4 : Int)))
   (guard (inR .i64 ((2 : Int) * d.2.1)) <|
   let t60_27 : Int := ((2 : Int) * d.2.1)
   guard (inB t60_27 10) <|
   let t62_28 : UInt64 := (List.getD d.2.2.2.1 t60_27.toNat (0 : UInt64))
   guard (inR .i64 ((2 : Int) * d.2.1)) <|
   let t64_29 : Int := ((2 : Int) * d.2.1)
   guard (inR .i64 (t64_29 + (1 : Int))) <|
   let t65_30 : Int := (t64_29 + (1 : Int))
   guard (inB t65_30 10) <|
   let t67_31 : UInt64 := (List.getD d.2.2.2.1 t65_30.toNat (0 : UInt64))
   guard (decide (0 ≤ (32 : Int)) && inR .u64 ((t67_31.toNat : Int) * 2 ^ min 32 (IntKind.bits .u64))) <|
   let t68_32 : UInt64 := (shlK .u64 t67_31 32)
   let t69_33 : UInt64 := (t62_28 + t68_32)
   guard (inB d.2.1 4) <|
   let m2_34 : List UInt64 := (List.set d.2.2.2.2 d.2.1.toNat t69_33)
   guard (inR .i64 (d.2.1 + (1 : Int))) <|
   let t57_35 : Int := (d.2.1 + (1 : Int))
   f (d.1, t57_35, d.2.2.1, d.2.2.2.1, m2_34))
   (some (.x (d.1, d.2.2.1, d.2.2.2.2)))
noncomputable def l76_5 : UInt64 × Int × (List UInt64) × (List UInt64) × (List UInt64) → Option (O3 (Unit) (UInt64 × (List UInt64) × (List UInt64)) (Unit)) := itN k76_5 fuel
noncomputable def u76_5 : UH := unit (env 88 [(71, hd71), (73, hd73), (90, hd90)]) h76_5 o76_5 l76_5
def h76_4 : Sh := ⟨[.d (.int .u64), .d (.int .i64), .d (.bool), .d (.arr 16 (.int .u64)), .d (.arr 4 (.int .u64)), .d (.arr 10 (.int .u64))], [4, 5, 34], [(1, [.arr 16 (.int .u64)]), (2, [.arr 4 (.int .u64)]), (3, [.arr 10 (.int .u64)])], [], []⟩
def o76_4 : Outs := ⟨⟨[.d (.int .u64), .d (.int .i64), .d (.arr 16 (.int .u64)), .d (.arr 4 (.int .u64)), .d (.arr 10 (.int .u64))], [4, 5], [(1, [.arr 16 (.int .u64)]), (2, [.arr 4 (.int .u64)]), (3, [.arr 10 (.int .u64)])], [], []⟩, 0, ⟨[], [], [], [], []⟩, ⟨[], [], [], [], []⟩⟩
noncomputable def a76_4 (d : UInt64 × Int × Bool × (List UInt64) × (List UInt64) × (List UInt64)) : Option (O3 (UInt64 × Int × (List UInt64) × (List UInt64) × (List UInt64)) (Unit) (Unit)) :=
  cnd d.2.2.1
   (guard (inR .i64 ((7 : Int) + d.2.1)) <|
   let t37_15 : Int := ((7 : Int) + d.2.1)
   guard (inB t37_15 16) <|
   let t39_16 : UInt64 := (List.getD d.2.2.2.1 t37_15.toNat (0 : UInt64))
   let t40_17 : UInt64 := (d.1 + t39_16)
   some (.n (t40_17, d.2.1, d.2.2.2.1, d.2.2.2.2.1, d.2.2.2.2.2)))
   (some (.n (d.1, d.2.1, d.2.2.2.1, d.2.2.2.2.1, d.2.2.2.2.2)))
noncomputable def l76_4 : (UInt64 × Int × Bool × (List UInt64) × (List UInt64) × (List UInt64)) → Option (O3 (UInt64 × Int × (List UInt64) × (List UInt64) × (List UInt64)) (Unit) (Unit)) := hide a76_4
theorem l76_4_eq (d : UInt64 × Int × Bool × (List UInt64) × (List UInt64) × (List UInt64)) : l76_4 d = a76_4 d := congrFun (hide_eq _) d
noncomputable def u76_4 : UH := unit (env 88 [(71, hd71), (73, hd73), (90, hd90)]) h76_4 o76_4 l76_4
def h76_2 : Sh := ⟨[.d (.int .u64), .d (.int .i64), .d (.bool), .d (.arr 16 (.int .u64)), .d (.arr 4 (.int .u64)), .d (.arr 10 (.int .u64))], [4, 5, 17], [(1, [.arr 16 (.int .u64)]), (2, [.arr 4 (.int .u64)]), (3, [.arr 10 (.int .u64)])], [], []⟩
def o76_2 : Outs := ⟨⟨[.d (.int .u64), .d (.int .i64), .d (.arr 16 (.int .u64)), .d (.arr 4 (.int .u64)), .d (.arr 10 (.int .u64))], [4, 5], [(1, [.arr 16 (.int .u64)]), (2, [.arr 4 (.int .u64)]), (3, [.arr 10 (.int .u64)])], [], []⟩, 0, ⟨[], [], [], [], []⟩, ⟨[], [], [], [], []⟩⟩
noncomputable def a76_2 (d : UInt64 × Int × Bool × (List UInt64) × (List UInt64) × (List UInt64)) : Option (O3 (UInt64 × Int × (List UInt64) × (List UInt64) × (List UInt64)) (Unit) (Unit)) :=
  cnd d.2.2.1
   (guard (inB d.2.1 16) <|
   let t21_2 : UInt64 := (List.getD d.2.2.2.1 d.2.1.toNat (0 : UInt64))
   let t22_3 : UInt64 := (d.1 + t21_2)
   guard (inR .i64 ((8 : Int) + d.2.1)) <|
   let t24_4 : Int := ((8 : Int) + d.2.1)
   guard (inB t24_4 16) <|
   let t26_5 : UInt64 := (List.getD d.2.2.2.1 t24_4.toNat (0 : UInt64))
   let t27_6 : UInt64 := (t26_5 * (977 : UInt64))
   let t28_7 : UInt64 := (t22_3 + t27_6)
   some (.n (t28_7, d.2.1, d.2.2.2.1, d.2.2.2.2.1, d.2.2.2.2.2)))
   (some (.n (d.1, d.2.1, d.2.2.2.1, d.2.2.2.2.1, d.2.2.2.2.2)))
noncomputable def l76_2 : (UInt64 × Int × Bool × (List UInt64) × (List UInt64) × (List UInt64)) → Option (O3 (UInt64 × Int × (List UInt64) × (List UInt64) × (List UInt64)) (Unit) (Unit)) := hide a76_2
theorem l76_2_eq (d : UInt64 × Int × Bool × (List UInt64) × (List UInt64) × (List UInt64)) : l76_2 d = a76_2 d := congrFun (hide_eq _) d
noncomputable def u76_2 : UH := unit (env 88 [(71, hd71), (73, hd73), (90, hd90)]) h76_2 o76_2 l76_2
def h76_0 : Sh := ⟨[.d (.int .u64), .d (.int .i64), .d (.arr 16 (.int .u64)), .d (.arr 4 (.int .u64)), .d (.arr 10 (.int .u64))], [4, 5], [(1, [.arr 16 (.int .u64)]), (2, [.arr 4 (.int .u64)]), (3, [.arr 10 (.int .u64)])], [], []⟩
def o76_0 : Outs := ⟨⟨[], [], [], [], []⟩, 0, ⟨[.d (.arr 4 (.int .u64)), .d (.arr 10 (.int .u64))], [], [(2, [.arr 4 (.int .u64)]), (3, [.arr 10 (.int .u64)])], [], []⟩, ⟨[], [], [], [], []⟩⟩
noncomputable def k76_0 (f : UInt64 × Int × (List UInt64) × (List UInt64) × (List UInt64) → Option (O3 (Unit) ((List UInt64) × (List UInt64)) (Unit))) (d : UInt64 × Int × (List UInt64) × (List UInt64) × (List UInt64)) : Option (O3 (Unit) ((List UInt64) × (List UInt64)) (Unit)) :=
  cnd (decide (d.2.1 < (10 : Int)))
   (bnd (l76_2 (d.1, d.2.1, (decide (d.2.1 < (8 : Int))), d.2.2.1, d.2.2.2.1, d.2.2.2.2)) fun o => (match o with
    | .n o => (cnd (decide ((1 : Int) ≤ o.2.1))
     (bnd (l76_4 (o.1, o.2.1, (decide (o.2.1 < (9 : Int))), o.2.2.1, o.2.2.2.1, o.2.2.2.2)) fun o => (match o with
      | .n o => (let t43_11 : UInt64 := (andK .u64 o.1 (4294967295 : UInt64))
      guard (inB o.2.1 10) <|
      let m2_12 : List UInt64 := (List.set o.2.2.2.2 o.2.1.toNat t43_11)
      let t46_13 : UInt64 := (shrK .u64 o.1 32)
      guard (inR .i64 (o.2.1 + (1 : Int))) <|
      let t15_14 : Int := (o.2.1 + (1 : Int))
      f (t46_13, t15_14, o.2.2.1, o.2.2.2.1, m2_12))
      | .x _o => none
      | .r _o => (some (.r ()))))
     (bnd (l76_4 (o.1, o.2.1, false, o.2.2.1, o.2.2.2.1, o.2.2.2.2)) fun o => (match o with
      | .n o => (let t43_18 : UInt64 := (andK .u64 o.1 (4294967295 : UInt64))
      guard (inB o.2.1 10) <|
      let m2_19 : List UInt64 := (List.set o.2.2.2.2 o.2.1.toNat t43_18)
      let t46_20 : UInt64 := (shrK .u64 o.1 32)
      guard (inR .i64 (o.2.1 + (1 : Int))) <|
      let t15_21 : Int := (o.2.1 + (1 : Int))
      f (t46_20, t15_21, o.2.2.1, o.2.2.2.1, m2_19))
      | .x _o => none
      | .r _o => (some (.r ())))))
    | .x _o => none
    | .r _o => (some (.r ()))))
   (some (.x (d.2.2.2.1, d.2.2.2.2)))
noncomputable def l76_0 : UInt64 × Int × (List UInt64) × (List UInt64) × (List UInt64) → Option (O3 (Unit) ((List UInt64) × (List UInt64)) (Unit)) := itN k76_0 fuel
noncomputable def u76_0 : UH := unit (env 88 [(71, hd71), (73, hd73), (90, hd90)]) h76_0 o76_0 l76_0
noncomputable def b76 (d : (List UInt64)) : Option ((List UInt64)) :=
  let t11_1 : List UInt64 := [(0 : UInt64), (0 : UInt64), (0 : UInt64), (0 : UInt64), (0 : UInt64), (0 : UInt64), (0 : UInt64), (0 : UInt64), (0 : UInt64), (0 : UInt64)]
  bnd (l76_0 ((0 : UInt64), (0 : Int), d, (List.replicate 4 (0 : UInt64)), t11_1)) fun o => (match o with
   | .n _o => none
   | .x o => (let t48_22 : UInt64 := (List.getD o.2 8 (0 : UInt64))
   let t50_23 : UInt64 := (List.getD o.2 9 (0 : UInt64))
   guard (decide (0 ≤ (32 : Int)) && inR .u64 ((t50_23.toNat : Int) * 2 ^ min 32 (IntKind.bits .u64))) <|
   let t51_24 : UInt64 := (shlK .u64 t50_23 32)
   let t52_25 : UInt64 := (t48_22 + t51_24)
   let t53_26 : List UInt64 := [(0 : UInt64), (0 : UInt64), (0 : UInt64), (0 : UInt64)]
   bnd (l76_5 (t52_25, (0 : Int), o.1, o.2, t53_26)) fun o => (match o with
    | .n _o => none
    | .x o => (bnd (l76_8 (o.1, o.2.1, o.2.2)) fun o => (match o with
     | .n o => (cnd (decide (o.1 = (1 : UInt64)))
      (let t82_80 : List UInt64 := [(4294968273 : UInt64), (0 : UInt64), (0 : UInt64), (0 : UInt64)]
      bnd (m73 (o.2.2, t82_80)) fun y_81 =>
      bnd (m71 y_81.1) fun y_82 =>
      some y_82)
      (bnd (m71 o.2.2) fun y_83 =>
      some y_83))
     | .x _o => none
     | .r _o => none))
    | .r _o => none))
   | .r _o => none)
noncomputable def m76 : (List UInt64) → Option ((List UInt64)) := hide b76
theorem m76_eq (d : (List UInt64)) : m76 d = b76 d := congrFun (hide_eq _) d
noncomputable def hd76 : Hd := ⟨[.d (.arr 16 (.int .u64))], [.d (.arr 4 (.int .u64))], m76⟩
theorem ok76 : Okk Try.prog (env 88 [(71, hd71), (73, hd73), (90, hd90)]) := okk tab_ok (n := 88) (hs := [(71, hd71), (73, hd73), (90, hd90)]) ⟨fn71, fn73, fn90, trivial⟩ mixed
set_option maxRecDepth 100000 in
theorem e76_8 (d : Dat h76_8.ks) : regF (env 88 [(71, hd71), (73, hd73), (90, hd90)]) (unitAt c76 8) p76_8 h76_8 o76_8 d = g76_8 d := by kernel_rfl
theorem x76_8 : UOk Try.prog (env 88 [(71, hd71), (73, hd73), (90, hd90)]) (unitAt c76 8) u76_8 ∧ Pk Try.prog (env 88 [(71, hd71), (73, hd73), (90, hd90)]) u76_8.pk u76_8.up :=
  reg_at ok76 (show regOk (env 88 [(71, hd71), (73, hd73), (90, hd90)]) (unitAt c76 8) p76_8 = true by kernel_rfl) (h := h76_8) (o := o76_8) l76_8 (fun d y hy => by obtain ⟨r, h1, h2⟩ := j76_8 d y hy; exact ⟨r, (e76_8 d).trans h1, h2⟩)
set_option maxRecDepth 100000 in
theorem e76_5 (f : Dat h76_5.ks → Option o76_5.O) (d : Dat h76_5.ks) : loopF (env 88 [(71, hd71), (73, hd73), (90, hd90)]) (lkU []) 5 (lbody (unitAt c76 5)) h76_5 o76_5 f d = k76_5 f d := by kernel_rfl
theorem x76_5 : UOk Try.prog (env 88 [(71, hd71), (73, hd73), (90, hd90)]) (unitAt c76 5) u76_5 ∧ Pk Try.prog (env 88 [(71, hd71), (73, hd73), (90, hd90)]) u76_5.pk u76_5.up :=
  loop_at ok76 (show unitAt c76 5 = .loop (lbody (unitAt c76 5)) by kernel_rfl) (h := h76_5) (o := o76_5) (n := 5) (hl := lkU []) (uall_at trivial) k76_5 fuel e76_5
set_option maxRecDepth 100000 in
theorem e76_4 (d : Dat h76_4.ks) : condU (env 88 [(71, hd71), (73, hd73), (90, hd90)]) (lkU []) 4 (unitAt c76 4) h76_4 o76_4 d = a76_4 d := by kernel_rfl
theorem x76_4 : UOk Try.prog (env 88 [(71, hd71), (73, hd73), (90, hd90)]) (unitAt c76 4) u76_4 ∧ Pk Try.prog (env 88 [(71, hd71), (73, hd73), (90, hd90)]) u76_4.pk u76_4.up :=
  cond_at ok76 (show isCond (unitAt c76 4) = true by kernel_rfl) (h := h76_4) (o := o76_4) (n := 4) (hl := lkU []) rfl (uall_at trivial) l76_4 (fun d => (e76_4 d).trans (l76_4_eq d).symm)
set_option maxRecDepth 100000 in
theorem e76_2 (d : Dat h76_2.ks) : condU (env 88 [(71, hd71), (73, hd73), (90, hd90)]) (lkU []) 2 (unitAt c76 2) h76_2 o76_2 d = a76_2 d := by kernel_rfl
theorem x76_2 : UOk Try.prog (env 88 [(71, hd71), (73, hd73), (90, hd90)]) (unitAt c76 2) u76_2 ∧ Pk Try.prog (env 88 [(71, hd71), (73, hd73), (90, hd90)]) u76_2.pk u76_2.up :=
  cond_at ok76 (show isCond (unitAt c76 2) = true by kernel_rfl) (h := h76_2) (o := o76_2) (n := 2) (hl := lkU []) rfl (uall_at trivial) l76_2 (fun d => (e76_2 d).trans (l76_2_eq d).symm)
set_option maxRecDepth 100000 in
theorem e76_0 (f : Dat h76_0.ks → Option o76_0.O) (d : Dat h76_0.ks) : loopF (env 88 [(71, hd71), (73, hd73), (90, hd90)]) (lkU [(2, u76_2), (4, u76_4)]) 0 (lbody (unitAt c76 0)) h76_0 o76_0 f d = k76_0 f d := by kernel_rfl
theorem x76_0 : UOk Try.prog (env 88 [(71, hd71), (73, hd73), (90, hd90)]) (unitAt c76 0) u76_0 ∧ Pk Try.prog (env 88 [(71, hd71), (73, hd73), (90, hd90)]) u76_0.pk u76_0.up :=
  loop_at ok76 (show unitAt c76 0 = .loop (lbody (unitAt c76 0)) by kernel_rfl) (h := h76_0) (o := o76_0) (n := 0) (hl := lkU [(2, u76_2), (4, u76_4)]) (uall_at ⟨⟨_, Nat.le_of_ble_eq_true rfl, (show (units (lbody (unitAt c76 0)))[1]? = some (unitAt c76 2) by kernel_rfl), x76_2⟩, ⟨_, Nat.le_of_ble_eq_true rfl, (show (units (lbody (unitAt c76 0)))[3]? = some (unitAt c76 4) by kernel_rfl), x76_4⟩, trivial⟩) k76_0 fuel e76_0
set_option maxRecDepth 100000 in
theorem r76 (d : Dat hd76.pks) : runF (env 88 [(71, hd71), (73, hd73), (90, hd90)]) (lkU [(0, u76_0), (2, u76_2), (4, u76_4), (5, u76_5), (8, u76_8)]) c76 (Try.f76).results.toList [] hd76.pks hd76.rks d = b76 d := by kernel_rfl
theorem q76 (d : Dat hd76.pks) (y : Dat hd76.rks) : (hd76.fm d = some y) = (m76 d = some y) := by kernel_rfl
theorem t76 (d : Dat hd76.pks) (y : Dat hd76.rks) (h : hd76.fm d = some y) : runF (env 88 [(71, hd71), (73, hd73), (90, hd90)]) (lkU [(0, u76_0), (2, u76_2), (4, u76_4), (5, u76_5), (8, u76_8)]) c76 (Try.f76).results.toList [] hd76.pks hd76.rks d = some y := (r76 d).trans ((m76_eq d).symm.trans ((q76 d y).mp h))
theorem gn76 : FnG Try.prog 76 hd76 :=
  fn_g (hl := lkU [(0, u76_0), (2, u76_2), (4, u76_4), (5, u76_5), (8, u76_8)]) (un := []) ok76 (fun _ => rfl) Try.func76 rfl Try.ntmps76 (by kernel_rfl) (rv := (Try.f76).results.toList) (by kernel_rfl) (by decide) (uall_at ⟨⟨_, Nat.le_of_ble_eq_true rfl, (show (units c76)[0]? = some (unitAt c76 0) by kernel_rfl), x76_0⟩, ⟨_, Nat.le_of_ble_eq_true rfl, (show (units c76)[2]? = some (unitAt c76 2) by kernel_rfl), x76_2⟩, ⟨_, Nat.le_of_ble_eq_true rfl, (show (units c76)[4]? = some (unitAt c76 4) by kernel_rfl), x76_4⟩, ⟨_, Nat.le_of_ble_eq_true rfl, (show (units c76)[5]? = some (unitAt c76 5) by kernel_rfl), x76_5⟩, ⟨_, Nat.le_of_ble_eq_true rfl, (show (units c76)[8]? = some (unitAt c76 8) by kernel_rfl), x76_8⟩, trivial⟩) t76
theorem fn76 : FnOk Try.prog 76 hd76 := .inl gn76
/-! entail/entailref12.Mul -/
noncomputable def c44 : Code := ((Try.f44).body).getD .skip
def h44_3 : Sh := ⟨[.d (.int .i64), .d (.int .u64), .d (.int .i64), .d (.arr 4 (.int .u64)), .d (.arr 8 (.int .u64)), .d (.arr 8 (.int .u64)), .d (.arr 16 (.int .u64))], [8, 9, 10], [(4, [.arr 4 (.int .u64)]), (5, [.arr 8 (.int .u64)]), (6, [.arr 8 (.int .u64)]), (7, [.arr 16 (.int .u64)])], [], []⟩
def o44_3 : Outs := ⟨⟨[], [], [], [], []⟩, 2, ⟨[.d (.int .i64), .d (.int .u64), .d (.arr 4 (.int .u64)), .d (.arr 8 (.int .u64)), .d (.arr 8 (.int .u64)), .d (.arr 16 (.int .u64))], [8, 9], [(4, [.arr 4 (.int .u64)]), (5, [.arr 8 (.int .u64)]), (6, [.arr 8 (.int .u64)]), (7, [.arr 16 (.int .u64)])], [], []⟩, ⟨[], [], [], [], []⟩⟩
noncomputable def k44_3 (f : Int × UInt64 × Int × (List UInt64) × (List UInt64) × (List UInt64) × (List UInt64) → Option (O3 (Unit) (Int × UInt64 × (List UInt64) × (List UInt64) × (List UInt64) × (List UInt64)) (Unit))) (d : Int × UInt64 × Int × (List UInt64) × (List UInt64) × (List UInt64) × (List UInt64)) : Option (O3 (Unit) (Int × UInt64 × (List UInt64) × (List UInt64) × (List UInt64) × (List UInt64)) (Unit)) :=
  cnd (decide (d.2.2.1 < (8 : Int)))
   (guard (inR .i64 (d.1 + d.2.2.1)) <|
   let t27_42 : Int := (d.1 + d.2.2.1)
   guard (inB t27_42 16) <|
   let t29_43 : UInt64 := (List.getD d.2.2.2.2.2.2 t27_42.toNat (0 : UInt64))
   let t30_44 : UInt64 := (d.2.1 + t29_43)
   guard (inB d.1 8) <|
   let t33_45 : UInt64 := (List.getD d.2.2.2.2.1 d.1.toNat (0 : UInt64))
   guard (inB d.2.2.1 8) <|
   let t36_46 : UInt64 := (List.getD d.2.2.2.2.2.1 d.2.2.1.toNat (0 : UInt64))
   let t37_47 : UInt64 := (t33_45 * t36_46)
   let t38_48 : UInt64 := (t30_44 + t37_47)
   guard (inR .i64 (d.1 + d.2.2.1)) <|
   let t41_49 : Int := (d.1 + d.2.2.1)
   let t43_50 : UInt64 := (andK .u64 t38_48 (4294967295 : UInt64))
   guard (inB t41_49 16) <|
   let m3_51 : List UInt64 := (List.set d.2.2.2.2.2.2 t41_49.toNat t43_50)
   let t46_52 : UInt64 := (shrK .u64 t38_48 32)
   guard (inR .i64 (d.2.2.1 + (1 : Int))) <|
   let t23_53 : Int := (d.2.2.1 + (1 : Int))
   f (d.1, t46_52, t23_53, d.2.2.2.1, d.2.2.2.2.1, d.2.2.2.2.2.1, m3_51))
   (some (.x (d.1, d.2.1, d.2.2.2.1, d.2.2.2.2.1, d.2.2.2.2.2.1, d.2.2.2.2.2.2)))
noncomputable def l44_3 : Int × UInt64 × Int × (List UInt64) × (List UInt64) × (List UInt64) × (List UInt64) → Option (O3 (Unit) (Int × UInt64 × (List UInt64) × (List UInt64) × (List UInt64) × (List UInt64)) (Unit)) := itN k44_3 fuel
noncomputable def u44_3 : UH := unit (env 53 [(75, hd75), (76, hd76)]) h44_3 o44_3 l44_3
def h44_1 : Sh := ⟨[.d (.int .i64), .d (.arr 4 (.int .u64)), .d (.arr 8 (.int .u64)), .d (.arr 8 (.int .u64)), .d (.arr 16 (.int .u64))], [8], [(4, [.arr 4 (.int .u64)]), (5, [.arr 8 (.int .u64)]), (6, [.arr 8 (.int .u64)]), (7, [.arr 16 (.int .u64)])], [], []⟩
def o44_1 : Outs := ⟨⟨[], [], [], [], []⟩, 0, ⟨[.d (.arr 4 (.int .u64)), .d (.arr 16 (.int .u64))], [], [(4, [.arr 4 (.int .u64)]), (7, [.arr 16 (.int .u64)])], [], []⟩, ⟨[], [], [], [], []⟩⟩
noncomputable def k44_1 (f : Int × (List UInt64) × (List UInt64) × (List UInt64) × (List UInt64) → Option (O3 (Unit) ((List UInt64) × (List UInt64)) (Unit))) (d : Int × (List UInt64) × (List UInt64) × (List UInt64) × (List UInt64)) : Option (O3 (Unit) ((List UInt64) × (List UInt64)) (Unit)) :=
  cnd (decide (d.1 < (8 : Int)))
   (bnd (l44_3 (d.1, (0 : UInt64), (0 : Int), d.2.1, d.2.2.1, d.2.2.2.1, d.2.2.2.2)) fun o => (match o with
    | .n _o => none
    | .x o => (guard (inR .i64 (o.1 + (8 : Int))) <|
    let t48_54 : Int := (o.1 + (8 : Int))
    guard (inB t48_54 16) <|
    let m3_55 : List UInt64 := (List.set o.2.2.2.2.2 t48_54.toNat o.2.1)
    guard (inR .i64 (o.1 + (1 : Int))) <|
    let t19_56 : Int := (o.1 + (1 : Int))
    f (t19_56, o.2.2.1, o.2.2.2.1, o.2.2.2.2.1, m3_55))
    | .r _o => (some (.r ()))))
   (some (.x (d.2.1, d.2.2.2.2)))
noncomputable def l44_1 : Int × (List UInt64) × (List UInt64) × (List UInt64) × (List UInt64) → Option (O3 (Unit) ((List UInt64) × (List UInt64)) (Unit)) := itN k44_1 fuel
noncomputable def u44_1 : UH := unit (env 53 [(75, hd75), (76, hd76)]) h44_1 o44_1 l44_1
def h44_0 : Sh := ⟨[.d (.arr 4 (.int .u64)), .d (.arr 4 (.int .u64)), .d (.arr 4 (.int .u64))], [], [(2, [.arr 4 (.int .u64)]), (3, [.arr 4 (.int .u64)]), (4, [.arr 4 (.int .u64)])], [], []⟩
def o44_0 : Outs := ⟨⟨[.d (.arr 4 (.int .u64)), .d (.arr 8 (.int .u64)), .d (.arr 8 (.int .u64))], [], [(4, [.arr 4 (.int .u64)]), (5, [.arr 8 (.int .u64)]), (6, [.arr 8 (.int .u64)])], [], []⟩, 0, ⟨[], [], [], [], []⟩, ⟨[], [], [], [], []⟩⟩
def p44_0 : Plan := (.op 0 (.op 2 (.alt (.op 1 (.alt (.op 3 (.alt (.op 4 (.op 5 (.op 6 (.op 7 .fin)))) (.op 5 (.op 4 (.op 6 (.op 7 .fin)))))) (.alt (.op 4 (.alt (.op 3 (.op 5 (.op 6 (.op 7 .fin)))) (.op 5 (.op 3 (.op 6 (.op 7 .fin)))))) (.op 5 (.alt (.op 3 (.op 4 (.op 6 (.op 7 .fin)))) (.op 4 (.op 3 (.op 6 (.op 7 .fin))))))))) (.alt (.op 4 (.alt (.op 1 (.alt (.op 3 (.op 5 (.op 6 (.op 7 .fin)))) (.op 5 (.op 3 (.op 6 (.op 7 .fin)))))) (.op 5 (.op 1 (.op 3 (.op 6 (.op 7 .fin))))))) (.op 5 (.alt (.op 1 (.alt (.op 3 (.op 4 (.op 6 (.op 7 .fin)))) (.op 4 (.op 3 (.op 6 (.op 7 .fin)))))) (.op 4 (.op 1 (.op 3 (.op 6 (.op 7 .fin)))))))))))
noncomputable def a44_0 (d : (List UInt64) × (List UInt64) × (List UInt64)) : Option (O3 ((List UInt64) × (List UInt64) × (List UInt64)) (Unit) (Unit)) :=
  bnd (m75 d.1) fun y_1 =>
  bnd (m75 d.2.1) fun y_2 =>
  some (.n (d.2.2, y_1, y_2))
noncomputable def l44_0 : ((List UInt64) × (List UInt64) × (List UInt64)) → Option (O3 ((List UInt64) × (List UInt64) × (List UInt64)) (Unit) (Unit)) := hide a44_0
theorem l44_0_eq (d : (List UInt64) × (List UInt64) × (List UInt64)) : l44_0 d = a44_0 d := congrFun (hide_eq _) d
noncomputable def g44_0 (d : (List UInt64) × (List UInt64) × (List UInt64)) : Option (List (O3 ((List UInt64) × (List UInt64) × (List UInt64)) (Unit) (Unit))) :=
  bnd
   (bnd (m75 d.1) fun y_4 =>
   bnd
    (bnd (m75 d.2.1) fun y_6 =>
    bnd
     (some [.n (d.2.2, y_4, y_6)]) fun x_7 =>
    bnd
     (some [.n (d.2.2, y_4, y_6)]) fun x_8 =>
    some (x_7 ++ x_8)) fun x_5 =>
   bnd
    (bnd
     (bnd
      (bnd (m75 d.2.1) fun y_11 =>
      some [.n (d.2.2, y_4, y_11)]) fun x_10 =>
     bnd
      (bnd (m75 d.2.1) fun y_12 =>
      some [.n (d.2.2, y_4, y_12)]) fun x_13 =>
     some (x_10 ++ x_13)) fun x_9 =>
    bnd
     (bnd
      (bnd (m75 d.2.1) fun y_15 =>
      some [.n (d.2.2, y_4, y_15)]) fun x_14 =>
     bnd
      (bnd (m75 d.2.1) fun y_16 =>
      some [.n (d.2.2, y_4, y_16)]) fun x_17 =>
     some (x_14 ++ x_17)) fun x_18 =>
    some (x_9 ++ x_18)) fun x_19 =>
   some (x_5 ++ x_19)) fun x_3 =>
  bnd
   (bnd
    (bnd
     (bnd (m75 d.1) fun y_22 =>
     bnd
      (bnd (m75 d.2.1) fun y_24 =>
      some [.n (d.2.2, y_22, y_24)]) fun x_23 =>
     bnd
      (bnd (m75 d.2.1) fun y_25 =>
      some [.n (d.2.2, y_22, y_25)]) fun x_26 =>
     some (x_23 ++ x_26)) fun x_21 =>
    bnd
     (bnd (m75 d.1) fun y_27 =>
     bnd (m75 d.2.1) fun y_28 =>
     some [.n (d.2.2, y_27, y_28)]) fun x_29 =>
    some (x_21 ++ x_29)) fun x_20 =>
   bnd
    (bnd
     (bnd (m75 d.1) fun y_31 =>
     bnd
      (bnd (m75 d.2.1) fun y_33 =>
      some [.n (d.2.2, y_31, y_33)]) fun x_32 =>
     bnd
      (bnd (m75 d.2.1) fun y_34 =>
      some [.n (d.2.2, y_31, y_34)]) fun x_35 =>
     some (x_32 ++ x_35)) fun x_30 =>
    bnd
     (bnd (m75 d.1) fun y_36 =>
     bnd (m75 d.2.1) fun y_37 =>
     some [.n (d.2.2, y_36, y_37)]) fun x_38 =>
    some (x_30 ++ x_38)) fun x_39 =>
   some (x_20 ++ x_39)) fun x_40 =>
  some (x_3 ++ x_40)
theorem j44_0 (d : (List UInt64) × (List UInt64) × (List UInt64)) (y : O3 ((List UInt64) × (List UInt64) × (List UInt64)) (Unit) (Unit)) (hd : l44_0 d = some y) : ∃ r, g44_0 d = some r ∧ ∀ x ∈ r, x = y := by
  rw [l44_0_eq] at hd
  unfold a44_0 at hd
  obtain ⟨y_1, h0, hd⟩ := bnd_some hd
  obtain ⟨y_2, h1, hd⟩ := bnd_some hd
  obtain rfl := Option.some.inj hd
  refine ⟨_, by unfold g44_0; simp only [h0, h1, bnd_s]; rfl, by simp⟩
noncomputable def u44_0 : UH := unit (env 53 [(75, hd75), (76, hd76)]) h44_0 o44_0 l44_0
noncomputable def b44 (d : (List UInt64) × (List UInt64)) : Option ((List UInt64)) :=
  bnd (l44_0 (d.1, d.2, (List.replicate 4 (0 : UInt64)))) fun o => (match o with
   | .n o => (let t15_41 : List UInt64 := [(0 : UInt64), (0 : UInt64), (0 : UInt64), (0 : UInt64), (0 : UInt64), (0 : UInt64), (0 : UInt64), (0 : UInt64), (0 : UInt64), (0 : UInt64), (0 : UInt64), (0 : UInt64), (0 : UInt64), (0 : UInt64), (0 : UInt64), (0 : UInt64)]
   bnd (l44_1 ((0 : Int), o.1, o.2.1, o.2.2, t15_41)) fun o => (match o with
    | .n _o => none
    | .x o => (bnd (m76 o.2) fun y_57 =>
    some y_57)
    | .r _o => none))
   | .x _o => none
   | .r _o => none)
noncomputable def m44 : ((List UInt64) × (List UInt64)) → Option ((List UInt64)) := hide b44
theorem m44_eq (d : (List UInt64) × (List UInt64)) : m44 d = b44 d := congrFun (hide_eq _) d
noncomputable def hd44 : Hd := ⟨[.d (.arr 4 (.int .u64)), .d (.arr 4 (.int .u64))], [.d (.arr 4 (.int .u64))], m44⟩
theorem ok44 : Okk Try.prog (env 53 [(75, hd75), (76, hd76)]) := okk tab_ok (n := 53) (hs := [(75, hd75), (76, hd76)]) ⟨fn75, fn76, trivial⟩ mixed
set_option maxRecDepth 100000 in
theorem e44_3 (f : Dat h44_3.ks → Option o44_3.O) (d : Dat h44_3.ks) : loopF (env 53 [(75, hd75), (76, hd76)]) (lkU []) 3 (lbody (unitAt c44 3)) h44_3 o44_3 f d = k44_3 f d := by kernel_rfl
theorem x44_3 : UOk Try.prog (env 53 [(75, hd75), (76, hd76)]) (unitAt c44 3) u44_3 ∧ Pk Try.prog (env 53 [(75, hd75), (76, hd76)]) u44_3.pk u44_3.up :=
  loop_at ok44 (show unitAt c44 3 = .loop (lbody (unitAt c44 3)) by kernel_rfl) (h := h44_3) (o := o44_3) (n := 3) (hl := lkU []) (uall_at trivial) k44_3 fuel e44_3
set_option maxRecDepth 100000 in
theorem e44_1 (f : Dat h44_1.ks → Option o44_1.O) (d : Dat h44_1.ks) : loopF (env 53 [(75, hd75), (76, hd76)]) (lkU [(3, u44_3)]) 1 (lbody (unitAt c44 1)) h44_1 o44_1 f d = k44_1 f d := by kernel_rfl
theorem x44_1 : UOk Try.prog (env 53 [(75, hd75), (76, hd76)]) (unitAt c44 1) u44_1 ∧ Pk Try.prog (env 53 [(75, hd75), (76, hd76)]) u44_1.pk u44_1.up :=
  loop_at ok44 (show unitAt c44 1 = .loop (lbody (unitAt c44 1)) by kernel_rfl) (h := h44_1) (o := o44_1) (n := 1) (hl := lkU [(3, u44_3)]) (uall_at ⟨⟨_, Nat.le_of_ble_eq_true rfl, (show (units (lbody (unitAt c44 1)))[1]? = some (unitAt c44 3) by kernel_rfl), x44_3⟩, trivial⟩) k44_1 fuel e44_1
set_option maxRecDepth 100000 in
theorem e44_0 (d : Dat h44_0.ks) : regF (env 53 [(75, hd75), (76, hd76)]) (unitAt c44 0) p44_0 h44_0 o44_0 d = g44_0 d := by kernel_rfl
theorem x44_0 : UOk Try.prog (env 53 [(75, hd75), (76, hd76)]) (unitAt c44 0) u44_0 ∧ Pk Try.prog (env 53 [(75, hd75), (76, hd76)]) u44_0.pk u44_0.up :=
  reg_at ok44 (show regOk (env 53 [(75, hd75), (76, hd76)]) (unitAt c44 0) p44_0 = true by kernel_rfl) (h := h44_0) (o := o44_0) l44_0 (fun d y hy => by obtain ⟨r, h1, h2⟩ := j44_0 d y hy; exact ⟨r, (e44_0 d).trans h1, h2⟩)
set_option maxRecDepth 100000 in
theorem r44 (d : Dat hd44.pks) : runF (env 53 [(75, hd75), (76, hd76)]) (lkU [(0, u44_0), (1, u44_1), (3, u44_3)]) c44 (Try.f44).results.toList [] hd44.pks hd44.rks d = b44 d := by kernel_rfl
theorem q44 (d : Dat hd44.pks) (y : Dat hd44.rks) : (hd44.fm d = some y) = (m44 d = some y) := by kernel_rfl
theorem t44 (d : Dat hd44.pks) (y : Dat hd44.rks) (h : hd44.fm d = some y) : runF (env 53 [(75, hd75), (76, hd76)]) (lkU [(0, u44_0), (1, u44_1), (3, u44_3)]) c44 (Try.f44).results.toList [] hd44.pks hd44.rks d = some y := (r44 d).trans ((m44_eq d).symm.trans ((q44 d y).mp h))
theorem gn44 : FnG Try.prog 44 hd44 :=
  fn_g (hl := lkU [(0, u44_0), (1, u44_1), (3, u44_3)]) (un := []) ok44 (fun _ => rfl) Try.func44 rfl Try.ntmps44 (by kernel_rfl) (rv := (Try.f44).results.toList) (by kernel_rfl) (by decide) (uall_at ⟨⟨_, Nat.le_of_ble_eq_true rfl, (show (units c44)[0]? = some (unitAt c44 0) by kernel_rfl), x44_0⟩, ⟨_, Nat.le_of_ble_eq_true rfl, (show (units c44)[1]? = some (unitAt c44 1) by kernel_rfl), x44_1⟩, ⟨_, Nat.le_of_ble_eq_true rfl, (show (units c44)[3]? = some (unitAt c44 3) by kernel_rfl), x44_3⟩, trivial⟩) t44
theorem fn44 : FnOk Try.prog 44 hd44 := .inl gn44
/-! entail/entailref06.Bit -/
noncomputable def c79 : Code := ((Try.f79).body).getD .skip
noncomputable def b79 (d : (List UInt64) × Int) : Option (UInt64) :=
  guard (inR .i64 (d.2.tdiv (64 : Int))) <|
  let t6_1 : Int := (Int.tdiv d.2 (64 : Int))
  guard (inB t6_1 4) <|
  let t8_2 : UInt64 := (List.getD d.1 t6_1.toNat (0 : UInt64))
  let t10_3 : Int := (Int.tmod d.2 (64 : Int))
  let t11_4 : UInt64 := (ofI .u64 t10_3)
  guard (decide (0 ≤ (t11_4.toNat : Int)) && inR .u64 ((1 : Int) * 2 ^ min (t11_4.toNat : Int).toNat (IntKind.bits .u64))) <|
  let t12_5 : UInt64 := (shlK .u64 (1 : UInt64) (t11_4.toNat : Int).toNat)
  guard (!(decide (t12_5 = (0 : UInt64))) && inR .u64 ((t8_2.toNat : Int).tdiv (t12_5.toNat : Int))) <|
  let t13_6 : UInt64 := (t8_2 / t12_5)
  let t14_7 : UInt64 := (t13_6 % (2 : UInt64))
  some t14_7
noncomputable def m79 : ((List UInt64) × Int) → Option (UInt64) := hide b79
theorem m79_eq (d : (List UInt64) × Int) : m79 d = b79 d := congrFun (hide_eq _) d
noncomputable def hd79 : Hd := ⟨[.d (.arr 4 (.int .u64)), .d (.int .i64)], [.d (.int .u64)], m79⟩
theorem ok79 : Okk Try.prog (env 15 []) := okk tab_ok (n := 15) (hs := []) trivial mixed
set_option maxRecDepth 100000 in
theorem r79 (d : Dat hd79.pks) : runF (env 15 []) (lkU []) c79 (Try.f79).results.toList [] hd79.pks hd79.rks d = b79 d := by kernel_rfl
theorem q79 (d : Dat hd79.pks) (y : Dat hd79.rks) : (hd79.fm d = some y) = (m79 d = some y) := by kernel_rfl
theorem t79 (d : Dat hd79.pks) (y : Dat hd79.rks) (h : hd79.fm d = some y) : runF (env 15 []) (lkU []) c79 (Try.f79).results.toList [] hd79.pks hd79.rks d = some y := (r79 d).trans ((m79_eq d).symm.trans ((q79 d y).mp h))
theorem gn79 : FnG Try.prog 79 hd79 :=
  fn_g (hl := lkU []) (un := []) ok79 (fun _ => rfl) Try.func79 rfl Try.ntmps79 (by kernel_rfl) (rv := (Try.f79).results.toList) (by kernel_rfl) (by decide) (uall_at trivial) t79
theorem fn79 : FnOk Try.prog 79 hd79 := .inl gn79
/-! entail/entailref06.twice -/
noncomputable def c85 : Code := ((Try.f85).body).getD .skip
noncomputable def b85 (d : (List UInt64) × UInt64) : Option ((List UInt64) × UInt64) :=
  let t9_1 : UInt64 := (List.getD d.1 3 (0 : UInt64))
  let t10_2 : UInt64 := (t9_1 / (9223372036854775808 : UInt64))
  let t12_3 : UInt64 := (List.getD d.1 0 (0 : UInt64))
  let t13_4 : UInt64 := (t12_3 * (2 : UInt64))
  let t15_5 : UInt64 := (t13_4 + d.2)
  let t17_6 : UInt64 := (List.getD d.1 1 (0 : UInt64))
  let t18_7 : UInt64 := (t17_6 * (2 : UInt64))
  let t20_8 : UInt64 := (List.getD d.1 0 (0 : UInt64))
  let t21_9 : UInt64 := (t20_8 / (9223372036854775808 : UInt64))
  let t22_10 : UInt64 := (t18_7 + t21_9)
  let t24_11 : UInt64 := (List.getD d.1 2 (0 : UInt64))
  let t25_12 : UInt64 := (t24_11 * (2 : UInt64))
  let t27_13 : UInt64 := (List.getD d.1 1 (0 : UInt64))
  let t28_14 : UInt64 := (t27_13 / (9223372036854775808 : UInt64))
  let t29_15 : UInt64 := (t25_12 + t28_14)
  let t31_16 : UInt64 := (List.getD d.1 3 (0 : UInt64))
  let t32_17 : UInt64 := (t31_16 * (2 : UInt64))
  let t34_18 : UInt64 := (List.getD d.1 2 (0 : UInt64))
  let t35_19 : UInt64 := (t34_18 / (9223372036854775808 : UInt64))
  let t36_20 : UInt64 := (t32_17 + t35_19)
  let t37_21 : List UInt64 := [t15_5, t22_10, t29_15, t36_20]
  some (t37_21, t10_2)
noncomputable def m85 : ((List UInt64) × UInt64) → Option ((List UInt64) × UInt64) := hide b85
theorem m85_eq (d : (List UInt64) × UInt64) : m85 d = b85 d := congrFun (hide_eq _) d
noncomputable def hd85 : Hd := ⟨[.d (.arr 4 (.int .u64)), .d (.int .u64)], [.d (.arr 4 (.int .u64)), .d (.int .u64)], m85⟩
theorem ok85 : Okk Try.prog (env 40 []) := okk tab_ok (n := 40) (hs := []) trivial mixed
set_option maxRecDepth 100000 in
theorem r85 (d : Dat hd85.pks) : runF (env 40 []) (lkU []) c85 (Try.f85).results.toList [] hd85.pks hd85.rks d = b85 d := by kernel_rfl
theorem q85 (d : Dat hd85.pks) (y : Dat hd85.rks) : (hd85.fm d = some y) = (m85 d = some y) := by kernel_rfl
theorem t85 (d : Dat hd85.pks) (y : Dat hd85.rks) (h : hd85.fm d = some y) : runF (env 40 []) (lkU []) c85 (Try.f85).results.toList [] hd85.pks hd85.rks d = some y := (r85 d).trans ((m85_eq d).symm.trans ((q85 d y).mp h))
theorem gn85 : FnG Try.prog 85 hd85 :=
  fn_g (hl := lkU []) (un := []) ok85 (fun _ => rfl) Try.func85 rfl Try.ntmps85 (by kernel_rfl) (rv := (Try.f85).results.toList) (by kernel_rfl) (by decide) (uall_at trivial) t85
theorem fn85 : FnOk Try.prog 85 hd85 := .inl gn85
/-! entail/entailref06.Shr -/
noncomputable def c78 : Code := ((Try.f78).body).getD .skip
def h78_2 : Sh := ⟨[.d (.int .i64), .d (.int .i64), .d (.int .u64), .d (.bool), .d (.arr 4 (.int .u64)), .d (.arr 4 (.int .u64)), .d (.arr 4 (.int .u64))], [1, 6, 7, 14], [(2, [.arr 4 (.int .u64)]), (4, [.arr 4 (.int .u64)]), (5, [.arr 4 (.int .u64)])], [], []⟩
def o78_2 : Outs := ⟨⟨[.d (.int .i64), .d (.int .i64), .d (.int .u64), .d (.arr 4 (.int .u64)), .d (.arr 4 (.int .u64)), .d (.arr 4 (.int .u64))], [1, 6, 7], [(2, [.arr 4 (.int .u64)]), (4, [.arr 4 (.int .u64)]), (5, [.arr 4 (.int .u64)])], [], []⟩, 0, ⟨[], [], [], [], []⟩, ⟨[], [], [], [], []⟩⟩
noncomputable def a78_2 (d : Int × Int × UInt64 × Bool × (List UInt64) × (List UInt64) × (List UInt64)) : Option (O3 (Int × Int × UInt64 × (List UInt64) × (List UInt64) × (List UInt64)) (Unit) (Unit)) :=
  cnd d.2.2.2.1
   (bnd (m79 (d.2.2.2.2.1, d.2.1)) fun y_2 =>
   some (.n (d.1, d.2.1, y_2, d.2.2.2.2.1, d.2.2.2.2.2.1, d.2.2.2.2.2.2)))
   (cnd (decide (d.1 < (256 : Int)))
    (guard (inR .i64 (d.2.1 + d.1)) <|
    let t23_3 : Int := (d.2.1 + d.1)
    cnd (decide (t23_3 < (256 : Int)))
     (guard (inR .i64 (d.2.1 + d.1)) <|
     let t29_4 : Int := (d.2.1 + d.1)
     bnd (m79 (d.2.2.2.2.1, t29_4)) fun y_5 =>
     some (.n (d.1, d.2.1, y_5, d.2.2.2.2.1, d.2.2.2.2.2.1, d.2.2.2.2.2.2)))
     (some (.n (d.1, d.2.1, d.2.2.1, d.2.2.2.2.1, d.2.2.2.2.2.1, d.2.2.2.2.2.2))))
    (some (.n (d.1, d.2.1, d.2.2.1, d.2.2.2.2.1, d.2.2.2.2.2.1, d.2.2.2.2.2.2))))
noncomputable def l78_2 : (Int × Int × UInt64 × Bool × (List UInt64) × (List UInt64) × (List UInt64)) → Option (O3 (Int × Int × UInt64 × (List UInt64) × (List UInt64) × (List UInt64)) (Unit) (Unit)) := hide a78_2
theorem l78_2_eq (d : Int × Int × UInt64 × Bool × (List UInt64) × (List UInt64) × (List UInt64)) : l78_2 d = a78_2 d := congrFun (hide_eq _) d
noncomputable def u78_2 : UH := unit (env 38 [(79, hd79), (85, hd85)]) h78_2 o78_2 l78_2
def h78_0 : Sh := ⟨[.d (.int .i64), .d (.int .i64), .d (.arr 4 (.int .u64)), .d (.arr 4 (.int .u64)), .d (.arr 4 (.int .u64))], [1, 6], [(2, [.arr 4 (.int .u64)]), (4, [.arr 4 (.int .u64)]), (5, [.arr 4 (.int .u64)])], [], []⟩
def o78_0 : Outs := ⟨⟨[], [], [], [], []⟩, 0, ⟨[.d (.arr 4 (.int .u64)), .d (.arr 4 (.int .u64))], [], [(4, [.arr 4 (.int .u64)]), (5, [.arr 4 (.int .u64)])], [], []⟩, ⟨[], [], [], [], []⟩⟩
noncomputable def k78_0 (f : Int × Int × (List UInt64) × (List UInt64) × (List UInt64) → Option (O3 (Unit) ((List UInt64) × (List UInt64)) (Unit))) (d : Int × Int × (List UInt64) × (List UInt64) × (List UInt64)) : Option (O3 (Unit) ((List UInt64) × (List UInt64)) (Unit)) :=
  cnd (decide ((0 : Int) ≤ d.2.1))
   (bnd (l78_2 (d.1, d.2.1, (0 : UInt64), (decide (d.1 ≤ (0 : Int))), d.2.2.1, d.2.2.2.1, d.2.2.2.2)) fun o => (match o with
    | .n o => (bnd (m85 (o.2.2.2.2.2, o.2.2.1)) fun y_6 =>
    guard (inR .i64 (o.2.1 - (1 : Int))) <|
    let t12_7 : Int := (o.2.1 - (1 : Int))
    f (o.1, t12_7, o.2.2.2.1, o.2.2.2.2.1, y_6.1))
    | .x _o => none
    | .r _o => (some (.r ()))))
   (some (.x (d.2.2.2.1, d.2.2.2.2)))
noncomputable def l78_0 : Int × Int × (List UInt64) × (List UInt64) × (List UInt64) → Option (O3 (Unit) ((List UInt64) × (List UInt64)) (Unit)) := itN k78_0 fuel
noncomputable def u78_0 : UH := unit (env 38 [(79, hd79), (85, hd85)]) h78_0 o78_0 l78_0
noncomputable def b78 (d : (List UInt64) × Int) : Option ((List UInt64)) :=
  let t8_1 : List UInt64 := [(0 : UInt64), (0 : UInt64), (0 : UInt64), (0 : UInt64)]
  bnd (l78_0 (d.2, (255 : Int), d.1, (List.replicate 4 (0 : UInt64)), t8_1)) fun o => (match o with
   | .n _o => none
   | .x o => (some o.2)
   | .r _o => none)
noncomputable def m78 : ((List UInt64) × Int) → Option ((List UInt64)) := hide b78
theorem m78_eq (d : (List UInt64) × Int) : m78 d = b78 d := congrFun (hide_eq _) d
noncomputable def hd78 : Hd := ⟨[.d (.arr 4 (.int .u64)), .d (.int .i64)], [.d (.arr 4 (.int .u64))], m78⟩
theorem ok78 : Okk Try.prog (env 38 [(79, hd79), (85, hd85)]) := okk tab_ok (n := 38) (hs := [(79, hd79), (85, hd85)]) ⟨fn79, fn85, trivial⟩ mixed
set_option maxRecDepth 100000 in
theorem e78_2 (d : Dat h78_2.ks) : condU (env 38 [(79, hd79), (85, hd85)]) (lkU []) 2 (unitAt c78 2) h78_2 o78_2 d = a78_2 d := by kernel_rfl
theorem x78_2 : UOk Try.prog (env 38 [(79, hd79), (85, hd85)]) (unitAt c78 2) u78_2 ∧ Pk Try.prog (env 38 [(79, hd79), (85, hd85)]) u78_2.pk u78_2.up :=
  cond_at ok78 (show isCond (unitAt c78 2) = true by kernel_rfl) (h := h78_2) (o := o78_2) (n := 2) (hl := lkU []) rfl (uall_at trivial) l78_2 (fun d => (e78_2 d).trans (l78_2_eq d).symm)
set_option maxRecDepth 100000 in
theorem e78_0 (f : Dat h78_0.ks → Option o78_0.O) (d : Dat h78_0.ks) : loopF (env 38 [(79, hd79), (85, hd85)]) (lkU [(2, u78_2)]) 0 (lbody (unitAt c78 0)) h78_0 o78_0 f d = k78_0 f d := by kernel_rfl
theorem x78_0 : UOk Try.prog (env 38 [(79, hd79), (85, hd85)]) (unitAt c78 0) u78_0 ∧ Pk Try.prog (env 38 [(79, hd79), (85, hd85)]) u78_0.pk u78_0.up :=
  loop_at ok78 (show unitAt c78 0 = .loop (lbody (unitAt c78 0)) by kernel_rfl) (h := h78_0) (o := o78_0) (n := 0) (hl := lkU [(2, u78_2)]) (uall_at ⟨⟨_, Nat.le_of_ble_eq_true rfl, (show (units (lbody (unitAt c78 0)))[1]? = some (unitAt c78 2) by kernel_rfl), x78_2⟩, trivial⟩) k78_0 fuel e78_0
set_option maxRecDepth 100000 in
theorem r78 (d : Dat hd78.pks) : runF (env 38 [(79, hd79), (85, hd85)]) (lkU [(0, u78_0), (2, u78_2)]) c78 (Try.f78).results.toList [] hd78.pks hd78.rks d = b78 d := by kernel_rfl
theorem q78 (d : Dat hd78.pks) (y : Dat hd78.rks) : (hd78.fm d = some y) = (m78 d = some y) := by kernel_rfl
theorem t78 (d : Dat hd78.pks) (y : Dat hd78.rks) (h : hd78.fm d = some y) : runF (env 38 [(79, hd79), (85, hd85)]) (lkU [(0, u78_0), (2, u78_2)]) c78 (Try.f78).results.toList [] hd78.pks hd78.rks d = some y := (r78 d).trans ((m78_eq d).symm.trans ((q78 d y).mp h))
theorem gn78 : FnG Try.prog 78 hd78 :=
  fn_g (hl := lkU [(0, u78_0), (2, u78_2)]) (un := []) ok78 (fun _ => rfl) Try.func78 rfl Try.ntmps78 (by kernel_rfl) (rv := (Try.f78).results.toList) (by kernel_rfl) (by decide) (uall_at ⟨⟨_, Nat.le_of_ble_eq_true rfl, (show (units c78)[0]? = some (unitAt c78 0) by kernel_rfl), x78_0⟩, ⟨_, Nat.le_of_ble_eq_true rfl, (show (units c78)[2]? = some (unitAt c78 2) by kernel_rfl), x78_2⟩, trivial⟩) t78
theorem fn78 : FnOk Try.prog 78 hd78 := .inl gn78
/-! entail/entailref12.Pow -/
noncomputable def c48 : Code := ((Try.f48).body).getD .skip
def h48_0 : Sh := ⟨[.d (.int .i64), .d (.arr 4 (.int .u64)), .d (.arr 4 (.int .u64)), .d (.arr 4 (.int .u64)), .d (.arr 4 (.int .u64))], [6], [(2, [.arr 4 (.int .u64)]), (3, [.arr 4 (.int .u64)]), (4, [.arr 4 (.int .u64)]), (5, [.arr 4 (.int .u64)])], [], []⟩
def o48_0 : Outs := ⟨⟨[], [], [], [], []⟩, 0, ⟨[.d (.arr 4 (.int .u64)), .d (.arr 4 (.int .u64))], [], [(4, [.arr 4 (.int .u64)]), (5, [.arr 4 (.int .u64)])], [], []⟩, ⟨[], [], [], [], []⟩⟩
noncomputable def k48_0 (f : Int × (List UInt64) × (List UInt64) × (List UInt64) × (List UInt64) → Option (O3 (Unit) ((List UInt64) × (List UInt64)) (Unit))) (d : Int × (List UInt64) × (List UInt64) × (List UInt64) × (List UInt64)) : Option (O3 (Unit) ((List UInt64) × (List UInt64)) (Unit)) :=
  cnd (decide ((0 : Int) ≤ d.1))
   (bnd (m44 (d.2.2.2.2, d.2.2.2.2)) fun y_2 =>
   bnd (m79 (d.2.2.1, d.1)) fun y_3 =>
   cnd (decide (y_3 = (1 : UInt64)))
    (bnd (m44 (y_2, d.2.1)) fun y_4 =>
    guard (inR .i64 (d.1 - (1 : Int))) <|
    let t11_5 : Int := (d.1 - (1 : Int))
    f (t11_5, d.2.1, d.2.2.1, d.2.2.2.1, y_4))
    (guard (inR .i64 (d.1 - (1 : Int))) <|
    let t11_6 : Int := (d.1 - (1 : Int))
    f (t11_6, d.2.1, d.2.2.1, d.2.2.2.1, y_2)))
   (some (.x (d.2.2.2.1, d.2.2.2.2)))
noncomputable def l48_0 : Int × (List UInt64) × (List UInt64) × (List UInt64) × (List UInt64) → Option (O3 (Unit) ((List UInt64) × (List UInt64)) (Unit)) := itN k48_0 fuel
noncomputable def u48_0 : UH := unit (env 23 [(44, hd44), (79, hd79)]) h48_0 o48_0 l48_0
noncomputable def b48 (d : (List UInt64) × (List UInt64)) : Option ((List UInt64)) :=
  let t7_1 : List UInt64 := [(1 : UInt64), (0 : UInt64), (0 : UInt64), (0 : UInt64)]
  bnd (l48_0 ((255 : Int), d.1, d.2, (List.replicate 4 (0 : UInt64)), t7_1)) fun o => (match o with
   | .n _o => none
   | .x o => (some o.2)
   | .r _o => none)
noncomputable def m48 : ((List UInt64) × (List UInt64)) → Option ((List UInt64)) := hide b48
theorem m48_eq (d : (List UInt64) × (List UInt64)) : m48 d = b48 d := congrFun (hide_eq _) d
noncomputable def hd48 : Hd := ⟨[.d (.arr 4 (.int .u64)), .d (.arr 4 (.int .u64))], [.d (.arr 4 (.int .u64))], m48⟩
theorem ok48 : Okk Try.prog (env 23 [(44, hd44), (79, hd79)]) := okk tab_ok (n := 23) (hs := [(44, hd44), (79, hd79)]) ⟨fn44, fn79, trivial⟩ mixed
set_option maxRecDepth 100000 in
theorem e48_0 (f : Dat h48_0.ks → Option o48_0.O) (d : Dat h48_0.ks) : loopF (env 23 [(44, hd44), (79, hd79)]) (lkU []) 0 (lbody (unitAt c48 0)) h48_0 o48_0 f d = k48_0 f d := by kernel_rfl
theorem x48_0 : UOk Try.prog (env 23 [(44, hd44), (79, hd79)]) (unitAt c48 0) u48_0 ∧ Pk Try.prog (env 23 [(44, hd44), (79, hd79)]) u48_0.pk u48_0.up :=
  loop_at ok48 (show unitAt c48 0 = .loop (lbody (unitAt c48 0)) by kernel_rfl) (h := h48_0) (o := o48_0) (n := 0) (hl := lkU []) (uall_at trivial) k48_0 fuel e48_0
set_option maxRecDepth 100000 in
theorem r48 (d : Dat hd48.pks) : runF (env 23 [(44, hd44), (79, hd79)]) (lkU [(0, u48_0)]) c48 (Try.f48).results.toList [] hd48.pks hd48.rks d = b48 d := by kernel_rfl
theorem q48 (d : Dat hd48.pks) (y : Dat hd48.rks) : (hd48.fm d = some y) = (m48 d = some y) := by kernel_rfl
theorem t48 (d : Dat hd48.pks) (y : Dat hd48.rks) (h : hd48.fm d = some y) : runF (env 23 [(44, hd44), (79, hd79)]) (lkU [(0, u48_0)]) c48 (Try.f48).results.toList [] hd48.pks hd48.rks d = some y := (r48 d).trans ((m48_eq d).symm.trans ((q48 d y).mp h))
theorem gn48 : FnG Try.prog 48 hd48 :=
  fn_g (hl := lkU [(0, u48_0)]) (un := []) ok48 (fun _ => rfl) Try.func48 rfl Try.ntmps48 (by kernel_rfl) (rv := (Try.f48).results.toList) (by kernel_rfl) (by decide) (uall_at ⟨⟨_, Nat.le_of_ble_eq_true rfl, (show (units c48)[0]? = some (unitAt c48 0) by kernel_rfl), x48_0⟩, trivial⟩) t48
theorem fn48 : FnOk Try.prog 48 hd48 := .inl gn48
/-! entail/entailref12.Root -/
noncomputable def c46 : Code := ((Try.f46).body).getD .skip
def h46_0 : Sh := ⟨[.d (.arr 4 (.int .u64)), .d (.arr 4 (.int .u64)), .d (.arr 4 (.int .u64))], [], [(1, [.arr 4 (.int .u64)]), (2, [.arr 4 (.int .u64)]), (4, [.arr 4 (.int .u64)])], [], []⟩
def o46_0 : Outs := ⟨⟨[.d (.arr 4 (.int .u64)), .d (.arr 4 (.int .u64)), .d (.arr 4 (.int .u64))], [], [(1, [.arr 4 (.int .u64)]), (2, [.arr 4 (.int .u64)]), (6, [.arr 4 (.int .u64)])], [], []⟩, 0, ⟨[], [], [], [], []⟩, ⟨[], [], [], [], []⟩⟩
def p46_0 : Plan := (.op 0 (.op 1 (.alt (.op 2 (.alt (.op 3 (.op 4 (.op 5 .fin))) (.op 4 (.op 3 (.op 5 .fin))))) (.op 4 (.op 2 (.op 3 (.op 5 .fin)))))))
noncomputable def a46_0 (d : (List UInt64) × (List UInt64) × (List UInt64)) : Option (O3 ((List UInt64) × (List UInt64) × (List UInt64)) (Unit) (Unit)) :=
  bnd (m78 (d.2.2, (2 : Int))) fun y_4 =>
  bnd (m48 (d.1, y_4)) fun y_5 =>
  some (.n (d.1, d.2.1, y_5))
noncomputable def l46_0 : ((List UInt64) × (List UInt64) × (List UInt64)) → Option (O3 ((List UInt64) × (List UInt64) × (List UInt64)) (Unit) (Unit)) := hide a46_0
theorem l46_0_eq (d : (List UInt64) × (List UInt64) × (List UInt64)) : l46_0 d = a46_0 d := congrFun (hide_eq _) d
noncomputable def g46_0 (d : (List UInt64) × (List UInt64) × (List UInt64)) : Option (List (O3 ((List UInt64) × (List UInt64) × (List UInt64)) (Unit) (Unit))) :=
  bnd
   (bnd (m78 (d.2.2, (2 : Int))) fun y_7 =>
   bnd
    (bnd (m48 (d.1, y_7)) fun y_9 =>
    some [.n (d.1, d.2.1, y_9)]) fun x_8 =>
   bnd
    (bnd (m48 (d.1, y_7)) fun y_10 =>
    some [.n (d.1, d.2.1, y_10)]) fun x_11 =>
   some (x_8 ++ x_11)) fun x_6 =>
  bnd
   (bnd (m78 (d.2.2, (2 : Int))) fun y_12 =>
   bnd (m48 (d.1, y_12)) fun y_13 =>
   some [.n (d.1, d.2.1, y_13)]) fun x_14 =>
  some (x_6 ++ x_14)
theorem j46_0 (d : (List UInt64) × (List UInt64) × (List UInt64)) (y : O3 ((List UInt64) × (List UInt64) × (List UInt64)) (Unit) (Unit)) (hd : l46_0 d = some y) : ∃ r, g46_0 d = some r ∧ ∀ x ∈ r, x = y := by
  rw [l46_0_eq] at hd
  unfold a46_0 at hd
  obtain ⟨y_4, h0, hd⟩ := bnd_some hd
  obtain ⟨y_5, h1, hd⟩ := bnd_some hd
  obtain rfl := Option.some.inj hd
  refine ⟨_, by unfold g46_0; simp only [h0, h1, bnd_s]; rfl, by simp⟩
noncomputable def u46_0 : UH := unit (env 31 [(34, hd34), (42, hd42), (44, hd44), (48, hd48), (71, hd71), (73, hd73), (78, hd78)]) h46_0 o46_0 l46_0
noncomputable def b46 (d : (List UInt64)) : Option ((List UInt64) × Bool) :=
  bnd (m34 ()) fun y_1 =>
  let t9_2 : List UInt64 := [(1 : UInt64), (0 : UInt64), (0 : UInt64), (0 : UInt64)]
  bnd (m73 (y_1, t9_2)) fun y_3 =>
  bnd (l46_0 (d, (List.replicate 4 (0 : UInt64)), y_3.1)) fun o => (match o with
   | .n o => (bnd (m44 (o.2.2, o.2.2)) fun y_15 =>
   bnd (m71 o.1) fun y_16 =>
   cnd (!(eqD (.arr 4 (.int .u64)) y_15 y_16))
    (let t23_17 : List UInt64 := [(0 : UInt64), (0 : UInt64), (0 : UInt64), (0 : UInt64)]
    some (t23_17, false))
    (let t25_18 : UInt64 := (List.getD o.2.2 0 (0 : UInt64))
    let t26_19 : UInt64 := (t25_18 % (2 : UInt64))
    cnd (decide (t26_19 = (1 : UInt64)))
     (bnd (m42 o.2.2) fun y_20 =>
     some (y_20, true))
     (some (o.2.2, true))))
   | .x _o => none
   | .r _o => none)
noncomputable def m46 : (List UInt64) → Option ((List UInt64) × Bool) := hide b46
theorem m46_eq (d : (List UInt64)) : m46 d = b46 d := congrFun (hide_eq _) d
noncomputable def hd46 : Hd := ⟨[.d (.arr 4 (.int .u64))], [.d (.arr 4 (.int .u64)), .d (.bool)], m46⟩
theorem ok46 : Okk Try.prog (env 31 [(34, hd34), (42, hd42), (44, hd44), (48, hd48), (71, hd71), (73, hd73), (78, hd78)]) := okk tab_ok (n := 31) (hs := [(34, hd34), (42, hd42), (44, hd44), (48, hd48), (71, hd71), (73, hd73), (78, hd78)]) ⟨fn34, fn42, fn44, fn48, fn71, fn73, fn78, trivial⟩ mixed
set_option maxRecDepth 100000 in
theorem e46_0 (d : Dat h46_0.ks) : regF (env 31 [(34, hd34), (42, hd42), (44, hd44), (48, hd48), (71, hd71), (73, hd73), (78, hd78)]) (unitAt c46 0) p46_0 h46_0 o46_0 d = g46_0 d := by kernel_rfl
theorem x46_0 : UOk Try.prog (env 31 [(34, hd34), (42, hd42), (44, hd44), (48, hd48), (71, hd71), (73, hd73), (78, hd78)]) (unitAt c46 0) u46_0 ∧ Pk Try.prog (env 31 [(34, hd34), (42, hd42), (44, hd44), (48, hd48), (71, hd71), (73, hd73), (78, hd78)]) u46_0.pk u46_0.up :=
  reg_at ok46 (show regOk (env 31 [(34, hd34), (42, hd42), (44, hd44), (48, hd48), (71, hd71), (73, hd73), (78, hd78)]) (unitAt c46 0) p46_0 = true by kernel_rfl) (h := h46_0) (o := o46_0) l46_0 (fun d y hy => by obtain ⟨r, h1, h2⟩ := j46_0 d y hy; exact ⟨r, (e46_0 d).trans h1, h2⟩)
set_option maxRecDepth 100000 in
theorem r46 (d : Dat hd46.pks) : runF (env 31 [(34, hd34), (42, hd42), (44, hd44), (48, hd48), (71, hd71), (73, hd73), (78, hd78)]) (lkU [(0, u46_0)]) c46 (Try.f46).results.toList [] hd46.pks hd46.rks d = b46 d := by kernel_rfl
theorem q46 (d : Dat hd46.pks) (y : Dat hd46.rks) : (hd46.fm d = some y) = (m46 d = some y) := by kernel_rfl
theorem t46 (d : Dat hd46.pks) (y : Dat hd46.rks) (h : hd46.fm d = some y) : runF (env 31 [(34, hd34), (42, hd42), (44, hd44), (48, hd48), (71, hd71), (73, hd73), (78, hd78)]) (lkU [(0, u46_0)]) c46 (Try.f46).results.toList [] hd46.pks hd46.rks d = some y := (r46 d).trans ((m46_eq d).symm.trans ((q46 d y).mp h))
theorem gn46 : FnG Try.prog 46 hd46 :=
  fn_g (hl := lkU [(0, u46_0)]) (un := []) ok46 (fun _ => rfl) Try.func46 rfl Try.ntmps46 (by kernel_rfl) (rv := (Try.f46).results.toList) (by kernel_rfl) (by decide) (uall_at ⟨⟨_, Nat.le_of_ble_eq_true rfl, (show (units c46)[0]? = some (unitAt c46 0) by kernel_rfl), x46_0⟩, trivial⟩) t46
theorem fn46 : FnOk Try.prog 46 hd46 := .inl gn46
/-! entail/entailref12.half -/
noncomputable def c91 : Code := ((Try.f91).body).getD .skip
def h91_0 : Sh := ⟨[.d (.int .u64), .d (.bool), .d (.arr 4 (.int .u64)), .d (.arr 4 (.int .u64)), .d (.arr 4 (.int .u64))], [5, 9], [(2, [.arr 4 (.int .u64)]), (3, [.arr 4 (.int .u64)]), (4, [.arr 4 (.int .u64)])], [], []⟩
def o91_0 : Outs := ⟨⟨[.d (.int .u64), .d (.arr 4 (.int .u64)), .d (.arr 4 (.int .u64))], [5], [(2, [.arr 4 (.int .u64)]), (4, [.arr 4 (.int .u64)])], [], []⟩, 0, ⟨[], [], [], [], []⟩, ⟨[], [], [], [], []⟩⟩
noncomputable def a91_0 (d : UInt64 × Bool × (List UInt64) × (List UInt64) × (List UInt64)) : Option (O3 (UInt64 × (List UInt64) × (List UInt64)) (Unit) (Unit)) :=
  cnd d.2.1
   (bnd (m73 (d.2.2.1, d.2.2.2.1)) fun y_3 =>
   some (.n (y_3.2, y_3.1, d.2.2.2.2)))
   (some (.n (d.1, d.2.2.1, d.2.2.2.2)))
noncomputable def l91_0 : (UInt64 × Bool × (List UInt64) × (List UInt64) × (List UInt64)) → Option (O3 (UInt64 × (List UInt64) × (List UInt64)) (Unit) (Unit)) := hide a91_0
theorem l91_0_eq (d : UInt64 × Bool × (List UInt64) × (List UInt64) × (List UInt64)) : l91_0 d = a91_0 d := congrFun (hide_eq _) d
noncomputable def u91_0 : UH := unit (env 44 [(73, hd73)]) h91_0 o91_0 l91_0
noncomputable def b91 (d : (List UInt64) × (List UInt64)) : Option ((List UInt64)) :=
  let t7_1 : UInt64 := (List.getD d.1 0 (0 : UInt64))
  let t8_2 : UInt64 := (t7_1 % (2 : UInt64))
  bnd (l91_0 ((0 : UInt64), (decide (t8_2 = (1 : UInt64))), d.1, d.2, (List.replicate 4 (0 : UInt64)))) fun o => (match o with
   | .n o => (let t17_4 : UInt64 := (List.getD o.2.1 0 (0 : UInt64))
   let t18_5 : UInt64 := (shrK .u64 t17_4 1)
   let t20_6 : UInt64 := (List.getD o.2.1 1 (0 : UInt64))
   guard (decide (0 ≤ (63 : Int)) && inR .u64 ((t20_6.toNat : Int) * 2 ^ min 63 (IntKind.bits .u64))) <|
   let t21_7 : UInt64 := (shlK .u64 t20_6 63)
   let t22_8 : UInt64 := (orK .u64 t18_5 t21_7)
   let t24_9 : UInt64 := (List.getD o.2.1 1 (0 : UInt64))
   let t25_10 : UInt64 := (shrK .u64 t24_9 1)
   let t27_11 : UInt64 := (List.getD o.2.1 2 (0 : UInt64))
   guard (decide (0 ≤ (63 : Int)) && inR .u64 ((t27_11.toNat : Int) * 2 ^ min 63 (IntKind.bits .u64))) <|
   let t28_12 : UInt64 := (shlK .u64 t27_11 63)
   let t29_13 : UInt64 := (orK .u64 t25_10 t28_12)
   let t31_14 : UInt64 := (List.getD o.2.1 2 (0 : UInt64))
   let t32_15 : UInt64 := (shrK .u64 t31_14 1)
   let t34_16 : UInt64 := (List.getD o.2.1 3 (0 : UInt64))
   guard (decide (0 ≤ (63 : Int)) && inR .u64 ((t34_16.toNat : Int) * 2 ^ min 63 (IntKind.bits .u64))) <|
   let t35_17 : UInt64 := (shlK .u64 t34_16 63)
   let t36_18 : UInt64 := (orK .u64 t32_15 t35_17)
   let t38_19 : UInt64 := (List.getD o.2.1 3 (0 : UInt64))
   let t39_20 : UInt64 := (shrK .u64 t38_19 1)
   guard (decide (0 ≤ (63 : Int)) && inR .u64 ((o.1.toNat : Int) * 2 ^ min 63 (IntKind.bits .u64))) <|
   let t41_21 : UInt64 := (shlK .u64 o.1 63)
   let t42_22 : UInt64 := (orK .u64 t39_20 t41_21)
   let t43_23 : List UInt64 := [t22_8, t29_13, t36_18, t42_22]
   some t43_23)
   | .x _o => none
   | .r _o => none)
noncomputable def m91 : ((List UInt64) × (List UInt64)) → Option ((List UInt64)) := hide b91
theorem m91_eq (d : (List UInt64) × (List UInt64)) : m91 d = b91 d := congrFun (hide_eq _) d
noncomputable def hd91 : Hd := ⟨[.d (.arr 4 (.int .u64)), .d (.arr 4 (.int .u64))], [.d (.arr 4 (.int .u64))], m91⟩
theorem ok91 : Okk Try.prog (env 44 [(73, hd73)]) := okk tab_ok (n := 44) (hs := [(73, hd73)]) ⟨fn73, trivial⟩ mixed
set_option maxRecDepth 100000 in
theorem e91_0 (d : Dat h91_0.ks) : condU (env 44 [(73, hd73)]) (lkU []) 0 (unitAt c91 0) h91_0 o91_0 d = a91_0 d := by kernel_rfl
theorem x91_0 : UOk Try.prog (env 44 [(73, hd73)]) (unitAt c91 0) u91_0 ∧ Pk Try.prog (env 44 [(73, hd73)]) u91_0.pk u91_0.up :=
  cond_at ok91 (show isCond (unitAt c91 0) = true by kernel_rfl) (h := h91_0) (o := o91_0) (n := 0) (hl := lkU []) rfl (uall_at trivial) l91_0 (fun d => (e91_0 d).trans (l91_0_eq d).symm)
set_option maxRecDepth 100000 in
theorem r91 (d : Dat hd91.pks) : runF (env 44 [(73, hd73)]) (lkU [(0, u91_0)]) c91 (Try.f91).results.toList [] hd91.pks hd91.rks d = b91 d := by kernel_rfl
theorem q91 (d : Dat hd91.pks) (y : Dat hd91.rks) : (hd91.fm d = some y) = (m91 d = some y) := by kernel_rfl
theorem t91 (d : Dat hd91.pks) (y : Dat hd91.rks) (h : hd91.fm d = some y) : runF (env 44 [(73, hd73)]) (lkU [(0, u91_0)]) c91 (Try.f91).results.toList [] hd91.pks hd91.rks d = some y := (r91 d).trans ((m91_eq d).symm.trans ((q91 d y).mp h))
theorem gn91 : FnG Try.prog 91 hd91 :=
  fn_g (hl := lkU [(0, u91_0)]) (un := []) ok91 (fun _ => rfl) Try.func91 rfl Try.ntmps91 (by kernel_rfl) (rv := (Try.f91).results.toList) (by kernel_rfl) (by decide) (uall_at ⟨⟨_, Nat.le_of_ble_eq_true rfl, (show (units c91)[0]? = some (unitAt c91 0) by kernel_rfl), x91_0⟩, trivial⟩) t91
theorem fn91 : FnOk Try.prog 91 hd91 := .inl gn91
/-! entail/entailref12.Inverse -/
noncomputable def c80 : Code := ((Try.f80).body).getD .skip
def h80_5 : Sh := ⟨[.d (.int .i64), .d (.bool), .d (.arr 4 (.int .u64)), .d (.arr 4 (.int .u64)), .d (.arr 4 (.int .u64)), .d (.arr 4 (.int .u64)), .d (.arr 4 (.int .u64)), .d (.arr 4 (.int .u64)), .d (.arr 4 (.int .u64))], [9, 48], [(3, [.arr 4 (.int .u64)]), (4, [.arr 4 (.int .u64)]), (5, [.arr 4 (.int .u64)]), (6, [.arr 4 (.int .u64)]), (7, [.arr 4 (.int .u64)]), (8, [.arr 4 (.int .u64)]), (10, [.arr 4 (.int .u64)])], [], []⟩
def o80_5 : Outs := ⟨⟨[.d (.int .i64), .d (.arr 4 (.int .u64)), .d (.arr 4 (.int .u64)), .d (.arr 4 (.int .u64)), .d (.arr 4 (.int .u64)), .d (.arr 4 (.int .u64)), .d (.arr 4 (.int .u64)), .d (.arr 4 (.int .u64))], [9], [(3, [.arr 4 (.int .u64)]), (4, [.arr 4 (.int .u64)]), (5, [.arr 4 (.int .u64)]), (6, [.arr 4 (.int .u64)]), (7, [.arr 4 (.int .u64)]), (8, [.arr 4 (.int .u64)]), (10, [.arr 4 (.int .u64)])], [], []⟩, 0, ⟨[], [], [], [], []⟩, ⟨[], [], [], [], []⟩⟩
noncomputable def a80_5 (d : Int × Bool × (List UInt64) × (List UInt64) × (List UInt64) × (List UInt64) × (List UInt64) × (List UInt64) × (List UInt64)) : Option (O3 (Int × (List UInt64) × (List UInt64) × (List UInt64) × (List UInt64) × (List UInt64) × (List UInt64) × (List UInt64)) (Unit) (Unit)) :=
  cnd d.2.1
   (bnd (m74 (d.2.2.2.2.2.1, d.2.2.2.2.1)) fun y_13 =>
   some (.n (d.1, d.2.2.1, d.2.2.2.1, d.2.2.2.2.1, d.2.2.2.2.1, d.2.2.2.2.2.2.2.1, d.2.2.2.2.2.2.1, y_13.1)))
   (some (.n (d.1, d.2.2.1, d.2.2.2.1, d.2.2.2.2.1, d.2.2.2.2.2.1, d.2.2.2.2.2.2.1, d.2.2.2.2.2.2.2.1, d.2.2.2.2.2.2.2.2)))
noncomputable def l80_5 : (Int × Bool × (List UInt64) × (List UInt64) × (List UInt64) × (List UInt64) × (List UInt64) × (List UInt64) × (List UInt64)) → Option (O3 (Int × (List UInt64) × (List UInt64) × (List UInt64) × (List UInt64) × (List UInt64) × (List UInt64) × (List UInt64)) (Unit) (Unit)) := hide a80_5
theorem l80_5_eq (d : Int × Bool × (List UInt64) × (List UInt64) × (List UInt64) × (List UInt64) × (List UInt64) × (List UInt64) × (List UInt64)) : l80_5 d = a80_5 d := congrFun (hide_eq _) d
noncomputable def u80_5 : UH := unit (env 75 [(73, hd73), (74, hd74), (91, hd91)]) h80_5 o80_5 l80_5
def h80_2 : Sh := ⟨[.d (.int .i64), .d (.arr 4 (.int .u64)), .d (.arr 4 (.int .u64)), .d (.arr 4 (.int .u64)), .d (.arr 4 (.int .u64)), .d (.arr 4 (.int .u64)), .d (.arr 4 (.int .u64))], [9], [(3, [.arr 4 (.int .u64)]), (4, [.arr 4 (.int .u64)]), (5, [.arr 4 (.int .u64)]), (6, [.arr 4 (.int .u64)]), (7, [.arr 4 (.int .u64)]), (8, [.arr 4 (.int .u64)])], [], []⟩
def o80_2 : Outs := ⟨⟨[], [], [], [], []⟩, 0, ⟨[.d (.arr 4 (.int .u64)), .d (.arr 4 (.int .u64))], [], [(4, [.arr 4 (.int .u64)]), (8, [.arr 4 (.int .u64)])], [], []⟩, ⟨[], [], [], [], []⟩⟩
noncomputable def k80_2 (f : Int × (List UInt64) × (List UInt64) × (List UInt64) × (List UInt64) × (List UInt64) × (List UInt64) → Option (O3 (Unit) ((List UInt64) × (List UInt64)) (Unit))) (d : Int × (List UInt64) × (List UInt64) × (List UInt64) × (List UInt64) × (List UInt64) × (List UInt64)) : Option (O3 (Unit) ((List UInt64) × (List UInt64)) (Unit)) :=
  cnd (decide (d.1 < (1100 : Int)))
   (let t26_6 : List UInt64 := [(0 : UInt64), (0 : UInt64), (0 : UInt64), (0 : UInt64)]
   cnd (!(eqD (.arr 4 (.int .u64)) d.2.2.2.1 t26_6))
    (let t32_7 : UInt64 := (List.getD d.2.2.2.1 0 (0 : UInt64))
    let t33_8 : UInt64 := (t32_7 % (2 : UInt64))
    cnd (decide (t33_8 = (0 : UInt64)))
     (bnd (m91 (d.2.2.2.1, d.2.1)) fun y_9 =>
     bnd (m91 (d.2.2.2.2.2.1, d.2.1)) fun y_10 =>
     guard (inR .i64 (d.1 + (1 : Int))) <|
     let t30_11 : Int := (d.1 + (1 : Int))
     f (t30_11, d.2.1, d.2.2.1, y_9, d.2.2.2.2.1, y_10, d.2.2.2.2.2.2))
     (bnd (m74 (d.2.2.2.1, d.2.2.2.2.1)) fun y_12 =>
     bnd (l80_5 (d.1, (decide (y_12.2 = (1 : UInt64))), d.2.1, d.2.2.1, d.2.2.2.1, d.2.2.2.2.1, d.2.2.2.2.2.1, d.2.2.2.2.2.2, y_12.1)) fun o => (match o with
      | .n o => (bnd (m74 (o.2.2.2.2.2.1, o.2.2.2.2.2.2.1)) fun y_14 =>
      cnd (decide (y_14.2 = (1 : UInt64)))
       (bnd (m73 (y_14.1, o.2.1)) fun y_15 =>
       guard (inR .i64 (o.1 + (1 : Int))) <|
       let t30_16 : Int := (o.1 + (1 : Int))
       f (t30_16, o.2.1, o.2.2.1, o.2.2.2.2.2.2.2, o.2.2.2.2.1, y_15.1, o.2.2.2.2.2.2.1))
       (guard (inR .i64 (o.1 + (1 : Int))) <|
       let t30_17 : Int := (o.1 + (1 : Int))
       f (t30_17, o.2.1, o.2.2.1, o.2.2.2.2.2.2.2, o.2.2.2.2.1, y_14.1, o.2.2.2.2.2.2.1)))
      | .x _o => none
      | .r _o => (some (.r ())))))
    (some (.x (d.2.2.1, d.2.2.2.2.2.2))))
   (some (.x (d.2.2.1, d.2.2.2.2.2.2)))
noncomputable def l80_2 : Int × (List UInt64) × (List UInt64) × (List UInt64) × (List UInt64) × (List UInt64) × (List UInt64) → Option (O3 (Unit) ((List UInt64) × (List UInt64)) (Unit)) := itN k80_2 fuel
noncomputable def u80_2 : UH := unit (env 75 [(73, hd73), (74, hd74), (91, hd91)]) h80_2 o80_2 l80_2
def h80_1 : Sh := ⟨[.d (.arr 4 (.int .u64)), .d (.arr 4 (.int .u64)), .d (.arr 4 (.int .u64))], [], [(2, [.arr 4 (.int .u64)]), (3, [.arr 4 (.int .u64)]), (4, [.arr 4 (.int .u64)])], [], []⟩
def o80_1 : Outs := ⟨⟨[.d (.arr 4 (.int .u64)), .d (.arr 4 (.int .u64)), .d (.arr 4 (.int .u64)), .d (.arr 4 (.int .u64))], [], [(3, [.arr 4 (.int .u64)]), (4, [.arr 4 (.int .u64)]), (5, [.arr 4 (.int .u64)]), (6, [.arr 4 (.int .u64)])], [], []⟩, 0, ⟨[], [], [], [], []⟩, ⟨[], [], [], [], []⟩⟩
def p80_1 : Plan := (.op 0 (.op 1 (.alt (.op 2 (.op 3 (.op 4 (.op 5 .fin)))) (.op 3 (.op 2 (.op 4 (.op 5 .fin)))))))
noncomputable def a80_1 (d : (List UInt64) × (List UInt64) × (List UInt64)) : Option (O3 ((List UInt64) × (List UInt64) × (List UInt64) × (List UInt64)) (Unit) (Unit)) :=
  some (.n (d.2.1, d.2.2, d.1, d.2.1))
noncomputable def l80_1 : ((List UInt64) × (List UInt64) × (List UInt64)) → Option (O3 ((List UInt64) × (List UInt64) × (List UInt64) × (List UInt64)) (Unit) (Unit)) := hide a80_1
theorem l80_1_eq (d : (List UInt64) × (List UInt64) × (List UInt64)) : l80_1 d = a80_1 d := congrFun (hide_eq _) d
noncomputable def g80_1 (d : (List UInt64) × (List UInt64) × (List UInt64)) : Option (List (O3 ((List UInt64) × (List UInt64) × (List UInt64) × (List UInt64)) (Unit) (Unit))) :=
  bnd
   (some [.n (d.2.1, d.2.2, d.1, d.2.1)]) fun x_2 =>
  bnd
   (some [.n (d.2.1, d.2.2, d.1, d.2.1)]) fun x_3 =>
  some (x_2 ++ x_3)
theorem j80_1 (d : (List UInt64) × (List UInt64) × (List UInt64)) (y : O3 ((List UInt64) × (List UInt64) × (List UInt64) × (List UInt64)) (Unit) (Unit)) (hd : l80_1 d = some y) : ∃ r, g80_1 d = some r ∧ ∀ x ∈ r, x = y := by
  rw [l80_1_eq] at hd
  unfold a80_1 at hd
  obtain rfl := Option.some.inj hd
  refine ⟨_, by unfold g80_1; simp only [bnd_s]; rfl, by simp⟩
noncomputable def u80_1 : UH := unit (env 75 [(73, hd73), (74, hd74), (91, hd91)]) h80_1 o80_1 l80_1
noncomputable def b80 (d : (List UInt64) × (List UInt64)) : Option ((List UInt64)) :=
  let t15_1 : List UInt64 := [(0 : UInt64), (0 : UInt64), (0 : UInt64), (0 : UInt64)]
  cnd (eqD (.arr 4 (.int .u64)) d.1 t15_1)
   (some d.1)
   (bnd (l80_1 (d.1, d.2, (List.replicate 4 (0 : UInt64)))) fun o => (match o with
    | .n o => (let t20_4 : List UInt64 := [(1 : UInt64), (0 : UInt64), (0 : UInt64), (0 : UInt64)]
    let t21_5 : List UInt64 := [(0 : UInt64), (0 : UInt64), (0 : UInt64), (0 : UInt64)]
    bnd (l80_2 ((0 : Int), o.1, o.2.1, o.2.2.1, o.2.2.2, t20_4, t21_5)) fun o => (match o with
     | .n _o => none
     | .x o => (some o.2)
     | .r _o => none))
    | .x _o => none
    | .r _o => none))
noncomputable def m80 : ((List UInt64) × (List UInt64)) → Option ((List UInt64)) := hide b80
theorem m80_eq (d : (List UInt64) × (List UInt64)) : m80 d = b80 d := congrFun (hide_eq _) d
noncomputable def hd80 : Hd := ⟨[.d (.arr 4 (.int .u64)), .d (.arr 4 (.int .u64))], [.d (.arr 4 (.int .u64))], m80⟩
theorem ok80 : Okk Try.prog (env 75 [(73, hd73), (74, hd74), (91, hd91)]) := okk tab_ok (n := 75) (hs := [(73, hd73), (74, hd74), (91, hd91)]) ⟨fn73, fn74, fn91, trivial⟩ mixed
set_option maxRecDepth 100000 in
theorem e80_5 (d : Dat h80_5.ks) : condU (env 75 [(73, hd73), (74, hd74), (91, hd91)]) (lkU []) 5 (unitAt c80 5) h80_5 o80_5 d = a80_5 d := by kernel_rfl
theorem x80_5 : UOk Try.prog (env 75 [(73, hd73), (74, hd74), (91, hd91)]) (unitAt c80 5) u80_5 ∧ Pk Try.prog (env 75 [(73, hd73), (74, hd74), (91, hd91)]) u80_5.pk u80_5.up :=
  cond_at ok80 (show isCond (unitAt c80 5) = true by kernel_rfl) (h := h80_5) (o := o80_5) (n := 5) (hl := lkU []) rfl (uall_at trivial) l80_5 (fun d => (e80_5 d).trans (l80_5_eq d).symm)
set_option maxRecDepth 100000 in
theorem e80_2 (f : Dat h80_2.ks → Option o80_2.O) (d : Dat h80_2.ks) : loopF (env 75 [(73, hd73), (74, hd74), (91, hd91)]) (lkU [(5, u80_5)]) 2 (lbody (unitAt c80 2)) h80_2 o80_2 f d = k80_2 f d := by kernel_rfl
theorem x80_2 : UOk Try.prog (env 75 [(73, hd73), (74, hd74), (91, hd91)]) (unitAt c80 2) u80_2 ∧ Pk Try.prog (env 75 [(73, hd73), (74, hd74), (91, hd91)]) u80_2.pk u80_2.up :=
  loop_at ok80 (show unitAt c80 2 = .loop (lbody (unitAt c80 2)) by kernel_rfl) (h := h80_2) (o := o80_2) (n := 2) (hl := lkU [(5, u80_5)]) (uall_at ⟨⟨_, Nat.le_of_ble_eq_true rfl, (show (units (lbody (unitAt c80 2)))[2]? = some (unitAt c80 5) by kernel_rfl), x80_5⟩, trivial⟩) k80_2 fuel e80_2
set_option maxRecDepth 100000 in
theorem e80_1 (d : Dat h80_1.ks) : regF (env 75 [(73, hd73), (74, hd74), (91, hd91)]) (unitAt c80 1) p80_1 h80_1 o80_1 d = g80_1 d := by kernel_rfl
theorem x80_1 : UOk Try.prog (env 75 [(73, hd73), (74, hd74), (91, hd91)]) (unitAt c80 1) u80_1 ∧ Pk Try.prog (env 75 [(73, hd73), (74, hd74), (91, hd91)]) u80_1.pk u80_1.up :=
  reg_at ok80 (show regOk (env 75 [(73, hd73), (74, hd74), (91, hd91)]) (unitAt c80 1) p80_1 = true by kernel_rfl) (h := h80_1) (o := o80_1) l80_1 (fun d y hy => by obtain ⟨r, h1, h2⟩ := j80_1 d y hy; exact ⟨r, (e80_1 d).trans h1, h2⟩)
set_option maxRecDepth 100000 in
theorem r80 (d : Dat hd80.pks) : runF (env 75 [(73, hd73), (74, hd74), (91, hd91)]) (lkU [(1, u80_1), (2, u80_2), (5, u80_5)]) c80 (Try.f80).results.toList [] hd80.pks hd80.rks d = b80 d := by kernel_rfl
theorem q80 (d : Dat hd80.pks) (y : Dat hd80.rks) : (hd80.fm d = some y) = (m80 d = some y) := by kernel_rfl
theorem t80 (d : Dat hd80.pks) (y : Dat hd80.rks) (h : hd80.fm d = some y) : runF (env 75 [(73, hd73), (74, hd74), (91, hd91)]) (lkU [(1, u80_1), (2, u80_2), (5, u80_5)]) c80 (Try.f80).results.toList [] hd80.pks hd80.rks d = some y := (r80 d).trans ((m80_eq d).symm.trans ((q80 d y).mp h))
theorem gn80 : FnG Try.prog 80 hd80 :=
  fn_g (hl := lkU [(1, u80_1), (2, u80_2), (5, u80_5)]) (un := []) ok80 (fun _ => rfl) Try.func80 rfl Try.ntmps80 (by kernel_rfl) (rv := (Try.f80).results.toList) (by kernel_rfl) (by decide) (uall_at ⟨⟨_, Nat.le_of_ble_eq_true rfl, (show (units c80)[1]? = some (unitAt c80 1) by kernel_rfl), x80_1⟩, ⟨_, Nat.le_of_ble_eq_true rfl, (show (units c80)[2]? = some (unitAt c80 2) by kernel_rfl), x80_2⟩, ⟨_, Nat.le_of_ble_eq_true rfl, (show (units c80)[5]? = some (unitAt c80 5) by kernel_rfl), x80_5⟩, trivial⟩) t80
theorem fn80 : FnOk Try.prog 80 hd80 := .inl gn80
/-! entail/entailref12.Inv -/
noncomputable def c50 : Code := ((Try.f50).body).getD .skip
noncomputable def b50 (d : (List UInt64)) : Option ((List UInt64)) :=
  bnd (m71 d) fun y_1 =>
  bnd (m34 ()) fun y_2 =>
  bnd (m80 (y_1, y_2)) fun y_3 =>
  some y_3
noncomputable def m50 : (List UInt64) → Option ((List UInt64)) := hide b50
theorem m50_eq (d : (List UInt64)) : m50 d = b50 d := congrFun (hide_eq _) d
noncomputable def hd50 : Hd := ⟨[.d (.arr 4 (.int .u64))], [.d (.arr 4 (.int .u64))], m50⟩
theorem ok50 : Okk Try.prog (env 7 [(34, hd34), (71, hd71), (80, hd80)]) := okk tab_ok (n := 7) (hs := [(34, hd34), (71, hd71), (80, hd80)]) ⟨fn34, fn71, fn80, trivial⟩ mixed
set_option maxRecDepth 100000 in
theorem r50 (d : Dat hd50.pks) : runF (env 7 [(34, hd34), (71, hd71), (80, hd80)]) (lkU []) c50 (Try.f50).results.toList [] hd50.pks hd50.rks d = b50 d := by kernel_rfl
theorem q50 (d : Dat hd50.pks) (y : Dat hd50.rks) : (hd50.fm d = some y) = (m50 d = some y) := by kernel_rfl
theorem t50 (d : Dat hd50.pks) (y : Dat hd50.rks) (h : hd50.fm d = some y) : runF (env 7 [(34, hd34), (71, hd71), (80, hd80)]) (lkU []) c50 (Try.f50).results.toList [] hd50.pks hd50.rks d = some y := (r50 d).trans ((m50_eq d).symm.trans ((q50 d y).mp h))
theorem gn50 : FnG Try.prog 50 hd50 :=
  fn_g (hl := lkU []) (un := []) ok50 (fun _ => rfl) Try.func50 rfl Try.ntmps50 (by kernel_rfl) (rv := (Try.f50).results.toList) (by kernel_rfl) (by decide) (uall_at trivial) t50
theorem fn50 : FnOk Try.prog 50 hd50 := .inl gn50
/-! entail/entaillaw12.FieldSums -/
noncomputable def c9 : Code := ((Try.f9).body).getD .skip
noncomputable def b9 (d : (List UInt64) × (List UInt64)) : Option (Bool) :=
  bnd (m32 ()) fun y_1 =>
  cnd y_1
   (bnd (m33 ()) fun y_2 =>
   bnd (m34 ()) fun y_3 =>
   cnd (eqD (.arr 4 (.int .u64)) y_2 y_3)
    (bnd (m35 d.1) fun y_4 =>
    bnd (m36 d.1) fun y_5 =>
    cnd (eqD (.arr 4 (.int .u64)) y_4 y_5)
     (bnd (m37 (d.1, d.2)) fun y_6 =>
     bnd (m38 (d.1, d.2)) fun y_7 =>
     cnd (eqD (.arr 4 (.int .u64)) y_6 y_7)
      (bnd (m39 (d.1, d.2)) fun y_8 =>
      bnd (m40 (d.1, d.2)) fun y_9 =>
      cnd (eqD (.arr 4 (.int .u64)) y_8 y_9)
       (bnd (m41 d.1) fun y_10 =>
       bnd (m42 d.1) fun y_11 =>
       some (eqD (.arr 4 (.int .u64)) y_10 y_11))
       (some false))
      (some false))
     (some false))
    (some false))
   (some false)
noncomputable def m9 : ((List UInt64) × (List UInt64)) → Option (Bool) := hide b9
theorem m9_eq (d : (List UInt64) × (List UInt64)) : m9 d = b9 d := congrFun (hide_eq _) d
noncomputable def hd9 : Hd := ⟨[.d (.arr 4 (.int .u64)), .d (.arr 4 (.int .u64))], [.d (.bool)], m9⟩
theorem ok9 : Okk Try.prog (env 43 [(32, hd32), (33, hd33), (34, hd34), (35, hd35), (36, hd36), (37, hd37), (38, hd38), (39, hd39), (40, hd40), (41, hd41), (42, hd42)]) := okk tab_ok (n := 43) (hs := [(32, hd32), (33, hd33), (34, hd34), (35, hd35), (36, hd36), (37, hd37), (38, hd38), (39, hd39), (40, hd40), (41, hd41), (42, hd42)]) ⟨fn32, fn33, fn34, fn35, fn36, fn37, fn38, fn39, fn40, fn41, fn42, trivial⟩ mixed
set_option maxRecDepth 100000 in
theorem r9 (d : Dat hd9.pks) : runF (env 43 [(32, hd32), (33, hd33), (34, hd34), (35, hd35), (36, hd36), (37, hd37), (38, hd38), (39, hd39), (40, hd40), (41, hd41), (42, hd42)]) (lkU []) c9 (Try.f9).results.toList [] hd9.pks hd9.rks d = b9 d := by kernel_rfl
theorem q9 (d : Dat hd9.pks) (y : Dat hd9.rks) : (hd9.fm d = some y) = (m9 d = some y) := by kernel_rfl
theorem t9 (d : Dat hd9.pks) (y : Dat hd9.rks) (h : hd9.fm d = some y) : runF (env 43 [(32, hd32), (33, hd33), (34, hd34), (35, hd35), (36, hd36), (37, hd37), (38, hd38), (39, hd39), (40, hd40), (41, hd41), (42, hd42)]) (lkU []) c9 (Try.f9).results.toList [] hd9.pks hd9.rks d = some y := (r9 d).trans ((m9_eq d).symm.trans ((q9 d y).mp h))
theorem gn9 : FnG Try.prog 9 hd9 :=
  fn_g (hl := lkU []) (un := []) ok9 (fun _ => rfl) Try.func9 rfl Try.ntmps9 (by kernel_rfl) (rv := (Try.f9).results.toList) (by kernel_rfl) (by decide) (uall_at trivial) t9
theorem fn9 : FnOk Try.prog 9 hd9 := .inl gn9
/-! entail/entaillaw12.FieldMul -/
noncomputable def c10 : Code := ((Try.f10).body).getD .skip
noncomputable def b10 (d : (List UInt64) × (List UInt64)) : Option (Bool) :=
  bnd (m32 ()) fun y_1 =>
  cnd y_1
   (bnd (m43 (d.1, d.2)) fun y_2 =>
   bnd (m44 (d.1, d.2)) fun y_3 =>
   some (eqD (.arr 4 (.int .u64)) y_2 y_3))
   (some false)
noncomputable def m10 : ((List UInt64) × (List UInt64)) → Option (Bool) := hide b10
theorem m10_eq (d : (List UInt64) × (List UInt64)) : m10 d = b10 d := congrFun (hide_eq _) d
noncomputable def hd10 : Hd := ⟨[.d (.arr 4 (.int .u64)), .d (.arr 4 (.int .u64))], [.d (.bool)], m10⟩
theorem ok10 : Okk Try.prog (env 15 [(32, hd32), (43, hd43), (44, hd44)]) := okk tab_ok (n := 15) (hs := [(32, hd32), (43, hd43), (44, hd44)]) ⟨fn32, fn43, fn44, trivial⟩ mixed
set_option maxRecDepth 100000 in
theorem r10 (d : Dat hd10.pks) : runF (env 15 [(32, hd32), (43, hd43), (44, hd44)]) (lkU []) c10 (Try.f10).results.toList [] hd10.pks hd10.rks d = b10 d := by kernel_rfl
theorem q10 (d : Dat hd10.pks) (y : Dat hd10.rks) : (hd10.fm d = some y) = (m10 d = some y) := by kernel_rfl
theorem t10 (d : Dat hd10.pks) (y : Dat hd10.rks) (h : hd10.fm d = some y) : runF (env 15 [(32, hd32), (43, hd43), (44, hd44)]) (lkU []) c10 (Try.f10).results.toList [] hd10.pks hd10.rks d = some y := (r10 d).trans ((m10_eq d).symm.trans ((q10 d y).mp h))
theorem gn10 : FnG Try.prog 10 hd10 :=
  fn_g (hl := lkU []) (un := []) ok10 (fun _ => rfl) Try.func10 rfl Try.ntmps10 (by kernel_rfl) (rv := (Try.f10).results.toList) (by kernel_rfl) (by decide) (uall_at trivial) t10
theorem fn10 : FnOk Try.prog 10 hd10 := .inl gn10
/-! entail/entaillaw12.FieldPow -/
noncomputable def c11 : Code := ((Try.f11).body).getD .skip
noncomputable def b11 (d : (List UInt64) × (List UInt64)) : Option (Bool) :=
  bnd (m45 d.1) fun y_1 =>
  bnd (m46 d.1) fun y_2 =>
  bnd (m32 ()) fun y_3 =>
  cnd y_3
   (bnd (m47 (d.1, d.2)) fun y_4 =>
   bnd (m48 (d.1, d.2)) fun y_5 =>
   cnd (eqD (.arr 4 (.int .u64)) y_4 y_5)
    (bnd (m49 d.1) fun y_6 =>
    bnd (m50 d.1) fun y_7 =>
    cnd (eqD (.arr 4 (.int .u64)) y_6 y_7)
     (cnd (eqD (.arr 4 (.int .u64)) y_1.1 y_2.1)
      (some (decide (y_1.2 = y_2.2)))
      (some false))
     (some false))
    (some false))
   (some false)
noncomputable def m11 : ((List UInt64) × (List UInt64)) → Option (Bool) := hide b11
theorem m11_eq (d : (List UInt64) × (List UInt64)) : m11 d = b11 d := congrFun (hide_eq _) d
noncomputable def hd11 : Hd := ⟨[.d (.arr 4 (.int .u64)), .d (.arr 4 (.int .u64))], [.d (.bool)], m11⟩
theorem ok11 : Okk Try.prog (env 46 [(32, hd32), (45, hd45), (46, hd46), (47, hd47), (48, hd48), (49, hd49), (50, hd50)]) := okk tab_ok (n := 46) (hs := [(32, hd32), (45, hd45), (46, hd46), (47, hd47), (48, hd48), (49, hd49), (50, hd50)]) ⟨fn32, fn45, fn46, fn47, fn48, fn49, fn50, trivial⟩ mixed
set_option maxRecDepth 100000 in
theorem r11 (d : Dat hd11.pks) : runF (env 46 [(32, hd32), (45, hd45), (46, hd46), (47, hd47), (48, hd48), (49, hd49), (50, hd50)]) (lkU []) c11 (Try.f11).results.toList [] hd11.pks hd11.rks d = b11 d := by kernel_rfl
theorem q11 (d : Dat hd11.pks) (y : Dat hd11.rks) : (hd11.fm d = some y) = (m11 d = some y) := by kernel_rfl
theorem t11 (d : Dat hd11.pks) (y : Dat hd11.rks) (h : hd11.fm d = some y) : runF (env 46 [(32, hd32), (45, hd45), (46, hd46), (47, hd47), (48, hd48), (49, hd49), (50, hd50)]) (lkU []) c11 (Try.f11).results.toList [] hd11.pks hd11.rks d = some y := (r11 d).trans ((m11_eq d).symm.trans ((q11 d y).mp h))
theorem gn11 : FnG Try.prog 11 hd11 :=
  fn_g (hl := lkU []) (un := []) ok11 (fun _ => rfl) Try.func11 rfl Try.ntmps11 (by kernel_rfl) (rv := (Try.f11).results.toList) (by kernel_rfl) (by decide) (uall_at trivial) t11
theorem fn11 : FnOk Try.prog 11 hd11 := .inl gn11
/-! entail/entaillaw12.FieldLaws -/
noncomputable def c13 : Code := ((Try.f13).body).getD .skip
noncomputable def b13 (d : (List UInt64) × (List UInt64) × (List UInt64)) : Option (Bool) :=
  bnd (m37 (d.2.1, d.2.2)) fun y_1 =>
  bnd (m43 (d.1, y_1)) fun y_2 =>
  bnd (m43 (d.1, d.2.1)) fun y_3 =>
  bnd (m43 (d.1, d.2.2)) fun y_4 =>
  bnd (m37 (y_3, y_4)) fun y_5 =>
  bnd (m43 (d.2.1, d.2.2)) fun y_6 =>
  bnd (m43 (d.1, y_6)) fun y_7 =>
  bnd (m43 (d.1, d.2.1)) fun y_8 =>
  bnd (m43 (y_8, d.2.2)) fun y_9 =>
  bnd (m37 (d.2.1, d.2.2)) fun y_10 =>
  bnd (m37 (d.1, y_10)) fun y_11 =>
  bnd (m37 (d.1, d.2.1)) fun y_12 =>
  bnd (m37 (y_12, d.2.2)) fun y_13 =>
  bnd (m37 (d.1, d.2.1)) fun y_14 =>
  bnd (m37 (d.2.1, d.1)) fun y_15 =>
  cnd (eqD (.arr 4 (.int .u64)) y_14 y_15)
   (bnd (m43 (d.1, d.2.1)) fun y_16 =>
   bnd (m43 (d.2.1, d.1)) fun y_17 =>
   bnd (m37 (d.1, d.2.1)) fun y_18 =>
   bnd (m39 (y_18, d.2.1)) fun y_19 =>
   bnd (m35 d.1) fun y_20 =>
   cnd (eqD (.arr 4 (.int .u64)) y_19 y_20)
    (bnd (m41 d.1) fun y_21 =>
    bnd (m37 (d.1, y_21)) fun y_22 =>
    let t76_23 : List UInt64 := [(0 : UInt64), (0 : UInt64), (0 : UInt64), (0 : UInt64)]
    bnd (m32 ()) fun y_24 =>
    cnd y_24
     (cnd (eqD (.arr 4 (.int .u64)) y_2 y_5)
      (cnd (eqD (.arr 4 (.int .u64)) y_7 y_9)
       (cnd (eqD (.arr 4 (.int .u64)) y_11 y_13)
        (cnd (eqD (.arr 4 (.int .u64)) y_16 y_17)
         (some (eqD (.arr 4 (.int .u64)) y_22 t76_23))
         (some false))
        (some false))
       (some false))
      (some false))
     (some false))
    (bnd (m32 ()) fun y_25 =>
    cnd y_25
     (cnd (eqD (.arr 4 (.int .u64)) y_2 y_5)
      (cnd (eqD (.arr 4 (.int .u64)) y_7 y_9)
       (cnd (eqD (.arr 4 (.int .u64)) y_11 y_13)
        (cnd (eqD (.arr 4 (.int .u64)) y_16 y_17)
         (some false)
         (some false))
        (some false))
       (some false))
      (some false))
     (some false)))
   (bnd (m37 (d.1, d.2.1)) fun y_26 =>
   bnd (m39 (y_26, d.2.1)) fun y_27 =>
   bnd (m35 d.1) fun y_28 =>
   cnd (eqD (.arr 4 (.int .u64)) y_27 y_28)
    (bnd (m41 d.1) fun y_29 =>
    bnd (m37 (d.1, y_29)) fun _y_30 =>
    let _t76_31 : List UInt64 := [(0 : UInt64), (0 : UInt64), (0 : UInt64), (0 : UInt64)]
    bnd (m32 ()) fun y_32 =>
    cnd y_32
     (cnd (eqD (.arr 4 (.int .u64)) y_2 y_5)
      (cnd (eqD (.arr 4 (.int .u64)) y_7 y_9)
       (cnd (eqD (.arr 4 (.int .u64)) y_11 y_13)
        (some false)
        (some false))
       (some false))
      (some false))
     (some false))
    (bnd (m32 ()) fun y_33 =>
    cnd y_33
     (cnd (eqD (.arr 4 (.int .u64)) y_2 y_5)
      (cnd (eqD (.arr 4 (.int .u64)) y_7 y_9)
       (cnd (eqD (.arr 4 (.int .u64)) y_11 y_13)
        (some false)
        (some false))
       (some false))
      (some false))
     (some false)))
noncomputable def m13 : ((List UInt64) × (List UInt64) × (List UInt64)) → Option (Bool) := hide b13
theorem m13_eq (d : (List UInt64) × (List UInt64) × (List UInt64)) : m13 d = b13 d := congrFun (hide_eq _) d
noncomputable def hd13 : Hd := ⟨[.d (.arr 4 (.int .u64)), .d (.arr 4 (.int .u64)), .d (.arr 4 (.int .u64))], [.d (.bool)], m13⟩
theorem ok13 : Okk Try.prog (env 95 [(32, hd32), (35, hd35), (37, hd37), (39, hd39), (41, hd41), (43, hd43)]) := okk tab_ok (n := 95) (hs := [(32, hd32), (35, hd35), (37, hd37), (39, hd39), (41, hd41), (43, hd43)]) ⟨fn32, fn35, fn37, fn39, fn41, fn43, trivial⟩ mixed
set_option maxRecDepth 100000 in
theorem r13 (d : Dat hd13.pks) : runF (env 95 [(32, hd32), (35, hd35), (37, hd37), (39, hd39), (41, hd41), (43, hd43)]) (lkU []) c13 (Try.f13).results.toList [] hd13.pks hd13.rks d = b13 d := by kernel_rfl
theorem q13 (d : Dat hd13.pks) (y : Dat hd13.rks) : (hd13.fm d = some y) = (m13 d = some y) := by kernel_rfl
theorem t13 (d : Dat hd13.pks) (y : Dat hd13.rks) (h : hd13.fm d = some y) : runF (env 95 [(32, hd32), (35, hd35), (37, hd37), (39, hd39), (41, hd41), (43, hd43)]) (lkU []) c13 (Try.f13).results.toList [] hd13.pks hd13.rks d = some y := (r13 d).trans ((m13_eq d).symm.trans ((q13 d y).mp h))
theorem gn13 : FnG Try.prog 13 hd13 :=
  fn_g (hl := lkU []) (un := []) ok13 (fun _ => rfl) Try.func13 rfl Try.ntmps13 (by kernel_rfl) (rv := (Try.f13).results.toList) (by kernel_rfl) (by decide) (uall_at trivial) t13
theorem fn13 : FnOk Try.prog 13 hd13 := .inl gn13
/-! entail/entaillaw12.FieldInverse -/
noncomputable def c14 : Code := ((Try.f14).body).getD .skip
noncomputable def b14 (d : (List UInt64)) : Option (Bool) :=
  bnd (m49 d) fun y_1 =>
  bnd (m35 d) fun y_2 =>
  let t8_3 : List UInt64 := [(0 : UInt64), (0 : UInt64), (0 : UInt64), (0 : UInt64)]
  cnd (eqD (.arr 4 (.int .u64)) y_2 t8_3)
   (bnd (m32 ()) fun y_4 =>
   cnd y_4
    (let t13_5 : List UInt64 := [(0 : UInt64), (0 : UInt64), (0 : UInt64), (0 : UInt64)]
    some (eqD (.arr 4 (.int .u64)) y_1 t13_5))
    (some false))
   (bnd (m32 ()) fun y_6 =>
   cnd y_6
    (bnd (m43 (d, y_1)) fun y_7 =>
    let t21_8 : List UInt64 := [(1 : UInt64), (0 : UInt64), (0 : UInt64), (0 : UInt64)]
    cnd (eqD (.arr 4 (.int .u64)) y_7 t21_8)
     (bnd (m49 y_1) fun y_9 =>
     bnd (m35 d) fun y_10 =>
     some (eqD (.arr 4 (.int .u64)) y_9 y_10))
     (some false))
    (some false))
noncomputable def m14 : (List UInt64) → Option (Bool) := hide b14
theorem m14_eq (d : (List UInt64)) : m14 d = b14 d := congrFun (hide_eq _) d
noncomputable def hd14 : Hd := ⟨[.d (.arr 4 (.int .u64))], [.d (.bool)], m14⟩
theorem ok14 : Okk Try.prog (env 31 [(32, hd32), (35, hd35), (43, hd43), (49, hd49)]) := okk tab_ok (n := 31) (hs := [(32, hd32), (35, hd35), (43, hd43), (49, hd49)]) ⟨fn32, fn35, fn43, fn49, trivial⟩ mixed
set_option maxRecDepth 100000 in
theorem r14 (d : Dat hd14.pks) : runF (env 31 [(32, hd32), (35, hd35), (43, hd43), (49, hd49)]) (lkU []) c14 (Try.f14).results.toList [] hd14.pks hd14.rks d = b14 d := by kernel_rfl
theorem q14 (d : Dat hd14.pks) (y : Dat hd14.rks) : (hd14.fm d = some y) = (m14 d = some y) := by kernel_rfl
theorem t14 (d : Dat hd14.pks) (y : Dat hd14.rks) (h : hd14.fm d = some y) : runF (env 31 [(32, hd32), (35, hd35), (43, hd43), (49, hd49)]) (lkU []) c14 (Try.f14).results.toList [] hd14.pks hd14.rks d = some y := (r14 d).trans ((m14_eq d).symm.trans ((q14 d y).mp h))
theorem gn14 : FnG Try.prog 14 hd14 :=
  fn_g (hl := lkU []) (un := []) ok14 (fun _ => rfl) Try.func14 rfl Try.ntmps14 (by kernel_rfl) (rv := (Try.f14).results.toList) (by kernel_rfl) (by decide) (uall_at trivial) t14
theorem fn14 : FnOk Try.prog 14 hd14 := .inl gn14
/-! entail/entaillaw12.FieldRoots -/
noncomputable def c15 : Code := ((Try.f15).body).getD .skip
noncomputable def b15 (d : (List UInt64)) : Option (Bool) :=
  bnd (m43 (d, d)) fun y_1 =>
  bnd (m45 y_1) fun y_2 =>
  cnd (!y_2.2)
   (some false)
   (bnd (m35 d) fun y_3 =>
   cnd (!(eqD (.arr 4 (.int .u64)) y_2.1 y_3))
    (bnd (m41 d) fun y_4 =>
    cnd (!(eqD (.arr 4 (.int .u64)) y_2.1 y_4))
     (some false)
     (bnd (m45 d) fun y_5 =>
     cnd y_5.2
      (bnd (m43 (y_5.1, y_5.1)) fun y_6 =>
      bnd (m35 d) fun y_7 =>
      cnd (!(eqD (.arr 4 (.int .u64)) y_6 y_7))
       (some false)
       (let t46_8 : UInt64 := (List.getD y_5.1 0 (0 : UInt64))
       let t47_9 : UInt64 := (t46_8 % (2 : UInt64))
       cnd (!(decide (t47_9 = (0 : UInt64))))
        (some false)
        (bnd (m33 ()) fun y_10 =>
        bnd (fCmp (y_5.1, y_10)) fun y_11 =>
        cnd (decide ((0 : Int) ≤ y_11))
         (some false)
         (bnd (m41 d) fun y_12 =>
         bnd (m45 y_12) fun y_13 =>
         bnd (m35 d) fun y_14 =>
         let t65_15 : List UInt64 := [(0 : UInt64), (0 : UInt64), (0 : UInt64), (0 : UInt64)]
         bnd (m32 ()) fun y_16 =>
         cnd y_16
          (cnd (eqD (.arr 4 (.int .u64)) y_14 t65_15)
           (cnd y_5.2
            (cnd y_13.2
             (some true)
             (cnd (!(eqD (.arr 4 (.int .u64)) y_14 t65_15))
              (some (!(decide (y_5.2 = y_13.2))))
              (some false)))
            (cnd (!(eqD (.arr 4 (.int .u64)) y_14 t65_15))
             (some (!(decide (y_5.2 = y_13.2))))
             (some false)))
           (cnd (!(eqD (.arr 4 (.int .u64)) y_14 t65_15))
            (some (!(decide (y_5.2 = y_13.2))))
            (some false)))
          (some false)))))
      (bnd (m41 d) fun y_17 =>
      bnd (m45 y_17) fun y_18 =>
      bnd (m35 d) fun y_19 =>
      let t65_20 : List UInt64 := [(0 : UInt64), (0 : UInt64), (0 : UInt64), (0 : UInt64)]
      bnd (m32 ()) fun y_21 =>
      cnd y_21
       (cnd (eqD (.arr 4 (.int .u64)) y_19 t65_20)
        (cnd y_5.2
         (cnd y_18.2
          (some true)
          (cnd (!(eqD (.arr 4 (.int .u64)) y_19 t65_20))
           (some (!(decide (y_5.2 = y_18.2))))
           (some false)))
         (cnd (!(eqD (.arr 4 (.int .u64)) y_19 t65_20))
          (some (!(decide (y_5.2 = y_18.2))))
          (some false)))
        (cnd (!(eqD (.arr 4 (.int .u64)) y_19 t65_20))
         (some (!(decide (y_5.2 = y_18.2))))
         (some false)))
       (some false))))
    (bnd (m45 d) fun y_22 =>
    cnd y_22.2
     (bnd (m43 (y_22.1, y_22.1)) fun y_23 =>
     bnd (m35 d) fun y_24 =>
     cnd (!(eqD (.arr 4 (.int .u64)) y_23 y_24))
      (some false)
      (let t46_25 : UInt64 := (List.getD y_22.1 0 (0 : UInt64))
      let t47_26 : UInt64 := (t46_25 % (2 : UInt64))
      cnd (!(decide (t47_26 = (0 : UInt64))))
       (some false)
       (bnd (m33 ()) fun y_27 =>
       bnd (fCmp (y_22.1, y_27)) fun y_28 =>
       cnd (decide ((0 : Int) ≤ y_28))
        (some false)
        (bnd (m41 d) fun y_29 =>
        bnd (m45 y_29) fun y_30 =>
        bnd (m35 d) fun y_31 =>
        let t65_32 : List UInt64 := [(0 : UInt64), (0 : UInt64), (0 : UInt64), (0 : UInt64)]
        bnd (m32 ()) fun y_33 =>
        cnd y_33
         (cnd (eqD (.arr 4 (.int .u64)) y_31 t65_32)
          (cnd y_22.2
           (cnd y_30.2
            (some true)
            (cnd (!(eqD (.arr 4 (.int .u64)) y_31 t65_32))
             (some (!(decide (y_22.2 = y_30.2))))
             (some false)))
           (cnd (!(eqD (.arr 4 (.int .u64)) y_31 t65_32))
            (some (!(decide (y_22.2 = y_30.2))))
            (some false)))
          (cnd (!(eqD (.arr 4 (.int .u64)) y_31 t65_32))
           (some (!(decide (y_22.2 = y_30.2))))
           (some false)))
         (some false)))))
     (bnd (m41 d) fun y_34 =>
     bnd (m45 y_34) fun y_35 =>
     bnd (m35 d) fun y_36 =>
     let t65_37 : List UInt64 := [(0 : UInt64), (0 : UInt64), (0 : UInt64), (0 : UInt64)]
     bnd (m32 ()) fun y_38 =>
     cnd y_38
      (cnd (eqD (.arr 4 (.int .u64)) y_36 t65_37)
       (cnd y_22.2
        (cnd y_35.2
         (some true)
         (cnd (!(eqD (.arr 4 (.int .u64)) y_36 t65_37))
          (some (!(decide (y_22.2 = y_35.2))))
          (some false)))
        (cnd (!(eqD (.arr 4 (.int .u64)) y_36 t65_37))
         (some (!(decide (y_22.2 = y_35.2))))
         (some false)))
       (cnd (!(eqD (.arr 4 (.int .u64)) y_36 t65_37))
        (some (!(decide (y_22.2 = y_35.2))))
        (some false)))
      (some false))))
noncomputable def m15 : (List UInt64) → Option (Bool) := hide b15
theorem m15_eq (d : (List UInt64)) : m15 d = b15 d := congrFun (hide_eq _) d
noncomputable def hd15 : Hd := ⟨[.d (.arr 4 (.int .u64))], [.d (.bool)], m15⟩
theorem ok15 : Okk Try.prog (env 86 [(27, hd27), (32, hd32), (33, hd33), (35, hd35), (41, hd41), (43, hd43), (45, hd45)]) := okk tab_ok (n := 86) (hs := [(27, hd27), (32, hd32), (33, hd33), (35, hd35), (41, hd41), (43, hd43), (45, hd45)]) ⟨fn27, fn32, fn33, fn35, fn41, fn43, fn45, trivial⟩ mixed
set_option maxRecDepth 100000 in
theorem r15 (d : Dat hd15.pks) : runF (env 86 [(27, hd27), (32, hd32), (33, hd33), (35, hd35), (41, hd41), (43, hd43), (45, hd45)]) (lkU []) c15 (Try.f15).results.toList [] hd15.pks hd15.rks d = b15 d := by kernel_rfl
theorem q15 (d : Dat hd15.pks) (y : Dat hd15.rks) : (hd15.fm d = some y) = (m15 d = some y) := by kernel_rfl
theorem t15 (d : Dat hd15.pks) (y : Dat hd15.rks) (h : hd15.fm d = some y) : runF (env 86 [(27, hd27), (32, hd32), (33, hd33), (35, hd35), (41, hd41), (43, hd43), (45, hd45)]) (lkU []) c15 (Try.f15).results.toList [] hd15.pks hd15.rks d = some y := (r15 d).trans ((m15_eq d).symm.trans ((q15 d y).mp h))
theorem gn15 : FnG Try.prog 15 hd15 :=
  fn_g (hl := lkU []) (un := []) ok15 (fun _ => rfl) Try.func15 rfl Try.ntmps15 (by kernel_rfl) (rv := (Try.f15).results.toList) (by kernel_rfl) (by decide) (uall_at trivial) t15
theorem fn15 : FnOk Try.prog 15 hd15 := .inl gn15
end Go.Proofs.Ythlbdpmnljcapaa.Q
