/-
  Written by qgen.py: functions reckoned.
-/
import Derived.Test.YthlbdpmnljcapaaQFH
import Derived.Test.YthlbdpmnljcapaaRows
namespace Go.Proofs.Ythlbdpmnljcapaa.Q.L
open Go.RowKit
theorem e23 : EF Try.prog 23 (.int .u64) := EF.mk' (b := 8) (by kernel_rfl) rfl (by kernel_rfl)
theorem v23 : Try.prog.underlying 23 = some (.int .u64) := by kernel_rfl
theorem e25 : EF Try.prog 25 (.arr 4 (.int .u64)) := EF.mk' (b := 32) (by kernel_rfl) rfl (by kernel_rfl)
theorem v25 : Try.prog.underlying 25 = some (.array 4 23) := by kernel_rfl
def tab : List (Nat × TI) := [(23, ⟨.int .u64, 0, []⟩), (25, ⟨.arr 4 (.int .u64), 23, []⟩)]
theorem tab_ok : Each0 (TRow Try.prog) tab := ⟨⟨⟨e23, v23⟩, fun _ => ⟨(.int v23), by decide, by kernel_rfl⟩⟩,
  ⟨⟨e25, v25, e23, by decide⟩, fun _ => ⟨(.arr v25 e23 (.int v23)), by decide, by kernel_rfl⟩⟩,
  trivial⟩
def env (n : Nat) (hs : List (Nat × Hd)) : Env := ⟨n, lkT tab, lkT hs, fun _ => none⟩
theorem mixed : Try.prog.follows .mixedOrders = true := by kernel_rfl
theorem okk (ht : Each0 (TRow Try.prog) tab) {n : Nat} {hs : List (Nat × Hd)} (h : Each0 (fun p => FnOk Try.prog p.1 p.2) hs) (hm : Try.prog.follows .mixedOrders = true) : Okk Try.prog (env n hs) := ⟨⟨env_ok ht _ _ _, fun _ _ hf => lkT_each h hf⟩, hm⟩
/-! entail/wide.divideWord -/
noncomputable def c92 : Code := ((Try.f92).body).getD .skip
def h92_1 : Sh := ⟨[.d (.int .u64), .d (.int .u64), .d (.int .u64), .d (.arr 4 (.int .u64)), .d (.arr 4 (.int .u64)), .d (.arr 4 (.int .u64)), .d (.arr 4 (.int .u64))], [9, 10, 12], [(5, [.arr 4 (.int .u64)]), (7, [.arr 4 (.int .u64)]), (8, [.arr 4 (.int .u64)]), (11, [.arr 4 (.int .u64)])], [], []⟩
def o92_1 : Outs := ⟨⟨[], [], [], [], []⟩, 0, ⟨[.d (.int .u64), .d (.arr 4 (.int .u64)), .d (.arr 4 (.int .u64)), .d (.arr 4 (.int .u64))], [10], [(7, [.arr 4 (.int .u64)]), (8, [.arr 4 (.int .u64)]), (11, [.arr 4 (.int .u64)])], [], []⟩, ⟨[], [], [], [], []⟩⟩
noncomputable def k92_1 (f : UInt64 × UInt64 × UInt64 × (List UInt64) × (List UInt64) × (List UInt64) × (List UInt64) → Option (O3 (Unit) (UInt64 × (List UInt64) × (List UInt64) × (List UInt64)) (Unit))) (d : UInt64 × UInt64 × UInt64 × (List UInt64) × (List UInt64) × (List UInt64) × (List UInt64)) : Option (O3 (Unit) (UInt64 × (List UInt64) × (List UInt64) × (List UInt64)) (Unit)) :=
  cnd (decide (d.1 < d.2.2.1))
   (let t54_11 : UInt64 := (d.2.1 - (1 : UInt64))
   bnd (fSub (d.2.2.2.2.2.2, d.2.2.2.1)) fun y_12 =>
   let t63_13 : UInt64 := (d.2.2.1 - y_12.2)
   f (d.1, t54_11, t63_13, d.2.2.2.1, d.2.2.2.2.1, d.2.2.2.2.2.1, y_12.1))
   (cnd (decide (d.2.2.1 = d.1))
    (bnd (fCmp (d.2.2.2.2.2.2, d.2.2.2.2.2.1)) fun y_14 =>
    cnd (decide ((0 : Int) < y_14))
     (let t54_15 : UInt64 := (d.2.1 - (1 : UInt64))
     bnd (fSub (d.2.2.2.2.2.2, d.2.2.2.1)) fun y_16 =>
     let t63_17 : UInt64 := (d.2.2.1 - y_16.2)
     f (d.1, t54_15, t63_17, d.2.2.2.1, d.2.2.2.2.1, d.2.2.2.2.2.1, y_16.1))
     (some (.x (d.2.1, d.2.2.2.2.1, d.2.2.2.2.2.1, d.2.2.2.2.2.2))))
    (some (.x (d.2.1, d.2.2.2.2.1, d.2.2.2.2.2.1, d.2.2.2.2.2.2))))
noncomputable def l92_1 : UInt64 × UInt64 × UInt64 × (List UInt64) × (List UInt64) × (List UInt64) × (List UInt64) → Option (O3 (Unit) (UInt64 × (List UInt64) × (List UInt64) × (List UInt64)) (Unit)) := itN k92_1 fuel
noncomputable def u92_1 : UH := unit (env 72 [(27, hd27), (28, hd28), (70, hd70), (93, hd93)]) h92_1 o92_1 l92_1
noncomputable def b92 (d : (List UInt64) × UInt64 × (List UInt64)) : Option (UInt64 × (List UInt64)) :=
  let t18_1 : UInt64 := (List.getD d.1 0 (0 : UInt64))
  let t20_2 : UInt64 := (List.getD d.1 1 (0 : UInt64))
  let t22_3 : UInt64 := (List.getD d.1 2 (0 : UInt64))
  let t23_4 : List UInt64 := [d.2.1, t18_1, t20_2, t22_3]
  let t25_5 : UInt64 := (List.getD d.1 3 (0 : UInt64))
  let t28_6 : UInt64 := (List.getD d.1 2 (0 : UInt64))
  let t30_7 : UInt64 := (List.getD d.2.2 3 (0 : UInt64))
  bnd (fGs (t25_5, t28_6, t30_7)) fun y_8 =>
  let t35_9 : List UInt64 := [(0 : UInt64), (0 : UInt64), (0 : UInt64), (0 : UInt64)]
  bnd (fTp (d.2.2, y_8, t35_9)) fun y_10 =>
  bnd (l92_1 (t25_5, y_8, y_10.2, d.2.2, (List.replicate 4 (0 : UInt64)), t23_4, y_10.1)) fun o => (match o with
   | .n _o => none
   | .x o => (bnd (fSub (o.2.2.1, o.2.2.2)) fun y_18 =>
   some (o.1, y_18.1))
   | .r _o => none)
noncomputable def m92 : ((List UInt64) × UInt64 × (List UInt64)) → Option (UInt64 × (List UInt64)) := hide b92
theorem m92_eq (d : (List UInt64) × UInt64 × (List UInt64)) : m92 d = b92 d := congrFun (hide_eq _) d
noncomputable def hd92 : Hd := ⟨[.d (.arr 4 (.int .u64)), .d (.int .u64), .d (.arr 4 (.int .u64))], [.d (.int .u64), .d (.arr 4 (.int .u64))], m92⟩
theorem ok92 : Okk Try.prog (env 72 [(27, hd27), (28, hd28), (70, hd70), (93, hd93)]) := okk tab_ok (n := 72) (hs := [(27, hd27), (28, hd28), (70, hd70), (93, hd93)]) ⟨fn27, fn28, fn70, fn93, trivial⟩ mixed
set_option maxRecDepth 100000 in
theorem e92_1 (f : Dat h92_1.ks → Option o92_1.O) (d : Dat h92_1.ks) : loopF (env 72 [(27, hd27), (28, hd28), (70, hd70), (93, hd93)]) (lkU []) 1 (lbody (unitAt c92 1)) h92_1 o92_1 f d = k92_1 f d := by kernel_rfl
theorem x92_1 : UOk Try.prog (env 72 [(27, hd27), (28, hd28), (70, hd70), (93, hd93)]) (unitAt c92 1) u92_1 ∧ Pk Try.prog (env 72 [(27, hd27), (28, hd28), (70, hd70), (93, hd93)]) u92_1.pk u92_1.up :=
  loop_at ok92 (show unitAt c92 1 = .loop (lbody (unitAt c92 1)) by kernel_rfl) (h := h92_1) (o := o92_1) (n := 1) (hl := lkU []) (uall_at trivial) k92_1 fuel e92_1
set_option maxRecDepth 100000 in
theorem r92 (d : Dat hd92.pks) : runF (env 72 [(27, hd27), (28, hd28), (70, hd70), (93, hd93)]) (lkU [(1, u92_1)]) c92 (Try.f92).results.toList [] hd92.pks hd92.rks d = b92 d := by kernel_rfl
theorem q92 (d : Dat hd92.pks) (y : Dat hd92.rks) : (hd92.fm d = some y) = (m92 d = some y) := by kernel_rfl
theorem t92 (d : Dat hd92.pks) (y : Dat hd92.rks) (h : hd92.fm d = some y) : runF (env 72 [(27, hd27), (28, hd28), (70, hd70), (93, hd93)]) (lkU [(1, u92_1)]) c92 (Try.f92).results.toList [] hd92.pks hd92.rks d = some y := (r92 d).trans ((m92_eq d).symm.trans ((q92 d y).mp h))
theorem gn92 : FnG Try.prog 92 hd92 :=
  fn_g (hl := lkU [(1, u92_1)]) (un := []) ok92 (fun _ => rfl) Try.func92 rfl Try.ntmps92 (by kernel_rfl) (rv := (Try.f92).results.toList) (by kernel_rfl) (by decide) (uall_at ⟨⟨_, Nat.le_of_ble_eq_true rfl, (show (units c92)[1]? = some (unitAt c92 1) by kernel_rfl), x92_1⟩, trivial⟩) t92
theorem fn92 : FnOk Try.prog 92 hd92 := .inl gn92
/-! entail/wide.divide -/
noncomputable def c81 : Code := ((Try.f81).body).getD .skip
def h81_1 : Sh := ⟨[.d (.int .i64), .d (.int .i64), .d (.arr 4 (.int .u64)), .d (.arr 4 (.int .u64)), .d (.arr 4 (.int .u64)), .d (.arr 4 (.int .u64)), .d (.arr 4 (.int .u64)), .d (.arr 4 (.int .u64))], [8, 12], [(4, [.arr 4 (.int .u64)]), (5, [.arr 4 (.int .u64)]), (6, [.arr 4 (.int .u64)]), (7, [.arr 4 (.int .u64)]), (9, [.arr 4 (.int .u64)]), (11, [.arr 4 (.int .u64)])], [], []⟩
def o81_1 : Outs := ⟨⟨[], [], [], [], []⟩, 0, ⟨[.d (.int .i64), .d (.arr 4 (.int .u64)), .d (.arr 4 (.int .u64)), .d (.arr 4 (.int .u64)), .d (.arr 4 (.int .u64))], [8], [(6, [.arr 4 (.int .u64)]), (7, [.arr 4 (.int .u64)]), (9, [.arr 4 (.int .u64)]), (11, [.arr 4 (.int .u64)])], [], []⟩, ⟨[], [], [], [], []⟩⟩
noncomputable def k81_1 (f : Int × Int × (List UInt64) × (List UInt64) × (List UInt64) × (List UInt64) × (List UInt64) × (List UInt64) → Option (O3 (Unit) (Int × (List UInt64) × (List UInt64) × (List UInt64) × (List UInt64)) (Unit))) (d : Int × Int × (List UInt64) × (List UInt64) × (List UInt64) × (List UInt64) × (List UInt64) × (List UInt64)) : Option (O3 (Unit) (Int × (List UInt64) × (List UInt64) × (List UInt64) × (List UInt64)) (Unit)) :=
  cnd (decide ((0 : Int) ≤ d.2.1))
   (guard (inB d.2.1 4) <|
   let t42_23 : UInt64 := (List.getD d.2.2.1 d.2.1.toNat (0 : UInt64))
   bnd (m92 (d.2.2.2.2.2.2.1, t42_23, d.2.2.2.1)) fun y_24 =>
   guard (inB d.2.1 4) <|
   let m5_25 : List UInt64 := (List.set d.2.2.2.2.2.2.2 d.2.1.toNat y_24.1)
   guard (inR .i64 (d.2.1 - (1 : Int))) <|
   let t36_26 : Int := (d.2.1 - (1 : Int))
   f (d.1, t36_26, d.2.2.1, d.2.2.2.1, d.2.2.2.2.1, d.2.2.2.2.2.1, y_24.2, m5_25))
   (some (.x (d.1, d.2.2.2.2.1, d.2.2.2.2.2.1, d.2.2.2.2.2.2.1, d.2.2.2.2.2.2.2)))
noncomputable def l81_1 : Int × Int × (List UInt64) × (List UInt64) × (List UInt64) × (List UInt64) × (List UInt64) × (List UInt64) → Option (O3 (Unit) (Int × (List UInt64) × (List UInt64) × (List UInt64) × (List UInt64)) (Unit)) := itN k81_1 fuel
noncomputable def u81_1 : UH := unit (env 52 [(29, hd29), (30, hd30), (77, hd77), (82, hd82), (92, hd92)]) h81_1 o81_1 l81_1
def h81_0 : Sh := ⟨[.d (.int .i64), .d (.arr 4 (.int .u64)), .d (.arr 4 (.int .u64)), .d (.arr 4 (.int .u64)), .d (.arr 4 (.int .u64)), .d (.arr 4 (.int .u64))], [8], [(3, [.arr 4 (.int .u64)]), (4, [.arr 4 (.int .u64)]), (5, [.arr 4 (.int .u64)]), (6, [.arr 4 (.int .u64)]), (7, [.arr 4 (.int .u64)])], [], []⟩
def o81_0 : Outs := ⟨⟨[.d (.int .i64), .d (.arr 4 (.int .u64)), .d (.arr 4 (.int .u64)), .d (.arr 4 (.int .u64)), .d (.arr 4 (.int .u64)), .d (.arr 4 (.int .u64))], [8], [(4, [.arr 4 (.int .u64)]), (5, [.arr 4 (.int .u64)]), (6, [.arr 4 (.int .u64)]), (7, [.arr 4 (.int .u64)]), (9, [.arr 4 (.int .u64)])], [], []⟩, 0, ⟨[], [], [], [], []⟩, ⟨[], [], [], [], []⟩⟩
def p81_0 : Plan := (.op 0 (.op 1 (.op 3 (.op 4 (.op 5 (.alt (.op 2 (.alt (.op 6 (.alt (.op 7 (.op 8 (.op 9 (.op 10 (.op 11 (.op 12 (.op 13 .fin))))))) (.op 11 (.op 7 (.op 8 (.op 9 (.op 10 (.op 12 (.op 13 .fin))))))))) (.op 11 (.op 6 (.op 7 (.op 8 (.op 9 (.op 10 (.op 12 (.op 13 .fin)))))))))) (.op 11 (.op 2 (.op 6 (.op 7 (.op 8 (.op 9 (.op 10 (.op 12 (.op 13 .fin)))))))))))))))
noncomputable def a81_0 (d : Int × (List UInt64) × (List UInt64) × (List UInt64) × (List UInt64) × (List UInt64)) : Option (O3 (Int × (List UInt64) × (List UInt64) × (List UInt64) × (List UInt64) × (List UInt64)) (Unit) (Unit)) :=
  guard (inR .i64 ((256 : Int) - d.1)) <|
  bnd (fShl (d.2.1, d.1)) fun y_4 =>
  bnd (fShr (d.2.2.1, ((256 : Int) - d.1))) fun y_5 =>
  bnd (fAdd (y_4, y_5)) fun y_6 =>
  some (.n (d.1, d.2.2.1, d.2.2.2.1, d.2.2.2.2.1, d.2.2.2.2.2, y_6.1))
noncomputable def l81_0 : (Int × (List UInt64) × (List UInt64) × (List UInt64) × (List UInt64) × (List UInt64)) → Option (O3 (Int × (List UInt64) × (List UInt64) × (List UInt64) × (List UInt64) × (List UInt64)) (Unit) (Unit)) := hide a81_0
theorem l81_0_eq (d : Int × (List UInt64) × (List UInt64) × (List UInt64) × (List UInt64) × (List UInt64)) : l81_0 d = a81_0 d := congrFun (hide_eq _) d
noncomputable def g81_0 (d : Int × (List UInt64) × (List UInt64) × (List UInt64) × (List UInt64) × (List UInt64)) : Option (List (O3 (Int × (List UInt64) × (List UInt64) × (List UInt64) × (List UInt64) × (List UInt64)) (Unit) (Unit))) :=
  guard (inR .i64 ((256 : Int) - d.1)) <|
  bnd
   (bnd (fShl (d.2.1, d.1)) fun y_8 =>
   bnd
    (bnd (fShr (d.2.2.1, ((256 : Int) - d.1))) fun y_10 =>
    bnd
     (bnd (fAdd (y_8, y_10)) fun y_12 =>
     some [.n (d.1, d.2.2.1, d.2.2.2.1, d.2.2.2.2.1, d.2.2.2.2.2, y_12.1)]) fun x_11 =>
    bnd
     (bnd (fAdd (y_8, y_10)) fun y_13 =>
     some [.n (d.1, d.2.2.1, d.2.2.2.1, d.2.2.2.2.1, d.2.2.2.2.2, y_13.1)]) fun x_14 =>
    some (x_11 ++ x_14)) fun x_9 =>
   bnd
    (bnd (fShr (d.2.2.1, ((256 : Int) - d.1))) fun y_15 =>
    bnd (fAdd (y_8, y_15)) fun y_16 =>
    some [.n (d.1, d.2.2.1, d.2.2.2.1, d.2.2.2.2.1, d.2.2.2.2.2, y_16.1)]) fun x_17 =>
   some (x_9 ++ x_17)) fun x_7 =>
  bnd
   (bnd (fShl (d.2.1, d.1)) fun y_18 =>
   bnd (fShr (d.2.2.1, ((256 : Int) - d.1))) fun y_19 =>
   bnd (fAdd (y_18, y_19)) fun y_20 =>
   some [.n (d.1, d.2.2.1, d.2.2.2.1, d.2.2.2.2.1, d.2.2.2.2.2, y_20.1)]) fun x_21 =>
  some (x_7 ++ x_21)
theorem j81_0 (d : Int × (List UInt64) × (List UInt64) × (List UInt64) × (List UInt64) × (List UInt64)) (y : O3 (Int × (List UInt64) × (List UInt64) × (List UInt64) × (List UInt64) × (List UInt64)) (Unit) (Unit)) (hd : l81_0 d = some y) : ∃ r, g81_0 d = some r ∧ ∀ x ∈ r, x = y := by
  rw [l81_0_eq] at hd
  unfold a81_0 at hd
  obtain ⟨h0, hd⟩ := guard_some hd
  obtain ⟨y_4, h1, hd⟩ := bnd_some hd
  obtain ⟨y_5, h2, hd⟩ := bnd_some hd
  obtain ⟨y_6, h3, hd⟩ := bnd_some hd
  obtain rfl := Option.some.inj hd
  refine ⟨_, by unfold g81_0; simp only [h0, h1, h2, h3, bnd_s, guard_t]; rfl, by simp⟩
noncomputable def u81_0 : UH := unit (env 52 [(29, hd29), (30, hd30), (77, hd77), (82, hd82), (92, hd92)]) h81_0 o81_0 l81_0
noncomputable def b81 (d : (List UInt64) × (List UInt64) × (List UInt64)) : Option ((List UInt64) × (List UInt64)) :=
  bnd (fLen d.2.2) fun y_1 =>
  guard (inR .i64 ((256 : Int) - y_1)) <|
  let t15_2 : Int := ((256 : Int) - y_1)
  bnd (fShl (d.2.2, t15_2)) fun y_3 =>
  bnd (l81_0 (t15_2, d.1, d.2.1, y_3, (List.replicate 4 (0 : UInt64)), (List.replicate 4 (0 : UInt64)))) fun o => (match o with
   | .n o => (bnd (fShl (o.2.1, o.1)) fun y_22 =>
   bnd (l81_1 (o.1, (3 : Int), y_22, o.2.2.1, o.2.2.2.1, o.2.2.2.2.1, o.2.2.2.2.2, (List.replicate 4 (0 : UInt64)))) fun o => (match o with
    | .n _o => none
    | .x o => (bnd (fShr (o.2.2.2.1, o.1)) fun y_27 =>
    some (o.2.2.2.2, y_27))
    | .r _o => none))
   | .x _o => none
   | .r _o => none)
noncomputable def m81 : ((List UInt64) × (List UInt64) × (List UInt64)) → Option ((List UInt64) × (List UInt64)) := hide b81
theorem m81_eq (d : (List UInt64) × (List UInt64) × (List UInt64)) : m81 d = b81 d := congrFun (hide_eq _) d
noncomputable def hd81 : Hd := ⟨[.d (.arr 4 (.int .u64)), .d (.arr 4 (.int .u64)), .d (.arr 4 (.int .u64))], [.d (.arr 4 (.int .u64)), .d (.arr 4 (.int .u64))], m81⟩
theorem ok81 : Okk Try.prog (env 52 [(29, hd29), (30, hd30), (77, hd77), (82, hd82), (92, hd92)]) := okk tab_ok (n := 52) (hs := [(29, hd29), (30, hd30), (77, hd77), (82, hd82), (92, hd92)]) ⟨fn29, fn30, fn77, fn82, fn92, trivial⟩ mixed
set_option maxRecDepth 100000 in
theorem e81_1 (f : Dat h81_1.ks → Option o81_1.O) (d : Dat h81_1.ks) : loopF (env 52 [(29, hd29), (30, hd30), (77, hd77), (82, hd82), (92, hd92)]) (lkU []) 1 (lbody (unitAt c81 1)) h81_1 o81_1 f d = k81_1 f d := by kernel_rfl
theorem x81_1 : UOk Try.prog (env 52 [(29, hd29), (30, hd30), (77, hd77), (82, hd82), (92, hd92)]) (unitAt c81 1) u81_1 ∧ Pk Try.prog (env 52 [(29, hd29), (30, hd30), (77, hd77), (82, hd82), (92, hd92)]) u81_1.pk u81_1.up :=
  loop_at ok81 (show unitAt c81 1 = .loop (lbody (unitAt c81 1)) by kernel_rfl) (h := h81_1) (o := o81_1) (n := 1) (hl := lkU []) (uall_at trivial) k81_1 fuel e81_1
set_option maxRecDepth 100000 in
theorem e81_0 (d : Dat h81_0.ks) : regF (env 52 [(29, hd29), (30, hd30), (77, hd77), (82, hd82), (92, hd92)]) (unitAt c81 0) p81_0 h81_0 o81_0 d = g81_0 d := by kernel_rfl
theorem x81_0 : UOk Try.prog (env 52 [(29, hd29), (30, hd30), (77, hd77), (82, hd82), (92, hd92)]) (unitAt c81 0) u81_0 ∧ Pk Try.prog (env 52 [(29, hd29), (30, hd30), (77, hd77), (82, hd82), (92, hd92)]) u81_0.pk u81_0.up :=
  reg_at ok81 (show regOk (env 52 [(29, hd29), (30, hd30), (77, hd77), (82, hd82), (92, hd92)]) (unitAt c81 0) p81_0 = true by kernel_rfl) (h := h81_0) (o := o81_0) l81_0 (fun d y hy => by obtain ⟨r, h1, h2⟩ := j81_0 d y hy; exact ⟨r, (e81_0 d).trans h1, h2⟩)
set_option maxRecDepth 100000 in
theorem r81 (d : Dat hd81.pks) : runF (env 52 [(29, hd29), (30, hd30), (77, hd77), (82, hd82), (92, hd92)]) (lkU [(0, u81_0), (1, u81_1)]) c81 (Try.f81).results.toList [] hd81.pks hd81.rks d = b81 d := by kernel_rfl
theorem q81 (d : Dat hd81.pks) (y : Dat hd81.rks) : (hd81.fm d = some y) = (m81 d = some y) := by kernel_rfl
theorem t81 (d : Dat hd81.pks) (y : Dat hd81.rks) (h : hd81.fm d = some y) : runF (env 52 [(29, hd29), (30, hd30), (77, hd77), (82, hd82), (92, hd92)]) (lkU [(0, u81_0), (1, u81_1)]) c81 (Try.f81).results.toList [] hd81.pks hd81.rks d = some y := (r81 d).trans ((m81_eq d).symm.trans ((q81 d y).mp h))
theorem gn81 : FnG Try.prog 81 hd81 :=
  fn_g (hl := lkU [(0, u81_0), (1, u81_1)]) (un := []) ok81 (fun _ => rfl) Try.func81 rfl Try.ntmps81 (by kernel_rfl) (rv := (Try.f81).results.toList) (by kernel_rfl) (by decide) (uall_at ⟨⟨_, Nat.le_of_ble_eq_true rfl, (show (units c81)[0]? = some (unitAt c81 0) by kernel_rfl), x81_0⟩, ⟨_, Nat.le_of_ble_eq_true rfl, (show (units c81)[1]? = some (unitAt c81 1) by kernel_rfl), x81_1⟩, trivial⟩) t81
theorem fn81 : FnOk Try.prog 81 hd81 := .inl gn81
/-! entail/wide.Rem -/
noncomputable def c51 : Code := ((Try.f51).body).getD .skip
noncomputable def b51 (d : (List UInt64) × (List UInt64) × (List UInt64)) : Option ((List UInt64) × Int) :=
  let t11_1 : List UInt64 := [(0 : UInt64), (0 : UInt64), (0 : UInt64), (0 : UInt64)]
  cnd (eqD (.arr 4 (.int .u64)) d.2.2 t11_1)
   (let t13_2 : List UInt64 := [(0 : UInt64), (0 : UInt64), (0 : UInt64), (0 : UInt64)]
   some (t13_2, (1 : Int)))
   (let t15_3 : List UInt64 := [(0 : UInt64), (0 : UInt64), (0 : UInt64), (0 : UInt64)]
   bnd (m81 (t15_3, d.1, d.2.2)) fun y_4 =>
   bnd (m81 (y_4.2, d.2.1, d.2.2)) fun y_5 =>
   some (y_5.2, (0 : Int)))
noncomputable def m51 : ((List UInt64) × (List UInt64) × (List UInt64)) → Option ((List UInt64) × Int) := hide b51
theorem m51_eq (d : (List UInt64) × (List UInt64) × (List UInt64)) : m51 d = b51 d := congrFun (hide_eq _) d
noncomputable def hd51 : Hd := ⟨[.d (.arr 4 (.int .u64)), .d (.arr 4 (.int .u64)), .d (.arr 4 (.int .u64))], [.d (.arr 4 (.int .u64)), .d (.int .i64)], m51⟩
theorem ok51 : Okk Try.prog (env 29 [(81, hd81)]) := okk tab_ok (n := 29) (hs := [(81, hd81)]) ⟨fn81, trivial⟩ mixed
set_option maxRecDepth 100000 in
theorem r51 (d : Dat hd51.pks) : runF (env 29 [(81, hd81)]) (lkU []) c51 (Try.f51).results.toList [] hd51.pks hd51.rks d = b51 d := by kernel_rfl
theorem q51 (d : Dat hd51.pks) (y : Dat hd51.rks) : (hd51.fm d = some y) = (m51 d = some y) := by kernel_rfl
theorem t51 (d : Dat hd51.pks) (y : Dat hd51.rks) (h : hd51.fm d = some y) : runF (env 29 [(81, hd81)]) (lkU []) c51 (Try.f51).results.toList [] hd51.pks hd51.rks d = some y := (r51 d).trans ((m51_eq d).symm.trans ((q51 d y).mp h))
theorem gn51 : FnG Try.prog 51 hd51 :=
  fn_g (hl := lkU []) (un := []) ok51 (fun _ => rfl) Try.func51 rfl Try.ntmps51 (by kernel_rfl) (rv := (Try.f51).results.toList) (by kernel_rfl) (by decide) (uall_at trivial) t51
theorem fn51 : FnOk Try.prog 51 hd51 := .inl gn51
/-! entail/entaillaw12.FieldLeft -/
noncomputable def c12 : Code := ((Try.f12).body).getD .skip
def h12_1 : Sh := ⟨[.d (.int .i64), .d (.int .i64), .d (.arr 4 (.int .u64)), .d (.arr 4 (.int .u64)), .d (.arr 4 (.int .u64)), .d (.arr 4 (.int .u64)), .d (.arr 4 (.int .u64))], [9, 13], [(2, [.arr 4 (.int .u64)]), (3, [.arr 4 (.int .u64)]), (5, [.arr 4 (.int .u64)]), (8, [.arr 4 (.int .u64)]), (12, [.arr 4 (.int .u64)])], [], []⟩
def o12_1 : Outs := ⟨⟨[.d (.int .i64), .d (.int .i64), .d (.arr 4 (.int .u64)), .d (.arr 4 (.int .u64)), .d (.arr 4 (.int .u64)), .d (.arr 4 (.int .u64)), .d (.arr 4 (.int .u64))], [9, 13], [(2, [.arr 4 (.int .u64)]), (3, [.arr 4 (.int .u64)]), (8, [.arr 4 (.int .u64)]), (12, [.arr 4 (.int .u64)]), (14, [.arr 4 (.int .u64)])], [], []⟩, 0, ⟨[], [], [], [], []⟩, ⟨[], [], [], [], []⟩⟩
def p12_1 : Plan := (.op 0 (.alt (.op 1 (.alt (.op 2 (.op 3 (.op 4 (.op 5 (.op 6 (.op 7 (.op 8 .fin))))))) (.op 6 (.op 2 (.op 3 (.op 4 (.op 5 (.op 7 (.op 8 .fin))))))))) (.op 6 (.op 1 (.op 2 (.op 3 (.op 4 (.op 5 (.op 7 (.op 8 .fin))))))))))
noncomputable def a12_1 (d : Int × Int × (List UInt64) × (List UInt64) × (List UInt64) × (List UInt64) × (List UInt64)) : Option (O3 (Int × Int × (List UInt64) × (List UInt64) × (List UInt64) × (List UInt64) × (List UInt64)) (Unit) (Unit)) :=
  bnd (fFrom (4294968273 : UInt64)) fun y_16 =>
  bnd (fAdd (d.2.2.2.2.1, y_16)) fun y_17 =>
  some (.n (d.1, d.2.1, d.2.2.1, d.2.2.2.1, d.2.2.2.2.2.1, d.2.2.2.2.2.2, y_17.1))
noncomputable def l12_1 : (Int × Int × (List UInt64) × (List UInt64) × (List UInt64) × (List UInt64) × (List UInt64)) → Option (O3 (Int × Int × (List UInt64) × (List UInt64) × (List UInt64) × (List UInt64) × (List UInt64)) (Unit) (Unit)) := hide a12_1
theorem l12_1_eq (d : Int × Int × (List UInt64) × (List UInt64) × (List UInt64) × (List UInt64) × (List UInt64)) : l12_1 d = a12_1 d := congrFun (hide_eq _) d
noncomputable def g12_1 (d : Int × Int × (List UInt64) × (List UInt64) × (List UInt64) × (List UInt64) × (List UInt64)) : Option (List (O3 (Int × Int × (List UInt64) × (List UInt64) × (List UInt64) × (List UInt64) × (List UInt64)) (Unit) (Unit))) :=
  bnd
   (bnd (fFrom (4294968273 : UInt64)) fun y_19 =>
   bnd
    (bnd (fAdd (d.2.2.2.2.1, y_19)) fun y_21 =>
    some [.n (d.1, d.2.1, d.2.2.1, d.2.2.2.1, d.2.2.2.2.2.1, d.2.2.2.2.2.2, y_21.1)]) fun x_20 =>
   bnd
    (bnd (fAdd (d.2.2.2.2.1, y_19)) fun y_22 =>
    some [.n (d.1, d.2.1, d.2.2.1, d.2.2.2.1, d.2.2.2.2.2.1, d.2.2.2.2.2.2, y_22.1)]) fun x_23 =>
   some (x_20 ++ x_23)) fun x_18 =>
  bnd
   (bnd (fFrom (4294968273 : UInt64)) fun y_24 =>
   bnd (fAdd (d.2.2.2.2.1, y_24)) fun y_25 =>
   some [.n (d.1, d.2.1, d.2.2.1, d.2.2.2.1, d.2.2.2.2.2.1, d.2.2.2.2.2.2, y_25.1)]) fun x_26 =>
  some (x_18 ++ x_26)
theorem j12_1 (d : Int × Int × (List UInt64) × (List UInt64) × (List UInt64) × (List UInt64) × (List UInt64)) (y : O3 (Int × Int × (List UInt64) × (List UInt64) × (List UInt64) × (List UInt64) × (List UInt64)) (Unit) (Unit)) (hd : l12_1 d = some y) : ∃ r, g12_1 d = some r ∧ ∀ x ∈ r, x = y := by
  rw [l12_1_eq] at hd
  unfold a12_1 at hd
  obtain ⟨y_16, h0, hd⟩ := bnd_some hd
  obtain ⟨y_17, h1, hd⟩ := bnd_some hd
  obtain rfl := Option.some.inj hd
  refine ⟨_, by unfold g12_1; simp only [h0, h1, bnd_s]; rfl, by simp⟩
noncomputable def u12_1 : UH := unit (env 78 [(30, hd30), (31, hd31), (32, hd32), (33, hd33), (37, hd37), (43, hd43), (51, hd51), (52, hd52)]) h12_1 o12_1 l12_1
def h12_0 : Sh := ⟨[.d (.int .i64), .d (.int .u64), .d (.arr 4 (.int .u64)), .d (.arr 4 (.int .u64)), .d (.arr 4 (.int .u64)), .d (.arr 4 (.int .u64)), .d (.arr 4 (.int .u64))], [9, 11], [(2, [.arr 4 (.int .u64)]), (3, [.arr 4 (.int .u64)]), (5, [.arr 4 (.int .u64)]), (8, [.arr 4 (.int .u64)]), (10, [.arr 4 (.int .u64)])], [], []⟩
def o12_0 : Outs := ⟨⟨[.d (.int .i64), .d (.int .i64), .d (.arr 4 (.int .u64)), .d (.arr 4 (.int .u64)), .d (.arr 4 (.int .u64)), .d (.arr 4 (.int .u64)), .d (.arr 4 (.int .u64))], [9, 13], [(2, [.arr 4 (.int .u64)]), (3, [.arr 4 (.int .u64)]), (5, [.arr 4 (.int .u64)]), (8, [.arr 4 (.int .u64)]), (12, [.arr 4 (.int .u64)])], [], []⟩, 0, ⟨[], [], [], [], []⟩, ⟨[], [], [], [], []⟩⟩
def p12_0 : Plan := (.op 0 (.op 2 (.op 3 (.alt (.op 1 (.alt (.op 4 (.op 5 (.op 6 (.op 7 (.op 8 (.op 9 (.op 10 .fin))))))) (.op 8 (.op 4 (.op 5 (.op 6 (.op 7 (.op 9 (.op 10 .fin))))))))) (.op 8 (.op 1 (.op 4 (.op 5 (.op 6 (.op 7 (.op 9 (.op 10 .fin))))))))))))
noncomputable def a12_0 (d : Int × UInt64 × (List UInt64) × (List UInt64) × (List UInt64) × (List UInt64) × (List UInt64)) : Option (O3 (Int × Int × (List UInt64) × (List UInt64) × (List UInt64) × (List UInt64) × (List UInt64)) (Unit) (Unit)) :=
  bnd (fFrom d.2.1) fun y_5 =>
  bnd (m51 (y_5, d.2.2.2.2.2.2, d.2.2.2.2.1)) fun y_6 =>
  some (.n (d.1, y_6.2, d.2.2.1, d.2.2.2.1, d.2.2.2.2.1, d.2.2.2.2.2.1, y_6.1))
noncomputable def l12_0 : (Int × UInt64 × (List UInt64) × (List UInt64) × (List UInt64) × (List UInt64) × (List UInt64)) → Option (O3 (Int × Int × (List UInt64) × (List UInt64) × (List UInt64) × (List UInt64) × (List UInt64)) (Unit) (Unit)) := hide a12_0
theorem l12_0_eq (d : Int × UInt64 × (List UInt64) × (List UInt64) × (List UInt64) × (List UInt64) × (List UInt64)) : l12_0 d = a12_0 d := congrFun (hide_eq _) d
noncomputable def g12_0 (d : Int × UInt64 × (List UInt64) × (List UInt64) × (List UInt64) × (List UInt64) × (List UInt64)) : Option (List (O3 (Int × Int × (List UInt64) × (List UInt64) × (List UInt64) × (List UInt64) × (List UInt64)) (Unit) (Unit))) :=
  bnd
   (bnd (fFrom d.2.1) fun y_8 =>
   bnd
    (bnd (m51 (y_8, d.2.2.2.2.2.2, d.2.2.2.2.1)) fun y_10 =>
    some [.n (d.1, y_10.2, d.2.2.1, d.2.2.2.1, d.2.2.2.2.1, d.2.2.2.2.2.1, y_10.1)]) fun x_9 =>
   bnd
    (bnd (m51 (y_8, d.2.2.2.2.2.2, d.2.2.2.2.1)) fun y_11 =>
    some [.n (d.1, y_11.2, d.2.2.1, d.2.2.2.1, d.2.2.2.2.1, d.2.2.2.2.2.1, y_11.1)]) fun x_12 =>
   some (x_9 ++ x_12)) fun x_7 =>
  bnd
   (bnd (fFrom d.2.1) fun y_13 =>
   bnd (m51 (y_13, d.2.2.2.2.2.2, d.2.2.2.2.1)) fun y_14 =>
   some [.n (d.1, y_14.2, d.2.2.1, d.2.2.2.1, d.2.2.2.2.1, d.2.2.2.2.2.1, y_14.1)]) fun x_15 =>
  some (x_7 ++ x_15)
theorem j12_0 (d : Int × UInt64 × (List UInt64) × (List UInt64) × (List UInt64) × (List UInt64) × (List UInt64)) (y : O3 (Int × Int × (List UInt64) × (List UInt64) × (List UInt64) × (List UInt64) × (List UInt64)) (Unit) (Unit)) (hd : l12_0 d = some y) : ∃ r, g12_0 d = some r ∧ ∀ x ∈ r, x = y := by
  rw [l12_0_eq] at hd
  unfold a12_0 at hd
  obtain ⟨y_5, h0, hd⟩ := bnd_some hd
  obtain ⟨y_6, h1, hd⟩ := bnd_some hd
  obtain rfl := Option.some.inj hd
  refine ⟨_, by unfold g12_0; simp only [h0, h1, bnd_s]; rfl, by simp⟩
noncomputable def u12_0 : UH := unit (env 78 [(30, hd30), (31, hd31), (32, hd32), (33, hd33), (37, hd37), (43, hd43), (51, hd51), (52, hd52)]) h12_0 o12_0 l12_0
noncomputable def b12 (d : (List UInt64) × (List UInt64)) : Option (Bool) :=
  bnd (m33 ()) fun y_1 =>
  bnd (fMul (d.1, d.2)) fun y_2 =>
  bnd (m51 (y_2.2, y_2.1, y_1)) fun y_3 =>
  bnd (fAdd (d.1, d.2)) fun y_4 =>
  bnd (l12_0 (y_3.2, y_4.2, d.1, d.2, y_1, y_3.1, y_4.1)) fun o => (match o with
   | .n o => (bnd (l12_1 (o.1, o.2.1, o.2.2.1, o.2.2.2.1, o.2.2.2.2.1, o.2.2.2.2.2.1, o.2.2.2.2.2.2)) fun o => (match o with
    | .n o => (bnd (m32 ()) fun y_27 =>
    cnd y_27
     (cnd (decide (o.1 = (0 : Int)))
      (cnd (decide (o.2.1 = (0 : Int)))
       (bnd (m43 (o.2.2.1, o.2.2.2.1)) fun y_28 =>
       cnd (eqD (.arr 4 (.int .u64)) y_28 o.2.2.2.2.1)
        (bnd (m37 (o.2.2.1, o.2.2.2.1)) fun y_29 =>
        cnd (eqD (.arr 4 (.int .u64)) y_29 o.2.2.2.2.2.1)
         (let t75_30 : List UInt64 := [(0 : UInt64), (0 : UInt64), (0 : UInt64), (0 : UInt64)]
         some (eqD (.arr 4 (.int .u64)) o.2.2.2.2.2.2 t75_30))
         (some false))
        (some false))
       (some false))
      (some false))
     (some false))
    | .x _o => none
    | .r _o => none))
   | .x _o => none
   | .r _o => none)
noncomputable def m12 : ((List UInt64) × (List UInt64)) → Option (Bool) := hide b12
theorem m12_eq (d : (List UInt64) × (List UInt64)) : m12 d = b12 d := congrFun (hide_eq _) d
noncomputable def hd12 : Hd := ⟨[.d (.arr 4 (.int .u64)), .d (.arr 4 (.int .u64))], [.d (.bool)], m12⟩
theorem ok12 : Okk Try.prog (env 78 [(30, hd30), (31, hd31), (32, hd32), (33, hd33), (37, hd37), (43, hd43), (51, hd51), (52, hd52)]) := okk tab_ok (n := 78) (hs := [(30, hd30), (31, hd31), (32, hd32), (33, hd33), (37, hd37), (43, hd43), (51, hd51), (52, hd52)]) ⟨fn30, fn31, fn32, fn33, fn37, fn43, fn51, fn52, trivial⟩ mixed
set_option maxRecDepth 100000 in
theorem e12_1 (d : Dat h12_1.ks) : regF (env 78 [(30, hd30), (31, hd31), (32, hd32), (33, hd33), (37, hd37), (43, hd43), (51, hd51), (52, hd52)]) (unitAt c12 1) p12_1 h12_1 o12_1 d = g12_1 d := by kernel_rfl
theorem x12_1 : UOk Try.prog (env 78 [(30, hd30), (31, hd31), (32, hd32), (33, hd33), (37, hd37), (43, hd43), (51, hd51), (52, hd52)]) (unitAt c12 1) u12_1 ∧ Pk Try.prog (env 78 [(30, hd30), (31, hd31), (32, hd32), (33, hd33), (37, hd37), (43, hd43), (51, hd51), (52, hd52)]) u12_1.pk u12_1.up :=
  reg_at ok12 (show regOk (env 78 [(30, hd30), (31, hd31), (32, hd32), (33, hd33), (37, hd37), (43, hd43), (51, hd51), (52, hd52)]) (unitAt c12 1) p12_1 = true by kernel_rfl) (h := h12_1) (o := o12_1) l12_1 (fun d y hy => by obtain ⟨r, h1, h2⟩ := j12_1 d y hy; exact ⟨r, (e12_1 d).trans h1, h2⟩)
set_option maxRecDepth 100000 in
theorem e12_0 (d : Dat h12_0.ks) : regF (env 78 [(30, hd30), (31, hd31), (32, hd32), (33, hd33), (37, hd37), (43, hd43), (51, hd51), (52, hd52)]) (unitAt c12 0) p12_0 h12_0 o12_0 d = g12_0 d := by kernel_rfl
theorem x12_0 : UOk Try.prog (env 78 [(30, hd30), (31, hd31), (32, hd32), (33, hd33), (37, hd37), (43, hd43), (51, hd51), (52, hd52)]) (unitAt c12 0) u12_0 ∧ Pk Try.prog (env 78 [(30, hd30), (31, hd31), (32, hd32), (33, hd33), (37, hd37), (43, hd43), (51, hd51), (52, hd52)]) u12_0.pk u12_0.up :=
  reg_at ok12 (show regOk (env 78 [(30, hd30), (31, hd31), (32, hd32), (33, hd33), (37, hd37), (43, hd43), (51, hd51), (52, hd52)]) (unitAt c12 0) p12_0 = true by kernel_rfl) (h := h12_0) (o := o12_0) l12_0 (fun d y hy => by obtain ⟨r, h1, h2⟩ := j12_0 d y hy; exact ⟨r, (e12_0 d).trans h1, h2⟩)
set_option maxRecDepth 100000 in
theorem r12 (d : Dat hd12.pks) : runF (env 78 [(30, hd30), (31, hd31), (32, hd32), (33, hd33), (37, hd37), (43, hd43), (51, hd51), (52, hd52)]) (lkU [(0, u12_0), (1, u12_1)]) c12 (Try.f12).results.toList [] hd12.pks hd12.rks d = b12 d := by kernel_rfl
theorem q12 (d : Dat hd12.pks) (y : Dat hd12.rks) : (hd12.fm d = some y) = (m12 d = some y) := by kernel_rfl
theorem t12 (d : Dat hd12.pks) (y : Dat hd12.rks) (h : hd12.fm d = some y) : runF (env 78 [(30, hd30), (31, hd31), (32, hd32), (33, hd33), (37, hd37), (43, hd43), (51, hd51), (52, hd52)]) (lkU [(0, u12_0), (1, u12_1)]) c12 (Try.f12).results.toList [] hd12.pks hd12.rks d = some y := (r12 d).trans ((m12_eq d).symm.trans ((q12 d y).mp h))
theorem gn12 : FnG Try.prog 12 hd12 :=
  fn_g (hl := lkU [(0, u12_0), (1, u12_1)]) (un := []) ok12 (fun _ => rfl) Try.func12 rfl Try.ntmps12 (by kernel_rfl) (rv := (Try.f12).results.toList) (by kernel_rfl) (by decide) (uall_at ⟨⟨_, Nat.le_of_ble_eq_true rfl, (show (units c12)[0]? = some (unitAt c12 0) by kernel_rfl), x12_0⟩, ⟨_, Nat.le_of_ble_eq_true rfl, (show (units c12)[1]? = some (unitAt c12 1) by kernel_rfl), x12_1⟩, trivial⟩) t12
theorem fn12 : FnOk Try.prog 12 hd12 := .inl gn12
end Go.Proofs.Ythlbdpmnljcapaa.Q.L
