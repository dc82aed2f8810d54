/-
  Written by qgen.py: functions reckoned.
-/
import Derived.Test.YtpfoeeiacfadfaaQMR
import Derived.Test.YtpfoeeiacfadfaaRows
namespace Go.Proofs.Ytpfoeeiacfadfaa.Q
open Go.RowKit
theorem e3 : EF Try.prog 3 (.int .i64) := EF.mk' (b := 8) (by kernel_rfl) rfl (by kernel_rfl)
theorem v3 : Try.prog.underlying 3 = some (.int .i64) := by kernel_rfl
theorem e4 : EF Try.prog 4 (.bool) := EF.mk' (b := 1) (by kernel_rfl) rfl (by kernel_rfl)
theorem v4 : Try.prog.underlying 4 = some (.bool) := by kernel_rfl
theorem e5 : EF Try.prog 5 (.int .u8) := EF.mk' (b := 1) (by kernel_rfl) rfl (by kernel_rfl)
theorem v5 : Try.prog.underlying 5 = some (.int .u8) := by kernel_rfl
theorem e22 : EF Try.prog 22 (.int .u64) := EF.mk' (b := 8) (by kernel_rfl) rfl (by kernel_rfl)
theorem v22 : Try.prog.underlying 22 = some (.int .u64) := by kernel_rfl
theorem e24 : EF Try.prog 24 (.arr 4 (.int .u64)) := EF.mk' (b := 32) (by kernel_rfl) rfl (by kernel_rfl)
theorem v24 : Try.prog.underlying 24 = some (.array 4 22) := by kernel_rfl
theorem e30 : EF Try.prog 30 (.arr 32 (.int .u8)) := EF.mk' (b := 32) (by kernel_rfl) rfl (by kernel_rfl)
theorem v30 : Try.prog.underlying 30 = some (.array 32 5) := by kernel_rfl
theorem e60 : EF Try.prog 60 (.int .u64) := EF.mk' (b := 8) (by kernel_rfl) rfl (by kernel_rfl)
theorem v60 : Try.prog.underlying 60 = some (.int .u64) := by kernel_rfl
def tab : List (Nat × TI) := [(3, ⟨.int .i64, 0, []⟩), (4, ⟨.bool, 0, []⟩), (5, ⟨.int .u8, 0, []⟩), (22, ⟨.int .u64, 0, []⟩), (24, ⟨.arr 4 (.int .u64), 22, []⟩), (30, ⟨.arr 32 (.int .u8), 5, []⟩), (60, ⟨.int .u64, 0, []⟩)]
theorem tab_ok : Each0 (TRow Try.prog) tab := ⟨⟨⟨e3, v3⟩, fun _ => ⟨(.int v3), by decide, by kernel_rfl⟩⟩,
  ⟨⟨e4, v4⟩, fun _ => ⟨(.bool v4), by decide, by kernel_rfl⟩⟩,
  ⟨⟨e5, v5⟩, fun _ => ⟨(.int v5), by decide, by kernel_rfl⟩⟩,
  ⟨⟨e22, v22⟩, fun _ => ⟨(.int v22), by decide, by kernel_rfl⟩⟩,
  ⟨⟨e24, v24, e22, by decide⟩, fun _ => ⟨(.arr v24 e22 (.int v22)), by decide, by kernel_rfl⟩⟩,
  ⟨⟨e30, v30, e5, by decide⟩, fun _ => ⟨(.arr v30 e5 (.int v5)), by decide, by kernel_rfl⟩⟩,
  ⟨⟨e60, v60⟩, fun _ => ⟨(.int v60), by decide, by kernel_rfl⟩⟩,
  trivial⟩
def env (n : Nat) (hs : List (Nat × Hd)) : Env := ⟨n, lkT tab, lkT hs, fun _ => none⟩
theorem mixed : Try.prog.follows .mixedOrders = true := by kernel_rfl
theorem okk (ht : Each0 (TRow Try.prog) tab) {n : Nat} {hs : List (Nat × Hd)} (h : Each0 (fun p => FnOk Try.prog p.1 p.2) hs) (hm : Try.prog.follows .mixedOrders = true) : Okk Try.prog (env n hs) := ⟨⟨env_ok ht _ _ _, fun _ _ hf => lkT_each h hf⟩, hm⟩
/-! entail/wide.divideWord -/
noncomputable def c83 : Code := ((Try.f83).body).getD .skip
def h83_1 : Sh := ⟨[.d (.int .u64), .d (.int .u64), .d (.int .u64), .d (.arr 4 (.int .u64)), .d (.arr 4 (.int .u64)), .d (.arr 4 (.int .u64)), .d (.arr 4 (.int .u64))], [9, 10, 12], [(5, [.arr 4 (.int .u64)]), (7, [.arr 4 (.int .u64)]), (8, [.arr 4 (.int .u64)]), (11, [.arr 4 (.int .u64)])], [], []⟩
def o83_1 : Outs := ⟨⟨[], [], [], [], []⟩, 0, ⟨[.d (.int .u64), .d (.arr 4 (.int .u64)), .d (.arr 4 (.int .u64)), .d (.arr 4 (.int .u64))], [10], [(7, [.arr 4 (.int .u64)]), (8, [.arr 4 (.int .u64)]), (11, [.arr 4 (.int .u64)])], [], []⟩, ⟨[], [], [], [], []⟩⟩
noncomputable def k83_1 (f : UInt64 × UInt64 × UInt64 × (List UInt64) × (List UInt64) × (List UInt64) × (List UInt64) → Option (O3 (Unit) (UInt64 × (List UInt64) × (List UInt64) × (List UInt64)) (Unit))) (d : UInt64 × UInt64 × UInt64 × (List UInt64) × (List UInt64) × (List UInt64) × (List UInt64)) : Option (O3 (Unit) (UInt64 × (List UInt64) × (List UInt64) × (List UInt64)) (Unit)) :=
  cnd (decide (d.1 < d.2.2.1))
   (let t54_11 : UInt64 := (d.2.1 - (1 : UInt64))
   bnd (fSub (d.2.2.2.2.2.2, d.2.2.2.1)) fun y_12 =>
   let t63_13 : UInt64 := (d.2.2.1 - y_12.2)
   f (d.1, t54_11, t63_13, d.2.2.2.1, d.2.2.2.2.1, d.2.2.2.2.2.1, y_12.1))
   (cnd (decide (d.2.2.1 = d.1))
    (bnd (fCmp (d.2.2.2.2.2.2, d.2.2.2.2.2.1)) fun y_14 =>
    cnd (decide ((0 : Int) < y_14))
     (let t54_15 : UInt64 := (d.2.1 - (1 : UInt64))
     bnd (fSub (d.2.2.2.2.2.2, d.2.2.2.1)) fun y_16 =>
     let t63_17 : UInt64 := (d.2.2.1 - y_16.2)
     f (d.1, t54_15, t63_17, d.2.2.2.1, d.2.2.2.2.1, d.2.2.2.2.2.1, y_16.1))
     (some (.x (d.2.1, d.2.2.2.2.1, d.2.2.2.2.2.1, d.2.2.2.2.2.2))))
    (some (.x (d.2.1, d.2.2.2.2.1, d.2.2.2.2.2.1, d.2.2.2.2.2.2))))
noncomputable def l83_1 : UInt64 × UInt64 × UInt64 × (List UInt64) × (List UInt64) × (List UInt64) × (List UInt64) → Option (O3 (Unit) (UInt64 × (List UInt64) × (List UInt64) × (List UInt64)) (Unit)) := itN k83_1 fuel
noncomputable def u83_1 : UH := unit (env 72 [(31, hd31), (43, hd43), (70, hd70), (84, hd84)]) h83_1 o83_1 l83_1
noncomputable def b83 (d : (List UInt64) × UInt64 × (List UInt64)) : Option (UInt64 × (List UInt64)) :=
  let t18_1 : UInt64 := (List.getD d.1 0 (0 : UInt64))
  let t20_2 : UInt64 := (List.getD d.1 1 (0 : UInt64))
  let t22_3 : UInt64 := (List.getD d.1 2 (0 : UInt64))
  let t23_4 : List UInt64 := [d.2.1, t18_1, t20_2, t22_3]
  let t25_5 : UInt64 := (List.getD d.1 3 (0 : UInt64))
  let t28_6 : UInt64 := (List.getD d.1 2 (0 : UInt64))
  let t30_7 : UInt64 := (List.getD d.2.2 3 (0 : UInt64))
  bnd (fGs (t25_5, t28_6, t30_7)) fun y_8 =>
  let t35_9 : List UInt64 := [(0 : UInt64), (0 : UInt64), (0 : UInt64), (0 : UInt64)]
  bnd (fTp (d.2.2, y_8, t35_9)) fun y_10 =>
  bnd (l83_1 (t25_5, y_8, y_10.2, d.2.2, (List.replicate 4 (0 : UInt64)), t23_4, y_10.1)) fun o => (match o with
   | .n _o => none
   | .x o => (bnd (fSub (o.2.2.1, o.2.2.2)) fun y_18 =>
   some (o.1, y_18.1))
   | .r _o => none)
noncomputable def m83 : ((List UInt64) × UInt64 × (List UInt64)) → Option (UInt64 × (List UInt64)) := hide b83
theorem m83_eq (d : (List UInt64) × UInt64 × (List UInt64)) : m83 d = b83 d := congrFun (hide_eq _) d
noncomputable def hd83 : Hd := ⟨[.d (.arr 4 (.int .u64)), .d (.int .u64), .d (.arr 4 (.int .u64))], [.d (.int .u64), .d (.arr 4 (.int .u64))], m83⟩
theorem ok83 : Okk Try.prog (env 72 [(31, hd31), (43, hd43), (70, hd70), (84, hd84)]) := okk tab_ok (n := 72) (hs := [(31, hd31), (43, hd43), (70, hd70), (84, hd84)]) ⟨fn31, fn43, fn70, fn84, trivial⟩ mixed
set_option maxRecDepth 100000 in
theorem e83_1 (f : Dat h83_1.ks → Option o83_1.O) (d : Dat h83_1.ks) : loopF (env 72 [(31, hd31), (43, hd43), (70, hd70), (84, hd84)]) (lkU []) 1 (lbody (unitAt c83 1)) h83_1 o83_1 f d = k83_1 f d := by kernel_rfl
theorem x83_1 : UOk Try.prog (env 72 [(31, hd31), (43, hd43), (70, hd70), (84, hd84)]) (unitAt c83 1) u83_1 ∧ Pk Try.prog (env 72 [(31, hd31), (43, hd43), (70, hd70), (84, hd84)]) u83_1.pk u83_1.up :=
  loop_at ok83 (show unitAt c83 1 = .loop (lbody (unitAt c83 1)) by kernel_rfl) (h := h83_1) (o := o83_1) (n := 1) (hl := lkU []) (uall_at trivial) k83_1 fuel e83_1
set_option maxRecDepth 100000 in
theorem r83 (d : Dat hd83.pks) : runF (env 72 [(31, hd31), (43, hd43), (70, hd70), (84, hd84)]) (lkU [(1, u83_1)]) c83 (Try.f83).results.toList [] hd83.pks hd83.rks d = b83 d := by kernel_rfl
theorem q83 (d : Dat hd83.pks) (y : Dat hd83.rks) : (hd83.fm d = some y) = (m83 d = some y) := by kernel_rfl
theorem t83 (d : Dat hd83.pks) (y : Dat hd83.rks) (h : hd83.fm d = some y) : runF (env 72 [(31, hd31), (43, hd43), (70, hd70), (84, hd84)]) (lkU [(1, u83_1)]) c83 (Try.f83).results.toList [] hd83.pks hd83.rks d = some y := (r83 d).trans ((m83_eq d).symm.trans ((q83 d y).mp h))
theorem gn83 : FnG Try.prog 83 hd83 :=
  fn_g (hl := lkU [(1, u83_1)]) (un := []) ok83 (fun _ => rfl) Try.func83 rfl Try.ntmps83 (by kernel_rfl) (rv := (Try.f83).results.toList) (by kernel_rfl) (by decide) (uall_at ⟨⟨_, Nat.le_of_ble_eq_true rfl, (show (units c83)[1]? = some (unitAt c83 1) by kernel_rfl), x83_1⟩, trivial⟩) t83
theorem fn83 : FnOk Try.prog 83 hd83 := .inl gn83
/-! entail/wide.divide -/
noncomputable def c77 : Code := ((Try.f77).body).getD .skip
def h77_1 : Sh := ⟨[.d (.int .i64), .d (.int .i64), .d (.arr 4 (.int .u64)), .d (.arr 4 (.int .u64)), .d (.arr 4 (.int .u64)), .d (.arr 4 (.int .u64)), .d (.arr 4 (.int .u64)), .d (.arr 4 (.int .u64))], [8, 12], [(4, [.arr 4 (.int .u64)]), (5, [.arr 4 (.int .u64)]), (6, [.arr 4 (.int .u64)]), (7, [.arr 4 (.int .u64)]), (9, [.arr 4 (.int .u64)]), (11, [.arr 4 (.int .u64)])], [], []⟩
def o77_1 : Outs := ⟨⟨[], [], [], [], []⟩, 0, ⟨[.d (.int .i64), .d (.arr 4 (.int .u64)), .d (.arr 4 (.int .u64)), .d (.arr 4 (.int .u64)), .d (.arr 4 (.int .u64))], [8], [(6, [.arr 4 (.int .u64)]), (7, [.arr 4 (.int .u64)]), (9, [.arr 4 (.int .u64)]), (11, [.arr 4 (.int .u64)])], [], []⟩, ⟨[], [], [], [], []⟩⟩
noncomputable def k77_1 (f : Int × Int × (List UInt64) × (List UInt64) × (List UInt64) × (List UInt64) × (List UInt64) × (List UInt64) → Option (O3 (Unit) (Int × (List UInt64) × (List UInt64) × (List UInt64) × (List UInt64)) (Unit))) (d : Int × Int × (List UInt64) × (List UInt64) × (List UInt64) × (List UInt64) × (List UInt64) × (List UInt64)) : Option (O3 (Unit) (Int × (List UInt64) × (List UInt64) × (List UInt64) × (List UInt64)) (Unit)) :=
  cnd (decide ((0 : Int) ≤ d.2.1))
   (guard (inB d.2.1 4) <|
   let t42_23 : UInt64 := (List.getD d.2.2.1 d.2.1.toNat (0 : UInt64))
   bnd (m83 (d.2.2.2.2.2.2.1, t42_23, d.2.2.2.1)) fun y_24 =>
   guard (inB d.2.1 4) <|
   let m5_25 : List UInt64 := (List.set d.2.2.2.2.2.2.2 d.2.1.toNat y_24.1)
   guard (inR .i64 (d.2.1 - (1 : Int))) <|
   let t36_26 : Int := (d.2.1 - (1 : Int))
   f (d.1, t36_26, d.2.2.1, d.2.2.2.1, d.2.2.2.2.1, d.2.2.2.2.2.1, y_24.2, m5_25))
   (some (.x (d.1, d.2.2.2.2.1, d.2.2.2.2.2.1, d.2.2.2.2.2.2.1, d.2.2.2.2.2.2.2)))
noncomputable def l77_1 : Int × Int × (List UInt64) × (List UInt64) × (List UInt64) × (List UInt64) × (List UInt64) × (List UInt64) → Option (O3 (Unit) (Int × (List UInt64) × (List UInt64) × (List UInt64) × (List UInt64)) (Unit)) := itN k77_1 fuel
noncomputable def u77_1 : UH := unit (env 52 [(44, hd44), (45, hd45), (79, hd79), (80, hd80), (83, hd83)]) h77_1 o77_1 l77_1
def h77_0 : Sh := ⟨[.d (.int .i64), .d (.arr 4 (.int .u64)), .d (.arr 4 (.int .u64)), .d (.arr 4 (.int .u64)), .d (.arr 4 (.int .u64)), .d (.arr 4 (.int .u64))], [8], [(3, [.arr 4 (.int .u64)]), (4, [.arr 4 (.int .u64)]), (5, [.arr 4 (.int .u64)]), (6, [.arr 4 (.int .u64)]), (7, [.arr 4 (.int .u64)])], [], []⟩
def o77_0 : Outs := ⟨⟨[.d (.int .i64), .d (.arr 4 (.int .u64)), .d (.arr 4 (.int .u64)), .d (.arr 4 (.int .u64)), .d (.arr 4 (.int .u64)), .d (.arr 4 (.int .u64))], [8], [(4, [.arr 4 (.int .u64)]), (5, [.arr 4 (.int .u64)]), (6, [.arr 4 (.int .u64)]), (7, [.arr 4 (.int .u64)]), (9, [.arr 4 (.int .u64)])], [], []⟩, 0, ⟨[], [], [], [], []⟩, ⟨[], [], [], [], []⟩⟩
def p77_0 : Plan := (.op 0 (.op 1 (.op 3 (.op 4 (.op 5 (.alt (.op 2 (.alt (.op 6 (.alt (.op 7 (.op 8 (.op 9 (.op 10 (.op 11 (.op 12 (.op 13 .fin))))))) (.op 11 (.op 7 (.op 8 (.op 9 (.op 10 (.op 12 (.op 13 .fin))))))))) (.op 11 (.op 6 (.op 7 (.op 8 (.op 9 (.op 10 (.op 12 (.op 13 .fin)))))))))) (.op 11 (.op 2 (.op 6 (.op 7 (.op 8 (.op 9 (.op 10 (.op 12 (.op 13 .fin)))))))))))))))
noncomputable def a77_0 (d : Int × (List UInt64) × (List UInt64) × (List UInt64) × (List UInt64) × (List UInt64)) : Option (O3 (Int × (List UInt64) × (List UInt64) × (List UInt64) × (List UInt64) × (List UInt64)) (Unit) (Unit)) :=
  guard (inR .i64 ((256 : Int) - d.1)) <|
  bnd (fShl (d.2.1, d.1)) fun y_4 =>
  bnd (fShr (d.2.2.1, ((256 : Int) - d.1))) fun y_5 =>
  bnd (fAdd (y_4, y_5)) fun y_6 =>
  some (.n (d.1, d.2.2.1, d.2.2.2.1, d.2.2.2.2.1, d.2.2.2.2.2, y_6.1))
noncomputable def l77_0 : (Int × (List UInt64) × (List UInt64) × (List UInt64) × (List UInt64) × (List UInt64)) → Option (O3 (Int × (List UInt64) × (List UInt64) × (List UInt64) × (List UInt64) × (List UInt64)) (Unit) (Unit)) := hide a77_0
theorem l77_0_eq (d : Int × (List UInt64) × (List UInt64) × (List UInt64) × (List UInt64) × (List UInt64)) : l77_0 d = a77_0 d := congrFun (hide_eq _) d
noncomputable def g77_0 (d : Int × (List UInt64) × (List UInt64) × (List UInt64) × (List UInt64) × (List UInt64)) : Option (List (O3 (Int × (List UInt64) × (List UInt64) × (List UInt64) × (List UInt64) × (List UInt64)) (Unit) (Unit))) :=
  guard (inR .i64 ((256 : Int) - d.1)) <|
  bnd
   (bnd (fShl (d.2.1, d.1)) fun y_8 =>
   bnd
    (bnd (fShr (d.2.2.1, ((256 : Int) - d.1))) fun y_10 =>
    bnd
     (bnd (fAdd (y_8, y_10)) fun y_12 =>
     some [.n (d.1, d.2.2.1, d.2.2.2.1, d.2.2.2.2.1, d.2.2.2.2.2, y_12.1)]) fun x_11 =>
    bnd
     (bnd (fAdd (y_8, y_10)) fun y_13 =>
     some [.n (d.1, d.2.2.1, d.2.2.2.1, d.2.2.2.2.1, d.2.2.2.2.2, y_13.1)]) fun x_14 =>
    some (x_11 ++ x_14)) fun x_9 =>
   bnd
    (bnd (fShr (d.2.2.1, ((256 : Int) - d.1))) fun y_15 =>
    bnd (fAdd (y_8, y_15)) fun y_16 =>
    some [.n (d.1, d.2.2.1, d.2.2.2.1, d.2.2.2.2.1, d.2.2.2.2.2, y_16.1)]) fun x_17 =>
   some (x_9 ++ x_17)) fun x_7 =>
  bnd
   (bnd (fShl (d.2.1, d.1)) fun y_18 =>
   bnd (fShr (d.2.2.1, ((256 : Int) - d.1))) fun y_19 =>
   bnd (fAdd (y_18, y_19)) fun y_20 =>
   some [.n (d.1, d.2.2.1, d.2.2.2.1, d.2.2.2.2.1, d.2.2.2.2.2, y_20.1)]) fun x_21 =>
  some (x_7 ++ x_21)
theorem j77_0 (d : Int × (List UInt64) × (List UInt64) × (List UInt64) × (List UInt64) × (List UInt64)) (y : O3 (Int × (List UInt64) × (List UInt64) × (List UInt64) × (List UInt64) × (List UInt64)) (Unit) (Unit)) (hd : l77_0 d = some y) : ∃ r, g77_0 d = some r ∧ ∀ x ∈ r, x = y := by
  rw [l77_0_eq] at hd
  unfold a77_0 at hd
  obtain ⟨h0, hd⟩ := guard_some hd
  obtain ⟨y_4, h1, hd⟩ := bnd_some hd
  obtain ⟨y_5, h2, hd⟩ := bnd_some hd
  obtain ⟨y_6, h3, hd⟩ := bnd_some hd
  obtain rfl := Option.some.inj hd
  refine ⟨_, by unfold g77_0; simp only [h0, h1, h2, h3, bnd_s, guard_t]; rfl, by simp⟩
noncomputable def u77_0 : UH := unit (env 52 [(44, hd44), (45, hd45), (79, hd79), (80, hd80), (83, hd83)]) h77_0 o77_0 l77_0
noncomputable def b77 (d : (List UInt64) × (List UInt64) × (List UInt64)) : Option ((List UInt64) × (List UInt64)) :=
  bnd (fLen d.2.2) fun y_1 =>
  guard (inR .i64 ((256 : Int) - y_1)) <|
  let t15_2 : Int := ((256 : Int) - y_1)
  bnd (fShl (d.2.2, t15_2)) fun y_3 =>
  bnd (l77_0 (t15_2, d.1, d.2.1, y_3, (List.replicate 4 (0 : UInt64)), (List.replicate 4 (0 : UInt64)))) fun o => (match o with
   | .n o => (bnd (fShl (o.2.1, o.1)) fun y_22 =>
   bnd (l77_1 (o.1, (3 : Int), y_22, o.2.2.1, o.2.2.2.1, o.2.2.2.2.1, o.2.2.2.2.2, (List.replicate 4 (0 : UInt64)))) fun o => (match o with
    | .n _o => none
    | .x o => (bnd (fShr (o.2.2.2.1, o.1)) fun y_27 =>
    some (o.2.2.2.2, y_27))
    | .r _o => none))
   | .x _o => none
   | .r _o => none)
noncomputable def m77 : ((List UInt64) × (List UInt64) × (List UInt64)) → Option ((List UInt64) × (List UInt64)) := hide b77
theorem m77_eq (d : (List UInt64) × (List UInt64) × (List UInt64)) : m77 d = b77 d := congrFun (hide_eq _) d
noncomputable def hd77 : Hd := ⟨[.d (.arr 4 (.int .u64)), .d (.arr 4 (.int .u64)), .d (.arr 4 (.int .u64))], [.d (.arr 4 (.int .u64)), .d (.arr 4 (.int .u64))], m77⟩
theorem ok77 : Okk Try.prog (env 52 [(44, hd44), (45, hd45), (79, hd79), (80, hd80), (83, hd83)]) := okk tab_ok (n := 52) (hs := [(44, hd44), (45, hd45), (79, hd79), (80, hd80), (83, hd83)]) ⟨fn44, fn45, fn79, fn80, fn83, trivial⟩ mixed
set_option maxRecDepth 100000 in
theorem e77_1 (f : Dat h77_1.ks → Option o77_1.O) (d : Dat h77_1.ks) : loopF (env 52 [(44, hd44), (45, hd45), (79, hd79), (80, hd80), (83, hd83)]) (lkU []) 1 (lbody (unitAt c77 1)) h77_1 o77_1 f d = k77_1 f d := by kernel_rfl
theorem x77_1 : UOk Try.prog (env 52 [(44, hd44), (45, hd45), (79, hd79), (80, hd80), (83, hd83)]) (unitAt c77 1) u77_1 ∧ Pk Try.prog (env 52 [(44, hd44), (45, hd45), (79, hd79), (80, hd80), (83, hd83)]) u77_1.pk u77_1.up :=
  loop_at ok77 (show unitAt c77 1 = .loop (lbody (unitAt c77 1)) by kernel_rfl) (h := h77_1) (o := o77_1) (n := 1) (hl := lkU []) (uall_at trivial) k77_1 fuel e77_1
set_option maxRecDepth 100000 in
theorem e77_0 (d : Dat h77_0.ks) : regF (env 52 [(44, hd44), (45, hd45), (79, hd79), (80, hd80), (83, hd83)]) (unitAt c77 0) p77_0 h77_0 o77_0 d = g77_0 d := by kernel_rfl
theorem x77_0 : UOk Try.prog (env 52 [(44, hd44), (45, hd45), (79, hd79), (80, hd80), (83, hd83)]) (unitAt c77 0) u77_0 ∧ Pk Try.prog (env 52 [(44, hd44), (45, hd45), (79, hd79), (80, hd80), (83, hd83)]) u77_0.pk u77_0.up :=
  reg_at ok77 (show regOk (env 52 [(44, hd44), (45, hd45), (79, hd79), (80, hd80), (83, hd83)]) (unitAt c77 0) p77_0 = true by kernel_rfl) (h := h77_0) (o := o77_0) l77_0 (fun d y hy => by obtain ⟨r, h1, h2⟩ := j77_0 d y hy; exact ⟨r, (e77_0 d).trans h1, h2⟩)
set_option maxRecDepth 100000 in
theorem r77 (d : Dat hd77.pks) : runF (env 52 [(44, hd44), (45, hd45), (79, hd79), (80, hd80), (83, hd83)]) (lkU [(0, u77_0), (1, u77_1)]) c77 (Try.f77).results.toList [] hd77.pks hd77.rks d = b77 d := by kernel_rfl
theorem q77 (d : Dat hd77.pks) (y : Dat hd77.rks) : (hd77.fm d = some y) = (m77 d = some y) := by kernel_rfl
theorem t77 (d : Dat hd77.pks) (y : Dat hd77.rks) (h : hd77.fm d = some y) : runF (env 52 [(44, hd44), (45, hd45), (79, hd79), (80, hd80), (83, hd83)]) (lkU [(0, u77_0), (1, u77_1)]) c77 (Try.f77).results.toList [] hd77.pks hd77.rks d = some y := (r77 d).trans ((m77_eq d).symm.trans ((q77 d y).mp h))
theorem gn77 : FnG Try.prog 77 hd77 :=
  fn_g (hl := lkU [(0, u77_0), (1, u77_1)]) (un := []) ok77 (fun _ => rfl) Try.func77 rfl Try.ntmps77 (by kernel_rfl) (rv := (Try.f77).results.toList) (by kernel_rfl) (by decide) (uall_at ⟨⟨_, Nat.le_of_ble_eq_true rfl, (show (units c77)[0]? = some (unitAt c77 0) by kernel_rfl), x77_0⟩, ⟨_, Nat.le_of_ble_eq_true rfl, (show (units c77)[1]? = some (unitAt c77 1) by kernel_rfl), x77_1⟩, trivial⟩) t77
theorem fn77 : FnOk Try.prog 77 hd77 := .inl gn77
/-! entail/wide.Rem -/
noncomputable def c71 : Code := ((Try.f71).body).getD .skip
noncomputable def b71 (d : (List UInt64) × (List UInt64) × (List UInt64)) : Option ((List UInt64) × Int) :=
  let t11_1 : List UInt64 := [(0 : UInt64), (0 : UInt64), (0 : UInt64), (0 : UInt64)]
  cnd (eqD (.arr 4 (.int .u64)) d.2.2 t11_1)
   (let t13_2 : List UInt64 := [(0 : UInt64), (0 : UInt64), (0 : UInt64), (0 : UInt64)]
   some (t13_2, (1 : Int)))
   (let t15_3 : List UInt64 := [(0 : UInt64), (0 : UInt64), (0 : UInt64), (0 : UInt64)]
   bnd (m77 (t15_3, d.1, d.2.2)) fun y_4 =>
   bnd (m77 (y_4.2, d.2.1, d.2.2)) fun y_5 =>
   some (y_5.2, (0 : Int)))
noncomputable def m71 : ((List UInt64) × (List UInt64) × (List UInt64)) → Option ((List UInt64) × Int) := hide b71
noncomputable def hd71 : Hd := ⟨[.d (.arr 4 (.int .u64)), .d (.arr 4 (.int .u64)), .d (.arr 4 (.int .u64))], [.d (.arr 4 (.int .u64)), .d (.int .i64)], m71⟩
/-! entail/wide.Div -/
noncomputable def c53 : Code := ((Try.f53).body).getD .skip
noncomputable def b53 (d : (List UInt64) × (List UInt64)) : Option ((List UInt64) × (List UInt64) × Int) :=
  let t10_1 : List UInt64 := [(0 : UInt64), (0 : UInt64), (0 : UInt64), (0 : UInt64)]
  cnd (eqD (.arr 4 (.int .u64)) d.2 t10_1)
   (let t12_2 : List UInt64 := [(0 : UInt64), (0 : UInt64), (0 : UInt64), (0 : UInt64)]
   let t13_3 : List UInt64 := [(0 : UInt64), (0 : UInt64), (0 : UInt64), (0 : UInt64)]
   some (t12_2, t13_3, (1 : Int)))
   (let t15_4 : List UInt64 := [(0 : UInt64), (0 : UInt64), (0 : UInt64), (0 : UInt64)]
   bnd (m77 (t15_4, d.1, d.2)) fun y_5 =>
   some (y_5.1, y_5.2, (0 : Int)))
noncomputable def m53 : ((List UInt64) × (List UInt64)) → Option ((List UInt64) × (List UInt64) × Int) := hide b53
theorem m53_eq (d : (List UInt64) × (List UInt64)) : m53 d = b53 d := congrFun (hide_eq _) d
noncomputable def hd53 : Hd := ⟨[.d (.arr 4 (.int .u64)), .d (.arr 4 (.int .u64))], [.d (.arr 4 (.int .u64)), .d (.arr 4 (.int .u64)), .d (.int .i64)], m53⟩
theorem ok53 : Okk Try.prog (env 23 [(77, hd77)]) := okk tab_ok (n := 23) (hs := [(77, hd77)]) ⟨fn77, trivial⟩ mixed
set_option maxRecDepth 100000 in
theorem r53 (d : Dat hd53.pks) : runF (env 23 [(77, hd77)]) (lkU []) c53 (Try.f53).results.toList [] hd53.pks hd53.rks d = b53 d := by kernel_rfl
theorem q53 (d : Dat hd53.pks) (y : Dat hd53.rks) : (hd53.fm d = some y) = (m53 d = some y) := by kernel_rfl
theorem t53 (d : Dat hd53.pks) (y : Dat hd53.rks) (h : hd53.fm d = some y) : runF (env 23 [(77, hd77)]) (lkU []) c53 (Try.f53).results.toList [] hd53.pks hd53.rks d = some y := (r53 d).trans ((m53_eq d).symm.trans ((q53 d y).mp h))
theorem gn53 : FnG Try.prog 53 hd53 :=
  fn_g (hl := lkU []) (un := []) ok53 (fun _ => rfl) Try.func53 rfl Try.ntmps53 (by kernel_rfl) (rv := (Try.f53).results.toList) (by kernel_rfl) (by decide) (uall_at trivial) t53
theorem fn53 : FnOk Try.prog 53 hd53 := .inl gn53
/-! entail/entailref06.Bit -/
noncomputable def c75 : Code := ((Try.f75).body).getD .skip
noncomputable def b75 (d : (List UInt64) × Int) : Option (UInt64) :=
  guard (inR .i64 (d.2.tdiv (64 : Int))) <|
  let t6_1 : Int := (Int.tdiv d.2 (64 : Int))
  guard (inB t6_1 4) <|
  let t8_2 : UInt64 := (List.getD d.1 t6_1.toNat (0 : UInt64))
  let t10_3 : Int := (Int.tmod d.2 (64 : Int))
  let t11_4 : UInt64 := (ofI .u64 t10_3)
  guard (decide (0 ≤ (t11_4.toNat : Int)) && inR .u64 ((1 : Int) * 2 ^ min (t11_4.toNat : Int).toNat (IntKind.bits .u64))) <|
  let t12_5 : UInt64 := (shlK .u64 (1 : UInt64) (t11_4.toNat : Int).toNat)
  guard (!(decide (t12_5 = (0 : UInt64))) && inR .u64 ((t8_2.toNat : Int).tdiv (t12_5.toNat : Int))) <|
  let t13_6 : UInt64 := (t8_2 / t12_5)
  let t14_7 : UInt64 := (t13_6 % (2 : UInt64))
  some t14_7
noncomputable def m75 : ((List UInt64) × Int) → Option (UInt64) := hide b75
theorem m75_eq (d : (List UInt64) × Int) : m75 d = b75 d := congrFun (hide_eq _) d
noncomputable def hd75 : Hd := ⟨[.d (.arr 4 (.int .u64)), .d (.int .i64)], [.d (.int .u64)], m75⟩
theorem ok75 : Okk Try.prog (env 15 []) := okk tab_ok (n := 15) (hs := []) trivial mixed
set_option maxRecDepth 100000 in
theorem r75 (d : Dat hd75.pks) : runF (env 15 []) (lkU []) c75 (Try.f75).results.toList [] hd75.pks hd75.rks d = b75 d := by kernel_rfl
theorem q75 (d : Dat hd75.pks) (y : Dat hd75.rks) : (hd75.fm d = some y) = (m75 d = some y) := by kernel_rfl
theorem t75 (d : Dat hd75.pks) (y : Dat hd75.rks) (h : hd75.fm d = some y) : runF (env 15 []) (lkU []) c75 (Try.f75).results.toList [] hd75.pks hd75.rks d = some y := (r75 d).trans ((m75_eq d).symm.trans ((q75 d y).mp h))
theorem gn75 : FnG Try.prog 75 hd75 :=
  fn_g (hl := lkU []) (un := []) ok75 (fun _ => rfl) Try.func75 rfl Try.ntmps75 (by kernel_rfl) (rv := (Try.f75).results.toList) (by kernel_rfl) (by decide) (uall_at trivial) t75
theorem fn75 : FnOk Try.prog 75 hd75 := .inl gn75
/-! entail/entailref06.twice -/
noncomputable def c74 : Code := ((Try.f74).body).getD .skip
noncomputable def b74 (d : (List UInt64) × UInt64) : Option ((List UInt64) × UInt64) :=
  let t9_1 : UInt64 := (List.getD d.1 3 (0 : UInt64))
  let t10_2 : UInt64 := (t9_1 / (9223372036854775808 : UInt64))
  let t12_3 : UInt64 := (List.getD d.1 0 (0 : UInt64))
  let t13_4 : UInt64 := (t12_3 * (2 : UInt64))
  let t15_5 : UInt64 := (t13_4 + d.2)
  let t17_6 : UInt64 := (List.getD d.1 1 (0 : UInt64))
  let t18_7 : UInt64 := (t17_6 * (2 : UInt64))
  let t20_8 : UInt64 := (List.getD d.1 0 (0 : UInt64))
  let t21_9 : UInt64 := (t20_8 / (9223372036854775808 : UInt64))
  let t22_10 : UInt64 := (t18_7 + t21_9)
  let t24_11 : UInt64 := (List.getD d.1 2 (0 : UInt64))
  let t25_12 : UInt64 := (t24_11 * (2 : UInt64))
  let t27_13 : UInt64 := (List.getD d.1 1 (0 : UInt64))
  let t28_14 : UInt64 := (t27_13 / (9223372036854775808 : UInt64))
  let t29_15 : UInt64 := (t25_12 + t28_14)
  let t31_16 : UInt64 := (List.getD d.1 3 (0 : UInt64))
  let t32_17 : UInt64 := (t31_16 * (2 : UInt64))
  let t34_18 : UInt64 := (List.getD d.1 2 (0 : UInt64))
  let t35_19 : UInt64 := (t34_18 / (9223372036854775808 : UInt64))
  let t36_20 : UInt64 := (t32_17 + t35_19)
  let t37_21 : List UInt64 := [t15_5, t22_10, t29_15, t36_20]
  some (t37_21, t10_2)
noncomputable def m74 : ((List UInt64) × UInt64) → Option ((List UInt64) × UInt64) := hide b74
theorem m74_eq (d : (List UInt64) × UInt64) : m74 d = b74 d := congrFun (hide_eq _) d
noncomputable def hd74 : Hd := ⟨[.d (.arr 4 (.int .u64)), .d (.int .u64)], [.d (.arr 4 (.int .u64)), .d (.int .u64)], m74⟩
theorem ok74 : Okk Try.prog (env 40 []) := okk tab_ok (n := 40) (hs := []) trivial mixed
set_option maxRecDepth 100000 in
theorem r74 (d : Dat hd74.pks) : runF (env 40 []) (lkU []) c74 (Try.f74).results.toList [] hd74.pks hd74.rks d = b74 d := by kernel_rfl
theorem q74 (d : Dat hd74.pks) (y : Dat hd74.rks) : (hd74.fm d = some y) = (m74 d = some y) := by kernel_rfl
theorem t74 (d : Dat hd74.pks) (y : Dat hd74.rks) (h : hd74.fm d = some y) : runF (env 40 []) (lkU []) c74 (Try.f74).results.toList [] hd74.pks hd74.rks d = some y := (r74 d).trans ((m74_eq d).symm.trans ((q74 d y).mp h))
theorem gn74 : FnG Try.prog 74 hd74 :=
  fn_g (hl := lkU []) (un := []) ok74 (fun _ => rfl) Try.func74 rfl Try.ntmps74 (by kernel_rfl) (rv := (Try.f74).results.toList) (by kernel_rfl) (by decide) (uall_at trivial) t74
theorem fn74 : FnOk Try.prog 74 hd74 := .inl gn74
/-! entail/entailref06.Rem -/
noncomputable def c52 : Code := ((Try.f52).body).getD .skip
def h52_4 : Sh := ⟨[.d (.int .i64), .d (.arr 4 (.int .u64)), .d (.arr 4 (.int .u64)), .d (.arr 4 (.int .u64)), .d (.arr 4 (.int .u64)), .d (.arr 4 (.int .u64)), .d (.arr 4 (.int .u64))], [9], [(3, [.arr 4 (.int .u64)]), (4, [.arr 4 (.int .u64)]), (5, [.arr 4 (.int .u64)]), (6, [.arr 4 (.int .u64)]), (8, [.arr 4 (.int .u64)]), (10, [.arr 4 (.int .u64)])], [], []⟩
def o52_4 : Outs := ⟨⟨[.d (.int .i64), .d (.int .u64), .d (.arr 4 (.int .u64)), .d (.arr 4 (.int .u64)), .d (.arr 4 (.int .u64)), .d (.arr 4 (.int .u64)), .d (.arr 4 (.int .u64)), .d (.arr 4 (.int .u64))], [9, 12], [(3, [.arr 4 (.int .u64)]), (4, [.arr 4 (.int .u64)]), (5, [.arr 4 (.int .u64)]), (6, [.arr 4 (.int .u64)]), (8, [.arr 4 (.int .u64)]), (11, [.arr 4 (.int .u64)])], [], []⟩, 0, ⟨[], [], [], [], []⟩, ⟨[], [], [], [], []⟩⟩
def p52_4 : Plan := (.op 0 (.op 1 (.op 2 (.op 3 (.alt (.op 4 (.alt (.op 5 (.op 6 (.op 7 (.op 8 (.op 9 (.op 10 (.op 11 .fin))))))) (.op 9 (.op 5 (.op 6 (.op 7 (.op 8 (.op 10 (.op 11 .fin))))))))) (.op 9 (.op 4 (.op 5 (.op 6 (.op 7 (.op 8 (.op 10 (.op 11 .fin)))))))))))))
noncomputable def a52_4 (d : Int × (List UInt64) × (List UInt64) × (List UInt64) × (List UInt64) × (List UInt64) × (List UInt64)) : Option (O3 (Int × UInt64 × (List UInt64) × (List UInt64) × (List UInt64) × (List UInt64) × (List UInt64) × (List UInt64)) (Unit) (Unit)) :=
  bnd (m75 (d.2.2.2.2.2.2, (Int.tmod d.1 (256 : Int)))) fun y_4 =>
  bnd (m74 (d.2.2.2.2.2.1, y_4)) fun y_5 =>
  some (.n (d.1, y_5.2, d.2.1, d.2.2.1, d.2.2.2.1, d.2.2.2.2.1, d.2.2.2.2.2.1, y_5.1))
noncomputable def l52_4 : (Int × (List UInt64) × (List UInt64) × (List UInt64) × (List UInt64) × (List UInt64) × (List UInt64)) → Option (O3 (Int × UInt64 × (List UInt64) × (List UInt64) × (List UInt64) × (List UInt64) × (List UInt64) × (List UInt64)) (Unit) (Unit)) := hide a52_4
noncomputable def g52_4 (d : Int × (List UInt64) × (List UInt64) × (List UInt64) × (List UInt64) × (List UInt64) × (List UInt64)) : Option (List (O3 (Int × UInt64 × (List UInt64) × (List UInt64) × (List UInt64) × (List UInt64) × (List UInt64) × (List UInt64)) (Unit) (Unit))) :=
  bnd
   (bnd (m75 (d.2.2.2.2.2.2, (Int.tmod d.1 (256 : Int)))) fun y_7 =>
   bnd
    (bnd (m74 (d.2.2.2.2.2.1, y_7)) fun y_9 =>
    some [.n (d.1, y_9.2, d.2.1, d.2.2.1, d.2.2.2.1, d.2.2.2.2.1, d.2.2.2.2.2.1, y_9.1)]) fun x_8 =>
   bnd
    (bnd (m74 (d.2.2.2.2.2.1, y_7)) fun y_10 =>
    some [.n (d.1, y_10.2, d.2.1, d.2.2.1, d.2.2.2.1, d.2.2.2.2.1, d.2.2.2.2.2.1, y_10.1)]) fun x_11 =>
   some (x_8 ++ x_11)) fun x_6 =>
  bnd
   (bnd (m75 (d.2.2.2.2.2.2, (Int.tmod d.1 (256 : Int)))) fun y_12 =>
   bnd (m74 (d.2.2.2.2.2.1, y_12)) fun y_13 =>
   some [.n (d.1, y_13.2, d.2.1, d.2.2.1, d.2.2.2.1, d.2.2.2.2.1, d.2.2.2.2.2.1, y_13.1)]) fun x_14 =>
  some (x_6 ++ x_14)
noncomputable def u52_4 : UH := unit (env 51 [(57, hd57), (74, hd74), (75, hd75), (76, hd76)]) h52_4 o52_4 l52_4
def h52_3 : Sh := ⟨[.d (.int .i64), .d (.bool), .d (.arr 4 (.int .u64)), .d (.arr 4 (.int .u64)), .d (.arr 4 (.int .u64)), .d (.arr 4 (.int .u64)), .d (.arr 4 (.int .u64)), .d (.arr 4 (.int .u64))], [9, 24], [(3, [.arr 4 (.int .u64)]), (4, [.arr 4 (.int .u64)]), (5, [.arr 4 (.int .u64)]), (6, [.arr 4 (.int .u64)]), (8, [.arr 4 (.int .u64)]), (10, [.arr 4 (.int .u64)])], [], []⟩
def o52_3 : Outs := ⟨⟨[.d (.int .i64), .d (.arr 4 (.int .u64)), .d (.arr 4 (.int .u64)), .d (.arr 4 (.int .u64)), .d (.arr 4 (.int .u64)), .d (.arr 4 (.int .u64)), .d (.arr 4 (.int .u64))], [9], [(3, [.arr 4 (.int .u64)]), (4, [.arr 4 (.int .u64)]), (5, [.arr 4 (.int .u64)]), (6, [.arr 4 (.int .u64)]), (8, [.arr 4 (.int .u64)]), (10, [.arr 4 (.int .u64)])], [], []⟩, 0, ⟨[], [], [], [], []⟩, ⟨[], [], [], [], []⟩⟩
noncomputable def a52_3 (d : Int × Bool × (List UInt64) × (List UInt64) × (List UInt64) × (List UInt64) × (List UInt64) × (List UInt64)) : Option (O3 (Int × (List UInt64) × (List UInt64) × (List UInt64) × (List UInt64) × (List UInt64) × (List UInt64)) (Unit) (Unit)) :=
  cnd d.2.1
   (some (.n (d.1, d.2.2.1, d.2.2.2.1, d.2.2.2.2.1, d.2.2.2.2.2.1, d.2.2.2.2.2.2.1, d.2.2.1)))
   (some (.n (d.1, d.2.2.1, d.2.2.2.1, d.2.2.2.2.1, d.2.2.2.2.2.1, d.2.2.2.2.2.2.1, d.2.2.2.2.2.2.2)))
noncomputable def l52_3 : (Int × Bool × (List UInt64) × (List UInt64) × (List UInt64) × (List UInt64) × (List UInt64) × (List UInt64)) → Option (O3 (Int × (List UInt64) × (List UInt64) × (List UInt64) × (List UInt64) × (List UInt64) × (List UInt64)) (Unit) (Unit)) := hide a52_3
noncomputable def u52_3 : UH := unit (env 51 [(57, hd57), (74, hd74), (75, hd75), (76, hd76)]) h52_3 o52_3 l52_3
def h52_1 : Sh := ⟨[.d (.int .i64), .d (.arr 4 (.int .u64)), .d (.arr 4 (.int .u64)), .d (.arr 4 (.int .u64)), .d (.arr 4 (.int .u64)), .d (.arr 4 (.int .u64))], [9], [(3, [.arr 4 (.int .u64)]), (4, [.arr 4 (.int .u64)]), (5, [.arr 4 (.int .u64)]), (6, [.arr 4 (.int .u64)]), (8, [.arr 4 (.int .u64)])], [], []⟩
def o52_1 : Outs := ⟨⟨[], [], [], [], []⟩, 0, ⟨[.d (.arr 4 (.int .u64)), .d (.arr 4 (.int .u64))], [], [(6, [.arr 4 (.int .u64)]), (8, [.arr 4 (.int .u64)])], [], []⟩, ⟨[], [], [], [], []⟩⟩
noncomputable def k52_1 (f : Int × (List UInt64) × (List UInt64) × (List UInt64) × (List UInt64) × (List UInt64) → Option (O3 (Unit) ((List UInt64) × (List UInt64)) (Unit))) (d : Int × (List UInt64) × (List UInt64) × (List UInt64) × (List UInt64) × (List UInt64)) : Option (O3 (Unit) ((List UInt64) × (List UInt64)) (Unit)) :=
  cnd (decide ((0 : Int) ≤ d.1))
   (bnd (l52_3 (d.1, (decide ((256 : Int) ≤ d.1)), d.2.1, d.2.2.1, d.2.2.2.1, d.2.2.2.2.1, d.2.2.2.2.2, d.2.2.1)) fun o => (match o with
    | .n o => (bnd (l52_4 (o.1, o.2.1, o.2.2.1, o.2.2.2.1, o.2.2.2.2.1, o.2.2.2.2.2.1, o.2.2.2.2.2.2)) fun o => (match o with
     | .n o => (cnd (decide (o.2.1 = (1 : UInt64)))
      (bnd (fRSub (o.2.2.2.2.2.2.2, o.2.2.2.2.1)) fun y_15 =>
      guard (inR .i64 (o.1 - (1 : Int))) <|
      let t21_16 : Int := (o.1 - (1 : Int))
      f (t21_16, o.2.2.1, o.2.2.2.1, o.2.2.2.2.1, o.2.2.2.2.2.1, y_15.1))
      (bnd (fRCmp (o.2.2.2.2.2.2.2, o.2.2.2.2.1)) fun y_17 =>
      cnd (decide ((0 : Int) ≤ y_17))
       (bnd (fRSub (o.2.2.2.2.2.2.2, o.2.2.2.2.1)) fun y_18 =>
       guard (inR .i64 (o.1 - (1 : Int))) <|
       let t21_19 : Int := (o.1 - (1 : Int))
       f (t21_19, o.2.2.1, o.2.2.2.1, o.2.2.2.2.1, o.2.2.2.2.2.1, y_18.1))
       (guard (inR .i64 (o.1 - (1 : Int))) <|
       let t21_20 : Int := (o.1 - (1 : Int))
       f (t21_20, o.2.2.1, o.2.2.2.1, o.2.2.2.2.1, o.2.2.2.2.2.1, o.2.2.2.2.2.2.2))))
     | .x _o => none
     | .r _o => (some (.r ()))))
    | .x _o => none
    | .r _o => (some (.r ()))))
   (some (.x (d.2.2.2.2.1, d.2.2.2.2.2)))
noncomputable def l52_1 : Int × (List UInt64) × (List UInt64) × (List UInt64) × (List UInt64) × (List UInt64) → Option (O3 (Unit) ((List UInt64) × (List UInt64)) (Unit)) := itN k52_1 fuel
noncomputable def u52_1 : UH := unit (env 51 [(57, hd57), (74, hd74), (75, hd75), (76, hd76)]) h52_1 o52_1 l52_1
noncomputable def b52 (d : (List UInt64) × (List UInt64) × (List UInt64)) : Option ((List UInt64) × Int) :=
  let t14_1 : List UInt64 := [(0 : UInt64), (0 : UInt64), (0 : UInt64), (0 : UInt64)]
  cnd (eqD (.arr 4 (.int .u64)) d.2.2 t14_1)
   (let t16_2 : List UInt64 := [(0 : UInt64), (0 : UInt64), (0 : UInt64), (0 : UInt64)]
   some (t16_2, (1 : Int)))
   (let t17_3 : List UInt64 := [(0 : UInt64), (0 : UInt64), (0 : UInt64), (0 : UInt64)]
   bnd (l52_1 ((511 : Int), d.1, d.2.1, d.2.2, (List.replicate 4 (0 : UInt64)), t17_3)) fun o => (match o with
    | .n _o => none
    | .x o => (some (o.2, (0 : Int)))
    | .r _o => none))
noncomputable def m52 : ((List UInt64) × (List UInt64) × (List UInt64)) → Option ((List UInt64) × Int) := hide b52
noncomputable def hd52 : Hd := ⟨[.d (.arr 4 (.int .u64)), .d (.arr 4 (.int .u64)), .d (.arr 4 (.int .u64))], [.d (.arr 4 (.int .u64)), .d (.int .i64)], m52⟩
/-! entail/wide.Read -/
noncomputable def c55 : Code := ((Try.f55).body).getD .skip
def h55_0 : Sh := ⟨[.d (.int .i64), .d (.arr 32 (.int .u8)), .d (.arr 4 (.int .u64)), .d (.arr 4 (.int .u64))], [5], [(1, [.arr 32 (.int .u8)]), (2, [.arr 4 (.int .u64)]), (3, [.arr 4 (.int .u64)])], [], []⟩
def o55_0 : Outs := ⟨⟨[], [], [], [], []⟩, 0, ⟨[.d (.arr 4 (.int .u64)), .d (.arr 4 (.int .u64))], [], [(2, [.arr 4 (.int .u64)]), (3, [.arr 4 (.int .u64)])], [], []⟩, ⟨[], [], [], [], []⟩⟩
noncomputable def k55_0 (f : Int × (List UInt8) × (List UInt64) × (List UInt64) → Option (O3 (Unit) ((List UInt64) × (List UInt64)) (Unit))) (d : Int × (List UInt8) × (List UInt64) × (List UInt64)) : Option (O3 (Unit) ((List UInt64) × (List UInt64)) (Unit)) :=
  cnd (decide (d.1 < (32 : Int)))
   (guard (inR .i64 (d.1.tdiv (8 : Int))) <|
   let t9_1 : Int := (Int.tdiv d.1 (8 : Int))
   guard (inB t9_1 4) <|
   let t11_2 : UInt64 := (List.getD d.2.2.2 t9_1.toNat (0 : UInt64))
   guard (inR .i64 ((31 : Int) - d.1)) <|
   let t13_3 : Int := ((31 : Int) - d.1)
   guard (inB t13_3 32) <|
   let t15_4 : UInt8 := (List.getD d.2.1 t13_3.toNat (0 : UInt8))
   let t18_5 : Int := (Int.tmod d.1 (8 : Int))
   guard (inR .i64 ((8 : Int) * t18_5)) <|
   let t19_6 : Int := ((8 : Int) * t18_5)
   guard (decide (0 ≤ t19_6) && inR .u64 ((t15_4.toUInt64.toNat : Int) * 2 ^ min t19_6.toNat (IntKind.bits .u64))) <|
   let t20_7 : UInt64 := (shlK .u64 t15_4.toUInt64 t19_6.toNat)
   let t21_8 : UInt64 := (orK .u64 t11_2 t20_7)
   guard (inB t9_1 4) <|
   let m2_9 : List UInt64 := (List.set d.2.2.2 t9_1.toNat t21_8)
   guard (inR .i64 (d.1 + (1 : Int))) <|
   let t23_10 : Int := (d.1 + (1 : Int))
   f (t23_10, d.2.1, d.2.2.1, m2_9))
   (some (.x (d.2.2.1, d.2.2.2)))
noncomputable def l55_0 : Int × (List UInt8) × (List UInt64) × (List UInt64) → Option (O3 (Unit) ((List UInt64) × (List UInt64)) (Unit)) := itN k55_0 fuel
noncomputable def u55_0 : UH := unit (env 25 []) h55_0 o55_0 l55_0
noncomputable def b55 (d : (List UInt8)) : Option ((List UInt64)) :=
  bnd (l55_0 ((0 : Int), d, (List.replicate 4 (0 : UInt64)), (List.replicate 4 (0 : UInt64)))) fun o => (match o with
   | .n _o => none
   | .x o => (some o.2)
   | .r _o => none)
noncomputable def m55 : (List UInt8) → Option ((List UInt64)) := hide b55
theorem m55_eq (d : (List UInt8)) : m55 d = b55 d := congrFun (hide_eq _) d
noncomputable def hd55 : Hd := ⟨[.d (.arr 32 (.int .u8))], [.d (.arr 4 (.int .u64))], m55⟩
theorem ok55 : Okk Try.prog (env 25 []) := okk tab_ok (n := 25) (hs := []) trivial mixed
set_option maxRecDepth 100000 in
theorem e55_0 (f : Dat h55_0.ks → Option o55_0.O) (d : Dat h55_0.ks) : loopF (env 25 []) (lkU []) 0 (lbody (unitAt c55 0)) h55_0 o55_0 f d = k55_0 f d := by kernel_rfl
theorem x55_0 : UOk Try.prog (env 25 []) (unitAt c55 0) u55_0 ∧ Pk Try.prog (env 25 []) u55_0.pk u55_0.up :=
  loop_at ok55 (show unitAt c55 0 = .loop (lbody (unitAt c55 0)) by kernel_rfl) (h := h55_0) (o := o55_0) (n := 0) (hl := lkU []) (uall_at trivial) k55_0 fuel e55_0
set_option maxRecDepth 100000 in
theorem r55 (d : Dat hd55.pks) : runF (env 25 []) (lkU [(0, u55_0)]) c55 (Try.f55).results.toList [] hd55.pks hd55.rks d = b55 d := by kernel_rfl
theorem q55 (d : Dat hd55.pks) (y : Dat hd55.rks) : (hd55.fm d = some y) = (m55 d = some y) := by kernel_rfl
theorem t55 (d : Dat hd55.pks) (y : Dat hd55.rks) (h : hd55.fm d = some y) : runF (env 25 []) (lkU [(0, u55_0)]) c55 (Try.f55).results.toList [] hd55.pks hd55.rks d = some y := (r55 d).trans ((m55_eq d).symm.trans ((q55 d y).mp h))
theorem gn55 : FnG Try.prog 55 hd55 :=
  fn_g (hl := lkU [(0, u55_0)]) (un := []) ok55 (fun _ => rfl) Try.func55 rfl Try.ntmps55 (by kernel_rfl) (rv := (Try.f55).results.toList) (by kernel_rfl) (by decide) (uall_at ⟨⟨_, Nat.le_of_ble_eq_true rfl, (show (units c55)[0]? = some (unitAt c55 0) by kernel_rfl), x55_0⟩, trivial⟩) t55
/-! entail/entailref06.Read -/
noncomputable def c56 : Code := ((Try.f56).body).getD .skip
def h56_0 : Sh := ⟨[.d (.int .i64), .d (.arr 32 (.int .u8)), .d (.arr 4 (.int .u64)), .d (.arr 4 (.int .u64))], [4], [(1, [.arr 32 (.int .u8)]), (2, [.arr 4 (.int .u64)]), (3, [.arr 4 (.int .u64)])], [], []⟩
def o56_0 : Outs := ⟨⟨[], [], [], [], []⟩, 0, ⟨[.d (.arr 4 (.int .u64)), .d (.arr 4 (.int .u64))], [], [(2, [.arr 4 (.int .u64)]), (3, [.arr 4 (.int .u64)])], [], []⟩, ⟨[], [], [], [], []⟩⟩
noncomputable def k56_0 (f : Int × (List UInt8) × (List UInt64) × (List UInt64) → Option (O3 (Unit) ((List UInt64) × (List UInt64)) (Unit))) (d : Int × (List UInt8) × (List UInt64) × (List UInt64)) : Option (O3 (Unit) ((List UInt64) × (List UInt64)) (Unit)) :=
  cnd (decide (d.1 < (32 : Int)))
   (guard (inR .i64 (d.1.tdiv (8 : Int))) <|
   let t11_2 : Int := (Int.tdiv d.1 (8 : Int))
   guard (inR .i64 ((3 : Int) - t11_2)) <|
   let t12_3 : Int := ((3 : Int) - t11_2)
   guard (inR .i64 (d.1.tdiv (8 : Int))) <|
   let t14_4 : Int := (Int.tdiv d.1 (8 : Int))
   guard (inR .i64 ((3 : Int) - t14_4)) <|
   let t15_5 : Int := ((3 : Int) - t14_4)
   guard (inB t15_5 4) <|
   let t17_6 : UInt64 := (List.getD d.2.2.2 t15_5.toNat (0 : UInt64))
   let t18_7 : UInt64 := (t17_6 * (256 : UInt64))
   guard (inB d.1 32) <|
   let t21_8 : UInt8 := (List.getD d.2.1 d.1.toNat (0 : UInt8))
   let t23_9 : UInt64 := (t18_7 + t21_8.toUInt64)
   guard (inB t12_3 4) <|
   let m2_10 : List UInt64 := (List.set d.2.2.2 t12_3.toNat t23_9)
   guard (inR .i64 (d.1 + (1 : Int))) <|
   let t9_11 : Int := (d.1 + (1 : Int))
   f (t9_11, d.2.1, d.2.2.1, m2_10))
   (some (.x (d.2.2.1, d.2.2.2)))
noncomputable def l56_0 : Int × (List UInt8) × (List UInt64) × (List UInt64) → Option (O3 (Unit) ((List UInt64) × (List UInt64)) (Unit)) := itN k56_0 fuel
noncomputable def u56_0 : UH := unit (env 26 []) h56_0 o56_0 l56_0
noncomputable def b56 (d : (List UInt8)) : Option ((List UInt64)) :=
  let t5_1 : List UInt64 := [(0 : UInt64), (0 : UInt64), (0 : UInt64), (0 : UInt64)]
  bnd (l56_0 ((0 : Int), d, (List.replicate 4 (0 : UInt64)), t5_1)) fun o => (match o with
   | .n _o => none
   | .x o => (some o.2)
   | .r _o => none)
noncomputable def m56 : (List UInt8) → Option ((List UInt64)) := hide b56
theorem m56_eq (d : (List UInt8)) : m56 d = b56 d := congrFun (hide_eq _) d
noncomputable def hd56 : Hd := ⟨[.d (.arr 32 (.int .u8))], [.d (.arr 4 (.int .u64))], m56⟩
theorem ok56 : Okk Try.prog (env 26 []) := okk tab_ok (n := 26) (hs := []) trivial mixed
set_option maxRecDepth 100000 in
theorem e56_0 (f : Dat h56_0.ks → Option o56_0.O) (d : Dat h56_0.ks) : loopF (env 26 []) (lkU []) 0 (lbody (unitAt c56 0)) h56_0 o56_0 f d = k56_0 f d := by kernel_rfl
theorem x56_0 : UOk Try.prog (env 26 []) (unitAt c56 0) u56_0 ∧ Pk Try.prog (env 26 []) u56_0.pk u56_0.up :=
  loop_at ok56 (show unitAt c56 0 = .loop (lbody (unitAt c56 0)) by kernel_rfl) (h := h56_0) (o := o56_0) (n := 0) (hl := lkU []) (uall_at trivial) k56_0 fuel e56_0
set_option maxRecDepth 100000 in
theorem r56 (d : Dat hd56.pks) : runF (env 26 []) (lkU [(0, u56_0)]) c56 (Try.f56).results.toList [] hd56.pks hd56.rks d = b56 d := by kernel_rfl
theorem q56 (d : Dat hd56.pks) (y : Dat hd56.rks) : (hd56.fm d = some y) = (m56 d = some y) := by kernel_rfl
theorem t56 (d : Dat hd56.pks) (y : Dat hd56.rks) (h : hd56.fm d = some y) : runF (env 26 []) (lkU [(0, u56_0)]) c56 (Try.f56).results.toList [] hd56.pks hd56.rks d = some y := (r56 d).trans ((m56_eq d).symm.trans ((q56 d y).mp h))
theorem gn56 : FnG Try.prog 56 hd56 :=
  fn_g (hl := lkU [(0, u56_0)]) (un := []) ok56 (fun _ => rfl) Try.func56 rfl Try.ntmps56 (by kernel_rfl) (rv := (Try.f56).results.toList) (by kernel_rfl) (by decide) (uall_at ⟨⟨_, Nat.le_of_ble_eq_true rfl, (show (units c56)[0]? = some (unitAt c56 0) by kernel_rfl), x56_0⟩, trivial⟩) t56
theorem fn56 : FnOk Try.prog 56 hd56 := .inl gn56
/-! entail/entailref12.Less -/
noncomputable def c47 : Code := ((Try.f47).body).getD .skip
def h47_0 : Sh := ⟨[.d (.int .u64), .d (.int .i64), .d (.arr 4 (.int .u64)), .d (.arr 4 (.int .u64)), .d (.arr 4 (.int .u64)), .d (.arr 4 (.int .u64))], [7, 8], [(2, [.arr 4 (.int .u64)]), (3, [.arr 4 (.int .u64)]), (4, [.arr 4 (.int .u64)]), (6, [.arr 4 (.int .u64)])], [], []⟩
def o47_0 : Outs := ⟨⟨[], [], [], [], []⟩, 0, ⟨[.d (.int .u64), .d (.arr 4 (.int .u64)), .d (.arr 4 (.int .u64))], [7], [(4, [.arr 4 (.int .u64)]), (6, [.arr 4 (.int .u64)])], [], []⟩, ⟨[], [], [], [], []⟩⟩
noncomputable def k47_0 (f : UInt64 × Int × (List UInt64) × (List UInt64) × (List UInt64) × (List UInt64) → Option (O3 (Unit) (UInt64 × (List UInt64) × (List UInt64)) (Unit))) (d : UInt64 × Int × (List UInt64) × (List UInt64) × (List UInt64) × (List UInt64)) : Option (O3 (Unit) (UInt64 × (List UInt64) × (List UInt64)) (Unit)) :=
  cnd (decide (d.2.1 < (4 : Int)))
   (guard (inB d.2.1 4) <|
   let t17_2 : UInt64 := (List.getD d.2.2.1 d.2.1.toNat (0 : UInt64))
   guard (inB d.2.1 4) <|
   let t20_3 : UInt64 := (List.getD d.2.2.2.1 d.2.1.toNat (0 : UInt64))
   let t21_4 : UInt64 := (t17_2 - t20_3)
   let t23_5 : UInt64 := (t21_4 - d.1)
   guard (inB d.2.1 4) <|
   let m3_6 : List UInt64 := (List.set d.2.2.2.2.2 d.2.1.toNat t23_5)
   guard (inB d.2.1 4) <|
   let t27_7 : UInt64 := (List.getD d.2.2.1 d.2.1.toNat (0 : UInt64))
   guard (inB d.2.1 4) <|
   let t30_8 : UInt64 := (List.getD d.2.2.2.1 d.2.1.toNat (0 : UInt64))
   cnd (decide (t27_7 < t30_8))
    (guard (inR .i64 (d.2.1 + (1 : Int))) <|
    let t13_9 : Int := (d.2.1 + (1 : Int))
    f ((1 : UInt64), t13_9, d.2.2.1, d.2.2.2.1, d.2.2.2.2.1, m3_6))
    (guard (inB d.2.1 4) <|
    let t35_10 : UInt64 := (List.getD d.2.2.1 d.2.1.toNat (0 : UInt64))
    guard (inB d.2.1 4) <|
    let t38_11 : UInt64 := (List.getD d.2.2.2.1 d.2.1.toNat (0 : UInt64))
    cnd (decide (t35_10 = t38_11))
     (cnd (decide (d.1 = (1 : UInt64)))
      (guard (inR .i64 (d.2.1 + (1 : Int))) <|
      let t13_12 : Int := (d.2.1 + (1 : Int))
      f ((1 : UInt64), t13_12, d.2.2.1, d.2.2.2.1, d.2.2.2.2.1, m3_6))
      (guard (inR .i64 (d.2.1 + (1 : Int))) <|
      let t13_13 : Int := (d.2.1 + (1 : Int))
      f ((0 : UInt64), t13_13, d.2.2.1, d.2.2.2.1, d.2.2.2.2.1, m3_6)))
     (guard (inR .i64 (d.2.1 + (1 : Int))) <|
     let t13_14 : Int := (d.2.1 + (1 : Int))
     f ((0 : UInt64), t13_14, d.2.2.1, d.2.2.2.1, d.2.2.2.2.1, m3_6))))
   (some (.x (d.1, d.2.2.2.2.1, d.2.2.2.2.2)))
noncomputable def l47_0 : UInt64 × Int × (List UInt64) × (List UInt64) × (List UInt64) × (List UInt64) → Option (O3 (Unit) (UInt64 × (List UInt64) × (List UInt64)) (Unit)) := itN k47_0 fuel
noncomputable def u47_0 : UH := unit (env 47 []) h47_0 o47_0 l47_0
noncomputable def b47 (d : (List UInt64) × (List UInt64)) : Option ((List UInt64) × UInt64) :=
  let t9_1 : List UInt64 := [(0 : UInt64), (0 : UInt64), (0 : UInt64), (0 : UInt64)]
  bnd (l47_0 ((0 : UInt64), (0 : Int), d.1, d.2, (List.replicate 4 (0 : UInt64)), t9_1)) fun o => (match o with
   | .n _o => none
   | .x o => (some (o.2.2, o.1))
   | .r _o => none)
noncomputable def m47 : ((List UInt64) × (List UInt64)) → Option ((List UInt64) × UInt64) := hide b47
noncomputable def hd47 : Hd := ⟨[.d (.arr 4 (.int .u64)), .d (.arr 4 (.int .u64))], [.d (.arr 4 (.int .u64)), .d (.int .u64)], m47⟩
/-! entail/entailref12.More -/
noncomputable def c50 : Code := ((Try.f50).body).getD .skip
def h50_0 : Sh := ⟨[.d (.int .u64), .d (.int .i64), .d (.arr 4 (.int .u64)), .d (.arr 4 (.int .u64)), .d (.arr 4 (.int .u64)), .d (.arr 4 (.int .u64))], [7, 8], [(2, [.arr 4 (.int .u64)]), (3, [.arr 4 (.int .u64)]), (4, [.arr 4 (.int .u64)]), (6, [.arr 4 (.int .u64)])], [], []⟩
def o50_0 : Outs := ⟨⟨[], [], [], [], []⟩, 0, ⟨[.d (.int .u64), .d (.arr 4 (.int .u64)), .d (.arr 4 (.int .u64))], [7], [(4, [.arr 4 (.int .u64)]), (6, [.arr 4 (.int .u64)])], [], []⟩, ⟨[], [], [], [], []⟩⟩
noncomputable def k50_0 (f : UInt64 × Int × (List UInt64) × (List UInt64) × (List UInt64) × (List UInt64) → Option (O3 (Unit) (UInt64 × (List UInt64) × (List UInt64)) (Unit))) (d : UInt64 × Int × (List UInt64) × (List UInt64) × (List UInt64) × (List UInt64)) : Option (O3 (Unit) (UInt64 × (List UInt64) × (List UInt64)) (Unit)) :=
  cnd (decide (d.2.1 < (4 : Int)))
   (guard (inB d.2.1 4) <|
   let t18_2 : UInt64 := (List.getD d.2.2.1 d.2.1.toNat (0 : UInt64))
   guard (inB d.2.1 4) <|
   let t21_3 : UInt64 := (List.getD d.2.2.2.1 d.2.1.toNat (0 : UInt64))
   let t22_4 : UInt64 := (t18_2 + t21_3)
   let t25_5 : UInt64 := (t22_4 + d.1)
   guard (inB d.2.1 4) <|
   let t29_6 : UInt64 := (List.getD d.2.2.1 d.2.1.toNat (0 : UInt64))
   cnd (decide (t22_4 < t29_6))
    (guard (inB d.2.1 4) <|
    let m3_7 : List UInt64 := (List.set d.2.2.2.2.2 d.2.1.toNat t25_5)
    guard (inR .i64 (d.2.1 + (1 : Int))) <|
    let t15_8 : Int := (d.2.1 + (1 : Int))
    f ((1 : UInt64), t15_8, d.2.2.1, d.2.2.2.1, d.2.2.2.2.1, m3_7))
    (cnd (decide (t25_5 < t22_4))
     (guard (inB d.2.1 4) <|
     let m3_9 : List UInt64 := (List.set d.2.2.2.2.2 d.2.1.toNat t25_5)
     guard (inR .i64 (d.2.1 + (1 : Int))) <|
     let t15_10 : Int := (d.2.1 + (1 : Int))
     f ((1 : UInt64), t15_10, d.2.2.1, d.2.2.2.1, d.2.2.2.2.1, m3_9))
     (guard (inB d.2.1 4) <|
     let m3_11 : List UInt64 := (List.set d.2.2.2.2.2 d.2.1.toNat t25_5)
     guard (inR .i64 (d.2.1 + (1 : Int))) <|
     let t15_12 : Int := (d.2.1 + (1 : Int))
     f ((0 : UInt64), t15_12, d.2.2.1, d.2.2.2.1, d.2.2.2.2.1, m3_11))))
   (some (.x (d.1, d.2.2.2.2.1, d.2.2.2.2.2)))
noncomputable def l50_0 : UInt64 × Int × (List UInt64) × (List UInt64) × (List UInt64) × (List UInt64) → Option (O3 (Unit) (UInt64 × (List UInt64) × (List UInt64)) (Unit)) := itN k50_0 fuel
noncomputable def u50_0 : UH := unit (env 41 []) h50_0 o50_0 l50_0
noncomputable def b50 (d : (List UInt64) × (List UInt64)) : Option ((List UInt64) × UInt64) :=
  let t11_1 : List UInt64 := [(0 : UInt64), (0 : UInt64), (0 : UInt64), (0 : UInt64)]
  bnd (l50_0 ((0 : UInt64), (0 : Int), d.1, d.2, (List.replicate 4 (0 : UInt64)), t11_1)) fun o => (match o with
   | .n _o => none
   | .x o => (some (o.2.2, o.1))
   | .r _o => none)
noncomputable def m50 : ((List UInt64) × (List UInt64)) → Option ((List UInt64) × UInt64) := hide b50
noncomputable def hd50 : Hd := ⟨[.d (.arr 4 (.int .u64)), .d (.arr 4 (.int .u64))], [.d (.arr 4 (.int .u64)), .d (.int .u64)], m50⟩
/-! entail/entailref12.half -/
noncomputable def c78 : Code := ((Try.f78).body).getD .skip
def h78_0 : Sh := ⟨[.d (.int .u64), .d (.bool), .d (.arr 4 (.int .u64)), .d (.arr 4 (.int .u64)), .d (.arr 4 (.int .u64))], [5, 9], [(2, [.arr 4 (.int .u64)]), (3, [.arr 4 (.int .u64)]), (4, [.arr 4 (.int .u64)])], [], []⟩
def o78_0 : Outs := ⟨⟨[.d (.int .u64), .d (.arr 4 (.int .u64)), .d (.arr 4 (.int .u64))], [5], [(2, [.arr 4 (.int .u64)]), (4, [.arr 4 (.int .u64)])], [], []⟩, 0, ⟨[], [], [], [], []⟩, ⟨[], [], [], [], []⟩⟩
noncomputable def a78_0 (d : UInt64 × Bool × (List UInt64) × (List UInt64) × (List UInt64)) : Option (O3 (UInt64 × (List UInt64) × (List UInt64)) (Unit) (Unit)) :=
  cnd d.2.1
   (bnd (m50 (d.2.2.1, d.2.2.2.1)) fun y_3 =>
   some (.n (y_3.2, y_3.1, d.2.2.2.2)))
   (some (.n (d.1, d.2.2.1, d.2.2.2.2)))
noncomputable def l78_0 : (UInt64 × Bool × (List UInt64) × (List UInt64) × (List UInt64)) → Option (O3 (UInt64 × (List UInt64) × (List UInt64)) (Unit) (Unit)) := hide a78_0
noncomputable def u78_0 : UH := unit (env 44 [(50, hd50)]) h78_0 o78_0 l78_0
noncomputable def b78 (d : (List UInt64) × (List UInt64)) : Option ((List UInt64)) :=
  let t7_1 : UInt64 := (List.getD d.1 0 (0 : UInt64))
  let t8_2 : UInt64 := (t7_1 % (2 : UInt64))
  bnd (l78_0 ((0 : UInt64), (decide (t8_2 = (1 : UInt64))), d.1, d.2, (List.replicate 4 (0 : UInt64)))) fun o => (match o with
   | .n o => (let t17_4 : UInt64 := (List.getD o.2.1 0 (0 : UInt64))
   let t18_5 : UInt64 := (shrK .u64 t17_4 1)
   let t20_6 : UInt64 := (List.getD o.2.1 1 (0 : UInt64))
   guard (decide (0 ≤ (63 : Int)) && inR .u64 ((t20_6.toNat : Int) * 2 ^ min 63 (IntKind.bits .u64))) <|
   let t21_7 : UInt64 := (shlK .u64 t20_6 63)
   let t22_8 : UInt64 := (orK .u64 t18_5 t21_7)
   let t24_9 : UInt64 := (List.getD o.2.1 1 (0 : UInt64))
   let t25_10 : UInt64 := (shrK .u64 t24_9 1)
   let t27_11 : UInt64 := (List.getD o.2.1 2 (0 : UInt64))
   guard (decide (0 ≤ (63 : Int)) && inR .u64 ((t27_11.toNat : Int) * 2 ^ min 63 (IntKind.bits .u64))) <|
   let t28_12 : UInt64 := (shlK .u64 t27_11 63)
   let t29_13 : UInt64 := (orK .u64 t25_10 t28_12)
   let t31_14 : UInt64 := (List.getD o.2.1 2 (0 : UInt64))
   let t32_15 : UInt64 := (shrK .u64 t31_14 1)
   let t34_16 : UInt64 := (List.getD o.2.1 3 (0 : UInt64))
   guard (decide (0 ≤ (63 : Int)) && inR .u64 ((t34_16.toNat : Int) * 2 ^ min 63 (IntKind.bits .u64))) <|
   let t35_17 : UInt64 := (shlK .u64 t34_16 63)
   let t36_18 : UInt64 := (orK .u64 t32_15 t35_17)
   let t38_19 : UInt64 := (List.getD o.2.1 3 (0 : UInt64))
   let t39_20 : UInt64 := (shrK .u64 t38_19 1)
   guard (decide (0 ≤ (63 : Int)) && inR .u64 ((o.1.toNat : Int) * 2 ^ min 63 (IntKind.bits .u64))) <|
   let t41_21 : UInt64 := (shlK .u64 o.1 63)
   let t42_22 : UInt64 := (orK .u64 t39_20 t41_21)
   let t43_23 : List UInt64 := [t22_8, t29_13, t36_18, t42_22]
   some t43_23)
   | .x _o => none
   | .r _o => none)
noncomputable def m78 : ((List UInt64) × (List UInt64)) → Option ((List UInt64)) := hide b78
noncomputable def hd78 : Hd := ⟨[.d (.arr 4 (.int .u64)), .d (.arr 4 (.int .u64))], [.d (.arr 4 (.int .u64))], m78⟩
/-! entail/entailref12.Inverse -/
noncomputable def c54 : Code := ((Try.f54).body).getD .skip
def h54_5 : Sh := ⟨[.d (.int .i64), .d (.bool), .d (.arr 4 (.int .u64)), .d (.arr 4 (.int .u64)), .d (.arr 4 (.int .u64)), .d (.arr 4 (.int .u64)), .d (.arr 4 (.int .u64)), .d (.arr 4 (.int .u64)), .d (.arr 4 (.int .u64))], [9, 48], [(3, [.arr 4 (.int .u64)]), (4, [.arr 4 (.int .u64)]), (5, [.arr 4 (.int .u64)]), (6, [.arr 4 (.int .u64)]), (7, [.arr 4 (.int .u64)]), (8, [.arr 4 (.int .u64)]), (10, [.arr 4 (.int .u64)])], [], []⟩
def o54_5 : Outs := ⟨⟨[.d (.int .i64), .d (.arr 4 (.int .u64)), .d (.arr 4 (.int .u64)), .d (.arr 4 (.int .u64)), .d (.arr 4 (.int .u64)), .d (.arr 4 (.int .u64)), .d (.arr 4 (.int .u64)), .d (.arr 4 (.int .u64))], [9], [(3, [.arr 4 (.int .u64)]), (4, [.arr 4 (.int .u64)]), (5, [.arr 4 (.int .u64)]), (6, [.arr 4 (.int .u64)]), (7, [.arr 4 (.int .u64)]), (8, [.arr 4 (.int .u64)]), (10, [.arr 4 (.int .u64)])], [], []⟩, 0, ⟨[], [], [], [], []⟩, ⟨[], [], [], [], []⟩⟩
noncomputable def a54_5 (d : Int × Bool × (List UInt64) × (List UInt64) × (List UInt64) × (List UInt64) × (List UInt64) × (List UInt64) × (List UInt64)) : Option (O3 (Int × (List UInt64) × (List UInt64) × (List UInt64) × (List UInt64) × (List UInt64) × (List UInt64) × (List UInt64)) (Unit) (Unit)) :=
  cnd d.2.1
   (bnd (m47 (d.2.2.2.2.2.1, d.2.2.2.2.1)) fun y_13 =>
   some (.n (d.1, d.2.2.1, d.2.2.2.1, d.2.2.2.2.1, d.2.2.2.2.1, d.2.2.2.2.2.2.2.1, d.2.2.2.2.2.2.1, y_13.1)))
   (some (.n (d.1, d.2.2.1, d.2.2.2.1, d.2.2.2.2.1, d.2.2.2.2.2.1, d.2.2.2.2.2.2.1, d.2.2.2.2.2.2.2.1, d.2.2.2.2.2.2.2.2)))
noncomputable def l54_5 : (Int × Bool × (List UInt64) × (List UInt64) × (List UInt64) × (List UInt64) × (List UInt64) × (List UInt64) × (List UInt64)) → Option (O3 (Int × (List UInt64) × (List UInt64) × (List UInt64) × (List UInt64) × (List UInt64) × (List UInt64) × (List UInt64)) (Unit) (Unit)) := hide a54_5
noncomputable def u54_5 : UH := unit (env 75 [(47, hd47), (50, hd50), (78, hd78)]) h54_5 o54_5 l54_5
def h54_2 : Sh := ⟨[.d (.int .i64), .d (.arr 4 (.int .u64)), .d (.arr 4 (.int .u64)), .d (.arr 4 (.int .u64)), .d (.arr 4 (.int .u64)), .d (.arr 4 (.int .u64)), .d (.arr 4 (.int .u64))], [9], [(3, [.arr 4 (.int .u64)]), (4, [.arr 4 (.int .u64)]), (5, [.arr 4 (.int .u64)]), (6, [.arr 4 (.int .u64)]), (7, [.arr 4 (.int .u64)]), (8, [.arr 4 (.int .u64)])], [], []⟩
def o54_2 : Outs := ⟨⟨[], [], [], [], []⟩, 0, ⟨[.d (.arr 4 (.int .u64)), .d (.arr 4 (.int .u64))], [], [(4, [.arr 4 (.int .u64)]), (8, [.arr 4 (.int .u64)])], [], []⟩, ⟨[], [], [], [], []⟩⟩
noncomputable def k54_2 (f : Int × (List UInt64) × (List UInt64) × (List UInt64) × (List UInt64) × (List UInt64) × (List UInt64) → Option (O3 (Unit) ((List UInt64) × (List UInt64)) (Unit))) (d : Int × (List UInt64) × (List UInt64) × (List UInt64) × (List UInt64) × (List UInt64) × (List UInt64)) : Option (O3 (Unit) ((List UInt64) × (List UInt64)) (Unit)) :=
  cnd (decide (d.1 < (1100 : Int)))
   (let t26_6 : List UInt64 := [(0 : UInt64), (0 : UInt64), (0 : UInt64), (0 : UInt64)]
   cnd (!(eqD (.arr 4 (.int .u64)) d.2.2.2.1 t26_6))
    (let t32_7 : UInt64 := (List.getD d.2.2.2.1 0 (0 : UInt64))
    let t33_8 : UInt64 := (t32_7 % (2 : UInt64))
    cnd (decide (t33_8 = (0 : UInt64)))
     (bnd (m78 (d.2.2.2.1, d.2.1)) fun y_9 =>
     bnd (m78 (d.2.2.2.2.2.1, d.2.1)) fun y_10 =>
     guard (inR .i64 (d.1 + (1 : Int))) <|
     let t30_11 : Int := (d.1 + (1 : Int))
     f (t30_11, d.2.1, d.2.2.1, y_9, d.2.2.2.2.1, y_10, d.2.2.2.2.2.2))
     (bnd (m47 (d.2.2.2.1, d.2.2.2.2.1)) fun y_12 =>
     bnd (l54_5 (d.1, (decide (y_12.2 = (1 : UInt64))), d.2.1, d.2.2.1, d.2.2.2.1, d.2.2.2.2.1, d.2.2.2.2.2.1, d.2.2.2.2.2.2, y_12.1)) fun o => (match o with
      | .n o => (bnd (m47 (o.2.2.2.2.2.1, o.2.2.2.2.2.2.1)) fun y_14 =>
      cnd (decide (y_14.2 = (1 : UInt64)))
       (bnd (m50 (y_14.1, o.2.1)) fun y_15 =>
       guard (inR .i64 (o.1 + (1 : Int))) <|
       let t30_16 : Int := (o.1 + (1 : Int))
       f (t30_16, o.2.1, o.2.2.1, o.2.2.2.2.2.2.2, o.2.2.2.2.1, y_15.1, o.2.2.2.2.2.2.1))
       (guard (inR .i64 (o.1 + (1 : Int))) <|
       let t30_17 : Int := (o.1 + (1 : Int))
       f (t30_17, o.2.1, o.2.2.1, o.2.2.2.2.2.2.2, o.2.2.2.2.1, y_14.1, o.2.2.2.2.2.2.1)))
      | .x _o => none
      | .r _o => (some (.r ())))))
    (some (.x (d.2.2.1, d.2.2.2.2.2.2))))
   (some (.x (d.2.2.1, d.2.2.2.2.2.2)))
noncomputable def l54_2 : Int × (List UInt64) × (List UInt64) × (List UInt64) × (List UInt64) × (List UInt64) × (List UInt64) → Option (O3 (Unit) ((List UInt64) × (List UInt64)) (Unit)) := itN k54_2 fuel
noncomputable def u54_2 : UH := unit (env 75 [(47, hd47), (50, hd50), (78, hd78)]) h54_2 o54_2 l54_2
def h54_1 : Sh := ⟨[.d (.arr 4 (.int .u64)), .d (.arr 4 (.int .u64)), .d (.arr 4 (.int .u64))], [], [(2, [.arr 4 (.int .u64)]), (3, [.arr 4 (.int .u64)]), (4, [.arr 4 (.int .u64)])], [], []⟩
def o54_1 : Outs := ⟨⟨[.d (.arr 4 (.int .u64)), .d (.arr 4 (.int .u64)), .d (.arr 4 (.int .u64)), .d (.arr 4 (.int .u64))], [], [(3, [.arr 4 (.int .u64)]), (4, [.arr 4 (.int .u64)]), (5, [.arr 4 (.int .u64)]), (6, [.arr 4 (.int .u64)])], [], []⟩, 0, ⟨[], [], [], [], []⟩, ⟨[], [], [], [], []⟩⟩
def p54_1 : Plan := (.op 0 (.op 1 (.alt (.op 2 (.op 3 (.op 4 (.op 5 .fin)))) (.op 3 (.op 2 (.op 4 (.op 5 .fin)))))))
noncomputable def a54_1 (d : (List UInt64) × (List UInt64) × (List UInt64)) : Option (O3 ((List UInt64) × (List UInt64) × (List UInt64) × (List UInt64)) (Unit) (Unit)) :=
  some (.n (d.2.1, d.2.2, d.1, d.2.1))
noncomputable def l54_1 : ((List UInt64) × (List UInt64) × (List UInt64)) → Option (O3 ((List UInt64) × (List UInt64) × (List UInt64) × (List UInt64)) (Unit) (Unit)) := hide a54_1
noncomputable def g54_1 (d : (List UInt64) × (List UInt64) × (List UInt64)) : Option (List (O3 ((List UInt64) × (List UInt64) × (List UInt64) × (List UInt64)) (Unit) (Unit))) :=
  bnd
   (some [.n (d.2.1, d.2.2, d.1, d.2.1)]) fun x_2 =>
  bnd
   (some [.n (d.2.1, d.2.2, d.1, d.2.1)]) fun x_3 =>
  some (x_2 ++ x_3)
noncomputable def u54_1 : UH := unit (env 75 [(47, hd47), (50, hd50), (78, hd78)]) h54_1 o54_1 l54_1
noncomputable def b54 (d : (List UInt64) × (List UInt64)) : Option ((List UInt64)) :=
  let t15_1 : List UInt64 := [(0 : UInt64), (0 : UInt64), (0 : UInt64), (0 : UInt64)]
  cnd (eqD (.arr 4 (.int .u64)) d.1 t15_1)
   (some d.1)
   (bnd (l54_1 (d.1, d.2, (List.replicate 4 (0 : UInt64)))) fun o => (match o with
    | .n o => (let t20_4 : List UInt64 := [(1 : UInt64), (0 : UInt64), (0 : UInt64), (0 : UInt64)]
    let t21_5 : List UInt64 := [(0 : UInt64), (0 : UInt64), (0 : UInt64), (0 : UInt64)]
    bnd (l54_2 ((0 : Int), o.1, o.2.1, o.2.2.1, o.2.2.2, t20_4, t21_5)) fun o => (match o with
     | .n _o => none
     | .x o => (some o.2)
     | .r _o => none))
    | .x _o => none
    | .r _o => none))
noncomputable def m54 : ((List UInt64) × (List UInt64)) → Option ((List UInt64)) := hide b54
noncomputable def hd54 : Hd := ⟨[.d (.arr 4 (.int .u64)), .d (.arr 4 (.int .u64))], [.d (.arr 4 (.int .u64))], m54⟩
/-! entail/scalar.Order -/
noncomputable def c15 : Code := ((Try.f15).body).getD .skip
noncomputable def b15 (_d : Unit) : Option ((List UInt64)) :=
  let t1_1 : List UInt64 := [(13822214165235122497 : UInt64), (13451932020343611451 : UInt64), (18446744073709551614 : UInt64), (18446744073709551615 : UInt64)]
  some t1_1
noncomputable def m15 : Unit → Option ((List UInt64)) := hide b15
noncomputable def hd15 : Hd := ⟨[], [.d (.arr 4 (.int .u64))], m15⟩
/-! entail/entailref13.Order -/
noncomputable def c16 : Code := ((Try.f16).body).getD .skip
noncomputable def b16 (_d : Unit) : Option ((List UInt64)) :=
  let t1_1 : List UInt64 := [(13822214165235122497 : UInt64), (13451932020343611451 : UInt64), (18446744073709551614 : UInt64), (18446744073709551615 : UInt64)]
  some t1_1
noncomputable def m16 : Unit → Option ((List UInt64)) := hide b16
noncomputable def hd16 : Hd := ⟨[], [.d (.arr 4 (.int .u64))], m16⟩
/-! entail/scalar.Reduce -/
noncomputable def c17 : Code := ((Try.f17).body).getD .skip
def h17_0 : Sh := ⟨[.d (.arr 4 (.int .u64)), .d (.arr 4 (.int .u64))], [], [(1, [.arr 4 (.int .u64)]), (2, [.arr 4 (.int .u64)])], [], []⟩
def o17_0 : Outs := ⟨⟨[.d (.int .u64), .d (.arr 4 (.int .u64)), .d (.arr 4 (.int .u64)), .d (.arr 4 (.int .u64))], [4], [(1, [.arr 4 (.int .u64)]), (2, [.arr 4 (.int .u64)]), (3, [.arr 4 (.int .u64)])], [], []⟩, 0, ⟨[], [], [], [], []⟩, ⟨[], [], [], [], []⟩⟩
def p17_0 : Plan := (.op 0 (.alt (.op 1 (.alt (.op 2 (.op 3 (.op 4 (.op 5 (.op 6 (.op 7 (.op 8 .fin))))))) (.op 6 (.op 2 (.op 3 (.op 4 (.op 5 (.op 7 (.op 8 .fin))))))))) (.op 6 (.op 1 (.op 2 (.op 3 (.op 4 (.op 5 (.op 7 (.op 8 .fin))))))))))
noncomputable def a17_0 (d : (List UInt64) × (List UInt64)) : Option (O3 (UInt64 × (List UInt64) × (List UInt64) × (List UInt64)) (Unit) (Unit)) :=
  bnd (m15 ()) fun y_1 =>
  bnd (fSub (d.1, y_1)) fun y_2 =>
  some (.n (y_2.2, d.1, d.2, y_2.1))
noncomputable def l17_0 : ((List UInt64) × (List UInt64)) → Option (O3 (UInt64 × (List UInt64) × (List UInt64) × (List UInt64)) (Unit) (Unit)) := hide a17_0
noncomputable def g17_0 (d : (List UInt64) × (List UInt64)) : Option (List (O3 (UInt64 × (List UInt64) × (List UInt64) × (List UInt64)) (Unit) (Unit))) :=
  bnd
   (bnd (m15 ()) fun y_4 =>
   bnd
    (bnd (fSub (d.1, y_4)) fun y_6 =>
    some [.n (y_6.2, d.1, d.2, y_6.1)]) fun x_5 =>
   bnd
    (bnd (fSub (d.1, y_4)) fun y_7 =>
    some [.n (y_7.2, d.1, d.2, y_7.1)]) fun x_8 =>
   some (x_5 ++ x_8)) fun x_3 =>
  bnd
   (bnd (m15 ()) fun y_9 =>
   bnd (fSub (d.1, y_9)) fun y_10 =>
   some [.n (y_10.2, d.1, d.2, y_10.1)]) fun x_11 =>
  some (x_3 ++ x_11)
noncomputable def u17_0 : UH := unit (env 15 [(15, hd15), (43, hd43)]) h17_0 o17_0 l17_0
noncomputable def b17 (d : (List UInt64)) : Option ((List UInt64)) :=
  bnd (l17_0 (d, (List.replicate 4 (0 : UInt64)))) fun o => (match o with
   | .n o => (cnd (decide (o.1 = (1 : UInt64)))
    (some o.2.1)
    (some o.2.2.2))
   | .x _o => none
   | .r _o => none)
noncomputable def m17 : (List UInt64) → Option ((List UInt64)) := hide b17
noncomputable def hd17 : Hd := ⟨[.d (.arr 4 (.int .u64))], [.d (.arr 4 (.int .u64))], m17⟩
/-! entail/entailref13.Reduce -/
noncomputable def c18 : Code := ((Try.f18).body).getD .skip
def h18_0 : Sh := ⟨[.d (.arr 4 (.int .u64)), .d (.arr 4 (.int .u64))], [], [(1, [.arr 4 (.int .u64)]), (2, [.arr 4 (.int .u64)])], [], []⟩
def o18_0 : Outs := ⟨⟨[.d (.int .u64), .d (.arr 4 (.int .u64)), .d (.arr 4 (.int .u64)), .d (.arr 4 (.int .u64))], [4], [(1, [.arr 4 (.int .u64)]), (2, [.arr 4 (.int .u64)]), (3, [.arr 4 (.int .u64)])], [], []⟩, 0, ⟨[], [], [], [], []⟩, ⟨[], [], [], [], []⟩⟩
def p18_0 : Plan := (.op 0 (.alt (.op 1 (.alt (.op 2 (.op 3 (.op 4 (.op 5 (.op 6 (.op 7 (.op 8 .fin))))))) (.op 6 (.op 2 (.op 3 (.op 4 (.op 5 (.op 7 (.op 8 .fin))))))))) (.op 6 (.op 1 (.op 2 (.op 3 (.op 4 (.op 5 (.op 7 (.op 8 .fin))))))))))
noncomputable def a18_0 (d : (List UInt64) × (List UInt64)) : Option (O3 (UInt64 × (List UInt64) × (List UInt64) × (List UInt64)) (Unit) (Unit)) :=
  bnd (m16 ()) fun y_1 =>
  bnd (m47 (d.1, y_1)) fun y_2 =>
  some (.n (y_2.2, d.1, d.2, y_2.1))
noncomputable def l18_0 : ((List UInt64) × (List UInt64)) → Option (O3 (UInt64 × (List UInt64) × (List UInt64) × (List UInt64)) (Unit) (Unit)) := hide a18_0
noncomputable def g18_0 (d : (List UInt64) × (List UInt64)) : Option (List (O3 (UInt64 × (List UInt64) × (List UInt64) × (List UInt64)) (Unit) (Unit))) :=
  bnd
   (bnd (m16 ()) fun y_4 =>
   bnd
    (bnd (m47 (d.1, y_4)) fun y_6 =>
    some [.n (y_6.2, d.1, d.2, y_6.1)]) fun x_5 =>
   bnd
    (bnd (m47 (d.1, y_4)) fun y_7 =>
    some [.n (y_7.2, d.1, d.2, y_7.1)]) fun x_8 =>
   some (x_5 ++ x_8)) fun x_3 =>
  bnd
   (bnd (m16 ()) fun y_9 =>
   bnd (m47 (d.1, y_9)) fun y_10 =>
   some [.n (y_10.2, d.1, d.2, y_10.1)]) fun x_11 =>
  some (x_3 ++ x_11)
noncomputable def u18_0 : UH := unit (env 15 [(16, hd16), (47, hd47)]) h18_0 o18_0 l18_0
noncomputable def b18 (d : (List UInt64)) : Option ((List UInt64)) :=
  bnd (l18_0 (d, (List.replicate 4 (0 : UInt64)))) fun o => (match o with
   | .n o => (cnd (decide (o.1 = (1 : UInt64)))
    (some o.2.1)
    (some o.2.2.2))
   | .x _o => none
   | .r _o => none)
noncomputable def m18 : (List UInt64) → Option ((List UInt64)) := hide b18
noncomputable def hd18 : Hd := ⟨[.d (.arr 4 (.int .u64))], [.d (.arr 4 (.int .u64))], m18⟩
/-! entail/scalar.left -/
noncomputable def c48 : Code := ((Try.f48).body).getD .skip
def h48_0 : Sh := ⟨[.d (.arr 4 (.int .u64)), .d (.arr 4 (.int .u64)), .d (.arr 4 (.int .u64))], [], [(2, [.arr 4 (.int .u64)]), (3, [.arr 4 (.int .u64)]), (4, [.arr 4 (.int .u64)])], [], []⟩
def o48_0 : Outs := ⟨⟨[.d (.arr 4 (.int .u64)), .d (.arr 4 (.int .u64))], [], [(4, [.arr 4 (.int .u64)]), (5, [.arr 4 (.int .u64)])], [], []⟩, 0, ⟨[], [], [], [], []⟩, ⟨[], [], [], [], []⟩⟩
def p48_0 : Plan := (.op 0 (.op 1 (.alt (.op 2 (.alt (.op 3 (.op 4 (.op 5 (.op 6 (.op 7 (.op 8 (.op 9 .fin))))))) (.op 7 (.op 3 (.op 4 (.op 5 (.op 6 (.op 8 (.op 9 .fin))))))))) (.op 7 (.op 2 (.op 3 (.op 4 (.op 5 (.op 6 (.op 8 (.op 9 .fin)))))))))))
noncomputable def a48_0 (d : (List UInt64) × (List UInt64) × (List UInt64)) : Option (O3 ((List UInt64) × (List UInt64)) (Unit) (Unit)) :=
  bnd (m15 ()) fun y_1 =>
  bnd (m71 (d.2.1, d.1, y_1)) fun y_2 =>
  some (.n (d.2.2, y_2.1))
noncomputable def l48_0 : ((List UInt64) × (List UInt64) × (List UInt64)) → Option (O3 ((List UInt64) × (List UInt64)) (Unit) (Unit)) := hide a48_0
noncomputable def g48_0 (d : (List UInt64) × (List UInt64) × (List UInt64)) : Option (List (O3 ((List UInt64) × (List UInt64)) (Unit) (Unit))) :=
  bnd
   (bnd (m15 ()) fun y_4 =>
   bnd
    (bnd (m71 (d.2.1, d.1, y_4)) fun y_6 =>
    some [.n (d.2.2, y_6.1)]) fun x_5 =>
   bnd
    (bnd (m71 (d.2.1, d.1, y_4)) fun y_7 =>
    some [.n (d.2.2, y_7.1)]) fun x_8 =>
   some (x_5 ++ x_8)) fun x_3 =>
  bnd
   (bnd (m15 ()) fun y_9 =>
   bnd (m71 (d.2.1, d.1, y_9)) fun y_10 =>
   some [.n (d.2.2, y_10.1)]) fun x_11 =>
  some (x_3 ++ x_11)
noncomputable def u48_0 : UH := unit (env 15 [(15, hd15), (71, hd71)]) h48_0 o48_0 l48_0
noncomputable def b48 (d : (List UInt64) × (List UInt64)) : Option ((List UInt64)) :=
  bnd (l48_0 (d.1, d.2, (List.replicate 4 (0 : UInt64)))) fun o => (match o with
   | .n o => (some o.2)
   | .x _o => none
   | .r _o => none)
noncomputable def m48 : ((List UInt64) × (List UInt64)) → Option ((List UInt64)) := hide b48
noncomputable def hd48 : Hd := ⟨[.d (.arr 4 (.int .u64)), .d (.arr 4 (.int .u64))], [.d (.arr 4 (.int .u64))], m48⟩
/-! entail/scalar.Add -/
noncomputable def c19 : Code := ((Try.f19).body).getD .skip
noncomputable def b19 (d : (List UInt64) × (List UInt64)) : Option ((List UInt64)) :=
  bnd (fAdd (d.1, d.2)) fun y_1 =>
  bnd (fFrom y_1.2) fun y_2 =>
  bnd (m48 (y_1.1, y_2)) fun y_3 =>
  some y_3
noncomputable def m19 : ((List UInt64) × (List UInt64)) → Option ((List UInt64)) := hide b19
noncomputable def hd19 : Hd := ⟨[.d (.arr 4 (.int .u64)), .d (.arr 4 (.int .u64))], [.d (.arr 4 (.int .u64))], m19⟩
/-! entail/entailref13.Add -/
noncomputable def c20 : Code := ((Try.f20).body).getD .skip
def h20_1 : Sh := ⟨[.d (.int .u64), .d (.arr 4 (.int .u64)), .d (.arr 4 (.int .u64))], [6], [(4, [.arr 4 (.int .u64)]), (5, [.arr 4 (.int .u64)])], [], []⟩
def o20_1 : Outs := ⟨⟨[.d (.int .u64), .d (.int .u64), .d (.arr 4 (.int .u64)), .d (.arr 4 (.int .u64)), .d (.arr 4 (.int .u64))], [6, 8], [(4, [.arr 4 (.int .u64)]), (5, [.arr 4 (.int .u64)]), (7, [.arr 4 (.int .u64)])], [], []⟩, 0, ⟨[], [], [], [], []⟩, ⟨[], [], [], [], []⟩⟩
def p20_1 : Plan := (.op 0 (.alt (.op 1 (.alt (.op 2 (.op 3 (.op 4 (.op 5 (.op 6 (.op 7 (.op 8 .fin))))))) (.op 6 (.op 2 (.op 3 (.op 4 (.op 5 (.op 7 (.op 8 .fin))))))))) (.op 6 (.op 1 (.op 2 (.op 3 (.op 4 (.op 5 (.op 7 (.op 8 .fin))))))))))
noncomputable def a20_1 (d : UInt64 × (List UInt64) × (List UInt64)) : Option (O3 (UInt64 × UInt64 × (List UInt64) × (List UInt64) × (List UInt64)) (Unit) (Unit)) :=
  bnd (m16 ()) fun y_19 =>
  bnd (m47 (d.2.2, y_19)) fun y_20 =>
  some (.n (d.1, y_20.2, d.2.1, d.2.2, y_20.1))
noncomputable def l20_1 : (UInt64 × (List UInt64) × (List UInt64)) → Option (O3 (UInt64 × UInt64 × (List UInt64) × (List UInt64) × (List UInt64)) (Unit) (Unit)) := hide a20_1
noncomputable def g20_1 (d : UInt64 × (List UInt64) × (List UInt64)) : Option (List (O3 (UInt64 × UInt64 × (List UInt64) × (List UInt64) × (List UInt64)) (Unit) (Unit))) :=
  bnd
   (bnd (m16 ()) fun y_22 =>
   bnd
    (bnd (m47 (d.2.2, y_22)) fun y_24 =>
    some [.n (d.1, y_24.2, d.2.1, d.2.2, y_24.1)]) fun x_23 =>
   bnd
    (bnd (m47 (d.2.2, y_22)) fun y_25 =>
    some [.n (d.1, y_25.2, d.2.1, d.2.2, y_25.1)]) fun x_26 =>
   some (x_23 ++ x_26)) fun x_21 =>
  bnd
   (bnd (m16 ()) fun y_27 =>
   bnd (m47 (d.2.2, y_27)) fun y_28 =>
   some [.n (d.1, y_28.2, d.2.1, d.2.2, y_28.1)]) fun x_29 =>
  some (x_21 ++ x_29)
noncomputable def u20_1 : UH := unit (env 31 [(16, hd16), (18, hd18), (47, hd47), (50, hd50)]) h20_1 o20_1 l20_1
def h20_0 : Sh := ⟨[.d (.arr 4 (.int .u64)), .d (.arr 4 (.int .u64)), .d (.arr 4 (.int .u64))], [], [(2, [.arr 4 (.int .u64)]), (3, [.arr 4 (.int .u64)]), (4, [.arr 4 (.int .u64)])], [], []⟩
def o20_0 : Outs := ⟨⟨[.d (.int .u64), .d (.arr 4 (.int .u64)), .d (.arr 4 (.int .u64))], [6], [(4, [.arr 4 (.int .u64)]), (5, [.arr 4 (.int .u64)])], [], []⟩, 0, ⟨[], [], [], [], []⟩, ⟨[], [], [], [], []⟩⟩
def p20_0 : Plan := (.op 0 (.op 2 (.alt (.op 1 (.alt (.op 3 (.alt (.op 4 (.op 5 (.op 6 (.op 7 (.op 8 (.op 9 (.op 10 .fin))))))) (.op 8 (.op 4 (.op 5 (.op 6 (.op 7 (.op 9 (.op 10 .fin))))))))) (.op 8 (.op 3 (.op 4 (.op 5 (.op 6 (.op 7 (.op 9 (.op 10 .fin)))))))))) (.op 8 (.op 1 (.op 3 (.op 4 (.op 5 (.op 6 (.op 7 (.op 9 (.op 10 .fin))))))))))))
noncomputable def a20_0 (d : (List UInt64) × (List UInt64) × (List UInt64)) : Option (O3 (UInt64 × (List UInt64) × (List UInt64)) (Unit) (Unit)) :=
  bnd (m18 d.1) fun y_1 =>
  bnd (m18 d.2.1) fun y_2 =>
  bnd (m50 (y_1, y_2)) fun y_3 =>
  some (.n (y_3.2, d.2.2, y_3.1))
noncomputable def l20_0 : ((List UInt64) × (List UInt64) × (List UInt64)) → Option (O3 (UInt64 × (List UInt64) × (List UInt64)) (Unit) (Unit)) := hide a20_0
noncomputable def g20_0 (d : (List UInt64) × (List UInt64) × (List UInt64)) : Option (List (O3 (UInt64 × (List UInt64) × (List UInt64)) (Unit) (Unit))) :=
  bnd
   (bnd (m18 d.1) fun y_5 =>
   bnd
    (bnd (m18 d.2.1) fun y_7 =>
    bnd
     (bnd (m50 (y_5, y_7)) fun y_9 =>
     some [.n (y_9.2, d.2.2, y_9.1)]) fun x_8 =>
    bnd
     (bnd (m50 (y_5, y_7)) fun y_10 =>
     some [.n (y_10.2, d.2.2, y_10.1)]) fun x_11 =>
    some (x_8 ++ x_11)) fun x_6 =>
   bnd
    (bnd (m18 d.2.1) fun y_12 =>
    bnd (m50 (y_5, y_12)) fun y_13 =>
    some [.n (y_13.2, d.2.2, y_13.1)]) fun x_14 =>
   some (x_6 ++ x_14)) fun x_4 =>
  bnd
   (bnd (m18 d.1) fun y_15 =>
   bnd (m18 d.2.1) fun y_16 =>
   bnd (m50 (y_15, y_16)) fun y_17 =>
   some [.n (y_17.2, d.2.2, y_17.1)]) fun x_18 =>
  some (x_4 ++ x_18)
noncomputable def u20_0 : UH := unit (env 31 [(16, hd16), (18, hd18), (47, hd47), (50, hd50)]) h20_0 o20_0 l20_0
noncomputable def b20 (d : (List UInt64) × (List UInt64)) : Option ((List UInt64)) :=
  bnd (l20_0 (d.1, d.2, (List.replicate 4 (0 : UInt64)))) fun o => (match o with
   | .n o => (bnd (l20_1 (o.1, o.2.1, o.2.2)) fun o => (match o with
    | .n o => (cnd (decide (o.1 = (1 : UInt64)))
     (some o.2.2.2.2)
     (cnd (decide (o.2.1 = (0 : UInt64)))
      (some o.2.2.2.2)
      (some o.2.2.2.1)))
    | .x _o => none
    | .r _o => none))
   | .x _o => none
   | .r _o => none)
noncomputable def m20 : ((List UInt64) × (List UInt64)) → Option ((List UInt64)) := hide b20
noncomputable def hd20 : Hd := ⟨[.d (.arr 4 (.int .u64)), .d (.arr 4 (.int .u64))], [.d (.arr 4 (.int .u64))], m20⟩
/-! entail/scalar.Neg -/
noncomputable def c21 : Code := ((Try.f21).body).getD .skip
def h21_0 : Sh := ⟨[.d (.arr 4 (.int .u64)), .d (.arr 4 (.int .u64))], [], [(1, [.arr 4 (.int .u64)]), (2, [.arr 4 (.int .u64)])], [], []⟩
def o21_0 : Outs := ⟨⟨[.d (.arr 4 (.int .u64)), .d (.arr 4 (.int .u64))], [], [(2, [.arr 4 (.int .u64)]), (3, [.arr 4 (.int .u64)])], [], []⟩, 0, ⟨[], [], [], [], []⟩, ⟨[], [], [], [], []⟩⟩
def p21_0 : Plan := (.op 1 (.alt (.op 0 (.alt (.op 2 (.alt (.op 3 (.op 4 (.op 5 (.op 6 (.op 7 (.op 8 (.op 9 .fin))))))) (.op 7 (.op 3 (.op 4 (.op 5 (.op 6 (.op 8 (.op 9 .fin))))))))) (.op 7 (.op 2 (.op 3 (.op 4 (.op 5 (.op 6 (.op 8 (.op 9 .fin)))))))))) (.op 7 (.op 0 (.op 2 (.op 3 (.op 4 (.op 5 (.op 6 (.op 8 (.op 9 .fin)))))))))))
noncomputable def a21_0 (d : (List UInt64) × (List UInt64)) : Option (O3 ((List UInt64) × (List UInt64)) (Unit) (Unit)) :=
  bnd (m15 ()) fun y_1 =>
  bnd (m17 d.1) fun y_2 =>
  bnd (fSub (y_1, y_2)) fun y_3 =>
  some (.n (d.2, y_3.1))
noncomputable def l21_0 : ((List UInt64) × (List UInt64)) → Option (O3 ((List UInt64) × (List UInt64)) (Unit) (Unit)) := hide a21_0
noncomputable def g21_0 (d : (List UInt64) × (List UInt64)) : Option (List (O3 ((List UInt64) × (List UInt64)) (Unit) (Unit))) :=
  bnd
   (bnd (m15 ()) fun y_5 =>
   bnd
    (bnd (m17 d.1) fun y_7 =>
    bnd
     (bnd (fSub (y_5, y_7)) fun y_9 =>
     some [.n (d.2, y_9.1)]) fun x_8 =>
    bnd
     (bnd (fSub (y_5, y_7)) fun y_10 =>
     some [.n (d.2, y_10.1)]) fun x_11 =>
    some (x_8 ++ x_11)) fun x_6 =>
   bnd
    (bnd (m17 d.1) fun y_12 =>
    bnd (fSub (y_5, y_12)) fun y_13 =>
    some [.n (d.2, y_13.1)]) fun x_14 =>
   some (x_6 ++ x_14)) fun x_4 =>
  bnd
   (bnd (m15 ()) fun y_15 =>
   bnd (m17 d.1) fun y_16 =>
   bnd (fSub (y_15, y_16)) fun y_17 =>
   some [.n (d.2, y_17.1)]) fun x_18 =>
  some (x_4 ++ x_18)
noncomputable def u21_0 : UH := unit (env 14 [(15, hd15), (17, hd17), (43, hd43)]) h21_0 o21_0 l21_0
noncomputable def b21 (d : (List UInt64)) : Option ((List UInt64)) :=
  bnd (l21_0 (d, (List.replicate 4 (0 : UInt64)))) fun o => (match o with
   | .n o => (bnd (m17 o.2) fun y_19 =>
   some y_19)
   | .x _o => none
   | .r _o => none)
noncomputable def m21 : (List UInt64) → Option ((List UInt64)) := hide b21
noncomputable def hd21 : Hd := ⟨[.d (.arr 4 (.int .u64))], [.d (.arr 4 (.int .u64))], m21⟩
/-! entail/entailref13.Neg -/
noncomputable def c22 : Code := ((Try.f22).body).getD .skip
def h22_1 : Sh := ⟨[.d (.arr 4 (.int .u64)), .d (.arr 4 (.int .u64))], [], [(1, [.arr 4 (.int .u64)]), (2, [.arr 4 (.int .u64)])], [], []⟩
def o22_1 : Outs := ⟨⟨[.d (.arr 4 (.int .u64)), .d (.arr 4 (.int .u64))], [], [(2, [.arr 4 (.int .u64)]), (3, [.arr 4 (.int .u64)])], [], []⟩, 0, ⟨[], [], [], [], []⟩, ⟨[], [], [], [], []⟩⟩
def p22_1 : Plan := (.op 1 (.alt (.op 0 (.alt (.op 2 (.op 3 (.op 4 (.op 5 (.op 6 (.op 7 (.op 8 .fin))))))) (.op 6 (.op 2 (.op 3 (.op 4 (.op 5 (.op 7 (.op 8 .fin))))))))) (.op 6 (.op 0 (.op 2 (.op 3 (.op 4 (.op 5 (.op 7 (.op 8 .fin))))))))))
noncomputable def a22_1 (d : (List UInt64) × (List UInt64)) : Option (O3 ((List UInt64) × (List UInt64)) (Unit) (Unit)) :=
  bnd (m16 ()) fun y_3 =>
  bnd (m47 (y_3, d.1)) fun y_4 =>
  some (.n (d.2, y_4.1))
noncomputable def l22_1 : ((List UInt64) × (List UInt64)) → Option (O3 ((List UInt64) × (List UInt64)) (Unit) (Unit)) := hide a22_1
noncomputable def g22_1 (d : (List UInt64) × (List UInt64)) : Option (List (O3 ((List UInt64) × (List UInt64)) (Unit) (Unit))) :=
  bnd
   (bnd (m16 ()) fun y_6 =>
   bnd
    (bnd (m47 (y_6, d.1)) fun y_8 =>
    some [.n (d.2, y_8.1)]) fun x_7 =>
   bnd
    (bnd (m47 (y_6, d.1)) fun y_9 =>
    some [.n (d.2, y_9.1)]) fun x_10 =>
   some (x_7 ++ x_10)) fun x_5 =>
  bnd
   (bnd (m16 ()) fun y_11 =>
   bnd (m47 (y_11, d.1)) fun y_12 =>
   some [.n (d.2, y_12.1)]) fun x_13 =>
  some (x_5 ++ x_13)
noncomputable def u22_1 : UH := unit (env 18 [(16, hd16), (18, hd18), (47, hd47)]) h22_1 o22_1 l22_1
noncomputable def b22 (d : (List UInt64)) : Option ((List UInt64)) :=
  bnd (m18 d) fun y_1 =>
  let t8_2 : List UInt64 := [(0 : UInt64), (0 : UInt64), (0 : UInt64), (0 : UInt64)]
  cnd (eqD (.arr 4 (.int .u64)) y_1 t8_2)
   (some y_1)
   (bnd (l22_1 (y_1, (List.replicate 4 (0 : UInt64)))) fun o => (match o with
    | .n o => (some o.2)
    | .x _o => none
    | .r _o => none))
noncomputable def m22 : (List UInt64) → Option ((List UInt64)) := hide b22
noncomputable def hd22 : Hd := ⟨[.d (.arr 4 (.int .u64))], [.d (.arr 4 (.int .u64))], m22⟩
/-! entail/scalar.Mul -/
noncomputable def c23 : Code := ((Try.f23).body).getD .skip
noncomputable def b23 (d : (List UInt64) × (List UInt64)) : Option ((List UInt64)) :=
  bnd (fMul (d.1, d.2)) fun y_1 =>
  bnd (m48 (y_1.1, y_1.2)) fun y_2 =>
  some y_2
noncomputable def m23 : ((List UInt64) × (List UInt64)) → Option ((List UInt64)) := hide b23
noncomputable def hd23 : Hd := ⟨[.d (.arr 4 (.int .u64)), .d (.arr 4 (.int .u64))], [.d (.arr 4 (.int .u64))], m23⟩
/-! entail/entailref13.Mul -/
noncomputable def c24 : Code := ((Try.f24).body).getD .skip
def h24_0 : Sh := ⟨[.d (.arr 4 (.int .u64)), .d (.arr 4 (.int .u64)), .d (.arr 4 (.int .u64))], [], [(4, [.arr 4 (.int .u64)]), (5, [.arr 4 (.int .u64)]), (6, [.arr 4 (.int .u64)])], [], []⟩
def o24_0 : Outs := ⟨⟨[.d (.arr 4 (.int .u64)), .d (.arr 4 (.int .u64))], [], [(4, [.arr 4 (.int .u64)]), (7, [.arr 4 (.int .u64)])], [], []⟩, 0, ⟨[], [], [], [], []⟩, ⟨[], [], [], [], []⟩⟩
def p24_0 : Plan := (.op 0 (.op 1 (.alt (.op 2 (.alt (.op 3 (.op 4 (.op 5 (.op 6 (.op 7 (.op 8 (.op 9 .fin))))))) (.op 7 (.op 3 (.op 4 (.op 5 (.op 6 (.op 8 (.op 9 .fin))))))))) (.op 7 (.op 2 (.op 3 (.op 4 (.op 5 (.op 6 (.op 8 (.op 9 .fin)))))))))))
noncomputable def a24_0 (d : (List UInt64) × (List UInt64) × (List UInt64)) : Option (O3 ((List UInt64) × (List UInt64)) (Unit) (Unit)) :=
  bnd (m16 ()) fun y_2 =>
  bnd (m52 (d.2.2, d.2.1, y_2)) fun y_3 =>
  some (.n (d.1, y_3.1))
noncomputable def l24_0 : ((List UInt64) × (List UInt64) × (List UInt64)) → Option (O3 ((List UInt64) × (List UInt64)) (Unit) (Unit)) := hide a24_0
noncomputable def g24_0 (d : (List UInt64) × (List UInt64) × (List UInt64)) : Option (List (O3 ((List UInt64) × (List UInt64)) (Unit) (Unit))) :=
  bnd
   (bnd (m16 ()) fun y_5 =>
   bnd
    (bnd (m52 (d.2.2, d.2.1, y_5)) fun y_7 =>
    some [.n (d.1, y_7.1)]) fun x_6 =>
   bnd
    (bnd (m52 (d.2.2, d.2.1, y_5)) fun y_8 =>
    some [.n (d.1, y_8.1)]) fun x_9 =>
   some (x_6 ++ x_9)) fun x_4 =>
  bnd
   (bnd (m16 ()) fun y_10 =>
   bnd (m52 (d.2.2, d.2.1, y_10)) fun y_11 =>
   some [.n (d.1, y_11.1)]) fun x_12 =>
  some (x_4 ++ x_12)
noncomputable def u24_0 : UH := unit (env 23 [(16, hd16), (51, hd51), (52, hd52)]) h24_0 o24_0 l24_0
noncomputable def b24 (d : (List UInt64) × (List UInt64)) : Option ((List UInt64)) :=
  bnd (fRMul (d.1, d.2)) fun y_1 =>
  bnd (l24_0 ((List.replicate 4 (0 : UInt64)), y_1.1, y_1.2)) fun o => (match o with
   | .n o => (some o.2)
   | .x _o => none
   | .r _o => none)
noncomputable def m24 : ((List UInt64) × (List UInt64)) → Option ((List UInt64)) := hide b24
noncomputable def hd24 : Hd := ⟨[.d (.arr 4 (.int .u64)), .d (.arr 4 (.int .u64))], [.d (.arr 4 (.int .u64))], m24⟩
/-! entail/scalar.Inv -/
noncomputable def c25 : Code := ((Try.f25).body).getD .skip
def h25_4 : Sh := ⟨[.d (.arr 4 (.int .u64)), .d (.arr 4 (.int .u64)), .d (.arr 4 (.int .u64)), .d (.arr 4 (.int .u64)), .d (.arr 4 (.int .u64)), .d (.arr 4 (.int .u64))], [], [(2, [.arr 4 (.int .u64)]), (3, [.arr 4 (.int .u64)]), (4, [.arr 4 (.int .u64)]), (5, [.arr 4 (.int .u64)]), (6, [.arr 4 (.int .u64)]), (7, [.arr 4 (.int .u64)])], [], []⟩
def o25_4 : Outs := ⟨⟨[.d (.arr 4 (.int .u64)), .d (.arr 4 (.int .u64)), .d (.arr 4 (.int .u64)), .d (.arr 4 (.int .u64)), .d (.arr 4 (.int .u64))], [], [(2, [.arr 4 (.int .u64)]), (3, [.arr 4 (.int .u64)]), (4, [.arr 4 (.int .u64)]), (5, [.arr 4 (.int .u64)]), (6, [.arr 4 (.int .u64)])], [], []⟩, 0, ⟨[], [], [], [], []⟩, ⟨[], [], [], [], []⟩⟩
def p25_4 : Plan := (.op 2 (.op 3 (.alt (.op 0 (.alt (.op 1 (.op 4 (.op 5 (.op 6 (.op 7 (.op 8 .fin)))))) (.op 4 (.alt (.op 1 (.op 5 (.op 6 (.op 7 (.op 8 .fin))))) (.op 5 (.op 1 (.op 6 (.op 7 (.op 8 .fin))))))))) (.alt (.op 1 (.alt (.op 0 (.op 4 (.op 5 (.op 6 (.op 7 (.op 8 .fin)))))) (.op 4 (.alt (.op 0 (.op 5 (.op 6 (.op 7 (.op 8 .fin))))) (.op 5 (.alt (.op 0 (.op 6 (.op 7 (.op 8 .fin)))) (.op 6 (.op 0 (.op 7 (.op 8 .fin)))))))))) (.op 4 (.alt (.op 0 (.alt (.op 1 (.op 5 (.op 6 (.op 7 (.op 8 .fin))))) (.op 5 (.op 1 (.op 6 (.op 7 (.op 8 .fin))))))) (.alt (.op 1 (.alt (.op 0 (.op 5 (.op 6 (.op 7 (.op 8 .fin))))) (.op 5 (.alt (.op 0 (.op 6 (.op 7 (.op 8 .fin)))) (.op 6 (.op 0 (.op 7 (.op 8 .fin)))))))) (.op 5 (.op 1 (.alt (.op 0 (.op 6 (.op 7 (.op 8 .fin)))) (.op 6 (.op 0 (.op 7 (.op 8 .fin))))))))))))))
noncomputable def a25_4 (d : (List UInt64) × (List UInt64) × (List UInt64) × (List UInt64) × (List UInt64) × (List UInt64)) : Option (O3 ((List UInt64) × (List UInt64) × (List UInt64) × (List UInt64) × (List UInt64)) (Unit) (Unit)) :=
  bnd (m23 (d.2.2.2.2.2, d.2.2.2.2.1)) fun y_47 =>
  bnd (m21 y_47) fun y_48 =>
  bnd (m19 (d.2.2.2.1, y_48)) fun y_49 =>
  some (.n (d.1, d.2.1, d.2.2.1, d.2.2.2.2.1, y_49))
noncomputable def l25_4 : ((List UInt64) × (List UInt64) × (List UInt64) × (List UInt64) × (List UInt64) × (List UInt64)) → Option (O3 ((List UInt64) × (List UInt64) × (List UInt64) × (List UInt64) × (List UInt64)) (Unit) (Unit)) := hide a25_4
noncomputable def g25_4 (d : (List UInt64) × (List UInt64) × (List UInt64) × (List UInt64) × (List UInt64) × (List UInt64)) : Option (List (O3 ((List UInt64) × (List UInt64) × (List UInt64) × (List UInt64) × (List UInt64)) (Unit) (Unit))) :=
  bnd
   (bnd
    (bnd (m23 (d.2.2.2.2.2, d.2.2.2.2.1)) fun y_52 =>
    bnd (m21 y_52) fun y_53 =>
    bnd (m19 (d.2.2.2.1, y_53)) fun y_54 =>
    some [.n (d.1, d.2.1, d.2.2.1, d.2.2.2.2.1, y_54)]) fun x_51 =>
   bnd
    (bnd (m23 (d.2.2.2.2.2, d.2.2.2.2.1)) fun y_55 =>
    bnd
     (bnd (m21 y_55) fun y_57 =>
     bnd (m19 (d.2.2.2.1, y_57)) fun y_58 =>
     some [.n (d.1, d.2.1, d.2.2.1, d.2.2.2.2.1, y_58)]) fun x_56 =>
    bnd
     (bnd (m21 y_55) fun y_59 =>
     bnd (m19 (d.2.2.2.1, y_59)) fun y_60 =>
     some [.n (d.1, d.2.1, d.2.2.1, d.2.2.2.2.1, y_60)]) fun x_61 =>
    some (x_56 ++ x_61)) fun x_62 =>
   some (x_51 ++ x_62)) fun x_50 =>
  bnd
   (bnd
    (bnd
     (bnd (m23 (d.2.2.2.2.2, d.2.2.2.2.1)) fun y_65 =>
     bnd (m21 y_65) fun y_66 =>
     bnd (m19 (d.2.2.2.1, y_66)) fun y_67 =>
     some [.n (d.1, d.2.1, d.2.2.1, d.2.2.2.2.1, y_67)]) fun x_64 =>
    bnd
     (bnd (m23 (d.2.2.2.2.2, d.2.2.2.2.1)) fun y_68 =>
     bnd
      (bnd (m21 y_68) fun y_70 =>
      bnd (m19 (d.2.2.2.1, y_70)) fun y_71 =>
      some [.n (d.1, d.2.1, d.2.2.1, d.2.2.2.2.1, y_71)]) fun x_69 =>
     bnd
      (bnd (m21 y_68) fun y_72 =>
      bnd
       (bnd (m19 (d.2.2.2.1, y_72)) fun y_74 =>
       some [.n (d.1, d.2.1, d.2.2.1, d.2.2.2.2.1, y_74)]) fun x_73 =>
      bnd
       (bnd (m19 (d.2.2.2.1, y_72)) fun y_75 =>
       some [.n (d.1, d.2.1, d.2.2.1, d.2.2.2.2.1, y_75)]) fun x_76 =>
      some (x_73 ++ x_76)) fun x_77 =>
     some (x_69 ++ x_77)) fun x_78 =>
    some (x_64 ++ x_78)) fun x_63 =>
   bnd
    (bnd (m23 (d.2.2.2.2.2, d.2.2.2.2.1)) fun y_79 =>
    bnd
     (bnd
      (bnd (m21 y_79) fun y_82 =>
      bnd (m19 (d.2.2.2.1, y_82)) fun y_83 =>
      some [.n (d.1, d.2.1, d.2.2.1, d.2.2.2.2.1, y_83)]) fun x_81 =>
     bnd
      (bnd (m21 y_79) fun y_84 =>
      bnd (m19 (d.2.2.2.1, y_84)) fun y_85 =>
      some [.n (d.1, d.2.1, d.2.2.1, d.2.2.2.2.1, y_85)]) fun x_86 =>
     some (x_81 ++ x_86)) fun x_80 =>
    bnd
     (bnd
      (bnd
       (bnd (m21 y_79) fun y_89 =>
       bnd (m19 (d.2.2.2.1, y_89)) fun y_90 =>
       some [.n (d.1, d.2.1, d.2.2.1, d.2.2.2.2.1, y_90)]) fun x_88 =>
      bnd
       (bnd (m21 y_79) fun y_91 =>
       bnd
        (bnd (m19 (d.2.2.2.1, y_91)) fun y_93 =>
        some [.n (d.1, d.2.1, d.2.2.1, d.2.2.2.2.1, y_93)]) fun x_92 =>
       bnd
        (bnd (m19 (d.2.2.2.1, y_91)) fun y_94 =>
        some [.n (d.1, d.2.1, d.2.2.1, d.2.2.2.2.1, y_94)]) fun x_95 =>
       some (x_92 ++ x_95)) fun x_96 =>
      some (x_88 ++ x_96)) fun x_87 =>
     bnd
      (bnd (m21 y_79) fun y_97 =>
      bnd
       (bnd (m19 (d.2.2.2.1, y_97)) fun y_99 =>
       some [.n (d.1, d.2.1, d.2.2.1, d.2.2.2.2.1, y_99)]) fun x_98 =>
      bnd
       (bnd (m19 (d.2.2.2.1, y_97)) fun y_100 =>
       some [.n (d.1, d.2.1, d.2.2.1, d.2.2.2.2.1, y_100)]) fun x_101 =>
      some (x_98 ++ x_101)) fun x_102 =>
     some (x_87 ++ x_102)) fun x_103 =>
    some (x_80 ++ x_103)) fun x_104 =>
   some (x_63 ++ x_104)) fun x_105 =>
  some (x_50 ++ x_105)
noncomputable def u25_4 : UH := unit (env 35 [(15, hd15), (17, hd17), (19, hd19), (21, hd21), (23, hd23), (49, hd49), (53, hd53)]) h25_4 o25_4 l25_4
def h25_3 : Sh := ⟨[.d (.arr 4 (.int .u64)), .d (.arr 4 (.int .u64)), .d (.arr 4 (.int .u64)), .d (.arr 4 (.int .u64)), .d (.arr 4 (.int .u64)), .d (.arr 4 (.int .u64)), .d (.arr 4 (.int .u64))], [], [(2, [.arr 4 (.int .u64)]), (3, [.arr 4 (.int .u64)]), (4, [.arr 4 (.int .u64)]), (5, [.arr 4 (.int .u64)]), (6, [.arr 4 (.int .u64)]), (7, [.arr 4 (.int .u64)]), (8, [.arr 4 (.int .u64)])], [], []⟩
def o25_3 : Outs := ⟨⟨[.d (.arr 4 (.int .u64)), .d (.arr 4 (.int .u64)), .d (.arr 4 (.int .u64)), .d (.arr 4 (.int .u64)), .d (.arr 4 (.int .u64)), .d (.arr 4 (.int .u64))], [], [(2, [.arr 4 (.int .u64)]), (3, [.arr 4 (.int .u64)]), (4, [.arr 4 (.int .u64)]), (5, [.arr 4 (.int .u64)]), (6, [.arr 4 (.int .u64)]), (7, [.arr 4 (.int .u64)])], [], []⟩, 0, ⟨[], [], [], [], []⟩, ⟨[], [], [], [], []⟩⟩
def p25_3 : Plan := (.op 0 (.alt (.op 1 (.op 2 (.op 3 .fin))) (.op 2 (.op 1 (.op 3 .fin)))))
noncomputable def a25_3 (d : (List UInt64) × (List UInt64) × (List UInt64) × (List UInt64) × (List UInt64) × (List UInt64) × (List UInt64)) : Option (O3 ((List UInt64) × (List UInt64) × (List UInt64) × (List UInt64) × (List UInt64) × (List UInt64)) (Unit) (Unit)) :=
  some (.n (d.1, d.2.2.1, d.2.2.2.2.2.2, d.2.2.2.1, d.2.2.2.2.1, d.2.2.2.2.2.1))
noncomputable def l25_3 : ((List UInt64) × (List UInt64) × (List UInt64) × (List UInt64) × (List UInt64) × (List UInt64) × (List UInt64)) → Option (O3 ((List UInt64) × (List UInt64) × (List UInt64) × (List UInt64) × (List UInt64) × (List UInt64)) (Unit) (Unit)) := hide a25_3
noncomputable def g25_3 (d : (List UInt64) × (List UInt64) × (List UInt64) × (List UInt64) × (List UInt64) × (List UInt64) × (List UInt64)) : Option (List (O3 ((List UInt64) × (List UInt64) × (List UInt64) × (List UInt64) × (List UInt64) × (List UInt64)) (Unit) (Unit))) :=
  bnd
   (some [.n (d.1, d.2.2.1, d.2.2.2.2.2.2, d.2.2.2.1, d.2.2.2.2.1, d.2.2.2.2.2.1)]) fun x_45 =>
  bnd
   (some [.n (d.1, d.2.2.1, d.2.2.2.2.2.2, d.2.2.2.1, d.2.2.2.2.1, d.2.2.2.2.2.1)]) fun x_46 =>
  some (x_45 ++ x_46)
noncomputable def u25_3 : UH := unit (env 35 [(15, hd15), (17, hd17), (19, hd19), (21, hd21), (23, hd23), (49, hd49), (53, hd53)]) h25_3 o25_3 l25_3
def h25_1 : Sh := ⟨[.d (.arr 4 (.int .u64)), .d (.arr 4 (.int .u64)), .d (.arr 4 (.int .u64)), .d (.arr 4 (.int .u64)), .d (.arr 4 (.int .u64))], [], [(2, [.arr 4 (.int .u64)]), (3, [.arr 4 (.int .u64)]), (4, [.arr 4 (.int .u64)]), (5, [.arr 4 (.int .u64)]), (6, [.arr 4 (.int .u64)])], [], []⟩
def o25_1 : Outs := ⟨⟨[], [], [], [], []⟩, 0, ⟨[.d (.arr 4 (.int .u64)), .d (.arr 4 (.int .u64))], [], [(2, [.arr 4 (.int .u64)]), (5, [.arr 4 (.int .u64)])], [], []⟩, ⟨[], [], [], [], []⟩⟩
noncomputable def k25_1 (f : (List UInt64) × (List UInt64) × (List UInt64) × (List UInt64) × (List UInt64) → Option (O3 (Unit) ((List UInt64) × (List UInt64)) (Unit))) (d : (List UInt64) × (List UInt64) × (List UInt64) × (List UInt64) × (List UInt64)) : Option (O3 (Unit) ((List UInt64) × (List UInt64)) (Unit)) :=
  let t16_43 : List UInt64 := [(0 : UInt64), (0 : UInt64), (0 : UInt64), (0 : UInt64)]
  cnd (!(eqD (.arr 4 (.int .u64)) d.2.2.1 t16_43))
   (bnd (m53 (d.2.1, d.2.2.1)) fun y_44 =>
   bnd (l25_3 (d.1, d.2.1, d.2.2.1, d.2.2.2.1, d.2.2.2.2, y_44.1, y_44.2.1)) fun o => (match o with
    | .n o => (bnd (l25_4 (o.1, o.2.1, o.2.2.1, o.2.2.2.1, o.2.2.2.2.1, o.2.2.2.2.2)) fun o => (match o with
     | .n o => (f (o.1, o.2.1, o.2.2.1, o.2.2.2.1, o.2.2.2.2))
     | .x _o => none
     | .r _o => (some (.r ()))))
    | .x _o => none
    | .r _o => (some (.r ()))))
   (some (.x (d.1, d.2.2.2.1)))
noncomputable def l25_1 : (List UInt64) × (List UInt64) × (List UInt64) × (List UInt64) × (List UInt64) → Option (O3 (Unit) ((List UInt64) × (List UInt64)) (Unit)) := itN k25_1 fuel
noncomputable def u25_1 : UH := unit (env 35 [(15, hd15), (17, hd17), (19, hd19), (21, hd21), (23, hd23), (49, hd49), (53, hd53)]) h25_1 o25_1 l25_1
def h25_0 : Sh := ⟨[.d (.arr 4 (.int .u64)), .d (.arr 4 (.int .u64))], [], [(1, [.arr 4 (.int .u64)]), (2, [.arr 4 (.int .u64)])], [], []⟩
def o25_0 : Outs := ⟨⟨[.d (.arr 4 (.int .u64)), .d (.arr 4 (.int .u64)), .d (.arr 4 (.int .u64))], [], [(2, [.arr 4 (.int .u64)]), (3, [.arr 4 (.int .u64)]), (4, [.arr 4 (.int .u64)])], [], []⟩, 0, ⟨[], [], [], [], []⟩, ⟨[], [], [], [], []⟩⟩
def p25_0 : Plan := (.op 1 (.alt (.op 0 (.alt (.op 2 (.alt (.op 3 (.op 4 (.op 5 (.op 6 .fin)))) (.op 4 (.op 3 (.op 5 (.op 6 .fin)))))) (.alt (.op 3 (.alt (.op 2 (.op 4 (.op 5 (.op 6 .fin)))) (.op 4 (.op 2 (.op 5 (.op 6 .fin)))))) (.op 4 (.alt (.op 2 (.op 3 (.op 5 (.op 6 .fin)))) (.op 3 (.op 2 (.op 5 (.op 6 .fin))))))))) (.alt (.op 3 (.alt (.op 0 (.alt (.op 2 (.op 4 (.op 5 (.op 6 .fin)))) (.op 4 (.op 2 (.op 5 (.op 6 .fin)))))) (.op 4 (.op 0 (.op 2 (.op 5 (.op 6 .fin))))))) (.op 4 (.alt (.op 0 (.alt (.op 2 (.op 3 (.op 5 (.op 6 .fin)))) (.op 3 (.op 2 (.op 5 (.op 6 .fin)))))) (.op 3 (.op 0 (.op 2 (.op 5 (.op 6 .fin))))))))))
noncomputable def a25_0 (d : (List UInt64) × (List UInt64)) : Option (O3 ((List UInt64) × (List UInt64) × (List UInt64)) (Unit) (Unit)) :=
  bnd (m15 ()) fun y_1 =>
  bnd (m17 d.1) fun y_2 =>
  some (.n (d.2, y_1, y_2))
noncomputable def l25_0 : ((List UInt64) × (List UInt64)) → Option (O3 ((List UInt64) × (List UInt64) × (List UInt64)) (Unit) (Unit)) := hide a25_0
noncomputable def g25_0 (d : (List UInt64) × (List UInt64)) : Option (List (O3 ((List UInt64) × (List UInt64) × (List UInt64)) (Unit) (Unit))) :=
  bnd
   (bnd (m15 ()) fun y_4 =>
   bnd
    (bnd (m17 d.1) fun y_6 =>
    bnd
     (some [.n (d.2, y_4, y_6)]) fun x_7 =>
    bnd
     (some [.n (d.2, y_4, y_6)]) fun x_8 =>
    some (x_7 ++ x_8)) fun x_5 =>
   bnd
    (bnd
     (bnd
      (bnd (m17 d.1) fun y_11 =>
      some [.n (d.2, y_4, y_11)]) fun x_10 =>
     bnd
      (bnd (m17 d.1) fun y_12 =>
      some [.n (d.2, y_4, y_12)]) fun x_13 =>
     some (x_10 ++ x_13)) fun x_9 =>
    bnd
     (bnd
      (bnd (m17 d.1) fun y_15 =>
      some [.n (d.2, y_4, y_15)]) fun x_14 =>
     bnd
      (bnd (m17 d.1) fun y_16 =>
      some [.n (d.2, y_4, y_16)]) fun x_17 =>
     some (x_14 ++ x_17)) fun x_18 =>
    some (x_9 ++ x_18)) fun x_19 =>
   some (x_5 ++ x_19)) fun x_3 =>
  bnd
   (bnd
    (bnd
     (bnd (m15 ()) fun y_22 =>
     bnd
      (bnd (m17 d.1) fun y_24 =>
      some [.n (d.2, y_22, y_24)]) fun x_23 =>
     bnd
      (bnd (m17 d.1) fun y_25 =>
      some [.n (d.2, y_22, y_25)]) fun x_26 =>
     some (x_23 ++ x_26)) fun x_21 =>
    bnd
     (bnd (m15 ()) fun y_27 =>
     bnd (m17 d.1) fun y_28 =>
     some [.n (d.2, y_27, y_28)]) fun x_29 =>
    some (x_21 ++ x_29)) fun x_20 =>
   bnd
    (bnd
     (bnd (m15 ()) fun y_31 =>
     bnd
      (bnd (m17 d.1) fun y_33 =>
      some [.n (d.2, y_31, y_33)]) fun x_32 =>
     bnd
      (bnd (m17 d.1) fun y_34 =>
      some [.n (d.2, y_31, y_34)]) fun x_35 =>
     some (x_32 ++ x_35)) fun x_30 =>
    bnd
     (bnd (m15 ()) fun y_36 =>
     bnd (m17 d.1) fun y_37 =>
     some [.n (d.2, y_36, y_37)]) fun x_38 =>
    some (x_30 ++ x_38)) fun x_39 =>
   some (x_20 ++ x_39)) fun x_40 =>
  some (x_3 ++ x_40)
noncomputable def u25_0 : UH := unit (env 35 [(15, hd15), (17, hd17), (19, hd19), (21, hd21), (23, hd23), (49, hd49), (53, hd53)]) h25_0 o25_0 l25_0
noncomputable def b25 (d : (List UInt64)) : Option ((List UInt64)) :=
  bnd (l25_0 (d, (List.replicate 4 (0 : UInt64)))) fun o => (match o with
   | .n o => (bnd (fFrom (0 : UInt64)) fun y_41 =>
   bnd (fFrom (1 : UInt64)) fun y_42 =>
   bnd (l25_1 (o.1, o.2.1, o.2.2, y_41, y_42)) fun o => (match o with
    | .n _o => none
    | .x o => (some o.2)
    | .r _o => none))
   | .x _o => none
   | .r _o => none)
noncomputable def m25 : (List UInt64) → Option ((List UInt64)) := hide b25
noncomputable def hd25 : Hd := ⟨[.d (.arr 4 (.int .u64))], [.d (.arr 4 (.int .u64))], m25⟩
/-! entail/entailref13.Inv -/
noncomputable def c26 : Code := ((Try.f26).body).getD .skip
noncomputable def b26 (d : (List UInt64)) : Option ((List UInt64)) :=
  bnd (m18 d) fun y_1 =>
  bnd (m16 ()) fun y_2 =>
  bnd (m54 (y_1, y_2)) fun y_3 =>
  some y_3
noncomputable def m26 : (List UInt64) → Option ((List UInt64)) := hide b26
noncomputable def hd26 : Hd := ⟨[.d (.arr 4 (.int .u64))], [.d (.arr 4 (.int .u64))], m26⟩
/-! entail/scalar.Read -/
noncomputable def c27 : Code := ((Try.f27).body).getD .skip
noncomputable def b27 (d : (List UInt8)) : Option ((List UInt64) × Bool) :=
  bnd (m55 d) fun y_1 =>
  bnd (m15 ()) fun y_2 =>
  bnd (fCmp (y_1, y_2)) fun y_3 =>
  cnd (decide ((0 : Int) ≤ y_3))
   (let t11_4 : List UInt64 := [(0 : UInt64), (0 : UInt64), (0 : UInt64), (0 : UInt64)]
   some (t11_4, false))
   (some (y_1, true))
noncomputable def m27 : (List UInt8) → Option ((List UInt64) × Bool) := hide b27
noncomputable def hd27 : Hd := ⟨[.d (.arr 32 (.int .u8))], [.d (.arr 4 (.int .u64)), .d (.bool)], m27⟩
/-! entail/entailref13.Read -/
noncomputable def c28 : Code := ((Try.f28).body).getD .skip
noncomputable def b28 (d : (List UInt8)) : Option ((List UInt64) × Bool) :=
  bnd (m56 d) fun y_1 =>
  bnd (m16 ()) fun y_2 =>
  bnd (fRCmp (y_1, y_2)) fun y_3 =>
  cnd (decide ((0 : Int) ≤ y_3))
   (let t11_4 : List UInt64 := [(0 : UInt64), (0 : UInt64), (0 : UInt64), (0 : UInt64)]
   some (t11_4, false))
   (some (y_1, true))
noncomputable def m28 : (List UInt8) → Option ((List UInt64) × Bool) := hide b28
noncomputable def hd28 : Hd := ⟨[.d (.arr 32 (.int .u8))], [.d (.arr 4 (.int .u64)), .d (.bool)], m28⟩
/-! entail/scalar.Hash -/
noncomputable def c29 : Code := ((Try.f29).body).getD .skip
noncomputable def b29 (d : (List UInt8)) : Option ((List UInt64)) :=
  bnd (m55 d) fun y_1 =>
  bnd (m17 y_1) fun y_2 =>
  some y_2
noncomputable def m29 : (List UInt8) → Option ((List UInt64)) := hide b29
noncomputable def hd29 : Hd := ⟨[.d (.arr 32 (.int .u8))], [.d (.arr 4 (.int .u64))], m29⟩
/-! entail/entailref13.Hash -/
noncomputable def c30 : Code := ((Try.f30).body).getD .skip
noncomputable def b30 (d : (List UInt8)) : Option ((List UInt64)) :=
  bnd (m56 d) fun y_1 =>
  bnd (m18 y_1) fun y_2 =>
  some y_2
noncomputable def m30 : (List UInt8) → Option ((List UInt64)) := hide b30
noncomputable def hd30 : Hd := ⟨[.d (.arr 32 (.int .u8))], [.d (.arr 4 (.int .u64))], m30⟩
/-! entail/entaillaw13.alive -/
noncomputable def c14 : Code := ((Try.f14).body).getD .skip
noncomputable def b14 (_d : Unit) : Option (Bool) :=
  bnd (m15 ()) fun y_1 =>
  let t5_2 : List UInt64 := [(1 : UInt64), (0 : UInt64), (0 : UInt64), (0 : UInt64)]
  bnd (fSub (y_1, t5_2)) fun y_3 =>
  let t10_4 : List UInt64 := [(2 : UInt64), (0 : UInt64), (0 : UInt64), (0 : UInt64)]
  bnd (m19 (y_3.1, t10_4)) fun y_5 =>
  let t12_6 : List UInt64 := [(1 : UInt64), (0 : UInt64), (0 : UInt64), (0 : UInt64)]
  cnd (eqD (.arr 4 (.int .u64)) y_5 t12_6)
   (let t15_7 : List UInt64 := [(3 : UInt64), (0 : UInt64), (0 : UInt64), (0 : UInt64)]
   let t16_8 : List UInt64 := [(5 : UInt64), (0 : UInt64), (0 : UInt64), (0 : UInt64)]
   bnd (m23 (t15_7, t16_8)) fun y_9 =>
   let t18_10 : List UInt64 := [(15 : UInt64), (0 : UInt64), (0 : UInt64), (0 : UInt64)]
   cnd (eqD (.arr 4 (.int .u64)) y_9 t18_10)
    (bnd (m21 y_3.1) fun y_11 =>
    let t24_12 : List UInt64 := [(1 : UInt64), (0 : UInt64), (0 : UInt64), (0 : UInt64)]
    some (eqD (.arr 4 (.int .u64)) y_11 t24_12))
    (some false))
   (some false)
noncomputable def m14 : Unit → Option (Bool) := hide b14
noncomputable def hd14 : Hd := ⟨[], [.d (.bool)], m14⟩
/-! entail/entaillaw13.ScalarSums -/
noncomputable def c3 : Code := ((Try.f3).body).getD .skip
noncomputable def b3 (d : (List UInt64) × (List UInt64)) : Option (Bool) :=
  bnd (m14 ()) fun y_1 =>
  cnd y_1
   (bnd (m15 ()) fun y_2 =>
   bnd (m16 ()) fun y_3 =>
   cnd (eqD (.arr 4 (.int .u64)) y_2 y_3)
    (bnd (m17 d.1) fun y_4 =>
    bnd (m18 d.1) fun y_5 =>
    cnd (eqD (.arr 4 (.int .u64)) y_4 y_5)
     (bnd (m19 (d.1, d.2)) fun y_6 =>
     bnd (m20 (d.1, d.2)) fun y_7 =>
     cnd (eqD (.arr 4 (.int .u64)) y_6 y_7)
      (bnd (m21 d.1) fun y_8 =>
      bnd (m22 d.1) fun y_9 =>
      some (eqD (.arr 4 (.int .u64)) y_8 y_9))
      (some false))
     (some false))
    (some false))
   (some false)
noncomputable def m3 : ((List UInt64) × (List UInt64)) → Option (Bool) := hide b3
theorem m3_eq (d : (List UInt64) × (List UInt64)) : m3 d = b3 d := congrFun (hide_eq _) d
noncomputable def hd3 : Hd := ⟨[.d (.arr 4 (.int .u64)), .d (.arr 4 (.int .u64))], [.d (.bool)], m3⟩
set_option maxRecDepth 100000 in
theorem r3 (d : Dat hd3.pks) : runF (env 34 [(14, hd14), (15, hd15), (16, hd16), (17, hd17), (18, hd18), (19, hd19), (20, hd20), (21, hd21), (22, hd22)]) (lkU []) c3 (Try.f3).results.toList [] hd3.pks hd3.rks d = b3 d := by kernel_rfl
theorem q3 (d : Dat hd3.pks) (y : Dat hd3.rks) : (hd3.fm d = some y) = (m3 d = some y) := by kernel_rfl
theorem t3 (d : Dat hd3.pks) (y : Dat hd3.rks) (h : hd3.fm d = some y) : runF (env 34 [(14, hd14), (15, hd15), (16, hd16), (17, hd17), (18, hd18), (19, hd19), (20, hd20), (21, hd21), (22, hd22)]) (lkU []) c3 (Try.f3).results.toList [] hd3.pks hd3.rks d = some y := (r3 d).trans ((m3_eq d).symm.trans ((q3 d y).mp h))
/-! entail/entaillaw13.ScalarMul -/
noncomputable def c4 : Code := ((Try.f4).body).getD .skip
noncomputable def b4 (d : (List UInt64) × (List UInt64)) : Option (Bool) :=
  bnd (m14 ()) fun y_1 =>
  cnd y_1
   (bnd (m23 (d.1, d.2)) fun y_2 =>
   bnd (m24 (d.1, d.2)) fun y_3 =>
   cnd (eqD (.arr 4 (.int .u64)) y_2 y_3)
    (bnd (m25 d.1) fun y_4 =>
    bnd (m26 d.1) fun y_5 =>
    some (eqD (.arr 4 (.int .u64)) y_4 y_5))
    (some false))
   (some false)
noncomputable def m4 : ((List UInt64) × (List UInt64)) → Option (Bool) := hide b4
theorem m4_eq (d : (List UInt64) × (List UInt64)) : m4 d = b4 d := congrFun (hide_eq _) d
noncomputable def hd4 : Hd := ⟨[.d (.arr 4 (.int .u64)), .d (.arr 4 (.int .u64))], [.d (.bool)], m4⟩
set_option maxRecDepth 100000 in
theorem r4 (d : Dat hd4.pks) : runF (env 22 [(14, hd14), (23, hd23), (24, hd24), (25, hd25), (26, hd26)]) (lkU []) c4 (Try.f4).results.toList [] hd4.pks hd4.rks d = b4 d := by kernel_rfl
theorem q4 (d : Dat hd4.pks) (y : Dat hd4.rks) : (hd4.fm d = some y) = (m4 d = some y) := by kernel_rfl
theorem t4 (d : Dat hd4.pks) (y : Dat hd4.rks) (h : hd4.fm d = some y) : runF (env 22 [(14, hd14), (23, hd23), (24, hd24), (25, hd25), (26, hd26)]) (lkU []) c4 (Try.f4).results.toList [] hd4.pks hd4.rks d = some y := (r4 d).trans ((m4_eq d).symm.trans ((q4 d y).mp h))
/-! entail/entaillaw13.ScalarRead -/
noncomputable def c5 : Code := ((Try.f5).body).getD .skip
noncomputable def b5 (d : (List UInt8)) : Option (Bool) :=
  bnd (m27 d) fun y_1 =>
  bnd (m28 d) fun y_2 =>
  bnd (m14 ()) fun y_3 =>
  cnd y_3
   (cnd (eqD (.arr 4 (.int .u64)) y_1.1 y_2.1)
    (cnd (decide (y_1.2 = y_2.2))
     (bnd (m29 d) fun y_4 =>
     bnd (m30 d) fun y_5 =>
     some (eqD (.arr 4 (.int .u64)) y_4 y_5))
     (some false))
    (some false))
   (some false)
noncomputable def m5 : (List UInt8) → Option (Bool) := hide b5
theorem m5_eq (d : (List UInt8)) : m5 d = b5 d := congrFun (hide_eq _) d
noncomputable def hd5 : Hd := ⟨[.d (.arr 32 (.int .u8))], [.d (.bool)], m5⟩
set_option maxRecDepth 100000 in
theorem r5 (d : Dat hd5.pks) : runF (env 35 [(14, hd14), (27, hd27), (28, hd28), (29, hd29), (30, hd30)]) (lkU []) c5 (Try.f5).results.toList [] hd5.pks hd5.rks d = b5 d := by kernel_rfl
theorem q5 (d : Dat hd5.pks) (y : Dat hd5.rks) : (hd5.fm d = some y) = (m5 d = some y) := by kernel_rfl
theorem t5 (d : Dat hd5.pks) (y : Dat hd5.rks) (h : hd5.fm d = some y) : runF (env 35 [(14, hd14), (27, hd27), (28, hd28), (29, hd29), (30, hd30)]) (lkU []) c5 (Try.f5).results.toList [] hd5.pks hd5.rks d = some y := (r5 d).trans ((m5_eq d).symm.trans ((q5 d y).mp h))
/-! entail/entaillaw13.ScalarLaws -/
noncomputable def c6 : Code := ((Try.f6).body).getD .skip
noncomputable def b6 (d : (List UInt64) × (List UInt64) × (List UInt64)) : Option (Bool) :=
  bnd (m19 (d.2.1, d.2.2)) fun y_1 =>
  bnd (m23 (d.1, y_1)) fun y_2 =>
  bnd (m23 (d.1, d.2.1)) fun y_3 =>
  bnd (m23 (d.1, d.2.2)) fun y_4 =>
  bnd (m19 (y_3, y_4)) fun y_5 =>
  bnd (m23 (d.2.1, d.2.2)) fun y_6 =>
  bnd (m23 (d.1, y_6)) fun y_7 =>
  bnd (m23 (d.1, d.2.1)) fun y_8 =>
  bnd (m23 (y_8, d.2.2)) fun y_9 =>
  bnd (m19 (d.2.1, d.2.2)) fun y_10 =>
  bnd (m19 (d.1, y_10)) fun y_11 =>
  bnd (m19 (d.1, d.2.1)) fun y_12 =>
  bnd (m19 (y_12, d.2.2)) fun y_13 =>
  bnd (m19 (d.1, d.2.1)) fun y_14 =>
  bnd (m19 (d.2.1, d.1)) fun y_15 =>
  cnd (eqD (.arr 4 (.int .u64)) y_14 y_15)
   (bnd (m23 (d.1, d.2.1)) fun y_16 =>
   bnd (m23 (d.2.1, d.1)) fun y_17 =>
   bnd (m14 ()) fun y_18 =>
   cnd y_18
    (cnd (eqD (.arr 4 (.int .u64)) y_2 y_5)
     (cnd (eqD (.arr 4 (.int .u64)) y_7 y_9)
      (cnd (eqD (.arr 4 (.int .u64)) y_11 y_13)
       (cnd (eqD (.arr 4 (.int .u64)) y_16 y_17)
        (bnd (m21 d.1) fun y_19 =>
        bnd (m19 (d.1, y_19)) fun y_20 =>
        let t80_21 : List UInt64 := [(0 : UInt64), (0 : UInt64), (0 : UInt64), (0 : UInt64)]
        some (eqD (.arr 4 (.int .u64)) y_20 t80_21))
        (some false))
       (some false))
      (some false))
     (some false))
    (some false))
   (bnd (m14 ()) fun y_22 =>
   cnd y_22
    (cnd (eqD (.arr 4 (.int .u64)) y_2 y_5)
     (cnd (eqD (.arr 4 (.int .u64)) y_7 y_9)
      (cnd (eqD (.arr 4 (.int .u64)) y_11 y_13)
       (some false)
       (some false))
      (some false))
     (some false))
    (some false))
noncomputable def m6 : ((List UInt64) × (List UInt64) × (List UInt64)) → Option (Bool) := hide b6
noncomputable def hd6 : Hd := ⟨[.d (.arr 4 (.int .u64)), .d (.arr 4 (.int .u64)), .d (.arr 4 (.int .u64))], [.d (.bool)], m6⟩
set_option maxRecDepth 100000 in
theorem r6 (d : Dat hd6.pks) : runF (env 83 [(14, hd14), (19, hd19), (21, hd21), (23, hd23)]) (lkU []) c6 (Try.f6).results.toList [] hd6.pks hd6.rks d = b6 d := by kernel_rfl
theorem q6 (d : Dat hd6.pks) (y : Dat hd6.rks) : (hd6.fm d = some y) = (m6 d = some y) := by kernel_rfl
/-! entail/entaillaw13.ScalarInverse -/
noncomputable def c7 : Code := ((Try.f7).body).getD .skip
noncomputable def b7 (d : (List UInt64)) : Option (Bool) :=
  bnd (m25 d) fun y_1 =>
  bnd (m15 ()) fun y_2 =>
  bnd (fCmp (y_1, y_2)) fun y_3 =>
  cnd (decide ((0 : Int) ≤ y_3))
   (some false)
   (bnd (m17 d) fun y_4 =>
   bnd (fCmp (y_4, y_2)) fun y_5 =>
   cnd (decide ((0 : Int) ≤ y_5))
    (some false)
    (bnd (m17 d) fun y_6 =>
    let t21_7 : List UInt64 := [(0 : UInt64), (0 : UInt64), (0 : UInt64), (0 : UInt64)]
    cnd (eqD (.arr 4 (.int .u64)) y_6 t21_7)
     (bnd (m14 ()) fun y_8 =>
     cnd y_8
      (let t26_9 : List UInt64 := [(0 : UInt64), (0 : UInt64), (0 : UInt64), (0 : UInt64)]
      some (eqD (.arr 4 (.int .u64)) y_1 t26_9))
      (some false))
     (bnd (m14 ()) fun y_10 =>
     cnd y_10
      (bnd (m23 (d, y_1)) fun y_11 =>
      let t34_12 : List UInt64 := [(1 : UInt64), (0 : UInt64), (0 : UInt64), (0 : UInt64)]
      some (eqD (.arr 4 (.int .u64)) y_11 t34_12))
      (some false))))
noncomputable def m7 : (List UInt64) → Option (Bool) := hide b7
noncomputable def hd7 : Hd := ⟨[.d (.arr 4 (.int .u64))], [.d (.bool)], m7⟩
set_option maxRecDepth 100000 in
theorem r7 (d : Dat hd7.pks) : runF (env 37 [(14, hd14), (15, hd15), (17, hd17), (23, hd23), (25, hd25), (31, hd31)]) (lkU []) c7 (Try.f7).results.toList [] hd7.pks hd7.rks d = b7 d := by kernel_rfl
end Go.Proofs.Ytpfoeeiacfadfaa.Q
