/-
  Written by qgen.py: functions reckoned.
-/
import Derived.Test.YtpfoeeiacfadfaaTM
import Derived.Test.YtpfoeeiacfadfaaRows
namespace Go.Proofs.Ytpfoeeiacfadfaa.Q.T.U
open Go.RowKit
theorem e4 : EF Try.prog 4 (.bool) := EF.mk' (b := 1) (by kernel_rfl) rfl (by kernel_rfl)
theorem v4 : Try.prog.underlying 4 = some (.bool) := by kernel_rfl
theorem e22 : EF Try.prog 22 (.int .u64) := EF.mk' (b := 8) (by kernel_rfl) rfl (by kernel_rfl)
theorem v22 : Try.prog.underlying 22 = some (.int .u64) := by kernel_rfl
theorem e24 : EF Try.prog 24 (.arr 4 (.int .u64)) := EF.mk' (b := 32) (by kernel_rfl) rfl (by kernel_rfl)
theorem v24 : Try.prog.underlying 24 = some (.array 4 22) := by kernel_rfl
theorem e5 : EF Try.prog 5 (.int .u8) := EF.mk' (b := 1) (by kernel_rfl) rfl (by kernel_rfl)
theorem v5 : Try.prog.underlying 5 = some (.int .u8) := by kernel_rfl
theorem e30 : EF Try.prog 30 (.arr 32 (.int .u8)) := EF.mk' (b := 32) (by kernel_rfl) rfl (by kernel_rfl)
theorem v30 : Try.prog.underlying 30 = some (.array 32 5) := by kernel_rfl
def tab : List (Nat × TI) := [(4, ⟨.bool, 0, []⟩), (24, ⟨.arr 4 (.int .u64), 22, []⟩), (30, ⟨.arr 32 (.int .u8), 5, []⟩)]
theorem tab_ok : Each0 (TRow Try.prog) tab := ⟨⟨⟨e4, v4⟩, fun _ => ⟨(.bool v4), by decide, by kernel_rfl⟩⟩,
  ⟨⟨e24, v24, e22, by decide⟩, fun _ => ⟨(.arr v24 e22 (.int v22)), by decide, by kernel_rfl⟩⟩,
  ⟨⟨e30, v30, e5, by decide⟩, fun _ => ⟨(.arr v30 e5 (.int v5)), by decide, by kernel_rfl⟩⟩,
  trivial⟩
def env (n : Nat) (hs : List (Nat × Hd)) : Env := ⟨n, lkT tab, lkT hs, fun _ => none⟩
theorem mixed : Try.prog.follows .mixedOrders = true := by kernel_rfl
theorem okk (ht : Each0 (TRow Try.prog) tab) {n : Nat} {hs : List (Nat × Hd)} (h : Each0 (fun p => FnOk Try.prog p.1 p.2) hs) (hm : Try.prog.follows .mixedOrders = true) : Okk Try.prog (env n hs) := ⟨⟨env_ok ht _ _ _, fun _ _ hf => lkT_each h hf⟩, hm⟩
/-! entail/entaillaw10.alive -/
noncomputable def c34 : Code := ((Try.f34).body).getD .skip
noncomputable def b34 (_d : Unit) : Option (Bool) :=
  bnd (m32 (545259519 : UInt32)) fun y_1 =>
  cnd (decide (y_1.2 = (0 : Int)))
   (bnd (fLen y_1.1) fun y_2 =>
   cnd (decide (y_2 = (255 : Int)))
    (bnd (m39 (545259519 : UInt32)) fun y_3 =>
    let t16_4 : List UInt64 := [(2 : UInt64), (0 : UInt64), (0 : UInt64), (0 : UInt64)]
    cnd (eqD (.arr 4 (.int .u64)) y_3 t16_4)
     (let t20_5 : List UInt64 := [(128 : UInt64), (0 : UInt64), (0 : UInt64), (0 : UInt64)]
     bnd (m35 t20_5) fun y_6 =>
     cnd (decide (y_6 = (33587200 : UInt32)))
      (let t25_7 : List UInt8 := [(0 : UInt8), (0 : UInt8), (0 : UInt8), (0 : UInt8), (0 : UInt8), (0 : UInt8), (0 : UInt8), (0 : UInt8), (0 : UInt8), (0 : UInt8), (0 : UInt8), (0 : UInt8), (0 : UInt8), (0 : UInt8), (0 : UInt8), (0 : UInt8), (0 : UInt8), (0 : UInt8), (0 : UInt8), (0 : UInt8), (0 : UInt8), (0 : UInt8), (0 : UInt8), (0 : UInt8), (0 : UInt8), (0 : UInt8), (0 : UInt8), (0 : UInt8), (0 : UInt8), (0 : UInt8), (0 : UInt8), (0 : UInt8)]
      bnd (fMeets (t25_7, (545259519 : UInt32))) fun y_8 =>
      some y_8)
      (some false))
     (some false))
    (some false))
   (some false)
noncomputable def m34 : Unit → Option (Bool) := hide b34
theorem m34_eq (d : Unit) : m34 d = b34 d := congrFun (hide_eq _) d
noncomputable def hd34 : Hd := ⟨[], [.d (.bool)], m34⟩
theorem ok34 : Okk Try.prog (env 28 [(32, hd32), (35, hd35), (37, hd37), (39, hd39), (44, hd44)]) := okk tab_ok (n := 28) (hs := [(32, hd32), (35, hd35), (37, hd37), (39, hd39), (44, hd44)]) ⟨fn32, fn35, fn37, fn39, fn44, trivial⟩ mixed
set_option maxRecDepth 100000 in
theorem r34 (d : Dat hd34.pks) : runF (env 28 [(32, hd32), (35, hd35), (37, hd37), (39, hd39), (44, hd44)]) (lkU []) c34 (Try.f34).results.toList [] hd34.pks hd34.rks d = b34 d := by kernel_rfl
theorem q34 (d : Dat hd34.pks) (y : Dat hd34.rks) : (hd34.fm d = some y) = (m34 d = some y) := by kernel_rfl
theorem t34 (d : Dat hd34.pks) (y : Dat hd34.rks) (h : hd34.fm d = some y) : runF (env 28 [(32, hd32), (35, hd35), (37, hd37), (39, hd39), (44, hd44)]) (lkU []) c34 (Try.f34).results.toList [] hd34.pks hd34.rks d = some y := (r34 d).trans ((m34_eq d).symm.trans ((q34 d y).mp h))
theorem gn34 : FnG Try.prog 34 hd34 :=
  fn_g (hl := lkU []) (un := []) ok34 (fun _ => rfl) Try.func34 rfl Try.ntmps34 (by kernel_rfl) (rv := (Try.f34).results.toList) (by kernel_rfl) (by decide) (uall_at trivial) t34
theorem fn34 : FnOk Try.prog 34 hd34 := .inl gn34
/-! entail/entaillaw10.TargetExpand -/
noncomputable def c8 : Code := ((Try.f8).body).getD .skip
noncomputable def b8 (d : UInt32 × (List UInt64)) : Option (Bool) :=
  bnd (m32 d.1) fun y_1 =>
  bnd (m33 d.1) fun y_2 =>
  bnd (m34 ()) fun y_3 =>
  cnd y_3
   (cnd (eqD (.arr 4 (.int .u64)) y_1.1 y_2.1)
    (cnd (decide (y_1.2 = y_2.2))
     (bnd (m35 d.2) fun y_4 =>
     bnd (m36 d.2) fun y_5 =>
     some (decide (y_4 = y_5)))
     (some false))
    (some false))
   (some false)
noncomputable def m8 : (UInt32 × (List UInt64)) → Option (Bool) := hide b8
theorem m8_eq (d : UInt32 × (List UInt64)) : m8 d = b8 d := congrFun (hide_eq _) d
noncomputable def hd8 : Hd := ⟨[.d (.int .u32), .d (.arr 4 (.int .u64))], [.d (.bool)], m8⟩
theorem ok8 : Okk Try.prog (env 37 [(32, hd32), (33, hd33), (34, hd34), (35, hd35), (36, hd36)]) := okk tab_ok (n := 37) (hs := [(32, hd32), (33, hd33), (34, hd34), (35, hd35), (36, hd36)]) ⟨fn32, fn33, fn34, fn35, fn36, trivial⟩ mixed
set_option maxRecDepth 100000 in
theorem r8 (d : Dat hd8.pks) : runF (env 37 [(32, hd32), (33, hd33), (34, hd34), (35, hd35), (36, hd36)]) (lkU []) c8 (Try.f8).results.toList [] hd8.pks hd8.rks d = b8 d := by kernel_rfl
theorem q8 (d : Dat hd8.pks) (y : Dat hd8.rks) : (hd8.fm d = some y) = (m8 d = some y) := by kernel_rfl
theorem t8 (d : Dat hd8.pks) (y : Dat hd8.rks) (h : hd8.fm d = some y) : runF (env 37 [(32, hd32), (33, hd33), (34, hd34), (35, hd35), (36, hd36)]) (lkU []) c8 (Try.f8).results.toList [] hd8.pks hd8.rks d = some y := (r8 d).trans ((m8_eq d).symm.trans ((q8 d y).mp h))
theorem gn8 : FnG Try.prog 8 hd8 :=
  fn_g (hl := lkU []) (un := []) ok8 (fun _ => rfl) Try.func8 rfl Try.ntmps8 (by kernel_rfl) (rv := (Try.f8).results.toList) (by kernel_rfl) (by decide) (uall_at trivial) t8
/-! entail/entaillaw10.TargetMeets -/
noncomputable def c9 : Code := ((Try.f9).body).getD .skip
noncomputable def b9 (d : (List UInt8) × UInt32) : Option (Bool) :=
  bnd (m34 ()) fun y_1 =>
  cnd y_1
   (bnd (fMeets (d.1, d.2)) fun y_2 =>
   bnd (m38 (d.1, d.2)) fun y_3 =>
   some (decide (y_2 = y_3)))
   (some false)
noncomputable def m9 : ((List UInt8) × UInt32) → Option (Bool) := hide b9
theorem m9_eq (d : (List UInt8) × UInt32) : m9 d = b9 d := congrFun (hide_eq _) d
noncomputable def hd9 : Hd := ⟨[.d (.arr 32 (.int .u8)), .d (.int .u32)], [.d (.bool)], m9⟩
theorem ok9 : Okk Try.prog (env 15 [(34, hd34), (37, hd37), (38, hd38)]) := okk tab_ok (n := 15) (hs := [(34, hd34), (37, hd37), (38, hd38)]) ⟨fn34, fn37, fn38, trivial⟩ mixed
set_option maxRecDepth 100000 in
theorem r9 (d : Dat hd9.pks) : runF (env 15 [(34, hd34), (37, hd37), (38, hd38)]) (lkU []) c9 (Try.f9).results.toList [] hd9.pks hd9.rks d = b9 d := by kernel_rfl
theorem q9 (d : Dat hd9.pks) (y : Dat hd9.rks) : (hd9.fm d = some y) = (m9 d = some y) := by kernel_rfl
theorem t9 (d : Dat hd9.pks) (y : Dat hd9.rks) (h : hd9.fm d = some y) : runF (env 15 [(34, hd34), (37, hd37), (38, hd38)]) (lkU []) c9 (Try.f9).results.toList [] hd9.pks hd9.rks d = some y := (r9 d).trans ((m9_eq d).symm.trans ((q9 d y).mp h))
theorem gn9 : FnG Try.prog 9 hd9 :=
  fn_g (hl := lkU []) (un := []) ok9 (fun _ => rfl) Try.func9 rfl Try.ntmps9 (by kernel_rfl) (rv := (Try.f9).results.toList) (by kernel_rfl) (by decide) (uall_at trivial) t9
/-! entail/entaillaw10.TargetWork -/
noncomputable def c10 : Code := ((Try.f10).body).getD .skip
noncomputable def b10 (d : UInt32) : Option (Bool) :=
  bnd (m34 ()) fun y_1 =>
  cnd y_1
   (bnd (m39 d) fun y_2 =>
   bnd (m40 d) fun y_3 =>
   some (eqD (.arr 4 (.int .u64)) y_2 y_3))
   (some false)
noncomputable def m10 : UInt32 → Option (Bool) := hide b10
theorem m10_eq (d : UInt32) : m10 d = b10 d := congrFun (hide_eq _) d
noncomputable def hd10 : Hd := ⟨[.d (.int .u32)], [.d (.bool)], m10⟩
theorem ok10 : Okk Try.prog (env 11 [(34, hd34), (39, hd39), (40, hd40)]) := okk tab_ok (n := 11) (hs := [(34, hd34), (39, hd39), (40, hd40)]) ⟨fn34, fn39, fn40, trivial⟩ mixed
set_option maxRecDepth 100000 in
theorem r10 (d : Dat hd10.pks) : runF (env 11 [(34, hd34), (39, hd39), (40, hd40)]) (lkU []) c10 (Try.f10).results.toList [] hd10.pks hd10.rks d = b10 d := by kernel_rfl
theorem q10 (d : Dat hd10.pks) (y : Dat hd10.rks) : (hd10.fm d = some y) = (m10 d = some y) := by kernel_rfl
theorem t10 (d : Dat hd10.pks) (y : Dat hd10.rks) (h : hd10.fm d = some y) : runF (env 11 [(34, hd34), (39, hd39), (40, hd40)]) (lkU []) c10 (Try.f10).results.toList [] hd10.pks hd10.rks d = some y := (r10 d).trans ((m10_eq d).symm.trans ((q10 d y).mp h))
theorem gn10 : FnG Try.prog 10 hd10 :=
  fn_g (hl := lkU []) (un := []) ok10 (fun _ => rfl) Try.func10 rfl Try.ntmps10 (by kernel_rfl) (rv := (Try.f10).results.toList) (by kernel_rfl) (by decide) (uall_at trivial) t10
/-! entail/entaillaw10.TargetNext -/
noncomputable def c11 : Code := ((Try.f11).body).getD .skip
noncomputable def b11 (d : UInt32 × Int) : Option (Bool) :=
  bnd (m34 ()) fun y_1 =>
  cnd y_1
   (bnd (m41 (d.1, d.2)) fun y_2 =>
   bnd (m42 (d.1, d.2)) fun y_3 =>
   some (decide (y_2 = y_3)))
   (some false)
noncomputable def m11 : (UInt32 × Int) → Option (Bool) := hide b11
theorem m11_eq (d : UInt32 × Int) : m11 d = b11 d := congrFun (hide_eq _) d
noncomputable def hd11 : Hd := ⟨[.d (.int .u32), .d (.int .i64)], [.d (.bool)], m11⟩
theorem ok11 : Okk Try.prog (env 15 [(34, hd34), (41, hd41), (42, hd42)]) := okk tab_ok (n := 15) (hs := [(34, hd34), (41, hd41), (42, hd42)]) ⟨fn34, fn41, fn42, trivial⟩ mixed
set_option maxRecDepth 100000 in
theorem r11 (d : Dat hd11.pks) : runF (env 15 [(34, hd34), (41, hd41), (42, hd42)]) (lkU []) c11 (Try.f11).results.toList [] hd11.pks hd11.rks d = b11 d := by kernel_rfl
theorem q11 (d : Dat hd11.pks) (y : Dat hd11.rks) : (hd11.fm d = some y) = (m11 d = some y) := by kernel_rfl
theorem t11 (d : Dat hd11.pks) (y : Dat hd11.rks) (h : hd11.fm d = some y) : runF (env 15 [(34, hd34), (41, hd41), (42, hd42)]) (lkU []) c11 (Try.f11).results.toList [] hd11.pks hd11.rks d = some y := (r11 d).trans ((m11_eq d).symm.trans ((q11 d y).mp h))
theorem gn11 : FnG Try.prog 11 hd11 :=
  fn_g (hl := lkU []) (un := []) ok11 (fun _ => rfl) Try.func11 rfl Try.ntmps11 (by kernel_rfl) (rv := (Try.f11).results.toList) (by kernel_rfl) (by decide) (uall_at trivial) t11
/-! entail/entaillaw10.TargetBack -/
noncomputable def c12 : Code := ((Try.f12).body).getD .skip
def h12_0 : Sh := ⟨[.d (.bool), .d (.arr 4 (.int .u64)), .d (.arr 4 (.int .u64))], [20], [(2, [.arr 4 (.int .u64)]), (5, [.arr 4 (.int .u64)])], [], []⟩
def o12_0 : Outs := ⟨⟨[.d (.arr 4 (.int .u64))], [], [(2, [.arr 4 (.int .u64)])], [], []⟩, 0, ⟨[], [], [], [], []⟩, ⟨[.d (.bool)], [4], [], [], []⟩⟩
noncomputable def a12_0 (d : Bool × (List UInt64) × (List UInt64)) : Option (O3 ((List UInt64)) (Unit) (Bool)) :=
  cnd d.1
   (bnd (m35 d.2.2) fun y_2 =>
   bnd (m32 y_2) fun y_3 =>
   cnd (!(decide (y_3.2 = (0 : Int))))
    (some (.r false))
    (cnd (!(eqD (.arr 4 (.int .u64)) d.2.2 y_3.1))
     (some (.r false))
     (some (.n d.2.1))))
   (some (.n d.2.1))
noncomputable def l12_0 : (Bool × (List UInt64) × (List UInt64)) → Option (O3 ((List UInt64)) (Unit) (Bool)) := hide a12_0
theorem l12_0_eq (d : Bool × (List UInt64) × (List UInt64)) : l12_0 d = a12_0 d := congrFun (hide_eq _) d
noncomputable def u12_0 : UH := unit (env 75 [(31, hd31), (32, hd32), (34, hd34), (35, hd35), (43, hd43), (44, hd44)]) h12_0 o12_0 l12_0
noncomputable def b12 (d : (List UInt64) × UInt32) : Option (Bool) :=
  bnd (m32 d.2) fun y_1 =>
  bnd (l12_0 ((decide (y_1.2 = (0 : Int))), d.1, y_1.1)) fun o => (match o with
   | .n o => (let t35_4 : List UInt64 := [(0 : UInt64), (0 : UInt64), (0 : UInt64), (0 : UInt64)]
   cnd (eqD (.arr 4 (.int .u64)) o t35_4)
    (bnd (m34 ()) fun y_5 =>
    some y_5)
    (bnd (m35 o) fun y_6 =>
    bnd (m32 y_6) fun y_7 =>
    cnd (!(decide (y_7.2 = (0 : Int))))
     (some false)
     (bnd (fCmp (y_7.1, o)) fun y_8 =>
     cnd (decide ((0 : Int) < y_8))
      (some false)
      (bnd (m35 y_7.1) fun y_9 =>
      cnd (!(decide (y_9 = y_6)))
       (some false)
       (bnd (fSub (o, y_7.1)) fun y_10 =>
       bnd (m34 ()) fun y_11 =>
       cnd y_11
        (bnd (fLen y_10.1) fun y_12 =>
        bnd (fLen o) fun y_13 =>
        guard (inR .i64 (y_13 - (15 : Int))) <|
        let t71_14 : Int := (y_13 - (15 : Int))
        let t72_15 : Int := (match decide ((0 : Int) < t71_14) with | true => t71_14 | false => (0 : Int))
        some (decide (y_12 ≤ t72_15)))
        (some false))))))
   | .x _o => none
   | .r o => (some o))
noncomputable def m12 : ((List UInt64) × UInt32) → Option (Bool) := hide b12
theorem m12_eq (d : (List UInt64) × UInt32) : m12 d = b12 d := congrFun (hide_eq _) d
noncomputable def hd12 : Hd := ⟨[.d (.arr 4 (.int .u64)), .d (.int .u32)], [.d (.bool)], m12⟩
theorem ok12 : Okk Try.prog (env 75 [(31, hd31), (32, hd32), (34, hd34), (35, hd35), (43, hd43), (44, hd44)]) := okk tab_ok (n := 75) (hs := [(31, hd31), (32, hd32), (34, hd34), (35, hd35), (43, hd43), (44, hd44)]) ⟨fn31, fn32, fn34, fn35, fn43, fn44, trivial⟩ mixed
set_option maxRecDepth 100000 in
theorem e12_0 (d : Dat h12_0.ks) : condU (env 75 [(31, hd31), (32, hd32), (34, hd34), (35, hd35), (43, hd43), (44, hd44)]) (lkU []) 0 (unitAt c12 0) h12_0 o12_0 d = a12_0 d := by kernel_rfl
theorem x12_0 : UOk Try.prog (env 75 [(31, hd31), (32, hd32), (34, hd34), (35, hd35), (43, hd43), (44, hd44)]) (unitAt c12 0) u12_0 ∧ Pk Try.prog (env 75 [(31, hd31), (32, hd32), (34, hd34), (35, hd35), (43, hd43), (44, hd44)]) u12_0.pk u12_0.up :=
  cond_at ok12 (show isCond (unitAt c12 0) = true by kernel_rfl) (h := h12_0) (o := o12_0) (n := 0) (hl := lkU []) rfl (uall_at trivial) l12_0 (fun d => (e12_0 d).trans (l12_0_eq d).symm)
set_option maxRecDepth 100000 in
theorem r12 (d : Dat hd12.pks) : runF (env 75 [(31, hd31), (32, hd32), (34, hd34), (35, hd35), (43, hd43), (44, hd44)]) (lkU [(0, u12_0)]) c12 (Try.f12).results.toList [] hd12.pks hd12.rks d = b12 d := by kernel_rfl
theorem q12 (d : Dat hd12.pks) (y : Dat hd12.rks) : (hd12.fm d = some y) = (m12 d = some y) := by kernel_rfl
theorem t12 (d : Dat hd12.pks) (y : Dat hd12.rks) (h : hd12.fm d = some y) : runF (env 75 [(31, hd31), (32, hd32), (34, hd34), (35, hd35), (43, hd43), (44, hd44)]) (lkU [(0, u12_0)]) c12 (Try.f12).results.toList [] hd12.pks hd12.rks d = some y := (r12 d).trans ((m12_eq d).symm.trans ((q12 d y).mp h))
theorem gn12 : FnG Try.prog 12 hd12 :=
  fn_g (hl := lkU [(0, u12_0)]) (un := []) ok12 (fun _ => rfl) Try.func12 rfl Try.ntmps12 (by kernel_rfl) (rv := (Try.f12).results.toList) (by kernel_rfl) (by decide) (uall_at ⟨⟨_, Nat.le_of_ble_eq_true rfl, (show (units c12)[0]? = some (unitAt c12 0) by kernel_rfl), x12_0⟩, trivial⟩) t12
/-! entail/entaillaw10.TargetHarder -/
noncomputable def c13 : Code := ((Try.f13).body).getD .skip
def h13_5 : Sh := ⟨[.d (.int .u32), .d (.arr 4 (.int .u64))], [1], [(11, [.arr 4 (.int .u64)])], [], []⟩
def o13_5 : Outs := ⟨⟨[.d (.int .u32), .d (.arr 4 (.int .u64)), .d (.arr 4 (.int .u64)), .d (.arr 4 (.int .u64))], [1], [(11, [.arr 4 (.int .u64)]), (13, [.arr 4 (.int .u64)]), (14, [.arr 4 (.int .u64)])], [], []⟩, 0, ⟨[], [], [], [], []⟩, ⟨[], [], [], [], []⟩⟩
def p13_5 : Plan := (.op 0 (.op 2 (.alt (.op 1 (.alt (.op 3 (.op 4 (.op 5 (.op 6 (.alt (.op 7 (.op 8 (.op 9 (.op 10 .fin)))) (.op 8 (.op 7 (.op 9 (.op 10 .fin))))))))) (.alt (.op 7 (.alt (.op 3 (.op 4 (.op 5 (.op 6 (.op 8 (.op 9 (.op 10 .fin))))))) (.op 8 (.op 3 (.op 4 (.op 5 (.op 6 (.op 9 (.op 10 .fin))))))))) (.op 8 (.alt (.op 3 (.op 4 (.op 5 (.op 6 (.op 7 (.op 9 (.op 10 .fin))))))) (.op 7 (.op 3 (.op 4 (.op 5 (.op 6 (.op 9 (.op 10 .fin)))))))))))) (.alt (.op 7 (.alt (.op 1 (.alt (.op 3 (.op 4 (.op 5 (.op 6 (.op 8 (.op 9 (.op 10 .fin))))))) (.op 8 (.op 3 (.op 4 (.op 5 (.op 6 (.op 9 (.op 10 .fin))))))))) (.op 8 (.op 1 (.op 3 (.op 4 (.op 5 (.op 6 (.op 9 (.op 10 .fin)))))))))) (.op 8 (.alt (.op 1 (.alt (.op 3 (.op 4 (.op 5 (.op 6 (.op 7 (.op 9 (.op 10 .fin))))))) (.op 7 (.op 3 (.op 4 (.op 5 (.op 6 (.op 9 (.op 10 .fin))))))))) (.op 7 (.op 1 (.op 3 (.op 4 (.op 5 (.op 6 (.op 9 (.op 10 .fin))))))))))))))
noncomputable def a13_5 (d : UInt32 × (List UInt64)) : Option (O3 (UInt32 × (List UInt64) × (List UInt64) × (List UInt64)) (Unit) (Unit)) :=
  bnd (m39 d.1) fun y_97 =>
  bnd (fMul (y_97, d.2)) fun y_98 =>
  some (.n (d.1, d.2, y_98.1, y_98.2))
noncomputable def l13_5 : (UInt32 × (List UInt64)) → Option (O3 (UInt32 × (List UInt64) × (List UInt64) × (List UInt64)) (Unit) (Unit)) := hide a13_5
theorem l13_5_eq (d : UInt32 × (List UInt64)) : l13_5 d = a13_5 d := congrFun (hide_eq _) d
noncomputable def g13_5 (d : UInt32 × (List UInt64)) : Option (List (O3 (UInt32 × (List UInt64) × (List UInt64) × (List UInt64)) (Unit) (Unit))) :=
  bnd
   (bnd (m39 d.1) fun y_100 =>
   bnd
    (bnd (fMul (y_100, d.2)) fun y_102 =>
    bnd
     (some [.n (d.1, d.2, y_102.1, y_102.2)]) fun x_103 =>
    bnd
     (some [.n (d.1, d.2, y_102.1, y_102.2)]) fun x_104 =>
    some (x_103 ++ x_104)) fun x_101 =>
   bnd
    (bnd
     (bnd
      (bnd (fMul (y_100, d.2)) fun y_107 =>
      some [.n (d.1, d.2, y_107.1, y_107.2)]) fun x_106 =>
     bnd
      (bnd (fMul (y_100, d.2)) fun y_108 =>
      some [.n (d.1, d.2, y_108.1, y_108.2)]) fun x_109 =>
     some (x_106 ++ x_109)) fun x_105 =>
    bnd
     (bnd
      (bnd (fMul (y_100, d.2)) fun y_111 =>
      some [.n (d.1, d.2, y_111.1, y_111.2)]) fun x_110 =>
     bnd
      (bnd (fMul (y_100, d.2)) fun y_112 =>
      some [.n (d.1, d.2, y_112.1, y_112.2)]) fun x_113 =>
     some (x_110 ++ x_113)) fun x_114 =>
    some (x_105 ++ x_114)) fun x_115 =>
   some (x_101 ++ x_115)) fun x_99 =>
  bnd
   (bnd
    (bnd
     (bnd (m39 d.1) fun y_118 =>
     bnd
      (bnd (fMul (y_118, d.2)) fun y_120 =>
      some [.n (d.1, d.2, y_120.1, y_120.2)]) fun x_119 =>
     bnd
      (bnd (fMul (y_118, d.2)) fun y_121 =>
      some [.n (d.1, d.2, y_121.1, y_121.2)]) fun x_122 =>
     some (x_119 ++ x_122)) fun x_117 =>
    bnd
     (bnd (m39 d.1) fun y_123 =>
     bnd (fMul (y_123, d.2)) fun y_124 =>
     some [.n (d.1, d.2, y_124.1, y_124.2)]) fun x_125 =>
    some (x_117 ++ x_125)) fun x_116 =>
   bnd
    (bnd
     (bnd (m39 d.1) fun y_127 =>
     bnd
      (bnd (fMul (y_127, d.2)) fun y_129 =>
      some [.n (d.1, d.2, y_129.1, y_129.2)]) fun x_128 =>
     bnd
      (bnd (fMul (y_127, d.2)) fun y_130 =>
      some [.n (d.1, d.2, y_130.1, y_130.2)]) fun x_131 =>
     some (x_128 ++ x_131)) fun x_126 =>
    bnd
     (bnd (m39 d.1) fun y_132 =>
     bnd (fMul (y_132, d.2)) fun y_133 =>
     some [.n (d.1, d.2, y_133.1, y_133.2)]) fun x_134 =>
    some (x_126 ++ x_134)) fun x_135 =>
   some (x_116 ++ x_135)) fun x_136 =>
  some (x_99 ++ x_136)
theorem j13_5 (d : UInt32 × (List UInt64)) (y : O3 (UInt32 × (List UInt64) × (List UInt64) × (List UInt64)) (Unit) (Unit)) (hd : l13_5 d = some y) : ∃ r, g13_5 d = some r ∧ ∀ x ∈ r, x = y := by
  rw [l13_5_eq] at hd
  unfold a13_5 at hd
  obtain ⟨y_97, h0, hd⟩ := bnd_some hd
  obtain ⟨y_98, h1, hd⟩ := bnd_some hd
  obtain rfl := Option.some.inj hd
  refine ⟨_, by unfold g13_5; simp only [h0, h1, bnd_s]; rfl, by simp⟩
noncomputable def u13_5 : UH := unit (env 139 [(31, hd31), (32, hd32), (34, hd34), (37, hd37), (39, hd39), (45, hd45), (46, hd46)]) h13_5 o13_5 l13_5
def h13_1 : Sh := ⟨[.d (.int .u32), .d (.int .u32), .d (.bool), .d (.arr 32 (.int .u8)), .d (.arr 4 (.int .u64)), .d (.arr 4 (.int .u64))], [0, 1, 55], [(5, [.arr 32 (.int .u8)]), (7, [.arr 4 (.int .u64)]), (9, [.arr 4 (.int .u64)])], [], []⟩
def o13_1 : Outs := ⟨⟨[.d (.int .u32), .d (.int .u32), .d (.arr 32 (.int .u8)), .d (.arr 4 (.int .u64))], [0, 1], [(5, [.arr 32 (.int .u8)]), (9, [.arr 4 (.int .u64)])], [], []⟩, 0, ⟨[], [], [], [], []⟩, ⟨[], [], [], [], []⟩⟩
noncomputable def a13_1 (d : UInt32 × UInt32 × Bool × (List UInt8) × (List UInt64) × (List UInt64)) : Option (O3 (UInt32 × UInt32 × (List UInt8) × (List UInt64)) (Unit) (Unit)) :=
  cnd d.2.2.1
   (some (.n (d.2.1, d.1, d.2.2.2.1, d.2.2.2.2.1)))
   (some (.n (d.1, d.2.1, d.2.2.2.1, d.2.2.2.2.2)))
noncomputable def l13_1 : (UInt32 × UInt32 × Bool × (List UInt8) × (List UInt64) × (List UInt64)) → Option (O3 (UInt32 × UInt32 × (List UInt8) × (List UInt64)) (Unit) (Unit)) := hide a13_1
theorem l13_1_eq (d : UInt32 × UInt32 × Bool × (List UInt8) × (List UInt64) × (List UInt64)) : l13_1 d = a13_1 d := congrFun (hide_eq _) d
noncomputable def u13_1 : UH := unit (env 139 [(31, hd31), (32, hd32), (34, hd34), (37, hd37), (39, hd39), (45, hd45), (46, hd46)]) h13_1 o13_1 l13_1
noncomputable def b13 (d : UInt32 × UInt32 × (List UInt8)) : Option (Bool) :=
  bnd (m32 d.1) fun y_1 =>
  bnd (m32 d.2.1) fun y_2 =>
  cnd (!(decide (y_1.2 = (0 : Int))))
   (bnd (m34 ()) fun y_3 =>
   cnd y_3
    (cnd (decide (y_1.2 = (0 : Int)))
     (some true)
     (bnd (m39 d.1) fun y_4 =>
     let t42_5 : List UInt64 := [(0 : UInt64), (0 : UInt64), (0 : UInt64), (0 : UInt64)]
     cnd (eqD (.arr 4 (.int .u64)) y_4 t42_5)
      (bnd (fMeets (d.2.2, d.1)) fun y_6 =>
      some (!y_6))
      (some false)))
    (some false))
   (cnd (!(decide (y_2.2 = (0 : Int))))
    (bnd (m34 ()) fun y_7 =>
    cnd y_7
     (cnd (decide (y_1.2 = (0 : Int)))
      (some true)
      (bnd (m39 d.1) fun y_8 =>
      let t42_9 : List UInt64 := [(0 : UInt64), (0 : UInt64), (0 : UInt64), (0 : UInt64)]
      cnd (eqD (.arr 4 (.int .u64)) y_8 t42_9)
       (bnd (fMeets (d.2.2, d.1)) fun y_10 =>
       some (!y_10))
       (some false)))
     (some false))
    (bnd (fCmp (y_1.1, y_2.1)) fun y_11 =>
    bnd (l13_1 (d.1, d.2.1, (decide ((0 : Int) < y_11)), d.2.2, y_1.1, y_2.1)) fun o => (match o with
     | .n o => (bnd (m39 o.1) fun y_12 =>
     bnd (m39 o.2.1) fun y_13 =>
     bnd (fCmp (y_12, y_13)) fun y_14 =>
     cnd (decide (y_14 < (0 : Int)))
      (some false)
      (bnd (fMeets (o.2.2.1, o.1)) fun y_15 =>
      cnd y_15
       (bnd (fMeets (o.2.2.1, o.2.1)) fun y_16 =>
       cnd (!y_16)
        (some false)
        (let t79_17 : List UInt64 := [(1 : UInt64), (0 : UInt64), (0 : UInt64), (0 : UInt64)]
        bnd (fAdd (o.2.2.2, t79_17)) fun y_18 =>
        cnd (!(decide (y_18.2 = (0 : UInt64))))
         (some false)
         (bnd (l13_5 (o.2.1, y_18.1)) fun o => (match o with
          | .n o => (let t93_59 : List UInt64 := [(0 : UInt64), (0 : UInt64), (0 : UInt64), (0 : UInt64)]
          cnd (eqD (.arr 4 (.int .u64)) o.2.2.2 t93_59)
           (bnd (m39 o.1) fun y_60 =>
           let t108_61 : List UInt64 := [(1 : UInt64), (0 : UInt64), (0 : UInt64), (0 : UInt64)]
           bnd (fAdd (y_60, t108_61)) fun y_62 =>
           bnd (fMul (y_62.1, o.2.1)) fun y_63 =>
           let t119_64 : List UInt64 := [(1 : UInt64), (0 : UInt64), (0 : UInt64), (0 : UInt64)]
           bnd (fCmp (y_63.2, t119_64)) fun y_65 =>
           cnd (decide ((0 : Int) < y_65))
            (bnd (m34 ()) fun y_66 =>
            cnd y_66
             (some true)
             (some false))
            (let t124_67 : List UInt64 := [(1 : UInt64), (0 : UInt64), (0 : UInt64), (0 : UInt64)]
            cnd (eqD (.arr 4 (.int .u64)) y_63.2 t124_67)
             (let t128_68 : List UInt64 := [(0 : UInt64), (0 : UInt64), (0 : UInt64), (0 : UInt64)]
             bnd (m34 ()) fun y_69 =>
             cnd y_69
              (some (!(eqD (.arr 4 (.int .u64)) y_63.1 t128_68)))
              (some false))
             (bnd (m34 ()) fun y_70 =>
             cnd y_70
              (some false)
              (some false))))
           (let t97_71 : List UInt64 := [(1 : UInt64), (0 : UInt64), (0 : UInt64), (0 : UInt64)]
           cnd (eqD (.arr 4 (.int .u64)) o.2.2.2 t97_71)
            (let t101_72 : List UInt64 := [(0 : UInt64), (0 : UInt64), (0 : UInt64), (0 : UInt64)]
            bnd (m39 o.1) fun y_73 =>
            let t108_74 : List UInt64 := [(1 : UInt64), (0 : UInt64), (0 : UInt64), (0 : UInt64)]
            bnd (fAdd (y_73, t108_74)) fun y_75 =>
            bnd (fMul (y_75.1, o.2.1)) fun y_76 =>
            let t119_77 : List UInt64 := [(1 : UInt64), (0 : UInt64), (0 : UInt64), (0 : UInt64)]
            bnd (fCmp (y_76.2, t119_77)) fun y_78 =>
            cnd (decide ((0 : Int) < y_78))
             (bnd (m34 ()) fun y_79 =>
             cnd y_79
              (cnd (eqD (.arr 4 (.int .u64)) o.2.2.1 t101_72)
               (some true)
               (some false))
              (some false))
             (let t124_80 : List UInt64 := [(1 : UInt64), (0 : UInt64), (0 : UInt64), (0 : UInt64)]
             cnd (eqD (.arr 4 (.int .u64)) y_76.2 t124_80)
              (let t128_81 : List UInt64 := [(0 : UInt64), (0 : UInt64), (0 : UInt64), (0 : UInt64)]
              bnd (m34 ()) fun y_82 =>
              cnd y_82
               (cnd (eqD (.arr 4 (.int .u64)) o.2.2.1 t101_72)
                (some (!(eqD (.arr 4 (.int .u64)) y_76.1 t128_81)))
                (some false))
               (some false))
              (bnd (m34 ()) fun y_83 =>
              cnd y_83
               (cnd (eqD (.arr 4 (.int .u64)) o.2.2.1 t101_72)
                (some false)
                (some false))
               (some false))))
            (bnd (m39 o.1) fun y_84 =>
            let t108_85 : List UInt64 := [(1 : UInt64), (0 : UInt64), (0 : UInt64), (0 : UInt64)]
            bnd (fAdd (y_84, t108_85)) fun y_86 =>
            bnd (fMul (y_86.1, o.2.1)) fun y_87 =>
            let t119_88 : List UInt64 := [(1 : UInt64), (0 : UInt64), (0 : UInt64), (0 : UInt64)]
            bnd (fCmp (y_87.2, t119_88)) fun y_89 =>
            cnd (decide ((0 : Int) < y_89))
             (bnd (m34 ()) fun y_90 =>
             cnd y_90
              (some false)
              (some false))
             (let t124_91 : List UInt64 := [(1 : UInt64), (0 : UInt64), (0 : UInt64), (0 : UInt64)]
             cnd (eqD (.arr 4 (.int .u64)) y_87.2 t124_91)
              (let _t128_92 : List UInt64 := [(0 : UInt64), (0 : UInt64), (0 : UInt64), (0 : UInt64)]
              bnd (m34 ()) fun y_93 =>
              cnd y_93
               (some false)
               (some false))
              (bnd (m34 ()) fun y_94 =>
              cnd y_94
               (some false)
               (some false))))))
          | .x _o => none
          | .r _o => none))))
       (let t79_95 : List UInt64 := [(1 : UInt64), (0 : UInt64), (0 : UInt64), (0 : UInt64)]
       bnd (fAdd (o.2.2.2, t79_95)) fun y_96 =>
       cnd (!(decide (y_96.2 = (0 : UInt64))))
        (some false)
        (bnd (l13_5 (o.2.1, y_96.1)) fun o => (match o with
         | .n o => (let t93_137 : List UInt64 := [(0 : UInt64), (0 : UInt64), (0 : UInt64), (0 : UInt64)]
         cnd (eqD (.arr 4 (.int .u64)) o.2.2.2 t93_137)
          (bnd (m39 o.1) fun y_138 =>
          let t108_139 : List UInt64 := [(1 : UInt64), (0 : UInt64), (0 : UInt64), (0 : UInt64)]
          bnd (fAdd (y_138, t108_139)) fun y_140 =>
          bnd (fMul (y_140.1, o.2.1)) fun y_141 =>
          let t119_142 : List UInt64 := [(1 : UInt64), (0 : UInt64), (0 : UInt64), (0 : UInt64)]
          bnd (fCmp (y_141.2, t119_142)) fun y_143 =>
          cnd (decide ((0 : Int) < y_143))
           (bnd (m34 ()) fun y_144 =>
           cnd y_144
            (some true)
            (some false))
           (let t124_145 : List UInt64 := [(1 : UInt64), (0 : UInt64), (0 : UInt64), (0 : UInt64)]
           cnd (eqD (.arr 4 (.int .u64)) y_141.2 t124_145)
            (let t128_146 : List UInt64 := [(0 : UInt64), (0 : UInt64), (0 : UInt64), (0 : UInt64)]
            bnd (m34 ()) fun y_147 =>
            cnd y_147
             (some (!(eqD (.arr 4 (.int .u64)) y_141.1 t128_146)))
             (some false))
            (bnd (m34 ()) fun y_148 =>
            cnd y_148
             (some false)
             (some false))))
          (let t97_149 : List UInt64 := [(1 : UInt64), (0 : UInt64), (0 : UInt64), (0 : UInt64)]
          cnd (eqD (.arr 4 (.int .u64)) o.2.2.2 t97_149)
           (let t101_150 : List UInt64 := [(0 : UInt64), (0 : UInt64), (0 : UInt64), (0 : UInt64)]
           bnd (m39 o.1) fun y_151 =>
           let t108_152 : List UInt64 := [(1 : UInt64), (0 : UInt64), (0 : UInt64), (0 : UInt64)]
           bnd (fAdd (y_151, t108_152)) fun y_153 =>
           bnd (fMul (y_153.1, o.2.1)) fun y_154 =>
           let t119_155 : List UInt64 := [(1 : UInt64), (0 : UInt64), (0 : UInt64), (0 : UInt64)]
           bnd (fCmp (y_154.2, t119_155)) fun y_156 =>
           cnd (decide ((0 : Int) < y_156))
            (bnd (m34 ()) fun y_157 =>
            cnd y_157
             (cnd (eqD (.arr 4 (.int .u64)) o.2.2.1 t101_150)
              (some true)
              (some false))
             (some false))
            (let t124_158 : List UInt64 := [(1 : UInt64), (0 : UInt64), (0 : UInt64), (0 : UInt64)]
            cnd (eqD (.arr 4 (.int .u64)) y_154.2 t124_158)
             (let t128_159 : List UInt64 := [(0 : UInt64), (0 : UInt64), (0 : UInt64), (0 : UInt64)]
             bnd (m34 ()) fun y_160 =>
             cnd y_160
              (cnd (eqD (.arr 4 (.int .u64)) o.2.2.1 t101_150)
               (some (!(eqD (.arr 4 (.int .u64)) y_154.1 t128_159)))
               (some false))
              (some false))
             (bnd (m34 ()) fun y_161 =>
             cnd y_161
              (cnd (eqD (.arr 4 (.int .u64)) o.2.2.1 t101_150)
               (some false)
               (some false))
              (some false))))
           (bnd (m39 o.1) fun y_162 =>
           let t108_163 : List UInt64 := [(1 : UInt64), (0 : UInt64), (0 : UInt64), (0 : UInt64)]
           bnd (fAdd (y_162, t108_163)) fun y_164 =>
           bnd (fMul (y_164.1, o.2.1)) fun y_165 =>
           let t119_166 : List UInt64 := [(1 : UInt64), (0 : UInt64), (0 : UInt64), (0 : UInt64)]
           bnd (fCmp (y_165.2, t119_166)) fun y_167 =>
           cnd (decide ((0 : Int) < y_167))
            (bnd (m34 ()) fun y_168 =>
            cnd y_168
             (some false)
             (some false))
            (let t124_169 : List UInt64 := [(1 : UInt64), (0 : UInt64), (0 : UInt64), (0 : UInt64)]
            cnd (eqD (.arr 4 (.int .u64)) y_165.2 t124_169)
             (let _t128_170 : List UInt64 := [(0 : UInt64), (0 : UInt64), (0 : UInt64), (0 : UInt64)]
             bnd (m34 ()) fun y_171 =>
             cnd y_171
              (some false)
              (some false))
             (bnd (m34 ()) fun y_172 =>
             cnd y_172
              (some false)
              (some false))))))
         | .x _o => none
         | .r _o => none)))))
     | .x _o => none
     | .r _o => none)))
noncomputable def m13 : (UInt32 × UInt32 × (List UInt8)) → Option (Bool) := hide b13
theorem m13_eq (d : UInt32 × UInt32 × (List UInt8)) : m13 d = b13 d := congrFun (hide_eq _) d
noncomputable def hd13 : Hd := ⟨[.d (.int .u32), .d (.int .u32), .d (.arr 32 (.int .u8))], [.d (.bool)], m13⟩
theorem ok13 : Okk Try.prog (env 139 [(31, hd31), (32, hd32), (34, hd34), (37, hd37), (39, hd39), (45, hd45), (46, hd46)]) := okk tab_ok (n := 139) (hs := [(31, hd31), (32, hd32), (34, hd34), (37, hd37), (39, hd39), (45, hd45), (46, hd46)]) ⟨fn31, fn32, fn34, fn37, fn39, fn45, fn46, trivial⟩ mixed
set_option maxRecDepth 100000 in
theorem e13_5 (d : Dat h13_5.ks) : regF (env 139 [(31, hd31), (32, hd32), (34, hd34), (37, hd37), (39, hd39), (45, hd45), (46, hd46)]) (unitAt c13 5) p13_5 h13_5 o13_5 d = g13_5 d := by kernel_rfl
theorem x13_5 : UOk Try.prog (env 139 [(31, hd31), (32, hd32), (34, hd34), (37, hd37), (39, hd39), (45, hd45), (46, hd46)]) (unitAt c13 5) u13_5 ∧ Pk Try.prog (env 139 [(31, hd31), (32, hd32), (34, hd34), (37, hd37), (39, hd39), (45, hd45), (46, hd46)]) u13_5.pk u13_5.up :=
  reg_at ok13 (show regOk (env 139 [(31, hd31), (32, hd32), (34, hd34), (37, hd37), (39, hd39), (45, hd45), (46, hd46)]) (unitAt c13 5) p13_5 = true by kernel_rfl) (h := h13_5) (o := o13_5) l13_5 (fun d y hy => by obtain ⟨r, h1, h2⟩ := j13_5 d y hy; exact ⟨r, (e13_5 d).trans h1, h2⟩)
set_option maxRecDepth 100000 in
theorem e13_1 (d : Dat h13_1.ks) : condU (env 139 [(31, hd31), (32, hd32), (34, hd34), (37, hd37), (39, hd39), (45, hd45), (46, hd46)]) (lkU []) 1 (unitAt c13 1) h13_1 o13_1 d = a13_1 d := by kernel_rfl
theorem x13_1 : UOk Try.prog (env 139 [(31, hd31), (32, hd32), (34, hd34), (37, hd37), (39, hd39), (45, hd45), (46, hd46)]) (unitAt c13 1) u13_1 ∧ Pk Try.prog (env 139 [(31, hd31), (32, hd32), (34, hd34), (37, hd37), (39, hd39), (45, hd45), (46, hd46)]) u13_1.pk u13_1.up :=
  cond_at ok13 (show isCond (unitAt c13 1) = true by kernel_rfl) (h := h13_1) (o := o13_1) (n := 1) (hl := lkU []) rfl (uall_at trivial) l13_1 (fun d => (e13_1 d).trans (l13_1_eq d).symm)
set_option maxRecDepth 100000 in
theorem r13 (d : Dat hd13.pks) : runF (env 139 [(31, hd31), (32, hd32), (34, hd34), (37, hd37), (39, hd39), (45, hd45), (46, hd46)]) (lkU [(1, u13_1), (5, u13_5)]) c13 (Try.f13).results.toList [] hd13.pks hd13.rks d = b13 d := by kernel_rfl
theorem q13 (d : Dat hd13.pks) (y : Dat hd13.rks) : (hd13.fm d = some y) = (m13 d = some y) := by kernel_rfl
theorem t13 (d : Dat hd13.pks) (y : Dat hd13.rks) (h : hd13.fm d = some y) : runF (env 139 [(31, hd31), (32, hd32), (34, hd34), (37, hd37), (39, hd39), (45, hd45), (46, hd46)]) (lkU [(1, u13_1), (5, u13_5)]) c13 (Try.f13).results.toList [] hd13.pks hd13.rks d = some y := (r13 d).trans ((m13_eq d).symm.trans ((q13 d y).mp h))
theorem gn13 : FnG Try.prog 13 hd13 :=
  fn_g (hl := lkU [(1, u13_1), (5, u13_5)]) (un := []) ok13 (fun _ => rfl) Try.func13 rfl Try.ntmps13 (by kernel_rfl) (rv := (Try.f13).results.toList) (by kernel_rfl) (by decide) (uall_at ⟨⟨_, Nat.le_of_ble_eq_true rfl, (show (units c13)[1]? = some (unitAt c13 1) by kernel_rfl), x13_1⟩, ⟨_, Nat.le_of_ble_eq_true rfl, (show (units c13)[5]? = some (unitAt c13 5) by kernel_rfl), x13_5⟩, trivial⟩) t13
end Go.Proofs.Ytpfoeeiacfadfaa.Q.T.U
