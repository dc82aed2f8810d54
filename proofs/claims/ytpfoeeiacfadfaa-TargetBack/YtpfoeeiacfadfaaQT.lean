/-
  Written by qgen.py: functions reckoned.
-/
import Derived.Test.YtpfoeeiacfadfaaQS
import Derived.Test.YtpfoeeiacfadfaaRows
namespace Go.Proofs.Ytpfoeeiacfadfaa.Q.T
open Go.RowKit
theorem e2 : EF Try.prog 2 (.int .i64) := EF.mk' (b := 8) (by kernel_rfl) rfl (by kernel_rfl)
theorem v2 : Try.prog.underlying 2 = some (.int .i64) := by kernel_rfl
theorem e3 : EF Try.prog 3 (.int .i64) := EF.mk' (b := 8) (by kernel_rfl) rfl (by kernel_rfl)
theorem v3 : Try.prog.underlying 3 = some (.int .i64) := by kernel_rfl
theorem e5 : EF Try.prog 5 (.int .u8) := EF.mk' (b := 1) (by kernel_rfl) rfl (by kernel_rfl)
theorem v5 : Try.prog.underlying 5 = some (.int .u8) := by kernel_rfl
theorem e22 : EF Try.prog 22 (.int .u64) := EF.mk' (b := 8) (by kernel_rfl) rfl (by kernel_rfl)
theorem v22 : Try.prog.underlying 22 = some (.int .u64) := by kernel_rfl
theorem e24 : EF Try.prog 24 (.arr 4 (.int .u64)) := EF.mk' (b := 32) (by kernel_rfl) rfl (by kernel_rfl)
theorem v24 : Try.prog.underlying 24 = some (.array 4 22) := by kernel_rfl
theorem e30 : EF Try.prog 30 (.arr 32 (.int .u8)) := EF.mk' (b := 32) (by kernel_rfl) rfl (by kernel_rfl)
theorem v30 : Try.prog.underlying 30 = some (.array 32 5) := by kernel_rfl
theorem e38 : EF Try.prog 38 (.int .u32) := EF.mk' (b := 4) (by kernel_rfl) rfl (by kernel_rfl)
theorem v38 : Try.prog.underlying 38 = some (.int .u32) := by kernel_rfl
theorem e60 : EF Try.prog 60 (.int .u64) := EF.mk' (b := 8) (by kernel_rfl) rfl (by kernel_rfl)
theorem v60 : Try.prog.underlying 60 = some (.int .u64) := by kernel_rfl
theorem e62 : EF Try.prog 62 (.sl (.int .u8)) := EF.mk' (b := 24) (by kernel_rfl) rfl (by kernel_rfl)
theorem v62 : Try.prog.underlying 62 = some (.slice 5) := by kernel_rfl
def tab : List (Nat × TI) := [(2, ⟨.int .i64, 0, []⟩), (3, ⟨.int .i64, 0, []⟩), (5, ⟨.int .u8, 0, []⟩), (22, ⟨.int .u64, 0, []⟩), (24, ⟨.arr 4 (.int .u64), 22, []⟩), (30, ⟨.arr 32 (.int .u8), 5, []⟩), (38, ⟨.int .u32, 0, []⟩), (60, ⟨.int .u64, 0, []⟩), (62, ⟨.sl (.int .u8), 5, []⟩)]
theorem tab_ok : Each0 (TRow Try.prog) tab := ⟨⟨⟨e2, v2⟩, fun _ => ⟨(.int v2), by decide, by kernel_rfl⟩⟩,
  ⟨⟨e3, v3⟩, fun _ => ⟨(.int v3), by decide, by kernel_rfl⟩⟩,
  ⟨⟨e5, v5⟩, fun _ => ⟨(.int v5), by decide, by kernel_rfl⟩⟩,
  ⟨⟨e22, v22⟩, fun _ => ⟨(.int v22), by decide, by kernel_rfl⟩⟩,
  ⟨⟨e24, v24, e22, by decide⟩, fun _ => ⟨(.arr v24 e22 (.int v22)), by decide, by kernel_rfl⟩⟩,
  ⟨⟨e30, v30, e5, by decide⟩, fun _ => ⟨(.arr v30 e5 (.int v5)), by decide, by kernel_rfl⟩⟩,
  ⟨⟨e38, v38⟩, fun _ => ⟨(.int v38), by decide, by kernel_rfl⟩⟩,
  ⟨⟨e60, v60⟩, fun _ => ⟨(.int v60), by decide, by kernel_rfl⟩⟩,
  ⟨⟨e62, v62, e5, by decide, v5⟩, fun h => (by cases h)⟩,
  trivial⟩
def env (n : Nat) (hs : List (Nat × Hd)) : Env := ⟨n, lkT tab, lkT hs, fun _ => none⟩
theorem mixed : Try.prog.follows .mixedOrders = true := by kernel_rfl
theorem okk (ht : Each0 (TRow Try.prog) tab) {n : Nat} {hs : List (Nat × Hd)} (h : Each0 (fun p => FnOk Try.prog p.1 p.2) hs) (hm : Try.prog.follows .mixedOrders = true) : Okk Try.prog (env n hs) := ⟨⟨env_ok ht _ _ _, fun _ _ hf => lkT_each h hf⟩, hm⟩
/-! entail/entailref06.Div -/
noncomputable def c66 : Code := ((Try.f66).body).getD .skip
def h66_4 : Sh := ⟨[.d (.int .i64), .d (.int .u64), .d (.bool), .d (.arr 4 (.int .u64)), .d (.arr 4 (.int .u64)), .d (.arr 4 (.int .u64)), .d (.arr 4 (.int .u64)), .d (.arr 4 (.int .u64)), .d (.arr 4 (.int .u64))], [9, 12, 40], [(2, [.arr 4 (.int .u64)]), (3, [.arr 4 (.int .u64)]), (4, [.arr 4 (.int .u64)]), (5, [.arr 4 (.int .u64)]), (7, [.arr 4 (.int .u64)]), (8, [.arr 4 (.int .u64)])], [], []⟩
def o66_4 : Outs := ⟨⟨[.d (.int .i64), .d (.int .u64), .d (.arr 4 (.int .u64)), .d (.arr 4 (.int .u64)), .d (.arr 4 (.int .u64)), .d (.arr 4 (.int .u64)), .d (.arr 4 (.int .u64)), .d (.arr 4 (.int .u64))], [9, 12], [(2, [.arr 4 (.int .u64)]), (3, [.arr 4 (.int .u64)]), (4, [.arr 4 (.int .u64)]), (5, [.arr 4 (.int .u64)]), (7, [.arr 4 (.int .u64)]), (8, [.arr 4 (.int .u64)])], [], []⟩, 0, ⟨[], [], [], [], []⟩, ⟨[], [], [], [], []⟩⟩
noncomputable def a66_4 (d : Int × UInt64 × Bool × (List UInt64) × (List UInt64) × (List UInt64) × (List UInt64) × (List UInt64) × (List UInt64)) : Option (O3 (Int × UInt64 × (List UInt64) × (List UInt64) × (List UInt64) × (List UInt64) × (List UInt64) × (List UInt64)) (Unit) (Unit)) :=
  cnd d.2.2.1
   (bnd (fRSub (d.2.2.2.2.2.2.2.2, d.2.2.2.2.1)) fun y_21 =>
   some (.n (d.1, (1 : UInt64), d.2.2.2.1, d.2.2.2.2.1, d.2.2.2.2.2.1, d.2.2.2.2.2.2.1, d.2.2.2.2.2.2.2.1, y_21.1)))
   (some (.n (d.1, d.2.1, d.2.2.2.1, d.2.2.2.2.1, d.2.2.2.2.2.1, d.2.2.2.2.2.2.1, d.2.2.2.2.2.2.2.1, d.2.2.2.2.2.2.2.2)))
noncomputable def l66_4 : (Int × UInt64 × Bool × (List UInt64) × (List UInt64) × (List UInt64) × (List UInt64) × (List UInt64) × (List UInt64)) → Option (O3 (Int × UInt64 × (List UInt64) × (List UInt64) × (List UInt64) × (List UInt64) × (List UInt64) × (List UInt64)) (Unit) (Unit)) := hide a66_4
theorem l66_4_eq (d : Int × UInt64 × Bool × (List UInt64) × (List UInt64) × (List UInt64) × (List UInt64) × (List UInt64) × (List UInt64)) : l66_4 d = a66_4 d := congrFun (hide_eq _) d
noncomputable def u66_4 : UH := unit (env 55 [(57, hd57), (74, hd74), (75, hd75), (76, hd76)]) h66_4 o66_4 l66_4
def h66_3 : Sh := ⟨[.d (.int .i64), .d (.arr 4 (.int .u64)), .d (.arr 4 (.int .u64)), .d (.arr 4 (.int .u64)), .d (.arr 4 (.int .u64)), .d (.arr 4 (.int .u64)), .d (.arr 4 (.int .u64))], [9], [(2, [.arr 4 (.int .u64)]), (3, [.arr 4 (.int .u64)]), (4, [.arr 4 (.int .u64)]), (5, [.arr 4 (.int .u64)]), (7, [.arr 4 (.int .u64)]), (8, [.arr 4 (.int .u64)])], [], []⟩
def o66_3 : Outs := ⟨⟨[.d (.int .i64), .d (.int .u64), .d (.arr 4 (.int .u64)), .d (.arr 4 (.int .u64)), .d (.arr 4 (.int .u64)), .d (.arr 4 (.int .u64)), .d (.arr 4 (.int .u64)), .d (.arr 4 (.int .u64)), .d (.arr 4 (.int .u64))], [9, 11], [(2, [.arr 4 (.int .u64)]), (3, [.arr 4 (.int .u64)]), (4, [.arr 4 (.int .u64)]), (5, [.arr 4 (.int .u64)]), (7, [.arr 4 (.int .u64)]), (8, [.arr 4 (.int .u64)]), (10, [.arr 4 (.int .u64)])], [], []⟩, 0, ⟨[], [], [], [], []⟩, ⟨[], [], [], [], []⟩⟩
def p66_3 : Plan := (.op 0 (.op 1 (.op 2 (.alt (.op 3 (.alt (.op 4 (.op 5 (.op 6 (.op 7 (.op 8 (.op 9 (.op 10 .fin))))))) (.op 8 (.op 4 (.op 5 (.op 6 (.op 7 (.op 9 (.op 10 .fin))))))))) (.op 8 (.op 3 (.op 4 (.op 5 (.op 6 (.op 7 (.op 9 (.op 10 .fin))))))))))))
noncomputable def a66_3 (d : Int × (List UInt64) × (List UInt64) × (List UInt64) × (List UInt64) × (List UInt64) × (List UInt64)) : Option (O3 (Int × UInt64 × (List UInt64) × (List UInt64) × (List UInt64) × (List UInt64) × (List UInt64) × (List UInt64) × (List UInt64)) (Unit) (Unit)) :=
  bnd (m75 (d.2.1, d.1)) fun y_6 =>
  bnd (m74 (d.2.2.2.2.2.2, y_6)) fun y_7 =>
  some (.n (d.1, y_7.2, d.2.1, d.2.2.1, d.2.2.2.1, d.2.2.2.2.1, d.2.2.2.2.2.1, d.2.2.2.2.2.2, y_7.1))
noncomputable def l66_3 : (Int × (List UInt64) × (List UInt64) × (List UInt64) × (List UInt64) × (List UInt64) × (List UInt64)) → Option (O3 (Int × UInt64 × (List UInt64) × (List UInt64) × (List UInt64) × (List UInt64) × (List UInt64) × (List UInt64) × (List UInt64)) (Unit) (Unit)) := hide a66_3
theorem l66_3_eq (d : Int × (List UInt64) × (List UInt64) × (List UInt64) × (List UInt64) × (List UInt64) × (List UInt64)) : l66_3 d = a66_3 d := congrFun (hide_eq _) d
noncomputable def g66_3 (d : Int × (List UInt64) × (List UInt64) × (List UInt64) × (List UInt64) × (List UInt64) × (List UInt64)) : Option (List (O3 (Int × UInt64 × (List UInt64) × (List UInt64) × (List UInt64) × (List UInt64) × (List UInt64) × (List UInt64) × (List UInt64)) (Unit) (Unit))) :=
  bnd
   (bnd (m75 (d.2.1, d.1)) fun y_9 =>
   bnd
    (bnd (m74 (d.2.2.2.2.2.2, y_9)) fun y_11 =>
    some [.n (d.1, y_11.2, d.2.1, d.2.2.1, d.2.2.2.1, d.2.2.2.2.1, d.2.2.2.2.2.1, d.2.2.2.2.2.2, y_11.1)]) fun x_10 =>
   bnd
    (bnd (m74 (d.2.2.2.2.2.2, y_9)) fun y_12 =>
    some [.n (d.1, y_12.2, d.2.1, d.2.2.1, d.2.2.2.1, d.2.2.2.2.1, d.2.2.2.2.2.1, d.2.2.2.2.2.2, y_12.1)]) fun x_13 =>
   some (x_10 ++ x_13)) fun x_8 =>
  bnd
   (bnd (m75 (d.2.1, d.1)) fun y_14 =>
   bnd (m74 (d.2.2.2.2.2.2, y_14)) fun y_15 =>
   some [.n (d.1, y_15.2, d.2.1, d.2.2.1, d.2.2.2.1, d.2.2.2.2.1, d.2.2.2.2.2.1, d.2.2.2.2.2.2, y_15.1)]) fun x_16 =>
  some (x_8 ++ x_16)
theorem j66_3 (d : Int × (List UInt64) × (List UInt64) × (List UInt64) × (List UInt64) × (List UInt64) × (List UInt64)) (y : O3 (Int × UInt64 × (List UInt64) × (List UInt64) × (List UInt64) × (List UInt64) × (List UInt64) × (List UInt64) × (List UInt64)) (Unit) (Unit)) (hd : l66_3 d = some y) : ∃ r, g66_3 d = some r ∧ ∀ x ∈ r, x = y := by
  rw [l66_3_eq] at hd
  unfold a66_3 at hd
  obtain ⟨y_6, h0, hd⟩ := bnd_some hd
  obtain ⟨y_7, h1, hd⟩ := bnd_some hd
  obtain rfl := Option.some.inj hd
  refine ⟨_, by unfold g66_3; simp only [h0, h1, bnd_s]; rfl, by simp⟩
noncomputable def u66_3 : UH := unit (env 55 [(57, hd57), (74, hd74), (75, hd75), (76, hd76)]) h66_3 o66_3 l66_3
def h66_1 : Sh := ⟨[.d (.int .i64), .d (.arr 4 (.int .u64)), .d (.arr 4 (.int .u64)), .d (.arr 4 (.int .u64)), .d (.arr 4 (.int .u64)), .d (.arr 4 (.int .u64)), .d (.arr 4 (.int .u64))], [9], [(2, [.arr 4 (.int .u64)]), (3, [.arr 4 (.int .u64)]), (4, [.arr 4 (.int .u64)]), (5, [.arr 4 (.int .u64)]), (7, [.arr 4 (.int .u64)]), (8, [.arr 4 (.int .u64)])], [], []⟩
def o66_1 : Outs := ⟨⟨[], [], [], [], []⟩, 0, ⟨[.d (.arr 4 (.int .u64)), .d (.arr 4 (.int .u64)), .d (.arr 4 (.int .u64)), .d (.arr 4 (.int .u64))], [], [(4, [.arr 4 (.int .u64)]), (5, [.arr 4 (.int .u64)]), (7, [.arr 4 (.int .u64)]), (8, [.arr 4 (.int .u64)])], [], []⟩, ⟨[], [], [], [], []⟩⟩
noncomputable def k66_1 (f : Int × (List UInt64) × (List UInt64) × (List UInt64) × (List UInt64) × (List UInt64) × (List UInt64) → Option (O3 (Unit) ((List UInt64) × (List UInt64) × (List UInt64) × (List UInt64)) (Unit))) (d : Int × (List UInt64) × (List UInt64) × (List UInt64) × (List UInt64) × (List UInt64) × (List UInt64)) : Option (O3 (Unit) ((List UInt64) × (List UInt64) × (List UInt64) × (List UInt64)) (Unit)) :=
  cnd (decide ((0 : Int) ≤ d.1))
   (bnd (l66_3 (d.1, d.2.1, d.2.2.1, d.2.2.2.1, d.2.2.2.2.1, d.2.2.2.2.2.1, d.2.2.2.2.2.2)) fun o => (match o with
    | .n o => (cnd (decide (o.2.1 = (1 : UInt64)))
     (bnd (l66_4 (o.1, (0 : UInt64), true, o.2.2.1, o.2.2.2.1, o.2.2.2.2.1, o.2.2.2.2.2.1, o.2.2.2.2.2.2.1, o.2.2.2.2.2.2.2.2)) fun o => (match o with
      | .n o => (bnd (m74 (o.2.2.2.2.2.2.1, o.2.1)) fun y_18 =>
      guard (inR .i64 (o.1 - (1 : Int))) <|
      let t23_19 : Int := (o.1 - (1 : Int))
      f (t23_19, o.2.2.1, o.2.2.2.1, o.2.2.2.2.1, o.2.2.2.2.2.1, y_18.1, o.2.2.2.2.2.2.2))
      | .x _o => none
      | .r _o => (some (.r ()))))
     (bnd (fRCmp (o.2.2.2.2.2.2.2.2, o.2.2.2.1)) fun y_20 =>
     bnd (l66_4 (o.1, (0 : UInt64), (decide ((0 : Int) ≤ y_20)), o.2.2.1, o.2.2.2.1, o.2.2.2.2.1, o.2.2.2.2.2.1, o.2.2.2.2.2.2.1, o.2.2.2.2.2.2.2.2)) fun o => (match o with
      | .n o => (bnd (m74 (o.2.2.2.2.2.2.1, o.2.1)) fun y_22 =>
      guard (inR .i64 (o.1 - (1 : Int))) <|
      let t23_23 : Int := (o.1 - (1 : Int))
      f (t23_23, o.2.2.1, o.2.2.2.1, o.2.2.2.2.1, o.2.2.2.2.2.1, y_22.1, o.2.2.2.2.2.2.2))
      | .x _o => none
      | .r _o => (some (.r ())))))
    | .x _o => none
    | .r _o => (some (.r ()))))
   (some (.x (d.2.2.2.1, d.2.2.2.2.1, d.2.2.2.2.2.1, d.2.2.2.2.2.2)))
noncomputable def l66_1 : Int × (List UInt64) × (List UInt64) × (List UInt64) × (List UInt64) × (List UInt64) × (List UInt64) → Option (O3 (Unit) ((List UInt64) × (List UInt64) × (List UInt64) × (List UInt64)) (Unit)) := itN k66_1 fuel
noncomputable def u66_1 : UH := unit (env 55 [(57, hd57), (74, hd74), (75, hd75), (76, hd76)]) h66_1 o66_1 l66_1
noncomputable def b66 (d : (List UInt64) × (List UInt64)) : Option ((List UInt64) × (List UInt64) × Int) :=
  let t14_1 : List UInt64 := [(0 : UInt64), (0 : UInt64), (0 : UInt64), (0 : UInt64)]
  cnd (eqD (.arr 4 (.int .u64)) d.2 t14_1)
   (let t16_2 : List UInt64 := [(0 : UInt64), (0 : UInt64), (0 : UInt64), (0 : UInt64)]
   let t17_3 : List UInt64 := [(0 : UInt64), (0 : UInt64), (0 : UInt64), (0 : UInt64)]
   some (t16_2, t17_3, (1 : Int)))
   (let t18_4 : List UInt64 := [(0 : UInt64), (0 : UInt64), (0 : UInt64), (0 : UInt64)]
   let t19_5 : List UInt64 := [(0 : UInt64), (0 : UInt64), (0 : UInt64), (0 : UInt64)]
   bnd (l66_1 ((255 : Int), d.1, d.2, (List.replicate 4 (0 : UInt64)), (List.replicate 4 (0 : UInt64)), t18_4, t19_5)) fun o => (match o with
    | .n _o => none
    | .x o => (some (o.2.2.1, o.2.2.2, (0 : Int)))
    | .r _o => none))
noncomputable def m66 : ((List UInt64) × (List UInt64)) → Option ((List UInt64) × (List UInt64) × Int) := hide b66
theorem m66_eq (d : (List UInt64) × (List UInt64)) : m66 d = b66 d := congrFun (hide_eq _) d
noncomputable def hd66 : Hd := ⟨[.d (.arr 4 (.int .u64)), .d (.arr 4 (.int .u64))], [.d (.arr 4 (.int .u64)), .d (.arr 4 (.int .u64)), .d (.int .i64)], m66⟩
theorem ok66 : Okk Try.prog (env 55 [(57, hd57), (74, hd74), (75, hd75), (76, hd76)]) := okk tab_ok (n := 55) (hs := [(57, hd57), (74, hd74), (75, hd75), (76, hd76)]) ⟨fn57, fn74, fn75, fn76, trivial⟩ mixed
set_option maxRecDepth 100000 in
theorem e66_4 (d : Dat h66_4.ks) : condU (env 55 [(57, hd57), (74, hd74), (75, hd75), (76, hd76)]) (lkU []) 4 (unitAt c66 4) h66_4 o66_4 d = a66_4 d := by kernel_rfl
theorem x66_4 : UOk Try.prog (env 55 [(57, hd57), (74, hd74), (75, hd75), (76, hd76)]) (unitAt c66 4) u66_4 ∧ Pk Try.prog (env 55 [(57, hd57), (74, hd74), (75, hd75), (76, hd76)]) u66_4.pk u66_4.up :=
  cond_at ok66 (show isCond (unitAt c66 4) = true by kernel_rfl) (h := h66_4) (o := o66_4) (n := 4) (hl := lkU []) rfl (uall_at trivial) l66_4 (fun d => (e66_4 d).trans (l66_4_eq d).symm)
set_option maxRecDepth 100000 in
theorem e66_3 (d : Dat h66_3.ks) : regF (env 55 [(57, hd57), (74, hd74), (75, hd75), (76, hd76)]) (unitAt c66 3) p66_3 h66_3 o66_3 d = g66_3 d := by kernel_rfl
theorem x66_3 : UOk Try.prog (env 55 [(57, hd57), (74, hd74), (75, hd75), (76, hd76)]) (unitAt c66 3) u66_3 ∧ Pk Try.prog (env 55 [(57, hd57), (74, hd74), (75, hd75), (76, hd76)]) u66_3.pk u66_3.up :=
  reg_at ok66 (show regOk (env 55 [(57, hd57), (74, hd74), (75, hd75), (76, hd76)]) (unitAt c66 3) p66_3 = true by kernel_rfl) (h := h66_3) (o := o66_3) l66_3 (fun d y hy => by obtain ⟨r, h1, h2⟩ := j66_3 d y hy; exact ⟨r, (e66_3 d).trans h1, h2⟩)
set_option maxRecDepth 100000 in
theorem e66_1 (f : Dat h66_1.ks → Option o66_1.O) (d : Dat h66_1.ks) : loopF (env 55 [(57, hd57), (74, hd74), (75, hd75), (76, hd76)]) (lkU [(3, u66_3), (4, u66_4)]) 1 (lbody (unitAt c66 1)) h66_1 o66_1 f d = k66_1 f d := by kernel_rfl
theorem x66_1 : UOk Try.prog (env 55 [(57, hd57), (74, hd74), (75, hd75), (76, hd76)]) (unitAt c66 1) u66_1 ∧ Pk Try.prog (env 55 [(57, hd57), (74, hd74), (75, hd75), (76, hd76)]) u66_1.pk u66_1.up :=
  loop_at ok66 (show unitAt c66 1 = .loop (lbody (unitAt c66 1)) by kernel_rfl) (h := h66_1) (o := o66_1) (n := 1) (hl := lkU [(3, u66_3), (4, u66_4)]) (uall_at ⟨⟨_, Nat.le_of_ble_eq_true rfl, (show (units (lbody (unitAt c66 1)))[1]? = some (unitAt c66 3) by kernel_rfl), x66_3⟩, ⟨_, Nat.le_of_ble_eq_true rfl, (show (units (lbody (unitAt c66 1)))[2]? = some (unitAt c66 4) by kernel_rfl), x66_4⟩, trivial⟩) k66_1 fuel e66_1
set_option maxRecDepth 100000 in
theorem r66 (d : Dat hd66.pks) : runF (env 55 [(57, hd57), (74, hd74), (75, hd75), (76, hd76)]) (lkU [(1, u66_1), (3, u66_3), (4, u66_4)]) c66 (Try.f66).results.toList [] hd66.pks hd66.rks d = b66 d := by kernel_rfl
theorem q66 (d : Dat hd66.pks) (y : Dat hd66.rks) : (hd66.fm d = some y) = (m66 d = some y) := by kernel_rfl
theorem t66 (d : Dat hd66.pks) (y : Dat hd66.rks) (h : hd66.fm d = some y) : runF (env 55 [(57, hd57), (74, hd74), (75, hd75), (76, hd76)]) (lkU [(1, u66_1), (3, u66_3), (4, u66_4)]) c66 (Try.f66).results.toList [] hd66.pks hd66.rks d = some y := (r66 d).trans ((m66_eq d).symm.trans ((q66 d y).mp h))
theorem gn66 : FnG Try.prog 66 hd66 :=
  fn_g (hl := lkU [(1, u66_1), (3, u66_3), (4, u66_4)]) (un := []) ok66 (fun _ => rfl) Try.func66 rfl Try.ntmps66 (by kernel_rfl) (rv := (Try.f66).results.toList) (by kernel_rfl) (by decide) (uall_at ⟨⟨_, Nat.le_of_ble_eq_true rfl, (show (units c66)[1]? = some (unitAt c66 1) by kernel_rfl), x66_1⟩, ⟨_, Nat.le_of_ble_eq_true rfl, (show (units c66)[3]? = some (unitAt c66 3) by kernel_rfl), x66_3⟩, ⟨_, Nat.le_of_ble_eq_true rfl, (show (units c66)[4]? = some (unitAt c66 4) by kernel_rfl), x66_4⟩, trivial⟩) t66
theorem fn66 : FnOk Try.prog 66 hd66 := .inl gn66
/-! entail/entailref06.Shl -/
noncomputable def c65 : Code := ((Try.f65).body).getD .skip
def h65_0 : Sh := ⟨[.d (.int .i64), .d (.int .i64), .d (.arr 4 (.int .u64)), .d (.arr 4 (.int .u64))], [1, 5], [(2, [.arr 4 (.int .u64)]), (4, [.arr 4 (.int .u64)])], [], []⟩
def o65_0 : Outs := ⟨⟨[], [], [], [], []⟩, 0, ⟨[.d (.arr 4 (.int .u64)), .d (.arr 4 (.int .u64))], [], [(2, [.arr 4 (.int .u64)]), (4, [.arr 4 (.int .u64)])], [], []⟩, ⟨[], [], [], [], []⟩⟩
noncomputable def k65_0 (f : Int × Int × (List UInt64) × (List UInt64) → Option (O3 (Unit) ((List UInt64) × (List UInt64)) (Unit))) (d : Int × Int × (List UInt64) × (List UInt64)) : Option (O3 (Unit) ((List UInt64) × (List UInt64)) (Unit)) :=
  cnd (decide (d.2.1 < d.1))
   (cnd (decide (d.2.1 < (256 : Int)))
    (bnd (m74 (d.2.2.1, (0 : UInt64))) fun y_1 =>
    guard (inR .i64 (d.2.1 + (1 : Int))) <|
    let t14_2 : Int := (d.2.1 + (1 : Int))
    f (d.1, t14_2, y_1.1, d.2.2.2))
    (some (.x (d.2.2.1, d.2.2.2))))
   (some (.x (d.2.2.1, d.2.2.2)))
noncomputable def l65_0 : Int × Int × (List UInt64) × (List UInt64) → Option (O3 (Unit) ((List UInt64) × (List UInt64)) (Unit)) := itN k65_0 fuel
noncomputable def u65_0 : UH := unit (env 21 [(74, hd74)]) h65_0 o65_0 l65_0
noncomputable def b65 (d : (List UInt64) × Int) : Option ((List UInt64)) :=
  bnd (l65_0 (d.2, (0 : Int), d.1, (List.replicate 4 (0 : UInt64)))) fun o => (match o with
   | .n _o => none
   | .x o => (some o.1)
   | .r _o => none)
noncomputable def m65 : ((List UInt64) × Int) → Option ((List UInt64)) := hide b65
theorem m65_eq (d : (List UInt64) × Int) : m65 d = b65 d := congrFun (hide_eq _) d
noncomputable def hd65 : Hd := ⟨[.d (.arr 4 (.int .u64)), .d (.int .i64)], [.d (.arr 4 (.int .u64))], m65⟩
theorem ok65 : Okk Try.prog (env 21 [(74, hd74)]) := okk tab_ok (n := 21) (hs := [(74, hd74)]) ⟨fn74, trivial⟩ mixed
set_option maxRecDepth 100000 in
theorem e65_0 (f : Dat h65_0.ks → Option o65_0.O) (d : Dat h65_0.ks) : loopF (env 21 [(74, hd74)]) (lkU []) 0 (lbody (unitAt c65 0)) h65_0 o65_0 f d = k65_0 f d := by kernel_rfl
theorem x65_0 : UOk Try.prog (env 21 [(74, hd74)]) (unitAt c65 0) u65_0 ∧ Pk Try.prog (env 21 [(74, hd74)]) u65_0.pk u65_0.up :=
  loop_at ok65 (show unitAt c65 0 = .loop (lbody (unitAt c65 0)) by kernel_rfl) (h := h65_0) (o := o65_0) (n := 0) (hl := lkU []) (uall_at trivial) k65_0 fuel e65_0
set_option maxRecDepth 100000 in
theorem r65 (d : Dat hd65.pks) : runF (env 21 [(74, hd74)]) (lkU [(0, u65_0)]) c65 (Try.f65).results.toList [] hd65.pks hd65.rks d = b65 d := by kernel_rfl
theorem q65 (d : Dat hd65.pks) (y : Dat hd65.rks) : (hd65.fm d = some y) = (m65 d = some y) := by kernel_rfl
theorem t65 (d : Dat hd65.pks) (y : Dat hd65.rks) (h : hd65.fm d = some y) : runF (env 21 [(74, hd74)]) (lkU [(0, u65_0)]) c65 (Try.f65).results.toList [] hd65.pks hd65.rks d = some y := (r65 d).trans ((m65_eq d).symm.trans ((q65 d y).mp h))
theorem gn65 : FnG Try.prog 65 hd65 :=
  fn_g (hl := lkU [(0, u65_0)]) (un := []) ok65 (fun _ => rfl) Try.func65 rfl Try.ntmps65 (by kernel_rfl) (rv := (Try.f65).results.toList) (by kernel_rfl) (by decide) (uall_at ⟨⟨_, Nat.le_of_ble_eq_true rfl, (show (units c65)[0]? = some (unitAt c65 0) by kernel_rfl), x65_0⟩, trivial⟩) t65
theorem fn65 : FnOk Try.prog 65 hd65 := .inl gn65
/-! entail/entailref06.Bytes -/
noncomputable def c59 : Code := ((Try.f59).body).getD .skip
def h59_0 : Sh := ⟨[.d (.int .i64), .d (.arr 4 (.int .u64)), .d (.arr 32 (.int .u8)), .d (.arr 32 (.int .u8))], [4], [(1, [.arr 4 (.int .u64)]), (2, [.arr 32 (.int .u8)]), (3, [.arr 32 (.int .u8)])], [], []⟩
def o59_0 : Outs := ⟨⟨[], [], [], [], []⟩, 0, ⟨[.d (.arr 32 (.int .u8)), .d (.arr 32 (.int .u8))], [], [(2, [.arr 32 (.int .u8)]), (3, [.arr 32 (.int .u8)])], [], []⟩, ⟨[], [], [], [], []⟩⟩
noncomputable def k59_0 (f : Int × (List UInt64) × (List UInt8) × (List UInt8) → Option (O3 (Unit) ((List UInt8) × (List UInt8)) (Unit))) (d : Int × (List UInt64) × (List UInt8) × (List UInt8)) : Option (O3 (Unit) ((List UInt8) × (List UInt8)) (Unit)) :=
  cnd (decide (d.1 < (32 : Int)))
   (guard (inR .i64 ((31 : Int) - d.1)) <|
   let t11_2 : Int := ((31 : Int) - d.1)
   guard (inR .i64 (d.1.tdiv (8 : Int))) <|
   let t13_3 : Int := (Int.tdiv d.1 (8 : Int))
   guard (inB t13_3 4) <|
   let t15_4 : UInt64 := (List.getD d.2.1 t13_3.toNat (0 : UInt64))
   guard (!(decide ((8 : Int) = (0 : Int)))) <|
   let t17_5 : Int := (Int.tmod d.1 (8 : Int))
   guard (inR .i64 ((8 : Int) * t17_5)) <|
   let t18_6 : Int := ((8 : Int) * t17_5)
   guard (inR .u64 t18_6) <|
   let t19_7 : UInt64 := (ofI .u64 t18_6)
   guard (decide (0 ≤ (t19_7.toNat : Int)) && inR .u64 ((1 : Int) * 2 ^ min (t19_7.toNat : Int).toNat (IntKind.bits .u64))) <|
   let t20_8 : UInt64 := (shlK .u64 (1 : UInt64) (t19_7.toNat : Int).toNat)
   guard (!(decide (t20_8 = (0 : UInt64))) && inR .u64 ((t15_4.toNat : Int).tdiv (t20_8.toNat : Int))) <|
   let t21_9 : UInt64 := (t15_4 / t20_8)
   guard (inR .u8 (t21_9.toNat : Int)) <|
   guard (inB t11_2 32) <|
   let m2_10 : List UInt8 := (List.set d.2.2.2 t11_2.toNat t21_9.toUInt8)
   guard (inR .i64 (d.1 + (1 : Int))) <|
   let t9_11 : Int := (d.1 + (1 : Int))
   f (t9_11, d.2.1, d.2.2.1, m2_10))
   (some (.x (d.2.2.1, d.2.2.2)))
noncomputable def l59_0 : Int × (List UInt64) × (List UInt8) × (List UInt8) → Option (O3 (Unit) ((List UInt8) × (List UInt8)) (Unit)) := itN k59_0 fuel
noncomputable def u59_0 : UH := unit (env 25 []) h59_0 o59_0 l59_0
noncomputable def b59 (d : (List UInt64)) : Option ((List UInt8)) :=
  let t5_1 : List UInt8 := [(0 : UInt8), (0 : UInt8), (0 : UInt8), (0 : UInt8), (0 : UInt8), (0 : UInt8), (0 : UInt8), (0 : UInt8), (0 : UInt8), (0 : UInt8), (0 : UInt8), (0 : UInt8), (0 : UInt8), (0 : UInt8), (0 : UInt8), (0 : UInt8), (0 : UInt8), (0 : UInt8), (0 : UInt8), (0 : UInt8), (0 : UInt8), (0 : UInt8), (0 : UInt8), (0 : UInt8), (0 : UInt8), (0 : UInt8), (0 : UInt8), (0 : UInt8), (0 : UInt8), (0 : UInt8), (0 : UInt8), (0 : UInt8)]
  bnd (l59_0 ((0 : Int), d, (List.replicate 32 (0 : UInt8)), t5_1)) fun o => (match o with
   | .n _o => none
   | .x o => (some o.2)
   | .r _o => none)
noncomputable def m59 : (List UInt64) → Option ((List UInt8)) := hide b59
theorem m59_eq (d : (List UInt64)) : m59 d = b59 d := congrFun (hide_eq _) d
noncomputable def hd59 : Hd := ⟨[.d (.arr 4 (.int .u64))], [.d (.arr 32 (.int .u8))], m59⟩
theorem ok59 : Okk Try.prog (env 25 []) := okk tab_ok (n := 25) (hs := []) trivial mixed
set_option maxRecDepth 100000 in
theorem e59_0 (f : Dat h59_0.ks → Option o59_0.O) (d : Dat h59_0.ks) : loopF (env 25 []) (lkU []) 0 (lbody (unitAt c59 0)) h59_0 o59_0 f d = k59_0 f d := by kernel_rfl
theorem x59_0 : UOk Try.prog (env 25 []) (unitAt c59 0) u59_0 ∧ Pk Try.prog (env 25 []) u59_0.pk u59_0.up :=
  loop_at ok59 (show unitAt c59 0 = .loop (lbody (unitAt c59 0)) by kernel_rfl) (h := h59_0) (o := o59_0) (n := 0) (hl := lkU []) (uall_at trivial) k59_0 fuel e59_0
set_option maxRecDepth 100000 in
theorem r59 (d : Dat hd59.pks) : runF (env 25 []) (lkU [(0, u59_0)]) c59 (Try.f59).results.toList [] hd59.pks hd59.rks d = b59 d := by kernel_rfl
theorem q59 (d : Dat hd59.pks) (y : Dat hd59.rks) : (hd59.fm d = some y) = (m59 d = some y) := by kernel_rfl
theorem t59 (d : Dat hd59.pks) (y : Dat hd59.rks) (h : hd59.fm d = some y) : runF (env 25 []) (lkU [(0, u59_0)]) c59 (Try.f59).results.toList [] hd59.pks hd59.rks d = some y := (r59 d).trans ((m59_eq d).symm.trans ((q59 d y).mp h))
theorem gn59 : FnG Try.prog 59 hd59 :=
  fn_g (hl := lkU [(0, u59_0)]) (un := []) ok59 (fun _ => rfl) Try.func59 rfl Try.ntmps59 (by kernel_rfl) (rv := (Try.f59).results.toList) (by kernel_rfl) (by decide) (uall_at ⟨⟨_, Nat.le_of_ble_eq_true rfl, (show (units c59)[0]? = some (unitAt c59 0) by kernel_rfl), x59_0⟩, trivial⟩) t59
theorem fn59 : FnOk Try.prog 59 hd59 := .inl gn59
/-! entail/entailref02.Turned -/
noncomputable def c63 : Code := ((Try.f63).body).getD .skip
def h63_0 : Sh := ⟨[.d (.sl (.int .u8)), .o (.int .u8), .d (.int .i64)], [0, 3, 4], [], [(3, none, 62)], []⟩
def o63_0 : Outs := ⟨⟨[], [], [], [], []⟩, 0, ⟨[.o (.int .u8)], [3], [], [(3, none, 62)], []⟩, ⟨[], [], [], [], []⟩⟩
noncomputable def k63_0 (f : (List UInt8) × (List UInt8) × Int → Option (O3 (Unit) ((List UInt8)) (Unit))) (d : (List UInt8) × (List UInt8) × Int) : Option (O3 (Unit) ((List UInt8)) (Unit)) :=
  cnd (decide ((0 : Int) ≤ d.2.2))
   (guard (inB d.2.2 (List.length d.1)) <|
   let t17_3 : UInt8 := (List.getD d.1 d.2.2.toNat (0 : UInt8))
   guard (Nat.ble (List.length d.2.1 + List.length [t17_3]) maxN) <|
   let m2_4 : List UInt8 := (List.append d.2.1 [t17_3])
   guard (inR .i64 (d.2.2 - (1 : Int))) <|
   let t12_5 : Int := (d.2.2 - (1 : Int))
   f (d.1, m2_4, t12_5))
   (some (.x d.2.1))
noncomputable def l63_0 : (List UInt8) × (List UInt8) × Int → Option (O3 (Unit) ((List UInt8)) (Unit)) := itN k63_0 fuel
noncomputable def u63_0 : UH := unit (env 21 []) h63_0 o63_0 l63_0
noncomputable def b63 (d : (List UInt8)) : Option ((List UInt8)) :=
  let t7_1 : Int := ((List.length d : Nat) : Int)
  guard (inR .i64 (t7_1 - (1 : Int))) <|
  let t8_2 : Int := (t7_1 - (1 : Int))
  bnd (l63_0 (d, ([] : List UInt8), t8_2)) fun o => (match o with
   | .n _o => none
   | .x o => (some o)
   | .r _o => none)
noncomputable def m63 : (List UInt8) → Option ((List UInt8)) := hide b63
theorem m63_eq (d : (List UInt8)) : m63 d = b63 d := congrFun (hide_eq _) d
noncomputable def hd63 : Hd := ⟨[.d (.sl (.int .u8))], [.o (.int .u8)], m63⟩
theorem ok63 : Okk Try.prog (env 21 []) := okk tab_ok (n := 21) (hs := []) trivial mixed
set_option maxRecDepth 100000 in
theorem e63_0 (f : Dat h63_0.ks → Option o63_0.O) (d : Dat h63_0.ks) : loopF (env 21 []) (lkU []) 0 (lbody (unitAt c63 0)) h63_0 o63_0 f d = k63_0 f d := by kernel_rfl
theorem x63_0 : UOk Try.prog (env 21 []) (unitAt c63 0) u63_0 ∧ Pk Try.prog (env 21 []) u63_0.pk u63_0.up :=
  loop_at ok63 (show unitAt c63 0 = .loop (lbody (unitAt c63 0)) by kernel_rfl) (h := h63_0) (o := o63_0) (n := 0) (hl := lkU []) (uall_at trivial) k63_0 fuel e63_0
set_option maxRecDepth 100000 in
theorem r63 (d : Dat hd63.pks) : runF (env 21 []) (lkU [(0, u63_0)]) c63 (Try.f63).results.toList [(2, none, 62)] hd63.pks hd63.rks d = b63 d := by kernel_rfl
theorem q63 (d : Dat hd63.pks) (y : Dat hd63.rks) : (hd63.fm d = some y) = (m63 d = some y) := by kernel_rfl
theorem t63 (d : Dat hd63.pks) (y : Dat hd63.rks) (h : hd63.fm d = some y) : runF (env 21 []) (lkU [(0, u63_0)]) c63 (Try.f63).results.toList [(2, none, 62)] hd63.pks hd63.rks d = some y := (r63 d).trans ((m63_eq d).symm.trans ((q63 d y).mp h))
theorem gn63 : FnG Try.prog 63 hd63 :=
  fn_g (hl := lkU [(0, u63_0)]) (un := [(2, none, 62)]) ok63 (fun _ => rfl) Try.func63 rfl Try.ntmps63 (by kernel_rfl) (rv := (Try.f63).results.toList) (by kernel_rfl) (by decide) (uall_at ⟨⟨_, Nat.le_of_ble_eq_true rfl, (show (units c63)[0]? = some (unitAt c63 0) by kernel_rfl), x63_0⟩, trivial⟩) t63
theorem fn63 : FnOk Try.prog 63 hd63 := .inl gn63
/-! entail/entailref02.Hash -/
noncomputable def c62 : Code := ((Try.f62).body).getD .skip
def h62_0 : Sh := ⟨[.d (.sl (.int .u8)), .d (.int .i64), .d (.arr 32 (.int .u8)), .d (.arr 32 (.int .u8))], [0, 4], [(2, [.arr 32 (.int .u8)]), (3, [.arr 32 (.int .u8)])], [], []⟩
def o62_0 : Outs := ⟨⟨[], [], [], [], []⟩, 0, ⟨[.d (.arr 32 (.int .u8)), .d (.arr 32 (.int .u8))], [], [(2, [.arr 32 (.int .u8)]), (3, [.arr 32 (.int .u8)])], [], []⟩, ⟨[], [], [], [], []⟩⟩
noncomputable def k62_0 (f : (List UInt8) × Int × (List UInt8) × (List UInt8) → Option (O3 (Unit) ((List UInt8) × (List UInt8)) (Unit))) (d : (List UInt8) × Int × (List UInt8) × (List UInt8)) : Option (O3 (Unit) ((List UInt8) × (List UInt8)) (Unit)) :=
  let t8_2 : Int := ((List.length d.1 : Nat) : Int)
  cnd (decide (d.2.1 < t8_2))
   (cnd (decide (d.2.1 < (32 : Int)))
    (guard (inB d.2.1 (List.length d.1)) <|
    let t20_3 : UInt8 := (List.getD d.1 d.2.1.toNat (0 : UInt8))
    guard (inB d.2.1 32) <|
    let m1_4 : List UInt8 := (List.set d.2.2.2 d.2.1.toNat t20_3)
    guard (inR .i64 (d.2.1 + (1 : Int))) <|
    let t15_5 : Int := (d.2.1 + (1 : Int))
    f (d.1, t15_5, d.2.2.1, m1_4))
    (some (.x (d.2.2.1, d.2.2.2))))
   (some (.x (d.2.2.1, d.2.2.2)))
noncomputable def l62_0 : (List UInt8) × Int × (List UInt8) × (List UInt8) → Option (O3 (Unit) ((List UInt8) × (List UInt8)) (Unit)) := itN k62_0 fuel
noncomputable def u62_0 : UH := unit (env 23 []) h62_0 o62_0 l62_0
noncomputable def b62 (d : (List UInt8)) : Option ((List UInt8)) :=
  let t5_1 : List UInt8 := [(0 : UInt8), (0 : UInt8), (0 : UInt8), (0 : UInt8), (0 : UInt8), (0 : UInt8), (0 : UInt8), (0 : UInt8), (0 : UInt8), (0 : UInt8), (0 : UInt8), (0 : UInt8), (0 : UInt8), (0 : UInt8), (0 : UInt8), (0 : UInt8), (0 : UInt8), (0 : UInt8), (0 : UInt8), (0 : UInt8), (0 : UInt8), (0 : UInt8), (0 : UInt8), (0 : UInt8), (0 : UInt8), (0 : UInt8), (0 : UInt8), (0 : UInt8), (0 : UInt8), (0 : UInt8), (0 : UInt8), (0 : UInt8)]
  bnd (l62_0 (d, (0 : Int), (List.replicate 32 (0 : UInt8)), t5_1)) fun o => (match o with
   | .n _o => none
   | .x o => (some o.2)
   | .r _o => none)
noncomputable def m62 : (List UInt8) → Option ((List UInt8)) := hide b62
theorem m62_eq (d : (List UInt8)) : m62 d = b62 d := congrFun (hide_eq _) d
noncomputable def hd62 : Hd := ⟨[.d (.sl (.int .u8))], [.d (.arr 32 (.int .u8))], m62⟩
theorem ok62 : Okk Try.prog (env 23 []) := okk tab_ok (n := 23) (hs := []) trivial mixed
set_option maxRecDepth 100000 in
theorem e62_0 (f : Dat h62_0.ks → Option o62_0.O) (d : Dat h62_0.ks) : loopF (env 23 []) (lkU []) 0 (lbody (unitAt c62 0)) h62_0 o62_0 f d = k62_0 f d := by kernel_rfl
theorem x62_0 : UOk Try.prog (env 23 []) (unitAt c62 0) u62_0 ∧ Pk Try.prog (env 23 []) u62_0.pk u62_0.up :=
  loop_at ok62 (show unitAt c62 0 = .loop (lbody (unitAt c62 0)) by kernel_rfl) (h := h62_0) (o := o62_0) (n := 0) (hl := lkU []) (uall_at trivial) k62_0 fuel e62_0
set_option maxRecDepth 100000 in
theorem r62 (d : Dat hd62.pks) : runF (env 23 []) (lkU [(0, u62_0)]) c62 (Try.f62).results.toList [] hd62.pks hd62.rks d = b62 d := by kernel_rfl
theorem q62 (d : Dat hd62.pks) (y : Dat hd62.rks) : (hd62.fm d = some y) = (m62 d = some y) := by kernel_rfl
theorem t62 (d : Dat hd62.pks) (y : Dat hd62.rks) (h : hd62.fm d = some y) : runF (env 23 []) (lkU [(0, u62_0)]) c62 (Try.f62).results.toList [] hd62.pks hd62.rks d = some y := (r62 d).trans ((m62_eq d).symm.trans ((q62 d y).mp h))
theorem gn62 : FnG Try.prog 62 hd62 :=
  fn_g (hl := lkU [(0, u62_0)]) (un := []) ok62 (fun _ => rfl) Try.func62 rfl Try.ntmps62 (by kernel_rfl) (rv := (Try.f62).results.toList) (by kernel_rfl) (by decide) (uall_at ⟨⟨_, Nat.le_of_ble_eq_true rfl, (show (units c62)[0]? = some (unitAt c62 0) by kernel_rfl), x62_0⟩, trivial⟩) t62
theorem fn62 : FnOk Try.prog 62 hd62 := .inl gn62
/-! entail/target.moved -/
noncomputable def c58 : Code := ((Try.f58).body).getD .skip
noncomputable def b58 (d : (List UInt64) × Int) : Option ((List UInt64)) :=
  bnd (fShl (d.1, d.2)) fun y_1 =>
  guard (inR .i64 (0 - d.2)) <|
  let t9_2 : Int := ((0 : Int) - d.2)
  bnd (fShr (y_1, t9_2)) fun y_3 =>
  some y_3
noncomputable def m58 : ((List UInt64) × Int) → Option ((List UInt64)) := hide b58
theorem m58_eq (d : (List UInt64) × Int) : m58 d = b58 d := congrFun (hide_eq _) d
noncomputable def hd58 : Hd := ⟨[.d (.arr 4 (.int .u64)), .d (.int .i64)], [.d (.arr 4 (.int .u64))], m58⟩
theorem ok58 : Okk Try.prog (env 11 [(79, hd79), (80, hd80)]) := okk tab_ok (n := 11) (hs := [(79, hd79), (80, hd80)]) ⟨fn79, fn80, trivial⟩ mixed
set_option maxRecDepth 100000 in
theorem r58 (d : Dat hd58.pks) : runF (env 11 [(79, hd79), (80, hd80)]) (lkU []) c58 (Try.f58).results.toList [] hd58.pks hd58.rks d = b58 d := by kernel_rfl
theorem q58 (d : Dat hd58.pks) (y : Dat hd58.rks) : (hd58.fm d = some y) = (m58 d = some y) := by kernel_rfl
theorem t58 (d : Dat hd58.pks) (y : Dat hd58.rks) (h : hd58.fm d = some y) : runF (env 11 [(79, hd79), (80, hd80)]) (lkU []) c58 (Try.f58).results.toList [] hd58.pks hd58.rks d = some y := (r58 d).trans ((m58_eq d).symm.trans ((q58 d y).mp h))
theorem gn58 : FnG Try.prog 58 hd58 :=
  fn_g (hl := lkU []) (un := []) ok58 (fun _ => rfl) Try.func58 rfl Try.ntmps58 (by kernel_rfl) (rv := (Try.f58).results.toList) (by kernel_rfl) (by decide) (uall_at trivial) t58
theorem fn58 : FnOk Try.prog 58 hd58 := .inl gn58
/-! entail/target.Expand -/
noncomputable def c32 : Code := ((Try.f32).body).getD .skip
noncomputable def b32 (d : UInt32) : Option ((List UInt64) × Int) :=
  let t8_1 : UInt32 := (andK .u32 d (8388607 : UInt32))
  bnd (fFrom t8_1.toUInt64) fun y_2 =>
  guard (decide (0 ≤ (24 : Int))) <|
  let t12_3 : UInt32 := (shrK .u32 d 24)
  guard (inR .i64 (t12_3.toNat : Int)) <|
  let t13_4 : Int := (t12_3.toNat : Int)
  guard (inR .i64 (t13_4 - (3 : Int))) <|
  let t14_5 : Int := (t13_4 - (3 : Int))
  guard (inR .i64 ((8 : Int) * t14_5)) <|
  let t15_6 : Int := ((8 : Int) * t14_5)
  let t17_7 : UInt32 := (andK .u32 d (8388608 : UInt32))
  cnd (!(decide (t17_7 = (0 : UInt32))))
   (let t26_8 : List UInt64 := [(0 : UInt64), (0 : UInt64), (0 : UInt64), (0 : UInt64)]
   some (t26_8, (3 : Int)))
   (bnd (fLen y_2) fun y_9 =>
   guard (inR .i64 (y_9 + t15_6)) <|
   let t23_10 : Int := (y_9 + t15_6)
   cnd (decide ((256 : Int) < t23_10))
    (let t26_11 : List UInt64 := [(0 : UInt64), (0 : UInt64), (0 : UInt64), (0 : UInt64)]
    some (t26_11, (3 : Int)))
    (bnd (m58 (y_2, t15_6)) fun y_12 =>
    let t31_13 : List UInt64 := [(0 : UInt64), (0 : UInt64), (0 : UInt64), (0 : UInt64)]
    cnd (eqD (.arr 4 (.int .u64)) y_12 t31_13)
     (let t33_14 : List UInt64 := [(0 : UInt64), (0 : UInt64), (0 : UInt64), (0 : UInt64)]
     some (t33_14, (3 : Int)))
     (some (y_12, (0 : Int)))))
noncomputable def m32 : UInt32 → Option ((List UInt64) × Int) := hide b32
theorem m32_eq (d : UInt32) : m32 d = b32 d := congrFun (hide_eq _) d
noncomputable def hd32 : Hd := ⟨[.d (.int .u32)], [.d (.arr 4 (.int .u64)), .d (.int .i64)], m32⟩
theorem ok32 : Okk Try.prog (env 35 [(44, hd44), (49, hd49), (58, hd58)]) := okk tab_ok (n := 35) (hs := [(44, hd44), (49, hd49), (58, hd58)]) ⟨fn44, fn49, fn58, trivial⟩ mixed
set_option maxRecDepth 100000 in
theorem r32 (d : Dat hd32.pks) : runF (env 35 [(44, hd44), (49, hd49), (58, hd58)]) (lkU []) c32 (Try.f32).results.toList [] hd32.pks hd32.rks d = b32 d := by kernel_rfl
theorem q32 (d : Dat hd32.pks) (y : Dat hd32.rks) : (hd32.fm d = some y) = (m32 d = some y) := by kernel_rfl
theorem t32 (d : Dat hd32.pks) (y : Dat hd32.rks) (h : hd32.fm d = some y) : runF (env 35 [(44, hd44), (49, hd49), (58, hd58)]) (lkU []) c32 (Try.f32).results.toList [] hd32.pks hd32.rks d = some y := (r32 d).trans ((m32_eq d).symm.trans ((q32 d y).mp h))
theorem gn32 : FnG Try.prog 32 hd32 :=
  fn_g (hl := lkU []) (un := []) ok32 (fun _ => rfl) Try.func32 rfl Try.ntmps32 (by kernel_rfl) (rv := (Try.f32).results.toList) (by kernel_rfl) (by decide) (uall_at trivial) t32
theorem fn32 : FnOk Try.prog 32 hd32 := .inl gn32
/-! entail/entailref10.Expand -/
noncomputable def c33 : Code := ((Try.f33).body).getD .skip
def h33_1 : Sh := ⟨[.d (.int .i64), .o (.int .u8), .d (.bool), .d (.int .i64), .d (.arr 4 (.int .u64)), .d (.arr 32 (.int .u8))], [4, 5, 7, 8], [(2, [.arr 4 (.int .u64)]), (6, [.arr 32 (.int .u8)])], [(5, none, 62)], []⟩
def o33_1 : Outs := ⟨⟨[], [], [], [], []⟩, 0, ⟨[.d (.bool), .d (.arr 4 (.int .u64)), .d (.arr 32 (.int .u8))], [7], [(2, [.arr 4 (.int .u64)]), (6, [.arr 32 (.int .u8)])], [], []⟩, ⟨[.d (.int .i64), .d (.arr 4 (.int .u64))], [3], [(2, [.arr 4 (.int .u64)])], [], []⟩⟩
noncomputable def k33_1 (f : Int × (List UInt8) × Bool × Int × (List UInt64) × (List UInt8) → Option (O3 (Unit) (Bool × (List UInt64) × (List UInt8)) (Int × (List UInt64)))) (d : Int × (List UInt8) × Bool × Int × (List UInt64) × (List UInt8)) : Option (O3 (Unit) (Bool × (List UInt64) × (List UInt8)) (Int × (List UInt64))) :=
  cnd (decide (d.2.2.2.1 < (3 : Int)))
   (guard (inR .i64 (d.1 - (1 : Int))) <|
   let t34_10 : Int := (d.1 - (1 : Int))
   guard (inR .i64 (t34_10 - d.2.2.2.1)) <|
   let t36_11 : Int := (t34_10 - d.2.2.2.1)
   cnd (decide ((32 : Int) ≤ t36_11))
    (guard (inB d.2.2.2.1 (List.length d.2.1)) <|
    let t43_12 : UInt8 := (List.getD d.2.1 d.2.2.2.1.toNat (0 : UInt8))
    cnd (!(decide (t43_12 = (0 : UInt8))))
     (let t46_13 : List UInt64 := [(0 : UInt64), (0 : UInt64), (0 : UInt64), (0 : UInt64)]
     some (.r ((3 : Int), t46_13)))
     (cnd (decide ((0 : Int) ≤ t36_11))
      (cnd (decide (t36_11 < (32 : Int)))
       (guard (inR .i64 ((31 : Int) - t36_11)) <|
       let t54_14 : Int := ((31 : Int) - t36_11)
       guard (inB d.2.2.2.1 (List.length d.2.1)) <|
       let t58_15 : UInt8 := (List.getD d.2.1 d.2.2.2.1.toNat (0 : UInt8))
       guard (inB t54_14 32) <|
       let m1_16 : List UInt8 := (List.set d.2.2.2.2.2 t54_14.toNat t58_15)
       cnd d.2.2.1
        (guard (inR .i64 (d.2.2.2.1 + (1 : Int))) <|
        let t32_17 : Int := (d.2.2.2.1 + (1 : Int))
        f (d.1, d.2.1, true, t32_17, d.2.2.2.2.1, m1_16))
        (guard (inB d.2.2.2.1 (List.length d.2.1)) <|
        let t65_18 : UInt8 := (List.getD d.2.1 d.2.2.2.1.toNat (0 : UInt8))
        guard (inR .i64 (d.2.2.2.1 + (1 : Int))) <|
        let t32_19 : Int := (d.2.2.2.1 + (1 : Int))
        f (d.1, d.2.1, (!(decide (t65_18 = (0 : UInt8)))), t32_19, d.2.2.2.2.1, m1_16)))
       (guard (inR .i64 (d.2.2.2.1 + (1 : Int))) <|
       let t32_20 : Int := (d.2.2.2.1 + (1 : Int))
       f (d.1, d.2.1, d.2.2.1, t32_20, d.2.2.2.2.1, d.2.2.2.2.2)))
      (guard (inR .i64 (d.2.2.2.1 + (1 : Int))) <|
      let t32_21 : Int := (d.2.2.2.1 + (1 : Int))
      f (d.1, d.2.1, d.2.2.1, t32_21, d.2.2.2.2.1, d.2.2.2.2.2))))
    (cnd (decide ((0 : Int) ≤ t36_11))
     (cnd (decide (t36_11 < (32 : Int)))
      (guard (inR .i64 ((31 : Int) - t36_11)) <|
      let t54_22 : Int := ((31 : Int) - t36_11)
      guard (inB d.2.2.2.1 (List.length d.2.1)) <|
      let t58_23 : UInt8 := (List.getD d.2.1 d.2.2.2.1.toNat (0 : UInt8))
      guard (inB t54_22 32) <|
      let m1_24 : List UInt8 := (List.set d.2.2.2.2.2 t54_22.toNat t58_23)
      cnd d.2.2.1
       (guard (inR .i64 (d.2.2.2.1 + (1 : Int))) <|
       let t32_25 : Int := (d.2.2.2.1 + (1 : Int))
       f (d.1, d.2.1, true, t32_25, d.2.2.2.2.1, m1_24))
       (guard (inB d.2.2.2.1 (List.length d.2.1)) <|
       let t65_26 : UInt8 := (List.getD d.2.1 d.2.2.2.1.toNat (0 : UInt8))
       guard (inR .i64 (d.2.2.2.1 + (1 : Int))) <|
       let t32_27 : Int := (d.2.2.2.1 + (1 : Int))
       f (d.1, d.2.1, (!(decide (t65_26 = (0 : UInt8)))), t32_27, d.2.2.2.2.1, m1_24)))
      (guard (inR .i64 (d.2.2.2.1 + (1 : Int))) <|
      let t32_28 : Int := (d.2.2.2.1 + (1 : Int))
      f (d.1, d.2.1, d.2.2.1, t32_28, d.2.2.2.2.1, d.2.2.2.2.2)))
     (guard (inR .i64 (d.2.2.2.1 + (1 : Int))) <|
     let t32_29 : Int := (d.2.2.2.1 + (1 : Int))
     f (d.1, d.2.1, d.2.2.1, t32_29, d.2.2.2.2.1, d.2.2.2.2.2))))
   (some (.x (d.2.2.1, d.2.2.2.2.1, d.2.2.2.2.2)))
noncomputable def l33_1 : Int × (List UInt8) × Bool × Int × (List UInt64) × (List UInt8) → Option (O3 (Unit) (Bool × (List UInt64) × (List UInt8)) (Int × (List UInt64))) := itN k33_1 fuel
noncomputable def u33_1 : UH := unit (env 73 [(56, hd56)]) h33_1 o33_1 l33_1
noncomputable def b33 (d : UInt32) : Option ((List UInt64) × Int) :=
  guard (inR .u32 ((d.toNat : Int).tdiv (16777216 : Int))) <|
  let t11_1 : UInt32 := (d / (16777216 : UInt32))
  guard (inR .i64 (t11_1.toNat : Int)) <|
  let t12_2 : Int := (t11_1.toNat : Int)
  let t14_3 : UInt32 := (d / (65536 : UInt32))
  let t15_4 : UInt32 := (t14_3 % (128 : UInt32))
  let t18_5 : UInt32 := (d / (256 : UInt32))
  let t24_6 : UInt32 := (d / (8388608 : UInt32))
  let t25_7 : UInt32 := (t24_6 % (2 : UInt32))
  cnd (decide (t25_7 = (1 : UInt32)))
   (let t27_8 : List UInt64 := [(0 : UInt64), (0 : UInt64), (0 : UInt64), (0 : UInt64)]
   some (t27_8, (3 : Int)))
   (let t28_9 : List UInt8 := [(0 : UInt8), (0 : UInt8), (0 : UInt8), (0 : UInt8), (0 : UInt8), (0 : UInt8), (0 : UInt8), (0 : UInt8), (0 : UInt8), (0 : UInt8), (0 : UInt8), (0 : UInt8), (0 : UInt8), (0 : UInt8), (0 : UInt8), (0 : UInt8), (0 : UInt8), (0 : UInt8), (0 : UInt8), (0 : UInt8), (0 : UInt8), (0 : UInt8), (0 : UInt8), (0 : UInt8), (0 : UInt8), (0 : UInt8), (0 : UInt8), (0 : UInt8), (0 : UInt8), (0 : UInt8), (0 : UInt8), (0 : UInt8)]
   bnd (l33_1 (t12_2, [t15_4.toUInt8, t18_5.toUInt8, d.toUInt8], false, (0 : Int), (List.replicate 4 (0 : UInt64)), t28_9)) fun o => (match o with
    | .n _o => none
    | .x o => (cnd (!o.1)
     (let t70_30 : List UInt64 := [(0 : UInt64), (0 : UInt64), (0 : UInt64), (0 : UInt64)]
     some (t70_30, (3 : Int)))
     (bnd (m56 o.2.2) fun y_31 =>
     some (y_31, (0 : Int))))
    | .r o => (some (o.2, o.1))))
noncomputable def m33 : UInt32 → Option ((List UInt64) × Int) := hide b33
theorem m33_eq (d : UInt32) : m33 d = b33 d := congrFun (hide_eq _) d
noncomputable def hd33 : Hd := ⟨[.d (.int .u32)], [.d (.arr 4 (.int .u64)), .d (.int .i64)], m33⟩
theorem ok33 : Okk Try.prog (env 73 [(56, hd56)]) := okk tab_ok (n := 73) (hs := [(56, hd56)]) ⟨fn56, trivial⟩ mixed
set_option maxRecDepth 100000 in
theorem e33_1 (f : Dat h33_1.ks → Option o33_1.O) (d : Dat h33_1.ks) : loopF (env 73 [(56, hd56)]) (lkU []) 1 (lbody (unitAt c33 1)) h33_1 o33_1 f d = k33_1 f d := by kernel_rfl
theorem x33_1 : UOk Try.prog (env 73 [(56, hd56)]) (unitAt c33 1) u33_1 ∧ Pk Try.prog (env 73 [(56, hd56)]) u33_1.pk u33_1.up :=
  loop_at ok33 (show unitAt c33 1 = .loop (lbody (unitAt c33 1)) by kernel_rfl) (h := h33_1) (o := o33_1) (n := 1) (hl := lkU []) (uall_at trivial) k33_1 fuel e33_1
set_option maxRecDepth 100000 in
theorem r33 (d : Dat hd33.pks) : runF (env 73 [(56, hd56)]) (lkU [(1, u33_1)]) c33 (Try.f33).results.toList [] hd33.pks hd33.rks d = b33 d := by kernel_rfl
theorem q33 (d : Dat hd33.pks) (y : Dat hd33.rks) : (hd33.fm d = some y) = (m33 d = some y) := by kernel_rfl
theorem t33 (d : Dat hd33.pks) (y : Dat hd33.rks) (h : hd33.fm d = some y) : runF (env 73 [(56, hd56)]) (lkU [(1, u33_1)]) c33 (Try.f33).results.toList [] hd33.pks hd33.rks d = some y := (r33 d).trans ((m33_eq d).symm.trans ((q33 d y).mp h))
theorem gn33 : FnG Try.prog 33 hd33 :=
  fn_g (hl := lkU [(1, u33_1)]) (un := []) ok33 (fun _ => rfl) Try.func33 rfl Try.ntmps33 (by kernel_rfl) (rv := (Try.f33).results.toList) (by kernel_rfl) (by decide) (uall_at ⟨⟨_, Nat.le_of_ble_eq_true rfl, (show (units c33)[1]? = some (unitAt c33 1) by kernel_rfl), x33_1⟩, trivial⟩) t33
theorem fn33 : FnOk Try.prog 33 hd33 := .inl gn33
/-! entail/target.Compact -/
noncomputable def c35 : Code := ((Try.f35).body).getD .skip
noncomputable def b35 (d : (List UInt64)) : Option (UInt32) :=
  bnd (fLen d) fun y_1 =>
  guard (inR .i64 (y_1 + (7 : Int))) <|
  let t7_2 : Int := (y_1 + (7 : Int))
  guard (inR .i64 (t7_2.tdiv (8 : Int))) <|
  let t8_3 : Int := (Int.tdiv t7_2 (8 : Int))
  guard (inR .i64 ((3 : Int) - t8_3)) <|
  let t11_4 : Int := ((3 : Int) - t8_3)
  guard (inR .i64 ((8 : Int) * t11_4)) <|
  let t12_5 : Int := ((8 : Int) * t11_4)
  bnd (m58 (d, t12_5)) fun y_6 =>
  let t14_7 : UInt64 := (List.getD y_6 0 (0 : UInt64))
  cnd (decide ((8388608 : UInt64) ≤ t14_7))
   (guard (inR .u64 ((t14_7.toNat : Int).tdiv (256 : Int))) <|
   let t18_8 : UInt64 := (t14_7 / (256 : UInt64))
   guard (inR .i64 (t8_3 + (1 : Int))) <|
   let t20_9 : Int := (t8_3 + (1 : Int))
   guard (inR .u32 t20_9) <|
   let t22_10 : UInt32 := (ofI .u32 t20_9)
   guard (decide (0 ≤ (24 : Int)) && inR .u32 ((t22_10.toNat : Int) * 2 ^ min 24 (IntKind.bits .u32))) <|
   let t23_11 : UInt32 := (shlK .u32 t22_10 24)
   let t26_12 : UInt32 := (orK .u32 t23_11 t18_8.toUInt32)
   some t26_12)
   (guard (inR .u32 t8_3) <|
   let t22_13 : UInt32 := (ofI .u32 t8_3)
   guard (decide (0 ≤ (24 : Int)) && inR .u32 ((t22_13.toNat : Int) * 2 ^ min 24 (IntKind.bits .u32))) <|
   let t23_14 : UInt32 := (shlK .u32 t22_13 24)
   let t26_15 : UInt32 := (orK .u32 t23_14 t14_7.toUInt32)
   some t26_15)
noncomputable def m35 : (List UInt64) → Option (UInt32) := hide b35
theorem m35_eq (d : (List UInt64)) : m35 d = b35 d := congrFun (hide_eq _) d
noncomputable def hd35 : Hd := ⟨[.d (.arr 4 (.int .u64))], [.d (.int .u32)], m35⟩
theorem ok35 : Okk Try.prog (env 27 [(44, hd44), (58, hd58)]) := okk tab_ok (n := 27) (hs := [(44, hd44), (58, hd58)]) ⟨fn44, fn58, trivial⟩ mixed
set_option maxRecDepth 100000 in
theorem r35 (d : Dat hd35.pks) : runF (env 27 [(44, hd44), (58, hd58)]) (lkU []) c35 (Try.f35).results.toList [] hd35.pks hd35.rks d = b35 d := by kernel_rfl
theorem q35 (d : Dat hd35.pks) (y : Dat hd35.rks) : (hd35.fm d = some y) = (m35 d = some y) := by kernel_rfl
theorem t35 (d : Dat hd35.pks) (y : Dat hd35.rks) (h : hd35.fm d = some y) : runF (env 27 [(44, hd44), (58, hd58)]) (lkU []) c35 (Try.f35).results.toList [] hd35.pks hd35.rks d = some y := (r35 d).trans ((m35_eq d).symm.trans ((q35 d y).mp h))
theorem gn35 : FnG Try.prog 35 hd35 :=
  fn_g (hl := lkU []) (un := []) ok35 (fun _ => rfl) Try.func35 rfl Try.ntmps35 (by kernel_rfl) (rv := (Try.f35).results.toList) (by kernel_rfl) (by decide) (uall_at trivial) t35
theorem fn35 : FnOk Try.prog 35 hd35 := .inl gn35
/-! entail/entailref10.Compact -/
noncomputable def c36 : Code := ((Try.f36).body).getD .skip
def h36_0 : Sh := ⟨[.d (.int .i64), .d (.int .u32), .d (.int .i64), .d (.arr 32 (.int .u8))], [4, 5, 6], [(3, [.arr 32 (.int .u8)])], [], []⟩
def o36_0 : Outs := ⟨⟨[], [], [], [], []⟩, 0, ⟨[.d (.int .i64), .d (.int .u32)], [4, 5], [], [], []⟩, ⟨[], [], [], [], []⟩⟩
noncomputable def k36_0 (f : Int × UInt32 × Int × (List UInt8) → Option (O3 (Unit) (Int × UInt32) (Unit))) (d : Int × UInt32 × Int × (List UInt8)) : Option (O3 (Unit) (Int × UInt32) (Unit)) :=
  cnd (decide (d.2.2.1 < (3 : Int)))
   (let t18_5 : UInt32 := (d.2.1 * (256 : UInt32))
   cnd (decide (d.2.2.1 < d.1))
    (guard (inR .i64 ((32 : Int) - d.1)) <|
    let t24_6 : Int := ((32 : Int) - d.1)
    guard (inR .i64 (t24_6 + d.2.2.1)) <|
    let t26_7 : Int := (t24_6 + d.2.2.1)
    guard (inB t26_7 32) <|
    let t28_8 : UInt8 := (List.getD d.2.2.2 t26_7.toNat (0 : UInt8))
    guard (inR .u32 (t28_8.toNat : Int)) <|
    guard (inR .u32 ((t18_5.toNat : Int) + (t28_8.toUInt32.toNat : Int))) <|
    let t30_9 : UInt32 := (t18_5 + t28_8.toUInt32)
    guard (inR .i64 (d.2.2.1 + (1 : Int))) <|
    let t16_10 : Int := (d.2.2.1 + (1 : Int))
    f (d.1, t30_9, t16_10, d.2.2.2))
    (guard (inR .i64 (d.2.2.1 + (1 : Int))) <|
    let t16_11 : Int := (d.2.2.1 + (1 : Int))
    f (d.1, t18_5, t16_11, d.2.2.2)))
   (some (.x (d.1, d.2.1)))
noncomputable def l36_0 : Int × UInt32 × Int × (List UInt8) → Option (O3 (Unit) (Int × UInt32) (Unit)) := itN k36_0 fuel
noncomputable def u36_0 : UH := unit (env 42 [(59, hd59), (60, hd60)]) h36_0 o36_0 l36_0
noncomputable def b36 (d : (List UInt64)) : Option (UInt32) :=
  bnd (m59 d) fun y_1 =>
  bnd (fRLen d) fun y_2 =>
  guard (inR .i64 (y_2 + (7 : Int))) <|
  let t11_3 : Int := (y_2 + (7 : Int))
  guard (inR .i64 (t11_3.tdiv (8 : Int))) <|
  let t12_4 : Int := (Int.tdiv t11_3 (8 : Int))
  bnd (l36_0 (t12_4, (0 : UInt32), (0 : Int), y_1)) fun o => (match o with
   | .n _o => none
   | .x o => (cnd (decide ((8388608 : UInt32) ≤ o.2))
    (guard (inR .u32 ((o.2.toNat : Int).tdiv (256 : Int))) <|
    let t34_12 : UInt32 := (o.2 / (256 : UInt32))
    guard (inR .i64 (o.1 + (1 : Int))) <|
    let t36_13 : Int := (o.1 + (1 : Int))
    let t38_14 : UInt32 := (ofI .u32 t36_13)
    let t39_15 : UInt32 := (t38_14 * (16777216 : UInt32))
    let t41_16 : UInt32 := (t39_15 + t34_12)
    some t41_16)
    (let t38_17 : UInt32 := (ofI .u32 o.1)
    let t39_18 : UInt32 := (t38_17 * (16777216 : UInt32))
    let t41_19 : UInt32 := (t39_18 + o.2)
    some t41_19))
   | .r _o => none)
noncomputable def m36 : (List UInt64) → Option (UInt32) := hide b36
theorem m36_eq (d : (List UInt64)) : m36 d = b36 d := congrFun (hide_eq _) d
noncomputable def hd36 : Hd := ⟨[.d (.arr 4 (.int .u64))], [.d (.int .u32)], m36⟩
theorem ok36 : Okk Try.prog (env 42 [(59, hd59), (60, hd60)]) := okk tab_ok (n := 42) (hs := [(59, hd59), (60, hd60)]) ⟨fn59, fn60, trivial⟩ mixed
set_option maxRecDepth 100000 in
theorem e36_0 (f : Dat h36_0.ks → Option o36_0.O) (d : Dat h36_0.ks) : loopF (env 42 [(59, hd59), (60, hd60)]) (lkU []) 0 (lbody (unitAt c36 0)) h36_0 o36_0 f d = k36_0 f d := by kernel_rfl
theorem x36_0 : UOk Try.prog (env 42 [(59, hd59), (60, hd60)]) (unitAt c36 0) u36_0 ∧ Pk Try.prog (env 42 [(59, hd59), (60, hd60)]) u36_0.pk u36_0.up :=
  loop_at ok36 (show unitAt c36 0 = .loop (lbody (unitAt c36 0)) by kernel_rfl) (h := h36_0) (o := o36_0) (n := 0) (hl := lkU []) (uall_at trivial) k36_0 fuel e36_0
set_option maxRecDepth 100000 in
theorem r36 (d : Dat hd36.pks) : runF (env 42 [(59, hd59), (60, hd60)]) (lkU [(0, u36_0)]) c36 (Try.f36).results.toList [] hd36.pks hd36.rks d = b36 d := by kernel_rfl
theorem q36 (d : Dat hd36.pks) (y : Dat hd36.rks) : (hd36.fm d = some y) = (m36 d = some y) := by kernel_rfl
theorem t36 (d : Dat hd36.pks) (y : Dat hd36.rks) (h : hd36.fm d = some y) : runF (env 42 [(59, hd59), (60, hd60)]) (lkU [(0, u36_0)]) c36 (Try.f36).results.toList [] hd36.pks hd36.rks d = some y := (r36 d).trans ((m36_eq d).symm.trans ((q36 d y).mp h))
theorem gn36 : FnG Try.prog 36 hd36 :=
  fn_g (hl := lkU [(0, u36_0)]) (un := []) ok36 (fun _ => rfl) Try.func36 rfl Try.ntmps36 (by kernel_rfl) (rv := (Try.f36).results.toList) (by kernel_rfl) (by decide) (uall_at ⟨⟨_, Nat.le_of_ble_eq_true rfl, (show (units c36)[0]? = some (unitAt c36 0) by kernel_rfl), x36_0⟩, trivial⟩) t36
theorem fn36 : FnOk Try.prog 36 hd36 := .inl gn36
/-! entail/target.Work -/
noncomputable def c39 : Code := ((Try.f39).body).getD .skip
def h39_2 : Sh := ⟨[.d (.arr 4 (.int .u64)), .d (.arr 4 (.int .u64))], [], [(2, [.arr 4 (.int .u64)]), (9, [.arr 4 (.int .u64)])], [], []⟩
def o39_2 : Outs := ⟨⟨[.d (.arr 4 (.int .u64)), .d (.arr 4 (.int .u64))], [], [(2, [.arr 4 (.int .u64)]), (12, [.arr 4 (.int .u64)])], [], []⟩, 0, ⟨[], [], [], [], []⟩, ⟨[], [], [], [], []⟩⟩
def p39_2 : Plan := (.op 0 (.alt (.op 1 (.alt (.op 2 (.op 3 (.op 4 (.op 5 (.op 6 (.op 7 (.op 8 .fin))))))) (.op 6 (.op 2 (.op 3 (.op 4 (.op 5 (.op 7 (.op 8 .fin))))))))) (.op 6 (.op 1 (.op 2 (.op 3 (.op 4 (.op 5 (.op 7 (.op 8 .fin))))))))))
noncomputable def a39_2 (d : (List UInt64) × (List UInt64)) : Option (O3 ((List UInt64) × (List UInt64)) (Unit) (Unit)) :=
  bnd (fFrom (1 : UInt64)) fun y_17 =>
  bnd (fAdd (d.2, y_17)) fun y_18 =>
  some (.n (d.1, y_18.1))
noncomputable def l39_2 : ((List UInt64) × (List UInt64)) → Option (O3 ((List UInt64) × (List UInt64)) (Unit) (Unit)) := hide a39_2
theorem l39_2_eq (d : (List UInt64) × (List UInt64)) : l39_2 d = a39_2 d := congrFun (hide_eq _) d
noncomputable def g39_2 (d : (List UInt64) × (List UInt64)) : Option (List (O3 ((List UInt64) × (List UInt64)) (Unit) (Unit))) :=
  bnd
   (bnd (fFrom (1 : UInt64)) fun y_20 =>
   bnd
    (bnd (fAdd (d.2, y_20)) fun y_22 =>
    some [.n (d.1, y_22.1)]) fun x_21 =>
   bnd
    (bnd (fAdd (d.2, y_20)) fun y_23 =>
    some [.n (d.1, y_23.1)]) fun x_24 =>
   some (x_21 ++ x_24)) fun x_19 =>
  bnd
   (bnd (fFrom (1 : UInt64)) fun y_25 =>
   bnd (fAdd (d.2, y_25)) fun y_26 =>
   some [.n (d.1, y_26.1)]) fun x_27 =>
  some (x_19 ++ x_27)
theorem j39_2 (d : (List UInt64) × (List UInt64)) (y : O3 ((List UInt64) × (List UInt64)) (Unit) (Unit)) (hd : l39_2 d = some y) : ∃ r, g39_2 d = some r ∧ ∀ x ∈ r, x = y := by
  rw [l39_2_eq] at hd
  unfold a39_2 at hd
  obtain ⟨y_17, h0, hd⟩ := bnd_some hd
  obtain ⟨y_18, h1, hd⟩ := bnd_some hd
  obtain rfl := Option.some.inj hd
  refine ⟨_, by unfold g39_2; simp only [h0, h1, bnd_s]; rfl, by simp⟩
noncomputable def u39_2 : UH := unit (env 48 [(32, hd32), (43, hd43), (45, hd45), (49, hd49), (53, hd53)]) h39_2 o39_2 l39_2
def h39_1 : Sh := ⟨[.d (.arr 4 (.int .u64)), .d (.arr 4 (.int .u64))], [], [(2, [.arr 4 (.int .u64)]), (3, [.arr 4 (.int .u64)])], [], []⟩
def o39_1 : Outs := ⟨⟨[.d (.arr 4 (.int .u64)), .d (.arr 4 (.int .u64))], [], [(2, [.arr 4 (.int .u64)]), (5, [.arr 4 (.int .u64)])], [], []⟩, 0, ⟨[], [], [], [], []⟩, ⟨[], [], [], [], []⟩⟩
def p39_1 : Plan := (.op 0 (.alt (.op 1 (.alt (.op 2 (.op 3 (.op 4 (.op 5 (.op 6 (.op 7 (.op 8 .fin))))))) (.op 6 (.op 2 (.op 3 (.op 4 (.op 5 (.op 7 (.op 8 .fin))))))))) (.op 6 (.op 1 (.op 2 (.op 3 (.op 4 (.op 5 (.op 7 (.op 8 .fin))))))))))
noncomputable def a39_1 (d : (List UInt64) × (List UInt64)) : Option (O3 ((List UInt64) × (List UInt64)) (Unit) (Unit)) :=
  bnd (fFrom (1 : UInt64)) fun y_3 =>
  bnd (fAdd (d.2, y_3)) fun y_4 =>
  some (.n (d.1, y_4.1))
noncomputable def l39_1 : ((List UInt64) × (List UInt64)) → Option (O3 ((List UInt64) × (List UInt64)) (Unit) (Unit)) := hide a39_1
theorem l39_1_eq (d : (List UInt64) × (List UInt64)) : l39_1 d = a39_1 d := congrFun (hide_eq _) d
noncomputable def g39_1 (d : (List UInt64) × (List UInt64)) : Option (List (O3 ((List UInt64) × (List UInt64)) (Unit) (Unit))) :=
  bnd
   (bnd (fFrom (1 : UInt64)) fun y_6 =>
   bnd
    (bnd (fAdd (d.2, y_6)) fun y_8 =>
    some [.n (d.1, y_8.1)]) fun x_7 =>
   bnd
    (bnd (fAdd (d.2, y_6)) fun y_9 =>
    some [.n (d.1, y_9.1)]) fun x_10 =>
   some (x_7 ++ x_10)) fun x_5 =>
  bnd
   (bnd (fFrom (1 : UInt64)) fun y_11 =>
   bnd (fAdd (d.2, y_11)) fun y_12 =>
   some [.n (d.1, y_12.1)]) fun x_13 =>
  some (x_5 ++ x_13)
theorem j39_1 (d : (List UInt64) × (List UInt64)) (y : O3 ((List UInt64) × (List UInt64)) (Unit) (Unit)) (hd : l39_1 d = some y) : ∃ r, g39_1 d = some r ∧ ∀ x ∈ r, x = y := by
  rw [l39_1_eq] at hd
  unfold a39_1 at hd
  obtain ⟨y_3, h0, hd⟩ := bnd_some hd
  obtain ⟨y_4, h1, hd⟩ := bnd_some hd
  obtain rfl := Option.some.inj hd
  refine ⟨_, by unfold g39_1; simp only [h0, h1, bnd_s]; rfl, by simp⟩
noncomputable def u39_1 : UH := unit (env 48 [(32, hd32), (43, hd43), (45, hd45), (49, hd49), (53, hd53)]) h39_1 o39_1 l39_1
noncomputable def b39 (d : UInt32) : Option ((List UInt64)) :=
  bnd (m32 d) fun y_1 =>
  cnd (!(decide (y_1.2 = (0 : Int))))
   (let t21_2 : List UInt64 := [(0 : UInt64), (0 : UInt64), (0 : UInt64), (0 : UInt64)]
   some t21_2)
   (bnd (l39_1 ((List.replicate 4 (0 : UInt64)), y_1.1)) fun o => (match o with
    | .n o => (let t29_14 : List UInt64 := [(0 : UInt64), (0 : UInt64), (0 : UInt64), (0 : UInt64)]
    bnd (fSub (t29_14, o.2)) fun y_15 =>
    bnd (m53 (y_15.1, o.2)) fun y_16 =>
    bnd (l39_2 (o.1, y_16.1)) fun o => (match o with
     | .n o => (some o.2)
     | .x _o => none
     | .r _o => none))
    | .x _o => none
    | .r _o => none))
noncomputable def m39 : UInt32 → Option ((List UInt64)) := hide b39
theorem m39_eq (d : UInt32) : m39 d = b39 d := congrFun (hide_eq _) d
noncomputable def hd39 : Hd := ⟨[.d (.int .u32)], [.d (.arr 4 (.int .u64))], m39⟩
theorem ok39 : Okk Try.prog (env 48 [(32, hd32), (43, hd43), (45, hd45), (49, hd49), (53, hd53)]) := okk tab_ok (n := 48) (hs := [(32, hd32), (43, hd43), (45, hd45), (49, hd49), (53, hd53)]) ⟨fn32, fn43, fn45, fn49, fn53, trivial⟩ mixed
set_option maxRecDepth 100000 in
theorem e39_2 (d : Dat h39_2.ks) : regF (env 48 [(32, hd32), (43, hd43), (45, hd45), (49, hd49), (53, hd53)]) (unitAt c39 2) p39_2 h39_2 o39_2 d = g39_2 d := by kernel_rfl
theorem x39_2 : UOk Try.prog (env 48 [(32, hd32), (43, hd43), (45, hd45), (49, hd49), (53, hd53)]) (unitAt c39 2) u39_2 ∧ Pk Try.prog (env 48 [(32, hd32), (43, hd43), (45, hd45), (49, hd49), (53, hd53)]) u39_2.pk u39_2.up :=
  reg_at ok39 (show regOk (env 48 [(32, hd32), (43, hd43), (45, hd45), (49, hd49), (53, hd53)]) (unitAt c39 2) p39_2 = true by kernel_rfl) (h := h39_2) (o := o39_2) l39_2 (fun d y hy => by obtain ⟨r, h1, h2⟩ := j39_2 d y hy; exact ⟨r, (e39_2 d).trans h1, h2⟩)
set_option maxRecDepth 100000 in
theorem e39_1 (d : Dat h39_1.ks) : regF (env 48 [(32, hd32), (43, hd43), (45, hd45), (49, hd49), (53, hd53)]) (unitAt c39 1) p39_1 h39_1 o39_1 d = g39_1 d := by kernel_rfl
theorem x39_1 : UOk Try.prog (env 48 [(32, hd32), (43, hd43), (45, hd45), (49, hd49), (53, hd53)]) (unitAt c39 1) u39_1 ∧ Pk Try.prog (env 48 [(32, hd32), (43, hd43), (45, hd45), (49, hd49), (53, hd53)]) u39_1.pk u39_1.up :=
  reg_at ok39 (show regOk (env 48 [(32, hd32), (43, hd43), (45, hd45), (49, hd49), (53, hd53)]) (unitAt c39 1) p39_1 = true by kernel_rfl) (h := h39_1) (o := o39_1) l39_1 (fun d y hy => by obtain ⟨r, h1, h2⟩ := j39_1 d y hy; exact ⟨r, (e39_1 d).trans h1, h2⟩)
set_option maxRecDepth 100000 in
theorem r39 (d : Dat hd39.pks) : runF (env 48 [(32, hd32), (43, hd43), (45, hd45), (49, hd49), (53, hd53)]) (lkU [(1, u39_1), (2, u39_2)]) c39 (Try.f39).results.toList [] hd39.pks hd39.rks d = b39 d := by kernel_rfl
theorem q39 (d : Dat hd39.pks) (y : Dat hd39.rks) : (hd39.fm d = some y) = (m39 d = some y) := by kernel_rfl
theorem t39 (d : Dat hd39.pks) (y : Dat hd39.rks) (h : hd39.fm d = some y) : runF (env 48 [(32, hd32), (43, hd43), (45, hd45), (49, hd49), (53, hd53)]) (lkU [(1, u39_1), (2, u39_2)]) c39 (Try.f39).results.toList [] hd39.pks hd39.rks d = some y := (r39 d).trans ((m39_eq d).symm.trans ((q39 d y).mp h))
theorem gn39 : FnG Try.prog 39 hd39 :=
  fn_g (hl := lkU [(1, u39_1), (2, u39_2)]) (un := []) ok39 (fun _ => rfl) Try.func39 rfl Try.ntmps39 (by kernel_rfl) (rv := (Try.f39).results.toList) (by kernel_rfl) (by decide) (uall_at ⟨⟨_, Nat.le_of_ble_eq_true rfl, (show (units c39)[1]? = some (unitAt c39 1) by kernel_rfl), x39_1⟩, ⟨_, Nat.le_of_ble_eq_true rfl, (show (units c39)[2]? = some (unitAt c39 2) by kernel_rfl), x39_2⟩, trivial⟩) t39
theorem fn39 : FnOk Try.prog 39 hd39 := .inl gn39
/-! entail/entailref10.Work -/
noncomputable def c40 : Code := ((Try.f40).body).getD .skip
def h40_4 : Sh := ⟨[.d (.int .i64), .d (.arr 4 (.int .u64)), .d (.arr 4 (.int .u64)), .d (.arr 4 (.int .u64))], [8], [(2, [.arr 4 (.int .u64)]), (5, [.arr 4 (.int .u64)]), (7, [.arr 4 (.int .u64)])], [], []⟩
def o40_4 : Outs := ⟨⟨[.d (.int .i64), .d (.arr 4 (.int .u64)), .d (.arr 4 (.int .u64)), .d (.arr 4 (.int .u64)), .d (.arr 4 (.int .u64))], [8], [(2, [.arr 4 (.int .u64)]), (5, [.arr 4 (.int .u64)]), (7, [.arr 4 (.int .u64)]), (9, [.arr 4 (.int .u64)])], [], []⟩, 0, ⟨[], [], [], [], []⟩, ⟨[], [], [], [], []⟩⟩
def p40_4 : Plan := (.op 0 (.op 1 (.op 2 (.alt (.op 3 (.alt (.op 4 (.op 5 (.op 6 (.op 7 (.op 8 (.op 9 (.op 10 .fin))))))) (.op 8 (.op 4 (.op 5 (.op 6 (.op 7 (.op 9 (.op 10 .fin))))))))) (.op 8 (.op 3 (.op 4 (.op 5 (.op 6 (.op 7 (.op 9 (.op 10 .fin))))))))))))
noncomputable def a40_4 (d : Int × (List UInt64) × (List UInt64) × (List UInt64)) : Option (O3 (Int × (List UInt64) × (List UInt64) × (List UInt64) × (List UInt64)) (Unit) (Unit)) :=
  bnd (m65 ([(1 : UInt64), (0 : UInt64), (0 : UInt64), (0 : UInt64)], d.1)) fun y_7 =>
  bnd (fRAdd (d.2.2.2, y_7)) fun y_8 =>
  some (.n (d.1, d.2.1, d.2.2.1, d.2.2.2, y_8.1))
noncomputable def l40_4 : (Int × (List UInt64) × (List UInt64) × (List UInt64)) → Option (O3 (Int × (List UInt64) × (List UInt64) × (List UInt64) × (List UInt64)) (Unit) (Unit)) := hide a40_4
theorem l40_4_eq (d : Int × (List UInt64) × (List UInt64) × (List UInt64)) : l40_4 d = a40_4 d := congrFun (hide_eq _) d
noncomputable def g40_4 (d : Int × (List UInt64) × (List UInt64) × (List UInt64)) : Option (List (O3 (Int × (List UInt64) × (List UInt64) × (List UInt64) × (List UInt64)) (Unit) (Unit))) :=
  bnd
   (bnd (m65 ([(1 : UInt64), (0 : UInt64), (0 : UInt64), (0 : UInt64)], d.1)) fun y_10 =>
   bnd
    (bnd (fRAdd (d.2.2.2, y_10)) fun y_12 =>
    some [.n (d.1, d.2.1, d.2.2.1, d.2.2.2, y_12.1)]) fun x_11 =>
   bnd
    (bnd (fRAdd (d.2.2.2, y_10)) fun y_13 =>
    some [.n (d.1, d.2.1, d.2.2.1, d.2.2.2, y_13.1)]) fun x_14 =>
   some (x_11 ++ x_14)) fun x_9 =>
  bnd
   (bnd (m65 ([(1 : UInt64), (0 : UInt64), (0 : UInt64), (0 : UInt64)], d.1)) fun y_15 =>
   bnd (fRAdd (d.2.2.2, y_15)) fun y_16 =>
   some [.n (d.1, d.2.1, d.2.2.1, d.2.2.2, y_16.1)]) fun x_17 =>
  some (x_9 ++ x_17)
theorem j40_4 (d : Int × (List UInt64) × (List UInt64) × (List UInt64)) (y : O3 (Int × (List UInt64) × (List UInt64) × (List UInt64) × (List UInt64)) (Unit) (Unit)) (hd : l40_4 d = some y) : ∃ r, g40_4 d = some r ∧ ∀ x ∈ r, x = y := by
  rw [l40_4_eq] at hd
  unfold a40_4 at hd
  obtain ⟨y_7, h0, hd⟩ := bnd_some hd
  obtain ⟨y_8, h1, hd⟩ := bnd_some hd
  obtain rfl := Option.some.inj hd
  refine ⟨_, by unfold g40_4; simp only [h0, h1, bnd_s]; rfl, by simp⟩
noncomputable def u40_4 : UH := unit (env 64 [(33, hd33), (51, hd51), (64, hd64), (65, hd65)]) h40_4 o40_4 l40_4
def h40_2 : Sh := ⟨[.d (.int .i64), .d (.arr 4 (.int .u64)), .d (.arr 4 (.int .u64)), .d (.arr 4 (.int .u64))], [8], [(2, [.arr 4 (.int .u64)]), (5, [.arr 4 (.int .u64)]), (7, [.arr 4 (.int .u64)])], [], []⟩
def o40_2 : Outs := ⟨⟨[], [], [], [], []⟩, 0, ⟨[.d (.arr 4 (.int .u64)), .d (.arr 4 (.int .u64))], [], [(2, [.arr 4 (.int .u64)]), (7, [.arr 4 (.int .u64)])], [], []⟩, ⟨[], [], [], [], []⟩⟩
noncomputable def k40_2 (f : Int × (List UInt64) × (List UInt64) × (List UInt64) → Option (O3 (Unit) ((List UInt64) × (List UInt64)) (Unit))) (d : Int × (List UInt64) × (List UInt64) × (List UInt64)) : Option (O3 (Unit) ((List UInt64) × (List UInt64)) (Unit)) :=
  cnd (decide ((0 : Int) ≤ d.1))
   (bnd (l40_4 (d.1, d.2.1, d.2.2.1, d.2.2.2)) fun o => (match o with
    | .n o => (bnd (fRMul (o.2.2.2.2, o.2.2.1)) fun y_18 =>
    let t50_19 : List UInt64 := [(0 : UInt64), (0 : UInt64), (0 : UInt64), (0 : UInt64)]
    cnd (eqD (.arr 4 (.int .u64)) y_18.2 t50_19)
     (guard (inR .i64 (o.1 - (1 : Int))) <|
     let t34_20 : Int := (o.1 - (1 : Int))
     f (t34_20, o.2.1, o.2.2.1, o.2.2.2.2))
     (let t54_21 : List UInt64 := [(1 : UInt64), (0 : UInt64), (0 : UInt64), (0 : UInt64)]
     cnd (eqD (.arr 4 (.int .u64)) y_18.2 t54_21)
      (let t58_22 : List UInt64 := [(0 : UInt64), (0 : UInt64), (0 : UInt64), (0 : UInt64)]
      cnd (eqD (.arr 4 (.int .u64)) y_18.1 t58_22)
       (guard (inR .i64 (o.1 - (1 : Int))) <|
       let t34_23 : Int := (o.1 - (1 : Int))
       f (t34_23, o.2.1, o.2.2.1, o.2.2.2.2))
       (guard (inR .i64 (o.1 - (1 : Int))) <|
       let t34_24 : Int := (o.1 - (1 : Int))
       f (t34_24, o.2.1, o.2.2.1, o.2.2.2.1)))
      (guard (inR .i64 (o.1 - (1 : Int))) <|
      let t34_25 : Int := (o.1 - (1 : Int))
      f (t34_25, o.2.1, o.2.2.1, o.2.2.2.1))))
    | .x _o => none
    | .r _o => (some (.r ()))))
   (some (.x (d.2.1, d.2.2.2)))
noncomputable def l40_2 : Int × (List UInt64) × (List UInt64) × (List UInt64) → Option (O3 (Unit) ((List UInt64) × (List UInt64)) (Unit)) := itN k40_2 fuel
noncomputable def u40_2 : UH := unit (env 64 [(33, hd33), (51, hd51), (64, hd64), (65, hd65)]) h40_2 o40_2 l40_2
noncomputable def b40 (d : UInt32) : Option ((List UInt64)) :=
  bnd (m33 d) fun y_1 =>
  cnd (!(decide (y_1.2 = (0 : Int))))
   (let t20_2 : List UInt64 := [(0 : UInt64), (0 : UInt64), (0 : UInt64), (0 : UInt64)]
   some t20_2)
   (let t23_3 : List UInt64 := [(1 : UInt64), (0 : UInt64), (0 : UInt64), (0 : UInt64)]
   bnd (fRAdd (y_1.1, t23_3)) fun y_4 =>
   cnd (decide (y_4.2 = (1 : UInt64)))
    (let t29_5 : List UInt64 := [(1 : UInt64), (0 : UInt64), (0 : UInt64), (0 : UInt64)]
    some t29_5)
    (let t30_6 : List UInt64 := [(0 : UInt64), (0 : UInt64), (0 : UInt64), (0 : UInt64)]
    bnd (l40_2 ((255 : Int), (List.replicate 4 (0 : UInt64)), y_4.1, t30_6)) fun o => (match o with
     | .n _o => none
     | .x o => (some o.2)
     | .r _o => none)))
noncomputable def m40 : UInt32 → Option ((List UInt64)) := hide b40
theorem m40_eq (d : UInt32) : m40 d = b40 d := congrFun (hide_eq _) d
noncomputable def hd40 : Hd := ⟨[.d (.int .u32)], [.d (.arr 4 (.int .u64))], m40⟩
theorem ok40 : Okk Try.prog (env 64 [(33, hd33), (51, hd51), (64, hd64), (65, hd65)]) := okk tab_ok (n := 64) (hs := [(33, hd33), (51, hd51), (64, hd64), (65, hd65)]) ⟨fn33, fn51, fn64, fn65, trivial⟩ mixed
set_option maxRecDepth 100000 in
theorem e40_4 (d : Dat h40_4.ks) : regF (env 64 [(33, hd33), (51, hd51), (64, hd64), (65, hd65)]) (unitAt c40 4) p40_4 h40_4 o40_4 d = g40_4 d := by kernel_rfl
theorem x40_4 : UOk Try.prog (env 64 [(33, hd33), (51, hd51), (64, hd64), (65, hd65)]) (unitAt c40 4) u40_4 ∧ Pk Try.prog (env 64 [(33, hd33), (51, hd51), (64, hd64), (65, hd65)]) u40_4.pk u40_4.up :=
  reg_at ok40 (show regOk (env 64 [(33, hd33), (51, hd51), (64, hd64), (65, hd65)]) (unitAt c40 4) p40_4 = true by kernel_rfl) (h := h40_4) (o := o40_4) l40_4 (fun d y hy => by obtain ⟨r, h1, h2⟩ := j40_4 d y hy; exact ⟨r, (e40_4 d).trans h1, h2⟩)
set_option maxRecDepth 100000 in
theorem e40_2 (f : Dat h40_2.ks → Option o40_2.O) (d : Dat h40_2.ks) : loopF (env 64 [(33, hd33), (51, hd51), (64, hd64), (65, hd65)]) (lkU [(4, u40_4)]) 2 (lbody (unitAt c40 2)) h40_2 o40_2 f d = k40_2 f d := by kernel_rfl
theorem x40_2 : UOk Try.prog (env 64 [(33, hd33), (51, hd51), (64, hd64), (65, hd65)]) (unitAt c40 2) u40_2 ∧ Pk Try.prog (env 64 [(33, hd33), (51, hd51), (64, hd64), (65, hd65)]) u40_2.pk u40_2.up :=
  loop_at ok40 (show unitAt c40 2 = .loop (lbody (unitAt c40 2)) by kernel_rfl) (h := h40_2) (o := o40_2) (n := 2) (hl := lkU [(4, u40_4)]) (uall_at ⟨⟨_, Nat.le_of_ble_eq_true rfl, (show (units (lbody (unitAt c40 2)))[1]? = some (unitAt c40 4) by kernel_rfl), x40_4⟩, trivial⟩) k40_2 fuel e40_2
set_option maxRecDepth 100000 in
theorem r40 (d : Dat hd40.pks) : runF (env 64 [(33, hd33), (51, hd51), (64, hd64), (65, hd65)]) (lkU [(2, u40_2), (4, u40_4)]) c40 (Try.f40).results.toList [] hd40.pks hd40.rks d = b40 d := by kernel_rfl
theorem q40 (d : Dat hd40.pks) (y : Dat hd40.rks) : (hd40.fm d = some y) = (m40 d = some y) := by kernel_rfl
theorem t40 (d : Dat hd40.pks) (y : Dat hd40.rks) (h : hd40.fm d = some y) : runF (env 64 [(33, hd33), (51, hd51), (64, hd64), (65, hd65)]) (lkU [(2, u40_2), (4, u40_4)]) c40 (Try.f40).results.toList [] hd40.pks hd40.rks d = some y := (r40 d).trans ((m40_eq d).symm.trans ((q40 d y).mp h))
theorem gn40 : FnG Try.prog 40 hd40 :=
  fn_g (hl := lkU [(2, u40_2), (4, u40_4)]) (un := []) ok40 (fun _ => rfl) Try.func40 rfl Try.ntmps40 (by kernel_rfl) (rv := (Try.f40).results.toList) (by kernel_rfl) (by decide) (uall_at ⟨⟨_, Nat.le_of_ble_eq_true rfl, (show (units c40)[2]? = some (unitAt c40 2) by kernel_rfl), x40_2⟩, ⟨_, Nat.le_of_ble_eq_true rfl, (show (units c40)[4]? = some (unitAt c40 4) by kernel_rfl), x40_4⟩, trivial⟩) t40
theorem fn40 : FnOk Try.prog 40 hd40 := .inl gn40
/-! entail/target.Next -/
noncomputable def c41 : Code := ((Try.f41).body).getD .skip
def h41_2 : Sh := ⟨[.d (.int .i64), .d (.arr 4 (.int .u64))], [1], [(7, [.arr 4 (.int .u64)])], [], []⟩
def o41_2 : Outs := ⟨⟨[.d (.arr 4 (.int .u64)), .d (.arr 4 (.int .u64))], [], [(10, [.arr 4 (.int .u64)]), (11, [.arr 4 (.int .u64)])], [], []⟩, 0, ⟨[], [], [], [], []⟩, ⟨[], [], [], [], []⟩⟩
def p41_2 : Plan := (.op 0 (.op 1 (.op 2 (.alt (.op 3 (.alt (.op 4 (.op 5 (.op 6 (.op 7 (.alt (.op 8 (.op 9 (.op 10 (.op 11 .fin)))) (.op 9 (.op 8 (.op 10 (.op 11 .fin))))))))) (.alt (.op 8 (.alt (.op 4 (.op 5 (.op 6 (.op 7 (.op 9 (.op 10 (.op 11 .fin))))))) (.op 9 (.op 4 (.op 5 (.op 6 (.op 7 (.op 10 (.op 11 .fin))))))))) (.op 9 (.alt (.op 4 (.op 5 (.op 6 (.op 7 (.op 8 (.op 10 (.op 11 .fin))))))) (.op 8 (.op 4 (.op 5 (.op 6 (.op 7 (.op 10 (.op 11 .fin)))))))))))) (.alt (.op 8 (.alt (.op 3 (.alt (.op 4 (.op 5 (.op 6 (.op 7 (.op 9 (.op 10 (.op 11 .fin))))))) (.op 9 (.op 4 (.op 5 (.op 6 (.op 7 (.op 10 (.op 11 .fin))))))))) (.op 9 (.op 3 (.op 4 (.op 5 (.op 6 (.op 7 (.op 10 (.op 11 .fin)))))))))) (.op 9 (.alt (.op 3 (.alt (.op 4 (.op 5 (.op 6 (.op 7 (.op 8 (.op 10 (.op 11 .fin))))))) (.op 8 (.op 4 (.op 5 (.op 6 (.op 7 (.op 10 (.op 11 .fin))))))))) (.op 8 (.op 3 (.op 4 (.op 5 (.op 6 (.op 7 (.op 10 (.op 11 .fin)))))))))))))))
noncomputable def a41_2 (d : Int × (List UInt64)) : Option (O3 ((List UInt64) × (List UInt64)) (Unit) (Unit)) :=
  bnd (fFrom (ofI .u64 d.1)) fun y_44 =>
  bnd (fMul (d.2, y_44)) fun y_45 =>
  some (.n (y_45.1, y_45.2))
noncomputable def l41_2 : (Int × (List UInt64)) → Option (O3 ((List UInt64) × (List UInt64)) (Unit) (Unit)) := hide a41_2
theorem l41_2_eq (d : Int × (List UInt64)) : l41_2 d = a41_2 d := congrFun (hide_eq _) d
noncomputable def g41_2 (d : Int × (List UInt64)) : Option (List (O3 ((List UInt64) × (List UInt64)) (Unit) (Unit))) :=
  bnd
   (bnd (fFrom (ofI .u64 d.1)) fun y_47 =>
   bnd
    (bnd (fMul (d.2, y_47)) fun y_49 =>
    bnd
     (some [.n (y_49.1, y_49.2)]) fun x_50 =>
    bnd
     (some [.n (y_49.1, y_49.2)]) fun x_51 =>
    some (x_50 ++ x_51)) fun x_48 =>
   bnd
    (bnd
     (bnd
      (bnd (fMul (d.2, y_47)) fun y_54 =>
      some [.n (y_54.1, y_54.2)]) fun x_53 =>
     bnd
      (bnd (fMul (d.2, y_47)) fun y_55 =>
      some [.n (y_55.1, y_55.2)]) fun x_56 =>
     some (x_53 ++ x_56)) fun x_52 =>
    bnd
     (bnd
      (bnd (fMul (d.2, y_47)) fun y_58 =>
      some [.n (y_58.1, y_58.2)]) fun x_57 =>
     bnd
      (bnd (fMul (d.2, y_47)) fun y_59 =>
      some [.n (y_59.1, y_59.2)]) fun x_60 =>
     some (x_57 ++ x_60)) fun x_61 =>
    some (x_52 ++ x_61)) fun x_62 =>
   some (x_48 ++ x_62)) fun x_46 =>
  bnd
   (bnd
    (bnd
     (bnd (fFrom (ofI .u64 d.1)) fun y_65 =>
     bnd
      (bnd (fMul (d.2, y_65)) fun y_67 =>
      some [.n (y_67.1, y_67.2)]) fun x_66 =>
     bnd
      (bnd (fMul (d.2, y_65)) fun y_68 =>
      some [.n (y_68.1, y_68.2)]) fun x_69 =>
     some (x_66 ++ x_69)) fun x_64 =>
    bnd
     (bnd (fFrom (ofI .u64 d.1)) fun y_70 =>
     bnd (fMul (d.2, y_70)) fun y_71 =>
     some [.n (y_71.1, y_71.2)]) fun x_72 =>
    some (x_64 ++ x_72)) fun x_63 =>
   bnd
    (bnd
     (bnd (fFrom (ofI .u64 d.1)) fun y_74 =>
     bnd
      (bnd (fMul (d.2, y_74)) fun y_76 =>
      some [.n (y_76.1, y_76.2)]) fun x_75 =>
     bnd
      (bnd (fMul (d.2, y_74)) fun y_77 =>
      some [.n (y_77.1, y_77.2)]) fun x_78 =>
     some (x_75 ++ x_78)) fun x_73 =>
    bnd
     (bnd (fFrom (ofI .u64 d.1)) fun y_79 =>
     bnd (fMul (d.2, y_79)) fun y_80 =>
     some [.n (y_80.1, y_80.2)]) fun x_81 =>
    some (x_73 ++ x_81)) fun x_82 =>
   some (x_63 ++ x_82)) fun x_83 =>
  some (x_46 ++ x_83)
theorem j41_2 (d : Int × (List UInt64)) (y : O3 ((List UInt64) × (List UInt64)) (Unit) (Unit)) (hd : l41_2 d = some y) : ∃ r, g41_2 d = some r ∧ ∀ x ∈ r, x = y := by
  rw [l41_2_eq] at hd
  unfold a41_2 at hd
  obtain ⟨y_44, h0, hd⟩ := bnd_some hd
  obtain ⟨y_45, h1, hd⟩ := bnd_some hd
  obtain rfl := Option.some.inj hd
  refine ⟨_, by unfold g41_2; simp only [h0, h1, bnd_s]; rfl, by simp⟩
noncomputable def u41_2 : UH := unit (env 54 [(31, hd31), (32, hd32), (35, hd35), (46, hd46), (49, hd49), (53, hd53)]) h41_2 o41_2 l41_2
def h41_1 : Sh := ⟨[.d (.int .i64), .d (.arr 4 (.int .u64))], [1], [(5, [.arr 4 (.int .u64)])], [], []⟩
def o41_1 : Outs := ⟨⟨[.d (.int .i64), .d (.arr 4 (.int .u64))], [1], [(7, [.arr 4 (.int .u64)])], [], []⟩, 0, ⟨[], [], [], [], []⟩, ⟨[], [], [], [], []⟩⟩
def p41_1 : Plan := (.op 0 (.alt (.op 1 (.alt (.op 2 (.op 3 (.op 4 (.op 5 (.op 6 (.alt (.op 7 (.op 8 (.op 9 (.op 10 (.op 11 .fin))))) (.op 8 (.op 7 (.op 9 (.op 10 (.op 11 .fin))))))))))) (.alt (.op 7 (.alt (.op 2 (.op 3 (.op 4 (.op 5 (.op 6 (.op 8 (.op 9 (.op 10 (.op 11 .fin))))))))) (.op 8 (.op 2 (.op 3 (.op 4 (.op 5 (.op 6 (.op 9 (.op 10 (.op 11 .fin))))))))))) (.op 8 (.alt (.op 2 (.op 3 (.op 4 (.op 5 (.op 6 (.op 7 (.op 9 (.op 10 (.op 11 .fin))))))))) (.op 7 (.op 2 (.op 3 (.op 4 (.op 5 (.op 6 (.op 9 (.op 10 (.op 11 .fin)))))))))))))) (.alt (.op 7 (.alt (.op 1 (.alt (.op 2 (.op 3 (.op 4 (.op 5 (.op 6 (.op 8 (.op 9 (.op 10 (.op 11 .fin))))))))) (.op 8 (.op 2 (.op 3 (.op 4 (.op 5 (.op 6 (.op 9 (.op 10 (.op 11 .fin))))))))))) (.op 8 (.op 1 (.op 2 (.op 3 (.op 4 (.op 5 (.op 6 (.op 9 (.op 10 (.op 11 .fin)))))))))))) (.op 8 (.alt (.op 1 (.alt (.op 2 (.op 3 (.op 4 (.op 5 (.op 6 (.op 7 (.op 9 (.op 10 (.op 11 .fin))))))))) (.op 7 (.op 2 (.op 3 (.op 4 (.op 5 (.op 6 (.op 9 (.op 10 (.op 11 .fin))))))))))) (.op 7 (.op 1 (.op 2 (.op 3 (.op 4 (.op 5 (.op 6 (.op 9 (.op 10 (.op 11 .fin)))))))))))))))
noncomputable def a41_1 (d : Int × (List UInt64)) : Option (O3 (Int × (List UInt64)) (Unit) (Unit)) :=
  bnd (fFrom (4800 : UInt64)) fun y_4 =>
  bnd (m53 (d.2, y_4)) fun y_5 =>
  some (.n (d.1, y_5.1))
noncomputable def l41_1 : (Int × (List UInt64)) → Option (O3 (Int × (List UInt64)) (Unit) (Unit)) := hide a41_1
theorem l41_1_eq (d : Int × (List UInt64)) : l41_1 d = a41_1 d := congrFun (hide_eq _) d
noncomputable def g41_1 (d : Int × (List UInt64)) : Option (List (O3 (Int × (List UInt64)) (Unit) (Unit))) :=
  bnd
   (bnd (fFrom (4800 : UInt64)) fun y_7 =>
   bnd
    (bnd (m53 (d.2, y_7)) fun y_9 =>
    bnd
     (some [.n (d.1, y_9.1)]) fun x_10 =>
    bnd
     (some [.n (d.1, y_9.1)]) fun x_11 =>
    some (x_10 ++ x_11)) fun x_8 =>
   bnd
    (bnd
     (bnd
      (bnd (m53 (d.2, y_7)) fun y_14 =>
      some [.n (d.1, y_14.1)]) fun x_13 =>
     bnd
      (bnd (m53 (d.2, y_7)) fun y_15 =>
      some [.n (d.1, y_15.1)]) fun x_16 =>
     some (x_13 ++ x_16)) fun x_12 =>
    bnd
     (bnd
      (bnd (m53 (d.2, y_7)) fun y_18 =>
      some [.n (d.1, y_18.1)]) fun x_17 =>
     bnd
      (bnd (m53 (d.2, y_7)) fun y_19 =>
      some [.n (d.1, y_19.1)]) fun x_20 =>
     some (x_17 ++ x_20)) fun x_21 =>
    some (x_12 ++ x_21)) fun x_22 =>
   some (x_8 ++ x_22)) fun x_6 =>
  bnd
   (bnd
    (bnd
     (bnd (fFrom (4800 : UInt64)) fun y_25 =>
     bnd
      (bnd (m53 (d.2, y_25)) fun y_27 =>
      some [.n (d.1, y_27.1)]) fun x_26 =>
     bnd
      (bnd (m53 (d.2, y_25)) fun y_28 =>
      some [.n (d.1, y_28.1)]) fun x_29 =>
     some (x_26 ++ x_29)) fun x_24 =>
    bnd
     (bnd (fFrom (4800 : UInt64)) fun y_30 =>
     bnd (m53 (d.2, y_30)) fun y_31 =>
     some [.n (d.1, y_31.1)]) fun x_32 =>
    some (x_24 ++ x_32)) fun x_23 =>
   bnd
    (bnd
     (bnd (fFrom (4800 : UInt64)) fun y_34 =>
     bnd
      (bnd (m53 (d.2, y_34)) fun y_36 =>
      some [.n (d.1, y_36.1)]) fun x_35 =>
     bnd
      (bnd (m53 (d.2, y_34)) fun y_37 =>
      some [.n (d.1, y_37.1)]) fun x_38 =>
     some (x_35 ++ x_38)) fun x_33 =>
    bnd
     (bnd (fFrom (4800 : UInt64)) fun y_39 =>
     bnd (m53 (d.2, y_39)) fun y_40 =>
     some [.n (d.1, y_40.1)]) fun x_41 =>
    some (x_33 ++ x_41)) fun x_42 =>
   some (x_23 ++ x_42)) fun x_43 =>
  some (x_6 ++ x_43)
theorem j41_1 (d : Int × (List UInt64)) (y : O3 (Int × (List UInt64)) (Unit) (Unit)) (hd : l41_1 d = some y) : ∃ r, g41_1 d = some r ∧ ∀ x ∈ r, x = y := by
  rw [l41_1_eq] at hd
  unfold a41_1 at hd
  obtain ⟨y_4, h0, hd⟩ := bnd_some hd
  obtain ⟨y_5, h1, hd⟩ := bnd_some hd
  obtain rfl := Option.some.inj hd
  refine ⟨_, by unfold g41_1; simp only [h0, h1, bnd_s]; rfl, by simp⟩
noncomputable def u41_1 : UH := unit (env 54 [(31, hd31), (32, hd32), (35, hd35), (46, hd46), (49, hd49), (53, hd53)]) h41_1 o41_1 l41_1
noncomputable def b41 (d : UInt32 × Int) : Option (UInt32) :=
  bnd (m32 d.1) fun y_1 =>
  cnd (!(decide (y_1.2 = (0 : Int))))
   (some (545259519 : UInt32))
   (let t22_2 : Int := (match decide (d.2 < (1200 : Int)) with | true => (1200 : Int) | false => d.2)
   let t23_3 : Int := (match decide ((19200 : Int) < t22_2) with | true => (19200 : Int) | false => t22_2)
   bnd (l41_1 (t23_3, y_1.1)) fun o => (match o with
    | .n o => (bnd (l41_2 (o.1, o.2)) fun o => (match o with
     | .n o => (bnd (m32 (545259519 : UInt32)) fun y_84 =>
     let t44_85 : List UInt64 := [(0 : UInt64), (0 : UInt64), (0 : UInt64), (0 : UInt64)]
     cnd (!(eqD (.arr 4 (.int .u64)) o.2 t44_85))
      (some (545259519 : UInt32))
      (bnd (fCmp (o.1, y_84.1)) fun y_86 =>
      cnd (decide ((0 : Int) < y_86))
       (some (545259519 : UInt32))
       (bnd (m35 o.1) fun y_87 =>
       some y_87)))
     | .x _o => none
     | .r _o => none))
    | .x _o => none
    | .r _o => none))
noncomputable def m41 : (UInt32 × Int) → Option (UInt32) := hide b41
theorem m41_eq (d : UInt32 × Int) : m41 d = b41 d := congrFun (hide_eq _) d
noncomputable def hd41 : Hd := ⟨[.d (.int .u32), .d (.int .i64)], [.d (.int .u32)], m41⟩
theorem ok41 : Okk Try.prog (env 54 [(31, hd31), (32, hd32), (35, hd35), (46, hd46), (49, hd49), (53, hd53)]) := okk tab_ok (n := 54) (hs := [(31, hd31), (32, hd32), (35, hd35), (46, hd46), (49, hd49), (53, hd53)]) ⟨fn31, fn32, fn35, fn46, fn49, fn53, trivial⟩ mixed
set_option maxRecDepth 100000 in
theorem e41_2 (d : Dat h41_2.ks) : regF (env 54 [(31, hd31), (32, hd32), (35, hd35), (46, hd46), (49, hd49), (53, hd53)]) (unitAt c41 2) p41_2 h41_2 o41_2 d = g41_2 d := by kernel_rfl
theorem x41_2 : UOk Try.prog (env 54 [(31, hd31), (32, hd32), (35, hd35), (46, hd46), (49, hd49), (53, hd53)]) (unitAt c41 2) u41_2 ∧ Pk Try.prog (env 54 [(31, hd31), (32, hd32), (35, hd35), (46, hd46), (49, hd49), (53, hd53)]) u41_2.pk u41_2.up :=
  reg_at ok41 (show regOk (env 54 [(31, hd31), (32, hd32), (35, hd35), (46, hd46), (49, hd49), (53, hd53)]) (unitAt c41 2) p41_2 = true by kernel_rfl) (h := h41_2) (o := o41_2) l41_2 (fun d y hy => by obtain ⟨r, h1, h2⟩ := j41_2 d y hy; exact ⟨r, (e41_2 d).trans h1, h2⟩)
set_option maxRecDepth 100000 in
theorem e41_1 (d : Dat h41_1.ks) : regF (env 54 [(31, hd31), (32, hd32), (35, hd35), (46, hd46), (49, hd49), (53, hd53)]) (unitAt c41 1) p41_1 h41_1 o41_1 d = g41_1 d := by kernel_rfl
theorem x41_1 : UOk Try.prog (env 54 [(31, hd31), (32, hd32), (35, hd35), (46, hd46), (49, hd49), (53, hd53)]) (unitAt c41 1) u41_1 ∧ Pk Try.prog (env 54 [(31, hd31), (32, hd32), (35, hd35), (46, hd46), (49, hd49), (53, hd53)]) u41_1.pk u41_1.up :=
  reg_at ok41 (show regOk (env 54 [(31, hd31), (32, hd32), (35, hd35), (46, hd46), (49, hd49), (53, hd53)]) (unitAt c41 1) p41_1 = true by kernel_rfl) (h := h41_1) (o := o41_1) l41_1 (fun d y hy => by obtain ⟨r, h1, h2⟩ := j41_1 d y hy; exact ⟨r, (e41_1 d).trans h1, h2⟩)
set_option maxRecDepth 100000 in
theorem r41 (d : Dat hd41.pks) : runF (env 54 [(31, hd31), (32, hd32), (35, hd35), (46, hd46), (49, hd49), (53, hd53)]) (lkU [(1, u41_1), (2, u41_2)]) c41 (Try.f41).results.toList [] hd41.pks hd41.rks d = b41 d := by kernel_rfl
theorem q41 (d : Dat hd41.pks) (y : Dat hd41.rks) : (hd41.fm d = some y) = (m41 d = some y) := by kernel_rfl
theorem t41 (d : Dat hd41.pks) (y : Dat hd41.rks) (h : hd41.fm d = some y) : runF (env 54 [(31, hd31), (32, hd32), (35, hd35), (46, hd46), (49, hd49), (53, hd53)]) (lkU [(1, u41_1), (2, u41_2)]) c41 (Try.f41).results.toList [] hd41.pks hd41.rks d = some y := (r41 d).trans ((m41_eq d).symm.trans ((q41 d y).mp h))
theorem gn41 : FnG Try.prog 41 hd41 :=
  fn_g (hl := lkU [(1, u41_1), (2, u41_2)]) (un := []) ok41 (fun _ => rfl) Try.func41 rfl Try.ntmps41 (by kernel_rfl) (rv := (Try.f41).results.toList) (by kernel_rfl) (by decide) (uall_at ⟨⟨_, Nat.le_of_ble_eq_true rfl, (show (units c41)[1]? = some (unitAt c41 1) by kernel_rfl), x41_1⟩, ⟨_, Nat.le_of_ble_eq_true rfl, (show (units c41)[2]? = some (unitAt c41 2) by kernel_rfl), x41_2⟩, trivial⟩) t41
theorem fn41 : FnOk Try.prog 41 hd41 := .inl gn41
/-! entail/entailref10.Next -/
noncomputable def c42 : Code := ((Try.f42).body).getD .skip
def h42_2 : Sh := ⟨[.d (.int .i64), .d (.bool), .d (.arr 4 (.int .u64))], [1, 24], [(5, [.arr 4 (.int .u64)])], [], []⟩
def o42_2 : Outs := ⟨⟨[.d (.int .i64), .d (.arr 4 (.int .u64))], [1], [(5, [.arr 4 (.int .u64)])], [], []⟩, 0, ⟨[], [], [], [], []⟩, ⟨[], [], [], [], []⟩⟩
noncomputable def a42_2 (d : Int × Bool × (List UInt64)) : Option (O3 (Int × (List UInt64)) (Unit) (Unit)) :=
  cnd d.2.1
   (some (.n ((19200 : Int), d.2.2)))
   (some (.n (d.1, d.2.2)))
noncomputable def l42_2 : (Int × Bool × (List UInt64)) → Option (O3 (Int × (List UInt64)) (Unit) (Unit)) := hide a42_2
theorem l42_2_eq (d : Int × Bool × (List UInt64)) : l42_2 d = a42_2 d := congrFun (hide_eq _) d
noncomputable def u42_2 : UH := unit (env 56 [(33, hd33), (36, hd36), (51, hd51), (57, hd57), (66, hd66)]) h42_2 o42_2 l42_2
def h42_1 : Sh := ⟨[.d (.int .i64), .d (.bool), .d (.arr 4 (.int .u64))], [1, 22], [(5, [.arr 4 (.int .u64)])], [], []⟩
def o42_1 : Outs := ⟨⟨[.d (.int .i64), .d (.arr 4 (.int .u64))], [1], [(5, [.arr 4 (.int .u64)])], [], []⟩, 0, ⟨[], [], [], [], []⟩, ⟨[], [], [], [], []⟩⟩
noncomputable def a42_1 (d : Int × Bool × (List UInt64)) : Option (O3 (Int × (List UInt64)) (Unit) (Unit)) :=
  cnd d.2.1
   (some (.n ((1200 : Int), d.2.2)))
   (some (.n (d.1, d.2.2)))
noncomputable def l42_1 : (Int × Bool × (List UInt64)) → Option (O3 (Int × (List UInt64)) (Unit) (Unit)) := hide a42_1
theorem l42_1_eq (d : Int × Bool × (List UInt64)) : l42_1 d = a42_1 d := congrFun (hide_eq _) d
noncomputable def u42_1 : UH := unit (env 56 [(33, hd33), (36, hd36), (51, hd51), (57, hd57), (66, hd66)]) h42_1 o42_1 l42_1
noncomputable def b42 (d : UInt32 × Int) : Option (UInt32) :=
  bnd (m33 d.1) fun y_1 =>
  cnd (!(decide (y_1.2 = (0 : Int))))
   (some (545259519 : UInt32))
   (bnd (l42_1 (d.2, (decide (d.2 < (1200 : Int))), y_1.1)) fun o => (match o with
    | .n o => (bnd (l42_2 (o.1, (decide ((19200 : Int) < o.1)), o.2)) fun o => (match o with
     | .n o => (bnd (m33 (545259519 : UInt32)) fun y_2 =>
     let t31_3 : List UInt64 := [(4800 : UInt64), (0 : UInt64), (0 : UInt64), (0 : UInt64)]
     bnd (m66 (o.2, t31_3)) fun y_4 =>
     let t39_5 : UInt64 := (ofI .u64 o.1)
     let t40_6 : List UInt64 := [t39_5, (0 : UInt64), (0 : UInt64), (0 : UInt64)]
     bnd (fRMul (y_4.1, t40_6)) fun y_7 =>
     let t45_8 : List UInt64 := [(0 : UInt64), (0 : UInt64), (0 : UInt64), (0 : UInt64)]
     cnd (!(eqD (.arr 4 (.int .u64)) y_7.2 t45_8))
      (bnd (m36 y_2.1) fun y_9 =>
      some y_9)
      (bnd (fRCmp (y_7.1, y_2.1)) fun y_10 =>
      cnd (decide ((0 : Int) < y_10))
       (bnd (m36 y_2.1) fun y_11 =>
       some y_11)
       (bnd (m36 y_7.1) fun y_12 =>
       some y_12)))
     | .x _o => none
     | .r _o => none))
    | .x _o => none
    | .r _o => none))
noncomputable def m42 : (UInt32 × Int) → Option (UInt32) := hide b42
theorem m42_eq (d : UInt32 × Int) : m42 d = b42 d := congrFun (hide_eq _) d
noncomputable def hd42 : Hd := ⟨[.d (.int .u32), .d (.int .i64)], [.d (.int .u32)], m42⟩
theorem ok42 : Okk Try.prog (env 56 [(33, hd33), (36, hd36), (51, hd51), (57, hd57), (66, hd66)]) := okk tab_ok (n := 56) (hs := [(33, hd33), (36, hd36), (51, hd51), (57, hd57), (66, hd66)]) ⟨fn33, fn36, fn51, fn57, fn66, trivial⟩ mixed
set_option maxRecDepth 100000 in
theorem e42_2 (d : Dat h42_2.ks) : condU (env 56 [(33, hd33), (36, hd36), (51, hd51), (57, hd57), (66, hd66)]) (lkU []) 2 (unitAt c42 2) h42_2 o42_2 d = a42_2 d := by kernel_rfl
theorem x42_2 : UOk Try.prog (env 56 [(33, hd33), (36, hd36), (51, hd51), (57, hd57), (66, hd66)]) (unitAt c42 2) u42_2 ∧ Pk Try.prog (env 56 [(33, hd33), (36, hd36), (51, hd51), (57, hd57), (66, hd66)]) u42_2.pk u42_2.up :=
  cond_at ok42 (show isCond (unitAt c42 2) = true by kernel_rfl) (h := h42_2) (o := o42_2) (n := 2) (hl := lkU []) rfl (uall_at trivial) l42_2 (fun d => (e42_2 d).trans (l42_2_eq d).symm)
set_option maxRecDepth 100000 in
theorem e42_1 (d : Dat h42_1.ks) : condU (env 56 [(33, hd33), (36, hd36), (51, hd51), (57, hd57), (66, hd66)]) (lkU []) 1 (unitAt c42 1) h42_1 o42_1 d = a42_1 d := by kernel_rfl
theorem x42_1 : UOk Try.prog (env 56 [(33, hd33), (36, hd36), (51, hd51), (57, hd57), (66, hd66)]) (unitAt c42 1) u42_1 ∧ Pk Try.prog (env 56 [(33, hd33), (36, hd36), (51, hd51), (57, hd57), (66, hd66)]) u42_1.pk u42_1.up :=
  cond_at ok42 (show isCond (unitAt c42 1) = true by kernel_rfl) (h := h42_1) (o := o42_1) (n := 1) (hl := lkU []) rfl (uall_at trivial) l42_1 (fun d => (e42_1 d).trans (l42_1_eq d).symm)
set_option maxRecDepth 100000 in
theorem r42 (d : Dat hd42.pks) : runF (env 56 [(33, hd33), (36, hd36), (51, hd51), (57, hd57), (66, hd66)]) (lkU [(1, u42_1), (2, u42_2)]) c42 (Try.f42).results.toList [] hd42.pks hd42.rks d = b42 d := by kernel_rfl
theorem q42 (d : Dat hd42.pks) (y : Dat hd42.rks) : (hd42.fm d = some y) = (m42 d = some y) := by kernel_rfl
theorem t42 (d : Dat hd42.pks) (y : Dat hd42.rks) (h : hd42.fm d = some y) : runF (env 56 [(33, hd33), (36, hd36), (51, hd51), (57, hd57), (66, hd66)]) (lkU [(1, u42_1), (2, u42_2)]) c42 (Try.f42).results.toList [] hd42.pks hd42.rks d = some y := (r42 d).trans ((m42_eq d).symm.trans ((q42 d y).mp h))
theorem gn42 : FnG Try.prog 42 hd42 :=
  fn_g (hl := lkU [(1, u42_1), (2, u42_2)]) (un := []) ok42 (fun _ => rfl) Try.func42 rfl Try.ntmps42 (by kernel_rfl) (rv := (Try.f42).results.toList) (by kernel_rfl) (by decide) (uall_at ⟨⟨_, Nat.le_of_ble_eq_true rfl, (show (units c42)[1]? = some (unitAt c42 1) by kernel_rfl), x42_1⟩, ⟨_, Nat.le_of_ble_eq_true rfl, (show (units c42)[2]? = some (unitAt c42 2) by kernel_rfl), x42_2⟩, trivial⟩) t42
theorem fn42 : FnOk Try.prog 42 hd42 := .inl gn42
/-! entail/entailref10.Meets -/
noncomputable def c38 : Code := ((Try.f38).body).getD .skip
noncomputable def b38 (d : (List UInt8) × UInt32) : Option (Bool) :=
  bnd (m33 d.2) fun y_1 =>
  bnd (m63 ((List.take 32 d.1).drop 0)) fun y_2 =>
  bnd (m62 y_2) fun y_3 =>
  bnd (m56 y_3) fun y_4 =>
  cnd (decide (y_1.2 = (0 : Int)))
   (bnd (fRCmp (y_4, y_1.1)) fun y_5 =>
   some (decide (y_5 ≤ (0 : Int))))
   (some false)
noncomputable def m38 : ((List UInt8) × UInt32) → Option (Bool) := hide b38
theorem m38_eq (d : (List UInt8) × UInt32) : m38 d = b38 d := congrFun (hide_eq _) d
noncomputable def hd38 : Hd := ⟨[.d (.arr 32 (.int .u8)), .d (.int .u32)], [.d (.bool)], m38⟩
theorem ok38 : Okk Try.prog (env 25 [(33, hd33), (56, hd56), (57, hd57), (62, hd62), (63, hd63)]) := okk tab_ok (n := 25) (hs := [(33, hd33), (56, hd56), (57, hd57), (62, hd62), (63, hd63)]) ⟨fn33, fn56, fn57, fn62, fn63, trivial⟩ mixed
set_option maxRecDepth 100000 in
theorem r38 (d : Dat hd38.pks) : runF (env 25 [(33, hd33), (56, hd56), (57, hd57), (62, hd62), (63, hd63)]) (lkU []) c38 (Try.f38).results.toList [] hd38.pks hd38.rks d = b38 d := by kernel_rfl
theorem q38 (d : Dat hd38.pks) (y : Dat hd38.rks) : (hd38.fm d = some y) = (m38 d = some y) := by kernel_rfl
theorem t38 (d : Dat hd38.pks) (y : Dat hd38.rks) (h : hd38.fm d = some y) : runF (env 25 [(33, hd33), (56, hd56), (57, hd57), (62, hd62), (63, hd63)]) (lkU []) c38 (Try.f38).results.toList [] hd38.pks hd38.rks d = some y := (r38 d).trans ((m38_eq d).symm.trans ((q38 d y).mp h))
theorem gn38 : FnG Try.prog 38 hd38 :=
  fn_g (hl := lkU []) (un := []) ok38 (fun _ => rfl) Try.func38 rfl Try.ntmps38 (by kernel_rfl) (rv := (Try.f38).results.toList) (by kernel_rfl) (by decide) (uall_at trivial) t38
theorem fn38 : FnOk Try.prog 38 hd38 := .inl gn38
end Go.Proofs.Ytpfoeeiacfadfaa.Q.T
