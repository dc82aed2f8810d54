/-
  IN ANY ORDER: sums and products do not hang on the order; a product with a sum is the sum of the products, modulo 2^256; a shift is a product with a power of two. Conditions: none.
-/
import Derived.Test.YtijghhecclaafaaDoorCards
import Derived.Test.YtijghhecclaafaaDoorTie
import Derived.Test.YtijghhecclaafaaDoorLaid
import Derived.Test.YtijghhecclaafaaDoorLW1
import Derived.Test.YtijghhecclaafaaDoorArrOpenW
import Derived.WalkKit
import Derived.ProofKit
import Derived.OpenShut
import Derived.ShutString
import Derived.ChangeOld
import Derived.Below
import Derived.Deep.DeepHandedRow
namespace Go.Proofs.YtijghhecclaafaaDoor.wideLaws
open Go.ChangeShapes Go.WideShapes Go.ChangeAt Go.RowKit
open Go.ChangeMaps (open_string shut_string)
set_option linter.unusedVariables false

theorem own : ownKnob Tryd.prog.godebug = none := by kernel_rfl
theorem laidOut : laidOutB Tryd.prog = true := by kernel_rfl

set_option maxRecDepth 20000 in
set_option maxHeartbeats 8000000 in
/-- The walk. -/
theorem walk (l0 : Nat) (l1 : Nat) (l2 : Nat) (w : World) (e0 : l0 < M) (e1 : l1 < M) (e2 : l2 < M) (ht : Facts w) :
    Calls Tryd.prog 9 #[wv l0, wv l1, wv l2] w fun e w' => e = .returned (.bool true) ∧ Below w.heap.size w w' := by
  have HT : Hid (Tb w) := ht
  obtain ⟨a, rfl⟩ : ∃ x, x = l0 := ⟨_, rfl⟩
  obtain ⟨b, rfl⟩ : ∃ x, x = l1 := ⟨_, rfl⟩
  obtain ⟨c, rfl⟩ : ∃ x, x = l2 := ⟨_, rfl⟩
  have HAl : Hid (∀ w', Below w.heap.size w w' → Calls Tryd.prog 15 #[] w' fun e w'' => e = .returned (.bool true) ∧ Below w'.heap.size w' w'') := fun w' hb => alive_any w' (HT.out.gr hb)
  have hmod : ∀ x, x % M < M := fun x => Nat.mod_lt _ (by decide)
  have hdivl : ∀ x y, x < M → y < M → x * y / M < M := fun x y hx hy => by
    rw [Nat.div_lt_iff_lt_mul (by decide)]
    exact Nat.lt_of_le_of_lt (Nat.mul_le_mul_left x (Nat.le_of_lt hy)) (Nat.mul_lt_mul_of_pos_right hx (by decide))
  obtain ⟨s, es⟩ : ∃ x, (a + b) % M = x := ⟨_, rfl⟩
  obtain ⟨k, ek⟩ : ∃ x, (a + b) / M = x := ⟨_, rfl⟩
  obtain ⟨x, ex⟩ : ∃ x, a * c % M = x := ⟨_, rfl⟩
  obtain ⟨y, ey⟩ : ∃ x, a * c / M = x := ⟨_, rfl⟩
  obtain ⟨z, ez⟩ : ∃ x, b * c % M = x := ⟨_, rfl⟩
  obtain ⟨z2, ez2⟩ : ∃ x, b * c / M = x := ⟨_, rfl⟩
  obtain ⟨p, ep⟩ : ∃ x, s * c % M = x := ⟨_, rfl⟩
  obtain ⟨p2, ep2⟩ : ∃ x, s * c / M = x := ⟨_, rfl⟩
  obtain ⟨k2, ek2⟩ : ∃ t, (x + z) / M = t := ⟨_, rfl⟩
  have hp : (x + z) % M = p := by
    rw [← ex, ← ez, ← ep, ← es, ← Nat.add_mod, ← Nat.add_mul, Nat.mod_mul_mod]
  obtain ⟨c0, ec⟩ : ∃ x, gw (w4 c) 0 = x := ⟨_, rfl⟩
  have hc0 : c0 < 18446744073709551616 := ec ▸ gw_lt c 0
  obtain ⟨n, en⟩ : ∃ x, c0 % 256 = x := ⟨_, rfl⟩
  have hn : n < 256 := by omega
  obtain ⟨pw, epw⟩ : ∃ x, 2 ^ n = x := ⟨_, rfl⟩
  have hpw : 2 ^ n < M := by
    have h : 2 ^ n < 2 ^ 256 := Nat.pow_lt_pow_right (by decide) hn
    exact h
  obtain ⟨lo, elo⟩ : ∃ x, a * pw % M = x := ⟨_, rfl⟩
  obtain ⟨hi, ehi⟩ : ∃ x, a * pw / M = x := ⟨_, rfl⟩
  have Ls : Hid (s < M) := es ▸ hmod _
  have Lx : Hid (x < M) := ex ▸ hmod _
  have Ly : Hid (y < M) := ey ▸ hdivl a c e0 e2
  have Lp : Hid (p < M) := ep ▸ hmod _
  have Ll : Hid (lo < M) := elo ▸ hmod _
  have Ec : Hid (gw (w4 c) 0 = c0) := ec
  have En : Hid (c0 % 256 = n) := en
  have Lc : Hid (c0 < 18446744073709551616) := hc0
  have H1 : Hid (∀ w, Calls Tryd.prog 11 #[wv a, wv b] w fun e w' => e = .returned ((.tuple #[wv s, .int .u64 (k : Nat)])) ∧ Below w.heap.size w w') := fun w => by have := add_any a b e0 e1 w; rw [es, ek] at this; exact this
  have H2 : Hid (∀ w, Calls Tryd.prog 11 #[wv b, wv a] w fun e w' => e = .returned ((.tuple #[wv s, .int .u64 (k : Nat)])) ∧ Below w.heap.size w w') := fun w => by have := add_any b a e1 e0 w; rw [Nat.add_comm, es, ek] at this; exact this
  have H3 : Hid (∀ w, Calls Tryd.prog 21 #[wv a, wv c] w fun e w' => e = .returned ((.tuple #[wv x, wv y])) ∧ Below w.heap.size w w') := fun w => by have := mul_any a c e0 e2 w; rw [ex, ey] at this; exact this
  have H4 : Hid (∀ w, Calls Tryd.prog 21 #[wv c, wv a] w fun e w' => e = .returned ((.tuple #[wv x, wv y])) ∧ Below w.heap.size w w') := fun w => by have := mul_any c a e2 e0 w; rw [Nat.mul_comm, ex, ey] at this; exact this
  have H5 : Hid (∀ w, Calls Tryd.prog 21 #[wv b, wv c] w fun e w' => e = .returned ((.tuple #[wv z, wv z2])) ∧ Below w.heap.size w w') := fun w => by have := mul_any b c e1 e2 w; rw [ez, ez2] at this; exact this
  have H6 : Hid (∀ w, Calls Tryd.prog 21 #[wv s, wv c] w fun e w' => e = .returned ((.tuple #[wv p, wv p2])) ∧ Below w.heap.size w w') := fun w => by have := mul_any s c Ls.out e2 w; rw [ep, ep2] at this; exact this
  have H7 : Hid (∀ w, Calls Tryd.prog 11 #[wv x, wv z] w fun e w' => e = .returned ((.tuple #[wv p, .int .u64 (k2 : Nat)])) ∧ Below w.heap.size w w') := fun w => by have := add_any x z Lx.out (ez ▸ hmod _) w; rw [hp, ek2] at this; exact this
  have HF : Hid (∀ w, Calls Tryd.prog 20 #[.int .u64 1] w fun e w' => e = .returned (wv 1) ∧ Below w.heap.size w w') := fun w => from_any 1 (by decide) w
  have HS1 : Hid (∀ w, Calls Tryd.prog 27 #[wv 1, .int .i64 (n : Int)] w fun e w' => e = .returned (wv pw) ∧ Below w.heap.size w w') := fun w => by have := shl_nat 1 n (by decide) (by omega) w; rw [Nat.one_mul, Nat.mod_eq_of_lt hpw, epw] at this; exact this
  have HMp : Hid (∀ w, Calls Tryd.prog 21 #[wv a, wv pw] w fun e w' => e = .returned ((.tuple #[wv lo, wv hi])) ∧ Below w.heap.size w w') := fun w => by have := mul_any a pw e0 (epw ▸ hpw) w; rw [elo, ehi] at this; exact this
  have HS2 : Hid (∀ w, Calls Tryd.prog 27 #[wv a, .int .i64 (n : Int)] w fun e w' => e = .returned (wv lo) ∧ Below w.heap.size w w') := fun w => by have := shl_nat a n e0 (by omega) w; rw [epw, elo] at this; exact this
  have hni : n < 256 := hn
  clear es ek ex ey ez ez2 ep ep2 ek2 hp ec hc0 en epw hpw elo ehi hmod hdivl e0 e1 e2 ht hn
  have m := Mem.start w
  go_enter Tryd.func9, Tryd.ntmps9
  go_upto_region 2 with ((first
    | (refine W.box m rfl (.tmp 0) rfl a rfl ?_; clear m; intro g3 wx3 m)
    | (refine W.box m rfl (.tmp 1) rfl b rfl ?_; clear m; intro g4 wx4 m)
    | (refine W.box m rfl (.tmp 2) rfl c rfl ?_; clear m; intro g5 wx5 m)
    | (refine W.load m rfl (.tmp 3) rfl 2 rfl rfl ?_)
    | (refine W.load m rfl (.tmp 4) rfl 1 rfl rfl ?_)
    | (go_at_call 11; refine (H1.out _).mono ?_; rintro e wx27 ⟨rfl, b27⟩; replace m := m.gr b27; clear b27 H1)
    | (refine W.alloc m rfl rfl 7 rfl ?_; clear m; intro g7 wx7 m)
    | (refine W.store m rfl (.tmp 7) (.tmp 28) rfl rfl 0 s rfl (w4_length _) rfl rfl ?_; clear m; intro wx101 m)); try simp only [Act.put, List.setIfInBounds_toArray, List.set_cons_succ, List.set_cons_zero])
  go_upto_region 3 with ((first
    | (refine W.load m rfl (.tmp 4) rfl 2 rfl rfl ?_)
    | (refine W.load m rfl (.tmp 3) rfl 3 rfl rfl ?_)
    | (go_at_call 11; refine (H2.out _).mono ?_; rintro e wx33 ⟨rfl, b33⟩; replace m := m.gr b33; clear b33 H2)
    | (refine W.alloc m rfl rfl 9 rfl ?_; clear m; intro g9 wx9 m)
    | (refine W.store m rfl (.tmp 9) (.tmp 34) rfl rfl 0 s rfl (w4_length _) rfl rfl ?_; clear m; intro wx102 m)); try simp only [Act.put, List.setIfInBounds_toArray, List.set_cons_succ, List.set_cons_zero])
  go_upto_region 4 with ((first
    | (refine W.load m rfl (.tmp 3) rfl 4 rfl rfl ?_)
    | (refine W.load m rfl (.tmp 5) rfl 2 rfl rfl ?_)
    | (go_at_call 21; refine (H3.out _).mono ?_; rintro e wx39 ⟨rfl, b39⟩; replace m := m.gr b39; clear b39 H3)
    | (refine W.alloc m rfl rfl 11 rfl ?_; clear m; intro g11 wx11 m)
    | (refine W.alloc m rfl rfl 12 rfl ?_; clear m; intro g12 wx12 m)
    | (refine W.store m rfl (.tmp 11) (.tmp 40) rfl rfl 1 x rfl (w4_length _) rfl rfl ?_; clear m; intro wx103 m)
    | (refine W.store m rfl (.tmp 12) (.tmp 41) rfl rfl 0 y rfl (w4_length _) rfl rfl ?_; clear m; intro wx104 m)); try simp only [Act.put, List.setIfInBounds_toArray, List.set_cons_succ, List.set_cons_zero])
  go_upto_region 5 with ((first
    | (refine W.load m rfl (.tmp 5) rfl 4 rfl rfl ?_)
    | (refine W.load m rfl (.tmp 3) rfl 6 rfl rfl ?_)
    | (go_at_call 21; refine (H4.out _).mono ?_; rintro e wx45 ⟨rfl, b45⟩; replace m := m.gr b45; clear b45 H4)
    | (refine W.alloc m rfl rfl 13 rfl ?_; clear m; intro g13 wx13 m)
    | (refine W.alloc m rfl rfl 14 rfl ?_; clear m; intro g14 wx14 m)
    | (refine W.store m rfl (.tmp 13) (.tmp 46) rfl rfl 1 x rfl (w4_length _) rfl rfl ?_; clear m; intro wx105 m)
    | (refine W.store m rfl (.tmp 14) (.tmp 47) rfl rfl 0 y rfl (w4_length _) rfl rfl ?_; clear m; intro wx106 m)); try simp only [Act.put, List.setIfInBounds_toArray, List.set_cons_succ, List.set_cons_zero])
  go_upto_region 6 with ((first
    | (refine W.load m rfl (.tmp 4) rfl 7 rfl rfl ?_)
    | (refine W.load m rfl (.tmp 5) rfl 6 rfl rfl ?_)
    | (go_at_call 21; refine (H5.out _).mono ?_; rintro e wx51 ⟨rfl, b51⟩; replace m := m.gr b51; clear b51 H5)
    | (refine W.alloc m rfl rfl 15 rfl ?_; clear m; intro g15 wx15 m)
    | (refine W.alloc m rfl rfl 16 rfl ?_; clear m; intro g16 wx16 m)
    | (refine W.store m rfl (.tmp 15) (.tmp 52) rfl rfl 1 z rfl (w4_length _) rfl rfl ?_; clear m; intro wx107 m)
    | (refine W.store m rfl (.tmp 16) (.tmp 53) rfl rfl 0 z2 rfl (w4_length _) rfl rfl ?_; clear m; intro wx108 m)); try simp only [Act.put, List.setIfInBounds_toArray, List.set_cons_succ, List.set_cons_zero])
  go_upto_region 7 with ((first
    | (refine W.load m rfl (.tmp 7) rfl 7 rfl rfl ?_)
    | (refine W.load m rfl (.tmp 5) rfl 8 rfl rfl ?_)
    | (go_at_call 21; refine (H6.out _).mono ?_; rintro e wx57 ⟨rfl, b57⟩; replace m := m.gr b57; clear b57 H6)
    | (refine W.alloc m rfl rfl 17 rfl ?_; clear m; intro g17 wx17 m)
    | (refine W.alloc m rfl rfl 18 rfl ?_; clear m; intro g18 wx18 m)
    | (refine W.store m rfl (.tmp 17) (.tmp 58) rfl rfl 1 p rfl (w4_length _) rfl rfl ?_; clear m; intro wx109 m)
    | (refine W.store m rfl (.tmp 18) (.tmp 59) rfl rfl 0 p2 rfl (w4_length _) rfl rfl ?_; clear m; intro wx110 m)); try simp only [Act.put, List.setIfInBounds_toArray, List.set_cons_succ, List.set_cons_zero])
  go_upto_region 9 with ((first
    | (refine W.load m rfl (.tmp 11) rfl 7 rfl rfl ?_)
    | (refine W.load m rfl (.tmp 15) rfl 3 rfl rfl ?_)
    | (go_at_call 11; refine (H7.out _).mono ?_; rintro e wx63 ⟨rfl, b63⟩; replace m := m.gr b63; clear b63 H7)
    | (refine W.alloc m rfl rfl 19 rfl ?_; clear m; intro g19 wx19 m)
    | (refine W.store m rfl (.tmp 19) (.tmp 64) rfl rfl 0 p rfl (w4_length _) rfl rfl ?_; clear m; intro wx111 m)
    | (refine W.idx rfl (.tmp 5) (.const (.int .i64 0)) rfl g5 0 .i64 0 rfl (by decide) rfl rfl ?_)
    | (refine W.get m rfl (.tmp 66) rfl 11 0 c0 rfl (by decide) Ec.out rfl ?_)
    | (refine wpList_val rfl (.int .u64 (n : Int)) (exec_and255 (.tmp 67) (.const (.int .u64 255)) _ _ rfl c0 n En.out Lc.out rfl rfl) ?_)); try simp only [Act.put, List.setIfInBounds_toArray, List.set_cons_succ, List.set_cons_zero])
  go_cut [22, 23] from 70 to 77 (fun p22 p23 wx => ∃ g22 g23, p22 = .pointer (some ⟨g22, 0, none⟩) ∧ p23 = .pointer (some ⟨g23, 0, none⟩) ∧ Mem w wx [⟨g23, 24, c64 (w4 hi)⟩, ⟨g22, 24, c64 (w4 lo)⟩, ⟨g19, 24, c64 (w4 p)⟩, ⟨g18, 24, c64 (w4 p2)⟩, ⟨g17, 24, c64 (w4 p)⟩, ⟨g16, 24, c64 (w4 z2)⟩, ⟨g15, 24, c64 (w4 z)⟩, ⟨g14, 24, c64 (w4 y)⟩, ⟨g13, 24, c64 (w4 x)⟩, ⟨g12, 24, c64 (w4 y)⟩, ⟨g11, 24, c64 (w4 x)⟩, ⟨g9, 24, c64 (w4 s)⟩, ⟨g7, 24, c64 (w4 s)⟩, ⟨g5, 24, c64 (w4 c)⟩, ⟨g4, 24, c64 (w4 b)⟩, ⟨g3, 24, c64 (w4 a)⟩])
  case first =>
    have mR : Mem w wx111 [⟨g19, 24, c64 (w4 p)⟩, ⟨g18, 24, c64 (w4 p2)⟩, ⟨g17, 24, c64 (w4 p)⟩, ⟨g16, 24, c64 (w4 z2)⟩, ⟨g15, 24, c64 (w4 z)⟩, ⟨g14, 24, c64 (w4 y)⟩, ⟨g13, 24, c64 (w4 x)⟩, ⟨g12, 24, c64 (w4 y)⟩, ⟨g11, 24, c64 (w4 x)⟩, ⟨g9, 24, c64 (w4 s)⟩, ⟨g7, 24, c64 (w4 s)⟩, ⟨g5, 24, c64 (w4 c)⟩, ⟨g4, 24, c64 (w4 b)⟩, ⟨g3, 24, c64 (w4 a)⟩] := m
    have hS : Below wx111.heap.size wx111 { wx111 with drawn := wx111.drawn + 1 } := O.draw wx111
    replace m := m.gr (O.draw wx111)
    refine O.start (S := fun w' => Below wx111.heap.size wx111 w') #[false, false, false, false, false, false, false, false, false, false, false, false] rfl rfl (by kernel_rfl) ?_
    refine O.take 0 71 (wv a) 11 #[true, false, false, false, false, false, false, false, false, false, false, false] rfl rfl rfl (by kernel_rfl) (by kernel_rfl) (by kernel_rfl) (fun _ _ _ h => h) rfl (fun w0 hC => W.xload mR hC (.tmp 3) rfl 13 rfl rfl) hS ?_
    simp only [Act.put, List.setIfInBounds_toArray, List.set_cons_succ, List.set_cons_zero]
    refine O.take 2 73 (.int .i64 (n : Int)) 10 #[true, false, true, false, false, false, false, false, false, false, false, false] rfl rfl rfl (by kernel_rfl) (by kernel_rfl) (by kernel_rfl) (fun _ _ _ h => h) rfl (fun w0 hC => exec_move (.tmp 21) (.inl rfl) _ rfl) hS ?_
    simp only [Act.put, List.setIfInBounds_toArray, List.set_cons_succ, List.set_cons_zero]
    refine O.three 1 8 9 (by kernel_rfl) ?_ ?_ ?_
    · refine O.ncall 72 #[true, true, true, false, false, false, false, false, false, false, false, false] rfl rfl rfl rfl 20 (#[.int .u64 1]) (wv 1) (by go_simp) (HF.out _) ?_
      intro w202 b202
      replace m := m.gr b202
      replace hS := hS.trans (Below.mono b202 hS.size)
      clear b202
      refine ⟨hS, ?_⟩
      simp only [Act.put, List.setIfInBounds_toArray, List.set_cons_succ, List.set_cons_zero]
      refine O.three 3 8 9 (by kernel_rfl) ?_ ?_ ?_
      · refine O.ncall 74 #[true, true, true, true, false, false, false, false, false, false, false, false] rfl rfl rfl rfl 27 (#[wv 1, .int .i64 (n : Int)]) (wv pw) (by go_simp) (HS1.out _) ?_
        intro w203 b203
        replace m := m.gr b203
        replace hS := hS.trans (Below.mono b203 hS.size)
        clear b203
        refine ⟨hS, ?_⟩
        simp only [Act.put, List.setIfInBounds_toArray, List.set_cons_succ, List.set_cons_zero]
        refine O.three 4 8 9 (by kernel_rfl) ?_ ?_ ?_
        · refine O.ncall 75 #[true, true, true, true, true, false, false, false, false, false, false, false] rfl rfl rfl rfl 21 (#[wv a, wv pw]) (.tuple #[wv lo, wv hi]) (by go_simp) (HMp.out _) ?_
          intro w204 b204
          replace m := m.gr b204
          replace hS := hS.trans (Below.mono b204 hS.size)
          clear b204
          refine ⟨hS, ?_⟩
          simp only [Act.put, List.setIfInBounds_toArray, List.set_cons_succ, List.set_cons_zero]
          refine O.take 5 70 (.tuple #[wv lo, wv hi]) 6 #[true, true, true, true, true, true, false, false, false, false, false, false] rfl rfl rfl (by kernel_rfl) (by kernel_rfl) (by kernel_rfl) (fun _ _ _ h => h) rfl (fun w0 hC => exec_move (.tmp 75) (.inl rfl) _ rfl) hS ?_
          simp only [Act.put, List.setIfInBounds_toArray, List.set_cons_succ, List.set_cons_zero]
          refine O.take 6 76 (wv lo) 5 #[true, true, true, true, true, true, true, false, false, false, false, false] rfl rfl rfl (by kernel_rfl) (by kernel_rfl) (by kernel_rfl) (fun _ _ _ h => h) rfl (fun w0 hC => exec_extract (.tmp 70) 0 rfl [wv lo, wv hi] _ rfl rfl) hS ?_
          simp only [Act.put, List.setIfInBounds_toArray, List.set_cons_succ, List.set_cons_zero]
          refine O.take 7 77 (wv hi) 4 #[true, true, true, true, true, true, true, true, false, false, false, false] rfl rfl rfl (by kernel_rfl) (by kernel_rfl) (by kernel_rfl) (fun _ _ _ h => h) rfl (fun w0 hC => exec_extract (.tmp 70) 1 rfl [wv lo, wv hi] _ rfl rfl) hS ?_
          simp only [Act.put, List.setIfInBounds_toArray, List.set_cons_succ, List.set_cons_zero]
          refine O.two 8 9 (by kernel_rfl) ?_ ?_
          · refine O.nalloc 22 #[true, true, true, true, true, true, true, true, true, false, false, false] m hS rfl rfl rfl rfl rfl ?_
            clear m hS
            intro g22 w208 hg22 m hS
            simp only [Act.put, List.setIfInBounds_toArray, List.set_cons_succ, List.set_cons_zero]
            refine O.one 9 (by kernel_rfl) ?_
            refine O.nalloc 23 #[true, true, true, true, true, true, true, true, true, true, false, false] m hS rfl rfl rfl rfl rfl ?_
            clear m hS
            intro g23 w209 hg23 m hS
            simp only [Act.put, List.setIfInBounds_toArray, List.set_cons_succ, List.set_cons_zero]
            refine O.one 10 (by kernel_rfl) ?_
            refine O.nstore #[true, true, true, true, true, true, true, true, true, true, true, false] m hS rfl rfl rfl rfl (.tmp 22) (.tmp 76) rfl 1 lo rfl hg22 rfl rfl ?_
            clear m hS
            intro w210 m hS
            refine O.one 11 (by kernel_rfl) ?_
            refine O.nstore #[true, true, true, true, true, true, true, true, true, true, true, true] m hS rfl rfl rfl rfl (.tmp 23) (.tmp 77) rfl 0 hi rfl hg23 rfl rfl ?_
            clear m hS
            intro w211 m hS
            refine wpAnyH_done (by kernel_rfl) ?_ _
            first | go_meet | (go_wp2_with fail; go_meet)
            exact ⟨g22, g23, rfl, rfl, m⟩
          · refine O.nalloc 23 #[true, true, true, true, true, true, true, true, false, true, false, false] m hS rfl rfl rfl rfl rfl ?_
            clear m hS
            intro g23 w208 hg23 m hS
            simp only [Act.put, List.setIfInBounds_toArray, List.set_cons_succ, List.set_cons_zero]
            refine O.one 8 (by kernel_rfl) ?_
            refine O.nalloc 22 #[true, true, true, true, true, true, true, true, true, true, false, false] m hS rfl rfl rfl rfl rfl ?_
            clear m hS
            intro g22 w209 hg22 m hS
            simp only [Act.put, List.setIfInBounds_toArray, List.set_cons_succ, List.set_cons_zero]
            refine O.one 10 (by kernel_rfl) ?_
            refine O.nstore #[true, true, true, true, true, true, true, true, true, true, true, false] m hS rfl rfl rfl rfl (.tmp 22) (.tmp 76) rfl 0 lo rfl hg22 rfl rfl ?_
            clear m hS
            intro w210 m hS
            refine O.one 11 (by kernel_rfl) ?_
            refine O.nstore #[true, true, true, true, true, true, true, true, true, true, true, true] m hS rfl rfl rfl rfl (.tmp 23) (.tmp 77) rfl 1 hi rfl hg23 rfl rfl ?_
            clear m hS
            intro w211 m hS
            refine wpAnyH_done (by kernel_rfl) ?_ _
            first | go_meet | (go_wp2_with fail; go_meet)
            exact ⟨g22, g23, rfl, rfl, m.swap⟩
        · refine O.nalloc 22 #[true, true, true, true, false, false, false, false, true, false, false, false] m hS rfl rfl rfl rfl rfl ?_
          clear m hS
          intro g22 w204 hg22 m hS
          simp only [Act.put, List.setIfInBounds_toArray, List.set_cons_succ, List.set_cons_zero]
          refine O.two 4 9 (by kernel_rfl) ?_ ?_
          · refine O.ncall 75 #[true, true, true, true, true, false, false, false, true, false, false, false] rfl rfl rfl rfl 21 (#[wv a, wv pw]) (.tuple #[wv lo, wv hi]) (by go_simp) (HMp.out _) ?_
            intro w205 b205
            replace m := m.gr b205
            replace hS := hS.trans (Below.mono b205 hS.size)
            clear b205
            refine ⟨hS, ?_⟩
            simp only [Act.put, List.setIfInBounds_toArray, List.set_cons_succ, List.set_cons_zero]
            refine O.take 5 70 (.tuple #[wv lo, wv hi]) 5 #[true, true, true, true, true, true, false, false, true, false, false, false] rfl rfl rfl (by kernel_rfl) (by kernel_rfl) (by kernel_rfl) (fun _ _ _ h => h) rfl (fun w0 hC => exec_move (.tmp 75) (.inl rfl) _ rfl) hS ?_
            simp only [Act.put, List.setIfInBounds_toArray, List.set_cons_succ, List.set_cons_zero]
            refine O.take 6 76 (wv lo) 4 #[true, true, true, true, true, true, true, false, true, false, false, false] rfl rfl rfl (by kernel_rfl) (by kernel_rfl) (by kernel_rfl) (fun _ _ _ h => h) rfl (fun w0 hC => exec_extract (.tmp 70) 0 rfl [wv lo, wv hi] _ rfl rfl) hS ?_
            simp only [Act.put, List.setIfInBounds_toArray, List.set_cons_succ, List.set_cons_zero]
            refine O.take 7 77 (wv hi) 3 #[true, true, true, true, true, true, true, true, true, false, false, false] rfl rfl rfl (by kernel_rfl) (by kernel_rfl) (by kernel_rfl) (fun _ _ _ h => h) rfl (fun w0 hC => exec_extract (.tmp 70) 1 rfl [wv lo, wv hi] _ rfl rfl) hS ?_
            simp only [Act.put, List.setIfInBounds_toArray, List.set_cons_succ, List.set_cons_zero]
            refine O.one 9 (by kernel_rfl) ?_
            refine O.nalloc 23 #[true, true, true, true, true, true, true, true, true, true, false, false] m hS rfl rfl rfl rfl rfl ?_
            clear m hS
            intro g23 w209 hg23 m hS
            simp only [Act.put, List.setIfInBounds_toArray, List.set_cons_succ, List.set_cons_zero]
            refine O.one 10 (by kernel_rfl) ?_
            refine O.nstore #[true, true, true, true, true, true, true, true, true, true, true, false] m hS rfl rfl rfl rfl (.tmp 22) (.tmp 76) rfl 1 lo rfl hg22 rfl rfl ?_
            clear m hS
            intro w210 m hS
            refine O.one 11 (by kernel_rfl) ?_
            refine O.nstore #[true, true, true, true, true, true, true, true, true, true, true, true] m hS rfl rfl rfl rfl (.tmp 23) (.tmp 77) rfl 0 hi rfl hg23 rfl rfl ?_
            clear m hS
            intro w211 m hS
            refine wpAnyH_done (by kernel_rfl) ?_ _
            first | go_meet | (go_wp2_with fail; go_meet)
            exact ⟨g22, g23, rfl, rfl, m⟩
          · refine O.nalloc 23 #[true, true, true, true, false, false, false, false, true, true, false, false] m hS rfl rfl rfl rfl rfl ?_
            clear m hS
            intro g23 w205 hg23 m hS
            simp only [Act.put, List.setIfInBounds_toArray, List.set_cons_succ, List.set_cons_zero]
            refine O.one 4 (by kernel_rfl) ?_
            refine O.ncall 75 #[true, true, true, true, true, false, false, false, true, true, false, false] rfl rfl rfl rfl 21 (#[wv a, wv pw]) (.tuple #[wv lo, wv hi]) (by go_simp) (HMp.out _) ?_
            intro w206 b206
            replace m := m.gr b206
            replace hS := hS.trans (Below.mono b206 hS.size)
            clear b206
            refine ⟨hS, ?_⟩
            simp only [Act.put, List.setIfInBounds_toArray, List.set_cons_succ, List.set_cons_zero]
            refine O.take 5 70 (.tuple #[wv lo, wv hi]) 4 #[true, true, true, true, true, true, false, false, true, true, false, false] rfl rfl rfl (by kernel_rfl) (by kernel_rfl) (by kernel_rfl) (fun _ _ _ h => h) rfl (fun w0 hC => exec_move (.tmp 75) (.inl rfl) _ rfl) hS ?_
            simp only [Act.put, List.setIfInBounds_toArray, List.set_cons_succ, List.set_cons_zero]
            refine O.take 6 76 (wv lo) 3 #[true, true, true, true, true, true, true, false, true, true, false, false] rfl rfl rfl (by kernel_rfl) (by kernel_rfl) (by kernel_rfl) (fun _ _ _ h => h) rfl (fun w0 hC => exec_extract (.tmp 70) 0 rfl [wv lo, wv hi] _ rfl rfl) hS ?_
            simp only [Act.put, List.setIfInBounds_toArray, List.set_cons_succ, List.set_cons_zero]
            refine O.take 7 77 (wv hi) 2 #[true, true, true, true, true, true, true, true, true, true, false, false] rfl rfl rfl (by kernel_rfl) (by kernel_rfl) (by kernel_rfl) (fun _ _ _ h => h) rfl (fun w0 hC => exec_extract (.tmp 70) 1 rfl [wv lo, wv hi] _ rfl rfl) hS ?_
            simp only [Act.put, List.setIfInBounds_toArray, List.set_cons_succ, List.set_cons_zero]
            refine O.one 10 (by kernel_rfl) ?_
            refine O.nstore #[true, true, true, true, true, true, true, true, true, true, true, false] m hS rfl rfl rfl rfl (.tmp 22) (.tmp 76) rfl 1 lo rfl hg22 rfl rfl ?_
            clear m hS
            intro w210 m hS
            refine O.one 11 (by kernel_rfl) ?_
            refine O.nstore #[true, true, true, true, true, true, true, true, true, true, true, true] m hS rfl rfl rfl rfl (.tmp 23) (.tmp 77) rfl 0 hi rfl hg23 rfl rfl ?_
            clear m hS
            intro w211 m hS
            refine wpAnyH_done (by kernel_rfl) ?_ _
            first | go_meet | (go_wp2_with fail; go_meet)
            exact ⟨g22, g23, rfl, rfl, m⟩
        · refine O.nalloc 23 #[true, true, true, true, false, false, false, false, false, true, false, false] m hS rfl rfl rfl rfl rfl ?_
          clear m hS
          intro g23 w204 hg23 m hS
          simp only [Act.put, List.setIfInBounds_toArray, List.set_cons_succ, List.set_cons_zero]
          refine O.two 4 8 (by kernel_rfl) ?_ ?_
          · refine O.ncall 75 #[true, true, true, true, true, false, false, false, false, true, false, false] rfl rfl rfl rfl 21 (#[wv a, wv pw]) (.tuple #[wv lo, wv hi]) (by go_simp) (HMp.out _) ?_
            intro w205 b205
            replace m := m.gr b205
            replace hS := hS.trans (Below.mono b205 hS.size)
            clear b205
            refine ⟨hS, ?_⟩
            simp only [Act.put, List.setIfInBounds_toArray, List.set_cons_succ, List.set_cons_zero]
            refine O.take 5 70 (.tuple #[wv lo, wv hi]) 5 #[true, true, true, true, true, true, false, false, false, true, false, false] rfl rfl rfl (by kernel_rfl) (by kernel_rfl) (by kernel_rfl) (fun _ _ _ h => h) rfl (fun w0 hC => exec_move (.tmp 75) (.inl rfl) _ rfl) hS ?_
            simp only [Act.put, List.setIfInBounds_toArray, List.set_cons_succ, List.set_cons_zero]
            refine O.take 6 76 (wv lo) 4 #[true, true, true, true, true, true, true, false, false, true, false, false] rfl rfl rfl (by kernel_rfl) (by kernel_rfl) (by kernel_rfl) (fun _ _ _ h => h) rfl (fun w0 hC => exec_extract (.tmp 70) 0 rfl [wv lo, wv hi] _ rfl rfl) hS ?_
            simp only [Act.put, List.setIfInBounds_toArray, List.set_cons_succ, List.set_cons_zero]
            refine O.take 7 77 (wv hi) 3 #[true, true, true, true, true, true, true, true, false, true, false, false] rfl rfl rfl (by kernel_rfl) (by kernel_rfl) (by kernel_rfl) (fun _ _ _ h => h) rfl (fun w0 hC => exec_extract (.tmp 70) 1 rfl [wv lo, wv hi] _ rfl rfl) hS ?_
            simp only [Act.put, List.setIfInBounds_toArray, List.set_cons_succ, List.set_cons_zero]
            refine O.one 8 (by kernel_rfl) ?_
            refine O.nalloc 22 #[true, true, true, true, true, true, true, true, true, true, false, false] m hS rfl rfl rfl rfl rfl ?_
            clear m hS
            intro g22 w209 hg22 m hS
            simp only [Act.put, List.setIfInBounds_toArray, List.set_cons_succ, List.set_cons_zero]
            refine O.one 10 (by kernel_rfl) ?_
            refine O.nstore #[true, true, true, true, true, true, true, true, true, true, true, false] m hS rfl rfl rfl rfl (.tmp 22) (.tmp 76) rfl 0 lo rfl hg22 rfl rfl ?_
            clear m hS
            intro w210 m hS
            refine O.one 11 (by kernel_rfl) ?_
            refine O.nstore #[true, true, true, true, true, true, true, true, true, true, true, true] m hS rfl rfl rfl rfl (.tmp 23) (.tmp 77) rfl 1 hi rfl hg23 rfl rfl ?_
            clear m hS
            intro w211 m hS
            refine wpAnyH_done (by kernel_rfl) ?_ _
            first | go_meet | (go_wp2_with fail; go_meet)
            exact ⟨g22, g23, rfl, rfl, m.swap⟩
          · refine O.nalloc 22 #[true, true, true, true, false, false, false, false, true, true, false, false] m hS rfl rfl rfl rfl rfl ?_
            clear m hS
            intro g22 w205 hg22 m hS
            simp only [Act.put, List.setIfInBounds_toArray, List.set_cons_succ, List.set_cons_zero]
            refine O.one 4 (by kernel_rfl) ?_
            refine O.ncall 75 #[true, true, true, true, true, false, false, false, true, true, false, false] rfl rfl rfl rfl 21 (#[wv a, wv pw]) (.tuple #[wv lo, wv hi]) (by go_simp) (HMp.out _) ?_
            intro w206 b206
            replace m := m.gr b206
            replace hS := hS.trans (Below.mono b206 hS.size)
            clear b206
            refine ⟨hS, ?_⟩
            simp only [Act.put, List.setIfInBounds_toArray, List.set_cons_succ, List.set_cons_zero]
            refine O.take 5 70 (.tuple #[wv lo, wv hi]) 4 #[true, true, true, true, true, true, false, false, true, true, false, false] rfl rfl rfl (by kernel_rfl) (by kernel_rfl) (by kernel_rfl) (fun _ _ _ h => h) rfl (fun w0 hC => exec_move (.tmp 75) (.inl rfl) _ rfl) hS ?_
            simp only [Act.put, List.setIfInBounds_toArray, List.set_cons_succ, List.set_cons_zero]
            refine O.take 6 76 (wv lo) 3 #[true, true, true, true, true, true, true, false, true, true, false, false] rfl rfl rfl (by kernel_rfl) (by kernel_rfl) (by kernel_rfl) (fun _ _ _ h => h) rfl (fun w0 hC => exec_extract (.tmp 70) 0 rfl [wv lo, wv hi] _ rfl rfl) hS ?_
            simp only [Act.put, List.setIfInBounds_toArray, List.set_cons_succ, List.set_cons_zero]
            refine O.take 7 77 (wv hi) 2 #[true, true, true, true, true, true, true, true, true, true, false, false] rfl rfl rfl (by kernel_rfl) (by kernel_rfl) (by kernel_rfl) (fun _ _ _ h => h) rfl (fun w0 hC => exec_extract (.tmp 70) 1 rfl [wv lo, wv hi] _ rfl rfl) hS ?_
            simp only [Act.put, List.setIfInBounds_toArray, List.set_cons_succ, List.set_cons_zero]
            refine O.one 10 (by kernel_rfl) ?_
            refine O.nstore #[true, true, true, true, true, true, true, true, true, true, true, false] m hS rfl rfl rfl rfl (.tmp 22) (.tmp 76) rfl 0 lo rfl hg22 rfl rfl ?_
            clear m hS
            intro w210 m hS
            refine O.one 11 (by kernel_rfl) ?_
            refine O.nstore #[true, true, true, true, true, true, true, true, true, true, true, true] m hS rfl rfl rfl rfl (.tmp 23) (.tmp 77) rfl 1 hi rfl hg23 rfl rfl ?_
            clear m hS
            intro w211 m hS
            refine wpAnyH_done (by kernel_rfl) ?_ _
            first | go_meet | (go_wp2_with fail; go_meet)
            exact ⟨g22, g23, rfl, rfl, m.swap⟩
      · refine O.nalloc 22 #[true, true, true, false, false, false, false, false, true, false, false, false] m hS rfl rfl rfl rfl rfl ?_
        clear m hS
        intro g22 w203 hg22 m hS
        simp only [Act.put, List.setIfInBounds_toArray, List.set_cons_succ, List.set_cons_zero]
        refine O.two 3 9 (by kernel_rfl) ?_ ?_
        · refine O.ncall 74 #[true, true, true, true, false, false, false, false, true, false, false, false] rfl rfl rfl rfl 27 (#[wv 1, .int .i64 (n : Int)]) (wv pw) (by go_simp) (HS1.out _) ?_
          intro w204 b204
          replace m := m.gr b204
          replace hS := hS.trans (Below.mono b204 hS.size)
          clear b204
          refine ⟨hS, ?_⟩
          simp only [Act.put, List.setIfInBounds_toArray, List.set_cons_succ, List.set_cons_zero]
          refine O.two 4 9 (by kernel_rfl) ?_ ?_
          · refine O.ncall 75 #[true, true, true, true, true, false, false, false, true, false, false, false] rfl rfl rfl rfl 21 (#[wv a, wv pw]) (.tuple #[wv lo, wv hi]) (by go_simp) (HMp.out _) ?_
            intro w205 b205
            replace m := m.gr b205
            replace hS := hS.trans (Below.mono b205 hS.size)
            clear b205
            refine ⟨hS, ?_⟩
            simp only [Act.put, List.setIfInBounds_toArray, List.set_cons_succ, List.set_cons_zero]
            refine O.take 5 70 (.tuple #[wv lo, wv hi]) 5 #[true, true, true, true, true, true, false, false, true, false, false, false] rfl rfl rfl (by kernel_rfl) (by kernel_rfl) (by kernel_rfl) (fun _ _ _ h => h) rfl (fun w0 hC => exec_move (.tmp 75) (.inl rfl) _ rfl) hS ?_
            simp only [Act.put, List.setIfInBounds_toArray, List.set_cons_succ, List.set_cons_zero]
            refine O.take 6 76 (wv lo) 4 #[true, true, true, true, true, true, true, false, true, false, false, false] rfl rfl rfl (by kernel_rfl) (by kernel_rfl) (by kernel_rfl) (fun _ _ _ h => h) rfl (fun w0 hC => exec_extract (.tmp 70) 0 rfl [wv lo, wv hi] _ rfl rfl) hS ?_
            simp only [Act.put, List.setIfInBounds_toArray, List.set_cons_succ, List.set_cons_zero]
            refine O.take 7 77 (wv hi) 3 #[true, true, true, true, true, true, true, true, true, false, false, false] rfl rfl rfl (by kernel_rfl) (by kernel_rfl) (by kernel_rfl) (fun _ _ _ h => h) rfl (fun w0 hC => exec_extract (.tmp 70) 1 rfl [wv lo, wv hi] _ rfl rfl) hS ?_
            simp only [Act.put, List.setIfInBounds_toArray, List.set_cons_succ, List.set_cons_zero]
            refine O.one 9 (by kernel_rfl) ?_
            refine O.nalloc 23 #[true, true, true, true, true, true, true, true, true, true, false, false] m hS rfl rfl rfl rfl rfl ?_
            clear m hS
            intro g23 w209 hg23 m hS
            simp only [Act.put, List.setIfInBounds_toArray, List.set_cons_succ, List.set_cons_zero]
            refine O.one 10 (by kernel_rfl) ?_
            refine O.nstore #[true, true, true, true, true, true, true, true, true, true, true, false] m hS rfl rfl rfl rfl (.tmp 22) (.tmp 76) rfl 1 lo rfl hg22 rfl rfl ?_
            clear m hS
            intro w210 m hS
            refine O.one 11 (by kernel_rfl) ?_
            refine O.nstore #[true, true, true, true, true, true, true, true, true, true, true, true] m hS rfl rfl rfl rfl (.tmp 23) (.tmp 77) rfl 0 hi rfl hg23 rfl rfl ?_
            clear m hS
            intro w211 m hS
            refine wpAnyH_done (by kernel_rfl) ?_ _
            first | go_meet | (go_wp2_with fail; go_meet)
            exact ⟨g22, g23, rfl, rfl, m⟩
          · refine O.nalloc 23 #[true, true, true, true, false, false, false, false, true, true, false, false] m hS rfl rfl rfl rfl rfl ?_
            clear m hS
            intro g23 w205 hg23 m hS
            simp only [Act.put, List.setIfInBounds_toArray, List.set_cons_succ, List.set_cons_zero]
            refine O.one 4 (by kernel_rfl) ?_
            refine O.ncall 75 #[true, true, true, true, true, false, false, false, true, true, false, false] rfl rfl rfl rfl 21 (#[wv a, wv pw]) (.tuple #[wv lo, wv hi]) (by go_simp) (HMp.out _) ?_
            intro w206 b206
            replace m := m.gr b206
            replace hS := hS.trans (Below.mono b206 hS.size)
            clear b206
            refine ⟨hS, ?_⟩
            simp only [Act.put, List.setIfInBounds_toArray, List.set_cons_succ, List.set_cons_zero]
            refine O.take 5 70 (.tuple #[wv lo, wv hi]) 4 #[true, true, true, true, true, true, false, false, true, true, false, false] rfl rfl rfl (by kernel_rfl) (by kernel_rfl) (by kernel_rfl) (fun _ _ _ h => h) rfl (fun w0 hC => exec_move (.tmp 75) (.inl rfl) _ rfl) hS ?_
            simp only [Act.put, List.setIfInBounds_toArray, List.set_cons_succ, List.set_cons_zero]
            refine O.take 6 76 (wv lo) 3 #[true, true, true, true, true, true, true, false, true, true, false, false] rfl rfl rfl (by kernel_rfl) (by kernel_rfl) (by kernel_rfl) (fun _ _ _ h => h) rfl (fun w0 hC => exec_extract (.tmp 70) 0 rfl [wv lo, wv hi] _ rfl rfl) hS ?_
            simp only [Act.put, List.setIfInBounds_toArray, List.set_cons_succ, List.set_cons_zero]
            refine O.take 7 77 (wv hi) 2 #[true, true, true, true, true, true, true, true, true, true, false, false] rfl rfl rfl (by kernel_rfl) (by kernel_rfl) (by kernel_rfl) (fun _ _ _ h => h) rfl (fun w0 hC => exec_extract (.tmp 70) 1 rfl [wv lo, wv hi] _ rfl rfl) hS ?_
            simp only [Act.put, List.setIfInBounds_toArray, List.set_cons_succ, List.set_cons_zero]
            refine O.one 10 (by kernel_rfl) ?_
            refine O.nstore #[true, true, true, true, true, true, true, true, true, true, true, false] m hS rfl rfl rfl rfl (.tmp 22) (.tmp 76) rfl 1 lo rfl hg22 rfl rfl ?_
            clear m hS
            intro w210 m hS
            refine O.one 11 (by kernel_rfl) ?_
            refine O.nstore #[true, true, true, true, true, true, true, true, true, true, true, true] m hS rfl rfl rfl rfl (.tmp 23) (.tmp 77) rfl 0 hi rfl hg23 rfl rfl ?_
            clear m hS
            intro w211 m hS
            refine wpAnyH_done (by kernel_rfl) ?_ _
            first | go_meet | (go_wp2_with fail; go_meet)
            exact ⟨g22, g23, rfl, rfl, m⟩
        · refine O.nalloc 23 #[true, true, true, false, false, false, false, false, true, true, false, false] m hS rfl rfl rfl rfl rfl ?_
          clear m hS
          intro g23 w204 hg23 m hS
          simp only [Act.put, List.setIfInBounds_toArray, List.set_cons_succ, List.set_cons_zero]
          refine O.one 3 (by kernel_rfl) ?_
          refine O.ncall 74 #[true, true, true, true, false, false, false, false, true, true, false, false] rfl rfl rfl rfl 27 (#[wv 1, .int .i64 (n : Int)]) (wv pw) (by go_simp) (HS1.out _) ?_
          intro w205 b205
          replace m := m.gr b205
          replace hS := hS.trans (Below.mono b205 hS.size)
          clear b205
          refine ⟨hS, ?_⟩
          simp only [Act.put, List.setIfInBounds_toArray, List.set_cons_succ, List.set_cons_zero]
          refine O.one 4 (by kernel_rfl) ?_
          refine O.ncall 75 #[true, true, true, true, true, false, false, false, true, true, false, false] rfl rfl rfl rfl 21 (#[wv a, wv pw]) (.tuple #[wv lo, wv hi]) (by go_simp) (HMp.out _) ?_
          intro w206 b206
          replace m := m.gr b206
          replace hS := hS.trans (Below.mono b206 hS.size)
          clear b206
          refine ⟨hS, ?_⟩
          simp only [Act.put, List.setIfInBounds_toArray, List.set_cons_succ, List.set_cons_zero]
          refine O.take 5 70 (.tuple #[wv lo, wv hi]) 4 #[true, true, true, true, true, true, false, false, true, true, false, false] rfl rfl rfl (by kernel_rfl) (by kernel_rfl) (by kernel_rfl) (fun _ _ _ h => h) rfl (fun w0 hC => exec_move (.tmp 75) (.inl rfl) _ rfl) hS ?_
          simp only [Act.put, List.setIfInBounds_toArray, List.set_cons_succ, List.set_cons_zero]
          refine O.take 6 76 (wv lo) 3 #[true, true, true, true, true, true, true, false, true, true, false, false] rfl rfl rfl (by kernel_rfl) (by kernel_rfl) (by kernel_rfl) (fun _ _ _ h => h) rfl (fun w0 hC => exec_extract (.tmp 70) 0 rfl [wv lo, wv hi] _ rfl rfl) hS ?_
          simp only [Act.put, List.setIfInBounds_toArray, List.set_cons_succ, List.set_cons_zero]
          refine O.take 7 77 (wv hi) 2 #[true, true, true, true, true, true, true, true, true, true, false, false] rfl rfl rfl (by kernel_rfl) (by kernel_rfl) (by kernel_rfl) (fun _ _ _ h => h) rfl (fun w0 hC => exec_extract (.tmp 70) 1 rfl [wv lo, wv hi] _ rfl rfl) hS ?_
          simp only [Act.put, List.setIfInBounds_toArray, List.set_cons_succ, List.set_cons_zero]
          refine O.one 10 (by kernel_rfl) ?_
          refine O.nstore #[true, true, true, true, true, true, true, true, true, true, true, false] m hS rfl rfl rfl rfl (.tmp 22) (.tmp 76) rfl 1 lo rfl hg22 rfl rfl ?_
          clear m hS
          intro w210 m hS
          refine O.one 11 (by kernel_rfl) ?_
          refine O.nstore #[true, true, true, true, true, true, true, true, true, true, true, true] m hS rfl rfl rfl rfl (.tmp 23) (.tmp 77) rfl 0 hi rfl hg23 rfl rfl ?_
          clear m hS
          intro w211 m hS
          refine wpAnyH_done (by kernel_rfl) ?_ _
          first | go_meet | (go_wp2_with fail; go_meet)
          exact ⟨g22, g23, rfl, rfl, m⟩
      · refine O.nalloc 23 #[true, true, true, false, false, false, false, false, false, true, false, false] m hS rfl rfl rfl rfl rfl ?_
        clear m hS
        intro g23 w203 hg23 m hS
        simp only [Act.put, List.setIfInBounds_toArray, List.set_cons_succ, List.set_cons_zero]
        refine O.two 3 8 (by kernel_rfl) ?_ ?_
        · refine O.ncall 74 #[true, true, true, true, false, false, false, false, false, true, false, false] rfl rfl rfl rfl 27 (#[wv 1, .int .i64 (n : Int)]) (wv pw) (by go_simp) (HS1.out _) ?_
          intro w204 b204
          replace m := m.gr b204
          replace hS := hS.trans (Below.mono b204 hS.size)
          clear b204
          refine ⟨hS, ?_⟩
          simp only [Act.put, List.setIfInBounds_toArray, List.set_cons_succ, List.set_cons_zero]
          refine O.two 4 8 (by kernel_rfl) ?_ ?_
          · refine O.ncall 75 #[true, true, true, true, true, false, false, false, false, true, false, false] rfl rfl rfl rfl 21 (#[wv a, wv pw]) (.tuple #[wv lo, wv hi]) (by go_simp) (HMp.out _) ?_
            intro w205 b205
            replace m := m.gr b205
            replace hS := hS.trans (Below.mono b205 hS.size)
            clear b205
            refine ⟨hS, ?_⟩
            simp only [Act.put, List.setIfInBounds_toArray, List.set_cons_succ, List.set_cons_zero]
            refine O.take 5 70 (.tuple #[wv lo, wv hi]) 5 #[true, true, true, true, true, true, false, false, false, true, false, false] rfl rfl rfl (by kernel_rfl) (by kernel_rfl) (by kernel_rfl) (fun _ _ _ h => h) rfl (fun w0 hC => exec_move (.tmp 75) (.inl rfl) _ rfl) hS ?_
            simp only [Act.put, List.setIfInBounds_toArray, List.set_cons_succ, List.set_cons_zero]
            refine O.take 6 76 (wv lo) 4 #[true, true, true, true, true, true, true, false, false, true, false, false] rfl rfl rfl (by kernel_rfl) (by kernel_rfl) (by kernel_rfl) (fun _ _ _ h => h) rfl (fun w0 hC => exec_extract (.tmp 70) 0 rfl [wv lo, wv hi] _ rfl rfl) hS ?_
            simp only [Act.put, List.setIfInBounds_toArray, List.set_cons_succ, List.set_cons_zero]
            refine O.take 7 77 (wv hi) 3 #[true, true, true, true, true, true, true, true, false, true, false, false] rfl rfl rfl (by kernel_rfl) (by kernel_rfl) (by kernel_rfl) (fun _ _ _ h => h) rfl (fun w0 hC => exec_extract (.tmp 70) 1 rfl [wv lo, wv hi] _ rfl rfl) hS ?_
            simp only [Act.put, List.setIfInBounds_toArray, List.set_cons_succ, List.set_cons_zero]
            refine O.one 8 (by kernel_rfl) ?_
            refine O.nalloc 22 #[true, true, true, true, true, true, true, true, true, true, false, false] m hS rfl rfl rfl rfl rfl ?_
            clear m hS
            intro g22 w209 hg22 m hS
            simp only [Act.put, List.setIfInBounds_toArray, List.set_cons_succ, List.set_cons_zero]
            refine O.one 10 (by kernel_rfl) ?_
            refine O.nstore #[true, true, true, true, true, true, true, true, true, true, true, false] m hS rfl rfl rfl rfl (.tmp 22) (.tmp 76) rfl 0 lo rfl hg22 rfl rfl ?_
            clear m hS
            intro w210 m hS
            refine O.one 11 (by kernel_rfl) ?_
            refine O.nstore #[true, true, true, true, true, true, true, true, true, true, true, true] m hS rfl rfl rfl rfl (.tmp 23) (.tmp 77) rfl 1 hi rfl hg23 rfl rfl ?_
            clear m hS
            intro w211 m hS
            refine wpAnyH_done (by kernel_rfl) ?_ _
            first | go_meet | (go_wp2_with fail; go_meet)
            exact ⟨g22, g23, rfl, rfl, m.swap⟩
          · refine O.nalloc 22 #[true, true, true, true, false, false, false, false, true, true, false, false] m hS rfl rfl rfl rfl rfl ?_
            clear m hS
            intro g22 w205 hg22 m hS
            simp only [Act.put, List.setIfInBounds_toArray, List.set_cons_succ, List.set_cons_zero]
            refine O.one 4 (by kernel_rfl) ?_
            refine O.ncall 75 #[true, true, true, true, true, false, false, false, true, true, false, false] rfl rfl rfl rfl 21 (#[wv a, wv pw]) (.tuple #[wv lo, wv hi]) (by go_simp) (HMp.out _) ?_
            intro w206 b206
            replace m := m.gr b206
            replace hS := hS.trans (Below.mono b206 hS.size)
            clear b206
            refine ⟨hS, ?_⟩
            simp only [Act.put, List.setIfInBounds_toArray, List.set_cons_succ, List.set_cons_zero]
            refine O.take 5 70 (.tuple #[wv lo, wv hi]) 4 #[true, true, true, true, true, true, false, false, true, true, false, false] rfl rfl rfl (by kernel_rfl) (by kernel_rfl) (by kernel_rfl) (fun _ _ _ h => h) rfl (fun w0 hC => exec_move (.tmp 75) (.inl rfl) _ rfl) hS ?_
            simp only [Act.put, List.setIfInBounds_toArray, List.set_cons_succ, List.set_cons_zero]
            refine O.take 6 76 (wv lo) 3 #[true, true, true, true, true, true, true, false, true, true, false, false] rfl rfl rfl (by kernel_rfl) (by kernel_rfl) (by kernel_rfl) (fun _ _ _ h => h) rfl (fun w0 hC => exec_extract (.tmp 70) 0 rfl [wv lo, wv hi] _ rfl rfl) hS ?_
            simp only [Act.put, List.setIfInBounds_toArray, List.set_cons_succ, List.set_cons_zero]
            refine O.take 7 77 (wv hi) 2 #[true, true, true, true, true, true, true, true, true, true, false, false] rfl rfl rfl (by kernel_rfl) (by kernel_rfl) (by kernel_rfl) (fun _ _ _ h => h) rfl (fun w0 hC => exec_extract (.tmp 70) 1 rfl [wv lo, wv hi] _ rfl rfl) hS ?_
            simp only [Act.put, List.setIfInBounds_toArray, List.set_cons_succ, List.set_cons_zero]
            refine O.one 10 (by kernel_rfl) ?_
            refine O.nstore #[true, true, true, true, true, true, true, true, true, true, true, false] m hS rfl rfl rfl rfl (.tmp 22) (.tmp 76) rfl 0 lo rfl hg22 rfl rfl ?_
            clear m hS
            intro w210 m hS
            refine O.one 11 (by kernel_rfl) ?_
            refine O.nstore #[true, true, true, true, true, true, true, true, true, true, true, true] m hS rfl rfl rfl rfl (.tmp 23) (.tmp 77) rfl 1 hi rfl hg23 rfl rfl ?_
            clear m hS
            intro w211 m hS
            refine wpAnyH_done (by kernel_rfl) ?_ _
            first | go_meet | (go_wp2_with fail; go_meet)
            exact ⟨g22, g23, rfl, rfl, m.swap⟩
        · refine O.nalloc 22 #[true, true, true, false, false, false, false, false, true, true, false, false] m hS rfl rfl rfl rfl rfl ?_
          clear m hS
          intro g22 w204 hg22 m hS
          simp only [Act.put, List.setIfInBounds_toArray, List.set_cons_succ, List.set_cons_zero]
          refine O.one 3 (by kernel_rfl) ?_
          refine O.ncall 74 #[true, true, true, true, false, false, false, false, true, true, false, false] rfl rfl rfl rfl 27 (#[wv 1, .int .i64 (n : Int)]) (wv pw) (by go_simp) (HS1.out _) ?_
          intro w205 b205
          replace m := m.gr b205
          replace hS := hS.trans (Below.mono b205 hS.size)
          clear b205
          refine ⟨hS, ?_⟩
          simp only [Act.put, List.setIfInBounds_toArray, List.set_cons_succ, List.set_cons_zero]
          refine O.one 4 (by kernel_rfl) ?_
          refine O.ncall 75 #[true, true, true, true, true, false, false, false, true, true, false, false] rfl rfl rfl rfl 21 (#[wv a, wv pw]) (.tuple #[wv lo, wv hi]) (by go_simp) (HMp.out _) ?_
          intro w206 b206
          replace m := m.gr b206
          replace hS := hS.trans (Below.mono b206 hS.size)
          clear b206
          refine ⟨hS, ?_⟩
          simp only [Act.put, List.setIfInBounds_toArray, List.set_cons_succ, List.set_cons_zero]
          refine O.take 5 70 (.tuple #[wv lo, wv hi]) 4 #[true, true, true, true, true, true, false, false, true, true, false, false] rfl rfl rfl (by kernel_rfl) (by kernel_rfl) (by kernel_rfl) (fun _ _ _ h => h) rfl (fun w0 hC => exec_move (.tmp 75) (.inl rfl) _ rfl) hS ?_
          simp only [Act.put, List.setIfInBounds_toArray, List.set_cons_succ, List.set_cons_zero]
          refine O.take 6 76 (wv lo) 3 #[true, true, true, true, true, true, true, false, true, true, false, false] rfl rfl rfl (by kernel_rfl) (by kernel_rfl) (by kernel_rfl) (fun _ _ _ h => h) rfl (fun w0 hC => exec_extract (.tmp 70) 0 rfl [wv lo, wv hi] _ rfl rfl) hS ?_
          simp only [Act.put, List.setIfInBounds_toArray, List.set_cons_succ, List.set_cons_zero]
          refine O.take 7 77 (wv hi) 2 #[true, true, true, true, true, true, true, true, true, true, false, false] rfl rfl rfl (by kernel_rfl) (by kernel_rfl) (by kernel_rfl) (fun _ _ _ h => h) rfl (fun w0 hC => exec_extract (.tmp 70) 1 rfl [wv lo, wv hi] _ rfl rfl) hS ?_
          simp only [Act.put, List.setIfInBounds_toArray, List.set_cons_succ, List.set_cons_zero]
          refine O.one 10 (by kernel_rfl) ?_
          refine O.nstore #[true, true, true, true, true, true, true, true, true, true, true, false] m hS rfl rfl rfl rfl (.tmp 22) (.tmp 76) rfl 0 lo rfl hg22 rfl rfl ?_
          clear m hS
          intro w210 m hS
          refine O.one 11 (by kernel_rfl) ?_
          refine O.nstore #[true, true, true, true, true, true, true, true, true, true, true, true] m hS rfl rfl rfl rfl (.tmp 23) (.tmp 77) rfl 1 hi rfl hg23 rfl rfl ?_
          clear m hS
          intro w211 m hS
          refine wpAnyH_done (by kernel_rfl) ?_ _
          first | go_meet | (go_wp2_with fail; go_meet)
          exact ⟨g22, g23, rfl, rfl, m.swap⟩
    · refine O.nalloc 22 #[true, false, true, false, false, false, false, false, true, false, false, false] m hS rfl rfl rfl rfl rfl ?_
      clear m hS
      intro g22 w202 hg22 m hS
      simp only [Act.put, List.setIfInBounds_toArray, List.set_cons_succ, List.set_cons_zero]
      refine O.two 1 9 (by kernel_rfl) ?_ ?_
      · refine O.ncall 72 #[true, true, true, false, false, false, false, false, true, false, false, false] rfl rfl rfl rfl 20 (#[.int .u64 1]) (wv 1) (by go_simp) (HF.out _) ?_
        intro w203 b203
        replace m := m.gr b203
        replace hS := hS.trans (Below.mono b203 hS.size)
        clear b203
        refine ⟨hS, ?_⟩
        simp only [Act.put, List.setIfInBounds_toArray, List.set_cons_succ, List.set_cons_zero]
        refine O.two 3 9 (by kernel_rfl) ?_ ?_
        · refine O.ncall 74 #[true, true, true, true, false, false, false, false, true, false, false, false] rfl rfl rfl rfl 27 (#[wv 1, .int .i64 (n : Int)]) (wv pw) (by go_simp) (HS1.out _) ?_
          intro w204 b204
          replace m := m.gr b204
          replace hS := hS.trans (Below.mono b204 hS.size)
          clear b204
          refine ⟨hS, ?_⟩
          simp only [Act.put, List.setIfInBounds_toArray, List.set_cons_succ, List.set_cons_zero]
          refine O.two 4 9 (by kernel_rfl) ?_ ?_
          · refine O.ncall 75 #[true, true, true, true, true, false, false, false, true, false, false, false] rfl rfl rfl rfl 21 (#[wv a, wv pw]) (.tuple #[wv lo, wv hi]) (by go_simp) (HMp.out _) ?_
            intro w205 b205
            replace m := m.gr b205
            replace hS := hS.trans (Below.mono b205 hS.size)
            clear b205
            refine ⟨hS, ?_⟩
            simp only [Act.put, List.setIfInBounds_toArray, List.set_cons_succ, List.set_cons_zero]
            refine O.take 5 70 (.tuple #[wv lo, wv hi]) 5 #[true, true, true, true, true, true, false, false, true, false, false, false] rfl rfl rfl (by kernel_rfl) (by kernel_rfl) (by kernel_rfl) (fun _ _ _ h => h) rfl (fun w0 hC => exec_move (.tmp 75) (.inl rfl) _ rfl) hS ?_
            simp only [Act.put, List.setIfInBounds_toArray, List.set_cons_succ, List.set_cons_zero]
            refine O.take 6 76 (wv lo) 4 #[true, true, true, true, true, true, true, false, true, false, false, false] rfl rfl rfl (by kernel_rfl) (by kernel_rfl) (by kernel_rfl) (fun _ _ _ h => h) rfl (fun w0 hC => exec_extract (.tmp 70) 0 rfl [wv lo, wv hi] _ rfl rfl) hS ?_
            simp only [Act.put, List.setIfInBounds_toArray, List.set_cons_succ, List.set_cons_zero]
            refine O.take 7 77 (wv hi) 3 #[true, true, true, true, true, true, true, true, true, false, false, false] rfl rfl rfl (by kernel_rfl) (by kernel_rfl) (by kernel_rfl) (fun _ _ _ h => h) rfl (fun w0 hC => exec_extract (.tmp 70) 1 rfl [wv lo, wv hi] _ rfl rfl) hS ?_
            simp only [Act.put, List.setIfInBounds_toArray, List.set_cons_succ, List.set_cons_zero]
            refine O.one 9 (by kernel_rfl) ?_
            refine O.nalloc 23 #[true, true, true, true, true, true, true, true, true, true, false, false] m hS rfl rfl rfl rfl rfl ?_
            clear m hS
            intro g23 w209 hg23 m hS
            simp only [Act.put, List.setIfInBounds_toArray, List.set_cons_succ, List.set_cons_zero]
            refine O.one 10 (by kernel_rfl) ?_
            refine O.nstore #[true, true, true, true, true, true, true, true, true, true, true, false] m hS rfl rfl rfl rfl (.tmp 22) (.tmp 76) rfl 1 lo rfl hg22 rfl rfl ?_
            clear m hS
            intro w210 m hS
            refine O.one 11 (by kernel_rfl) ?_
            refine O.nstore #[true, true, true, true, true, true, true, true, true, true, true, true] m hS rfl rfl rfl rfl (.tmp 23) (.tmp 77) rfl 0 hi rfl hg23 rfl rfl ?_
            clear m hS
            intro w211 m hS
            refine wpAnyH_done (by kernel_rfl) ?_ _
            first | go_meet | (go_wp2_with fail; go_meet)
            exact ⟨g22, g23, rfl, rfl, m⟩
          · refine O.nalloc 23 #[true, true, true, true, false, false, false, false, true, true, false, false] m hS rfl rfl rfl rfl rfl ?_
            clear m hS
            intro g23 w205 hg23 m hS
            simp only [Act.put, List.setIfInBounds_toArray, List.set_cons_succ, List.set_cons_zero]
            refine O.one 4 (by kernel_rfl) ?_
            refine O.ncall 75 #[true, true, true, true, true, false, false, false, true, true, false, false] rfl rfl rfl rfl 21 (#[wv a, wv pw]) (.tuple #[wv lo, wv hi]) (by go_simp) (HMp.out _) ?_
            intro w206 b206
            replace m := m.gr b206
            replace hS := hS.trans (Below.mono b206 hS.size)
            clear b206
            refine ⟨hS, ?_⟩
            simp only [Act.put, List.setIfInBounds_toArray, List.set_cons_succ, List.set_cons_zero]
            refine O.take 5 70 (.tuple #[wv lo, wv hi]) 4 #[true, true, true, true, true, true, false, false, true, true, false, false] rfl rfl rfl (by kernel_rfl) (by kernel_rfl) (by kernel_rfl) (fun _ _ _ h => h) rfl (fun w0 hC => exec_move (.tmp 75) (.inl rfl) _ rfl) hS ?_
            simp only [Act.put, List.setIfInBounds_toArray, List.set_cons_succ, List.set_cons_zero]
            refine O.take 6 76 (wv lo) 3 #[true, true, true, true, true, true, true, false, true, true, false, false] rfl rfl rfl (by kernel_rfl) (by kernel_rfl) (by kernel_rfl) (fun _ _ _ h => h) rfl (fun w0 hC => exec_extract (.tmp 70) 0 rfl [wv lo, wv hi] _ rfl rfl) hS ?_
            simp only [Act.put, List.setIfInBounds_toArray, List.set_cons_succ, List.set_cons_zero]
            refine O.take 7 77 (wv hi) 2 #[true, true, true, true, true, true, true, true, true, true, false, false] rfl rfl rfl (by kernel_rfl) (by kernel_rfl) (by kernel_rfl) (fun _ _ _ h => h) rfl (fun w0 hC => exec_extract (.tmp 70) 1 rfl [wv lo, wv hi] _ rfl rfl) hS ?_
            simp only [Act.put, List.setIfInBounds_toArray, List.set_cons_succ, List.set_cons_zero]
            refine O.one 10 (by kernel_rfl) ?_
            refine O.nstore #[true, true, true, true, true, true, true, true, true, true, true, false] m hS rfl rfl rfl rfl (.tmp 22) (.tmp 76) rfl 1 lo rfl hg22 rfl rfl ?_
            clear m hS
            intro w210 m hS
            refine O.one 11 (by kernel_rfl) ?_
            refine O.nstore #[true, true, true, true, true, true, true, true, true, true, true, true] m hS rfl rfl rfl rfl (.tmp 23) (.tmp 77) rfl 0 hi rfl hg23 rfl rfl ?_
            clear m hS
            intro w211 m hS
            refine wpAnyH_done (by kernel_rfl) ?_ _
            first | go_meet | (go_wp2_with fail; go_meet)
            exact ⟨g22, g23, rfl, rfl, m⟩
        · refine O.nalloc 23 #[true, true, true, false, false, false, false, false, true, true, false, false] m hS rfl rfl rfl rfl rfl ?_
          clear m hS
          intro g23 w204 hg23 m hS
          simp only [Act.put, List.setIfInBounds_toArray, List.set_cons_succ, List.set_cons_zero]
          refine O.one 3 (by kernel_rfl) ?_
          refine O.ncall 74 #[true, true, true, true, false, false, false, false, true, true, false, false] rfl rfl rfl rfl 27 (#[wv 1, .int .i64 (n : Int)]) (wv pw) (by go_simp) (HS1.out _) ?_
          intro w205 b205
          replace m := m.gr b205
          replace hS := hS.trans (Below.mono b205 hS.size)
          clear b205
          refine ⟨hS, ?_⟩
          simp only [Act.put, List.setIfInBounds_toArray, List.set_cons_succ, List.set_cons_zero]
          refine O.one 4 (by kernel_rfl) ?_
          refine O.ncall 75 #[true, true, true, true, true, false, false, false, true, true, false, false] rfl rfl rfl rfl 21 (#[wv a, wv pw]) (.tuple #[wv lo, wv hi]) (by go_simp) (HMp.out _) ?_
          intro w206 b206
          replace m := m.gr b206
          replace hS := hS.trans (Below.mono b206 hS.size)
          clear b206
          refine ⟨hS, ?_⟩
          simp only [Act.put, List.setIfInBounds_toArray, List.set_cons_succ, List.set_cons_zero]
          refine O.take 5 70 (.tuple #[wv lo, wv hi]) 4 #[true, true, true, true, true, true, false, false, true, true, false, false] rfl rfl rfl (by kernel_rfl) (by kernel_rfl) (by kernel_rfl) (fun _ _ _ h => h) rfl (fun w0 hC => exec_move (.tmp 75) (.inl rfl) _ rfl) hS ?_
          simp only [Act.put, List.setIfInBounds_toArray, List.set_cons_succ, List.set_cons_zero]
          refine O.take 6 76 (wv lo) 3 #[true, true, true, true, true, true, true, false, true, true, false, false] rfl rfl rfl (by kernel_rfl) (by kernel_rfl) (by kernel_rfl) (fun _ _ _ h => h) rfl (fun w0 hC => exec_extract (.tmp 70) 0 rfl [wv lo, wv hi] _ rfl rfl) hS ?_
          simp only [Act.put, List.setIfInBounds_toArray, List.set_cons_succ, List.set_cons_zero]
          refine O.take 7 77 (wv hi) 2 #[true, true, true, true, true, true, true, true, true, true, false, false] rfl rfl rfl (by kernel_rfl) (by kernel_rfl) (by kernel_rfl) (fun _ _ _ h => h) rfl (fun w0 hC => exec_extract (.tmp 70) 1 rfl [wv lo, wv hi] _ rfl rfl) hS ?_
          simp only [Act.put, List.setIfInBounds_toArray, List.set_cons_succ, List.set_cons_zero]
          refine O.one 10 (by kernel_rfl) ?_
          refine O.nstore #[true, true, true, true, true, true, true, true, true, true, true, false] m hS rfl rfl rfl rfl (.tmp 22) (.tmp 76) rfl 1 lo rfl hg22 rfl rfl ?_
          clear m hS
          intro w210 m hS
          refine O.one 11 (by kernel_rfl) ?_
          refine O.nstore #[true, true, true, true, true, true, true, true, true, true, true, true] m hS rfl rfl rfl rfl (.tmp 23) (.tmp 77) rfl 0 hi rfl hg23 rfl rfl ?_
          clear m hS
          intro w211 m hS
          refine wpAnyH_done (by kernel_rfl) ?_ _
          first | go_meet | (go_wp2_with fail; go_meet)
          exact ⟨g22, g23, rfl, rfl, m⟩
      · refine O.nalloc 23 #[true, false, true, false, false, false, false, false, true, true, false, false] m hS rfl rfl rfl rfl rfl ?_
        clear m hS
        intro g23 w203 hg23 m hS
        simp only [Act.put, List.setIfInBounds_toArray, List.set_cons_succ, List.set_cons_zero]
        refine O.one 1 (by kernel_rfl) ?_
        refine O.ncall 72 #[true, true, true, false, false, false, false, false, true, true, false, false] rfl rfl rfl rfl 20 (#[.int .u64 1]) (wv 1) (by go_simp) (HF.out _) ?_
        intro w204 b204
        replace m := m.gr b204
        replace hS := hS.trans (Below.mono b204 hS.size)
        clear b204
        refine ⟨hS, ?_⟩
        simp only [Act.put, List.setIfInBounds_toArray, List.set_cons_succ, List.set_cons_zero]
        refine O.one 3 (by kernel_rfl) ?_
        refine O.ncall 74 #[true, true, true, true, false, false, false, false, true, true, false, false] rfl rfl rfl rfl 27 (#[wv 1, .int .i64 (n : Int)]) (wv pw) (by go_simp) (HS1.out _) ?_
        intro w205 b205
        replace m := m.gr b205
        replace hS := hS.trans (Below.mono b205 hS.size)
        clear b205
        refine ⟨hS, ?_⟩
        simp only [Act.put, List.setIfInBounds_toArray, List.set_cons_succ, List.set_cons_zero]
        refine O.one 4 (by kernel_rfl) ?_
        refine O.ncall 75 #[true, true, true, true, true, false, false, false, true, true, false, false] rfl rfl rfl rfl 21 (#[wv a, wv pw]) (.tuple #[wv lo, wv hi]) (by go_simp) (HMp.out _) ?_
        intro w206 b206
        replace m := m.gr b206
        replace hS := hS.trans (Below.mono b206 hS.size)
        clear b206
        refine ⟨hS, ?_⟩
        simp only [Act.put, List.setIfInBounds_toArray, List.set_cons_succ, List.set_cons_zero]
        refine O.take 5 70 (.tuple #[wv lo, wv hi]) 4 #[true, true, true, true, true, true, false, false, true, true, false, false] rfl rfl rfl (by kernel_rfl) (by kernel_rfl) (by kernel_rfl) (fun _ _ _ h => h) rfl (fun w0 hC => exec_move (.tmp 75) (.inl rfl) _ rfl) hS ?_
        simp only [Act.put, List.setIfInBounds_toArray, List.set_cons_succ, List.set_cons_zero]
        refine O.take 6 76 (wv lo) 3 #[true, true, true, true, true, true, true, false, true, true, false, false] rfl rfl rfl (by kernel_rfl) (by kernel_rfl) (by kernel_rfl) (fun _ _ _ h => h) rfl (fun w0 hC => exec_extract (.tmp 70) 0 rfl [wv lo, wv hi] _ rfl rfl) hS ?_
        simp only [Act.put, List.setIfInBounds_toArray, List.set_cons_succ, List.set_cons_zero]
        refine O.take 7 77 (wv hi) 2 #[true, true, true, true, true, true, true, true, true, true, false, false] rfl rfl rfl (by kernel_rfl) (by kernel_rfl) (by kernel_rfl) (fun _ _ _ h => h) rfl (fun w0 hC => exec_extract (.tmp 70) 1 rfl [wv lo, wv hi] _ rfl rfl) hS ?_
        simp only [Act.put, List.setIfInBounds_toArray, List.set_cons_succ, List.set_cons_zero]
        refine O.one 10 (by kernel_rfl) ?_
        refine O.nstore #[true, true, true, true, true, true, true, true, true, true, true, false] m hS rfl rfl rfl rfl (.tmp 22) (.tmp 76) rfl 1 lo rfl hg22 rfl rfl ?_
        clear m hS
        intro w210 m hS
        refine O.one 11 (by kernel_rfl) ?_
        refine O.nstore #[true, true, true, true, true, true, true, true, true, true, true, true] m hS rfl rfl rfl rfl (.tmp 23) (.tmp 77) rfl 0 hi rfl hg23 rfl rfl ?_
        clear m hS
        intro w211 m hS
        refine wpAnyH_done (by kernel_rfl) ?_ _
        first | go_meet | (go_wp2_with fail; go_meet)
        exact ⟨g22, g23, rfl, rfl, m⟩
    · refine O.nalloc 23 #[true, false, true, false, false, false, false, false, false, true, false, false] m hS rfl rfl rfl rfl rfl ?_
      clear m hS
      intro g23 w202 hg23 m hS
      simp only [Act.put, List.setIfInBounds_toArray, List.set_cons_succ, List.set_cons_zero]
      refine O.two 1 8 (by kernel_rfl) ?_ ?_
      · refine O.ncall 72 #[true, true, true, false, false, false, false, false, false, true, false, false] rfl rfl rfl rfl 20 (#[.int .u64 1]) (wv 1) (by go_simp) (HF.out _) ?_
        intro w203 b203
        replace m := m.gr b203
        replace hS := hS.trans (Below.mono b203 hS.size)
        clear b203
        refine ⟨hS, ?_⟩
        simp only [Act.put, List.setIfInBounds_toArray, List.set_cons_succ, List.set_cons_zero]
        refine O.two 3 8 (by kernel_rfl) ?_ ?_
        · refine O.ncall 74 #[true, true, true, true, false, false, false, false, false, true, false, false] rfl rfl rfl rfl 27 (#[wv 1, .int .i64 (n : Int)]) (wv pw) (by go_simp) (HS1.out _) ?_
          intro w204 b204
          replace m := m.gr b204
          replace hS := hS.trans (Below.mono b204 hS.size)
          clear b204
          refine ⟨hS, ?_⟩
          simp only [Act.put, List.setIfInBounds_toArray, List.set_cons_succ, List.set_cons_zero]
          refine O.two 4 8 (by kernel_rfl) ?_ ?_
          · refine O.ncall 75 #[true, true, true, true, true, false, false, false, false, true, false, false] rfl rfl rfl rfl 21 (#[wv a, wv pw]) (.tuple #[wv lo, wv hi]) (by go_simp) (HMp.out _) ?_
            intro w205 b205
            replace m := m.gr b205
            replace hS := hS.trans (Below.mono b205 hS.size)
            clear b205
            refine ⟨hS, ?_⟩
            simp only [Act.put, List.setIfInBounds_toArray, List.set_cons_succ, List.set_cons_zero]
            refine O.take 5 70 (.tuple #[wv lo, wv hi]) 5 #[true, true, true, true, true, true, false, false, false, true, false, false] rfl rfl rfl (by kernel_rfl) (by kernel_rfl) (by kernel_rfl) (fun _ _ _ h => h) rfl (fun w0 hC => exec_move (.tmp 75) (.inl rfl) _ rfl) hS ?_
            simp only [Act.put, List.setIfInBounds_toArray, List.set_cons_succ, List.set_cons_zero]
            refine O.take 6 76 (wv lo) 4 #[true, true, true, true, true, true, true, false, false, true, false, false] rfl rfl rfl (by kernel_rfl) (by kernel_rfl) (by kernel_rfl) (fun _ _ _ h => h) rfl (fun w0 hC => exec_extract (.tmp 70) 0 rfl [wv lo, wv hi] _ rfl rfl) hS ?_
            simp only [Act.put, List.setIfInBounds_toArray, List.set_cons_succ, List.set_cons_zero]
            refine O.take 7 77 (wv hi) 3 #[true, true, true, true, true, true, true, true, false, true, false, false] rfl rfl rfl (by kernel_rfl) (by kernel_rfl) (by kernel_rfl) (fun _ _ _ h => h) rfl (fun w0 hC => exec_extract (.tmp 70) 1 rfl [wv lo, wv hi] _ rfl rfl) hS ?_
            simp only [Act.put, List.setIfInBounds_toArray, List.set_cons_succ, List.set_cons_zero]
            refine O.one 8 (by kernel_rfl) ?_
            refine O.nalloc 22 #[true, true, true, true, true, true, true, true, true, true, false, false] m hS rfl rfl rfl rfl rfl ?_
            clear m hS
            intro g22 w209 hg22 m hS
            simp only [Act.put, List.setIfInBounds_toArray, List.set_cons_succ, List.set_cons_zero]
            refine O.one 10 (by kernel_rfl) ?_
            refine O.nstore #[true, true, true, true, true, true, true, true, true, true, true, false] m hS rfl rfl rfl rfl (.tmp 22) (.tmp 76) rfl 0 lo rfl hg22 rfl rfl ?_
            clear m hS
            intro w210 m hS
            refine O.one 11 (by kernel_rfl) ?_
            refine O.nstore #[true, true, true, true, true, true, true, true, true, true, true, true] m hS rfl rfl rfl rfl (.tmp 23) (.tmp 77) rfl 1 hi rfl hg23 rfl rfl ?_
            clear m hS
            intro w211 m hS
            refine wpAnyH_done (by kernel_rfl) ?_ _
            first | go_meet | (go_wp2_with fail; go_meet)
            exact ⟨g22, g23, rfl, rfl, m.swap⟩
          · refine O.nalloc 22 #[true, true, true, true, false, false, false, false, true, true, false, false] m hS rfl rfl rfl rfl rfl ?_
            clear m hS
            intro g22 w205 hg22 m hS
            simp only [Act.put, List.setIfInBounds_toArray, List.set_cons_succ, List.set_cons_zero]
            refine O.one 4 (by kernel_rfl) ?_
            refine O.ncall 75 #[true, true, true, true, true, false, false, false, true, true, false, false] rfl rfl rfl rfl 21 (#[wv a, wv pw]) (.tuple #[wv lo, wv hi]) (by go_simp) (HMp.out _) ?_
            intro w206 b206
            replace m := m.gr b206
            replace hS := hS.trans (Below.mono b206 hS.size)
            clear b206
            refine ⟨hS, ?_⟩
            simp only [Act.put, List.setIfInBounds_toArray, List.set_cons_succ, List.set_cons_zero]
            refine O.take 5 70 (.tuple #[wv lo, wv hi]) 4 #[true, true, true, true, true, true, false, false, true, true, false, false] rfl rfl rfl (by kernel_rfl) (by kernel_rfl) (by kernel_rfl) (fun _ _ _ h => h) rfl (fun w0 hC => exec_move (.tmp 75) (.inl rfl) _ rfl) hS ?_
            simp only [Act.put, List.setIfInBounds_toArray, List.set_cons_succ, List.set_cons_zero]
            refine O.take 6 76 (wv lo) 3 #[true, true, true, true, true, true, true, false, true, true, false, false] rfl rfl rfl (by kernel_rfl) (by kernel_rfl) (by kernel_rfl) (fun _ _ _ h => h) rfl (fun w0 hC => exec_extract (.tmp 70) 0 rfl [wv lo, wv hi] _ rfl rfl) hS ?_
            simp only [Act.put, List.setIfInBounds_toArray, List.set_cons_succ, List.set_cons_zero]
            refine O.take 7 77 (wv hi) 2 #[true, true, true, true, true, true, true, true, true, true, false, false] rfl rfl rfl (by kernel_rfl) (by kernel_rfl) (by kernel_rfl) (fun _ _ _ h => h) rfl (fun w0 hC => exec_extract (.tmp 70) 1 rfl [wv lo, wv hi] _ rfl rfl) hS ?_
            simp only [Act.put, List.setIfInBounds_toArray, List.set_cons_succ, List.set_cons_zero]
            refine O.one 10 (by kernel_rfl) ?_
            refine O.nstore #[true, true, true, true, true, true, true, true, true, true, true, false] m hS rfl rfl rfl rfl (.tmp 22) (.tmp 76) rfl 0 lo rfl hg22 rfl rfl ?_
            clear m hS
            intro w210 m hS
            refine O.one 11 (by kernel_rfl) ?_
            refine O.nstore #[true, true, true, true, true, true, true, true, true, true, true, true] m hS rfl rfl rfl rfl (.tmp 23) (.tmp 77) rfl 1 hi rfl hg23 rfl rfl ?_
            clear m hS
            intro w211 m hS
            refine wpAnyH_done (by kernel_rfl) ?_ _
            first | go_meet | (go_wp2_with fail; go_meet)
            exact ⟨g22, g23, rfl, rfl, m.swap⟩
        · refine O.nalloc 22 #[true, true, true, false, false, false, false, false, true, true, false, false] m hS rfl rfl rfl rfl rfl ?_
          clear m hS
          intro g22 w204 hg22 m hS
          simp only [Act.put, List.setIfInBounds_toArray, List.set_cons_succ, List.set_cons_zero]
          refine O.one 3 (by kernel_rfl) ?_
          refine O.ncall 74 #[true, true, true, true, false, false, false, false, true, true, false, false] rfl rfl rfl rfl 27 (#[wv 1, .int .i64 (n : Int)]) (wv pw) (by go_simp) (HS1.out _) ?_
          intro w205 b205
          replace m := m.gr b205
          replace hS := hS.trans (Below.mono b205 hS.size)
          clear b205
          refine ⟨hS, ?_⟩
          simp only [Act.put, List.setIfInBounds_toArray, List.set_cons_succ, List.set_cons_zero]
          refine O.one 4 (by kernel_rfl) ?_
          refine O.ncall 75 #[true, true, true, true, true, false, false, false, true, true, false, false] rfl rfl rfl rfl 21 (#[wv a, wv pw]) (.tuple #[wv lo, wv hi]) (by go_simp) (HMp.out _) ?_
          intro w206 b206
          replace m := m.gr b206
          replace hS := hS.trans (Below.mono b206 hS.size)
          clear b206
          refine ⟨hS, ?_⟩
          simp only [Act.put, List.setIfInBounds_toArray, List.set_cons_succ, List.set_cons_zero]
          refine O.take 5 70 (.tuple #[wv lo, wv hi]) 4 #[true, true, true, true, true, true, false, false, true, true, false, false] rfl rfl rfl (by kernel_rfl) (by kernel_rfl) (by kernel_rfl) (fun _ _ _ h => h) rfl (fun w0 hC => exec_move (.tmp 75) (.inl rfl) _ rfl) hS ?_
          simp only [Act.put, List.setIfInBounds_toArray, List.set_cons_succ, List.set_cons_zero]
          refine O.take 6 76 (wv lo) 3 #[true, true, true, true, true, true, true, false, true, true, false, false] rfl rfl rfl (by kernel_rfl) (by kernel_rfl) (by kernel_rfl) (fun _ _ _ h => h) rfl (fun w0 hC => exec_extract (.tmp 70) 0 rfl [wv lo, wv hi] _ rfl rfl) hS ?_
          simp only [Act.put, List.setIfInBounds_toArray, List.set_cons_succ, List.set_cons_zero]
          refine O.take 7 77 (wv hi) 2 #[true, true, true, true, true, true, true, true, true, true, false, false] rfl rfl rfl (by kernel_rfl) (by kernel_rfl) (by kernel_rfl) (fun _ _ _ h => h) rfl (fun w0 hC => exec_extract (.tmp 70) 1 rfl [wv lo, wv hi] _ rfl rfl) hS ?_
          simp only [Act.put, List.setIfInBounds_toArray, List.set_cons_succ, List.set_cons_zero]
          refine O.one 10 (by kernel_rfl) ?_
          refine O.nstore #[true, true, true, true, true, true, true, true, true, true, true, false] m hS rfl rfl rfl rfl (.tmp 22) (.tmp 76) rfl 0 lo rfl hg22 rfl rfl ?_
          clear m hS
          intro w210 m hS
          refine O.one 11 (by kernel_rfl) ?_
          refine O.nstore #[true, true, true, true, true, true, true, true, true, true, true, true] m hS rfl rfl rfl rfl (.tmp 23) (.tmp 77) rfl 1 hi rfl hg23 rfl rfl ?_
          clear m hS
          intro w211 m hS
          refine wpAnyH_done (by kernel_rfl) ?_ _
          first | go_meet | (go_wp2_with fail; go_meet)
          exact ⟨g22, g23, rfl, rfl, m.swap⟩
      · refine O.nalloc 22 #[true, false, true, false, false, false, false, false, true, true, false, false] m hS rfl rfl rfl rfl rfl ?_
        clear m hS
        intro g22 w203 hg22 m hS
        simp only [Act.put, List.setIfInBounds_toArray, List.set_cons_succ, List.set_cons_zero]
        refine O.one 1 (by kernel_rfl) ?_
        refine O.ncall 72 #[true, true, true, false, false, false, false, false, true, true, false, false] rfl rfl rfl rfl 20 (#[.int .u64 1]) (wv 1) (by go_simp) (HF.out _) ?_
        intro w204 b204
        replace m := m.gr b204
        replace hS := hS.trans (Below.mono b204 hS.size)
        clear b204
        refine ⟨hS, ?_⟩
        simp only [Act.put, List.setIfInBounds_toArray, List.set_cons_succ, List.set_cons_zero]
        refine O.one 3 (by kernel_rfl) ?_
        refine O.ncall 74 #[true, true, true, true, false, false, false, false, true, true, false, false] rfl rfl rfl rfl 27 (#[wv 1, .int .i64 (n : Int)]) (wv pw) (by go_simp) (HS1.out _) ?_
        intro w205 b205
        replace m := m.gr b205
        replace hS := hS.trans (Below.mono b205 hS.size)
        clear b205
        refine ⟨hS, ?_⟩
        simp only [Act.put, List.setIfInBounds_toArray, List.set_cons_succ, List.set_cons_zero]
        refine O.one 4 (by kernel_rfl) ?_
        refine O.ncall 75 #[true, true, true, true, true, false, false, false, true, true, false, false] rfl rfl rfl rfl 21 (#[wv a, wv pw]) (.tuple #[wv lo, wv hi]) (by go_simp) (HMp.out _) ?_
        intro w206 b206
        replace m := m.gr b206
        replace hS := hS.trans (Below.mono b206 hS.size)
        clear b206
        refine ⟨hS, ?_⟩
        simp only [Act.put, List.setIfInBounds_toArray, List.set_cons_succ, List.set_cons_zero]
        refine O.take 5 70 (.tuple #[wv lo, wv hi]) 4 #[true, true, true, true, true, true, false, false, true, true, false, false] rfl rfl rfl (by kernel_rfl) (by kernel_rfl) (by kernel_rfl) (fun _ _ _ h => h) rfl (fun w0 hC => exec_move (.tmp 75) (.inl rfl) _ rfl) hS ?_
        simp only [Act.put, List.setIfInBounds_toArray, List.set_cons_succ, List.set_cons_zero]
        refine O.take 6 76 (wv lo) 3 #[true, true, true, true, true, true, true, false, true, true, false, false] rfl rfl rfl (by kernel_rfl) (by kernel_rfl) (by kernel_rfl) (fun _ _ _ h => h) rfl (fun w0 hC => exec_extract (.tmp 70) 0 rfl [wv lo, wv hi] _ rfl rfl) hS ?_
        simp only [Act.put, List.setIfInBounds_toArray, List.set_cons_succ, List.set_cons_zero]
        refine O.take 7 77 (wv hi) 2 #[true, true, true, true, true, true, true, true, true, true, false, false] rfl rfl rfl (by kernel_rfl) (by kernel_rfl) (by kernel_rfl) (fun _ _ _ h => h) rfl (fun w0 hC => exec_extract (.tmp 70) 1 rfl [wv lo, wv hi] _ rfl rfl) hS ?_
        simp only [Act.put, List.setIfInBounds_toArray, List.set_cons_succ, List.set_cons_zero]
        refine O.one 10 (by kernel_rfl) ?_
        refine O.nstore #[true, true, true, true, true, true, true, true, true, true, true, false] m hS rfl rfl rfl rfl (.tmp 22) (.tmp 76) rfl 0 lo rfl hg22 rfl rfl ?_
        clear m hS
        intro w210 m hS
        refine O.one 11 (by kernel_rfl) ?_
        refine O.nstore #[true, true, true, true, true, true, true, true, true, true, true, true] m hS rfl rfl rfl rfl (.tmp 23) (.tmp 77) rfl 1 hi rfl hg23 rfl rfl ?_
        clear m hS
        intro w211 m hS
        refine wpAnyH_done (by kernel_rfl) ?_ _
        first | go_meet | (go_wp2_with fail; go_meet)
        exact ⟨g22, g23, rfl, rfl, m.swap⟩
  case rest =>
    clear m
    obtain ⟨g22, g23, rfl, rfl, m⟩ := hcut
    obtain ⟨wq, hwq⟩ := m.world
    subst hwq
    go_wp2
    have F := N_fit 24 wq (c64 (w4 0)) (c64 (w4 0)) (fun f _ v _ => (f = 15 → v = .bool true) ∧ (f = 27 → v = wv lo)) (fun _ _ _ _ _ h => h)
    refine Mild2.wp_region F (by kernel_rfl) (by kernel_rfl) (Vw.draw _) ?_
    refine Mild2.step_callv rfl rfl (15) (#[]) (.bool true) (fun w => by go_simp) (fun w0 hC => HAl.out w0 (m.oldM hC).below) (fun _ _ h => Vw.of_gr h) (fun _ => ⟨fun _ => rfl, fun h => absurd h (by decide)⟩) (fun _ _ h => h.1 rfl) ?_
    simp only [Act.put, List.setIfInBounds_toArray, List.set_cons_succ, List.set_cons_zero]
    iterate 1 (refine Mild2.step_quiet F rfl rfl rfl (fun w0 hC hF K hK => ?_); clear hF; go_big_quiet_op; refine hK _ ?_; clear hK K hC; clear w0)
    refine Mild2.step_known F rfl rfl (wv s) (fun w0 hC _ => W.newload m hC (.tmp 7) rfl 12 rfl rfl) ?_
    simp only [Act.put, List.setIfInBounds_toArray, List.set_cons_succ, List.set_cons_zero]
    refine Mild2.step_known F rfl rfl (wv s) (fun w0 hC _ => W.newload m hC (.tmp 9) rfl 11 rfl rfl) ?_
    simp only [Act.put, List.setIfInBounds_toArray, List.set_cons_succ, List.set_cons_zero]
    refine Mild2.step_known F rfl rfl (.bool true) (fun w0 hC _ => W.exec_eql (.tmp 80) (.tmp 81) _ rfl s s true Ls.out Ls.out (by simp) rfl rfl) ?_
    simp only [Act.put, List.setIfInBounds_toArray, List.set_cons_succ, List.set_cons_zero]
    iterate 1 (refine Mild2.step_quiet F rfl rfl rfl (fun w0 hC hF K hK => ?_); clear hF; go_big_quiet_op; refine hK _ ?_; clear hK K hC; clear w0)
    iterate 1 (refine Mild2.step_quiet F rfl rfl rfl (fun w0 hC hF K hK => ?_); clear hF; go_big_quiet_op; refine hK _ ?_; clear hK K hC; clear w0)
    refine Mild2.step_known F rfl rfl (wv x) (fun w0 hC _ => W.newload m hC (.tmp 11) rfl 10 rfl rfl) ?_
    simp only [Act.put, List.setIfInBounds_toArray, List.set_cons_succ, List.set_cons_zero]
    refine Mild2.step_known F rfl rfl (wv x) (fun w0 hC _ => W.newload m hC (.tmp 13) rfl 8 rfl rfl) ?_
    simp only [Act.put, List.setIfInBounds_toArray, List.set_cons_succ, List.set_cons_zero]
    refine Mild2.step_known F rfl rfl (.bool true) (fun w0 hC _ => W.exec_eql (.tmp 85) (.tmp 86) _ rfl x x true Lx.out Lx.out (by simp) rfl rfl) ?_
    simp only [Act.put, List.setIfInBounds_toArray, List.set_cons_succ, List.set_cons_zero]
    iterate 1 (refine Mild2.step_quiet F rfl rfl rfl (fun w0 hC hF K hK => ?_); clear hF; go_big_quiet_op; refine hK _ ?_; clear hK K hC; clear w0)
    iterate 1 (refine Mild2.step_quiet F rfl rfl rfl (fun w0 hC hF K hK => ?_); clear hF; go_big_quiet_op; refine hK _ ?_; clear hK K hC; clear w0)
    refine Mild2.step_known F rfl rfl (wv y) (fun w0 hC _ => W.newload m hC (.tmp 12) rfl 9 rfl rfl) ?_
    simp only [Act.put, List.setIfInBounds_toArray, List.set_cons_succ, List.set_cons_zero]
    refine Mild2.step_known F rfl rfl (wv y) (fun w0 hC _ => W.newload m hC (.tmp 14) rfl 7 rfl rfl) ?_
    simp only [Act.put, List.setIfInBounds_toArray, List.set_cons_succ, List.set_cons_zero]
    refine Mild2.step_known F rfl rfl (.bool true) (fun w0 hC _ => W.exec_eql (.tmp 90) (.tmp 91) _ rfl y y true Ly.out Ly.out (by simp) rfl rfl) ?_
    simp only [Act.put, List.setIfInBounds_toArray, List.set_cons_succ, List.set_cons_zero]
    iterate 1 (refine Mild2.step_quiet F rfl rfl rfl (fun w0 hC hF K hK => ?_); clear hF; go_big_quiet_op; refine hK _ ?_; clear hK K hC; clear w0)
    iterate 1 (refine Mild2.step_quiet F rfl rfl rfl (fun w0 hC hF K hK => ?_); clear hF; go_big_quiet_op; refine hK _ ?_; clear hK K hC; clear w0)
    refine Mild2.step_known F rfl rfl (wv p) (fun w0 hC _ => W.newload m hC (.tmp 17) rfl 4 rfl rfl) ?_
    simp only [Act.put, List.setIfInBounds_toArray, List.set_cons_succ, List.set_cons_zero]
    refine Mild2.step_known F rfl rfl (wv p) (fun w0 hC _ => W.newload m hC (.tmp 19) rfl 2 rfl rfl) ?_
    simp only [Act.put, List.setIfInBounds_toArray, List.set_cons_succ, List.set_cons_zero]
    refine Mild2.step_known F rfl rfl (.bool true) (fun w0 hC _ => W.exec_eql (.tmp 95) (.tmp 96) _ rfl p p true Lp.out Lp.out (by simp) rfl rfl) ?_
    simp only [Act.put, List.setIfInBounds_toArray, List.set_cons_succ, List.set_cons_zero]
    iterate 1 (refine Mild2.step_quiet F rfl rfl rfl (fun w0 hC hF K hK => ?_); clear hF; go_big_quiet_op; refine hK _ ?_; clear hK K hC; clear w0)
    iterate 1 (refine Mild2.step_quiet F rfl rfl rfl (fun w0 hC hF K hK => ?_); clear hF; go_big_quiet_op; refine hK _ ?_; clear hK K hC; clear w0)
    refine Mild2.step_known F rfl rfl (wv a) (fun w0 hC _ => W.newload m hC (.tmp 3) rfl 15 rfl rfl) ?_
    simp only [Act.put, List.setIfInBounds_toArray, List.set_cons_succ, List.set_cons_zero]
    iterate 1 (refine Mild2.step_quiet F rfl rfl rfl (fun w0 hC hF K hK => ?_); clear hF; go_big_quiet_op; refine hK _ ?_; clear hK K hC; clear w0)
    refine Mild2.step_callv rfl rfl (27) (#[wv a, .int .i64 (n : Int)]) (wv lo) (fun w => by go_simp) (fun w0 hC => HS2.out w0) (fun _ _ h => Vw.of_gr h) (fun _ => ⟨fun h => absurd h (by decide), fun _ => rfl⟩) (fun _ _ h => h.2 rfl) ?_
    simp only [Act.put, List.setIfInBounds_toArray, List.set_cons_succ, List.set_cons_zero]
    refine Mild2.step_known F rfl rfl (wv lo) (fun w0 hC _ => W.newload m hC (.tmp 22) rfl 1 rfl rfl) ?_
    simp only [Act.put, List.setIfInBounds_toArray, List.set_cons_succ, List.set_cons_zero]
    refine Mild2.step_known F rfl rfl (.bool true) (fun w0 hC _ => W.exec_eql (.tmp 102) (.tmp 103) _ rfl lo lo true Ll.out Ll.out (by simp) rfl rfl) ?_
    simp only [Act.put, List.setIfInBounds_toArray, List.set_cons_succ, List.set_cons_zero]
    iterate 1 (refine Mild2.step_quiet F rfl rfl rfl (fun w0 hC hF K hK => ?_); clear hF; go_big_quiet_op; refine hK _ ?_; clear hK K hC; clear w0)
    iterate 1 (refine Mild2.step_quiet F rfl rfl rfl (fun w0 hC hF K hK => ?_); clear hF; go_big_quiet_op; refine hK _ ?_; clear hK K hC; clear w0)
    intro w8 hw8 hf8
    replace m := m.oldM hw8
    clear hf8 hw8 F
    go_wp2
    go_ret
    exact ⟨rfl, m.below⟩

theorem contract (H : Type) (enc : TypeId × Value → H) (W : World) (base : Nat) (args : Array Value) (ds gs : List (DataW H)) (before : List MemPlace)
    (hval0 : ∀ (j : Nat) t v, Tryd.f9.params[j]? = some t → args[j]? = some v → Value.okWide Tryd.prog W .any base t v)
    (hW : DataW.Whole enc Tryd.prog Tryd.f9.params.toList Rows.wideLawsSpec.vars false W args.toList ds gs before) (hL : laidMetH Tryd.prog Rows.wideLawsRow.laid W) :
    Calls Tryd.prog 9 args W fun e W' => ∃ v, e = .returned v ∧ Rows.wideLawsSpec.post enc Tryd.prog Tryd.f9 false true false false W args v W' := by
  have hval : ∀ (j : Nat) t v, Tryd.f9.params[j]? = some t → args[j]? = some v → Value.okWide Tryd.prog W .any base t v := hval0
  have hW' := hW
  obtain ⟨p, q, hA0, hV, rfl, hfz, hnd⟩ := hW
  have hA : DataW.TrodAll enc Tryd.prog W 0 (fun _ => true) true Tryd.f9.params.toList args.toList ds p := hA0
  rw [Tryd.params9] at hA hval
  obtain ⟨v0, vs0, d0, ds0, p0, q0, hargs, rfl, rfl, h0, r0⟩ := trodAll_cons hA
  obtain ⟨v1, vs1, d1, ds1, p1, q1, rfl, rfl, rfl, h1, r1⟩ := trodAll_cons r0
  obtain ⟨v2, vs2, d2, ds2, p2, q2, rfl, rfl, rfl, h2, r2⟩ := trodAll_cons r1
  obtain ⟨rfl, rfl, rfl⟩ := trodAll_nil r2
  obtain rfl : args = #[v0, v1, v2] := by cases args; simp_all
  obtain ⟨rfl, rfl⟩ := trodVars_none hV
  have k0 := h0
  have lt0 : ∀ x ∈ p0, x.block < W.heap.size := by obtain ⟨m, hm⟩ := k0; exact DataW.trod_lt m _ _ _ hm
  obtain ⟨l0, e0, rfl⟩ := open_wide (hval 0 24 v0 rfl rfl) h0
  have k1 := h1
  have lt1 : ∀ x ∈ p1, x.block < W.heap.size := by obtain ⟨m, hm⟩ := k1; exact DataW.trod_lt m _ _ _ hm
  obtain ⟨l1, e1, rfl⟩ := open_wide (hval 1 24 v1 rfl rfl) h1
  have k2 := h2
  have lt2 : ∀ x ∈ p2, x.block < W.heap.size := by obtain ⟨m, hm⟩ := k2; exact DataW.trod_lt m _ _ _ hm
  obtain ⟨l2, e2, rfl⟩ := open_wide (hval 2 24 v2 rfl rfl) h2
  clear hA0 hval0
  refine (walk l0 l1 l2 W e0 e1 e2 (facts_of hL)).mono fun e W' ⟨he, bel⟩ => ?_
  subst he
  exact ⟨_, rfl, _, _, _, [], _, [], hW', trodAll_mk1 (shut_bool Tryd.underlying4 _), (trodAll_cons_mk (Below.trod laidOut (by kernel_rfl) (of_decide_eq_true (by kernel_rfl)) k0 bel lt0) (trodAll_cons_mk (Below.trod laidOut (by kernel_rfl) (of_decide_eq_true (by kernel_rfl)) k1 bel lt1) (trodAll_cons_mk (Below.trod laidOut (by kernel_rfl) (of_decide_eq_true (by kernel_rfl)) k2 bel lt2) trodAll_mk0))), rfl, bel.frame _, fun h => by cases h⟩

theorem laid_met (os : Os) : laidMet Tryd.prog Rows.wideLawsRow.laid ((laidWorld os).forCall (fun _ _ => 0) ⟨#[], #[.agg #[.int .u64 0, .int .u64 0, .int .u64 0, .int .u64 0], .agg #[.int .u64 0, .int .u64 0, .int .u64 0, .int .u64 0], .agg #[.int .u64 0, .int .u64 0, .int .u64 0, .int .u64 0]], []⟩).memory :=
  laidMet_of_run' 8 (by kernel_rfl) (by kernel_rfl)
theorem reads (os : Os) {H : Type} (enc : TypeId × Value → H) : ∃ places, DataW.whole enc Tryd.prog ((laidWorld os).forCall (fun _ _ => 0) ⟨#[], #[.agg #[.int .u64 0, .int .u64 0, .int .u64 0, .int .u64 0], .agg #[.int .u64 0, .int .u64 0, .int .u64 0, .int .u64 0], .agg #[.int .u64 0, .int .u64 0, .int .u64 0, .int .u64 0]], []⟩).memory Tryd.f9.params.toList Rows.wideLawsSpec.vars false (#[.agg #[.int .u64 0, .int .u64 0, .int .u64 0, .int .u64 0], .agg #[.int .u64 0, .int .u64 0, .int .u64 0, .int .u64 0], .agg #[.int .u64 0, .int .u64 0, .int .u64 0, .int .u64 0]] : Array Value).toList 8 = some ([.agg [.lit (.int .u64 0), .lit (.int .u64 0), .lit (.int .u64 0), .lit (.int .u64 0)], .agg [.lit (.int .u64 0), .lit (.int .u64 0), .lit (.int .u64 0), .lit (.int .u64 0)], .agg [.lit (.int .u64 0), .lit (.int .u64 0), .lit (.int .u64 0), .lit (.int .u64 0)]], [], places) :=
  ⟨[], by kernel_rfl⟩

set_option maxRecDepth 100000 in
theorem lifted (os : Os) (started : os.Started) (H : Type) (enc : TypeId × Value → H) (F : Stop.Interp) :
    ReturnsInHanded {} Tryd.checked os 9 .any ((OpenSpec.ofChange Rows.wideLawsSpec).preRow enc Tryd.prog Tryd.f9 Rows.wideLawsRow.domain false Rows.wideLawsRow.laid) (((OpenSpec.ofChange Rows.wideLawsSpec).at F).post enc Tryd.prog Tryd.f9 false true false false) := by
  obtain ⟨places, hx⟩ := reads os enc
  refine returnsInHanded_of_row (C := Tryd.checked) (s := OpenSpec.ofChange Rows.wideLawsSpec) own started (by kernel_rfl) Tryd.func9
    (witness_row_at (enc := enc) (C := Tryd.checked) false (laidWorld os) #[.agg #[.int .u64 0, .int .u64 0, .int .u64 0, .int .u64 0], .agg #[.int .u64 0, .int .u64 0, .int .u64 0, .int .u64 0], .agg #[.int .u64 0, .int .u64 0, .int .u64 0, .int .u64 0]] rfl (by kernel_rfl) (by kernel_rfl) (by kernel_rfl)
      (OpenSpec.preRow_of_cond 8 hx (by kernel_rfl) (fun k hk => by cases hk) (by kernel_rfl) (laid_met os))) ?_
  intro W base args ds gs before hval hW _ _ _ hL _ _
  exact contract H enc W base args ds gs before hval hW hL

theorem said : Rows.WideLawsSaid :=
  OpenClaim.holds_of_cond 9 Tryd.f9 rfl rfl rfl rfl rfl rfl rfl ⟨rfl, rfl, rfl, rfl, rfl⟩ rfl rfl rfl rfl rfl (by kernel_rfl) Tryd.func9 (by kernel_rfl)
    (of_decide_eq_true (by kernel_rfl)) (by unfold Func.isWrapper; first | (rw [if_pos (by decide +kernel)]; kernel_rfl) | (rw [if_neg (by decide +kernel)]; exact ⟨rfl, rfl⟩))
    (fun os started H enc _ F => by rw [OpenClaim.pre_eq_preRow]; exact lifted os started H enc F)

theorem plain (f : FuncId) (fn : Func) (hf : Tryd.pinned.checked.prog.funcNamed "entail/entaillaw06.WideLaws" = some f) (hfn : Tryd.pinned.checked.prog.funcs[f]? = some fn) :
    false = Tryd.pinned.checked.prog.looks [] ∧ ∀ (j : Nat) t, fn.params[j]? = some t → Tryd.pinned.checked.prog.wantsStandIn t = false := by
  obtain rfl : f = 9 := Option.some.inj ((show Tryd.prog.funcNamed "entail/entaillaw06.WideLaws" = some 9 by kernel_rfl).symm.trans hf) |>.symm
  obtain rfl : fn = Tryd.f9 := (Option.some.inj (Tryd.func9.symm.trans hfn)).symm
  refine ⟨by kernel_rfl, fun j t ht => ?_⟩
  rw [Tryd.params9] at ht
  have hm := Array.mem_of_getElem? ht
  simp at hm
  rcases hm with rfl
  all_goals first | exact (show Tryd.prog.wantsStandIn 24 = false by kernel_rfl)

/-- The statement. -/
theorem proved : Rows.WideLawsCardSaid :=
  Claim7.holds_tied_plain_at .later [] _ _ _ _ said (fun _ h => by cases h) (by kernel_rfl) (fun _ h => by cases h) wideLaws_row_tie rfl ⟨rfl, rfl⟩ (by kernel_rfl) rfl plain (by kernel_rfl)
#print axioms proved
end Go.Proofs.YtijghhecclaafaaDoor.wideLaws
