/-
  The curve's order is a prime: Pocklington's criterion, and a chain of primes.
  Conditions: none of any program.
-/
import Derived.Test.YtpfoeeiacfadfaaFQ
namespace Go.Proofs.Ytpfoeeiacfadfaa.Q
open Go.RowKit

/-- The order. -/
def Nm : Nat := 115792089237316195423570985008687907852837564279074904382605163141518161494337
theorem dv2 {a b F r : Nat} (h1 : Nat.beq (Nat.gcd a b) 1 = true) (hF : Nat.beq (a * b) F = true) (d1 : a ∣ r) (d2 : b ∣ r) : F ∣ r := by
  rw [← Nat.eq_of_beq_eq_true hF]
  exact Nat.Coprime.mul_dvd_of_dvd_of_dvd (Nat.eq_of_beq_eq_true h1) d1 d2
theorem o1 : Pr 1627771 := pr_trial 11 (by decide) (by decide +kernel) (by decide +kernel)
theorem o2 : Pr 305873 := pr_trial 10 (by decide) (by decide +kernel) (by decide +kernel)
theorem o3 : Pr 4681609 := pr_trial 12 (by decide) (by decide +kernel) (by decide +kernel)
theorem o4 : Pr 85831 := pr_trial 9 (by decide) (by decide +kernel) (by decide +kernel)
theorem o5 : Pr 297159362677 :=
  pr_pock' (a := 2) (m := 182556) (n := 297159362676) 40 (by decide +kernel) (by decide +kernel) o1 (by decide +kernel) (by decide +kernel) (by decide +kernel) (by decide +kernel) (by decide +kernel) (by decide +kernel)
def og : Nat := 29047611873442575647497758179
theorem o6_0 {r : Nat} (hr : Pr r) (hd : r ∣ og) : 297159362677 ∣ r - 1 := pock' (a := 2) (m := 97750956294169114) (n := 29047611873442575647497758178) 96 (by decide +kernel) (by decide +kernel) o5 (by decide +kernel) (by decide +kernel) (by decide +kernel) (by decide +kernel) (by decide +kernel) hr hd
theorem o6_1 {r : Nat} (hr : Pr r) (hd : r ∣ og) : 305873 ∣ r - 1 := pock' (a := 2) (m := 94966250285061367454786) (n := 29047611873442575647497758178) 96 (by decide +kernel) (by decide +kernel) o2 (by decide +kernel) (by decide +kernel) (by decide +kernel) (by decide +kernel) (by decide +kernel) hr hd
theorem o6 : Pr og := Classical.byContradiction fun hp => by
  obtain ⟨r, hr, hd, hle⟩ := small_factor (Nat.le_of_ble_eq_true (by decide +kernel)) hp
  exact fin3 (F := 90893025740102021) (dv2 (by decide +kernel) (by decide +kernel) (o6_0 hr hd) (o6_1 hr hd)) hr.1 hle (by decide +kernel)
theorem o7 : Pr 341948486974166000522343609283189 :=
  pr_pock' (a := 2) (m := 11772) (n := 341948486974166000522343609283188) 112 (by decide +kernel) (by decide +kernel) o6 (by decide +kernel) (by decide +kernel) (by decide +kernel) (by decide +kernel) (by decide +kernel) (by decide +kernel)
def of2 : Nat := 107361793816595537
theorem o8_0 {r : Nat} (hr : Pr r) (hd : r ∣ of2) : 4681609 ∣ r - 1 := pock' (a := 2) (m := 22932669904) (n := 107361793816595536) 64 (by decide +kernel) (by decide +kernel) o3 (by decide +kernel) (by decide +kernel) (by decide +kernel) (by decide +kernel) (by decide +kernel) hr hd
theorem o8_1 {r : Nat} (hr : Pr r) (hd : r ∣ of2) : 85831 ∣ r - 1 := pock' (a := 2) (m := 1250851019056) (n := 107361793816595536) 64 (by decide +kernel) (by decide +kernel) o4 (by decide +kernel) (by decide +kernel) (by decide +kernel) (by decide +kernel) (by decide +kernel) hr hd
theorem o8 : Pr of2 := Classical.byContradiction fun hp => by
  obtain ⟨r, hr, hd, hle⟩ := small_factor (Nat.le_of_ble_eq_true (by decide +kernel)) hp
  exact fin3 (F := 401827182079) (dv2 (by decide +kernel) (by decide +kernel) (o8_0 hr hd) (o8_1 hr hd)) hr.1 hle (by decide +kernel)
/-- THE ORDER IS A PRIME. -/
theorem prN_0 {r : Nat} (hr : Pr r) (hd : r ∣ Nm) : 341948486974166000522343609283189 ∣ r - 1 := pock' (a := 2) (m := 338624364920977752681389262317185522840540224) (n := 115792089237316195423570985008687907852837564279074904382605163141518161494336) 264 (by decide +kernel) (by decide +kernel) o7 (by decide +kernel) (by decide +kernel) (by decide +kernel) (by decide +kernel) (by decide +kernel) hr hd
theorem prN_1 {r : Nat} (hr : Pr r) (hd : r ∣ Nm) : 107361793816595537 ∣ r - 1 := pock' (a := 2) (m := 1078522304080742162682399010554089082520748534743704783428928) (n := 115792089237316195423570985008687907852837564279074904382605163141518161494336) 264 (by decide +kernel) (by decide +kernel) o8 (by decide +kernel) (by decide +kernel) (by decide +kernel) (by decide +kernel) (by decide +kernel) hr hd
theorem prN : Pr Nm := Classical.byContradiction fun hp => by
  obtain ⟨r, hr, hd, hle⟩ := small_factor (Nat.le_of_ble_eq_true (by decide +kernel)) hp
  exact fin3 (F := 36712202954417214842724336778420075919000906527493) (dv2 (by decide +kernel) (by decide +kernel) (prN_0 hr hd) (prN_1 hr hd)) hr.1 hle (by decide +kernel)
end Go.Proofs.Ytpfoeeiacfadfaa.Q
