/-
  The roots of the primes, reckoned.
-/
import Derived.Test.YtkgenageeiaacaaDoorRm
namespace Go.Proofs.YtkgenageeiaacaaDoor
theorem c2 : rt 2 true = 1116352408 := by decide +kernel
theorem c3 : rt 3 true = 1899447441 := by decide +kernel
theorem c5 : rt 5 true = 3049323471 := by decide +kernel
theorem c7 : rt 7 true = 3921009573 := by decide +kernel
theorem c11 : rt 11 true = 961987163 := by decide +kernel
theorem c13 : rt 13 true = 1508970993 := by decide +kernel
theorem c17 : rt 17 true = 2453635748 := by decide +kernel
theorem c19 : rt 19 true = 2870763221 := by decide +kernel
theorem c23 : rt 23 true = 3624381080 := by decide +kernel
theorem c29 : rt 29 true = 310598401 := by decide +kernel
theorem c31 : rt 31 true = 607225278 := by decide +kernel
theorem c37 : rt 37 true = 1426881987 := by decide +kernel
theorem c41 : rt 41 true = 1925078388 := by decide +kernel
theorem c43 : rt 43 true = 2162078206 := by decide +kernel
theorem c47 : rt 47 true = 2614888103 := by decide +kernel
theorem c53 : rt 53 true = 3248222580 := by decide +kernel
theorem c59 : rt 59 true = 3835390401 := by decide +kernel
theorem c61 : rt 61 true = 4022224774 := by decide +kernel
theorem c67 : rt 67 true = 264347078 := by decide +kernel
theorem c71 : rt 71 true = 604807628 := by decide +kernel
theorem c73 : rt 73 true = 770255983 := by decide +kernel
theorem c79 : rt 79 true = 1249150122 := by decide +kernel
theorem c83 : rt 83 true = 1555081692 := by decide +kernel
theorem c89 : rt 89 true = 1996064986 := by decide +kernel
theorem c97 : rt 97 true = 2554220882 := by decide +kernel
theorem c101 : rt 101 true = 2821834349 := by decide +kernel
theorem c103 : rt 103 true = 2952996808 := by decide +kernel
theorem c107 : rt 107 true = 3210313671 := by decide +kernel
theorem c109 : rt 109 true = 3336571891 := by decide +kernel
theorem c113 : rt 113 true = 3584528711 := by decide +kernel
theorem c127 : rt 127 true = 113926993 := by decide +kernel
theorem c131 : rt 131 true = 338241895 := by decide +kernel
theorem c137 : rt 137 true = 666307205 := by decide +kernel
theorem c139 : rt 139 true = 773529912 := by decide +kernel
theorem c149 : rt 149 true = 1294757372 := by decide +kernel
theorem c151 : rt 151 true = 1396182291 := by decide +kernel
theorem c157 : rt 157 true = 1695183700 := by decide +kernel
theorem c163 : rt 163 true = 1986661051 := by decide +kernel
theorem c167 : rt 167 true = 2177026350 := by decide +kernel
theorem c173 : rt 173 true = 2456956037 := by decide +kernel
theorem c179 : rt 179 true = 2730485921 := by decide +kernel
theorem c181 : rt 181 true = 2820302411 := by decide +kernel
theorem c191 : rt 191 true = 3259730800 := by decide +kernel
theorem c193 : rt 193 true = 3345764771 := by decide +kernel
theorem c197 : rt 197 true = 3516065817 := by decide +kernel
theorem c199 : rt 199 true = 3600352804 := by decide +kernel
theorem c211 : rt 211 true = 4094571909 := by decide +kernel
theorem c223 : rt 223 true = 275423344 := by decide +kernel
theorem c227 : rt 227 true = 430227734 := by decide +kernel
theorem c229 : rt 229 true = 506948616 := by decide +kernel
theorem c233 : rt 233 true = 659060556 := by decide +kernel
theorem c239 : rt 239 true = 883997877 := by decide +kernel
theorem c241 : rt 241 true = 958139571 := by decide +kernel
theorem c251 : rt 251 true = 1322822218 := by decide +kernel
theorem c257 : rt 257 true = 1537002063 := by decide +kernel
theorem c263 : rt 263 true = 1747873779 := by decide +kernel
theorem c269 : rt 269 true = 1955562222 := by decide +kernel
theorem c271 : rt 271 true = 2024104815 := by decide +kernel
theorem c277 : rt 277 true = 2227730452 := by decide +kernel
theorem c281 : rt 281 true = 2361852424 := by decide +kernel
theorem c283 : rt 283 true = 2428436474 := by decide +kernel
theorem c293 : rt 293 true = 2756734187 := by decide +kernel
theorem c307 : rt 307 true = 3204031479 := by decide +kernel
theorem c311 : rt 311 true = 3329325298 := by decide +kernel
theorem q2 : rt 2 false = 1779033703 := by decide +kernel
theorem q3 : rt 3 false = 3144134277 := by decide +kernel
theorem q5 : rt 5 false = 1013904242 := by decide +kernel
theorem q7 : rt 7 false = 2773480762 := by decide +kernel
theorem q11 : rt 11 false = 1359893119 := by decide +kernel
theorem q13 : rt 13 false = 2600822924 := by decide +kernel
theorem q17 : rt 17 false = 528734635 := by decide +kernel
theorem q19 : rt 19 false = 1541459225 := by decide +kernel
theorem prL : prK 310 = [2, 3, 5, 7, 11, 13, 17, 19, 23, 29, 31, 37, 41, 43, 47, 53, 59, 61, 67, 71, 73, 79, 83, 89, 97, 101, 103, 107, 109, 113, 127, 131, 137, 139, 149, 151, 157, 163, 167, 173, 179, 181, 191, 193, 197, 199, 211, 223, 227, 229, 233, 239, 241, 251, 257, 263, 269, 271, 277, 281, 283, 293, 307, 311] := by decide +kernel
theorem prS : prK 18 = [2, 3, 5, 7, 11, 13, 17, 19] := by decide +kernel
theorem rtsK_map (l : List Nat) (cube : Bool) (n : Nat) (h : n ≤ l.length) : rtsK l cube n = (l.take n).map fun p => rt p cube := by
  induction n with
  | zero => rfl
  | succ n ih =>
    rw [rtsK, ih (by omega), List.take_add_one, List.map_append]
    unfold at64
    rw [List.getD_eq_getElem?_getD, List.getElem?_eq_getElem (by omega)]
    rfl
theorem steps_roots : rtsK (prK 310) true 64 = stepsL := by
  rw [prL, rtsK_map _ _ _ (by decide)]
  show [rt 2 true, rt 3 true, rt 5 true, rt 7 true, rt 11 true, rt 13 true, rt 17 true, rt 19 true, rt 23 true, rt 29 true, rt 31 true, rt 37 true, rt 41 true, rt 43 true, rt 47 true, rt 53 true, rt 59 true, rt 61 true, rt 67 true, rt 71 true, rt 73 true, rt 79 true, rt 83 true, rt 89 true, rt 97 true, rt 101 true, rt 103 true, rt 107 true, rt 109 true, rt 113 true, rt 127 true, rt 131 true, rt 137 true, rt 139 true, rt 149 true, rt 151 true, rt 157 true, rt 163 true, rt 167 true, rt 173 true, rt 179 true, rt 181 true, rt 191 true, rt 193 true, rt 197 true, rt 199 true, rt 211 true, rt 223 true, rt 227 true, rt 229 true, rt 233 true, rt 239 true, rt 241 true, rt 251 true, rt 257 true, rt 263 true, rt 269 true, rt 271 true, rt 277 true, rt 281 true, rt 283 true, rt 293 true, rt 307 true, rt 311 true] = _
  rw [c2, c3, c5, c7, c11, c13, c17, c19, c23, c29, c31, c37, c41, c43, c47, c53, c59, c61, c67, c71, c73, c79, c83, c89, c97, c101, c103, c107, c109, c113, c127, c131, c137, c139, c149, c151, c157, c163, c167, c173, c179, c181, c191, c193, c197, c199, c211, c223, c227, c229, c233, c239, c241, c251, c257, c263, c269, c271, c277, c281, c283, c293, c307, c311]
  rfl
theorem firsts_roots : rtsK (prK 18) false 8 = firstL := by
  rw [prS, rtsK_map _ _ _ (by decide)]
  show [rt 2 false, rt 3 false, rt 5 false, rt 7 false, rt 11 false, rt 13 false, rt 17 false, rt 19 false] = _
  rw [q2, q3, q5, q7, q11, q13, q17, q19]
  rfl
end Go.Proofs.YtkgenageeiaacaaDoor
