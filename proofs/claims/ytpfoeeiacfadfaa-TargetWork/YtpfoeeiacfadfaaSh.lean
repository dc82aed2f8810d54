/-
  Plain mathematics of the hash: numbers of 32 bits, a block's numbers, the steps, blocks one behind the other, the padded bytes.
-/
import Derived.Test.YtpfoeeiacfadfaaBytes
namespace Go.Proofs.Ytpfoeeiacfadfaa

def ad (x y : Nat) : Nat := (x + y) % 4294967296
def xo (x y : Nat) : Nat := (x ^^^ y) % 4294967296
def an (x y : Nat) : Nat := (x &&& y) % 4294967296
def og (x y : Nat) : Nat := (x ||| y) % 4294967296
def lS (c x : Nat) : Nat := x * 2 ^ c % 4294967296
def rS (c x : Nat) : Nat := x / 2 ^ c
/-- x rotated by n. -/
def rr (n x : Nat) : Nat := og (rS n x) (lS (32 - n) x)
/-- Three ways, xor. -/
def tn (i j k x : Nat) : Nat := xo (xo (rr i x) (rr j x)) (rr k x)
def sg0 (x : Nat) : Nat := xo (xo (rr 7 x) (rr 18 x)) (rS 3 x)
def sg1 (x : Nat) : Nat := xo (xo (rr 17 x) (rr 19 x)) (rS 10 x)
def tA (e f g h k n : Nat) : Nat := ad (ad (ad (ad h (tn 6 11 25 e)) (xo (an e f) (an (xo e 4294967295) g))) k) n
def tB (a b c : Nat) : Nat := ad (tn 2 13 22 a) (xo (xo (an a b) (an a c)) (an b c))

/-- The number at a place. -/
def at32 (l : List Nat) (i : Nat) : Nat := l.getD i 0
/-- A step: of the eight numbers. -/
def rnd (v : List Nat) (k n : Nat) : List Nat :=
  [ad (tA (at32 v 4) (at32 v 5) (at32 v 6) (at32 v 7) k n) (tB (at32 v 0) (at32 v 1) (at32 v 2)), at32 v 0, at32 v 1, at32 v 2,
   ad (at32 v 3) (tA (at32 v 4) (at32 v 5) (at32 v 6) (at32 v 7) k n), at32 v 4, at32 v 5, at32 v 6]
def rnT (ks ws v : List Nat) : Nat → List Nat
  | 0 => v
  | t + 1 => rnd (rnT ks ws v t) (at32 ks t) (at32 ws t)
/-- Four bytes, the highest first. -/
def be4 (a b c d : UInt8) : Nat := og (og (og (lS 24 a.toNat) (lS 16 b.toNat)) (lS 8 c.toNat)) d.toNat
def at8 (l : List UInt8) (i : Nat) : UInt8 := l.getD i 0
def wd (b : List UInt8) (t : Nat) : Nat := be4 (at8 b (4 * t)) (at8 b (4 * t + 1)) (at8 b (4 * t + 2)) (at8 b (4 * t + 3))
/-- The next number of a block. -/
def nw (l : List Nat) : Nat := ad (ad (ad (sg1 (at32 l (l.length - 2))) (at32 l (l.length - 7))) (sg0 (at32 l (l.length - 15)))) (at32 l (l.length - 16))
/-- The first so many numbers of a block. -/
def ws (b : List UInt8) : Nat → List Nat
  | 0 => []
  | t + 1 => ws b t ++ [if t < 16 then wd b t else nw (ws b t)]
def stepsL : List Nat := [1116352408, 1899447441, 3049323471, 3921009573, 961987163, 1508970993, 2453635748, 2870763221, 3624381080, 310598401, 607225278, 1426881987, 1925078388, 2162078206, 2614888103, 3248222580, 3835390401, 4022224774, 264347078, 604807628, 770255983, 1249150122, 1555081692, 1996064986, 2554220882, 2821834349, 2952996808, 3210313671, 3336571891, 3584528711, 113926993, 338241895, 666307205, 773529912, 1294757372, 1396182291, 1695183700, 1986661051, 2177026350, 2456956037, 2730485921, 2820302411, 3259730800, 3345764771, 3516065817, 3600352804, 4094571909, 275423344, 430227734, 506948616, 659060556, 883997877, 958139571, 1322822218, 1537002063, 1747873779, 1955562222, 2024104815, 2227730452, 2361852424, 2428436474, 2756734187, 3204031479, 3329325298]
def firstL : List Nat := [1779033703, 3144134277, 1013904242, 2773480762, 1359893119, 2600822924, 528734635, 1541459225]
/-- A block is taken. -/
def adds (n v : List Nat) : Nat → List Nat
  | 0 => n
  | i + 1 => (adds n v i).set i (ad (at32 n i) (at32 v i))
def tk (n : List Nat) (b : List UInt8) : List Nat := adds n (rnT stepsL (ws b 64) n 64) 8
/-- Blocks one behind the other. -/
def ab (n : List Nat) : Nat → List UInt8 → List Nat
  | 0, _ => n
  | k + 1, l => ab (tk n (l.take 64)) k (l.drop 64)
/-- How many noughts. -/
def nz (n : Nat) : Nat := (119 - n % 64) % 64
def by8 (n i : Nat) : UInt8 := UInt8.ofNat (n * 8 % 18446744073709551616 / 2 ^ (56 - 8 * i))
def bits8 (n : Nat) : List UInt8 := [by8 n 0, by8 n 1, by8 n 2, by8 n 3, by8 n 4, by8 n 5, by8 n 6, by8 n 7]
/-- What stands behind the bytes. -/
def tailL (n : Nat) : List UInt8 := 128 :: (List.replicate (nz n) 0 ++ bits8 n)
def pad (l : List UInt8) : List UInt8 := l ++ tailL l.length
/-- The numbers behind whole blocks. -/
def sofar (l : List UInt8) : List Nat := ab firstL (l.length / 64) l
def outB (n : List Nat) (i : Nat) : UInt8 := UInt8.ofNat (rS (24 - 8 * (i % 4)) (at32 n (i / 4)))
def outL (n : List Nat) : Nat → List UInt8
  | 0 => List.replicate 32 0
  | i + 1 => (outL n i).set i (outB n i)
/-- The hash. -/
def hsh (l : List UInt8) : List UInt8 := outL (ab firstL ((pad l).length / 64) (pad l)) 32
end Go.Proofs.Ytpfoeeiacfadfaa
