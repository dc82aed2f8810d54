package wide_test

import (
	"fmt"
	"math"
	"math/big"
	"math/rand"
	"regexp"
	"slices"
	"strings"
	"testing"

	"entail/api"
	"entail/wide"
)

const full = math.MaxUint64

// mostWritten is 2^256 - 1, beyondWritten 2^256.
const (
	mostWritten   = "115792089237316195423570985008687907853269984665640564039457584007913129639935"
	beyondWritten = "115792089237316195423570985008687907853269984665640564039457584007913129639936"
)

var (
	nought = api.Wide{}
	one    = api.Wide{1}
	most   = api.Wide{full, full, full, full}
	beyond = new(big.Int).Lsh(big.NewInt(1), 256)
)

// endless: a wide number as one without end.
func endless(a api.Wide) *big.Int {
	v := new(big.Int)
	for i := 3; i >= 0; i-- {
		v.Lsh(v, 64).Or(v, new(big.Int).SetUint64(a[i]))
	}
	return v
}

// cut: the lowest 256 bits of a number without end.
func cut(v *big.Int) api.Wide {
	var a api.Wide
	v = new(big.Int).Mod(v, beyond)
	for i := range a {
		a[i] = new(big.Int).Rsh(v, uint(64*i)).Uint64()
	}
	return a
}

// power: 2^n.
func power(n int) api.Wide {
	return cut(new(big.Int).Lsh(big.NewInt(1), uint(n)))
}

// beside: a number, and so much.
func beside(a api.Wide, d int64) api.Wide {
	return cut(new(big.Int).Add(endless(a), big.NewInt(d)))
}

// edges: 0, 1, 2^256 - 1, the powers of two about the borders of 64 bits, with their neighbours, and numbers that differ in one word alone.
func edges() []api.Wide {
	l := []api.Wide{nought, one, {2}, {3}, {7}, {10}, most, beside(most, -1), beside(most, -2)}
	for _, border := range []int{64, 128, 192, 256} {
		for n := border - 2; n <= border+1 && n < 256; n++ {
			for d := int64(-1); d <= 1; d++ {
				l = append(l, beside(power(n), d))
			}
		}
	}
	base := api.Wide{0x0123456789abcdef, 0xfedcba9876543210, 0x0f1e2d3c4b5a6978, 0x8796a5b4c3d2e1f0}
	l = append(l, base)
	for i := range base {
		up, down, flat, raised := base, base, base, base
		up[i]++
		down[i]--
		flat[i], raised[i] = 0, full
		l = append(l, up, down, flat, raised)
	}
	return l
}

// wholeWords: all numbers whose four words are each one of these.
func wholeWords(words ...uint64) []api.Wide {
	var l []api.Wide
	for _, x := range words {
		for _, y := range words {
			for _, z := range words {
				for _, w := range words {
					l = append(l, api.Wide{x, y, z, w})
				}
			}
		}
	}
	return l
}

// byChance: numbers of every length, some of words that are nearly empty or nearly full.
func byChance(r *rand.Rand) api.Wide {
	some := []uint64{0, 0, 1, 2, 1<<32 - 1, 1 << 32, 1<<63 - 1, 1 << 63, 1<<63 + 1, full - 1, full, full}
	var a api.Wide
	for i := range a {
		a[i] = r.Uint64()
		if r.Intn(2) == 0 {
			a[i] = some[r.Intn(len(some))]
		}
	}
	if r.Intn(2) == 0 {
		return a
	}
	return cut(new(big.Int).Rsh(endless(a), uint(r.Intn(257))))
}

// pairs: calls f with all pairs of edges, of whole words, and with many by chance.
func pairs(seed int64, f func(a, b api.Wide)) {
	for _, l := range [][]api.Wide{edges(), wholeWords(0, 1, full), wholeWords(0, 1<<63, full-1)} {
		for _, a := range l {
			for _, b := range l {
				f(a, b)
			}
		}
	}
	r := rand.New(rand.NewSource(seed))
	for range 50000 {
		f(byChance(r), byChance(r))
	}
}

// singles: calls f with all edges, whole words, all powers of two with their neighbours, and with many by chance.
func singles(seed int64, f func(a api.Wide)) {
	for _, a := range slices.Concat(edges(), wholeWords(0, 1, 1<<63, full)) {
		f(a)
	}
	for n := range 256 {
		for d := int64(-1); d <= 1; d++ {
			f(beside(power(n), d))
		}
	}
	r := rand.New(rand.NewSource(seed))
	for range 20000 {
		f(byChance(r))
	}
}

// P6.1, E1: From, Cmp, Len.

func TestFrom(t *testing.T) {
	for _, n := range []uint64{0, 1, 9, 255, 1<<32 - 1, 1 << 32, math.MaxInt64, 1 << 63, full - 1, full} {
		if a := wide.From(n); a != (api.Wide{n, 0, 0, 0}) {
			t.Errorf("From of %d: %v", n, a)
		}
	}
}

func wantCmp(t *testing.T, a, b api.Wide, want int) {
	t.Helper()
	if c := wide.Cmp(a, b); c != want {
		t.Errorf("Cmp of %v and %v: %d, not %d", a, b, c, want)
	}
}

func TestCmp(t *testing.T) {
	wantCmp(t, nought, nought, 0)
	wantCmp(t, nought, one, -1)
	wantCmp(t, one, nought, 1)
	wantCmp(t, most, most, 0)
	wantCmp(t, nought, most, -1)
	wantCmp(t, most, nought, 1)
	wantCmp(t, api.Wide{1, 2, 3, 4}, api.Wide{1, 2, 3, 4}, 0)
	// The lowest word alone, the highest word alone.
	wantCmp(t, api.Wide{1, 2, 3, 4}, api.Wide{2, 2, 3, 4}, -1)
	wantCmp(t, api.Wide{2, 2, 3, 4}, api.Wide{1, 2, 3, 4}, 1)
	wantCmp(t, api.Wide{1, 2, 3, 4}, api.Wide{1, 2, 3, 5}, -1)
	wantCmp(t, api.Wide{1, 2, 3, 5}, api.Wide{1, 2, 3, 4}, 1)
	// The highest word counts, whatever the others say; and no word has a sign.
	wantCmp(t, api.Wide{full, full, full, 1}, api.Wide{0, 0, 0, 2}, -1)
	wantCmp(t, api.Wide{0, 0, 0, 2}, api.Wide{full, full, full, 1}, 1)
	wantCmp(t, api.Wide{0, 0, 0, 1 << 63}, api.Wide{full, full, full, 1<<63 - 1}, 1)
	wantCmp(t, api.Wide{1 << 63}, api.Wide{1}, 1)
}

func TestCmpLikeNumbersWithoutEnd(t *testing.T) {
	pairs(61, func(a, b api.Wide) {
		wantCmp(t, a, b, endless(a).Cmp(endless(b)))
		wantCmp(t, a, a, 0)
	})
}

func TestLen(t *testing.T) {
	if n := wide.Len(nought); n != 0 {
		t.Errorf("Len of 0: %d", n)
	}
	for bit := range 256 {
		for _, a := range []api.Wide{power(bit), cut(new(big.Int).Sub(new(big.Int).Lsh(big.NewInt(1), uint(bit+1)), big.NewInt(1)))} {
			if n := wide.Len(a); n != bit+1 {
				t.Errorf("Len of %v: %d, not %d", a, n, bit+1)
			}
		}
	}
	singles(62, func(a api.Wide) {
		if n := wide.Len(a); n != endless(a).BitLen() {
			t.Errorf("Len of %v: %d", a, n)
		}
	})
}

// P6.1, E1: Add, Sub.

func wantAdd(t *testing.T, a, b, sum api.Wide, carry uint64) {
	t.Helper()
	if s, c := wide.Add(a, b); s != sum || c != carry {
		t.Errorf("Add of %v and %v: %v, %d; not %v, %d", a, b, s, c, sum, carry)
	}
}

func wantSub(t *testing.T, a, b, rest api.Wide, borrow uint64) {
	t.Helper()
	if d, c := wide.Sub(a, b); d != rest || c != borrow {
		t.Errorf("Sub of %v and %v: %v, %d; not %v, %d", a, b, d, c, rest, borrow)
	}
}

func TestAdd(t *testing.T) {
	wantAdd(t, nought, nought, nought, 0)
	wantAdd(t, one, one, api.Wide{2}, 0)
	wantAdd(t, api.Wide{1, 2, 3, 4}, api.Wide{10, 20, 30, 40}, api.Wide{11, 22, 33, 44}, 0)
	// A carry through one, two, three and all words.
	wantAdd(t, api.Wide{full}, one, api.Wide{0, 1}, 0)
	wantAdd(t, api.Wide{full, full}, one, api.Wide{0, 0, 1}, 0)
	wantAdd(t, api.Wide{full, full, full}, one, api.Wide{0, 0, 0, 1}, 0)
	wantAdd(t, most, one, nought, 1)
	wantAdd(t, one, most, nought, 1)
	wantAdd(t, most, most, api.Wide{full - 1, full, full, full}, 1)
	// Those that just do not.
	wantAdd(t, most, nought, most, 0)
	wantAdd(t, nought, most, most, 0)
	wantAdd(t, beside(most, -1), one, most, 0)
	wantAdd(t, api.Wide{full, full, full, full - 1}, one, api.Wide{0, 0, 0, full}, 0)
	wantAdd(t, power(255), power(255), nought, 1)
	wantAdd(t, power(255), beside(power(255), -1), most, 0)
	// A carry that comes in makes the one that goes out.
	wantAdd(t, api.Wide{full, 0, 0, 0}, api.Wide{1, full, full, full}, nought, 1)
	wantAdd(t, api.Wide{full - 1, 0, 0, 0}, api.Wide{1, full, full, full}, most, 0)
}

func TestSub(t *testing.T) {
	wantSub(t, nought, nought, nought, 0)
	wantSub(t, api.Wide{3}, one, api.Wide{2}, 0)
	wantSub(t, api.Wide{11, 22, 33, 44}, api.Wide{10, 20, 30, 40}, api.Wide{1, 2, 3, 4}, 0)
	// A borrow through one, two, three and all words.
	wantSub(t, power(64), one, api.Wide{full}, 0)
	wantSub(t, power(128), one, api.Wide{full, full}, 0)
	wantSub(t, power(192), one, api.Wide{full, full, full}, 0)
	wantSub(t, nought, one, most, 1)
	wantSub(t, nought, most, one, 1)
	wantSub(t, one, api.Wide{2}, most, 1)
	wantSub(t, beside(most, -1), most, most, 1)
	wantSub(t, api.Wide{1, 2, 3, 4}, api.Wide{2, 2, 3, 4}, most, 1)
	wantSub(t, api.Wide{0, 0, 0, 4}, api.Wide{0, 0, 0, 5}, api.Wide{0, 0, 0, full}, 1)
	// Those that just do not.
	wantSub(t, most, most, nought, 0)
	wantSub(t, one, one, nought, 0)
	wantSub(t, most, nought, most, 0)
	wantSub(t, api.Wide{1, 2, 3, 4}, api.Wide{1, 2, 3, 4}, nought, 0)
	wantSub(t, api.Wide{0, 0, 0, 1}, most, api.Wide{1, 0, 0, 1}, 1)
	wantSub(t, api.Wide{0, 0, 0, 1}, api.Wide{full, full, full}, one, 0)
	// A borrow that comes in makes the one that goes out.
	wantSub(t, nought, api.Wide{1, full, full, full}, api.Wide{full}, 1)
}

func sumLikeNumbersWithoutEnd(t *testing.T, a, b api.Wide) {
	t.Helper()
	sum := new(big.Int).Add(endless(a), endless(b))
	wantAdd(t, a, b, cut(sum), uint64(sum.Bit(256)))
	rest := new(big.Int).Sub(endless(a), endless(b))
	borrow := uint64(0)
	if rest.Sign() < 0 {
		borrow = 1
	}
	wantSub(t, a, b, cut(rest), borrow)
}

func TestSumsLikeNumbersWithoutEnd(t *testing.T) {
	pairs(63, func(a, b api.Wide) { sumLikeNumbersWithoutEnd(t, a, b) })
}

// The number that makes the other one up to 2^256 carries; one less does not.
func TestSumsAtTheirBorder(t *testing.T) {
	singles(64, func(a api.Wide) {
		if a == nought {
			return
		}
		up := cut(new(big.Int).Sub(beyond, endless(a)))
		wantAdd(t, a, up, nought, 1)
		wantAdd(t, up, a, nought, 1)
		wantAdd(t, a, beside(up, -1), most, 0)
		wantAdd(t, beside(up, -1), a, most, 0)
		wantSub(t, a, a, nought, 0)
		wantSub(t, beside(a, -1), a, most, 1)
	})
}

// P6.1, E1: Mul.

func wantMul(t *testing.T, a, b, low, high api.Wide) {
	t.Helper()
	if l, h := wide.Mul(a, b); l != low || h != high {
		t.Errorf("Mul of %v and %v: %v, %v; not %v, %v", a, b, l, h, low, high)
	}
}

func TestMul(t *testing.T) {
	wantMul(t, nought, nought, nought, nought)
	wantMul(t, nought, most, nought, nought)
	wantMul(t, most, nought, nought, nought)
	wantMul(t, one, most, most, nought)
	wantMul(t, most, one, most, nought)
	wantMul(t, api.Wide{6}, api.Wide{7}, api.Wide{42}, nought)
	wantMul(t, api.Wide{full}, api.Wide{full}, api.Wide{1, full - 1}, nought)
	wantMul(t, power(255), api.Wide{2}, nought, one)
	wantMul(t, api.Wide{2}, power(255), nought, one)
	wantMul(t, most, api.Wide{2}, beside(most, -1), one)
	wantMul(t, most, most, one, beside(most, -1))
	// The upper bits are just 0, and just are not.
	wantMul(t, power(128), power(127), power(255), nought)
	wantMul(t, power(128), power(128), nought, one)
	wantMul(t, beside(power(128), -1), beside(power(128), -1), beside(cut(new(big.Int).Sub(beyond, endless(power(129)))), 1), nought)
	wantMul(t, beside(power(128), -1), beside(power(128), 1), most, nought)
	wantMul(t, beside(power(128), 1), beside(power(128), 1), beside(power(129), 1), one)
	// Each word times each other one, at its own place.
	wantMul(t, api.Wide{1, 1, 1, 1}, api.Wide{1, 1, 1, 1}, api.Wide{1, 2, 3, 4}, api.Wide{3, 2, 1, 0})
	wantMul(t, api.Wide{1, 2, 3, 4}, api.Wide{5, 6, 7, 8}, api.Wide{5, 16, 34, 60}, api.Wide{61, 52, 32, 0})
}

func TestMulOfPowers(t *testing.T) {
	for n := range 256 {
		for m := range 256 {
			low, high := nought, nought
			if n+m < 256 {
				low = power(n + m)
			} else {
				high = power(n + m - 256)
			}
			wantMul(t, power(n), power(m), low, high)
		}
	}
}

func mulLikeNumbersWithoutEnd(t *testing.T, a, b api.Wide) {
	t.Helper()
	product := new(big.Int).Mul(endless(a), endless(b))
	wantMul(t, a, b, cut(product), cut(new(big.Int).Rsh(product, 256)))
}

func TestMulLikeNumbersWithoutEnd(t *testing.T) {
	pairs(65, func(a, b api.Wide) { mulLikeNumbersWithoutEnd(t, a, b) })
}

// P6.1, E2: Div.

func wantDiv(t *testing.T, a, b, quotient, rest api.Wide) {
	t.Helper()
	if q, r, e := wide.Div(a, b); q != quotient || r != rest || e != api.OK {
		t.Errorf("Div of %v by %v: %v, %v, %d; not %v, %v", a, b, q, r, e, quotient, rest)
	}
}

func TestDiv(t *testing.T) {
	wantDiv(t, api.Wide{7}, api.Wide{2}, api.Wide{3}, one)
	wantDiv(t, nought, one, nought, nought)
	wantDiv(t, nought, most, nought, nought)
	wantDiv(t, api.Wide{7, 0, 1}, api.Wide{0, 1}, api.Wide{0, 1}, api.Wide{7})
	wantDiv(t, most, api.Wide{10}, api.Wide{0x9999999999999999, 0x9999999999999999, 0x9999999999999999, 0x1999999999999999}, api.Wide{5})
	wantDiv(t, most, api.Wide{full}, api.Wide{1, 1, 1, 1}, nought)
	wantDiv(t, most, api.Wide{full, full}, api.Wide{1, 0, 1}, nought)
	wantDiv(t, most, api.Wide{full, full, full}, power(64), api.Wide{full})
	wantDiv(t, beside(most, -1), api.Wide{full, full}, power(128), beside(power(128), -2))
	wantDiv(t, most, beside(power(128), 1), beside(power(128), -1), nought)
	// A divisor of more than 255 bits goes in once, or not at all.
	wantDiv(t, most, power(255), one, beside(power(255), -1))
	wantDiv(t, most, beside(power(255), 1), one, beside(power(255), -2))
	wantDiv(t, most, beside(most, -1), one, one)
	wantDiv(t, beside(most, -1), most, nought, beside(most, -1))
	wantDiv(t, beside(power(255), -1), power(255), nought, beside(power(255), -1))
	wantDiv(t, power(255), power(255), one, nought)
}

// By 1, by itself, by one more, by one less, and by half.
func TestDivByItsNeighbours(t *testing.T) {
	singles(66, func(a api.Wide) {
		wantDiv(t, a, one, a, nought)
		if a != nought {
			wantDiv(t, a, a, one, nought)
		}
		if a != most {
			wantDiv(t, a, beside(a, 1), nought, a)
		}
		if endless(a).BitLen() > 1 {
			divLikeNumbersWithoutEnd(t, a, beside(a, -1))
			divLikeNumbersWithoutEnd(t, a, cut(new(big.Int).Rsh(endless(a), 1)))
		}
	})
}

func TestDivByOneBit(t *testing.T) {
	singles(67, func(a api.Wide) {
		for _, n := range []int{0, 1, 31, 32, 63, 64, 65, 127, 128, 129, 191, 192, 193, 254, 255} {
			v := endless(a)
			rest := new(big.Int).And(v, endless(beside(power(n), -1)))
			wantDiv(t, a, power(n), cut(new(big.Int).Rsh(v, uint(n))), cut(rest))
		}
	})
}

func TestDivByNought(t *testing.T) {
	singles(68, func(a api.Wide) {
		if q, r, e := wide.Div(a, nought); q != nought || r != nought || e != api.ErrArg {
			t.Errorf("Div of %v by 0: %v, %v, %d", a, q, r, e)
		}
	})
}

func divLikeNumbersWithoutEnd(t *testing.T, a, b api.Wide) {
	t.Helper()
	if b == nought {
		return
	}
	quotient, rest := new(big.Int).QuoRem(endless(a), endless(b), new(big.Int))
	wantDiv(t, a, b, cut(quotient), cut(rest))
}

func TestDivLikeNumbersWithoutEnd(t *testing.T) {
	pairs(69, func(a, b api.Wide) { divLikeNumbersWithoutEnd(t, a, b) })
}

// Dividends just below, at and just above a multiple, of divisors of every length.
func TestDivAboutAMultiple(t *testing.T) {
	r := rand.New(rand.NewSource(610))
	for range 50000 {
		b, q := byChance(r), byChance(r)
		multiple := new(big.Int).Mul(endless(b), endless(q))
		multiple.Rsh(multiple, uint(max(0, multiple.BitLen()-256)))
		for d := int64(-1); d <= 1; d++ {
			divLikeNumbersWithoutEnd(t, beside(cut(multiple), d), b)
		}
	}
}

// P6.1, E2: Rem.

func wantRem(t *testing.T, high, low, m, want api.Wide) {
	t.Helper()
	if r, e := wide.Rem(high, low, m); r != want || e != api.OK {
		t.Errorf("Rem of %v, %v by %v: %v, %d; not %v", high, low, m, r, e, want)
	}
}

func remLikeNumbersWithoutEnd(t *testing.T, high, low, m api.Wide) {
	t.Helper()
	if m == nought {
		return
	}
	v := new(big.Int).Add(new(big.Int).Mul(endless(high), beyond), endless(low))
	wantRem(t, high, low, m, cut(v.Mod(v, endless(m))))
}

func TestRem(t *testing.T) {
	// The upper bits are 0.
	wantRem(t, nought, nought, one, nought)
	wantRem(t, nought, api.Wide{7}, api.Wide{2}, one)
	wantRem(t, nought, most, most, nought)
	wantRem(t, nought, beside(most, -1), most, beside(most, -1))
	wantRem(t, nought, most, power(255), beside(power(255), -1))
	// They are below the divisor.
	wantRem(t, one, api.Wide{5}, most, api.Wide{6})
	wantRem(t, one, nought, api.Wide{3}, one)
	wantRem(t, one, nought, api.Wide{7}, api.Wide{2})
	wantRem(t, beside(most, -1), most, most, beside(most, -1))
	wantRem(t, beside(most, -1), beside(most, -1), most, beside(most, -2))
	// They are the divisor, or above it.
	wantRem(t, most, most, most, nought)
	wantRem(t, most, nought, most, nought)
	wantRem(t, most, one, most, one)
	wantRem(t, most, most, one, nought)
	wantRem(t, most, most, api.Wide{2}, one)
	wantRem(t, most, most, api.Wide{10}, api.Wide{5})
	wantRem(t, most, most, api.Wide{7}, api.Wide{3})
	wantRem(t, most, most, power(255), beside(power(255), -1))
	wantRem(t, most, most, beside(power(255), 1), api.Wide{3})
	wantRem(t, most, most, power(64), api.Wide{full})
	wantRem(t, api.Wide{6}, nought, api.Wide{5}, one)
}

func TestRemByNought(t *testing.T) {
	singles(611, func(a api.Wide) {
		for _, low := range []api.Wide{nought, one, most} {
			if r, e := wide.Rem(a, low, nought); r != nought || e != api.ErrArg {
				t.Errorf("Rem of %v, %v by 0: %v, %d", a, low, r, e)
			}
		}
	})
}

func TestRemAboutTheDivisor(t *testing.T) {
	pairs(612, func(m, low api.Wide) {
		for d := int64(-1); d <= 1; d++ {
			remLikeNumbersWithoutEnd(t, beside(m, d), low, m)
		}
		remLikeNumbersWithoutEnd(t, nought, low, m)
		remLikeNumbersWithoutEnd(t, low, m, m)
		remLikeNumbersWithoutEnd(t, most, low, m)
	})
}

func TestRemLikeNumbersWithoutEnd(t *testing.T) {
	for _, high := range edges() {
		for _, low := range edges() {
			for _, m := range edges() {
				remLikeNumbersWithoutEnd(t, high, low, m)
			}
		}
	}
	r := rand.New(rand.NewSource(613))
	for range 100000 {
		remLikeNumbersWithoutEnd(t, byChance(r), byChance(r), byChance(r))
	}
}

// By the numbers that the layers above divide by: those of the curve.
func TestRemByGreatPrimes(t *testing.T) {
	prime := api.Wide{0xfffffffefffffc2f, full, full, full}
	order := api.Wide{0xbfd25e8cd0364141, 0xbaaedce6af48a03b, 0xfffffffffffffffe, full}
	pairs(614, func(high, low api.Wide) {
		remLikeNumbersWithoutEnd(t, high, low, prime)
		remLikeNumbersWithoutEnd(t, high, low, order)
	})
}

// A quotient's words are guessed by the highest words alone: here the guesses are too great by one and by two, and at their greatest.
func TestWhereGuessesAreWrong(t *testing.T) {
	half := uint64(1) << 63
	words := []uint64{0, 1, half - 1, half, half + 1, full - 1, full}
	for _, m := range []api.Wide{
		{0, 0, 0, half}, {full, full, full, half}, {0, 0, full, half}, {0, 0, half, half},
		{full, 0, 0, half + 1}, {0, full, full, half}, {1, 0, 0, full}, {full, full, full, full - 1},
		{0, 0, full, half >> 1}, {full, full, full, 1}, {0, full, half}, {full, full, half}, {full, half}, {half},
	} {
		for _, x := range words {
			for _, y := range words {
				for _, z := range words {
					for _, high := range []api.Wide{nought, {0, 0, x, m[3]}, {0, y, x, m[3]}, {z, y, m[2], m[3]}, beside(m, -1), beside(m, -2)} {
						remLikeNumbersWithoutEnd(t, high, api.Wide{z, z, y, x}, m)
						remLikeNumbersWithoutEnd(t, high, api.Wide{x, y, z, m[3]}, m)
						divLikeNumbersWithoutEnd(t, api.Wide{x, y, z, m[3]}, m)
						divLikeNumbersWithoutEnd(t, high, m)
					}
				}
			}
		}
	}
}

func FuzzDivRem(f *testing.F) {
	f.Add(uint64(1), uint64(2), uint64(3), uint64(4), uint64(5), uint64(6), uint64(7), uint64(8), uint64(9), uint64(10), uint64(11), uint64(12))
	f.Fuzz(func(t *testing.T, a, b, c, d, e, g, h, i, j, k, l, m uint64) {
		high, low, by := api.Wide{a, b, c, d}, api.Wide{e, g, h, i}, api.Wide{j, k, l, m}
		remLikeNumbersWithoutEnd(t, high, low, by)
		divLikeNumbersWithoutEnd(t, low, by)
		mulLikeNumbersWithoutEnd(t, high, by)
		sumLikeNumbersWithoutEnd(t, high, by)
	})
}

// P6.1, E2: Shl, Shr.

// steps: how far is shifted, the edges with their neighbours and both ends.
func steps() []int {
	l := []int{math.MinInt, math.MinInt + 1, math.MinInt32, -257, -256, -64, -3, -2, -1}
	for n := range 261 {
		l = append(l, n)
	}
	return append(l, 319, 320, 511, 512, 513, 1<<16, 1<<31-1, 1<<31, 1<<32, 1<<32+1, 1<<38, 1<<38+64, math.MaxInt-63, math.MaxInt-1, math.MaxInt)
}

func wantShifts(t *testing.T, a api.Wide, n int, up, down api.Wide) {
	t.Helper()
	if x := wide.Shl(a, n); x != up {
		t.Errorf("Shl of %v by %d: %v, not %v", a, n, x, up)
	}
	if x := wide.Shr(a, n); x != down {
		t.Errorf("Shr of %v by %d: %v, not %v", a, n, x, down)
	}
}

func TestShifts(t *testing.T) {
	a := api.Wide{0x8000000000000001, 0xa000000000000005, 0xc000000000000003, 0xe000000000000007}
	wantShifts(t, a, 0, a, a)
	wantShifts(t, a, -1, a, a)
	wantShifts(t, a, -64, a, a)
	wantShifts(t, a, math.MinInt, a, a)
	wantShifts(t, a, 1,
		api.Wide{2, 0x400000000000000b, 0x8000000000000007, 0xc00000000000000f},
		api.Wide{0xc000000000000000, 0xd000000000000002, 0xe000000000000001, 0x7000000000000003})
	wantShifts(t, a, 63,
		api.Wide{1 << 63, 0xc000000000000000, 0xd000000000000002, 0xe000000000000001},
		api.Wide{0x400000000000000b, 0x8000000000000007, 0xc00000000000000f, 1})
	wantShifts(t, a, 64, api.Wide{0, a[0], a[1], a[2]}, api.Wide{a[1], a[2], a[3]})
	wantShifts(t, a, 65,
		api.Wide{0, 2, 0x400000000000000b, 0x8000000000000007},
		api.Wide{0xd000000000000002, 0xe000000000000001, 0x7000000000000003})
	wantShifts(t, a, 128, api.Wide{0, 0, a[0], a[1]}, api.Wide{a[2], a[3]})
	wantShifts(t, a, 192, api.Wide{0, 0, 0, a[0]}, api.Wide{a[3]})
	wantShifts(t, a, 255, power(255), one)
	for _, n := range []int{256, 257, 319, 320, 512, 1 << 32, 1 << 38, math.MaxInt} {
		wantShifts(t, a, n, nought, nought)
		wantShifts(t, most, n, nought, nought)
	}
}

func TestShiftsLikeNumbersWithoutEnd(t *testing.T) {
	r := rand.New(rand.NewSource(615))
	l := slices.Concat(edges(), wholeWords(0, 1<<63, full))
	for range 300 {
		l = append(l, byChance(r))
	}
	for _, a := range l {
		for _, n := range steps() {
			by := uint(min(max(n, 0), 256))
			wantShifts(t, a, n, cut(new(big.Int).Lsh(endless(a), by)), cut(new(big.Int).Rsh(endless(a), by)))
		}
	}
}

// P6.1, E3: Bytes, Read.

func TestBytes(t *testing.T) {
	b := wide.Bytes(api.Wide{0x18191a1b1c1d1e1f, 0x1011121314151617, 0x08090a0b0c0d0e0f, 0x0001020304050607})
	for i := range b {
		if b[i] != byte(i) {
			t.Errorf("byte %d is %d", i, b[i])
		}
	}
	if a := wide.Read(b); a != (api.Wide{0x18191a1b1c1d1e1f, 0x1011121314151617, 0x08090a0b0c0d0e0f, 0x0001020304050607}) {
		t.Errorf("Read: %v", a)
	}
	if b := wide.Bytes(one); b != [32]byte{31: 1} {
		t.Errorf("Bytes of 1: %v", b)
	}
	if b := wide.Bytes(power(255)); b != [32]byte{0: 128} {
		t.Errorf("Bytes of 2^255: %v", b)
	}
	if wide.Bytes(nought) != [32]byte{} || wide.Read([32]byte{}) != nought {
		t.Error("bytes of 0")
	}
	var filled [32]byte
	for i := range filled {
		filled[i] = 255
	}
	if wide.Bytes(most) != filled || wide.Read(filled) != most {
		t.Error("bytes of 2^256 - 1")
	}
}

// Every value of each byte, alone, at its place.
func TestEachByte(t *testing.T) {
	for place := range 32 {
		for x := range 256 {
			var b [32]byte
			b[place] = byte(x)
			a := cut(new(big.Int).Lsh(big.NewInt(int64(x)), uint(8*(31-place))))
			if got := wide.Read(b); got != a {
				t.Errorf("Read of %v: %v, not %v", b, got, a)
			}
			if got := wide.Bytes(a); got != b {
				t.Errorf("Bytes of %v: %v, not %v", a, got, b)
			}
		}
	}
}

func TestBytesLikeNumbersWithoutEnd(t *testing.T) {
	singles(616, func(a api.Wide) {
		var b [32]byte
		endless(a).FillBytes(b[:])
		if got := wide.Bytes(a); got != b {
			t.Errorf("Bytes of %v: %v", a, got)
		}
		if got := wide.Read(b); got != a {
			t.Errorf("Read of %v: %v", b, got)
		}
	})
}

// P6.1, E3: Print, Parse.

func wantPrint(t *testing.T, a api.Wide, want string) {
	t.Helper()
	if s := wide.Print(a); s != want {
		t.Errorf("Print of %v: %q, not %q", a, s, want)
	}
}

func wantParse(t *testing.T, s string, want api.Wide) {
	t.Helper()
	if a, e := wide.Parse(s); a != want || e != api.OK {
		t.Errorf("Parse of %.100q: %v, %d; not %v", s, a, e, want)
	}
}

func wrongParse(t *testing.T, s string, want api.Errno) {
	t.Helper()
	if a, e := wide.Parse(s); a != nought || e != want {
		t.Errorf("Parse of %.100q (%d bytes): %v, %d; not 0 and %d", s, len(s), a, e, want)
	}
}

func TestPrint(t *testing.T) {
	wantPrint(t, nought, "0")
	wantPrint(t, one, "1")
	wantPrint(t, api.Wide{9}, "9")
	wantPrint(t, api.Wide{10}, "10")
	wantPrint(t, api.Wide{full}, "18446744073709551615")
	wantPrint(t, power(64), "18446744073709551616")
	wantPrint(t, power(128), "340282366920938463463374607431768211456")
	wantPrint(t, power(192), "6277101735386680763835789423207666416102355444464034512896")
	wantPrint(t, most, mostWritten)
	wantPrint(t, beside(most, -1), mostWritten[:77]+"4")
}

// ten: 10^n.
func ten(n int) *big.Int {
	return new(big.Int).Exp(big.NewInt(10), big.NewInt(int64(n)), nil)
}

// Powers of ten, one less, one more, and twice as much: with noughts inside, and nines.
func TestFiguresAboutPowersOfTen(t *testing.T) {
	for n := range 78 {
		wantPrint(t, cut(ten(n)), "1"+strings.Repeat("0", n))
		wantParse(t, "1"+strings.Repeat("0", n), cut(ten(n)))
		less := new(big.Int).Sub(ten(n), big.NewInt(1))
		if n > 0 {
			wantPrint(t, cut(less), strings.Repeat("9", n))
			wantParse(t, strings.Repeat("9", n), cut(less))
			wantPrint(t, beside(cut(ten(n)), 1), "1"+strings.Repeat("0", n-1)+"1")
			wantParse(t, "1"+strings.Repeat("0", n-1)+"1", beside(cut(ten(n)), 1))
		}
		for m := range n {
			sum := new(big.Int).Add(ten(n), ten(m))
			wantPrint(t, cut(sum), sum.String())
			wantParse(t, sum.String(), cut(sum))
		}
	}
}

func TestFiguresLikeNumbersWithoutEnd(t *testing.T) {
	singles(617, func(a api.Wide) {
		wantPrint(t, a, endless(a).String())
		wantParse(t, endless(a).String(), a)
	})
}

func TestParse(t *testing.T) {
	wantParse(t, "0", nought)
	wantParse(t, "1", one)
	for n := range 2000 {
		wantParse(t, fmt.Sprint(n), api.Wide{uint64(n)})
	}
	wantParse(t, "18446744073709551615", api.Wide{full})
	wantParse(t, "18446744073709551616", power(64))
	wantParse(t, "340282366920938463463374607431768211455", api.Wide{full, full})
	wantParse(t, "340282366920938463463374607431768211456", power(128))
	wantParse(t, mostWritten, most)
	wantParse(t, mostWritten[:77]+"4", beside(most, -1))
}

func TestParseOfWhatIsNotSoWritten(t *testing.T) {
	for _, s := range []string{
		"", "00", "000", "01", "007", "0" + mostWritten, "0" + beyondWritten, strings.Repeat("0", 77), strings.Repeat("0", 78), strings.Repeat("0", 300),
		"+", "-", "+0", "-0", "+1", "-1", "1+", "1-", "1+1", "--1",
		" ", " 1", "1 ", "1 0", "\t1", "1\n", "\x00", "1\x00", "\x001", "1_000", "1,000", "1.0", "1.", ".1", "1e3",
		"a", "a1", "1a", "1a1", "f", "0x1", "x", "O", "l", "/", ":", "0/", "0:", "/0", ":0", "1/", "1:",
		"\u0660", "\u0661", "\uff11", "1\uff11", "\u00b2", "\u0967", "\ufeff1", "\xff", "1\xff", "\xb1", "1\xb1", "\u2212" + "1",
	} {
		wrongParse(t, s, api.ErrForm)
	}
	for x := range 256 {
		if x < '0' || x > '9' {
			wrongParse(t, string([]byte{byte(x)}), api.ErrForm)
			wrongParse(t, string([]byte{'1', byte(x)}), api.ErrForm)
			wrongParse(t, string([]byte{byte(x), '1'}), api.ErrForm)
			wrongParse(t, string([]byte{'1', byte(x), '1'}), api.ErrForm)
		}
	}
}

func TestParseOfWhatIsTooLarge(t *testing.T) {
	wrongParse(t, beyondWritten, api.ErrLarge)
	wrongParse(t, mostWritten[:77]+"9", api.ErrLarge)
	wrongParse(t, mostWritten+"0", api.ErrLarge)
	wrongParse(t, mostWritten+mostWritten, api.ErrLarge)
	wrongParse(t, "2"+mostWritten[1:], api.ErrLarge)
	wrongParse(t, strings.Repeat("9", 78), api.ErrLarge)
	for n := 78; n < 400; n++ {
		wrongParse(t, "1"+strings.Repeat("0", n), api.ErrLarge)
		wrongParse(t, strings.Repeat("1", n+1), api.ErrLarge)
		wrongParse(t, strings.Repeat("9", n+1), api.ErrLarge)
	}
	// Numbers that leave a small one in 256 bits, and in 320, 512 and more.
	for _, n := range []uint{256, 257, 258, 300, 319, 320, 321, 384, 511, 512, 513, 1024, 4096} {
		for d := int64(0); d < 20; d++ {
			v := new(big.Int).Lsh(big.NewInt(1), n)
			wrongParse(t, v.Add(v, big.NewInt(d)).String(), api.ErrLarge)
		}
	}
	wrongParse(t, strings.Repeat("1234567890", 200000), api.ErrLarge)
}

// Each number just beyond the greatest, and multiples of 2^256 with what is above them.
func TestParseAboutTheGreatest(t *testing.T) {
	for d := int64(-300); d <= 300; d++ {
		v := new(big.Int).Add(beyond, big.NewInt(d))
		if d < 0 {
			wantParse(t, v.String(), cut(v))
		} else {
			wrongParse(t, v.String(), api.ErrLarge)
		}
		wrongParse(t, new(big.Int).Add(new(big.Int).Mul(beyond, big.NewInt(9)), big.NewInt(d)).String(), api.ErrLarge)
	}
}

// ErrForm is named ahead of ErrLarge: what is wrong at the end of a text that is long too large counts.
func TestParseOfWhatIsWrongAndTooLarge(t *testing.T) {
	for _, s := range []string{beyondWritten, mostWritten + "0", strings.Repeat("9", 100), strings.Repeat("7", 5000), strings.Repeat("1234567890", 200000)} {
		for _, wrong := range []string{"a", " ", "+", "-", ".", "/", ":", "\x00", "\xff", "\u0661"} {
			wrongParse(t, s+wrong, api.ErrForm)
			wrongParse(t, wrong+s, api.ErrForm)
			wrongParse(t, s[:len(s)/2]+wrong+s[len(s)/2:], api.ErrForm)
		}
		wrongParse(t, "0"+s, api.ErrForm)
		wrongParse(t, "00"+s, api.ErrForm)
	}
}

var figures = regexp.MustCompile(`\A(0|[1-9][0-9]*)\z`)

func parseLikeAPattern(t *testing.T, s string) {
	t.Helper()
	if !figures.MatchString(s) {
		wrongParse(t, s, api.ErrForm)
		return
	}
	v, _ := new(big.Int).SetString(s, 10)
	if v.Cmp(beyond) >= 0 {
		wrongParse(t, s, api.ErrLarge)
		return
	}
	wantParse(t, s, cut(v))
	wantPrint(t, cut(v), s)
}

func TestParseLikeAPattern(t *testing.T) {
	signs := "0123456789"
	strange := signs + "00 +-ax.\n"
	var all func(s string, left int)
	all = func(s string, left int) {
		parseLikeAPattern(t, s)
		for i := 0; left > 0 && i < len(strange); i++ {
			all(s+strange[i:i+1], left-1)
		}
	}
	all("", 3)
	r := rand.New(rand.NewSource(618))
	for range 50000 {
		b := make([]byte, r.Intn(85))
		for i := range b {
			b[i] = signs[r.Intn(len(signs))]
		}
		if len(b) > 0 && r.Intn(4) == 0 {
			b[r.Intn(len(b))] = strange[r.Intn(len(strange))]
		}
		parseLikeAPattern(t, string(b))
	}
}

func FuzzParse(f *testing.F) {
	for _, s := range []string{"", "0", "00", "01", "1", mostWritten, beyondWritten, beyondWritten + "a"} {
		f.Add(s)
	}
	f.Fuzz(parseLikeAPattern)
}

// P6.2: undone.

func TestWhatIsAddedIsTakenAway(t *testing.T) {
	pairs(621, func(a, b api.Wide) {
		sum, carry := wide.Add(a, b)
		back, borrow := wide.Sub(sum, b)
		if back != a || borrow != carry {
			t.Errorf("%v and %v, and %v taken away: %v, %d; carried: %d", a, b, b, back, borrow, carry)
		}
		rest, borrow := wide.Sub(a, b)
		back, carry = wide.Add(rest, b)
		if back != a || carry != borrow {
			t.Errorf("%v without %v, and %v added: %v, %d; borrowed: %d", a, b, b, back, carry, borrow)
		}
		other, carried := wide.Add(b, a)
		if sum2, carry2 := wide.Add(a, b); other != sum2 || carried != carry2 {
			t.Errorf("%v and %v hang on the order", a, b)
		}
	})
}

func TestAProductDividedIsWhatItWas(t *testing.T) {
	whole := 0
	pairs(622, func(a, b api.Wide) {
		low, high := wide.Mul(a, b)
		if l, h := wide.Mul(b, a); l != low || h != high {
			t.Errorf("%v times %v hangs on the order", a, b)
		}
		if b == nought {
			return
		}
		if r, e := wide.Rem(high, low, b); r != nought || e != api.OK {
			t.Errorf("of %v times %v, divided by the last, %v is left, %d", a, b, r, e)
		}
		if high != nought {
			return
		}
		whole++
		if q, r, e := wide.Div(low, b); q != a || r != nought || e != api.OK {
			t.Errorf("%v times %v, divided again: %v, %v, %d", a, b, q, r, e)
		}
	})
	if whole < 10000 {
		t.Errorf("only %d products were divided", whole)
	}
}

func TestQuotientTimesDivisorAndWhatIsLeft(t *testing.T) {
	pairs(623, func(a, b api.Wide) {
		if b == nought {
			return
		}
		q, r, e := wide.Div(a, b)
		if e != api.OK || wide.Cmp(r, b) >= 0 {
			t.Errorf("Div of %v by %v leaves %v, %d", a, b, r, e)
		}
		low, high := wide.Mul(q, b)
		sum, carry := wide.Add(low, r)
		if sum != a || carry != 0 || high != nought {
			t.Errorf("Div of %v by %v: %v, %v; back: %v, %d, %v", a, b, q, r, sum, carry, high)
		}
		if left, e := wide.Rem(nought, a, b); left != r || e != api.OK {
			t.Errorf("Rem of %v by %v: %v, %d; Div leaves %v", a, b, left, e, r)
		}
	})
}

// A product and what is below the divisor: that is left of 512 bits.
func TestWhatIsLeftOfAProductAndMore(t *testing.T) {
	r := rand.New(rand.NewSource(624))
	pairs(625, func(a, m api.Wide) {
		if m == nought {
			return
		}
		_, left, _ := wide.Div(byChance(r), m)
		low, high := wide.Mul(a, m)
		low, carry := wide.Add(low, left)
		high, _ = wide.Add(high, wide.From(carry))
		wantRem(t, high, low, m, left)
	})
}

func TestShiftsAreUndone(t *testing.T) {
	singles(626, func(a api.Wide) {
		for n := 0; n <= 256-wide.Len(a); n += 5 {
			if back := wide.Shr(wide.Shl(a, n), n); back != a {
				t.Errorf("%v shifted by %d and back: %v", a, n, back)
			}
		}
	})
}

// P6.3: there and back.

func thereAndBack(t *testing.T, a api.Wide) {
	t.Helper()
	if back := wide.Read(wide.Bytes(a)); back != a {
		t.Errorf("%v has become %v by its bytes", a, back)
	}
	wantParse(t, wide.Print(a), a)
}

func TestThereAndBack(t *testing.T) {
	singles(631, func(a api.Wide) { thereAndBack(t, a) })
	for n := range uint64(20000) {
		thereAndBack(t, api.Wide{n})
		thereAndBack(t, api.Wide{n, n, n, n})
	}
}

func TestBackAndThere(t *testing.T) {
	r := rand.New(rand.NewSource(632))
	for range 50000 {
		var b [32]byte
		for i := range b {
			b[i] = byte(r.Intn(256))
		}
		if back := wide.Bytes(wide.Read(b)); back != b {
			t.Errorf("%v has become %v", b, back)
		}
		figures := make([]byte, 1+r.Intn(77))
		for i := range figures {
			figures[i] = '0' + byte(r.Intn(10))
		}
		figures[0] = '1' + byte(r.Intn(9))
		a, e := wide.Parse(string(figures))
		if s := wide.Print(a); s != string(figures) || e != api.OK {
			t.Errorf("%s has become %s, %d", figures, s, e)
		}
	}
}

// R4: what is handed in is not changed.
func TestNothingIsChanged(t *testing.T) {
	pairs(641, func(a, b api.Wide) {
		x, y, bytes := a, b, wide.Bytes(a)
		wide.Cmp(x, y)
		wide.Len(x)
		wide.Add(x, y)
		wide.Sub(x, y)
		wide.Mul(x, y)
		wide.Div(x, y)
		wide.Rem(x, y, x)
		wide.Shl(x, 70)
		wide.Shr(x, 70)
		wide.Bytes(x)
		wide.Read(bytes)
		wide.Print(y)
		if x != a || y != b || bytes != wide.Bytes(a) {
			t.Errorf("%v and %v have become %v and %v", a, b, x, y)
		}
	})
	room := []byte(mostWritten + "a")
	wide.Parse(string(room[:78]))
	if string(room) != mostWritten+"a" {
		t.Errorf("a text has become %s", room)
	}
}

// R5: a call ahead is nothing to the next one.
func TestCallsHangOnTheirArgumentsAlone(t *testing.T) {
	for range 3 {
		wrongParse(t, beyondWritten, api.ErrLarge)
		wantParse(t, mostWritten, most)
		wrongParse(t, "1a", api.ErrForm)
		wantParse(t, "12", api.Wide{12})
		TestDivByNought(t)
		wantDiv(t, api.Wide{7}, api.Wide{2}, api.Wide{3}, one)
		wantRem(t, one, api.Wide{5}, most, api.Wide{6})
		wantPrint(t, most, mostWritten)
		wantPrint(t, nought, "0")
	}
}
