package field_test

import (
	"encoding/hex"
	"math"
	"math/big"
	"math/rand"
	"slices"
	"testing"

	"entail/api"
	"entail/field"
)

const full = math.MaxUint64

// gap is 2^256 less the prime.
const gap = 1<<32 + 977

var (
	one    = api.Wide{1}
	most   = api.Wide{full, full, full, full}
	beyond = new(big.Int).Lsh(big.NewInt(1), 256)
	prime  = new(big.Int).Sub(beyond, big.NewInt(gap))
)

// endless: a wide number as one without end.
func endless(a api.Wide) *big.Int {
	v := new(big.Int)
	for i := 3; i >= 0; i-- {
		v.Lsh(v, 64).Or(v, new(big.Int).SetUint64(a[i]))
	}
	return v
}

// cut: the lowest 256 bits of a number without end.
func cut(v *big.Int) api.Wide {
	var a api.Wide
	v = new(big.Int).Mod(v, beyond)
	for i := range a {
		a[i] = new(big.Int).Rsh(v, uint(64*i)).Uint64()
	}
	return a
}

// left: what is left of a number without end, divided by the prime.
func left(v *big.Int) api.Wide { return cut(new(big.Int).Mod(v, prime)) }

// aboutPrime: the prime, and so much.
func aboutPrime(d int64) api.Wide { return cut(new(big.Int).Add(prime, big.NewInt(d))) }

// digits: a number that is written in hexadecimal digits.
func digits(t *testing.T, s string) api.Wide {
	t.Helper()
	b, err := hex.DecodeString(s)
	if err != nil || len(b) != 32 {
		t.Fatalf("%q is not 32 bytes", s)
	}
	return cut(new(big.Int).SetBytes(b))
}

// edges: small numbers, those about the gap, powers of two with their neighbours, the halves and thirds of the prime, those about it, and the last ones.
func edges() []api.Wide {
	l := []api.Wide{{}, one, {2}, {3}, {4}, {5}, {7}, {9}, {gap - 2}, {gap - 1}, {gap}, {gap + 1}, {2 * gap}, {2*gap - 1}}
	for _, n := range []uint{32, 33, 63, 64, 65, 127, 128, 129, 191, 192, 193, 223, 224, 254, 255} {
		for d := int64(-1); d <= 1; d++ {
			v := new(big.Int).Lsh(big.NewInt(1), n)
			l = append(l, cut(v.Add(v, big.NewInt(d))))
		}
	}
	for _, n := range []int64{2, 3, 4} {
		v := new(big.Int).Div(prime, big.NewInt(n))
		l = append(l, cut(v), cut(v.Add(v, big.NewInt(1))))
	}
	for d := int64(-5); d <= 9; d++ {
		l = append(l, aboutPrime(d))
	}
	for d := int64(-2); d <= 2; d++ {
		l = append(l, aboutPrime(gap/2+d))
	}
	for d := int64(-3); d <= -1; d++ {
		l = append(l, cut(big.NewInt(d)))
	}
	return l
}

// byChance: a number, some of whose words are empty, full or nearly so.
func byChance(r *rand.Rand) api.Wide {
	some := []uint64{0, 0, 1, 2, gap - 1, gap, 1 << 63, full - 1, full, full, full - gap, full - gap + 1, full - gap + 2}
	var a api.Wide
	for i := range a {
		a[i] = r.Uint64()
		if r.Intn(2) == 0 {
			a[i] = some[r.Intn(len(some))]
		}
	}
	return a
}

// partner: a number whose product with a leaves so much. Where that is small, the product lies just at a number of times the prime, or just above it.
func partner(a api.Wide, rest uint64) api.Wide {
	inverse := new(big.Int).ModInverse(endless(a), prime)
	if inverse == nil {
		return api.Wide{rest}
	}
	return left(inverse.Mul(inverse, new(big.Int).SetUint64(rest)))
}

// pairs: calls f with all pairs of edges, with pairs whose sum, difference or product leaves little or nearly the prime, and with many by chance.
func pairs(seed int64, f func(a, b api.Wide)) {
	for _, a := range edges() {
		for _, b := range edges() {
			f(a, b)
		}
	}
	r := rand.New(rand.NewSource(seed))
	little := []uint64{0, 1, 2, gap - 1, gap, gap + 1, 2 * gap, 1 << 40, 1 << 60, full}
	for range 300 {
		a := byChance(r)
		for _, n := range little {
			rest := new(big.Int).SetUint64(n)
			f(a, partner(a, n))
			f(a, left(new(big.Int).Neg(endless(partner(a, n)))))
			f(a, left(new(big.Int).Sub(rest, endless(a))))
			f(a, left(new(big.Int).Add(endless(a), rest)))
			f(a, cut(new(big.Int).Sub(endless(a), rest)))
		}
	}
	for range 20000 {
		f(byChance(r), byChance(r))
	}
}

// singles: calls f with all edges and with so many by chance.
func singles(seed int64, count int, f func(a api.Wide)) {
	for _, a := range edges() {
		f(a)
	}
	r := rand.New(rand.NewSource(seed))
	for range count {
		f(byChance(r))
	}
}

// P12.1, Q1: Prime and Reduce.

func TestPrime(t *testing.T) {
	want := digits(t, "fffffffffffffffffffffffffffffffffffffffffffffffffffffffefffffc2f")
	if p := field.Prime(); p != want || p != cut(prime) {
		t.Errorf("the prime: %x", p)
	}
	if !prime.ProbablyPrime(20) {
		t.Error("the prime is none")
	}
}

func TestReduce(t *testing.T) {
	singles(121, 50000, func(a api.Wide) {
		if got, want := field.Reduce(a), left(endless(a)); got != want {
			t.Errorf("of %x is left %x, not %x", a, got, want)
		}
	})
	for d := int64(0); d < 3; d++ {
		if got := field.Reduce(aboutPrime(d)); got != (api.Wide{uint64(d)}) {
			t.Errorf("of the prime and %d is left %x", d, got)
		}
		if a := aboutPrime(-1 - d); field.Reduce(a) != a {
			t.Errorf("below the prime, %x has become %x", a, field.Reduce(a))
		}
	}
	if got := field.Reduce(most); got != (api.Wide{gap - 1}) {
		t.Errorf("of 2^256 - 1 is left %x", got)
	}
}

// P12.1, Q1: sums, differences, negatives and products, of numbers below the prime and beyond it.

func TestAdd(t *testing.T) {
	pairs(122, func(a, b api.Wide) {
		if got, want := field.Add(a, b), left(new(big.Int).Add(endless(a), endless(b))); got != want {
			t.Errorf("%x and %x: %x, not %x", a, b, got, want)
		}
	})
	if got := field.Add(aboutPrime(-1), api.Wide{2}); got != one {
		t.Errorf("the prime less 1, and 2: %x", got)
	}
	if got := field.Add(most, most); got != (api.Wide{2*gap - 2}) {
		t.Errorf("2^256 - 1 twice: %x", got)
	}
}

func TestSub(t *testing.T) {
	pairs(123, func(a, b api.Wide) {
		if got, want := field.Sub(a, b), left(new(big.Int).Sub(endless(a), endless(b))); got != want {
			t.Errorf("%x less %x: %x, not %x", a, b, got, want)
		}
	})
	if got := field.Sub(api.Wide{}, most); got != aboutPrime(1-gap) {
		t.Errorf("0 less 2^256 - 1: %x", got)
	}
}

func TestNeg(t *testing.T) {
	singles(124, 50000, func(a api.Wide) {
		if got, want := field.Neg(a), left(new(big.Int).Neg(endless(a))); got != want {
			t.Errorf("0 less %x: %x, not %x", a, got, want)
		}
	})
	for _, a := range []api.Wide{{}, field.Prime()} {
		if got := field.Neg(a); got != (api.Wide{}) {
			t.Errorf("0 less %x: %x", a, got)
		}
	}
}

func TestMul(t *testing.T) {
	pairs(125, func(a, b api.Wide) {
		if got, want := field.Mul(a, b), left(new(big.Int).Mul(endless(a), endless(b))); got != want {
			t.Errorf("%x times %x: %x, not %x", a, b, got, want)
		}
	})
	if got := field.Mul(most, most); got != left(big.NewInt(0).Exp(big.NewInt(gap-1), big.NewInt(2), nil)) {
		t.Errorf("2^256 - 1 times itself: %x", got)
	}
}

// A product that is known from elsewhere: of the base of the curve, whose Y times itself is X times X times X and 7.
func TestBaseOfTheCurve(t *testing.T) {
	x := digits(t, "79be667ef9dcbbac55a06295ce870b07029bfcdb2dce28d959f2815b16f81798")
	y := digits(t, "483ada7726a3c4655da4fbfc0e1108a8fd17b448a68554199c47d08ffb10d4b8")
	square := field.Add(field.Pow(x, api.Wide{3}), api.Wide{7})
	if field.Mul(y, y) != square {
		t.Errorf("the base: %x", square)
	}
	if root, ok := field.Root(square); root != y || !ok {
		t.Errorf("the base's even Y: %x, %t", root, ok)
	}
	// Three times itself, this one is 1.
	third := digits(t, "7ae96a2b657c07106e64479eac3434e99cf0497512f58995c1396c28719501ee")
	if got := field.Pow(third, api.Wide{3}); got != one {
		t.Errorf("the third root of 1: %x", got)
	}
}

// P12.1, Q1: Pow.

// wantPow: a, n times multiplied.
func wantPow(t *testing.T, a, n, want api.Wide) {
	t.Helper()
	if got := field.Pow(a, n); got != want {
		t.Errorf("%x, %x times: %x, not %x", a, n, got, want)
	}
}

func TestPow(t *testing.T) {
	wantPow(t, api.Wide{2}, api.Wide{256}, api.Wide{gap})
	wantPow(t, api.Wide{2}, api.Wide{10}, api.Wide{1024})
	wantPow(t, api.Wide{3}, api.Wide{5}, api.Wide{243})
	singles(126, 400, func(a api.Wide) {
		wantPow(t, a, api.Wide{}, one)
		wantPow(t, a, one, field.Reduce(a))
		wantPow(t, a, api.Wide{2}, field.Mul(a, a))
		wantPow(t, a, api.Wide{3}, field.Mul(a, field.Mul(a, a)))
		for _, n := range []api.Wide{{0, 1}, {0, 0, 1}, {0, 0, 0, 1}, {0, 0, 0, 1 << 63}, most, field.Prime(), a} {
			wantPow(t, a, n, left(new(big.Int).Exp(endless(a), endless(n), prime)))
		}
	})
	r := rand.New(rand.NewSource(127))
	for range 1000 {
		a, n := byChance(r), byChance(r)
		wantPow(t, a, n, left(new(big.Int).Exp(endless(a), endless(n), prime)))
	}
}

// 0 times multiplied, 0 and the prime too are 1; more often, they are 0.
func TestPowOfNought(t *testing.T) {
	for _, a := range []api.Wide{{}, field.Prime()} {
		wantPow(t, a, api.Wide{}, one)
		for _, n := range []api.Wide{one, {2}, {0, 0, 0, 1}, aboutPrime(-1), field.Prime(), most} {
			wantPow(t, a, n, api.Wide{})
		}
	}
}

// How often it is multiplied is not reduced: the prime times is not 0 times, and 1 more not once.
func TestPowIsNotReduced(t *testing.T) {
	for _, a := range []api.Wide{{2}, {5}, aboutPrime(-1), aboutPrime(3), most} {
		wantPow(t, a, aboutPrime(-1), one)
		wantPow(t, a, field.Prime(), field.Reduce(a))
		wantPow(t, a, aboutPrime(1), field.Mul(a, a))
		wantPow(t, a, aboutPrime(2), field.Mul(a, field.Mul(a, a)))
	}
}

// P12.1, Q1, and P12.2: Inv.

func TestInv(t *testing.T) {
	singles(128, 2000, func(a api.Wide) {
		got := field.Inv(a)
		inverse := new(big.Int).ModInverse(endless(a), prime)
		if inverse == nil {
			if got != (api.Wide{}) {
				t.Errorf("the inverse of %x: %x", a, got)
			}
			return
		}
		if got != cut(inverse) || field.Mul(got, a) != one || field.Inv(got) != field.Reduce(a) {
			t.Errorf("the inverse of %x: %x", a, got)
		}
	})
	for _, a := range []api.Wide{{}, field.Prime()} {
		if got := field.Inv(a); got != (api.Wide{}) {
			t.Errorf("the inverse of %x: %x", a, got)
		}
	}
	for _, a := range []api.Wide{one, aboutPrime(-1)} {
		if got := field.Inv(a); got != a {
			t.Errorf("%x is its own inverse, not %x", a, got)
		}
	}
}

// P12.1, Q1, and P12.3: Root.

// noRoot: there is none.
func noRoot(t *testing.T, a api.Wide) {
	t.Helper()
	if got, ok := field.Root(a); got != (api.Wide{}) || ok {
		t.Errorf("the root of %x: %x, %t", a, got, ok)
	}
}

// wantRoot: that root.
func wantRoot(t *testing.T, a, want api.Wide) {
	t.Helper()
	if got, ok := field.Root(a); got != want || !ok {
		t.Errorf("the root of %x: %x, %t, not %x", a, got, ok, want)
	}
}

// evenRoot: the even one of the two roots that another way tells; nil, if there is none.
func evenRoot(a api.Wide) *big.Int {
	v := new(big.Int).Mod(endless(a), prime)
	root := new(big.Int).ModSqrt(v, prime)
	if root != nil && root.Bit(0) == 1 {
		root.Sub(prime, root)
	}
	return root
}

func TestRoot(t *testing.T) {
	with, without := 0, 0
	singles(129, 2000, func(a api.Wide) {
		root := evenRoot(a)
		if root == nil {
			without++
			noRoot(t, a)
			return
		}
		with++
		wantRoot(t, a, cut(root))
	})
	if with < 500 || without < 500 {
		t.Errorf("%d with a root, %d without", with, without)
	}
}

func TestRootOfSmallNumbers(t *testing.T) {
	wantRoot(t, api.Wide{}, api.Wide{})
	wantRoot(t, one, aboutPrime(-1))
	wantRoot(t, api.Wide{4}, api.Wide{2})
	wantRoot(t, api.Wide{9}, aboutPrime(-3))
	wantRoot(t, api.Wide{16}, api.Wide{4})
	for _, n := range []uint64{2, 8, 18} {
		root, ok := field.Root(api.Wide{n})
		if !ok || root[0]%2 != 0 || field.Mul(root, root) != (api.Wide{n}) {
			t.Errorf("the root of %d: %x, %t", n, root, ok)
		}
	}
	for _, n := range []uint64{3, 5, 6, 7} {
		noRoot(t, api.Wide{n})
	}
}

// Beyond the prime, what is left of a number has the root.
func TestRootIsOfWhatIsLeft(t *testing.T) {
	wantRoot(t, field.Prime(), api.Wide{})
	wantRoot(t, aboutPrime(1), aboutPrime(-1))
	wantRoot(t, aboutPrime(4), api.Wide{2})
	noRoot(t, aboutPrime(-1))
	noRoot(t, aboutPrime(-4))
	noRoot(t, aboutPrime(3))
	noRoot(t, aboutPrime(5))
}

func TestSquaresHaveRoots(t *testing.T) {
	singles(130, 2000, func(a api.Wide) {
		root, ok := field.Root(field.Mul(a, a))
		if !ok || root[0]%2 != 0 || root != field.Reduce(a) && root != field.Neg(a) {
			t.Errorf("the root of %x times itself: %x, %t", a, root, ok)
		}
		// Of a number and its negative, one alone has a root, but of 0, as 4 divides the prime and 1.
		if field.Reduce(a) != (api.Wide{}) {
			noRoot(t, field.Neg(field.Mul(a, a)))
		}
	})
}

// P12.2: a field.

// law: are the two the same, and below the prime?
func law(t *testing.T, name string, x, y api.Wide, of ...api.Wide) {
	t.Helper()
	if x != y || field.Reduce(x) != x {
		t.Errorf("%s, of %x: %x and %x", name, of, x, y)
	}
}

func TestField(t *testing.T) {
	third := rand.New(rand.NewSource(131))
	pairs(132, func(a, b api.Wide) {
		c := byChance(third)
		law(t, "sums of two", field.Add(a, b), field.Add(b, a), a, b)
		law(t, "sums of three", field.Add(a, field.Add(b, c)), field.Add(field.Add(a, b), c), a, b, c)
		law(t, "products of two", field.Mul(a, b), field.Mul(b, a), a, b)
		law(t, "products of three", field.Mul(a, field.Mul(b, c)), field.Mul(field.Mul(a, b), c), a, b, c)
		law(t, "a product with a sum", field.Mul(a, field.Add(b, c)), field.Add(field.Mul(a, b), field.Mul(a, c)), a, b, c)
		law(t, "added and taken away", field.Sub(field.Add(a, b), b), field.Reduce(a), a, b)
		law(t, "taken away and added", field.Add(field.Sub(a, b), b), field.Reduce(a), a, b)
		law(t, "a negative", field.Add(a, field.Neg(a)), api.Wide{}, a)
		law(t, "0 added", field.Add(a, api.Wide{}), field.Reduce(a), a)
		law(t, "times 1", field.Mul(a, one), field.Reduce(a), a)
		law(t, "times 0", field.Mul(a, api.Wide{}), api.Wide{}, a)
	})
}

// What an argument counts as is what is left of it: all calls answer the same of both.
func TestArgumentsCountAsWhatIsLeft(t *testing.T) {
	r := rand.New(rand.NewSource(133))
	small := []api.Wide{{}, one, {2}, {4}, {5}, {gap - 2}, {gap - 1}}
	for range 40 {
		small = append(small, api.Wide{r.Uint64() % gap})
	}
	for _, a := range small {
		great := cut(new(big.Int).Add(prime, endless(a)))
		law(t, "Neg", field.Neg(a), field.Neg(great), a)
		law(t, "Inv", field.Inv(a), field.Inv(great), a)
		x, v := field.Root(a)
		y, w := field.Root(great)
		law(t, "Root", x, y, a)
		if v != w {
			t.Errorf("the root of %x: %t and %t", a, v, w)
		}
		for _, b := range edges() {
			law(t, "Add", field.Add(a, b), field.Add(great, b), a, b)
			law(t, "Add", field.Add(b, a), field.Add(b, great), b, a)
			law(t, "Sub", field.Sub(a, b), field.Sub(great, b), a, b)
			law(t, "Sub", field.Sub(b, a), field.Sub(b, great), b, a)
			law(t, "Mul", field.Mul(a, b), field.Mul(great, b), a, b)
			law(t, "Mul", field.Mul(b, a), field.Mul(b, great), b, a)
		}
	}
}

// R5: a call ahead is nothing to the next one; what is answered may be changed by who asked.
func TestCallsHangOnTheirArgumentsAlone(t *testing.T) {
	for range 3 {
		p := field.Prime()
		p[0], p[3] = 5, 5
		wantRoot(t, api.Wide{4}, api.Wide{2})
		noRoot(t, api.Wide{3})
		wantPow(t, api.Wide{2}, api.Wide{256}, api.Wide{gap})
		wantPow(t, api.Wide{}, api.Wide{}, one)
		law(t, "Add", field.Add(aboutPrime(-1), api.Wide{2}), one)
		law(t, "Prime less 1", field.Neg(one), aboutPrime(-1))
		if field.Prime() != cut(prime) {
			t.Errorf("the prime: %x", field.Prime())
		}
	}
}

func FuzzField(f *testing.F) {
	r := rand.New(rand.NewSource(134))
	for range 20 {
		seed := make([]byte, 64)
		r.Read(seed)
		f.Add(seed)
	}
	f.Add(slices.Repeat([]byte{255}, 64))
	f.Fuzz(func(t *testing.T, seed []byte) {
		if len(seed) != 64 {
			return
		}
		a, b := cut(new(big.Int).SetBytes(seed[:32])), cut(new(big.Int).SetBytes(seed[32:]))
		x, y := endless(a), endless(b)
		law(t, "Add", field.Add(a, b), left(new(big.Int).Add(x, y)), a, b)
		law(t, "Sub", field.Sub(a, b), left(new(big.Int).Sub(x, y)), a, b)
		law(t, "Mul", field.Mul(a, b), left(new(big.Int).Mul(x, y)), a, b)
		law(t, "Pow", field.Pow(a, b), left(new(big.Int).Exp(x, y, prime)), a, b)
		if root := evenRoot(a); root == nil {
			noRoot(t, a)
		} else {
			wantRoot(t, a, cut(root))
		}
	})
}
