package scalar_test

import (
	"encoding/hex"
	"math"
	"math/big"
	"math/rand"
	"slices"
	"testing"

	"entail/api"
	"entail/scalar"
)

const full = math.MaxUint64

// orderWritten is the order, halfWritten the half of one more, gapWritten what the order lacks of 2^256.
const (
	orderWritten = "fffffffffffffffffffffffffffffffebaaedce6af48a03bbfd25e8cd0364141"
	halfWritten  = "7fffffffffffffffffffffffffffffff5d576e7357a4501ddfe92f46681b20a1"
	gapWritten   = "000000000000000000000000000000014551231950b75fc4402da1732fc9bebf"
)

var (
	one    = api.Wide{1}
	most   = api.Wide{full, full, full, full}
	beyond = new(big.Int).Lsh(big.NewInt(1), 256)
	order  = endless(digits(orderWritten))
	gap    = endless(digits(gapWritten))
)

// digits: a number that is written in hexadecimal digits.
func digits(s string) api.Wide {
	v, ok := new(big.Int).SetString(s, 16)
	if !ok || len(s) != 64 {
		panic(s + " is not 32 bytes")
	}
	return cut(v)
}

// endless: a wide number as one without end.
func endless(a api.Wide) *big.Int {
	v := new(big.Int)
	for i := 3; i >= 0; i-- {
		v.Lsh(v, 64).Or(v, new(big.Int).SetUint64(a[i]))
	}
	return v
}

// cut: the lowest 256 bits of a number without end.
func cut(v *big.Int) api.Wide {
	var a api.Wide
	v = new(big.Int).Mod(v, beyond)
	for i := range a {
		a[i] = new(big.Int).Rsh(v, uint(64*i)).Uint64()
	}
	return a
}

// left: what is left of a number without end, divided by the order.
func left(v *big.Int) api.Wide { return cut(new(big.Int).Mod(v, order)) }

// about: a number without end, and so much.
func about(v *big.Int, d int64) api.Wide { return cut(new(big.Int).Add(v, big.NewInt(d))) }

// aboutOrder: the order, and so much.
func aboutOrder(d int64) api.Wide { return about(order, d) }

// highFirst: a number's 32 bytes.
func highFirst(a api.Wide) [32]byte {
	var b [32]byte
	endless(a).FillBytes(b[:])
	return b
}

// edges: small numbers, powers of two with their neighbours, what the order lacks of 2^256 and twice that, the halves, thirds and quarters of the order, those about it and about the curve's prime, those that differ from it in one word, and the last ones.
func edges() []api.Wide {
	l := []api.Wide{{}, one, {2}, {3}, {4}, {5}, {7}, {9}, most}
	for _, n := range []uint{32, 63, 64, 65, 127, 128, 129, 191, 192, 193, 254, 255} {
		for d := int64(-1); d <= 1; d++ {
			l = append(l, about(new(big.Int).Lsh(big.NewInt(1), n), d))
		}
	}
	for _, n := range []int64{2, 3, 4} {
		part := new(big.Int).Div(order, big.NewInt(n))
		l = append(l, cut(part), about(part, 1))
	}
	twice := new(big.Int).Add(gap, gap)
	prime := new(big.Int).Sub(beyond, big.NewInt(1<<32+977))
	for _, v := range []*big.Int{gap, twice, prime, beyond} {
		for d := int64(-3); d <= 3; d++ {
			l = append(l, about(v, d))
		}
	}
	for d := int64(-5); d <= 9; d++ {
		l = append(l, aboutOrder(d))
	}
	for i := range 4 {
		for _, n := range []uint64{0, cut(order)[i] - 1, cut(order)[i] + 1, full} {
			a := cut(order)
			a[i] = n
			l = append(l, a)
		}
	}
	return l
}

// byChance: a number, some of whose words are empty, full, the order's or nearly so.
func byChance(r *rand.Rand) api.Wide {
	var a api.Wide
	for i, word := range cut(order) {
		some := []uint64{0, 0, 1, 2, 1 << 63, full - 1, full, full, word - 1, word, word, word + 1}
		a[i] = r.Uint64()
		if r.Intn(2) == 0 {
			a[i] = some[r.Intn(len(some))]
		}
	}
	return a
}

// partner: a number whose product with a leaves so much. Where that is small, the product lies just at a number of times the order, or just above it.
func partner(a api.Wide, rest uint64) api.Wide {
	inverse := new(big.Int).ModInverse(endless(a), order)
	if inverse == nil {
		return api.Wide{rest}
	}
	return left(inverse.Mul(inverse, new(big.Int).SetUint64(rest)))
}

// pairs: calls f with all pairs of edges, with pairs whose sum or product leaves little or nearly the order, and with many by chance.
func pairs(seed int64, f func(a, b api.Wide)) {
	l := edges()
	for _, a := range l {
		for _, b := range l {
			f(a, b)
		}
	}
	r := rand.New(rand.NewSource(seed))
	for range 300 {
		a := byChance(r)
		for _, n := range []uint64{0, 1, 2, 1 << 40, 1 << 60, full} {
			rest := new(big.Int).SetUint64(n)
			f(a, partner(a, n))
			f(a, left(new(big.Int).Neg(endless(partner(a, n)))))
			f(a, left(new(big.Int).Sub(rest, endless(a))))
			f(a, cut(new(big.Int).Sub(rest, endless(a))))
		}
	}
	for range 10000 {
		f(byChance(r), byChance(r))
	}
}

// singles: calls f with all edges and with so many by chance.
func singles(seed int64, count int, f func(a api.Wide)) {
	for _, a := range edges() {
		f(a)
	}
	r := rand.New(rand.NewSource(seed))
	for range count {
		f(byChance(r))
	}
}

// want: that one.
func want(t *testing.T, name string, got, want api.Wide, of ...api.Wide) {
	t.Helper()
	if got != want {
		t.Errorf("%s, of %x: %x, not %x", name, of, got, want)
	}
}

// P13.1, S1: Order, Reduce.

func TestOrder(t *testing.T) {
	want(t, "Order", scalar.Order(), digits(orderWritten))
	want(t, "Order", scalar.Order(), api.Wide{0xbfd25e8cd0364141, 0xbaaedce6af48a03b, full - 1, full})
	if !order.ProbablyPrime(20) {
		t.Error("the order is no prime")
	}
	if sum := new(big.Int).Add(order, gap); sum.Cmp(beyond) != 0 {
		t.Errorf("the order and what it lacks: %x", sum)
	}
}

func TestReduce(t *testing.T) {
	singles(131, 50000, func(a api.Wide) {
		want(t, "Reduce", scalar.Reduce(a), left(endless(a)), a)
	})
	for d := range int64(5) {
		want(t, "at the order and above", scalar.Reduce(aboutOrder(d)), api.Wide{uint64(d)})
		want(t, "below the order", scalar.Reduce(aboutOrder(-1-d)), aboutOrder(-1-d))
	}
	want(t, "the last number", scalar.Reduce(most), about(gap, -1))
	// The curve's prime is above its order.
	prime := digits("fffffffffffffffffffffffffffffffffffffffffffffffffffffffefffffc2f")
	want(t, "the prime", scalar.Reduce(prime), digits("000000000000000000000000000000014551231950b75fc4402da1722fc9baee"))
}

// P13.1, S1: sums, negatives and products, of numbers below the order and beyond it.

func TestAdd(t *testing.T) {
	pairs(132, func(a, b api.Wide) {
		want(t, "Add", scalar.Add(a, b), left(new(big.Int).Add(endless(a), endless(b))), a, b)
	})
	want(t, "the order less 1, and 2", scalar.Add(aboutOrder(-1), api.Wide{2}), one)
	want(t, "the order less 1, and 1", scalar.Add(aboutOrder(-1), one), api.Wide{})
	want(t, "the order less 1, and 0", scalar.Add(aboutOrder(-1), api.Wide{}), aboutOrder(-1))
	want(t, "2^256 - 1 twice", scalar.Add(most, most), about(new(big.Int).Add(gap, gap), -2))
	want(t, "to 2^256 just", scalar.Add(most, one), cut(gap))
	want(t, "the halves", scalar.Add(digits(halfWritten), digits(halfWritten)), one)
}

func TestNeg(t *testing.T) {
	singles(133, 50000, func(a api.Wide) {
		want(t, "Neg", scalar.Neg(a), left(new(big.Int).Neg(endless(a))), a)
	})
	want(t, "Neg", scalar.Neg(api.Wide{}), api.Wide{})
	want(t, "Neg", scalar.Neg(cut(order)), api.Wide{})
	want(t, "Neg", scalar.Neg(one), aboutOrder(-1))
	want(t, "Neg", scalar.Neg(aboutOrder(-1)), one)
	want(t, "Neg", scalar.Neg(aboutOrder(1)), aboutOrder(-1))
	want(t, "Neg", scalar.Neg(digits(halfWritten)), about(endless(digits(halfWritten)), -1))
}

func TestMul(t *testing.T) {
	pairs(134, func(a, b api.Wide) {
		want(t, "Mul", scalar.Mul(a, b), left(new(big.Int).Mul(endless(a), endless(b))), a, b)
	})
	want(t, "2 times 3", scalar.Mul(api.Wide{2}, api.Wide{3}), api.Wide{6})
	want(t, "2 times the half", scalar.Mul(api.Wide{2}, digits(halfWritten)), one)
	want(t, "the order less 1, times itself", scalar.Mul(aboutOrder(-1), aboutOrder(-1)), one)
	want(t, "2^255 times 2", scalar.Mul(api.Wide{0, 0, 0, 1 << 63}, api.Wide{2}), cut(gap))
	want(t, "the last number, times itself", scalar.Mul(most, most), left(new(big.Int).Exp(endless(about(gap, -1)), big.NewInt(2), nil)))
}

// A number that is known from elsewhere: three times itself, it is 1, and with its square and 1 it is 0.
func TestThirdRootOfOne(t *testing.T) {
	third := digits("5363ad4cc05c30e0a5261c028812645a122e22ea20816678df02967c1b23bd72")
	square := scalar.Mul(third, third)
	want(t, "the square", square, digits("ac9c52b33fa3cf1f5ad9e3fd77ed9ba4a880b9fc8ec739c2e0cfc810b51283ce"))
	want(t, "three times", scalar.Mul(square, third), one)
	want(t, "the three", scalar.Add(scalar.Add(square, third), one), api.Wide{})
	want(t, "the inverse", scalar.Inv(third), square)
}

// P13.1, S1, and P13.2: Inv.

func TestInv(t *testing.T) {
	singles(135, 2000, func(a api.Wide) {
		got := scalar.Inv(a)
		inverse := new(big.Int).ModInverse(endless(a), order)
		if inverse == nil {
			want(t, "no inverse", got, api.Wide{}, a)
			return
		}
		want(t, "Inv", got, cut(inverse), a)
		want(t, "times its inverse", scalar.Mul(got, a), one, a)
		want(t, "its inverse's", scalar.Inv(got), scalar.Reduce(a), a)
	})
}

func TestInvOfKnownNumbers(t *testing.T) {
	want(t, "of 0", scalar.Inv(api.Wide{}), api.Wide{})
	want(t, "of the order", scalar.Inv(cut(order)), api.Wide{})
	want(t, "of 1", scalar.Inv(one), one)
	want(t, "of the order and 1", scalar.Inv(aboutOrder(1)), one)
	want(t, "of the order less 1", scalar.Inv(aboutOrder(-1)), aboutOrder(-1))
	want(t, "of 2", scalar.Inv(api.Wide{2}), digits(halfWritten))
	want(t, "of the half", scalar.Inv(digits(halfWritten)), api.Wide{2})
	want(t, "of the order and 2", scalar.Inv(aboutOrder(2)), digits(halfWritten))
}

// All small numbers, and all powers of two: of few divisions and of many.
func TestInvOfManyDivisions(t *testing.T) {
	inverse := func(a api.Wide) {
		t.Helper()
		want(t, "Inv", scalar.Inv(a), cut(new(big.Int).ModInverse(endless(a), order)), a)
	}
	for n := range uint64(2000) {
		inverse(api.Wide{n + 1})
		inverse(scalar.Neg(api.Wide{n + 1}))
	}
	for n := range uint(256) {
		inverse(cut(new(big.Int).Lsh(big.NewInt(1), n)))
	}
	// The order, divided by the golden ratio, is about the number that takes the most divisions.
	v := new(big.Int).Div(new(big.Int).Mul(order, big.NewInt(1134903170)), big.NewInt(1836311903))
	for d := range int64(100) {
		inverse(about(v, d-50))
	}
}

// P13.1, S1: Read, Hash.

// wantRead: read as that number, and as a hash too.
func wantRead(t *testing.T, b [32]byte, number api.Wide) {
	t.Helper()
	if a, ok := scalar.Read(b); a != number || !ok {
		t.Errorf("Read of %x: %x, %t, not %x", b, a, ok, number)
	}
	want(t, "Hash", scalar.Hash(b), number)
}

// noRead: no number below the order, but as a hash what is left.
func noRead(t *testing.T, b [32]byte, rest api.Wide) {
	t.Helper()
	if a, ok := scalar.Read(b); a != (api.Wide{}) || ok {
		t.Errorf("Read of %x: %x, %t", b, a, ok)
	}
	want(t, "Hash", scalar.Hash(b), rest)
}

func TestRead(t *testing.T) {
	with, without := 0, 0
	singles(136, 50000, func(a api.Wide) {
		if endless(a).Cmp(order) < 0 {
			with++
			wantRead(t, highFirst(a), a)
		} else {
			without++
			noRead(t, highFirst(a), left(endless(a)))
		}
	})
	if with < 5000 || without < 500 {
		t.Errorf("%d below the order, %d not", with, without)
	}
}

func TestReadAtTheOrder(t *testing.T) {
	wantRead(t, [32]byte{}, api.Wide{})
	wantRead(t, [32]byte{31: 1}, one)
	wantRead(t, [32]byte{30: 1, 31: 2}, api.Wide{258})
	wantRead(t, [32]byte{128}, api.Wide{0, 0, 0, 1 << 63})
	b, err := hex.DecodeString(orderWritten)
	if err != nil {
		t.Fatal(err)
	}
	noRead(t, [32]byte(b), api.Wide{})
	b[31]--
	wantRead(t, [32]byte(b), aboutOrder(-1))
	b[31] += 2
	noRead(t, [32]byte(b), one)
	noRead(t, [32]byte(slices.Repeat([]byte{255}, 32)), about(gap, -1))
}

// Each byte stands at its own place.
func TestReadOfEachByte(t *testing.T) {
	for i := range 32 {
		for _, n := range []byte{1, 127, 128, 255} {
			var b [32]byte
			b[i] = n
			wantRead(t, b, cut(new(big.Int).Lsh(big.NewInt(int64(n)), uint(8*(31-i)))))
		}
	}
}

// P13.2: a field.

// law: are the two the same, and below the order?
func law(t *testing.T, name string, x, y api.Wide, of ...api.Wide) {
	t.Helper()
	if x != y || endless(x).Cmp(order) >= 0 {
		t.Errorf("%s, of %x: %x and %x", name, of, x, y)
	}
}

func TestField(t *testing.T) {
	third := rand.New(rand.NewSource(137))
	pairs(138, func(a, b api.Wide) {
		c := byChance(third)
		law(t, "sums of two", scalar.Add(a, b), scalar.Add(b, a), a, b)
		law(t, "sums of three", scalar.Add(a, scalar.Add(b, c)), scalar.Add(scalar.Add(a, b), c), a, b, c)
		law(t, "products of two", scalar.Mul(a, b), scalar.Mul(b, a), a, b)
		law(t, "products of three", scalar.Mul(a, scalar.Mul(b, c)), scalar.Mul(scalar.Mul(a, b), c), a, b, c)
		law(t, "a product with a sum", scalar.Mul(a, scalar.Add(b, c)), scalar.Add(scalar.Mul(a, b), scalar.Mul(a, c)), a, b, c)
		law(t, "a number and its negative", scalar.Add(a, scalar.Neg(a)), api.Wide{}, a)
		law(t, "the negative's negative", scalar.Neg(scalar.Neg(a)), scalar.Reduce(a), a)
		law(t, "times a negative", scalar.Mul(a, scalar.Neg(b)), scalar.Neg(scalar.Mul(a, b)), a, b)
		law(t, "added and taken away", scalar.Add(scalar.Add(a, b), scalar.Neg(b)), scalar.Reduce(a), a, b)
		law(t, "0 added", scalar.Add(a, api.Wide{}), scalar.Reduce(a), a)
		law(t, "times 1", scalar.Mul(a, one), scalar.Reduce(a), a)
		law(t, "times 0", scalar.Mul(a, api.Wide{}), api.Wide{}, a)
	})
}

func TestInversesOfProducts(t *testing.T) {
	r := rand.New(rand.NewSource(139))
	for range 300 {
		a, b := byChance(r), byChance(r)
		law(t, "a product's inverse", scalar.Inv(scalar.Mul(a, b)), scalar.Mul(scalar.Inv(a), scalar.Inv(b)), a, b)
		law(t, "a negative's inverse", scalar.Inv(scalar.Neg(a)), scalar.Neg(scalar.Inv(a)), a)
	}
}

// What an argument counts as is what is left of it: all calls answer the same of both.
func TestArgumentsCountAsWhatIsLeft(t *testing.T) {
	r := rand.New(rand.NewSource(140))
	small := []api.Wide{{}, one, {2}, {4}, about(gap, -2), about(gap, -1)}
	for range 40 {
		small = append(small, api.Wide{r.Uint64(), r.Uint64()})
	}
	for _, a := range small {
		great := cut(new(big.Int).Add(order, endless(a)))
		law(t, "Reduce", scalar.Reduce(a), scalar.Reduce(great), a)
		law(t, "Neg", scalar.Neg(a), scalar.Neg(great), a)
		law(t, "Inv", scalar.Inv(a), scalar.Inv(great), a)
		law(t, "Hash", scalar.Hash(highFirst(a)), scalar.Hash(highFirst(great)), a)
		for _, b := range edges() {
			law(t, "Add", scalar.Add(a, b), scalar.Add(great, b), a, b)
			law(t, "Add", scalar.Add(b, a), scalar.Add(b, great), b, a)
			law(t, "Mul", scalar.Mul(a, b), scalar.Mul(great, b), a, b)
			law(t, "Mul", scalar.Mul(b, a), scalar.Mul(b, great), b, a)
		}
	}
}

// R5: a call ahead is nothing to the next one; what is answered may be changed by who asked.
func TestCallsHangOnTheirArgumentsAlone(t *testing.T) {
	for range 3 {
		n := scalar.Order()
		n[0], n[3] = 5, 5
		law(t, "Add", scalar.Add(aboutOrder(-1), api.Wide{2}), one)
		law(t, "Mul", scalar.Mul(aboutOrder(-1), api.Wide{2}), aboutOrder(-2))
		law(t, "Inv", scalar.Inv(api.Wide{2}), digits(halfWritten))
		law(t, "Neg", scalar.Neg(one), aboutOrder(-1))
		wantRead(t, highFirst(aboutOrder(-1)), aboutOrder(-1))
		noRead(t, highFirst(cut(order)), api.Wide{})
		want(t, "Order", scalar.Order(), digits(orderWritten))
	}
}

func FuzzScalar(f *testing.F) {
	r := rand.New(rand.NewSource(141))
	for range 20 {
		seed := make([]byte, 64)
		r.Read(seed)
		f.Add(seed)
	}
	f.Add(slices.Repeat([]byte{255}, 64))
	f.Fuzz(func(t *testing.T, seed []byte) {
		if len(seed) != 64 {
			return
		}
		x, y := new(big.Int).SetBytes(seed[:32]), new(big.Int).SetBytes(seed[32:])
		a, b := cut(x), cut(y)
		law(t, "Add", scalar.Add(a, b), left(new(big.Int).Add(x, y)), a, b)
		law(t, "Mul", scalar.Mul(a, b), left(new(big.Int).Mul(x, y)), a, b)
		law(t, "Neg", scalar.Neg(a), left(new(big.Int).Neg(x)), a)
		law(t, "Hash", scalar.Hash([32]byte(seed[:32])), left(x), a)
		if inverse := new(big.Int).ModInverse(x, order); inverse != nil {
			law(t, "Inv", scalar.Inv(a), cut(inverse), a)
		}
	})
}
