package point_test

import (
	"math"
	"math/big"
	"math/rand"
	"slices"
	"testing"

	"entail/api"
	"entail/point"
)

const full = math.MaxUint64

// What the chapter and others write down: the base, the prime, the order, and a third root of 1 modulo each of these two.
const (
	baseX     = "79be667ef9dcbbac55a06295ce870b07029bfcdb2dce28d959f2815b16f81798"
	baseY     = "483ada7726a3c4655da4fbfc0e1108a8fd17b448a68554199c47d08ffb10d4b8"
	primeIs   = "fffffffffffffffffffffffffffffffffffffffffffffffffffffffefffffc2f"
	orderIs   = "fffffffffffffffffffffffffffffffebaaedce6af48a03bbfd25e8cd0364141"
	thirdOfX  = "7ae96a2b657c07106e64479eac3434e99cf0497512f58995c1396c28719501ee"
	thirdTime = "5363ad4cc05c30e0a5261c028812645a122e22ea20816678df02967c1b23bd72"
)

var (
	zero   = api.Point{Zero: true}
	none   = api.Wide{}
	one    = api.Wide{1}
	most   = api.Wide{full, full, full, full}
	beyond = new(big.Int).Lsh(big.NewInt(1), 256)
	prime  = number(primeIs)
	order  = number(orderIs)
	base   = api.Point{X: cut(number(baseX)), Y: cut(number(baseY))}
)

// number: a number without end, written in 64 hexadecimal digits.
func number(s string) *big.Int {
	v, ok := new(big.Int).SetString(s, 16)
	if !ok || len(s) != 64 {
		panic(s + " is not 32 bytes")
	}
	return v
}

// endless: a wide number as one without end.
func endless(a api.Wide) *big.Int {
	v := new(big.Int)
	for i := 3; i >= 0; i-- {
		v.Lsh(v, 64).Or(v, new(big.Int).SetUint64(a[i]))
	}
	return v
}

// cut: the lowest 256 bits of a number without end.
func cut(v *big.Int) api.Wide {
	var a api.Wide
	v = new(big.Int).Mod(v, beyond)
	for i := range a {
		a[i] = new(big.Int).Rsh(v, uint(64*i)).Uint64()
	}
	return a
}

// about: a number without end, and so much.
func about(v *big.Int, d int64) api.Wide { return cut(new(big.Int).Add(v, big.NewInt(d))) }

// highFirst: the 32 bytes of a number without end.
func highFirst(v *big.Int) [32]byte {
	var b [32]byte
	v.FillBytes(b[:])
	return b
}

// modulo: a number without end, modulo the prime.
func modulo(v *big.Int) *big.Int { return v.Mod(v, prime) }

// times: x times y modulo the prime.
func times(x, y *big.Int) *big.Int { return modulo(new(big.Int).Mul(x, y)) }

// curveAt: x times x times x, and 7, modulo the prime.
func curveAt(x *big.Int) *big.Int {
	v := times(times(x, x), x)
	return modulo(v.Add(v, big.NewInt(7)))
}

// isPoint: is p a point, by the chapter's words?
func isPoint(p api.Point) bool {
	x, y := endless(p.X), endless(p.Y)
	if p.Zero {
		return x.Sign() == 0 && y.Sign() == 0
	}
	return x.Cmp(prime) < 0 && y.Cmp(prime) < 0 && times(y, y).Cmp(curveAt(x)) == 0
}

// pointOf: the point of two numbers without end.
func pointOf(x, y *big.Int) api.Point { return api.Point{X: cut(x), Y: cut(y)} }

// minus: p's negative, by the chapter's words; p must be a point.
func minus(p api.Point) api.Point {
	if p.Zero {
		return p
	}
	return pointOf(endless(p.X), modulo(new(big.Int).Neg(endless(p.Y))))
}

// sum: two points' sum, by the chapter's words.
func sum(p, q api.Point) api.Point {
	switch {
	case p.Zero:
		return q
	case q.Zero:
		return p
	case q == minus(p):
		return zero
	}
	x1, y1, x2, y2 := endless(p.X), endless(p.Y), endless(q.X), endless(q.Y)
	rise, run := new(big.Int).Sub(y2, y1), new(big.Int).Sub(x2, x1)
	if p == q {
		rise, run = times(big.NewInt(3), times(x1, x1)), times(big.NewInt(2), y1)
	}
	s := times(rise, new(big.Int).ModInverse(modulo(run), prime))
	x := times(s, s)
	x = modulo(x.Sub(x, x1).Sub(x, x2))
	y := times(s, new(big.Int).Sub(x1, x))
	return pointOf(x, modulo(y.Sub(y, y1)))
}

// multiple: p, k times added; p must be a point.
func multiple(k api.Wide, p api.Point) api.Point {
	out := zero
	for i := 255; i >= 0; i-- {
		out = sum(out, out)
		if endless(k).Bit(i) == 1 {
			out = sum(out, p)
		}
	}
	return out
}

// row: the multiples of a point from -n to n, one behind the other; that of 0 stands at n.
func row(p api.Point, n int) []api.Point {
	l := []api.Point{zero}
	for range n {
		l = append(l, sum(l[len(l)-1], p))
	}
	for i := range n {
		l = slices.Insert(l, 0, minus(l[2*i+1]))
	}
	return l
}

// evenAt: the point of an X whose Y is even, if there is one.
func evenAt(x *big.Int) (api.Point, bool) {
	y := new(big.Int).ModSqrt(curveAt(x), prime)
	if y == nil || x.Cmp(prime) >= 0 {
		return zero, false
	}
	if y.Bit(0) == 1 {
		y.Sub(prime, y)
	}
	return pointOf(x, y), true
}

// smallY: points of small Y, to which the prime may be added within 256 bits.
func smallY(count int) []api.Point {
	// As 9 divides the prime and 2, this power is a third root, if there is one at all.
	power := new(big.Int).Add(prime, big.NewInt(2))
	power.Div(power, big.NewInt(9))
	var l []api.Point
	for y := int64(1); len(l) < count; y++ {
		cube := modulo(big.NewInt(y*y - 7))
		p := pointOf(new(big.Int).Exp(cube, power, prime), big.NewInt(y))
		if isPoint(p) {
			l = append(l, p)
		}
	}
	return l
}

// smallX: points of small X, to which the prime may be added within 256 bits, and of X just below the prime.
func smallX(count int) []api.Point {
	var l []api.Point
	for d := int64(0); len(l) < 4*count; d++ {
		for _, x := range []*big.Int{big.NewInt(d), new(big.Int).Sub(prime, big.NewInt(d+1))} {
			if p, ok := evenAt(x); ok {
				l = append(l, p, minus(p))
			}
		}
	}
	return l
}

// wideBy: a number, some of whose words are empty, full, the order's or nearly so.
func wideBy(r *rand.Rand) api.Wide {
	var a api.Wide
	for i, word := range cut(order) {
		some := []uint64{0, 0, 1, 2, 1 << 63, full - 1, full, full, word - 1, word, word, word + 1}
		a[i] = r.Uint64()
		if r.Intn(2) == 0 {
			a[i] = some[r.Intn(len(some))]
		}
	}
	return a
}

// pointBy: a point that is not zero.
func pointBy(r *rand.Rand) api.Point {
	for {
		p, ok := evenAt(new(big.Int).Rand(r, prime))
		if ok && r.Intn(2) == 0 {
			return minus(p)
		}
		if ok {
			return p
		}
	}
}

// points: zero, small multiples of the base and their negatives, points of small and great X, of small Y, and some by chance with twice themselves.
func points(seed int64) []api.Point {
	r := rand.New(rand.NewSource(seed))
	l := append(row(base, 5), smallX(2)...)
	for _, p := range smallY(2) {
		l = append(l, p, minus(p))
	}
	for range 4 {
		p := pointBy(r)
		l = append(l, p, minus(p), sum(p, p))
	}
	return l
}

// nones: what is no point: empty, zero with an X or a Y, points that are called zero, X or Y with the prime added or turned round, points beside the curve.
func nones() []api.Point {
	l := []api.Point{
		{}, {X: one}, {Y: one}, {X: one, Zero: true}, {Y: one, Zero: true}, {X: most, Y: most, Zero: true},
		{X: most, Y: most}, {X: cut(prime), Y: cut(prime)}, {X: cut(prime), Zero: true}, {Y: cut(prime), Zero: true},
		{X: base.X, Y: base.Y, Zero: true}, {X: base.X}, {X: base.X, Zero: true}, {Y: base.Y}, {X: base.Y, Y: base.X}, {X: base.X, Y: base.X},
		{X: base.X, Y: about(number(baseY), 1)}, {X: about(number(baseX), 1), Y: base.Y}, {X: base.X, Y: cut(new(big.Int).Neg(number(baseY)))},
	}
	for _, p := range append(smallX(3), smallY(3)...) {
		for _, x := range []*big.Int{endless(p.X), new(big.Int).Add(prime, endless(p.X))} {
			for _, y := range []*big.Int{endless(p.Y), new(big.Int).Add(prime, endless(p.Y))} {
				if x.Cmp(beyond) < 0 && y.Cmp(beyond) < 0 && (x.Cmp(prime) >= 0 || y.Cmp(prime) >= 0) {
					l = append(l, pointOf(x, y))
				}
			}
		}
	}
	return l
}

// numbers: small ones, powers of two with their neighbours, halves and thirds of the order, those about it, about the prime and about 2^256, and others whose bits stand in patterns.
func numbers() []api.Wide {
	var l []api.Wide
	for n := range uint64(10) {
		l = append(l, api.Wide{n})
	}
	for _, n := range []uint{63, 64, 128, 192, 255} {
		for d := int64(-1); d <= 1; d++ {
			l = append(l, about(new(big.Int).Lsh(big.NewInt(1), n), d))
		}
	}
	for _, n := range []int64{2, 3} {
		part := new(big.Int).Div(order, big.NewInt(n))
		l = append(l, cut(part), about(part, 1))
	}
	for d := int64(-4); d <= 4; d++ {
		l = append(l, about(order, d))
	}
	l = append(l, cut(prime), cut(number(thirdTime)), about(beyond, -2), most)
	for _, n := range []uint64{0x5555555555555555, 0xaaaaaaaaaaaaaaaa, 0xffffffff00000000} {
		l = append(l, api.Wide{n, n, n, n})
	}
	return append(l, api.Wide{3: full}, api.Wide{1: 1, 3: 1 << 63})
}

// want: is that the answer?
func want(t *testing.T, name string, got, wanted api.Point, of ...any) {
	t.Helper()
	if got != wanted {
		t.Errorf("%s, of %v: %v, not %v", name, of, got, wanted)
	}
}

// P14.1, T1: Base and On.

func TestBase(t *testing.T) {
	want(t, "the base", point.Base(), base)
	if !isPoint(base) || base.Y[0]%2 != 0 || base.Zero {
		t.Errorf("the base as it is written: %v", base)
	}
	if !prime.ProbablyPrime(20) || !order.ProbablyPrime(20) {
		t.Error("the prime or the order is none")
	}
}

// wantOn: is p a point, just if it is one by the chapter's words?
func wantOn(t *testing.T, p api.Point) bool {
	t.Helper()
	on := isPoint(p)
	if point.On(p) != on {
		t.Errorf("is %v a point? %t, not %t", p, !on, on)
	}
	return on
}

func TestOn(t *testing.T) {
	for _, p := range points(140) {
		if !wantOn(t, p) {
			t.Errorf("%v is not the point that the test takes it for", p)
		}
		p.Zero = !p.Zero
		wantOn(t, p)
	}
	for _, p := range nones() {
		if wantOn(t, p) {
			t.Errorf("%v is a point, and the test takes it for none", p)
		}
	}
}

// Each bit of a point counts.
func TestOnOfEachBit(t *testing.T) {
	for _, p := range []api.Point{zero, base, minus(base), smallX(1)[0], smallY(1)[0]} {
		for i := range 256 {
			x, y := p, p
			x.X[i/64] ^= 1 << (i % 64)
			y.Y[i/64] ^= 1 << (i % 64)
			wantOn(t, x)
			wantOn(t, y)
			if point.On(x) || point.On(y) {
				t.Errorf("%v, turned at the bit %d, is a point still", p, i)
			}
		}
	}
}

func TestOnOfNumbers(t *testing.T) {
	r := rand.New(rand.NewSource(141))
	for range 2000 {
		wantOn(t, api.Point{X: wideBy(r), Y: wideBy(r), Zero: r.Intn(2) == 0})
		wantOn(t, pointBy(r))
	}
}

// P14.1, T1: Add and Neg.

func TestAdd(t *testing.T) {
	l := points(142)
	for _, p := range l {
		for _, q := range l {
			want(t, "Add", point.Add(p, q), sum(p, q), p, q)
		}
	}
	r := rand.New(rand.NewSource(143))
	for range 300 {
		p, q := pointBy(r), pointBy(r)
		want(t, "Add", point.Add(p, q), sum(p, q), p, q)
		want(t, "Add", point.Add(p, p), sum(p, p), p)
		want(t, "Add", point.Add(p, minus(p)), zero, p)
	}
}

func TestAddZero(t *testing.T) {
	for _, p := range points(144) {
		want(t, "Add", point.Add(p, zero), p, p)
		want(t, "Add", point.Add(zero, p), p, p)
	}
	want(t, "Add", point.Add(zero, zero), zero)
	want(t, "Add", point.Add(point.Base(), point.Neg(point.Base())), zero)
}

// Three points of one Y and three X lie on a line that does not rise: their sum is zero.
func TestAddOnALevel(t *testing.T) {
	third := number(thirdOfX)
	r := rand.New(rand.NewSource(145))
	for range 20 {
		p := pointBy(r)
		q := pointOf(times(endless(p.X), third), endless(p.Y))
		o := pointOf(times(endless(q.X), third), endless(p.Y))
		want(t, "Add", point.Add(p, q), minus(o), p, q)
		want(t, "Add", point.Add(point.Add(p, q), o), zero, p, q, o)
	}
}

func TestNeg(t *testing.T) {
	r := rand.New(rand.NewSource(146))
	for _, p := range append(points(147), pointBy(r), pointBy(r)) {
		want(t, "Neg", point.Neg(p), minus(p), p)
		want(t, "Neg", point.Neg(point.Neg(p)), p, p)
	}
	want(t, "Neg", point.Neg(zero), zero)
	less := about(new(big.Int).Sub(prime, number(baseY)), 0)
	want(t, "Neg", point.Neg(point.Base()), api.Point{X: base.X, Y: less})
}

// P14.1, T1: Mul and Both.

func TestMul(t *testing.T) {
	r := rand.New(rand.NewSource(148))
	l := []api.Point{base, minus(base), sum(base, base), smallX(1)[0], smallY(1)[0], pointBy(r)}
	for _, k := range numbers() {
		for _, p := range l[:2] {
			want(t, "Mul", point.Mul(k, p), multiple(k, p), k, p)
		}
		p := l[2+r.Intn(len(l)-2)]
		want(t, "Mul", point.Mul(k, p), multiple(k, p), k, p)
		want(t, "Mul", point.Mul(k, zero), zero, k)
	}
	for range 30 {
		k, p := wideBy(r), pointBy(r)
		want(t, "Mul", point.Mul(k, p), multiple(k, p), k, p)
	}
}

func TestMulOfSmallNumbers(t *testing.T) {
	r := rand.New(rand.NewSource(149))
	for _, p := range []api.Point{base, pointBy(r), smallX(1)[1]} {
		l := row(p, 300)
		for k := range 301 {
			want(t, "Mul", point.Mul(api.Wide{uint64(k)}, p), l[300+k], k, p)
			want(t, "Mul", point.Mul(about(order, int64(-k)), p), l[300-k], -k, p)
		}
		for k := range 8 {
			want(t, "Mul", point.Mul(about(order, int64(k)), p), l[300+k], k, p)
		}
	}
}

// Each bit of a number counts for twice the one below it.
func TestMulOfEachBit(t *testing.T) {
	p := base
	for i := range 256 {
		want(t, "Mul", point.Mul(cut(new(big.Int).Lsh(big.NewInt(1), uint(i))), base), p, i)
		p = sum(p, p)
	}
}

// Multiples of the base that are known from elsewhere.
func TestMulKnownElsewhere(t *testing.T) {
	for _, l := range [][3]string{
		{"2", "c6047f9441ed7d6d3045406e95c07cd85c778e4b8cef3ca7abac09b95c709ee5", "1ae168fea63dc339a3c58419466ceaeef7f632653266d0e1236431a950cfe52a"},
		{"3", "f9308a019258c31049344f85f89d5229b531c845836f99b08601f113bce036f9", "388f7b0f632de8140fe337e62a37f3566500a99934c2231b6cb9fd7584b8e672"},
		{"112233445566778899", "a90cc3d3f3e146daadfc74ca1372207cb4b725ae708cef713a98edd73d99ef29", "5a79d6b289610c68bc3b47f3d72f9788a26a06868b4d8e433e1e2ad76fb7dc76"},
		{"112233445566778899112233445566778899", "e5a2636bcfd412ebf36ec45b19bfb68a1bc5f8632e678132b885f7df99c5e9b3", "736c1ce161ae27b405cafd2a7520370153c2c861ac51d6c1d5985d9606b45f39"},
		{"28948022309329048855892746252171976963209391069768726095651290785379540373584", "a6b594b38fb3e77c6edf78161fade2041f4e09fd8497db776e546c41567feb3c", "71444009192228730cd8237a490feba2afe3d27d7cc1136bc97e439d13330d55"},
		{"57896044618658097711785492504343953926418782139537452191302581570759080747168", "00000000000000000000003b78ce563f89a0ed9414f5aa28ad0d96d6795f9c63", "3f3979bf72ae8202983dc989aec7f2ff2ed91bdd69ce02fc0700ca100e59ddf3"},
		{"86844066927987146567678238756515930889628173209306178286953872356138621120752", "e24ce4beee294aa6350faa67512b99d388693ae4e7f53d19882a6ea169fc1ce1", "8b71e83545fc2b5872589f99d948c03108d36797c4de363ebd3ff6a9e1a95b10"},
	} {
		k, _ := new(big.Int).SetString(l[0], 10)
		want(t, "Mul", point.Mul(cut(k), point.Base()), pointOf(number(l[1]), number(l[2])), l[0])
	}
}

// Times a third root of 1 modulo the order, a point's X is multiplied by one modulo the prime.
func TestMulByAThirdRoot(t *testing.T) {
	r := rand.New(rand.NewSource(150))
	for _, p := range []api.Point{base, pointBy(r), pointBy(r), smallX(1)[0]} {
		turned := pointOf(times(endless(p.X), number(thirdOfX)), endless(p.Y))
		want(t, "Mul", point.Mul(cut(number(thirdTime)), p), turned, p)
	}
}

// As the third root is even, its multiple stands there when the point itself, of another X and the same Y, comes to it.
func TestMulOntoOneOfTheSameY(t *testing.T) {
	r := rand.New(rand.NewSource(165))
	for _, p := range []api.Point{base, pointBy(r), smallX(1)[0]} {
		third := number(thirdOfX)
		turned := pointOf(times(endless(p.X), times(third, third)), endless(p.Y))
		want(t, "Mul", point.Mul(about(number(thirdTime), 1), p), minus(turned), p)
		want(t, "Both", point.Both(cut(number(thirdTime)), p, one, p), minus(turned), p)
		want(t, "Both", point.Both(one, p, cut(number(thirdTime)), p), minus(turned), p)
	}
}

func TestBoth(t *testing.T) {
	r := rand.New(rand.NewSource(151))
	l := numbers()
	for range 60 {
		a, b := l[r.Intn(len(l))], l[r.Intn(len(l))]
		p, q := pointBy(r), pointBy(r)
		want(t, "Both", point.Both(a, p, b, q), sum(multiple(a, p), multiple(b, q)), a, p, b, q)
		a, b = wideBy(r), wideBy(r)
		want(t, "Both", point.Both(a, p, b, base), sum(multiple(a, p), multiple(b, base)), a, p, b)
	}
}

// All small numbers with all small multiples of a point, so that what is added on the way is what stands there already, its negative, or zero.
func TestBothOfSmallNumbers(t *testing.T) {
	const most = 4 * 15 * 2
	l := row(base, most)
	for i := -4; i <= 4; i++ {
		for j := -4; j <= 4; j++ {
			for k := range 12 * 12 {
				a, b := k/12, k%12
				got := point.Both(api.Wide{uint64(a)}, l[most+i], api.Wide{uint64(b)}, l[most+j])
				want(t, "Both", got, l[most+a*i+b*j], a, i, b, j)
			}
		}
	}
}

// The same about the order, where sums come back to where they began.
func TestBothAboutTheOrder(t *testing.T) {
	l := row(base, 40)
	for i := int64(-3); i <= 3; i++ {
		for j := int64(-3); j <= 3; j++ {
			for _, p := range []int64{-2, -1, 1, 2} {
				at := 40 + i*p + j
				want(t, "Both", point.Both(about(order, i), l[40+p], about(order, j), base), l[at], i, p, j)
			}
		}
	}
	last := about(order, -1)
	want(t, "Both", point.Both(api.Wide{2}, base, last, l[42]), zero)
	want(t, "Both", point.Both(one, base, one, minus(base)), zero)
	want(t, "Both", point.Both(most, base, most, minus(base)), zero)
	want(t, "Both", point.Both(most, base, most, base), multiple(most, l[42]))
	want(t, "Both", point.Both(cut(order), base, cut(order), l[43]), zero)
}

func TestBothOfNothing(t *testing.T) {
	p := pointBy(rand.New(rand.NewSource(152)))
	want(t, "Both", point.Both(none, p, none, base), zero)
	want(t, "Both", point.Both(none, zero, none, zero), zero)
	want(t, "Both", point.Both(most, zero, most, zero), zero)
	for _, k := range numbers() {
		product := multiple(k, p)
		want(t, "Both", point.Both(k, p, none, base), product, k, p)
		want(t, "Both", point.Both(none, base, k, p), product, k, p)
		want(t, "Both", point.Both(k, p, most, zero), product, k, p)
		want(t, "Both", point.Both(most, zero, k, p), product, k, p)
	}
}

// P14.1: what is no point counts as zero, whatever stands in it.
func TestWhatIsNoPointCountsAsZero(t *testing.T) {
	p := smallX(1)[0]
	for _, n := range nones() {
		want(t, "Add", point.Add(n, p), p, n)
		want(t, "Add", point.Add(p, n), p, n)
		want(t, "Add", point.Add(n, n), zero, n)
		want(t, "Add", point.Add(n, zero), zero, n)
		want(t, "Neg", point.Neg(n), zero, n)
		want(t, "Mul", point.Mul(one, n), zero, n)
		want(t, "Mul", point.Mul(api.Wide{5}, n), zero, n)
		want(t, "Both", point.Both(one, n, one, p), p, n)
		want(t, "Both", point.Both(one, p, one, n), p, n)
		want(t, "Both", point.Both(api.Wide{5}, n, api.Wide{3}, n), zero, n)
		if b := point.Bytes(n); b != [32]byte{} {
			t.Errorf("the bytes of %v: %x", n, b)
		}
		if point.Even(n) {
			t.Errorf("%v is even", n)
		}
	}
}

// P14.1, T2: Lift, Bytes and Even.

// wantLift: is that point lifted?
func wantLift(t *testing.T, x [32]byte, p api.Point) {
	t.Helper()
	if got, ok := point.Lift(x); got != p || !ok {
		t.Errorf("lifted of %x: %v, %t, not %v", x, got, ok, p)
	}
}

// noLift: is there none?
func noLift(t *testing.T, x [32]byte) {
	t.Helper()
	if got, ok := point.Lift(x); got != zero || ok {
		t.Errorf("lifted of %x: %v, %t", x, got, ok)
	}
}

func TestLift(t *testing.T) {
	r := rand.New(rand.NewSource(153))
	with, without := 0, 0
	for range 1000 {
		x := new(big.Int).Rand(r, prime)
		if p, ok := evenAt(x); ok {
			with++
			wantLift(t, highFirst(x), p)
		} else {
			without++
			noLift(t, highFirst(x))
		}
	}
	if with < 400 || without < 400 {
		t.Errorf("%d with a point, %d without one", with, without)
	}
}

func TestLiftOfSmallAndGreatX(t *testing.T) {
	for d := range int64(100) {
		for _, x := range []*big.Int{big.NewInt(d), new(big.Int).Sub(prime, big.NewInt(1+d))} {
			if p, ok := evenAt(x); ok {
				wantLift(t, highFirst(x), p)
			} else {
				noLift(t, highFirst(x))
			}
		}
		// From the prime on there is none, whether what is left has one or not.
		noLift(t, highFirst(new(big.Int).Add(prime, big.NewInt(d))))
		noLift(t, highFirst(new(big.Int).Sub(beyond, big.NewInt(1+d))))
	}
	noLift(t, [32]byte{})
	noLift(t, [32]byte{31: 5})
}

// X that are known from elsewhere, the highest byte first.
func TestLiftKnownElsewhere(t *testing.T) {
	wantLift(t, highFirst(number(baseX)), base)
	wantLift(t, [32]byte{31: 1}, pointOf(big.NewInt(1), number("4218f20ae6c646b363db68605822fb14264ca8d2587fdd6fbc750d587e76a7ee")))
	noLift(t, highFirst(number("eefdea4cdb677750a420fee807eacf21eb9898ae79b9768766e4faa04a2d4a34")))
	noLift(t, highFirst(number("fffffffffffffffffffffffffffffffffffffffffffffffffffffffefffffc30")))
}

func TestBytesAndEven(t *testing.T) {
	r := rand.New(rand.NewSource(154))
	l := points(155)
	for range 100 {
		l = append(l, pointBy(r))
	}
	for _, p := range l {
		if b := point.Bytes(p); b != highFirst(endless(p.X)) {
			t.Errorf("the bytes of %v: %x", p, b)
		}
		if even := !p.Zero && p.Y[0]%2 == 0; point.Even(p) != even {
			t.Errorf("is %v even? %t", p, !even)
		}
		if !p.Zero && point.Even(p) == point.Even(minus(p)) {
			t.Errorf("%v and its negative: both %t", p, point.Even(p))
		}
	}
	if point.Bytes(zero) != [32]byte{} || point.Even(zero) {
		t.Error("the bytes of zero, or it is even")
	}
}

// P14.2: a group.

func TestGroup(t *testing.T) {
	r := rand.New(rand.NewSource(156))
	l := append(points(157), nones()[:8]...)
	for range 3000 {
		p, q, o := l[r.Intn(len(l))], l[r.Intn(len(l))], l[r.Intn(len(l))]
		both := point.Add(p, q)
		if !point.On(both) || !isPoint(both) {
			t.Errorf("%v and %v: %v is no point", p, q, both)
		}
		want(t, "turned round", point.Add(q, p), both, p, q)
		want(t, "in brackets", point.Add(p, point.Add(q, o)), point.Add(both, o), p, q, o)
		want(t, "with its negative", point.Add(p, point.Neg(p)), zero, p)
		want(t, "of negatives", point.Add(point.Neg(p), point.Neg(q)), point.Neg(both), p, q)
		want(t, "added and taken away", point.Add(both, point.Neg(q)), point.Add(p, zero), p, q)
	}
}

// P14.3: multiples are added as their numbers, and the order times any point is zero.

func TestMultiplesAreAdded(t *testing.T) {
	r := rand.New(rand.NewSource(158))
	l := points(159)
	for range 100 {
		a, b := wideBy(r), wideBy(r)
		p, q := l[r.Intn(len(l))], l[r.Intn(len(l))]
		ab := new(big.Int).Add(endless(a), endless(b))
		added := cut(ab.Mod(ab, order))
		want(t, "added", point.Add(point.Mul(a, p), point.Mul(b, p)), point.Mul(added, p), a, b, p)
		want(t, "both of one", point.Both(a, p, b, p), point.Mul(added, p), a, b, p)
		want(t, "both", point.Both(a, p, b, q), point.Add(point.Mul(a, p), point.Mul(b, q)), a, p, b, q)
		want(t, "of a sum", point.Mul(a, point.Add(p, q)), point.Both(a, p, a, q), a, p, q)
		ab.Mul(endless(a), endless(b))
		product := cut(ab.Mod(ab, order))
		want(t, "of a multiple", point.Mul(a, point.Mul(b, p)), point.Mul(product, p), a, b, p)
		want(t, "of a negative", point.Mul(a, point.Neg(p)), point.Neg(point.Mul(a, p)), a, p)
	}
}

func TestOrder(t *testing.T) {
	r := rand.New(rand.NewSource(160))
	l := append(points(161), nones()...)
	for range 100 {
		l = append(l, pointBy(r))
	}
	for _, p := range l {
		want(t, "the order times", point.Mul(cut(order), p), zero, p)
		want(t, "the order less 1, times", point.Mul(about(order, -1), p), point.Neg(p), p)
		want(t, "the order and 1, times", point.Mul(about(order, 1), p), point.Add(p, zero), p)
		want(t, "the order and 2, times", point.Mul(about(order, 2), p), point.Add(p, p), p)
	}
}

// P14.4: there and back.

func TestThereAndBack(t *testing.T) {
	r := rand.New(rand.NewSource(162))
	l := points(163)
	for range 300 {
		l = append(l, pointBy(r), point.Mul(wideBy(r), base))
	}
	for _, p := range l {
		switch {
		case p == zero:
			noLift(t, point.Bytes(p))
		case point.Even(p):
			wantLift(t, point.Bytes(p), p)
		default:
			wantLift(t, point.Bytes(p), point.Neg(p))
		}
	}
}

// R5: a call ahead is nothing to the next one; what is answered may be changed by who asked.
func TestCallsHangOnTheirArgumentsAlone(t *testing.T) {
	two := sum(base, base)
	for range 3 {
		p := point.Base()
		p.X[0], p.Y[3], p.Zero = 5, 5, true
		want(t, "Base", point.Base(), base)
		want(t, "Add", point.Add(base, base), two)
		want(t, "Add", point.Add(p, base), base)
		want(t, "Mul", point.Mul(about(order, 2), base), two)
		want(t, "Mul", point.Mul(cut(order), base), zero)
		want(t, "Both", point.Both(one, base, one, base), two)
		wantLift(t, highFirst(number(baseX)), base)
		noLift(t, [32]byte{31: 5})
	}
}

func FuzzPoint(f *testing.F) {
	r := rand.New(rand.NewSource(164))
	for range 10 {
		seed := make([]byte, 129)
		r.Read(seed)
		f.Add(seed)
	}
	f.Add(slices.Repeat([]byte{255}, 129))
	f.Add(make([]byte, 129))
	f.Fuzz(func(t *testing.T, seed []byte) {
		if len(seed) != 129 {
			return
		}
		a, b := cut(new(big.Int).SetBytes(seed[:32])), cut(new(big.Int).SetBytes(seed[32:64]))
		x := new(big.Int).SetBytes(seed[64:96])
		raw := api.Point{X: cut(x), Y: cut(new(big.Int).SetBytes(seed[96:128])), Zero: seed[128]&1 == 1}
		wantOn(t, raw)
		p, ok := evenAt(x)
		if got, lifted := point.Lift(highFirst(x)); got != p || lifted != ok {
			t.Errorf("lifted of %x: %v, %t, not %v, %t", x, got, lifted, p, ok)
		}
		if !isPoint(raw) {
			raw = zero
		}
		q := sum(raw, base)
		want(t, "Add", point.Add(p, q), sum(p, q), p, q)
		want(t, "Both", point.Both(a, p, b, q), sum(multiple(a, p), multiple(b, q)), a, p, b, q)
	})
}
