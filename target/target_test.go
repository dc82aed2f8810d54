package target_test

import (
	"encoding/hex"
	"math"
	"math/big"
	"math/rand"
	"slices"
	"testing"

	"entail/api"
	"entail/target"
	"entail/wide"
)

// The numbers of the chapter are written out here and not taken from api.
const (
	easy  = 0x207fffff
	sign  = 0x800000
	turn  = 4800
	least = 1200
	most  = 19200
)

var (
	nought = new(big.Int)
	one    = big.NewInt(1)
	beyond = power(256)
)

// power: 2^n.
func power(n int) *big.Int { return new(big.Int).Lsh(one, uint(n)) }

// times: m times 2^n.
func times(m int64, n int) *big.Int { return new(big.Int).Lsh(big.NewInt(m), uint(n)) }

// beside: a number, and so much.
func beside(a *big.Int, d int64) *big.Int { return new(big.Int).Add(a, big.NewInt(d)) }

// digits: a number that is written in hexadecimal digits.
func digits(s string) *big.Int {
	a, ok := new(big.Int).SetString(s, 16)
	if !ok {
		panic(s)
	}
	return a
}

// cut: a number as a wide one.
func cut(a *big.Int) api.Wide {
	if a.Sign() < 0 || a.Cmp(beyond) >= 0 {
		panic("no room for " + a.String())
	}
	return wide.Read([32]byte(a.FillBytes(make([]byte, 32))))
}

// endless: a wide number as one without end.
func endless(a api.Wide) *big.Int {
	b := wide.Bytes(a)
	return new(big.Int).SetBytes(b[:])
}

// hashed: a number as a hash, the last byte the highest.
func hashed(a *big.Int) [32]byte {
	b := wide.Bytes(cut(a))
	slices.Reverse(b[:])
	return b
}

// expandByWords: the target that bits tell, as the chapter's words say it; nil, if they tell none.
func expandByWords(bits uint32) *big.Int {
	e, m := uint(bits>>24), int64(bits%(1<<23))
	t := new(big.Int).Lsh(big.NewInt(m), 8*e)
	t.Rsh(t, 24)
	if bits>>23%2 == 1 || t.Sign() == 0 || t.Cmp(beyond) >= 0 {
		return nil
	}
	return t
}

// compactByWords: the bits of a target, as the chapter's words say them.
func compactByWords(t *big.Int) uint32 {
	b := t.Bytes()
	n := uint32(len(b))
	b = append(b, 0, 0, 0)
	m := uint32(b[0])<<16 | uint32(b[1])<<8 | uint32(b[2])
	if m >= 0x800000 {
		m, n = m/256, n+1
	}
	return n*(1<<24) + m
}

// workByWords: the work of bits, as the chapter's words say it.
func workByWords(bits uint32) *big.Int {
	t := expandByWords(bits)
	if t == nil {
		return nought
	}
	return new(big.Int).Div(beyond, beside(t, 1))
}

// nextByWords: the bits behind a window, as the chapter's words say them.
func nextByWords(bits uint32, span int64) uint32 {
	t := expandByWords(bits)
	if t == nil {
		return easy
	}
	if span < least {
		span = least
	}
	if span > most {
		span = most
	}
	t.Div(t, big.NewInt(turn)).Mul(t, big.NewInt(span))
	if easiest := expandByWords(easy); t.Cmp(easiest) > 0 {
		t = easiest
	}
	return compactByWords(t)
}

// edges: all bits with each of the highest 8 and the lowest at their edges, with the 24th of them and without.
func edges() []uint32 {
	var l []uint32
	for e := range uint32(256) {
		for _, m := range []uint32{0, 1, 2, 0x7f, 0x80, 0xff, 0x100, 0x7fff, 0x8000, 0xffff, 0x10000, 0x123456, 0x7fff00, 0x7ffffe, 0x7fffff} {
			l = append(l, e<<24|m, e<<24|sign|m)
		}
	}
	return l
}

// telling: those of the edges that tell a target.
func telling() []uint32 {
	return slices.DeleteFunc(edges(), func(bits uint32) bool { return expandByWords(bits) == nil })
}

// byChance: bits, most of which tell a target.
func byChance(r *rand.Rand) uint32 {
	if r.Intn(4) == 0 {
		return r.Uint32()
	}
	return uint32(r.Intn(36))<<24 | r.Uint32()&0x7fffff>>r.Intn(23)
}

// targetByChance: a number of any length.
func targetByChance(r *rand.Rand) *big.Int {
	return new(big.Int).Rand(r, power(r.Intn(257)))
}

// targets: 0, numbers of each count of bytes from 1 to 32 with the highest one about 80, and with what is below it empty, full and mixed; the powers of two with their neighbours.
func targets() []*big.Int {
	l := []*big.Int{nought}
	for n := 1; n <= 32; n++ {
		for _, top := range []byte{1, 2, 0x7e, 0x7f, 0x80, 0x81, 0xfe, 0xff} {
			for _, below := range []byte{0, 1, 0x7f, 0x80, 0xff} {
				b := slices.Repeat([]byte{below}, n)
				b[0] = top
				l = append(l, new(big.Int).SetBytes(b))
			}
			b := make([]byte, n)
			for i := range b {
				b[i] = byte(0x12 + 0x22*i)
			}
			b[0] = top
			l = append(l, new(big.Int).SetBytes(b))
		}
	}
	for n := range 257 {
		for d := int64(-1); d <= 1; d++ {
			if a := beside(power(n), d); a.Cmp(beyond) < 0 {
				l = append(l, a)
			}
		}
	}
	return l
}

// spans: about a quarter of 4800, 4800 itself, four times 4800, below 0, and the greatest and smallest.
func spans() []int64 {
	return []int64{
		math.MinInt64, math.MinInt64 + 1, -1 << 32, -19200, -4800, -1200, -1, 0, 1, 600, 1198, 1199, 1200, 1201, 2400,
		4799, 4800, 4801, 9600, 19199, 19200, 19201, 38400, 1<<32 + 1300, math.MaxInt64 - 1, math.MaxInt64,
	}
}

// P10.1, L1: Expand.

func wantExpand(t *testing.T, bits uint32, want *big.Int) {
	t.Helper()
	if got, e := target.Expand(bits); got != cut(want) || e != api.OK {
		t.Errorf("Expand of %08x: %x, %d; not %x", bits, endless(got), e, want)
	}
}

func wrongExpand(t *testing.T, bits uint32) {
	t.Helper()
	if got, e := target.Expand(bits); got != (api.Wide{}) || e != api.ErrForm {
		t.Errorf("Expand of %08x: %x, %d; not 0 and ErrForm", bits, endless(got), e)
	}
}

func expandLikeTheWords(t *testing.T, bits uint32) {
	t.Helper()
	if want := expandByWords(bits); want != nil {
		wantExpand(t, bits, want)
	} else {
		wrongExpand(t, bits)
	}
}

func TestExpand(t *testing.T) {
	wantExpand(t, easy, times(0x7fffff, 8*29))
	wantExpand(t, 0x1d00ffff, times(0xffff, 8*26))
	wantExpand(t, 0x1b0404cb, digits("404cb000000000000000000000000000000000000000000000000"))
	wantExpand(t, 0x20123456, times(0x123456, 8*29))
	wantExpand(t, 0x05009234, big.NewInt(0x92340000))
	wantExpand(t, 0x04123456, big.NewInt(0x12345600))
	wantExpand(t, 0x03123456, big.NewInt(0x123456))
	wantExpand(t, 0x03000001, one)
	// The same target, told in several ways.
	for _, bits := range []uint32{0x01120000, 0x01123456, 0x02001200, 0x020012ff, 0x03000012} {
		wantExpand(t, bits, big.NewInt(0x12))
	}
}

func TestExpandBelowThree(t *testing.T) {
	wantExpand(t, 0x02123456, big.NewInt(0x1234))
	wantExpand(t, 0x027fffff, big.NewInt(0x7fff))
	wantExpand(t, 0x02008000, big.NewInt(0x80))
	wantExpand(t, 0x02000100, one)
	wantExpand(t, 0x020001ff, one)
	wantExpand(t, 0x017fffff, big.NewInt(0x7f))
	wantExpand(t, 0x01010000, one)
	wantExpand(t, 0x0101ffff, one)
	// Nothing is left of these.
	for _, bits := range []uint32{0x020000ff, 0x02000001, 0x0100ffff, 0x01008000, 0x01000001, 0x007fffff, 0x00123456, 0x00010000, 0x00000001} {
		wrongExpand(t, bits)
	}
}

func TestExpandOfNought(t *testing.T) {
	for e := range uint32(256) {
		wrongExpand(t, e<<24)
		wrongExpand(t, e<<24|sign)
	}
}

func TestExpandAboutTheGreatest(t *testing.T) {
	wantExpand(t, 0x207fffff, times(0x7fffff, 232))
	wantExpand(t, 0x2100ffff, times(0xffff, 240))
	wantExpand(t, 0x21008000, power(255))
	wantExpand(t, 0x21000001, power(240))
	wantExpand(t, 0x220000ff, times(0xff, 248))
	wantExpand(t, 0x22000080, power(255))
	wantExpand(t, 0x22000001, power(248))
	for _, bits := range []uint32{
		0x21010000, 0x21010001, 0x217fffff, 0x22000100, 0x220001ff, 0x2200ffff, 0x22010000, 0x227fffff,
		0x23000001, 0x230000ff, 0x237fffff, 0x24000001, 0x24000100, 0x247fffff, 0x40000001, 0x7f000001, 0x80000001, 0x807fffff, 0xff000001, 0xff123456, 0xff7fffff,
	} {
		wrongExpand(t, bits)
	}
}

func TestExpandOfTheBitThatTellsNone(t *testing.T) {
	for _, bits := range []uint32{0x00923456, 0x01803456, 0x01fedcba, 0x02923456, 0x03800001, 0x04923456, 0x1d80ffff, 0x20ffffff, 0x2180ffff, 0xffffffff} {
		wrongExpand(t, bits)
	}
	for _, bits := range telling() {
		wrongExpand(t, bits|sign)
	}
}

func TestExpandLikeTheWords(t *testing.T) {
	for _, bits := range edges() {
		expandLikeTheWords(t, bits)
	}
	for e := range uint32(40) {
		for m := uint32(0); m < 1<<24; m += 4099 {
			expandLikeTheWords(t, e<<24|m)
		}
	}
	r := rand.New(rand.NewSource(101))
	for range 20000 {
		expandLikeTheWords(t, byChance(r))
	}
}

// P10.1, L1: Compact.

func wantCompact(t *testing.T, a *big.Int, want uint32) {
	t.Helper()
	if bits := target.Compact(cut(a)); bits != want {
		t.Errorf("Compact of %x: %08x, not %08x", a, bits, want)
	}
}

func TestCompact(t *testing.T) {
	wantCompact(t, nought, 0)
	wantCompact(t, one, 0x01010000)
	wantCompact(t, big.NewInt(0x12), 0x01120000)
	wantCompact(t, big.NewInt(127), 0x017f0000)
	wantCompact(t, big.NewInt(128), 0x02008000)
	wantCompact(t, big.NewInt(255), 0x0200ff00)
	wantCompact(t, big.NewInt(256), 0x02010000)
	wantCompact(t, big.NewInt(0x1234), 0x02123400)
	wantCompact(t, big.NewInt(0x7fff), 0x027fff00)
	wantCompact(t, big.NewInt(0x8000), 0x03008000)
	wantCompact(t, big.NewInt(0xffee), 0x0300ffee)
	wantCompact(t, big.NewInt(0x123456), 0x03123456)
	wantCompact(t, big.NewInt(0x7fffff), 0x037fffff)
	wantCompact(t, big.NewInt(0x800000), 0x04008000)
	wantCompact(t, big.NewInt(0xffeedd), 0x0400ffee)
	wantCompact(t, big.NewInt(0x12345600), 0x04123456)
	wantCompact(t, big.NewInt(0x123456ff), 0x04123456)
	wantCompact(t, big.NewInt(0x92345678), 0x05009234)
	wantCompact(t, times(0xffff, 8*26), 0x1d00ffff)
	wantCompact(t, digits("404cb000000000000000000000000000000000000000000000000"), 0x1b0404cb)
}

func TestCompactOfTheGreatest(t *testing.T) {
	wantCompact(t, times(0x7fffff, 232), easy)
	wantCompact(t, beside(power(255), -1), easy)
	wantCompact(t, power(255), 0x21008000)
	wantCompact(t, times(0xffff, 240), 0x2100ffff)
	wantCompact(t, beside(beyond, -1), 0x2100ffff)
	wantCompact(t, power(248), 0x20010000)
	wantCompact(t, beside(power(248), -1), 0x2000ffff)
}

// Of each count of bytes, with the highest one below 80, at it and above.
func TestCompactOfEachLength(t *testing.T) {
	for n := 3; n <= 32; n++ {
		for low := range int64(3) {
			rest := beside(power(8*(n-3)), -1)
			if low < 2 {
				rest = big.NewInt(low * int64(min(n-3, 1)))
			}
			add := func(m int64) *big.Int { return new(big.Int).Add(times(m, 8*(n-3)), rest) }
			wantCompact(t, add(0x010203), uint32(n)<<24|0x010203)
			wantCompact(t, add(0x7f80ff), uint32(n)<<24|0x7f80ff)
			wantCompact(t, add(0x7fffff), uint32(n)<<24|0x7fffff)
			wantCompact(t, add(0x800000), uint32(n+1)<<24|0x8000)
			wantCompact(t, add(0x8000ff), uint32(n+1)<<24|0x8000)
			wantCompact(t, add(0x8101ff), uint32(n+1)<<24|0x8101)
			wantCompact(t, add(0xffffff), uint32(n+1)<<24|0xffff)
		}
	}
}

func TestCompactLikeTheWords(t *testing.T) {
	for _, a := range targets() {
		wantCompact(t, a, compactByWords(a))
	}
	for n := range int64(70000) {
		wantCompact(t, big.NewInt(n), compactByWords(big.NewInt(n)))
	}
	r := rand.New(rand.NewSource(102))
	for range 20000 {
		a := targetByChance(r)
		wantCompact(t, a, compactByWords(a))
	}
}

// P10.1, L1: Meets.

func wantMeets(t *testing.T, hash [32]byte, bits uint32, want bool) {
	t.Helper()
	if got := target.Meets(hash, bits); got != want {
		t.Errorf("Meets of %x and %08x: %v", hash, bits, got)
	}
}

func TestMeets(t *testing.T) {
	wantMeets(t, [32]byte{}, easy, true)
	wantMeets(t, [32]byte{}, 0x01010000, true)
	wantMeets(t, [32]byte{0: 1}, 0x01010000, true)
	wantMeets(t, [32]byte{0: 2}, 0x01010000, false)
	wantMeets(t, [32]byte{29: 0xff, 30: 0xff, 31: 0x7f}, easy, true)
	wantMeets(t, [32]byte{0: 1, 29: 0xff, 30: 0xff, 31: 0x7f}, easy, false)
	wantMeets(t, [32]byte{31: 0x80}, easy, false)
	wantMeets(t, [32]byte{31: 0x80}, 0x21008000, true)
	wantMeets(t, hashed(beside(beyond, -1)), 0x2100ffff, false)
	wantMeets(t, hashed(beside(beyond, -1)), 0x220000ff, false)
}

// alone: a hash of noughts but for one byte.
func alone(place int, x byte) [32]byte {
	var hash [32]byte
	hash[place] = x
	return hash
}

// The last byte is the highest, the first one the lowest.
func TestMeetsByTheLastByte(t *testing.T) {
	for n := range 32 {
		// The target is 1 at the place n alone.
		bits := uint32(n+1)<<24 | 0x010000
		for i := range 32 {
			wantMeets(t, alone(i, 1), bits, i <= n)
			wantMeets(t, alone(i, 2), bits, i < n)
			wantMeets(t, alone(i, 0xff), bits, i < n)
		}
	}
}

// The name of a header that is known from elsewhere, and the bits that it was to meet.
func TestMeetsOfAKnownName(t *testing.T) {
	b, _ := hex.DecodeString("6fe28c0ab6f1b372c1a6a246ae63f74f931e8365e15a089c68d6190000000000")
	wantMeets(t, [32]byte(b), 0x1d00ffff, true)
	wantMeets(t, [32]byte(b), 0x1b19d668, false)
	wantMeets(t, [32]byte(b), 0x1b19d669, true)
	wantMeets(t, [32]byte(b), 0x1b0404cb, false)
	slices.Reverse(b)
	wantMeets(t, [32]byte(b), 0x1d00ffff, false)
}

// meetsAbout: hashes at the target, one below it and one above it.
func meetsAbout(t *testing.T, bits uint32) {
	t.Helper()
	a := expandByWords(bits)
	wantMeets(t, hashed(a), bits, true)
	wantMeets(t, hashed(beside(a, -1)), bits, true)
	wantMeets(t, hashed(beside(a, 1)), bits, false)
	wantMeets(t, hashed(nought), bits, true)
	wantMeets(t, hashed(beside(beyond, -1)), bits, false)
}

func TestMeetsAboutTheTarget(t *testing.T) {
	for _, bits := range telling() {
		meetsAbout(t, bits)
	}
	r := rand.New(rand.NewSource(103))
	for range 20000 {
		if bits := byChance(r); expandByWords(bits) != nil {
			meetsAbout(t, bits)
		}
	}
}

// Bits that tell no target are met by no hash.
func TestMeetsOfNoTarget(t *testing.T) {
	for _, bits := range edges() {
		if expandByWords(bits) == nil {
			wantMeets(t, [32]byte{}, bits, false)
			wantMeets(t, [32]byte{0: 1}, bits, false)
			wantMeets(t, hashed(beside(beyond, -1)), bits, false)
		}
	}
}

func TestMeetsLikeTheWords(t *testing.T) {
	r := rand.New(rand.NewSource(104))
	met := 0
	for range 30000 {
		bits, hash := byChance(r), targetByChance(r)
		a := expandByWords(bits)
		want := a != nil && hash.Cmp(a) <= 0
		wantMeets(t, hashed(hash), bits, want)
		if want {
			met++
		}
	}
	if met < 3000 || met > 27000 {
		t.Errorf("%d of the bits were met", met)
	}
}

// P10.1, L1: Work.

func wantWork(t *testing.T, bits uint32, want *big.Int) {
	t.Helper()
	if got := target.Work(bits); got != cut(want) {
		t.Errorf("Work of %08x: %x, not %x", bits, endless(got), want)
	}
}

func TestWork(t *testing.T) {
	wantWork(t, easy, big.NewInt(2))
	wantWork(t, 0x1d00ffff, big.NewInt(0x100010001))
	wantWork(t, 0x1f7fffff, big.NewInt(0x200))
	wantWork(t, 0x20010000, big.NewInt(0xff))
	// The target 1, told in several ways, and others of which 2^256 is or is not a multiple.
	for _, bits := range []uint32{0x01010000, 0x0101ffff, 0x02000100, 0x020001ff, 0x03000001} {
		wantWork(t, bits, power(255))
	}
	wantWork(t, 0x03000002, new(big.Int).Div(beyond, big.NewInt(3)))
	wantWork(t, 0x03000003, power(254))
	wantWork(t, 0x017f0000, power(249))
	wantWork(t, 0x0200ff00, power(248))
	wantWork(t, 0x02010000, new(big.Int).Div(beyond, big.NewInt(257)))
	wantWork(t, 0x027fff00, power(241))
	wantWork(t, 0x0300ffff, power(240))
	wantWork(t, 0x037fffff, power(233))
}

func TestWorkOfTheGreatest(t *testing.T) {
	wantWork(t, 0x2100ffff, one)
	wantWork(t, 0x220000ff, one)
	wantWork(t, 0x21008000, one)
	wantWork(t, 0x22000080, one)
	wantWork(t, 0x207ffffe, big.NewInt(2))
	wantWork(t, 0x20555556, big.NewInt(2))
	wantWork(t, 0x20555555, big.NewInt(3))
	wantWork(t, 0x20400000, big.NewInt(3))
	wantWork(t, 0x203fffff, big.NewInt(4))
}

func TestWorkOfNoTarget(t *testing.T) {
	for _, bits := range []uint32{0, 1, 0x00123456, 0x020000ff, 0x03000000, 0x04923456, 0x20ffffff, 0x21010000, 0x22000100, 0x23000001, 0xff123456, 0xffffffff} {
		wantWork(t, bits, nought)
	}
}

func TestWorkLikeTheWords(t *testing.T) {
	for _, bits := range edges() {
		wantWork(t, bits, workByWords(bits))
	}
	r := rand.New(rand.NewSource(105))
	for range 20000 {
		bits := byChance(r)
		wantWork(t, bits, workByWords(bits))
	}
}

// P10.1, L2: Next.

func wantNext(t *testing.T, bits uint32, span int64, want uint32) {
	t.Helper()
	if got := target.Next(bits, span); got != want {
		t.Errorf("Next of %08x and %d: %08x, not %08x", bits, span, got, want)
	}
}

func TestNext(t *testing.T) {
	// 4800 times 2^240 and 4800 times 2^8: each share is a power of two.
	for _, x := range []struct {
		span int64
		want uint32
	}{{1200, 0x1f04b000}, {2400, 0x1f096000}, {4799, 0x1f12bf00}, {4800, 0x1f12c000}, {4801, 0x1f12c100}, {9600, 0x1f258000}, {19199, 0x1f4aff00}, {19200, 0x1f4b0000}} {
		wantNext(t, 0x1f12c000, x.span, x.want)
		wantNext(t, 0x0312c000, x.span, 0x03000000|x.want&0xffffff)
	}
	// What is left of the division is dropped ahead of multiplying: so many seconds as are wanted may make it harder.
	wantNext(t, 0x1d00ffff, turn, 0x1d00fffe)
	wantNext(t, 0x1b0404cb, turn, 0x1b0404ca)
	wantNext(t, 0x0312c0ff, 2*turn, 0x03258000)
	wantNext(t, 0x0312d2bf, 2*turn, 0x03258000)
	wantNext(t, 0x0312d2c0, 2*turn, 0x0325a580)
}

func TestNextCountsSpansWithinTheirEnds(t *testing.T) {
	for _, span := range []int64{1199, 1198, 600, 1, 0, -1, -1200, -4800, -19200, -1 << 32, math.MinInt64 + 1, math.MinInt64} {
		wantNext(t, 0x1f12c000, span, 0x1f04b000)
	}
	for _, span := range []int64{19201, 19202, 38400, 99999, 1 << 32, 1<<32 + 1300, math.MaxInt64 - 1, math.MaxInt64} {
		wantNext(t, 0x1f12c000, span, 0x1f4b0000)
	}
	// Those just within them do count.
	wantNext(t, 0x1f12c000, 1201, 0x1f04b100)
	wantNext(t, 0x1f12c000, 19199, 0x1f4aff00)
}

func TestNextOfTargetsBelowAWindow(t *testing.T) {
	for _, span := range spans() {
		wantNext(t, 0x01010000, span, 0)
		wantNext(t, 0x017f0000, span, 0)
		wantNext(t, 0x0200ff00, span, 0)
		wantNext(t, 0x0212bf00, span, 0)
	}
	// The target 4800 itself, and the last one whose share is 1.
	for _, bits := range []uint32{0x0212c000, 0x02257f00} {
		wantNext(t, bits, least, 0x0204b000)
		wantNext(t, bits, turn, 0x0212c000)
		wantNext(t, bits, most, 0x024b0000)
	}
	wantNext(t, 0x02258000, turn, 0x02258000)
}

func TestNextAboutTheEasiest(t *testing.T) {
	wantNext(t, easy, turn, 0x207ffffe)
	wantNext(t, easy, turn+1, easy)
	wantNext(t, easy, most, easy)
	wantNext(t, easy, least, 0x201fffff)
	wantNext(t, 0x201fffff, most, 0x207ffffb)
	wantNext(t, 0x20200000, most, 0x207fffff)
	wantNext(t, 0x20200001, most, easy)
	wantNext(t, 0x20400000, most, easy)
	// Targets that are above the easiest already.
	wantNext(t, 0x21008000, turn, easy)
	wantNext(t, 0x21008000, turn-1, 0x207ff92c)
	wantNext(t, 0x2100ffff, turn, easy)
	wantNext(t, 0x2100ffff, least, 0x203fffbf)
	wantNext(t, 0x220000ff, least, 0x203fbfff)
}

// The lowest 256 bits of these products are below the easiest target, some of them 0 but for what the division dropped.
func TestNextOfProductsWithoutRoom(t *testing.T) {
	for _, bits := range []uint32{0x20400001, 0x20400002, 0x20400100, 0x20500000, 0x205fffff, 0x2100a000, 0x21008001, 0x2100c001, 0x22000090, 0x220000d0, 0x2100ffff, 0x220000ff} {
		for _, span := range []int64{most, most + 1, math.MaxInt64} {
			wantNext(t, bits, span, easy)
		}
	}
	for _, bits := range []uint32{0x2100ffff, 0x220000ff, 0x2100c000, 0x2100aaab, 0x21008001} {
		for span := int64(2 * turn); span < most; span += 77 {
			wantNext(t, bits, span, easy)
		}
	}
}

func TestNextOfNoTarget(t *testing.T) {
	for _, bits := range edges() {
		if expandByWords(bits) == nil {
			for _, span := range []int64{math.MinInt64, 0, least, turn, most, math.MaxInt64} {
				wantNext(t, bits, span, easy)
			}
		}
	}
}

func TestNextLikeTheWords(t *testing.T) {
	for _, bits := range telling() {
		for _, span := range spans() {
			wantNext(t, bits, span, nextByWords(bits, span))
		}
	}
	r := rand.New(rand.NewSource(106))
	for range 50000 {
		bits, span := byChance(r), r.Int63n(20000)
		if r.Intn(8) == 0 {
			span = int64(r.Uint64())
		}
		wantNext(t, bits, span, nextByWords(bits, span))
	}
}

// P10.1: the chapter's examples.
func TestExamples(t *testing.T) {
	wantExpand(t, 0x207fffff, digits("7fffff"+"0000000000000000000000000000000000000000000000000000000000"))
	wantWork(t, 0x207fffff, big.NewInt(2))
	wantCompact(t, big.NewInt(128), 0x02008000)
}

// P10.2: there and back.

// thereAndBack: the bits of a target tell its highest three bytes, or two, if the highest is 80 or above, and noughts below; told again they are the same.
func thereAndBack(t *testing.T, a *big.Int) {
	t.Helper()
	b := a.Bytes()
	keep := 3
	if b[0] >= 0x80 {
		keep = 2
	}
	if keep < len(b) {
		clear(b[keep:])
	}
	bits := target.Compact(cut(a))
	wantExpand(t, bits, new(big.Int).SetBytes(b))
	back, _ := target.Expand(bits)
	if again := target.Compact(back); again != bits {
		t.Errorf("the bits %08x of %x, told again: %08x", bits, a, again)
	}
}

func TestThereAndBack(t *testing.T) {
	for _, a := range targets() {
		if a.Sign() > 0 {
			thereAndBack(t, a)
		}
	}
	for n := int64(1); n < 70000; n++ {
		thereAndBack(t, big.NewInt(n))
	}
	r := rand.New(rand.NewSource(121))
	for range 50000 {
		if a := targetByChance(r); a.Sign() > 0 {
			thereAndBack(t, a)
		}
	}
}

// The bits of 0 tell none; what stands beside the error is 0, and its bits are the same.
func TestThereAndBackOfNought(t *testing.T) {
	bits := target.Compact(api.Wide{})
	back, e := target.Expand(bits)
	if bits != 0 || e != api.ErrForm || target.Compact(back) != bits {
		t.Errorf("0: %08x, %v, %d", bits, back, e)
	}
}

// backAndThere: the bits of a target that bits tell, tell it again, without loss.
func backAndThere(t *testing.T, bits uint32) {
	t.Helper()
	a, e := target.Expand(bits)
	if e != api.OK {
		return
	}
	own := target.Compact(a)
	if again, e := target.Expand(own); again != a || e != api.OK {
		t.Errorf("%08x tells %x, whose bits %08x tell %x, %d", bits, endless(a), own, endless(again), e)
	}
	if again := target.Compact(a); again != own {
		t.Errorf("%08x and %08x are the bits of one target", own, again)
	}
}

func TestBackAndThere(t *testing.T) {
	for _, bits := range telling() {
		backAndThere(t, bits)
	}
	r := rand.New(rand.NewSource(122))
	for range 50000 {
		backAndThere(t, byChance(r))
	}
	// These are already told as a target's own bits are.
	for _, bits := range []uint32{easy, 0x1d00ffff, 0x1b0404cb, 0x02008000, 0x01120000, 0x04123456, 0x05009234, 0x2100ffff, 0x037fffff, 0x01010000} {
		a, _ := target.Expand(bits)
		if own := target.Compact(a); own != bits {
			t.Errorf("%08x has become %08x", bits, own)
		}
	}
}

// P10.3: harder.

func TestASmallerTargetHasNoLessWork(t *testing.T) {
	l := telling()
	r := rand.New(rand.NewSource(131))
	for range 20000 {
		if bits := byChance(r); expandByWords(bits) != nil {
			l = append(l, bits, target.Compact(cut(beside(expandByWords(bits), -1))))
		}
	}
	l = slices.DeleteFunc(l, func(bits uint32) bool { return expandByWords(bits) == nil })
	// From the smallest target to the greatest.
	slices.SortFunc(l, func(a, b uint32) int { return expandByWords(a).Cmp(expandByWords(b)) })
	for i := 1; i < len(l); i++ {
		harder, easier := target.Work(l[i-1]), target.Work(l[i])
		if wide.Cmp(harder, easier) < 0 {
			t.Fatalf("the work of %08x is %x, that of %08x %x", l[i-1], endless(harder), l[i], endless(easier))
		}
		if expandByWords(l[i-1]).Cmp(expandByWords(l[i])) == 0 && harder != easier {
			t.Fatalf("%08x and %08x tell one target, but %x and %x work", l[i-1], l[i], endless(harder), endless(easier))
		}
		if easier == (api.Wide{}) {
			t.Fatalf("%08x is no work", l[i])
		}
	}
}

func TestTwoTargets(t *testing.T) {
	for _, x := range [][2]uint32{{0x1d00fffe, 0x1d00ffff}, {0x1f7fffff, 0x20008000}, {0x1c00ffff, 0x1d00ffff}, {0x01010000, 0x01020000}, {0x0200ff00, 0x02010000}, {0x207fffff, 0x21008000}} {
		if wide.Cmp(target.Work(x[0]), target.Work(x[1])) <= 0 {
			t.Errorf("%08x is no more work than %08x", x[0], x[1])
		}
	}
}

// R4: what is handed in is not changed.
func TestNothingIsChanged(t *testing.T) {
	hash := [32]byte{0: 1, 7: 9, 30: 4, 31: 2}
	a := api.Wide{1, 2, 3, 4}
	for _, bits := range append(telling(), 0) {
		x, y, z := hash, a, bits
		target.Expand(z)
		target.Compact(y)
		target.Meets(x, z)
		target.Work(z)
		target.Next(z, turn)
		if x != hash || y != a || z != bits {
			t.Fatalf("%x, %v and %08x have become %x, %v and %08x", hash, a, bits, x, y, z)
		}
	}
	// A hash among others, of which a piece is handed in.
	l := [][32]byte{hash, {31: 1}, hash}
	target.Meets(l[1], easy)
	if !slices.Equal(l, [][32]byte{hash, {31: 1}, hash}) {
		t.Errorf("hashes have become %x", l)
	}
}

// R5: a call ahead is nothing to the next one.
func TestCallsHangOnTheirArgumentsAlone(t *testing.T) {
	for range 3 {
		wrongExpand(t, 0)
		wantExpand(t, easy, times(0x7fffff, 232))
		wantWork(t, 0, nought)
		wantWork(t, easy, big.NewInt(2))
		wantNext(t, 0, turn, easy)
		wantNext(t, 0x1f12c000, turn, 0x1f12c000)
		wantMeets(t, [32]byte{31: 0x80}, easy, false)
		wantMeets(t, [32]byte{31: 0x7f}, easy, true)
		wantCompact(t, big.NewInt(128), 0x02008000)
	}
}

// R1, P10.1: any bits, any hash, any span.
func FuzzTarget(f *testing.F) {
	f.Add(uint32(easy), []byte{1}, int64(turn))
	f.Add(uint32(0), []byte{}, int64(math.MinInt64))
	f.Add(uint32(0x2100ffff), []byte{255, 255}, int64(math.MaxInt64))
	f.Fuzz(func(t *testing.T, bits uint32, b []byte, span int64) {
		var hash [32]byte
		copy(hash[:], b)
		expandLikeTheWords(t, bits)
		wantWork(t, bits, workByWords(bits))
		wantNext(t, bits, span, nextByWords(bits, span))
		slices.Reverse(hash[:])
		a := new(big.Int).SetBytes(hash[:])
		wantCompact(t, a, compactByWords(a))
		known := expandByWords(bits)
		wantMeets(t, hashed(a), bits, known != nil && a.Cmp(known) <= 0)
	})
}
