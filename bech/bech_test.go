package bech_test

import (
	"bytes"
	"fmt"
	"math/rand"
	"slices"
	"strings"
	"testing"
	"unsafe"

	"entail/api"
	"entail/bech"
)

// The chapter's words, written out once more.
const (
	letters = "qpzry9x8gf2tvdw0s3jn54khce6mua7l"
	small   = "abcdefghijklmnopqrstuvwxyz"
	whole   = 0x2bc830a3
)

// times: the product in the field of 32 numbers in which a^5 is a^3 + 1.
func times(a, b byte) byte {
	var n byte
	for range 5 {
		if b&1 == 1 {
			n ^= a
		}
		b >>= 1
		a <<= 1
		if a&32 != 0 {
			a ^= 41
		}
	}
	return n
}

// remainder: the check, worked out otherwise: 1 and the numbers behind it are the coefficients of a polynomial over that field, of which the remainder by x^6 + 29x^5 + 22x^4 + 20x^3 + 21x^2 + 29x + 18 is left.
func remainder(l []byte) uint32 {
	divisor := [6]byte{29, 22, 20, 21, 29, 18}
	left := [6]byte{0, 0, 0, 0, 0, 1}
	for _, v := range l {
		top := left[0]
		copy(left[:], left[1:])
		left[5] = v % 32
		for i := range left {
			left[i] ^= times(top, divisor[i])
		}
	}
	var c uint32
	for _, v := range left {
		c = c<<5 | uint32(v)
	}
	return c
}

// row: the numbers whose check counts, but for the last six.
func row(head string, data []byte) []byte {
	var l []byte
	for _, c := range []byte(head) {
		l = append(l, c/32)
	}
	l = append(l, 0)
	for _, c := range []byte(head) {
		l = append(l, c%32)
	}
	return append(l, data...)
}

// spell: a text as a word is made, whatever its head and data are and whichever check it has.
func spell(head string, data []byte, check uint32) string {
	l := row(head, data)
	lack := remainder(append(slices.Clone(l), 0, 0, 0, 0, 0, 0)) ^ check
	s := head + "1"
	for _, v := range data {
		s += string(letters[v%32])
	}
	for shift := 25; shift >= 0; shift -= 5 {
		s += string(letters[lack>>shift&31])
	}
	return s
}

func word(head string, data []byte) string { return spell(head, data, whole) }

// figures: the numbers' bits as a text, the highest first.
func figures(l []byte, bits int) string {
	var s strings.Builder
	for _, v := range l {
		fmt.Fprintf(&s, "%0*b", bits, v)
	}
	return s.String()
}

// numbers: the numbers of a text of bits; it must be cut up whole.
func numbers(s string, bits int) []byte {
	l := []byte{}
	for ; s != ""; s = s[bits:] {
		var v byte
		for _, c := range s[:bits] {
			v = 2*v + byte(c-'0')
		}
		l = append(l, v)
	}
	return l
}

// spread: as Spread must be.
func spread(b []byte) []byte {
	s := figures(b, 8)
	for len(s)%5 != 0 {
		s += "0"
	}
	return numbers(s, 5)
}

// gathered: as Gather must be, and whether there is an answer.
func gathered(l []byte) ([]byte, bool) {
	for _, v := range l {
		if v > 31 {
			return nil, false
		}
	}
	s := figures(l, 5)
	full := len(s) / 8 * 8
	left := s[full:]
	return numbers(s[:full], 8), len(left) < 5 && !strings.Contains(left, "1")
}

// some: n numbers below top, others at each n.
func some(n, top int) []byte {
	chance := rand.New(rand.NewSource(int64(1000*n + top)))
	l := make([]byte, n)
	for i := range l {
		l[i] = byte(chance.Intn(top))
	}
	return l
}

// P4.1, C1: Check.

func wantCheck(t *testing.T, l []byte, want uint32) {
	t.Helper()
	if c := bech.Check(l); c != want {
		t.Errorf("Check of %d: %x, not %x", l, c, want)
	}
}

func TestCheckBySmallSteps(t *testing.T) {
	wantCheck(t, nil, 1)
	wantCheck(t, []byte{}, 1)
	wantCheck(t, []byte{0}, 32)
	wantCheck(t, []byte{1}, 33)
	wantCheck(t, []byte{31}, 63)
	wantCheck(t, []byte{0, 0, 0, 0, 0}, 1<<25)
	wantCheck(t, []byte{0, 0, 0, 0, 0, 0}, 0x3b6a57b2)
	// A bit of the first number leaves at the seventh, and leaves its number behind.
	without := bech.Check(make([]byte, 7))
	for i, turn := range []uint32{0x3b6a57b2, 0x26508e6d, 0x1ea119fa, 0x3d4233dd, 0x2a1462b3} {
		with := bech.Check([]byte{1 << i, 0, 0, 0, 0, 0, 0})
		if with^without != turn {
			t.Errorf("the bit %d leaves %x behind, not %x", i, with^without, turn)
		}
	}
}

func TestCheckIsARemainder(t *testing.T) {
	for n := range 200 {
		l := some(n, 32)
		wantCheck(t, l, remainder(l))
	}
	for a := range 32 {
		for b := range 32 {
			l := []byte{byte(a), byte(b), 0, 31, 1, byte(b), byte(a), 7}
			wantCheck(t, l, remainder(l))
		}
	}
}

func TestCheckTakesFiveBits(t *testing.T) {
	for v := range 256 {
		wantCheck(t, []byte{byte(v)}, uint32(32^v&31))
		wantCheck(t, []byte{3, byte(v), 9, 9, 9, 9, 9, 9}, remainder([]byte{3, byte(v & 31), 9, 9, 9, 9, 9, 9}))
	}
	for n := range 100 {
		l := some(n, 256)
		wantCheck(t, l, remainder(l))
	}
}

func TestCheckOfMany(t *testing.T) {
	l := bytes.Repeat(some(1000, 256), 300)
	wantCheck(t, l, remainder(l))
}

// P4.1, C1: Encode.

func wantWord(t *testing.T, head string, data []byte, want string) {
	t.Helper()
	if s, e := bech.Encode(head, data); s != want || e != api.OK {
		t.Errorf("Encode of %q and %d: %q, %d; not %q", head, data, s, e, want)
	}
}

func noWord(t *testing.T, head string, data []byte) {
	t.Helper()
	if s, e := bech.Encode(head, data); s != "" || e != api.ErrArg {
		t.Errorf("Encode of %q and %d: %q, %d; not ErrArg alone", head, data, s, e)
	}
}

// upDown: 0 to 31, and back to 0.
func upDown() []byte {
	var l []byte
	for i := range 32 {
		l = append(l, byte(i))
	}
	for i := range 32 {
		l = append(l, byte(31-i))
	}
	return l
}

// known: words of Bech32m that are known elsewhere.
var known = []struct {
	head, tail string
}{
	{"a", "lqfn3a"},
	{"abcdef", "l7aum6echk45nj3s0wdvt2fg8x9yrzpqzd3ryx"},
	{"split", "checkupstagehandshakeupstreamerranterredcaperredlc445v"},
	{"bc", "p0xlxvlhemja6c4dqv22uapctqupfhlxm9h8z3k2e72q4k9hcz7vqzk5jj0"},
	{"bc", "pw508d6qejxtdg4y5r3zarvary0c5xw7kw508d6qejxtdg4y5r3zarvary0c5xw7kt5nd6y"},
	{"bc", "sw50qgdz25j"},
	{"tb", "pqqqqp399et2xygdj5xreqhjjvcmzhxw4aywxecjdzew6hylgvsesf3hn0c"},
}

func dataOf(tail string) []byte {
	var l []byte
	for _, c := range []byte(tail[:len(tail)-6]) {
		l = append(l, byte(strings.IndexByte(letters, c)))
	}
	return l
}

func TestKnownWords(t *testing.T) {
	for _, k := range known {
		wantWord(t, k.head, dataOf(k.tail), k.head+"1"+k.tail)
		wantData(t, k.head+"1"+k.tail, k.head, dataOf(k.tail))
	}
}

func TestEncodeHeads(t *testing.T) {
	for n := 1; n <= 20; n++ {
		for _, head := range []string{strings.Repeat("a", n), strings.Repeat("z", n), small[:n], small[26-n:]} {
			wantWord(t, head, nil, word(head, nil))
			wantWord(t, head, []byte{0, 31, 1}, word(head, []byte{0, 31, 1}))
		}
	}
	for _, c := range small {
		wantWord(t, string(c), nil, word(string(c), nil))
	}
}

func TestEncodeWrongHeads(t *testing.T) {
	noWord(t, "", nil)
	noWord(t, "", []byte{1, 2})
	for n := 21; n < 60; n++ {
		noWord(t, strings.Repeat("a", n), nil)
	}
	noWord(t, strings.Repeat("a", 1<<20), nil)
	for c := range 256 {
		if strings.IndexByte(small, byte(c)) >= 0 {
			continue
		}
		stranger := string([]byte{byte(c)})
		noWord(t, stranger, nil)
		noWord(t, stranger+"en", []byte{1})
		noWord(t, "e"+stranger+"n", []byte{1})
		noWord(t, "en"+stranger, []byte{1})
	}
	noWord(t, "é", nil)
	noWord(t, "EN", nil)
}

func TestEncodeData(t *testing.T) {
	for n := range 81 {
		l := some(n, 32)
		wantWord(t, "en", l, word("en", l))
		wantWord(t, strings.Repeat("q", 20), l, word(strings.Repeat("q", 20), l))
	}
	wantWord(t, "a", []byte{}, "a1lqfn3a")
	wantWord(t, "a", bytes.Repeat([]byte{31}, 80), word("a", bytes.Repeat([]byte{31}, 80)))
	wantWord(t, "a", make([]byte, 80), word("a", make([]byte, 80)))
	wantWord(t, "a", upDown(), word("a", upDown()))
	for v := range 32 {
		wantWord(t, "a", []byte{byte(v)}, word("a", []byte{byte(v)}))
	}
}

func TestEncodeWrongData(t *testing.T) {
	for n := 81; n < 120; n++ {
		noWord(t, "en", make([]byte, n))
	}
	noWord(t, "en", make([]byte, 1<<20))
	for v := 32; v < 256; v++ {
		noWord(t, "a", []byte{byte(v)})
		noWord(t, "a", []byte{byte(v), 1, 2})
		noWord(t, "a", []byte{1, byte(v), 2})
		noWord(t, "a", []byte{1, 2, byte(v)})
	}
	noWord(t, "", []byte{32})
	noWord(t, "A", make([]byte, 81))
	for place := range 80 {
		l := make([]byte, 80)
		l[place] = 32
		noWord(t, "en", l)
	}
}

func TestWordsHaveTheirCheck(t *testing.T) {
	for n := range 81 {
		head, data := small[n%7:n%7+1+n%20], some(n, 32)
		s, e := bech.Encode(head, data)
		if e != api.OK || len(s) != len(head)+1+n+6 {
			t.Fatalf("Encode: %q, %d", s, e)
		}
		var last []byte
		for _, c := range []byte(s[len(s)-6:]) {
			last = append(last, byte(strings.IndexByte(letters, c)))
		}
		wantCheck(t, append(row(head, data), last...), whole)
	}
}

// P4.1, C1: Decode.

func wantData(t *testing.T, s, head string, data []byte) {
	t.Helper()
	if h, d, e := bech.Decode(s); h != head || !bytes.Equal(d, data) || e != api.OK {
		t.Errorf("Decode of %q: %q, %d, %d; not %q, %d", s, h, d, e, head, data)
	}
}

func noData(t *testing.T, s string) {
	t.Helper()
	if h, d, e := bech.Decode(s); h != "" || len(d) != 0 || e != api.ErrForm {
		t.Errorf("Decode of %q: %q, %d, %d; not ErrForm alone", s, h, d, e)
	}
}

func TestDecode(t *testing.T) {
	wantData(t, "a1lqfn3a", "a", nil)
	for n := range 81 {
		for _, head := range []string{"a", "en", strings.Repeat("z", 20)} {
			l := some(n, 32)
			wantData(t, word(head, l), head, l)
		}
	}
	for n := 1; n <= 20; n++ {
		wantData(t, word(small[:n], upDown()), small[:n], upDown())
	}
}

func TestDecodeOfTheLastOne(t *testing.T) {
	// No word has another 1, since no letter and no head has one.
	noData(t, "")
	noData(t, "1")
	noData(t, "11")
	noData(t, "a")
	noData(t, "lqfn3a")
	noData(t, "alqfn3a")
	noData(t, "1lqfn3a")
	noData(t, word("", nil))
	noData(t, word("", []byte{1, 2, 3}))
	noData(t, "a11lqfn3a")
	noData(t, "a1lqfn3a1")
	noData(t, "1a1lqfn3a")
	noData(t, "a1l1fn3a")
	noData(t, "1a1lqfn3a1lqfn3a")
	noData(t, word("1", nil))
	noData(t, word("a1", nil))
	noData(t, word("1a", []byte{5}))
	noData(t, word("a1b", []byte{5, 6}))
	noData(t, word("a1q", nil))
	// Too near the end: fewer than six behind it.
	for n := range 6 {
		noData(t, "a1"+strings.Repeat("q", n))
		noData(t, "a1lqfn3a"[:2+n])
		noData(t, "en1"+letters[:n])
	}
	for n := range 60 {
		noData(t, strings.Repeat("1", n))
		noData(t, strings.Repeat("q", n))
	}
}

func TestDecodeWrongParts(t *testing.T) {
	// All of these have the check of a word.
	noData(t, word(strings.Repeat("a", 21), nil))
	noData(t, word(strings.Repeat("a", 21), []byte{1, 2}))
	noData(t, word(strings.Repeat("a", 83), nil))
	noData(t, word("a", make([]byte, 81)))
	noData(t, word("a", some(82, 32)))
	noData(t, word(strings.Repeat("a", 20), some(81, 32)))
	noData(t, word("A", nil))
	noData(t, word("EN", []byte{1, 2}))
	noData(t, word("en!", []byte{1, 2}))
	noData(t, word("e n", []byte{1, 2}))
	noData(t, word("é", []byte{1, 2}))
	for c := range 256 {
		if strings.IndexByte(small, byte(c)) < 0 {
			noData(t, word(string([]byte{byte(c)}), []byte{1, 2}))
			noData(t, word("en"+string([]byte{byte(c)}), []byte{1, 2}))
		}
	}
}

func TestDecodeWrongChecks(t *testing.T) {
	for _, check := range []uint32{0, 1, whole ^ 1, whole ^ 1<<29, whole - 1, 1<<30 - 1} {
		noData(t, spell("a", []byte{1, 2, 3}, check))
		noData(t, spell("en", nil, check))
	}
	for bit := range 30 {
		noData(t, spell("en", some(20, 32), whole^1<<bit))
	}
	// Words of Bech32, and texts beside those of Bech32m.
	noData(t, "a12uel5l")
	noData(t, "abcdef1qpzry9x8gf2tvdw0s3jn54khce6mua7lmqqqxw")
	noData(t, "split1checkupstagehandshakeupstreamerranterredcaperred2y9e3w")
	noData(t, "in1muywd")
	noData(t, "mm1crxm3i")
	noData(t, "au1s5cgom")
	noData(t, "m1vuctha4m")
	noData(t, "y1b0jsk6g")
	noData(t, "lt1igcx5c0")
}

func TestDecodeOfAnyByteAnywhere(t *testing.T) {
	for _, s := range []string{word("en", nil), word("en", []byte{0, 31, 1, 30}), word("abz", some(12, 32))} {
		for place := range len(s) {
			for c := range 256 {
				if s[place] != byte(c) {
					noData(t, s[:place]+string([]byte{byte(c)})+s[place+1:])
				}
				noData(t, s[:place]+string([]byte{byte(c)})+s[place:])
			}
		}
		for place := range len(s) {
			noData(t, s[:place])
			noData(t, s[place+1:])
			noData(t, s[:place]+s[place+1:])
		}
		noData(t, s+s)
		noData(t, s+" ")
		noData(t, " "+s)
		noData(t, s+"\x00")
		noData(t, strings.ToUpper(s))
		noData(t, strings.ToUpper(s[:2])+s[2:])
		noData(t, s[:4]+strings.ToUpper(s[4:]))
	}
}

func TestDecodeOfLongTexts(t *testing.T) {
	noData(t, strings.Repeat("a", 1<<20))
	noData(t, "a1"+strings.Repeat("q", 1<<20))
	noData(t, strings.Repeat("a", 1<<20)+"1qqqqqq")
	noData(t, strings.Repeat("\xff", 1000))
	noData(t, word("a", some(3000, 32)))
}

// P4.1, C2: Spread and Gather.

func wantSpread(t *testing.T, b, want []byte) {
	t.Helper()
	if l := bech.Spread(b); !bytes.Equal(l, want) {
		t.Errorf("Spread of %d: %d, not %d", b, l, want)
	}
}

func wantGathered(t *testing.T, l, want []byte) {
	t.Helper()
	if b, e := bech.Gather(l); !bytes.Equal(b, want) || e != api.OK {
		t.Errorf("Gather of %d: %d, %d; not %d", l, b, e, want)
	}
}

func notGathered(t *testing.T, l []byte) {
	t.Helper()
	if b, e := bech.Gather(l); len(b) != 0 || e != api.ErrForm {
		t.Errorf("Gather of %d: %d, %d; not ErrForm alone", l, b, e)
	}
}

func TestSpread(t *testing.T) {
	wantSpread(t, nil, nil)
	wantSpread(t, []byte{}, nil)
	wantSpread(t, []byte{0}, []byte{0, 0})
	wantSpread(t, []byte{1}, []byte{0, 4})
	wantSpread(t, []byte{255}, []byte{31, 28})
	wantSpread(t, []byte{0, 1}, []byte{0, 0, 0, 16})
	wantSpread(t, []byte{255, 255}, []byte{31, 31, 31, 16})
	wantSpread(t, []byte{255, 255, 255}, []byte{31, 31, 31, 31, 30})
	wantSpread(t, []byte{255, 255, 255, 255}, []byte{31, 31, 31, 31, 31, 31, 24})
	wantSpread(t, []byte{255, 255, 255, 255, 255}, []byte{31, 31, 31, 31, 31, 31, 31, 31})
	wantSpread(t, []byte{8, 66, 16, 132, 33}, []byte{1, 1, 1, 1, 1, 1, 1, 1})
	for n := range 100 {
		b := some(n, 256)
		wantSpread(t, b, spread(b))
	}
	for v := range 1 << 16 {
		b := []byte{byte(v >> 8), byte(v)}
		wantSpread(t, b, spread(b))
	}
	b := bytes.Repeat(some(1000, 256), 50)
	wantSpread(t, b, spread(b))
}

func TestGather(t *testing.T) {
	wantGathered(t, nil, nil)
	wantGathered(t, []byte{}, nil)
	wantGathered(t, []byte{31, 28}, []byte{255})
	wantGathered(t, []byte{0, 0}, []byte{0})
	wantGathered(t, []byte{31, 31, 31, 16}, []byte{255, 255})
	wantGathered(t, []byte{1, 1, 1, 1, 1, 1, 1, 1}, []byte{8, 66, 16, 132, 33})
	// What is left behind whole bytes: nought bits, and noughts.
	for n := range 100 {
		l := make([]byte, n)
		switch n % 8 {
		case 1, 3, 6:
			notGathered(t, l)
		default:
			wantGathered(t, l, make([]byte, n*5/8))
		}
	}
}

func TestGatherOfAllShortLists(t *testing.T) {
	var ask func(l []byte, more int)
	ask = func(l []byte, more int) {
		if b, ok := gathered(l); ok {
			wantGathered(t, l, b)
		} else {
			notGathered(t, l)
		}
		if more == 0 {
			return
		}
		for v := range 34 {
			ask(append(slices.Clone(l), byte(v)), more-1)
		}
	}
	ask(nil, 3)
}

func TestGatherOfABitThatIsLeft(t *testing.T) {
	for n := range 50 {
		l := spread(some(n, 256))
		wantGathered(t, l, some(n, 256))
		noughts := len(l)*5 - n*8
		for bit := range noughts {
			wrong := slices.Clone(l)
			wrong[len(l)-1] |= 1 << bit
			notGathered(t, wrong)
		}
	}
}

func TestGatherOfANumberTooGreat(t *testing.T) {
	for n := 1; n < 20; n++ {
		for place := range n {
			for _, v := range []byte{32, 33, 63, 64, 96, 128, 224, 255} {
				l := make([]byte, n)
				l[place] = v
				notGathered(t, l)
				l = bytes.Repeat([]byte{31}, n)
				l[place] = v
				notGathered(t, l)
			}
		}
	}
}

func TestGatherOfWhatEverIs(t *testing.T) {
	chance := rand.New(rand.NewSource(4))
	for range 20000 {
		l := make([]byte, chance.Intn(30))
		for i := range l {
			l[i] = byte(chance.Intn(32 + chance.Intn(2)))
		}
		if len(l) > 0 && chance.Intn(2) == 0 {
			l[len(l)-1] &= 16
		}
		if b, ok := gathered(l); ok {
			wantGathered(t, l, b)
		} else {
			notGathered(t, l)
		}
	}
}

// P4.1, C3: Address and Script.

func scriptOf(version int, program []byte) []byte {
	first := byte(0)
	if version > 0 {
		first = byte(80 + version)
	}
	return append([]byte{first, byte(len(program))}, program...)
}

func addressOf(version int, program []byte) string {
	return word("en", append([]byte{byte(version)}, spread(program)...))
}

func wantAddress(t *testing.T, script []byte, want string) {
	t.Helper()
	if s, e := bech.Address(script); s != want || e != api.OK {
		t.Errorf("Address of %x: %q, %d; not %q", script, s, e, want)
	}
}

func noAddress(t *testing.T, script []byte) {
	t.Helper()
	if s, e := bech.Address(script); s != "" || e != api.ErrArg {
		t.Errorf("Address of %x: %q, %d; not ErrArg alone", script, s, e)
	}
}

func wantScript(t *testing.T, s string, want []byte) {
	t.Helper()
	if b, e := bech.Script(s); !bytes.Equal(b, want) || e != api.OK {
		t.Errorf("Script of %q: %x, %d; not %x", s, b, e, want)
	}
}

func noScript(t *testing.T, s string) {
	t.Helper()
	if b, e := bech.Script(s); len(b) != 0 || e != api.ErrForm {
		t.Errorf("Script of %q: %x, %d; not ErrForm alone", s, b, e)
	}
}

func TestAddressesOfAllVersionsAndLengths(t *testing.T) {
	for version := range 17 {
		for n := 2; n <= 40; n++ {
			program := some(n, 256)
			wantAddress(t, scriptOf(version, program), addressOf(version, program))
			wantScript(t, addressOf(version, program), scriptOf(version, program))
		}
	}
}

func TestAnchorsAddress(t *testing.T) {
	anchor := []byte{0x51, 2, 0x4e, 0x73}
	wantAddress(t, anchor, addressOf(1, []byte{0x4e, 0x73}))
	s, _ := bech.Address(anchor)
	if !strings.HasPrefix(s, "en1pfees") {
		t.Errorf("the anchor's address is %q", s)
	}
}

func TestAddressOfEachFirstByte(t *testing.T) {
	for first := range 256 {
		script := []byte{byte(first), 2, 7, 9}
		switch {
		case first == 0:
			wantAddress(t, script, addressOf(0, []byte{7, 9}))
		case first >= 81 && first <= 96:
			wantAddress(t, script, addressOf(first-80, []byte{7, 9}))
		default:
			noAddress(t, script)
		}
	}
}

func TestAddressOfEachLength(t *testing.T) {
	noAddress(t, nil)
	noAddress(t, []byte{})
	noAddress(t, []byte{0})
	noAddress(t, []byte{81})
	for n := range 300 {
		for _, first := range []byte{0, 81, 96} {
			script := append([]byte{first, byte(n)}, some(n, 256)...)
			if n < 2 || n > 40 {
				noAddress(t, script)
			} else {
				noAddress(t, append(script, 0))
				noAddress(t, script[:len(script)-1])
			}
		}
	}
	for _, n := range []int{0, 1, 2, 3, 20, 32, 40, 41, 256, 258, 288} {
		for told := range 256 {
			if told != n || n < 2 || n > 40 {
				noAddress(t, append([]byte{81, byte(told)}, make([]byte, n)...))
			}
		}
	}
}

func TestScriptOfWrongVersions(t *testing.T) {
	for version := 17; version < 32; version++ {
		noScript(t, addressOf(version, some(32, 256)))
		noScript(t, addressOf(version, some(2, 256)))
	}
}

func TestScriptOfWrongPrograms(t *testing.T) {
	for version := range 17 {
		noScript(t, addressOf(version, nil))
		noScript(t, addressOf(version, []byte{1}))
		for n := 41; n <= 49; n++ {
			noScript(t, addressOf(version, some(n, 256)))
		}
		noScript(t, word("en", []byte{byte(version)}))
	}
	noScript(t, word("en", nil))
}

func TestScriptOfWrongBits(t *testing.T) {
	for n := 2; n <= 40; n++ {
		l := append([]byte{1}, spread(some(n, 256))...)
		wantScript(t, word("en", l), scriptOf(1, some(n, 256)))
		// A nought more leaves either too many bits or a program of a byte more.
		more := append(slices.Clone(l), 0)
		if b, ok := gathered(more[1:]); ok && len(b) <= 40 {
			wantScript(t, word("en", more), scriptOf(1, b))
		} else {
			noScript(t, word("en", more))
		}
		for bit := range len(l)*5 - 5 - n*8 {
			wrong := slices.Clone(l)
			wrong[len(l)-1] |= 1 << bit
			noScript(t, word("en", wrong))
		}
	}
}

func TestScriptOfOtherHeads(t *testing.T) {
	l := append([]byte{1}, spread(some(32, 256))...)
	wantScript(t, word("en", l), scriptOf(1, some(32, 256)))
	for _, head := range []string{"e", "n", "ne", "em", "fn", "bc", "tb", "ene", "een", "enn", strings.Repeat("en", 10)} {
		wantData(t, word(head, l), head, l)
		noScript(t, word(head, l))
	}
	noScript(t, word("EN", l))
	noScript(t, strings.ToUpper(word("en", l)))
	noScript(t, word("", l))
}

func TestScriptOfNoWord(t *testing.T) {
	noScript(t, "")
	noScript(t, "en")
	noScript(t, "en1")
	noScript(t, "1")
	l := append([]byte{1}, spread(some(32, 256))...)
	noScript(t, spell("en", l, 1))
	s := word("en", l)
	noScript(t, s+"q")
	noScript(t, s[:len(s)-1])
	noScript(t, " "+s)
	for place := range len(s) {
		for _, c := range []byte(letters + "1bio Q\xff\x00") {
			if s[place] != c {
				noScript(t, s[:place]+string([]byte{c})+s[place+1:])
			}
		}
	}
}

// P4.2: there and back.

func TestThereAndBackOfWords(t *testing.T) {
	chance := rand.New(rand.NewSource(42))
	for range 3000 {
		head := make([]byte, 1+chance.Intn(20))
		for i := range head {
			head[i] = small[chance.Intn(26)]
		}
		data := make([]byte, chance.Intn(81))
		for i := range data {
			data[i] = byte(chance.Intn(32))
		}
		s, e := bech.Encode(string(head), data)
		if e != api.OK {
			t.Fatalf("Encode of %q and %d: %d", head, data, e)
		}
		wantData(t, s, string(head), data)
	}
}

func TestThereAndBackOfBits(t *testing.T) {
	for n := range 300 {
		b := some(n, 256)
		wantGathered(t, bech.Spread(b), b)
		wantGathered(t, bech.Spread(make([]byte, n)), make([]byte, n))
		full := bytes.Repeat([]byte{255}, n)
		wantGathered(t, bech.Spread(full), full)
	}
}

func TestThereAndBackOfAddresses(t *testing.T) {
	for version := range 17 {
		for n := 2; n <= 40; n++ {
			script := scriptOf(version, some(n, 256))
			s, e := bech.Address(script)
			if e != api.OK {
				t.Fatalf("Address of %x: %d", script, e)
			}
			wantScript(t, s, script)
		}
	}
}

// P4.3: a slip.

func slip(t *testing.T, s string) {
	t.Helper()
	for place := strings.Index(s, "1") + 1; place < len(s); place++ {
		for _, c := range []byte(letters) {
			if s[place] != c {
				noData(t, s[:place]+string([]byte{c})+s[place+1:])
			}
		}
	}
}

func TestSlips(t *testing.T) {
	for n := range 81 {
		for _, length := range []int{1, 2, 20} {
			head := small[n%6 : n%6+length]
			s, e := bech.Encode(head, some(n, 32))
			if e != api.OK {
				t.Fatalf("Encode: %d", e)
			}
			slip(t, s)
		}
	}
	for _, k := range known {
		slip(t, k.head+"1"+k.tail)
	}
}

// R4: what is handed in.

// roomy: l with room behind its end, and all of its memory.
func roomy(l []byte) ([]byte, []byte) {
	all := append(slices.Clone(l), bytes.Repeat([]byte{0xee}, 100)...)
	return all[:len(l)], all
}

// keeps: ask changes nothing of l, nor of the room behind it, and its answer, which is filled up to its room's end, shares nothing with it.
func keeps(t *testing.T, name string, l []byte, ask func([]byte) []byte) {
	t.Helper()
	given, all := roomy(l)
	before := slices.Clone(all)
	answer := ask(given)
	first := slices.Clone(answer)
	fill(answer)
	if !bytes.Equal(all, before) {
		t.Errorf("%s of %d changes what it was handed, or shares it", name, l)
	}
	if again := ask(given); !bytes.Equal(first, again) {
		t.Errorf("%s of %d: at first %d, then %d", name, l, first, again)
	}
}

func fill(l []byte) {
	l = l[:cap(l)]
	for i := range l {
		l[i] = 0x77
	}
}

func TestNothingIsChangedOrShared(t *testing.T) {
	for n := range 81 {
		data := some(n, 32)
		keeps(t, "Check", data, func(l []byte) []byte { bech.Check(l); return nil })
		keeps(t, "Encode", data, func(l []byte) []byte { s, _ := bech.Encode("en", l); return []byte(s) })
		keeps(t, "Spread", data, bech.Spread)
		keeps(t, "Gather", data, func(l []byte) []byte { b, _ := bech.Gather(l); return b })
		keeps(t, "Gather", spread(data), func(l []byte) []byte { b, _ := bech.Gather(l); return b })
		keeps(t, "Address", scriptOf(n%17, data), func(l []byte) []byte { s, _ := bech.Address(l); return []byte(s) })
	}
}

func TestAnswersAreNew(t *testing.T) {
	for n := range 81 {
		s := word("en", some(n, 32))
		h, d, _ := bech.Decode(s)
		if unsafe.StringData(h) == unsafe.StringData(s) {
			t.Errorf("Decode of %q answers a head in the text's memory", s)
		}
		fill(d)
		wantData(t, s, "en", some(n, 32))
	}
	a := addressOf(1, some(32, 256))
	b, _ := bech.Script(a)
	fill(b)
	wantScript(t, a, scriptOf(1, some(32, 256)))
}

// Whatever comes in: what is told is the chapter's.

func FuzzTexts(f *testing.F) {
	for _, k := range known {
		f.Add(k.head + "1" + k.tail)
	}
	f.Add(addressOf(1, some(32, 256)))
	f.Add("1")
	f.Fuzz(func(t *testing.T, s string) {
		h, d, e := bech.Decode(s)
		if e == api.OK && word(h, d) != s {
			t.Errorf("Decode of %q: %q, %d", s, h, d)
		}
		if e != api.OK && (e != api.ErrForm || h != "" || len(d) != 0) {
			t.Errorf("Decode of %q: %q, %d, %d", s, h, d, e)
		}
		b, e := bech.Script(s)
		if e == api.OK {
			wantAddress(t, b, s)
		} else {
			noScript(t, s)
		}
	})
}

func FuzzBytes(f *testing.F) {
	f.Add([]byte{31, 28})
	f.Add(scriptOf(1, some(32, 256)))
	f.Fuzz(func(t *testing.T, l []byte) {
		wantCheck(t, l, remainder(l))
		wantSpread(t, l, spread(l))
		if b, ok := gathered(l); ok {
			wantGathered(t, l, b)
		} else {
			notGathered(t, l)
		}
		if s, e := bech.Address(l); e == api.OK {
			wantScript(t, s, l)
		} else {
			noAddress(t, l)
		}
	})
}
