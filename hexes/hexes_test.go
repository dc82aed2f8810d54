package hexes_test

import (
	"bytes"
	"encoding/hex"
	"fmt"
	"math/rand"
	"slices"
	"strings"
	"testing"

	"entail/api"
	"entail/hexes"
)

// digits: all of them, each at the place of its value.
const digits = "0123456789abcdef"

// strangers: bytes that are no digits: beside the runs of digits on both sides, great letters, blanks, the ends of all bytes, and those that begin or go on with a rune above 127.
var strangers = []byte{'0' - 1, '9' + 1, 'a' - 1, 'f' + 1, 'A', 'B', 'F', 'A' - 1, 'F' + 1, 'x', 'z', ' ', '\t', '\n', '+', '-', '_', 0, 1, 127, 128, 129, 0xb0, 0xc2, 0xe1, 0xfe, 0xff}

// isDigit is told from the chapter's list and not by a comparison, so that it can't be wrong in the way that the program might be.
func isDigit(c byte) bool {
	return strings.IndexByte(digits, c) >= 0
}

// counted: the bytes 0, 1, 2 .. as a name, no two of them the same.
func counted() (h [32]byte) {
	for i := range h {
		h[i] = byte(i)
	}
	return h
}

const countedName = "1f1e1d1c1b1a191817161514131211100f0e0d0c0b0a09080706050403020100"

func wantDecode(t *testing.T, s string, want []byte) {
	t.Helper()
	if b, e := hexes.Decode(s); e != api.OK || !bytes.Equal(b, want) {
		t.Errorf("Decode of %q: %x, %d; not %x", s, b, e, want)
	}
}

func wrongDecode(t *testing.T, s string) {
	t.Helper()
	if b, e := hexes.Decode(s); e != api.ErrForm || len(b) != 0 {
		t.Errorf("Decode of %q: %x, %d; not nothing and ErrForm", s, b, e)
	}
}

func wrongParse(t *testing.T, s string) {
	t.Helper()
	if h, e := hexes.Parse(s); e != api.ErrForm || h != [32]byte{} {
		t.Errorf("Parse of %q: %x, %d; not noughts and ErrForm", s, h, e)
	}
}

// P2.1, H1: Encode.

func TestEncode(t *testing.T) {
	for _, x := range []struct {
		b    []byte
		want string
	}{
		{nil, ""},
		{[]byte{}, ""},
		{[]byte{0}, "00"},
		{[]byte{1, 171}, "01ab"},
		{[]byte{0, 0, 0}, "000000"},
		{[]byte{9, 10, 15, 16, 0x90, 0xa0, 0xf0, 255}, "090a0f1090a0f0ff"},
		{[]byte{0x01, 0x23, 0x45, 0x67, 0x89, 0xab, 0xcd, 0xef}, "0123456789abcdef"},
		{[]byte{0xfe, 0xdc, 0xba, 0x98, 0x76, 0x54, 0x32, 0x10}, "fedcba9876543210"},
	} {
		if s := hexes.Encode(x.b); s != x.want {
			t.Errorf("Encode of %x: %q, not %q", x.b, s, x.want)
		}
	}
}

func TestEncodeEveryByte(t *testing.T) {
	var all []byte
	for n := range 256 {
		want := fmt.Sprintf("%02x", n)
		if s := hexes.Encode([]byte{byte(n)}); s != want {
			t.Errorf("Encode of %d: %q, not %q", n, s, want)
		}
		all = append(all, byte(n))
	}
	if s := hexes.Encode(all); s != hex.EncodeToString(all) {
		t.Errorf("Encode of all bytes: %q", s)
	}
}

// P2.1, H1: Decode.

func TestDecode(t *testing.T) {
	wantDecode(t, "", nil)
	wantDecode(t, "00", []byte{0})
	wantDecode(t, "01ab", []byte{1, 171})
	wantDecode(t, "0123456789abcdef", []byte{0x01, 0x23, 0x45, 0x67, 0x89, 0xab, 0xcd, 0xef})
	wantDecode(t, "fedcba9876543210", []byte{0xfe, 0xdc, 0xba, 0x98, 0x76, 0x54, 0x32, 0x10})
}

func TestDecodeEveryDigit(t *testing.T) {
	for high := range digits {
		for low := range digits {
			wantDecode(t, digits[high:high+1]+digits[low:low+1], []byte{byte(16*high + low)})
		}
	}
}

// Every text of two bytes: it has bytes if both are digits, and else none.
func TestDecodeEveryPair(t *testing.T) {
	for first := range 256 {
		for second := range 256 {
			if isDigit(byte(first)) && isDigit(byte(second)) {
				continue // told by TestDecodeEveryDigit
			}
			wrongDecode(t, string([]byte{byte(first), byte(second)}))
		}
	}
}

// An odd number of digits, and an odd number of bytes that are none.
func TestDecodeOdd(t *testing.T) {
	for c := range 256 {
		wrongDecode(t, string([]byte{byte(c)}))
	}
	for _, s := range []string{"0ab", "01ab0", "000", "fffff", " 01", "01 ", "0g1", "é0"} {
		wrongDecode(t, s)
	}
	for n := 1; n < 300; n += 2 {
		wrongDecode(t, strings.Repeat("7", n))
	}
}

// A stranger at each place, the last one too, with digits all around.
func TestDecodeStrangers(t *testing.T) {
	for _, s := range []string{"0AB1", "0aB1", "0x01", "0g", "g0", "01é", "é", "0é1", "٣", "ab "} {
		wrongDecode(t, s)
	}
	for _, c := range strangers {
		for i := range 12 {
			b := []byte("0123456789ab")
			b[i] = c
			wrongDecode(t, string(b))
		}
	}
}

// P2.1, H1: Name.

func TestName(t *testing.T) {
	for _, x := range []struct {
		h    [32]byte
		want string
	}{
		{[32]byte{}, strings.Repeat("0", 64)},
		{[32]byte{0: 1, 31: 2}, "02" + strings.Repeat("0", 60) + "01"},
		{[32]byte{0: 0xab}, strings.Repeat("0", 62) + "ab"},
		{[32]byte{31: 0xcd}, "cd" + strings.Repeat("0", 62)},
		{counted(), countedName},
	} {
		if s := hexes.Name(x.h); s != x.want {
			t.Errorf("Name of %x: %q, not %q", x.h, s, x.want)
		}
	}
}

// One byte alone at each place: its digits stand at the place told from the other end.
func TestNameEveryPlace(t *testing.T) {
	for i := range 32 {
		var h [32]byte
		h[i] = 0x5e
		want := strings.Repeat("00", 31-i) + "5e" + strings.Repeat("00", i)
		if s := hexes.Name(h); s != want {
			t.Errorf("Name of a byte at %d: %q", i, s)
		}
		if x, e := hexes.Parse(want); x != h || e != api.OK {
			t.Errorf("Parse of a byte at %d: %x, %d", i, x, e)
		}
	}
}

// P2.1, H1: Parse.

func TestParse(t *testing.T) {
	if h, e := hexes.Parse(countedName); h != counted() || e != api.OK {
		t.Errorf("Parse: %x, %d", h, e)
	}
	if h, e := hexes.Parse(strings.Repeat("f", 64)); h != [32]byte(bytes.Repeat([]byte{255}, 32)) || e != api.OK {
		t.Errorf("Parse of 64 f: %x, %d", h, e)
	}
	if h, e := hexes.Parse(strings.Repeat("0", 64)); h != [32]byte{} || e != api.OK {
		t.Errorf("Parse of 64 noughts: %x, %d", h, e)
	}
}

func TestParseLengths(t *testing.T) {
	for n := range 200 {
		if n != 64 {
			wrongParse(t, strings.Repeat("a", n))
		}
	}
	for _, n := range []int{62, 63, 65, 66, 128, 1 << 20} {
		wrongParse(t, strings.Repeat("1", n))
	}
	// The name is there, but not alone.
	for _, s := range []string{" " + countedName, countedName + "\n", "0x" + countedName, countedName + "00", countedName[2:], countedName[:62]} {
		wrongParse(t, s)
	}
}

// 64 bytes of which one is no digit; and 64 runes, or 64 digits among more bytes, are not 64 digits.
func TestParseStrangers(t *testing.T) {
	for _, c := range strangers {
		for i := range 64 {
			b := []byte(countedName)
			b[i] = c
			wrongParse(t, string(b))
		}
	}
	wrongParse(t, strings.ToUpper(countedName))
	wrongParse(t, strings.Repeat("é", 32))
	wrongParse(t, strings.Repeat("é", 64))
	wrongParse(t, strings.Repeat("0", 63)+"é")
	wrongParse(t, strings.Repeat("0", 62)+"é")
}

// P2.2: there and back.

func TestThereAndBack(t *testing.T) {
	r := rand.New(rand.NewSource(2))
	for n := range 300 {
		b := make([]byte, n)
		r.Read(b)
		s := hexes.Encode(b)
		if len(s) != 2*n {
			t.Errorf("Encode of %d bytes: %d digits", n, len(s))
		}
		wantDecode(t, s, b)
	}
}

func TestBackAndThere(t *testing.T) {
	r := rand.New(rand.NewSource(3))
	for n := range 300 {
		b := make([]byte, 2*n)
		for i := range b {
			b[i] = digits[r.Intn(len(digits))]
		}
		x, e := hexes.Decode(string(b))
		if e != api.OK || len(x) != n {
			t.Errorf("Decode of %q: %d bytes, %d", b, len(x), e)
		}
		if s := hexes.Encode(x); s != string(b) {
			t.Errorf("Encode of what was %q: %q", b, s)
		}
	}
}

func TestNamesThereAndBack(t *testing.T) {
	r := rand.New(rand.NewSource(4))
	for range 300 {
		var h [32]byte
		r.Read(h[:])
		s := hexes.Name(h)
		if x, e := hexes.Parse(s); x != h || e != api.OK {
			t.Errorf("Parse of what was %x: %x, %d", h, x, e)
		}
		slices.Reverse(h[:])
		if s != hex.EncodeToString(h[:]) {
			t.Errorf("Name, turned: %q, not %x", s, h)
		}
		back, e := hexes.Parse(hex.EncodeToString(h[:]))
		if e != api.OK || hexes.Name(back) != s {
			t.Errorf("Name of what was %q: %q, %d", s, hexes.Name(back), e)
		}
	}
}

// A long text costs no more than its length, and ends.
func TestLong(t *testing.T) {
	b := bytes.Repeat([]byte{0, 0x7f, 0x80, 0xff}, 1<<18)
	s := hexes.Encode(b)
	if s != strings.Repeat("007f80ff", 1<<18) {
		t.Error("Encode of a long list is wrong")
	}
	if x, e := hexes.Decode(s); e != api.OK || !bytes.Equal(x, b) {
		t.Errorf("Decode of a long text is wrong: %d", e)
	}
	wrongDecode(t, strings.Repeat("00", 1000)+"0G")
}

// R4: what is handed in, and the room behind it, stays; an answer is memory of its own.

func TestEncodeKeepsNothing(t *testing.T) {
	whole := []byte{1, 171, 77, 78, 79}
	b := whole[:2]
	s := hexes.Encode(b)
	if !bytes.Equal(whole, []byte{1, 171, 77, 78, 79}) {
		t.Errorf("Encode changed what it was handed: %v", whole)
	}
	b[0], b[1] = 9, 9
	if s != "01ab" {
		t.Errorf("Encode kept what it was handed: %q", s)
	}
}

func TestDecodeIsNew(t *testing.T) {
	s := "01ab"
	one, _ := hexes.Decode(s)
	two, _ := hexes.Decode(s)
	room := one[:cap(one)]
	for i := range room {
		room[i] = 9
	}
	if !bytes.Equal(two, []byte{1, 171}) {
		t.Errorf("two answers of Decode share memory: %x", two)
	}
	wantDecode(t, s, []byte{1, 171})
	if s != "01ab" {
		t.Errorf("Decode changed what it was handed: %q", s)
	}
}

func TestNamesAreNew(t *testing.T) {
	h := counted()
	if hexes.Name(h); h != counted() {
		t.Errorf("Name changed what it was handed: %x", h)
	}
	one, _ := hexes.Parse(countedName)
	one[0] = 99
	if two, _ := hexes.Parse(countedName); two != counted() {
		t.Errorf("two answers of Parse share memory: %x", two)
	}
}

// Any text: as the library tells it, but for great letters; and what is told goes back.
func FuzzDecode(f *testing.F) {
	for _, s := range []string{"", "01ab", "0AB1", "0ab", "é0", countedName, countedName + "0"} {
		f.Add(s)
	}
	f.Fuzz(func(t *testing.T, s string) {
		want, err := hex.DecodeString(s)
		right := err == nil && s == strings.ToLower(s)
		b, e := hexes.Decode(s)
		if right && (e != api.OK || !bytes.Equal(b, want) || hexes.Encode(b) != s) {
			t.Errorf("Decode of %q: %x, %d", s, b, e)
		}
		if !right && (e != api.ErrForm || len(b) != 0) {
			t.Errorf("Decode of %q: %x, %d; not ErrForm", s, b, e)
		}
		h, e := hexes.Parse(s)
		if right && len(s) == 64 && (e != api.OK || hexes.Name(h) != s) {
			t.Errorf("Parse of %q: %x, %d", s, h, e)
		}
		if !(right && len(s) == 64) && (e != api.ErrForm || h != [32]byte{}) {
			t.Errorf("Parse of %q: %x, %d; not ErrForm", s, h, e)
		}
	})
}
