package number_test

import (
	"bytes"
	"math"
	"math/big"
	"math/rand"
	"slices"
	"testing"

	"entail/api"
	"entail/number"
)

// smallest is the one number of 64 bits that needs nine bytes.
const smallest = math.MinInt64

// written: how a number is written, told by numbers without end.
func written(n int64) []byte {
	v := big.NewInt(n)
	b := new(big.Int).Abs(v).Bytes()
	slices.Reverse(b)
	if len(b) > 0 && b[len(b)-1] > 127 {
		b = append(b, 0)
	}
	if v.Sign() < 0 {
		b[len(b)-1] += 128
	}
	return b
}

// edges: numbers about which the bytes become more, or the sign needs room, with their negatives.
func edges() []int64 {
	l := []int64{0, math.MaxInt64, math.MaxInt64 - 1, smallest, smallest + 1, smallest + 2}
	for bit := range 63 {
		for d := int64(-2); d <= 2; d++ {
			n := int64(1)<<bit + d
			l = append(l, n, -n)
		}
	}
	return l
}

// byChance: numbers of every length.
func byChance(seed int64, many int) []int64 {
	r := rand.New(rand.NewSource(seed))
	l := make([]int64, many)
	for i := range l {
		l[i] = int64(r.Uint64()) >> r.Intn(64)
	}
	return l
}

func wantEncode(t *testing.T, n int64, want ...byte) {
	t.Helper()
	if b := number.Encode(n); !bytes.Equal(b, want) {
		t.Errorf("Encode of %d: %x, not %x", n, b, want)
	}
}

func wantDecode(t *testing.T, b []byte, most int, want int64) {
	t.Helper()
	if n, e := number.Decode(b, most); n != want || e != api.OK {
		t.Errorf("Decode of %x by %d: %d, %d; not %d", b, most, n, e, want)
	}
}

func wrongDecode(t *testing.T, b []byte, most int) {
	t.Helper()
	if n, e := number.Decode(b, most); n != 0 || e != api.ErrNumber {
		t.Errorf("Decode of %.20x (%d bytes) by %d: %d, %d; not 0 and ErrNumber", b, len(b), most, n, e)
	}
}

// P5.1, D1: Encode.

func TestEncode(t *testing.T) {
	wantEncode(t, 0)
	wantEncode(t, 1, 1)
	wantEncode(t, -1, 0x81)
	wantEncode(t, 16, 16)
	wantEncode(t, -16, 0x90)
	wantEncode(t, 0x1234, 0x34, 0x12)
	wantEncode(t, -0x1234, 0x34, 0x92)
	wantEncode(t, 0x123456789abcdef0, 0xf0, 0xde, 0xbc, 0x9a, 0x78, 0x56, 0x34, 0x12)
	wantEncode(t, -0x123456789abcdef0, 0xf0, 0xde, 0xbc, 0x9a, 0x78, 0x56, 0x34, 0x92)
}

func TestEncodeWhereTheSignNeedsRoom(t *testing.T) {
	wantEncode(t, 127, 0x7f)
	wantEncode(t, -127, 0xff)
	wantEncode(t, 128, 0x80, 0)
	wantEncode(t, -128, 0x80, 0x80)
	wantEncode(t, 129, 0x81, 0)
	wantEncode(t, 255, 0xff, 0)
	wantEncode(t, -255, 0xff, 0x80)
	wantEncode(t, 256, 0, 1)
	wantEncode(t, -256, 0, 0x81)
	wantEncode(t, 32767, 0xff, 0x7f)
	wantEncode(t, -32767, 0xff, 0xff)
	wantEncode(t, 32768, 0, 0x80, 0)
	wantEncode(t, -32768, 0, 0x80, 0x80)
	wantEncode(t, 65535, 0xff, 0xff, 0)
	wantEncode(t, -65535, 0xff, 0xff, 0x80)
	wantEncode(t, 65536, 0, 0, 1)
}

// At each length: the last number that fits, the first that needs a byte for its sign, the last of these, and the first of the next length.
func TestEncodeAtEachLength(t *testing.T) {
	for n := 1; n <= 7; n++ {
		full, noughts := bytes.Repeat([]byte{0xff}, n-1), make([]byte, n-1)
		half := int64(1) << (8*n - 1)
		wantEncode(t, half-1, append(slices.Clone(full), 0x7f)...)
		wantEncode(t, 1-half, append(slices.Clone(full), 0xff)...)
		wantEncode(t, half, append(slices.Clone(noughts), 0x80, 0)...)
		wantEncode(t, -half, append(slices.Clone(noughts), 0x80, 0x80)...)
		wantEncode(t, 2*half-1, append(slices.Clone(full), 0xff, 0)...)
		wantEncode(t, 1-2*half, append(slices.Clone(full), 0xff, 0x80)...)
		wantEncode(t, 2*half, append(slices.Clone(noughts), 0, 1)...)
		wantEncode(t, -2*half, append(slices.Clone(noughts), 0, 0x81)...)
	}
}

func TestEncodeOfTheGreatestAndTheSmallest(t *testing.T) {
	wantEncode(t, math.MaxInt64, 255, 255, 255, 255, 255, 255, 255, 0x7f)
	wantEncode(t, math.MaxInt64-1, 254, 255, 255, 255, 255, 255, 255, 0x7f)
	wantEncode(t, smallest+2, 254, 255, 255, 255, 255, 255, 255, 0xff)
	wantEncode(t, smallest+1, 255, 255, 255, 255, 255, 255, 255, 0xff)
	wantEncode(t, smallest, 0, 0, 0, 0, 0, 0, 0, 0x80, 0x80)
}

func TestEncodeLikeNumbersWithoutEnd(t *testing.T) {
	for n := int64(-70000); n <= 70000; n++ {
		wantEncode(t, n, written(n)...)
	}
	for _, n := range slices.Concat(edges(), byChance(5, 100000)) {
		wantEncode(t, n, written(n)...)
	}
}

// P5.1, D1: Decode.

func TestDecode(t *testing.T) {
	wantDecode(t, nil, 4, 0)
	wantDecode(t, []byte{}, 4, 0)
	wantDecode(t, []byte{1}, 4, 1)
	wantDecode(t, []byte{0x7f}, 4, 127)
	wantDecode(t, []byte{0x81}, 4, -1)
	wantDecode(t, []byte{0xff}, 4, -127)
	wantDecode(t, []byte{0x80, 0}, 4, 128)
	wantDecode(t, []byte{0x80, 0x80}, 4, -128)
	wantDecode(t, []byte{0xff, 0}, 4, 255)
	wantDecode(t, []byte{0xff, 0x80}, 4, -255)
	wantDecode(t, []byte{0, 1}, 4, 256)
	wantDecode(t, []byte{0, 0x81}, 4, -256)
	wantDecode(t, []byte{0x34, 0x12}, 4, 0x1234)
	wantDecode(t, []byte{0x34, 0x92}, 4, -0x1234)
	wantDecode(t, []byte{0x80, 0x80, 0}, 4, 0x8080)
	wantDecode(t, []byte{0x80, 0x80, 0x80}, 4, -0x8080)
	wantDecode(t, []byte{255, 255, 255, 0x7f}, 4, 1<<31-1)
	wantDecode(t, []byte{255, 255, 255, 0xff}, 4, 1-1<<31)
	wantDecode(t, []byte{0, 0, 0, 0x80, 0}, 5, 1<<31)
	wantDecode(t, []byte{0, 0, 0, 0, 1}, 5, 1<<32)
	wantDecode(t, []byte{0xf0, 0xde, 0xbc, 0x9a, 0x78, 0x56, 0x34, 0x12}, 8, 0x123456789abcdef0)
	wantDecode(t, []byte{0xf0, 0xde, 0xbc, 0x9a, 0x78, 0x56, 0x34, 0x92}, 8, -0x123456789abcdef0)
	wantDecode(t, []byte{255, 255, 255, 255, 255, 255, 255, 0x7f}, 8, math.MaxInt64)
	wantDecode(t, []byte{255, 255, 255, 255, 255, 255, 255, 0xff}, 8, smallest+1)
	wantDecode(t, []byte{255, 255, 255, 255, 255, 255, 127, 0x01}, 8, 0x017fffffffffffff)
}

func TestDecodeOfWhatIsNotSoWritten(t *testing.T) {
	for _, b := range [][]byte{
		{0}, {0x80}, {0, 0}, {0, 0x80}, {0x80, 0, 0}, {0x80, 0, 0x80},
		{1, 0}, {1, 0x80}, {0x7f, 0}, {0x7f, 0x80}, {0x81, 0, 0}, {0x81, 0, 0x80}, {0xff, 0, 0}, {0xff, 0, 0x80},
		{0xff, 0x7f, 0}, {0xff, 0x7f, 0x80}, {0, 1, 0}, {0, 0, 0, 0}, {0, 0, 0, 0x80},
		{0, 0, 0, 0, 0, 0, 0, 0}, {0, 0, 0, 0, 0, 0, 0, 0x80}, {1, 0, 0, 0, 0, 0, 0, 0}, {1, 0, 0, 0, 0, 0, 0, 0x80},
		{255, 255, 255, 255, 255, 255, 0x7f, 0}, {255, 255, 255, 255, 255, 255, 0x7f, 0x80},
	} {
		for _, most := range []int{len(b), 8, 9, math.MaxInt} {
			wrongDecode(t, b, most)
		}
	}
}

// A last byte of 0 or 128 may stand only behind a byte whose highest bit is set.
func TestDecodeOfALastByteForTheSign(t *testing.T) {
	for n := 1; n <= 7; n++ {
		for x := range 256 {
			b := bytes.Repeat([]byte{0x5a}, n)
			b[n-1] = byte(x)
			plain, below := append(slices.Clone(b), 0), append(slices.Clone(b), 0x80)
			if x < 128 {
				wrongDecode(t, plain, 8)
				wrongDecode(t, below, 8)
				continue
			}
			slices.Reverse(b)
			v := new(big.Int).SetBytes(b).Int64()
			wantDecode(t, plain, 8, v)
			wantDecode(t, below, 8, -v)
		}
	}
}

// Every thing of at most two bytes is either how one of these numbers is written, or none is so written.
func TestDecodeOfAllShortThings(t *testing.T) {
	numbers := map[string]int64{}
	for n := int64(-40000); n <= 40000; n++ {
		numbers[string(written(n))] = n
	}
	likeNumbers := func(b ...byte) {
		if n, found := numbers[string(b)]; found {
			wantDecode(t, b, 2, n)
		} else {
			wrongDecode(t, b, 2)
		}
	}
	likeNumbers()
	for x := range 256 {
		likeNumbers(byte(x))
		for y := range 256 {
			likeNumbers(byte(x), byte(y))
		}
	}
}

// likeNumbersWithoutEnd: a thing read as it is, and then held against how that number is written.
func likeNumbersWithoutEnd(t *testing.T, b []byte, most int) {
	t.Helper()
	if len(b) > most || len(b) > 8 {
		wrongDecode(t, b, most)
		return
	}
	v := new(big.Int)
	if len(b) > 0 {
		high := slices.Clone(b)
		slices.Reverse(high)
		high[0] &= 127
		v.SetBytes(high)
		if b[len(b)-1] > 127 {
			v.Neg(v)
		}
	}
	if bytes.Equal(written(v.Int64()), b) {
		wantDecode(t, b, most, v.Int64())
	} else {
		wrongDecode(t, b, most)
	}
}

func TestDecodeLikeNumbersWithoutEnd(t *testing.T) {
	some := []byte{0, 0, 1, 0x7e, 0x7f, 0x80, 0x80, 0x81, 0xfe, 0xff}
	r := rand.New(rand.NewSource(51))
	for range 200000 {
		b := make([]byte, r.Intn(11))
		for i := range b {
			b[i] = byte(r.Intn(256))
			if r.Intn(2) == 0 {
				b[i] = some[r.Intn(len(some))]
			}
		}
		likeNumbersWithoutEnd(t, b, r.Intn(14)-2)
	}
}

func FuzzDecode(f *testing.F) {
	for _, b := range [][]byte{nil, {0}, {0x80}, {1, 0}, {0x80, 0}, {255, 255, 255, 255, 255, 255, 255, 255}, {0, 0, 0, 0, 0, 0, 0, 0x80, 0x80}} {
		f.Add(b, 8)
	}
	f.Fuzz(likeNumbersWithoutEnd)
}

// P5.1, D1: how many bytes there may be.

func TestDecodeOfEachLengthByEachMost(t *testing.T) {
	for n := range 12 {
		b := bytes.Repeat([]byte{1}, n)
		var v int64
		for range min(n, 8) {
			v = v<<8 + 1
		}
		for most := -3; most <= 14; most++ {
			if n <= most && n <= 8 {
				wantDecode(t, b, most, v)
			} else {
				wrongDecode(t, b, most)
			}
		}
	}
}

// More bytes than a most below 0 are there always, even where there are none.
func TestDecodeByAMostBelowNought(t *testing.T) {
	for _, most := range []int{-1, -2, -8, -9, math.MinInt32, math.MinInt + 1, math.MinInt} {
		for _, b := range [][]byte{nil, {}, {0}, {1}, {0x80}, {1, 2, 3, 4, 5, 6, 7, 8}, {1, 2, 3, 4, 5, 6, 7, 8, 9}} {
			wrongDecode(t, b, most)
		}
	}
}

func TestDecodeByAMostOfNought(t *testing.T) {
	wantDecode(t, nil, 0, 0)
	wantDecode(t, []byte{}, 0, 0)
	wantDecode(t, []byte{1, 2}[:0], 0, 0)
	wrongDecode(t, []byte{1}, 0)
	wrongDecode(t, []byte{0}, 0)
}

func TestDecodeByAMostAboveEight(t *testing.T) {
	for _, most := range []int{8, 9, 10, 64, 520, math.MaxInt32, 1 << 32, math.MaxInt - 1, math.MaxInt} {
		wantDecode(t, nil, most, 0)
		wantDecode(t, []byte{5}, most, 5)
		wantDecode(t, written(math.MaxInt64), most, math.MaxInt64)
		wantDecode(t, written(smallest+1), most, smallest+1)
		wrongDecode(t, written(smallest), most)
		// The number that lies beyond the greatest, and others that would leave a small one in 64 bits.
		wrongDecode(t, []byte{0, 0, 0, 0, 0, 0, 0, 0x80, 0}, most)
		wrongDecode(t, []byte{255, 255, 255, 255, 255, 255, 255, 255, 0}, most)
		wrongDecode(t, []byte{0, 0, 0, 0, 0, 0, 0, 0, 1}, most)
		wrongDecode(t, []byte{7, 0, 0, 0, 0, 0, 0, 0, 1}, most)
		wrongDecode(t, []byte{7, 0, 0, 0, 0, 0, 0, 0, 0x81}, most)
	}
}

func TestDecodeOfManyBytes(t *testing.T) {
	for _, n := range []int{9, 10, 16, 17, 64, 65, 520, 521, 1 << 20} {
		for _, x := range []byte{0, 1, 0x7f, 0x80, 0xff} {
			for _, most := range []int{0, 4, 8, 9, n - 1, n, n + 1, math.MaxInt} {
				wrongDecode(t, bytes.Repeat([]byte{x}, n), most)
			}
		}
	}
}

// P5.1, D1: Truth.

func wantTruth(t *testing.T, want bool, b ...byte) {
	t.Helper()
	if number.Truth(b) != want {
		t.Errorf("Truth of %.20x (%d bytes) is not %t", b, len(b), want)
	}
}

func TestTruth(t *testing.T) {
	wantTruth(t, false)
	wantTruth(t, false, []byte{}...)
	wantTruth(t, false, 0)
	wantTruth(t, false, 0x80)
	wantTruth(t, false, 0, 0)
	wantTruth(t, false, 0, 0x80)
	wantTruth(t, true, 0x80, 0)
	wantTruth(t, true, 0x80, 0x80)
	wantTruth(t, true, 1)
	wantTruth(t, true, 0x7f)
	wantTruth(t, true, 0x81)
	wantTruth(t, true, 0xff)
	wantTruth(t, true, 1, 0)
	wantTruth(t, true, 1, 0x80)
	wantTruth(t, true, 0, 1)
	wantTruth(t, true, 0, 0x81)
	wantTruth(t, true, 0, 0x7f)
}

// One byte that is not 0 at each place, the last one apart; things may be longer than any number.
func TestTruthAtEachPlace(t *testing.T) {
	for _, n := range []int{1, 2, 3, 4, 5, 7, 8, 9, 10, 16, 33, 520, 521} {
		b := make([]byte, n)
		wantTruth(t, false, b...)
		for i := range b {
			for _, x := range []byte{1, 2, 0x40, 0x7f, 0x80, 0x81, 0xc0, 0xff} {
				b[i] = x
				wantTruth(t, x != 0x80 || i != n-1, b...)
				if i < n-1 {
					b[n-1] = 0x80
					wantTruth(t, true, b...)
					b[n-1] = 0
				}
			}
			b[i] = 0
		}
	}
}

func TestTruthOfAllShortThings(t *testing.T) {
	for x := range 256 {
		wantTruth(t, x != 0 && x != 128, byte(x))
		for y := range 256 {
			wantTruth(t, x != 0 || y != 0 && y != 128, byte(x), byte(y))
		}
	}
}

func TestTruthOfManyBytes(t *testing.T) {
	b := make([]byte, 1<<20)
	wantTruth(t, false, b...)
	b[len(b)-1] = 0x80
	wantTruth(t, false, b...)
	b[len(b)-2] = 0x80
	wantTruth(t, true, b...)
}

// What lies behind a thing's end is not the thing's.
func TestTruthEndsWhereTheThingEnds(t *testing.T) {
	room := []byte{0, 0x80, 1, 0}
	wantTruth(t, false, room[:0]...)
	wantTruth(t, false, room[:1]...)
	wantTruth(t, false, room[:2]...)
	wantTruth(t, true, room[:3]...)
}

// P5.1, D1: Flag.

func TestFlag(t *testing.T) {
	if b := number.Flag(true); !bytes.Equal(b, []byte{1}) {
		t.Errorf("Flag of true: %x", b)
	}
	if b := number.Flag(false); len(b) != 0 {
		t.Errorf("Flag of false: %x", b)
	}
	for _, v := range []bool{true, false} {
		wantTruth(t, v, number.Flag(v)...)
	}
	wantDecode(t, number.Flag(true), 1, 1)
	wantDecode(t, number.Flag(false), 0, 0)
}

// P5.2: there and back.

// thereAndBack: a number that is written in at most 8 bytes is read as it was, by just as many and more, not by fewer; it is true, if it is not 0.
func thereAndBack(t *testing.T, n int64) {
	t.Helper()
	b := number.Encode(n)
	wantTruth(t, n != 0, b...)
	if len(b) > 8 {
		if n != smallest {
			t.Errorf("%d is written in %d bytes", n, len(b))
		}
		wrongDecode(t, b, len(b))
		return
	}
	wantDecode(t, b, len(b), n)
	wantDecode(t, b, 8, n)
	wantDecode(t, b, math.MaxInt, n)
	wrongDecode(t, b, len(b)-1)
}

func TestThereAndBack(t *testing.T) {
	for n := int64(-70000); n <= 70000; n++ {
		thereAndBack(t, n)
	}
	for _, n := range slices.Concat(edges(), byChance(52, 50000)) {
		thereAndBack(t, n)
	}
}

// backAndThere: what is read is written as it was, and true, if it is not 0.
func backAndThere(t *testing.T, b []byte) bool {
	t.Helper()
	n, e := number.Decode(b, 8)
	if e != api.OK {
		return false
	}
	wantEncode(t, n, b...)
	wantTruth(t, n != 0, b...)
	return true
}

func TestBackAndThere(t *testing.T) {
	r := rand.New(rand.NewSource(53))
	read := 0
	for range 100000 {
		b := make([]byte, r.Intn(10))
		for i := range b {
			b[i] = byte(r.Intn(256)) & byte(-r.Intn(2))
		}
		if backAndThere(t, b) {
			read++
		}
	}
	if read < 10000 {
		t.Errorf("of all things only %d are read", read)
	}
}

// R4: what is handed in, and the room behind it, is not changed and not kept; an answer is new memory.

func TestNothingIsChanged(t *testing.T) {
	for _, last := range []byte{0, 1, 0x80, 0xff} {
		room := []byte{0x80, 0, 0x80, last, 5, 6, 7, 8, 9, 10, 11}
		was := slices.Clone(room)
		for n := range len(room) {
			number.Truth(room[:n])
			for most := -1; most < 12; most++ {
				number.Decode(room[:n], most)
			}
		}
		if !bytes.Equal(room, was) {
			t.Errorf("%x has become %x", was, room)
		}
	}
}

// spoil: overwrites a list with its spare room.
func spoil(b []byte) {
	b = b[:cap(b)]
	for i := range b {
		b[i] = 0xa5
	}
}

func TestAnswersAreNew(t *testing.T) {
	for _, n := range edges() {
		one, two := number.Encode(n), number.Encode(n)
		spoil(one)
		if !bytes.Equal(two, written(n)) {
			t.Errorf("two answers of Encode of %d share memory: %x", n, two)
		}
		wantEncode(t, n, written(n)...)
	}
	one, two := number.Flag(true), number.Flag(true)
	spoil(one)
	spoil(number.Flag(false))
	if !bytes.Equal(two, []byte{1}) {
		t.Errorf("two answers of Flag share memory: %x", two)
	}
	TestFlag(t)
}

// R5: a call ahead is nothing to the next one.
func TestCallsHangOnTheirArgumentsAlone(t *testing.T) {
	for range 3 {
		wrongDecode(t, []byte{1, 0}, 4)
		wantDecode(t, []byte{0x80, 0}, 4, 128)
		wrongDecode(t, []byte{1, 2, 3}, 2)
		wantDecode(t, []byte{1, 2, 3}, 3, 0x030201)
		wantEncode(t, smallest, 0, 0, 0, 0, 0, 0, 0, 0x80, 0x80)
		wantEncode(t, 0)
		wantTruth(t, true, 1)
		wantTruth(t, false, 0x80)
	}
}
