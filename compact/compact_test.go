package compact_test

import (
	"bytes"
	"encoding/binary"
	"fmt"
	"math"
	"slices"
	"testing"

	"entail/api"
	"entail/compact"
)

// sizes: each with the bytes that it must have, at the edges of all four lengths.
var sizes = []struct {
	n    uint64
	want []byte
}{
	{0, []byte{0}},
	{1, []byte{1}},
	{252, []byte{0xfc}},
	{253, []byte{0xfd, 0xfd, 0}},
	{254, []byte{0xfd, 0xfe, 0}},
	{255, []byte{0xfd, 0xff, 0}},
	{256, []byte{0xfd, 0, 1}},
	{65535, []byte{0xfd, 0xff, 0xff}},
	{65536, []byte{0xfe, 0, 0, 1, 0}},
	{0x04030201, []byte{0xfe, 1, 2, 3, 4}},
	{1<<32 - 1, []byte{0xfe, 0xff, 0xff, 0xff, 0xff}},
	{1 << 32, []byte{0xff, 0, 0, 0, 0, 1, 0, 0, 0}},
	{0x0807060504030201, []byte{0xff, 1, 2, 3, 4, 5, 6, 7, 8}},
	{math.MaxUint64, []byte{0xff, 0xff, 0xff, 0xff, 0xff, 0xff, 0xff, 0xff, 0xff}},
}

// wrongSizes: each with the error that A2 asks for.
var wrongSizes = []struct {
	b []byte
	e api.Errno
}{
	{nil, api.ErrShort},
	{[]byte{}, api.ErrShort},
	{[]byte{0xfd}, api.ErrShort},
	{[]byte{0xfd, 0}, api.ErrShort},
	{[]byte{0xfe, 0, 0, 0}, api.ErrShort},
	{[]byte{0xff, 0, 0, 0, 0, 0, 0, 0}, api.ErrShort},
	{[]byte{0xfd, 0, 0}, api.ErrForm},
	{[]byte{0xfd, 0xfc, 0}, api.ErrForm},
	{[]byte{0xfd, 0xfc, 0, 7, 7}, api.ErrForm},
	{[]byte{0xfe, 0, 0, 0, 0}, api.ErrForm},
	{[]byte{0xfe, 0xfd, 0, 0, 0}, api.ErrForm},
	{[]byte{0xfe, 0xff, 0xff, 0, 0}, api.ErrForm},
	{[]byte{0xff, 0, 0, 0, 0, 0, 0, 0, 0}, api.ErrForm},
	{[]byte{0xff, 0xff, 0xff, 0xff, 0xff, 0, 0, 0, 0}, api.ErrForm},
}

// lists: ordinary ones, and the empty at each place where something may be.
func lists() [][][]byte {
	return [][][]byte{
		nil,
		{},
		{nil},
		{{}, {}, {}},
		{{1}},
		{{1, 2}, nil, {3}},
		{bytes.Repeat([]byte{0xfd}, 252), bytes.Repeat([]byte{0xfe}, 253)},
		{bytes.Repeat([]byte{0xff}, 65535), {0}, bytes.Repeat([]byte{7}, 65536)},
		slices.Repeat([][]byte{{5}}, 252),
		slices.Repeat([][]byte{nil}, 253),
		slices.Repeat([][]byte{{6}}, 65536),
	}
}

func sameList(a, b [][]byte) bool {
	return slices.EqualFunc(a, b, bytes.Equal)
}

// P1.1, A1.

func TestPutNumbers(t *testing.T) {
	for _, n := range []uint64{0, 1, 255, 256, 0x04030201, 1<<32 - 1, 1 << 32, 0x0807060504030201, math.MaxUint64} {
		want := binary.LittleEndian.AppendUint64([]byte{9, 8}, n)
		if b := compact.Put64([]byte{9, 8}, n); !bytes.Equal(b, want) {
			t.Errorf("Put64 of %d: %x, not %x", n, b, want)
		}
		want = binary.LittleEndian.AppendUint32([]byte{9, 8}, uint32(n))
		if b := compact.Put32([]byte{9, 8}, uint32(n)); !bytes.Equal(b, want) {
			t.Errorf("Put32 of %d: %x, not %x", uint32(n), b, want)
		}
	}
	if b := compact.Put32(nil, 0x04030201); !bytes.Equal(b, []byte{1, 2, 3, 4}) {
		t.Errorf("Put32 behind nothing: %x", b)
	}
	if b := compact.Put64(nil, 0x0807060504030201); !bytes.Equal(b, []byte{1, 2, 3, 4, 5, 6, 7, 8}) {
		t.Errorf("Put64 behind nothing: %x", b)
	}
}

func TestPutSize(t *testing.T) {
	for _, x := range sizes {
		if b := compact.PutSize(nil, x.n); !bytes.Equal(b, x.want) {
			t.Errorf("PutSize of %d: %x, not %x", x.n, b, x.want)
		}
		if b := compact.PutSize([]byte{9, 8}, x.n); !bytes.Equal(b, append([]byte{9, 8}, x.want...)) {
			t.Errorf("PutSize of %d behind others: %x", x.n, b)
		}
	}
}

func TestPutBytes(t *testing.T) {
	for _, n := range []int{0, 1, 252, 253, 65535, 65536} {
		x := bytes.Repeat([]byte{0xab}, n)
		want := append(compact.PutSize([]byte{9}, uint64(n)), x...)
		if b := compact.PutBytes([]byte{9}, x); !bytes.Equal(b, want) {
			t.Errorf("PutBytes of %d bytes is wrong", n)
		}
	}
	if b := compact.PutBytes(nil, nil); !bytes.Equal(b, []byte{0}) {
		t.Errorf("PutBytes of nothing: %x", b)
	}
}

func TestPutList(t *testing.T) {
	for _, x := range []struct {
		l    [][]byte
		want []byte
	}{
		{nil, []byte{9, 0}},
		{[][]byte{}, []byte{9, 0}},
		{[][]byte{nil}, []byte{9, 1, 0}},
		{[][]byte{{}, {}}, []byte{9, 2, 0, 0}},
		{[][]byte{{1, 2}, nil, {3}}, []byte{9, 3, 2, 1, 2, 0, 1, 3}},
	} {
		if b := compact.PutList([]byte{9}, x.l); !bytes.Equal(b, x.want) {
			t.Errorf("PutList of %v: %x, not %x", x.l, b, x.want)
		}
	}
	for _, n := range []int{252, 253, 65535, 65536} {
		want := append(compact.PutSize(nil, uint64(n)), bytes.Repeat([]byte{1, 7}, n)...)
		if b := compact.PutList(nil, slices.Repeat([][]byte{{7}}, n)); !bytes.Equal(b, want) {
			t.Errorf("PutList of %d strings is wrong", n)
		}
	}
}

// P1.1, A2.

func TestTake(t *testing.T) {
	for _, x := range []struct {
		b, got, rest []byte
		n            int
		e            api.Errno
	}{
		{b: []byte{1, 2, 3}, n: 0, rest: []byte{1, 2, 3}},
		{b: []byte{1, 2, 3}, n: 2, got: []byte{1, 2}, rest: []byte{3}},
		{b: []byte{1, 2, 3}, n: 3, got: []byte{1, 2, 3}},
		{b: []byte{1, 2, 3}, n: 4, e: api.ErrShort},
		{b: []byte{1, 2, 3}, n: math.MaxInt, e: api.ErrShort},
		{b: []byte{1, 2, 3}, n: -1, e: api.ErrArg},
		{b: []byte{1, 2, 3}, n: math.MinInt, e: api.ErrArg},
		{b: nil, n: 0},
		{b: nil, n: 1, e: api.ErrShort},
		{b: nil, n: -1, e: api.ErrArg},
	} {
		got, rest, e := compact.Take(x.b, x.n)
		if !bytes.Equal(got, x.got) || !bytes.Equal(rest, x.rest) || e != x.e {
			t.Errorf("Take of %d of %x: %x, %x, %d", x.n, x.b, got, rest, e)
		}
	}
}

// TestTakeRoom: what lies in the room behind the end is not there to be taken.
func TestTakeRoom(t *testing.T) {
	b := make([]byte, 3, 20)
	b[0] = 4
	if got, rest, e := compact.Take(b, 4); len(got) != 0 || len(rest) != 0 || e != api.ErrShort {
		t.Errorf("Take: %x, %x, %d", got, rest, e)
	}
	if n, rest, e := compact.Take32(b); n != 0 || len(rest) != 0 || e != api.ErrShort {
		t.Errorf("Take32: %d, %x, %d", n, rest, e)
	}
	if got, rest, e := compact.TakeBytes(b, 9); len(got) != 0 || len(rest) != 0 || e != api.ErrShort {
		t.Errorf("TakeBytes: %x, %x, %d", got, rest, e)
	}
	if got, rest, e := compact.TakeList(b, 9, 9); len(got) != 0 || len(rest) != 0 || e != api.ErrShort {
		t.Errorf("TakeList: %x, %x, %d", got, rest, e)
	}
}

func TestTakeNumbers(t *testing.T) {
	all := []byte{0xf1, 0xf2, 0xf3, 0xf4, 0xf5, 0xf6, 0xf7, 0xf8, 9, 10}
	for i := range len(all) + 1 {
		b := all[:i]
		n, rest, e := compact.Take32(b)
		if i < 4 && (n != 0 || len(rest) != 0 || e != api.ErrShort) {
			t.Errorf("Take32 of %x: %x, %x, %d", b, n, rest, e)
		}
		if i >= 4 && (n != 0xf4f3f2f1 || !bytes.Equal(rest, b[4:]) || e != api.OK) {
			t.Errorf("Take32 of %x: %x, %x, %d", b, n, rest, e)
		}
		m, rest, e := compact.Take64(b)
		if i < 8 && (m != 0 || len(rest) != 0 || e != api.ErrShort) {
			t.Errorf("Take64 of %x: %x, %x, %d", b, m, rest, e)
		}
		if i >= 8 && (m != 0xf8f7f6f5f4f3f2f1 || !bytes.Equal(rest, b[8:]) || e != api.OK) {
			t.Errorf("Take64 of %x: %x, %x, %d", b, m, rest, e)
		}
	}
}

func TestTakeSize(t *testing.T) {
	for _, x := range sizes {
		n, rest, e := compact.TakeSize(append(slices.Clone(x.want), 7, 8))
		if n != x.n || !bytes.Equal(rest, []byte{7, 8}) || e != api.OK {
			t.Errorf("TakeSize of %x: %d, %x, %d", x.want, n, rest, e)
		}
	}
	for _, x := range wrongSizes {
		n, rest, e := compact.TakeSize(x.b)
		if n != 0 || len(rest) != 0 || e != x.e {
			t.Errorf("TakeSize of %x: %d, %x, %d, not %d", x.b, n, rest, e, x.e)
		}
	}
}

func TestTakeBytesWrong(t *testing.T) {
	for _, x := range wrongSizes { // the size's error is ahead of the limit's
		for _, most := range []int{math.MinInt, -1, 0, 1, 70000, math.MaxInt} {
			got, rest, e := compact.TakeBytes(x.b, most)
			if len(got) != 0 || len(rest) != 0 || e != x.e {
				t.Errorf("TakeBytes of %x, %d: %x, %x, %d, not %d", x.b, most, got, rest, e, x.e)
			}
		}
	}
	half := compact.PutSize(nil, 1<<63-1)
	above := compact.PutSize(nil, 1<<63)
	most := compact.PutSize(nil, math.MaxUint64)
	for _, x := range []struct {
		b    []byte
		most int
		e    api.Errno
	}{
		{[]byte{0}, -1, api.ErrLarge},
		{[]byte{0}, math.MinInt, api.ErrLarge},
		{[]byte{1, 5}, 0, api.ErrLarge},
		{[]byte{1}, 0, api.ErrLarge},
		{[]byte{2, 1, 1}, 1, api.ErrLarge},
		{[]byte{2, 1}, 1, api.ErrLarge},
		{[]byte{2, 1}, 2, api.ErrShort},
		{[]byte{2}, 2, api.ErrShort},
		{[]byte{0xfd, 0xfd, 0}, 252, api.ErrLarge},
		{[]byte{0xfd, 0xfd, 0}, 253, api.ErrShort},
		{half, math.MaxInt, api.ErrShort},
		{half, 0, api.ErrLarge},
		{above, math.MaxInt, api.ErrLarge},
		{above, -1, api.ErrLarge},
		{above, math.MinInt, api.ErrLarge},
		{most, math.MaxInt, api.ErrLarge},
		{most, -1, api.ErrLarge},
		{append(most, 1, 2, 3), 3, api.ErrLarge},
	} {
		got, rest, e := compact.TakeBytes(x.b, x.most)
		if len(got) != 0 || len(rest) != 0 || e != x.e {
			t.Errorf("TakeBytes of %x, %d: %x, %x, %d, not %d", x.b, x.most, got, rest, e, x.e)
		}
	}
}

func TestTakeBytesLimit(t *testing.T) {
	for _, n := range []int{0, 1, 252, 253, 65535, 65536} {
		x := bytes.Repeat([]byte{0xfd}, n)
		b := append(compact.PutBytes(nil, x), 7)
		for _, most := range []int{n, n + 1, math.MaxInt} {
			got, rest, e := compact.TakeBytes(b, most)
			if !bytes.Equal(got, x) || !bytes.Equal(rest, []byte{7}) || e != api.OK {
				t.Errorf("TakeBytes of %d bytes, at most %d: %d bytes, %x, %d", n, most, len(got), rest, e)
			}
		}
		got, rest, e := compact.TakeBytes(b, n-1)
		if len(got) != 0 || len(rest) != 0 || e != api.ErrLarge {
			t.Errorf("TakeBytes of %d bytes, at most one less: %d bytes, %x, %d", n, len(got), rest, e)
		}
	}
}

func TestTakeListWrong(t *testing.T) {
	for _, x := range wrongSizes { // the count's error is ahead of the limits'
		for _, many := range []int{math.MinInt, -1, 0, 1, 70000, math.MaxInt} {
			got, rest, e := compact.TakeList(x.b, many, -1)
			if len(got) != 0 || len(rest) != 0 || e != x.e {
				t.Errorf("TakeList of %x, %d: %x, %x, %d, not %d", x.b, many, got, rest, e, x.e)
			}
		}
		// As a string's size, behind a good string: that string's error, whatever comes then.
		b := append([]byte{3, 1, 9}, x.b...)
		got, rest, e := compact.TakeList(b, 3, 1)
		if len(got) != 0 || len(rest) != 0 || e != x.e {
			t.Errorf("TakeList of %x: %x, %x, %d, not %d", b, got, rest, e, x.e)
		}
	}
	for _, x := range []struct {
		b          []byte
		many, most int
		e          api.Errno
	}{
		{[]byte{0}, -1, 5, api.ErrLarge},
		{[]byte{0}, math.MinInt, 5, api.ErrLarge},
		{[]byte{1, 0}, 0, 5, api.ErrLarge},
		{[]byte{1}, 0, 5, api.ErrLarge},
		{[]byte{3}, 2, 5, api.ErrLarge},
		{[]byte{3, 0xfd, 0, 0}, 2, 5, api.ErrLarge},
		{[]byte{3, 0xfd, 0, 0}, 3, 5, api.ErrForm},
		{[]byte{1, 0}, 1, -1, api.ErrLarge},
		{[]byte{1, 1, 7}, 1, 0, api.ErrLarge},
		{[]byte{1}, 1, -1, api.ErrShort},
		{[]byte{2, 1, 7}, 2, 1, api.ErrShort},
		{[]byte{2, 1, 7, 2, 8}, 2, 1, api.ErrLarge},
		{[]byte{2, 1, 7, 2, 8}, 2, 2, api.ErrShort},
		{[]byte{2, 2, 7, 7, 0xfd, 0, 0}, 2, 1, api.ErrLarge},
		{[]byte{2, 0xfd, 0, 0, 2, 7, 7}, 2, 1, api.ErrForm},
		{append(compact.PutSize(nil, 1<<63-1), 0, 0), math.MaxInt, 5, api.ErrShort},
		{append(compact.PutSize(nil, 1<<63), 0, 0), math.MaxInt, 5, api.ErrLarge},
		{append(compact.PutSize(nil, math.MaxUint64), 0, 0), math.MaxInt, 5, api.ErrLarge},
		{append(compact.PutSize(nil, math.MaxUint64), 0, 0), -1, 5, api.ErrLarge},
	} {
		got, rest, e := compact.TakeList(x.b, x.many, x.most)
		if len(got) != 0 || len(rest) != 0 || e != x.e {
			t.Errorf("TakeList of %x, %d, %d: %x, %x, %d, not %d", x.b, x.many, x.most, got, rest, e, x.e)
		}
	}
}

func TestTakeListLimits(t *testing.T) {
	for i, l := range lists() {
		most := -1
		for _, x := range l {
			most = max(most, len(x))
		}
		b := append(compact.PutList(nil, l), 7)
		got, rest, e := compact.TakeList(b, len(l), most) // of an empty list no string is held against most
		if !sameList(got, l) || !bytes.Equal(rest, []byte{7}) || e != api.OK {
			t.Errorf("list %d just at its limits: %d strings, %d left, %d", i, len(got), len(rest), e)
		}
		got, rest, e = compact.TakeList(b, len(l)-1, math.MaxInt)
		if len(got) != 0 || len(rest) != 0 || e != api.ErrLarge {
			t.Errorf("list %d, one string too many: %d strings, %d left, %d", i, len(got), len(rest), e)
		}
		if len(l) == 0 {
			continue
		}
		got, rest, e = compact.TakeList(b, math.MaxInt, most-1)
		if len(got) != 0 || len(rest) != 0 || e != api.ErrLarge {
			t.Errorf("list %d, a string one byte too long: %d strings, %d left, %d", i, len(got), len(rest), e)
		}
	}
}

// P1.2.

var tails = [][]byte{nil, {0}, {0xff}, {0xfd, 0xfd, 0}, bytes.Repeat([]byte{3}, 300)}

// cuts: all beginnings of n bytes, but itself; of a long one those near its ends and some between.
func cuts(n int) []int {
	var out []int
	for i := 0; i < n; i++ {
		if i > 600 && i < n-20 {
			i = min(i+4999, n-20)
		}
		out = append(out, i)
	}
	return out
}

// thereAndBack: take is what takes that was put, and tells whether it is as it was.
func thereAndBack(t *testing.T, name string, put []byte, take func(b []byte) (bool, []byte, api.Errno)) {
	t.Helper()
	for _, tail := range tails {
		same, rest, e := take(slices.Concat(put, tail))
		if !same || !bytes.Equal(rest, tail) || e != api.OK {
			t.Errorf("%s, with %d bytes behind: %t, %x, %d", name, len(tail), same, rest, e)
		}
	}
	for _, i := range cuts(len(put)) {
		if _, rest, e := take(put[:i:i]); len(rest) != 0 || e != api.ErrShort {
			t.Errorf("%s, its first %d bytes: %x, %d", name, i, rest, e)
		}
	}
}

func TestThereAndBack(t *testing.T) {
	for _, x := range sizes {
		n := x.n
		thereAndBack(t, fmt.Sprint("32 bits of ", n), compact.Put32(nil, uint32(n)), func(b []byte) (bool, []byte, api.Errno) {
			m, rest, e := compact.Take32(b)
			return m == uint32(n), rest, e
		})
		thereAndBack(t, fmt.Sprint("64 bits of ", n), compact.Put64(nil, n), func(b []byte) (bool, []byte, api.Errno) {
			m, rest, e := compact.Take64(b)
			return m == n, rest, e
		})
		thereAndBack(t, fmt.Sprint("the size ", n), compact.PutSize(nil, n), func(b []byte) (bool, []byte, api.Errno) {
			m, rest, e := compact.TakeSize(b)
			return m == n, rest, e
		})
	}
	for i, l := range lists() {
		thereAndBack(t, fmt.Sprint("the list ", i), compact.PutList(nil, l), func(b []byte) (bool, []byte, api.Errno) {
			m, rest, e := compact.TakeList(b, 70000, 70000)
			return sameList(m, l), rest, e
		})
		for _, x := range l[:min(len(l), 3)] {
			thereAndBack(t, fmt.Sprint("a string of ", len(x)), compact.PutBytes(nil, x), func(b []byte) (bool, []byte, api.Errno) {
				m, rest, e := compact.TakeBytes(b, 70000)
				return bytes.Equal(m, x), rest, e
			})
			thereAndBack(t, fmt.Sprint("bare bytes, ", len(x)), x, func(b []byte) (bool, []byte, api.Errno) {
				m, rest, e := compact.Take(b, len(x))
				return bytes.Equal(m, x), rest, e
			})
		}
	}
}

// TestThereAndBackRow: things put one behind the other are taken one after the other.
func TestThereAndBackRow(t *testing.T) {
	b := compact.PutSize(compact.PutList(compact.PutBytes(compact.Put64(compact.Put32(nil, 1), 2), []byte{3}), [][]byte{{4}, {}}), 500)
	n, b, e1 := compact.Take32(b)
	m, b, e2 := compact.Take64(b)
	x, b, e3 := compact.TakeBytes(b, 1)
	l, b, e4 := compact.TakeList(b, 2, 1)
	s, b, e5 := compact.TakeSize(b)
	if e1|e2|e3|e4|e5 != api.OK || len(b) != 0 {
		t.Errorf("errors: %d, %d, %d, %d, %d; left: %x", e1, e2, e3, e4, e5, b)
	}
	if n != 1 || m != 2 || !bytes.Equal(x, []byte{3}) || !sameList(l, [][]byte{{4}, {}}) || s != 500 {
		t.Errorf("taken: %d, %d, %x, %x, %d", n, m, x, l, s)
	}
}

// P1.3.

// onlySo: what is taken from b, put again, is what was taken.
func onlySo(t *testing.T, b []byte) {
	t.Helper()
	if n, rest, e := compact.Take32(b); e == api.OK && !bytes.Equal(append(compact.Put32(nil, n), rest...), b) {
		t.Errorf("Take32 of %x", b)
	}
	if n, rest, e := compact.Take64(b); e == api.OK && !bytes.Equal(append(compact.Put64(nil, n), rest...), b) {
		t.Errorf("Take64 of %x", b)
	}
	if n, rest, e := compact.TakeSize(b); e == api.OK && !bytes.Equal(append(compact.PutSize(nil, n), rest...), b) {
		t.Errorf("TakeSize of %x", b)
	}
	if x, rest, e := compact.TakeBytes(b, math.MaxInt); e == api.OK && !bytes.Equal(append(compact.PutBytes(nil, x), rest...), b) {
		t.Errorf("TakeBytes of %x", b)
	}
	if l, rest, e := compact.TakeList(b, math.MaxInt, math.MaxInt); e == api.OK && !bytes.Equal(append(compact.PutList(nil, l), rest...), b) {
		t.Errorf("TakeList of %x", b)
	}
	if x, rest, e := compact.Take(b, len(b)/2); e != api.OK || !bytes.Equal(append(x, rest...), b) {
		t.Errorf("Take of %x", b)
	}
}

// TestOnlySo: all rows of up to 5 bytes of those that tell something, bare and behind each mark of a size.
func TestOnlySo(t *testing.T) {
	rows := [][]byte{nil}
	for range 6 {
		var longer [][]byte
		for _, b := range rows {
			onlySo(t, b)
			onlySo(t, slices.Concat([]byte{253}, b))
			onlySo(t, slices.Concat([]byte{254}, b, []byte{0, 0}))
			onlySo(t, slices.Concat([]byte{255}, b, []byte{0, 0, 0, 0}))
			onlySo(t, slices.Concat([]byte{255, 255, 255, 255}, b, []byte{0, 0, 0, 0}))
			for _, c := range []byte{0, 1, 2, 252, 253, 254, 255} {
				longer = append(longer, slices.Concat(b, []byte{c}))
			}
		}
		rows = longer
	}
}

func FuzzOnlySo(f *testing.F) {
	for _, x := range sizes {
		f.Add(x.want)
	}
	for _, x := range wrongSizes {
		f.Add(x.b)
	}
	f.Add([]byte{3, 2, 1, 2, 0, 1, 3, 9})
	f.Fuzz(onlySo)
}

// R4.

// guarded: b with marked room behind its end, and what tells that neither was touched.
func guarded(t *testing.T, b []byte) ([]byte, func(name string)) {
	room := append(slices.Clone(b), bytes.Repeat([]byte{0xa5}, 64)...)
	was := slices.Clone(room)
	return room[:len(b):len(room)], func(name string) {
		t.Helper()
		if !bytes.Equal(room, was) {
			t.Errorf("%s: what was handed in is changed: %x, not %x", name, room, was)
		}
	}
}

// spoil: writes over b and over its spare room.
func spoil(b []byte) {
	b = b[:cap(b)]
	for i := range b {
		b[i] = 0x5a
	}
}

func TestPutsLeaveArguments(t *testing.T) {
	for _, begin := range [][]byte{nil, {1}, bytes.Repeat([]byte{2}, 40)} {
		b, check := guarded(t, begin)
		x, checkX := guarded(t, []byte{7, 7, 7})
		l := [][]byte{x, nil, x, {5}}[:3:4]
		for _, p := range []struct {
			name string
			put  func() []byte
		}{
			{"Put32", func() []byte { return compact.Put32(b, 3) }},
			{"Put64", func() []byte { return compact.Put64(b, 3) }},
			{"PutSize", func() []byte { return compact.PutSize(b, 3) }},
			{"PutSize of 2^32", func() []byte { return compact.PutSize(b, 1<<32) }},
			{"PutBytes", func() []byte { return compact.PutBytes(b, x) }},
			{"PutBytes of nothing", func() []byte { return compact.PutBytes(b, nil) }},
			{"PutBytes of itself", func() []byte { return compact.PutBytes(b, b) }},
			{"PutBytes behind a string", func() []byte { return compact.PutBytes(x, b) }},
			{"PutList", func() []byte { return compact.PutList(b, l) }},
			{"PutList of nothing", func() []byte { return compact.PutList(b, nil) }},
			{"PutList of itself", func() []byte { return compact.PutList(b, [][]byte{b, b}) }},
		} {
			first := p.put()
			check(p.name)
			checkX(p.name)
			second := p.put()
			kept := slices.Clone(second)
			spoil(first)
			check(p.name + ", spoilt")
			checkX(p.name + ", spoilt")
			if !bytes.Equal(second, kept) || !bytes.Equal(p.put(), kept) {
				t.Errorf("%s: two answers share memory", p.name)
			}
		}
		if full := l[:4]; len(full[0]) != 3 || len(full[1]) != 0 || len(full[2]) != 3 || len(full[3]) != 1 {
			t.Errorf("PutList: the list is changed: %x", full)
		}
	}
}

func TestTakesLeaveArguments(t *testing.T) {
	tail := bytes.Repeat([]byte{4}, 30)
	numbers := slices.Concat([]byte{1, 2, 3, 4, 5, 6, 7, 8}, tail)
	list := compact.PutList(nil, [][]byte{{1}, bytes.Repeat([]byte{2}, 20), {}, bytes.Repeat([]byte{3}, 300)})
	for _, p := range []struct {
		name string
		b    []byte
		take func(b []byte) [][]byte // the lists of the answer
	}{
		{"Take", numbers, func(b []byte) [][]byte {
			x, rest, _ := compact.Take(b, 5)
			return [][]byte{x, rest}
		}},
		{"Take of nothing", numbers, func(b []byte) [][]byte {
			x, rest, _ := compact.Take(b, 0)
			return [][]byte{x, rest}
		}},
		{"Take of all", numbers, func(b []byte) [][]byte {
			x, rest, _ := compact.Take(b, len(b))
			return [][]byte{x, rest}
		}},
		{"Take32", numbers, func(b []byte) [][]byte {
			_, rest, _ := compact.Take32(b)
			return [][]byte{rest}
		}},
		{"Take64", numbers, func(b []byte) [][]byte {
			_, rest, _ := compact.Take64(b)
			return [][]byte{rest}
		}},
		{"TakeSize", numbers, func(b []byte) [][]byte {
			_, rest, _ := compact.TakeSize(b)
			return [][]byte{rest}
		}},
		{"TakeBytes", slices.Concat([]byte{9, 1, 2, 3, 4, 5, 6, 7, 8, 9}, tail), func(b []byte) [][]byte {
			x, rest, _ := compact.TakeBytes(b, 9)
			return [][]byte{x, rest}
		}},
		{"TakeBytes of all", []byte{3, 1, 2, 3}, func(b []byte) [][]byte {
			x, rest, _ := compact.TakeBytes(b, 9)
			return [][]byte{x, rest}
		}},
		{"TakeBytes too short", []byte{9, 1, 2, 3}, func(b []byte) [][]byte {
			x, rest, _ := compact.TakeBytes(b, 9)
			return [][]byte{x, rest}
		}},
		{"TakeList", slices.Concat(list, tail), func(b []byte) [][]byte {
			l, rest, _ := compact.TakeList(b, 4, 300)
			return append(l, rest)
		}},
		{"TakeList with nothing behind", list, func(b []byte) [][]byte {
			l, rest, _ := compact.TakeList(b, 4, 300)
			return append(l, rest)
		}},
	} {
		b, check := guarded(t, p.b)
		got := p.take(b)
		check(p.name)
		want := p.take(b)
		for i, x := range got {
			spoil(x)
			check(fmt.Sprint(p.name, ", spoilt at ", i))
			for j := i + 1; j < len(got); j++ {
				if !bytes.Equal(got[j], want[j]) {
					t.Errorf("%s: the lists %d and %d of an answer share memory", p.name, i, j)
				}
			}
			if len(x) > 0 && bytes.Equal(x, want[i]) || !sameList(p.take(b), want) {
				t.Errorf("%s: two answers share memory", p.name)
			}
		}
		for i := len(got) - 1; i >= 0; i-- { // and from the last on, where a later list may reach into an earlier one
			got = p.take(b)
			spoil(got[i])
			for j := range i {
				if !bytes.Equal(got[j], want[j]) {
					t.Errorf("%s: the lists %d and %d of an answer share memory", p.name, i, j)
				}
			}
		}
		spoil(b)
		if !sameList(want, p.take(append([]byte(nil), p.b...))) {
			t.Errorf("%s: an answer shares memory with the argument", p.name)
		}
	}
}

// TestLongListEnds: a list is gone through once, however many strings it has.
func TestLongListEnds(t *testing.T) {
	const many = 1 << 20
	l, rest, e := compact.TakeList(compact.PutList(nil, make([][]byte, many)), many, 0)
	if len(l) != many || len(rest) != 0 || e != api.OK {
		t.Errorf("%d strings, %d left, %d", len(l), len(rest), e)
	}
}
