package tx_test

import (
	"bytes"
	"crypto/sha256"
	"encoding/binary"
	"encoding/hex"
	"fmt"
	"math"
	"math/rand"
	"slices"
	"strings"
	"testing"

	"entail/api"
	"entail/tx"
)

// size: one of a form: where it stands, what it says, in how many bytes, and the most that fits.
type size struct {
	what           string
	at, n, len, up int
}

// laid: a form as the chapter's words say it, by another library, with all its sizes.
type laid struct {
	b     []byte
	bare  int
	sizes []size
}

func (l *laid) four(n uint32) { l.b = binary.LittleEndian.AppendUint32(l.b, n) }

func (l *laid) size(what string, n, up int) {
	s := sizeBytes(uint64(n))
	l.sizes = append(l.sizes, size{what, len(l.b), n, len(s), up})
	l.b = append(l.b, s...)
}

func lay(t api.Tx) *laid {
	l := &laid{}
	l.four(t.Version)
	l.size("inputs", len(t.Ins), 20)
	for _, in := range t.Ins {
		l.b = append(l.b, in.Prev.Tx[:]...)
		l.four(in.Prev.Index)
		l.four(in.Sequence)
	}
	l.size("outputs", len(t.Outs), 20)
	for _, out := range t.Outs {
		l.b = binary.LittleEndian.AppendUint64(l.b, out.Value)
		l.size("script", len(out.Script), 1000)
		l.b = append(l.b, out.Script...)
	}
	l.four(t.Lock)
	l.bare = len(l.b)
	for _, in := range t.Ins {
		l.size("witness", len(in.Witness), 30)
		for _, x := range in.Witness {
			l.size("thing", len(x), 1000)
			l.b = append(l.b, x...)
		}
	}
	return l
}

// sizeBytes: a size, as short as can be.
func sizeBytes(n uint64) []byte {
	switch {
	case n < 253:
		return []byte{byte(n)}
	case n < 1<<16:
		return binary.LittleEndian.AppendUint16([]byte{253}, uint16(n))
	case n < 1<<32:
		return binary.LittleEndian.AppendUint32([]byte{254}, uint32(n))
	}
	return binary.LittleEndian.AppendUint64([]byte{255}, n)
}

// longer: a size below 2^16, in each of the ways that are longer than it must be.
func longer(n int) [][]byte {
	all := [][]byte{
		binary.LittleEndian.AppendUint16([]byte{253}, uint16(n)),
		binary.LittleEndian.AppendUint32([]byte{254}, uint32(n)),
		binary.LittleEndian.AppendUint64([]byte{255}, uint64(n)),
	}
	return all[len(sizeBytes(uint64(n)))/3:]
}

// walk goes through a form as the chapter's words say it, and throws the first error.
type walk struct{ b []byte }

func (w *walk) bytes(n int) []byte {
	if n > len(w.b) {
		panic(api.ErrShort)
	}
	x := slices.Clone(w.b[:n])
	w.b = w.b[n:]
	return x
}

func (w *walk) four() uint32 { return binary.LittleEndian.Uint32(w.bytes(4)) }

func (w *walk) size(up uint64) int {
	n, length := uint64(w.bytes(1)[0]), 1
	switch n {
	case 253:
		n, length = uint64(binary.LittleEndian.Uint16(w.bytes(2))), 3
	case 254:
		n, length = uint64(w.four()), 5
	case 255:
		n, length = binary.LittleEndian.Uint64(w.bytes(8)), 9
	}
	if length != len(sizeBytes(n)) {
		panic(api.ErrForm)
	}
	if n > up {
		panic(api.ErrLarge)
	}
	return int(n)
}

// takeByWords: what Take has to answer.
func takeByWords(b []byte) (t api.Tx, rest []byte, e api.Errno) {
	defer func() {
		if thrown := recover(); thrown != nil {
			t, rest, e = api.Tx{}, nil, thrown.(api.Errno)
		}
	}()
	w := &walk{b}
	t.Version = w.four()
	t.Ins = make([]api.In, w.size(20))
	for i := range t.Ins {
		copy(t.Ins[i].Prev.Tx[:], w.bytes(32))
		t.Ins[i].Prev.Index = w.four()
		t.Ins[i].Sequence = w.four()
	}
	t.Outs = make([]api.Out, w.size(20))
	for i := range t.Outs {
		t.Outs[i].Value = binary.LittleEndian.Uint64(w.bytes(8))
		t.Outs[i].Script = w.bytes(w.size(1000))
	}
	t.Lock = w.four()
	for i := range t.Ins {
		t.Ins[i].Witness = make([][]byte, w.size(30))
		for k := range t.Ins[i].Witness {
			t.Ins[i].Witness[k] = w.bytes(w.size(1000))
		}
	}
	if len(b)-len(w.b) > 12000 {
		panic(api.ErrLarge)
	}
	return t, w.b, api.OK
}

// double: the double hash, by another SHA-256.
func double(b []byte) [32]byte {
	once := sha256.Sum256(b)
	return sha256.Sum256(once[:])
}

// alike: in all, nil and empty being the same. It goes by the form of the words, which no two others share, and owes nothing to Same.
func alike(a, b api.Tx) bool { return bytes.Equal(lay(a).b, lay(b).b) }

// filled: n bytes that differ.
func filled(n int) []byte {
	b := make([]byte, n)
	for i := range b {
		b[i] = byte(i*7 + n)
	}
	return b
}

// things: n of them, each of so many bytes.
func things(n, each int) [][]byte {
	l := make([][]byte, n)
	for i := range l {
		l[i] = filled(each)
	}
	return l
}

// inputs: n that differ in all fields, without witnesses.
func inputs(n int) []api.In {
	l := make([]api.In, n)
	for i := range l {
		l[i] = api.In{Prev: api.Ref{Tx: double([]byte{byte(i)}), Index: uint32(i+1) * 0x01020304}, Sequence: 0xfffffffe - uint32(i)}
	}
	return l
}

// outputs: n that differ in their values, each with a script of so many bytes.
func outputs(n, each int) []api.Out {
	l := make([]api.Out, n)
	for i := range l {
		l[i] = api.Out{Value: uint64(i)<<40 + 0x0807060504030201, Script: filled(each)}
	}
	return l
}

// ordinary: something in every field.
func ordinary() api.Tx {
	t := api.Tx{Version: 0x04030201, Ins: inputs(2), Outs: outputs(2, 3), Lock: 0xfdfcfbfa}
	t.Ins[0].Witness = [][]byte{{1, 2}, nil, {3}}
	t.Ins[1].Witness = [][]byte{filled(64), {4}}
	return t
}

// many: as many inputs, outputs and things as fit, so small that all of them do.
func many() api.Tx {
	t := api.Tx{Version: 1, Ins: inputs(20), Outs: outputs(20, 1), Lock: 2}
	for i := range t.Ins {
		t.Ins[i].Witness = things(30, i%20)
	}
	return t
}

// most: all that no count and no length forbids: far more than 12000 bytes.
func most() api.Tx {
	t := api.Tx{Version: 1, Ins: inputs(20), Outs: outputs(20, 1000), Lock: 2}
	for i := range t.Ins {
		t.Ins[i].Witness = things(30, 1000)
	}
	return t
}

// byScripts, byThings: those whose whole form has just n bytes, of 11395 to 12087.
func byScripts(n int) api.Tx {
	t := api.Tx{Version: 2, Outs: outputs(12, 1000)}
	t.Outs[11].Script = filled(n - 11142)
	return t
}

func byThings(n int) api.Tx {
	t := api.Tx{Version: 2, Ins: inputs(1)}
	t.Ins[0].Witness = append(things(11, 1000), filled(n-11087))
	return t
}

// fitting: ordinary ones, and those at the edges of what fits.
func fitting() []api.Tx {
	l := []api.Tx{
		{},
		{Version: 2},
		{Version: math.MaxUint32, Lock: math.MaxUint32},
		{Ins: []api.In{}, Outs: []api.Out{}, Lock: 5},
		{Ins: make([]api.In, 1), Outs: make([]api.Out, 1)},
		{Ins: []api.In{{Witness: [][]byte{}}, {Witness: [][]byte{nil}}, {Witness: [][]byte{{}, {}}}}},
		{Outs: []api.Out{{Value: math.MaxUint64, Script: []byte{}}}},
		{Ins: []api.In{{Prev: api.Ref{Index: math.MaxUint32}, Sequence: math.MaxUint32}}},
		ordinary(),
		many(),
		{Ins: inputs(20)},
		{Outs: outputs(20, 0)},
		{Outs: outputs(20, 500)},
		byScripts(12000),
		byThings(12000),
		byScripts(11999),
		byThings(11999),
	}
	for _, n := range []int{1, 252, 253, 254, 255, 256, 520, 521, 999, 1000} {
		l = append(l, api.Tx{Version: 1, Outs: outputs(3, n)})
		one := api.Tx{Version: 1, Ins: inputs(3)}
		one.Ins[1].Witness = things(3, n)
		l = append(l, one)
	}
	one := api.Tx{Ins: inputs(3)}
	one.Ins[2].Witness = things(30, 0)
	return append(l, one)
}

// tooLarge: each one past a bound, at the first place and the last.
func tooLarge() map[string]api.Tx {
	l := map[string]api.Tx{
		"21 inputs":                  {Ins: inputs(21)},
		"300 inputs":                 {Ins: inputs(300)},
		"21 outputs":                 {Outs: outputs(21, 0)},
		"300 outputs":                {Outs: outputs(300, 0)},
		"21 inputs and 21 outputs":   {Ins: inputs(21), Outs: outputs(21, 0)},
		"a script of 1001":           {Outs: outputs(1, 1001)},
		"a script of 70000":          {Outs: outputs(1, 70000)},
		"scripts of 12001 in all":    byScripts(12001),
		"things of 12001 in all":     byThings(12001),
		"as much as the parts allow": most(),
	}
	for _, at := range []int{0, 19} {
		t := many()
		t.Outs[at].Script = filled(1001)
		l[fmt.Sprint("a script of 1001 at ", at)] = t
		t = many()
		t.Ins[at].Witness = things(31, 0)
		l[fmt.Sprint("31 things at ", at)] = t
		for _, k := range []int{0, 29} {
			t = many()
			t.Ins[at].Witness[k] = filled(1001)
			l[fmt.Sprint("a thing of 1001 at ", at, ", ", k)] = t
		}
	}
	return l
}

// wantFits: that all of K1 is as the words say.
func wantFits(t *testing.T, x api.Tx) {
	t.Helper()
	l := lay(x)
	if e := tx.Check(x); e != api.OK {
		t.Errorf("Check of %d bytes: %d", len(l.b), e)
	}
	if b := tx.Bare(x); !bytes.Equal(b, l.b[:l.bare]) {
		t.Errorf("Bare: %x, not %x", b, l.b[:l.bare])
	}
	if b := tx.Whole(x); !bytes.Equal(b, l.b) {
		t.Errorf("Whole: %x, not %x", b, l.b)
	}
	if h := tx.Name(x); h != double(l.b[:l.bare]) {
		t.Errorf("Name of %x: %x", l.b, h)
	}
	if h := tx.Seal(x); h != double(l.b) {
		t.Errorf("Seal of %x: %x", l.b, h)
	}
	if n := tx.Weight(x); n != 3*l.bare+len(l.b) {
		t.Errorf("Weight of %d and %d bytes: %d", l.bare, len(l.b), n)
	}
}

// wantTake: that Take and Decode of b are as the words say, and this is the error.
func wantTake(t *testing.T, what string, b []byte, e api.Errno) {
	t.Helper()
	want, left, byWords := takeByWords(b)
	if byWords != e {
		t.Fatalf("%s: the words say %d, the test %d", what, byWords, e)
	}
	got, rest, told := tx.Take(b)
	if told != e || !bytes.Equal(rest, left) || !alike(got, want) {
		t.Errorf("%s: Take: %d, not %d; %d bytes left, not %d; %x", what, told, e, len(rest), len(left), got)
	}
	if e == api.OK && len(left) > 0 {
		e, want = api.ErrForm, api.Tx{}
	}
	if got, told := tx.Decode(b); told != e || !alike(got, want) {
		t.Errorf("%s: Decode: %d, not %d; %x", what, told, e, got)
	}
}

// some: of many sizes so many that each kind is there, at first, in between and at last.
func (l *laid) some() []size {
	var picked []size
	for i, s := range l.sizes {
		if i < 30 || i%23 == 0 || i+35 > len(l.sizes) {
			picked = append(picked, s)
		}
	}
	return picked
}

// replaced: b with other bytes in the stead of a size.
func replaced(b []byte, s size, by []byte) []byte {
	return slices.Concat(b[:s.at], by, b[s.at+s.len:])
}

// Example 1.
func TestExample(t *testing.T) {
	x := api.Tx{Version: 2}
	want := []byte{2, 0, 0, 0, 0, 0, 0, 0, 0, 0}
	if b := tx.Bare(x); !bytes.Equal(b, want) {
		t.Errorf("Bare: %x", b)
	}
	if b := tx.Whole(x); !bytes.Equal(b, want) {
		t.Errorf("Whole: %x", b)
	}
	if n := tx.Weight(x); n != 40 {
		t.Errorf("Weight: %d", n)
	}
	if got, e := tx.Decode(want); e != api.OK || !alike(got, x) {
		t.Errorf("Decode: %x, %d", got, e)
	}
}

// P9.1, K1: bytes written out, field by field.
func TestWrittenOut(t *testing.T) {
	x := api.Tx{
		Version: 0x04030201,
		Ins: []api.In{
			{Prev: api.Ref{Tx: [32]byte{0: 0xaa, 31: 0xbb}, Index: 0x14131211}, Sequence: 0x24232221, Witness: [][]byte{{7, 8}, {}, {9}}},
			{Prev: api.Ref{Tx: [32]byte{0: 0xcc, 31: 0xdd}, Index: 0x18171615}, Sequence: 0x28272625},
		},
		Outs: []api.Out{
			{Value: 0x3837363534333231, Script: []byte{0x51}},
			{Value: 0x4847464544434241},
		},
		Lock: 0x54535251,
	}
	noughts := strings.Repeat("00", 30)
	bare := "01020304" + "02" +
		"aa" + noughts + "bb" + "11121314" + "21222324" +
		"cc" + noughts + "dd" + "15161718" + "25262728" +
		"02" + "3132333435363738" + "01" + "51" + "4142434445464748" + "00" +
		"51525354"
	whole := bare + "03" + "020708" + "00" + "0109" + "00"
	if b := hex.EncodeToString(tx.Bare(x)); b != bare {
		t.Errorf("Bare: %s", b)
	}
	if b := hex.EncodeToString(tx.Whole(x)); b != whole {
		t.Errorf("Whole: %s", b)
	}
	if n := tx.Weight(x); n != 3*109+117 {
		t.Errorf("Weight: %d", n)
	}
	wantFits(t, x)
}

// P9.1, K1: what fits, up to each bound.
func TestFits(t *testing.T) {
	for _, x := range fitting() {
		wantFits(t, x)
	}
	for _, x := range []api.Tx{byScripts(12000), byThings(12000)} {
		if n := len(tx.Whole(x)); n != 12000 {
			t.Errorf("a whole form of 12000 has %d bytes", n)
		}
	}
}

// P9.1, K1: what does not fit has no form, no name, no seal, no weight.
func TestTooLarge(t *testing.T) {
	for what, x := range tooLarge() {
		if e := tx.Check(x); e != api.ErrLarge {
			t.Errorf("%s: Check: %d", what, e)
		}
		if b := tx.Bare(x); len(b) != 0 {
			t.Errorf("%s: Bare: %x", what, b)
		}
		if b := tx.Whole(x); len(b) != 0 {
			t.Errorf("%s: Whole: %x", what, b)
		}
		if h := tx.Name(x); h != [32]byte{} {
			t.Errorf("%s: Name: %x", what, h)
		}
		if h := tx.Seal(x); h != [32]byte{} {
			t.Errorf("%s: Seal: %x", what, h)
		}
		if n := tx.Weight(x); n != 0 {
			t.Errorf("%s: Weight: %d", what, n)
		}
	}
}

// P9.1, K2: each that is too large is also told so where it is read, be its bytes there or not.
func TestTakeTooLarge(t *testing.T) {
	for what, x := range tooLarge() {
		b := lay(x).b
		wantTake(t, what, b, api.ErrLarge)
		wantTake(t, what+", with bytes behind", append(b, 1, 2, 3), api.ErrLarge)
	}
}

// P9.1, K2: every beginning of a whole form is too short.
func TestTakeBeginnings(t *testing.T) {
	for _, x := range fitting() {
		b := lay(x).b
		step := 1 + len(b)/600*7
		for n := 0; n < len(b); n += step {
			wantTake(t, fmt.Sprint(n, " of ", len(b)), b[:n], api.ErrShort)
		}
		wantTake(t, "all but one", b[:len(b)-1], api.ErrShort)
		wantTake(t, "all", b, api.OK)
	}
	b := lay(ordinary()).b
	for n := range b {
		// The room behind the end has the rest, but it does not count.
		if got, rest, e := tx.Take(b[:n]); e != api.ErrShort || len(rest) != 0 || !alike(got, api.Tx{}) {
			t.Errorf("Take of %d of %d: %x, %x, %d", n, len(b), got, rest, e)
		}
	}
	wantTake(t, "nil", nil, api.ErrShort)
	wantTake(t, "nothing", []byte{}, api.ErrShort)
}

// P9.1, K2: a size that is longer than it must be, at each place where one stands, whatever comes behind it.
func TestTakeLongSizes(t *testing.T) {
	for _, x := range []api.Tx{{}, ordinary(), many(), byScripts(12000), byThings(12000), {Outs: outputs(2, 252)}, {Outs: outputs(2, 253)}} {
		l := lay(x)
		for _, s := range l.some() {
			for _, n := range []int{s.n, 0, 1, 21, 252} {
				for _, by := range longer(n) {
					b := replaced(l.b, s, by)
					what := fmt.Sprintf("%s at %d as %x", s.what, s.at, by)
					wantTake(t, what, b, api.ErrForm)
					wantTake(t, what+", and no more", b[:s.at+len(by)], api.ErrForm)
					wantTake(t, what+", cut", b[:s.at+len(by)-1], api.ErrShort)
				}
			}
		}
	}
	// Past what fits, and also longer than it must be: the form of the size is ahead.
	wantTake(t, "21 inputs in 3 bytes", []byte{0, 0, 0, 0, 253, 21, 0}, api.ErrForm)
	wantTake(t, "1001 bytes in 5 bytes", append(make([]byte, 4+1), 1, 0, 0, 0, 0, 0, 0, 0, 0, 254, 0xe9, 3, 0, 0), api.ErrForm)
}

// P9.1, K2: a count or a length past what fits, at each place where one stands, ahead of its bytes.
func TestTakeLargeSizes(t *testing.T) {
	for _, x := range []api.Tx{{}, ordinary(), many(), byScripts(12000), byThings(12000)} {
		l := lay(x)
		for _, s := range l.some() {
			for _, n := range []uint64{uint64(s.up) + 1, 1 << 16, 1<<32 - 1, 1 << 32, 1 << 63, 1<<63 - 1, math.MaxUint64} {
				by := sizeBytes(n)
				b := replaced(l.b, s, by)
				what := fmt.Sprintf("%s at %d: %d", s.what, s.at, n)
				wantTake(t, what, b, api.ErrLarge)
				wantTake(t, what+", and no more", b[:s.at+len(by)], api.ErrLarge)
				wantTake(t, what+", cut", b[:s.at+len(by)-1], api.ErrShort)
			}
			by := sizeBytes(uint64(s.up))
			wantTake(t, "the most, and no more", slices.Concat(l.b[:s.at], by), api.ErrShort)
		}
	}
	wantTake(t, "21 inputs", []byte{0, 0, 0, 0, 21}, api.ErrLarge)
	wantTake(t, "20 inputs", []byte{0, 0, 0, 0, 20}, api.ErrShort)
	wantTake(t, "21 outputs", []byte{0, 0, 0, 0, 0, 21}, api.ErrLarge)
	wantTake(t, "20 outputs", []byte{0, 0, 0, 0, 0, 20}, api.ErrShort)
}

// P9.1, K2: of two errors the first one, going through the bytes.
func TestTakeFirstError(t *testing.T) {
	l := lay(ordinary())
	wrong := []struct {
		by []byte
		e  api.Errno
	}{
		{[]byte{253, 1, 0}, api.ErrForm},
		{[]byte{253, 0xe9, 3}, api.ErrLarge},
	}
	for i, first := range l.sizes {
		for _, second := range l.sizes[i+1:] {
			for _, a := range wrong {
				for _, z := range wrong {
					b := replaced(replaced(l.b, second, z.by), first, a.by)
					what := fmt.Sprintf("%s at %d as %x, then %s at %d as %x", first.what, first.at, a.by, second.what, second.at, z.by)
					wantTake(t, what, b, a.e)
					wantTake(t, what+", cut", b[:len(b)-1], a.e)
				}
			}
		}
	}
	// That the whole form is too large is told at its end, behind all else.
	for _, x := range []api.Tx{byThings(12001), byThings(12087), most()} {
		l := lay(x)
		last := l.sizes[len(l.sizes)-1]
		wantTake(t, "too many bytes", l.b, api.ErrLarge)
		wantTake(t, "too many bytes, the last not there", l.b[:len(l.b)-1], api.ErrShort)
		wantTake(t, "too many bytes ahead of the last size", l.b[:last.at], api.ErrShort)
		wantTake(t, "too many bytes, the last size too long", replaced(l.b, last, []byte{253, 1, 0}), api.ErrForm)
		wantTake(t, "too many bytes, the last size too large", l.b[:last.at+copy(l.b[last.at:], []byte{253, 0xe9, 3})], api.ErrLarge)
	}
}

// P9.1, K2: only the whole form's own bytes are counted, and Decode's ErrForm comes last.
func TestTakeBytesBehind(t *testing.T) {
	for _, behind := range [][]byte{{0}, {5}, filled(20000), lay(many()).b, lay(most()).b} {
		for _, x := range []api.Tx{{}, ordinary(), many(), byScripts(12000), byThings(12000)} {
			wantTake(t, "bytes behind", slices.Concat(lay(x).b, behind), api.OK)
		}
		for _, x := range []api.Tx{byScripts(12001), byThings(12001), most()} {
			wantTake(t, "bytes behind too many", slices.Concat(lay(x).b, behind), api.ErrLarge)
		}
	}
	if _, e := tx.Decode(append(lay(ordinary()).b, 0)); e != api.ErrForm {
		t.Errorf("Decode with a byte left: %d", e)
	}
}

// P9.2: there and back.
func TestThereAndBack(t *testing.T) {
	var row []byte
	for _, x := range fitting() {
		b := tx.Whole(x)
		got, e := tx.Decode(b)
		if e != api.OK || !alike(got, x) || !tx.Same(got, x) || !bytes.Equal(tx.Whole(got), b) {
			t.Errorf("Decode of %x: %x, %d", b, got, e)
		}
		for _, behind := range [][]byte{nil, {0}, {253, 1, 0}, filled(13000), b} {
			got, rest, e := tx.Take(slices.Concat(b, behind))
			if e != api.OK || !bytes.Equal(rest, behind) || !alike(got, x) {
				t.Errorf("Take of %x: %x, %d, %d left", b, got, e, len(rest))
			}
		}
		row = append(row, b...)
	}
	for _, x := range fitting() { // one behind the other
		got, rest, e := tx.Take(row)
		if e != api.OK || !alike(got, x) {
			t.Fatalf("Take of a row: %x, %d, not %x", got, e, x)
		}
		row = rest
	}
	if len(row) != 0 {
		t.Errorf("%d bytes left of the row", len(row))
	}
}

// byChance: some transaction, which may fit or not.
func byChance(r *rand.Rand) api.Tx {
	some := func(n int) []byte {
		b := make([]byte, r.Intn(n+1))
		r.Read(b)
		return b
	}
	t := api.Tx{Version: r.Uint32(), Lock: r.Uint32(), Ins: make([]api.In, r.Intn(22)), Outs: make([]api.Out, r.Intn(22))}
	length := []int{3, 40, 300, 1001}[r.Intn(4)]
	for i := range t.Ins {
		r.Read(t.Ins[i].Prev.Tx[:])
		t.Ins[i].Prev.Index, t.Ins[i].Sequence = r.Uint32(), r.Uint32()
		t.Ins[i].Witness = make([][]byte, r.Intn([]int{2, 5, 32}[r.Intn(3)]))
		for k := range t.Ins[i].Witness {
			t.Ins[i].Witness[k] = some(length)
		}
	}
	for i := range t.Outs {
		t.Outs[i] = api.Out{Value: r.Uint64(), Script: some(length)}
	}
	return t
}

// P9.1, P9.2: whatever it is, and with whatever byte of it changed, put in or left out.
func TestByChance(t *testing.T) {
	r := rand.New(rand.NewSource(9))
	fit := 0
	for range 400 {
		x := byChance(r)
		b := lay(x).b
		want, _, e := takeByWords(b)
		wantTake(t, "by chance", b, e)
		if tx.Check(x) != e || e == api.OK && !alike(x, want) {
			t.Errorf("Check of %d bytes: %d, not %d", len(b), tx.Check(x), e)
		}
		if e != api.OK {
			continue
		}
		fit++
		wantFits(t, x)
		for range 20 {
			at, other := r.Intn(len(b)), []byte{0, 1, 20, 21, 30, 31, 252, 253, 254, 255, byte(r.Int())}[r.Intn(11)]
			for _, c := range [][]byte{
				slices.Concat(b[:at], []byte{other}, b[at+1:]),
				slices.Concat(b[:at], []byte{other}, b[at:]),
				slices.Concat(b[:at], b[at+1:]),
			} {
				_, _, e := takeByWords(c)
				wantTake(t, "changed by chance", c, e)
				if got, e := tx.Decode(c); e == api.OK && !bytes.Equal(tx.Whole(got), c) {
					t.Errorf("Decode of %x has the whole form %x", c, tx.Whole(got))
				}
			}
		}
	}
	if fit < 100 || fit > 390 {
		t.Errorf("%d of them fit: too one-sided", fit)
	}
}

// others: ones that differ from the ordinary one in one thing alone; bare tells if it is in the bare form.
func others() []struct {
	what string
	bare bool
	tx   api.Tx
} {
	var l []struct {
		what string
		bare bool
		tx   api.Tx
	}
	add := func(what string, bare bool, change func(t *api.Tx)) {
		t := ordinary()
		change(&t)
		l = append(l, struct {
			what string
			bare bool
			tx   api.Tx
		}{what, bare, t})
	}
	add("Version", true, func(t *api.Tx) { t.Version++ })
	add("Version's highest bit", true, func(t *api.Tx) { t.Version ^= 1 << 31 })
	add("Lock", true, func(t *api.Tx) { t.Lock++ })
	add("Lock's highest bit", true, func(t *api.Tx) { t.Lock ^= 1 << 31 })
	add("no inputs", true, func(t *api.Tx) { t.Ins = nil })
	add("no outputs", true, func(t *api.Tx) { t.Outs = nil })
	add("an input less", true, func(t *api.Tx) { t.Ins = t.Ins[:1] })
	add("an output less", true, func(t *api.Tx) { t.Outs = t.Outs[:1] })
	add("an input more", true, func(t *api.Tx) { t.Ins = append(t.Ins, api.In{}) })
	add("an output more", true, func(t *api.Tx) { t.Outs = append(t.Outs, api.Out{}) })
	add("inputs turned", true, func(t *api.Tx) { slices.Reverse(t.Ins) })
	add("outputs turned", true, func(t *api.Tx) { slices.Reverse(t.Outs) })
	for i := range 2 {
		for k := range 32 {
			add(fmt.Sprint("Prev.Tx ", k, " of ", i), true, func(t *api.Tx) { t.Ins[i].Prev.Tx[k] ^= 0x80 })
		}
		add(fmt.Sprint("Prev.Index of ", i), true, func(t *api.Tx) { t.Ins[i].Prev.Index++ })
		add(fmt.Sprint("Sequence of ", i), true, func(t *api.Tx) { t.Ins[i].Sequence++ })
		add(fmt.Sprint("Value of ", i), true, func(t *api.Tx) { t.Outs[i].Value++ })
		add(fmt.Sprint("Value's highest bit of ", i), true, func(t *api.Tx) { t.Outs[i].Value ^= 1 << 63 })
		add(fmt.Sprint("no script of ", i), true, func(t *api.Tx) { t.Outs[i].Script = nil })
		add(fmt.Sprint("a shorter script of ", i), true, func(t *api.Tx) { t.Outs[i].Script = t.Outs[i].Script[:2] })
		add(fmt.Sprint("a longer script of ", i), true, func(t *api.Tx) { t.Outs[i].Script = append(t.Outs[i].Script, 0) })
		add(fmt.Sprint("another script of ", i), true, func(t *api.Tx) { t.Outs[i].Script[2]++ })
		add(fmt.Sprint("no witness of ", i), false, func(t *api.Tx) { t.Ins[i].Witness = nil })
		add(fmt.Sprint("a thing more of ", i), false, func(t *api.Tx) { t.Ins[i].Witness = append(t.Ins[i].Witness, nil) })
		add(fmt.Sprint("a thing less of ", i), false, func(t *api.Tx) { t.Ins[i].Witness = t.Ins[i].Witness[1:] })
		add(fmt.Sprint("another thing of ", i), false, func(t *api.Tx) { t.Ins[i].Witness[0][1]++ })
		add(fmt.Sprint("a longer thing of ", i), false, func(t *api.Tx) { t.Ins[i].Witness[0] = append(t.Ins[i].Witness[0], 0) })
		add(fmt.Sprint("a shorter thing of ", i), false, func(t *api.Tx) { t.Ins[i].Witness[0] = t.Ins[i].Witness[0][1:] })
	}
	add("a byte on to the next thing", false, func(t *api.Tx) { t.Ins[0].Witness = [][]byte{{1}, {2}, {3}} })
	add("things turned", false, func(t *api.Tx) { slices.Reverse(t.Ins[0].Witness) })
	add("witnesses turned", false, func(t *api.Tx) {
		t.Ins[0].Witness, t.Ins[1].Witness = t.Ins[1].Witness, t.Ins[0].Witness
	})
	return l
}

// P9.1, K1.
func TestSame(t *testing.T) {
	for _, x := range fitting() {
		y, _ := tx.Decode(tx.Whole(x))
		if !tx.Same(x, y) || !tx.Same(y, x) || !tx.Same(x, x) {
			t.Errorf("not the same: %x", x)
		}
	}
	for _, x := range tooLarge() { // that they fit is not asked
		if !tx.Same(x, x) || tx.Same(x, api.Tx{}) || tx.Same(api.Tx{}, x) {
			t.Error("Same of what does not fit")
		}
	}
	x := most()
	y := most()
	y.Ins[19].Witness[29][999]++
	if tx.Same(x, y) || !tx.Same(x, most()) {
		t.Error("Same of what does not fit, but for one byte")
	}
	for _, other := range others() {
		if tx.Same(ordinary(), other.tx) || tx.Same(other.tx, ordinary()) || !tx.Same(other.tx, other.tx) {
			t.Errorf("%s: the same", other.what)
		}
	}
	for i, a := range others() {
		for k, b := range others() {
			if tx.Same(a.tx, b.tx) != (i == k) {
				t.Errorf("Same of %s and %s", a.what, b.what)
			}
		}
	}
}

// P9.1, K1: nil and empty are alike, at each place where a list stands.
func TestSameNilAndEmpty(t *testing.T) {
	for _, p := range [][2]api.Tx{
		{{}, {Ins: []api.In{}}},
		{{}, {Outs: []api.Out{}}},
		{{}, {Ins: inputs(3)[:0], Outs: outputs(3, 3)[:0]}},
		{{Ins: []api.In{{}}}, {Ins: []api.In{{Witness: [][]byte{}}}}},
		{{Ins: []api.In{{Witness: [][]byte{nil}}}}, {Ins: []api.In{{Witness: [][]byte{{}}}}}},
		{{Outs: []api.Out{{}}}, {Outs: []api.Out{{Script: []byte{}}}}},
	} {
		if !tx.Same(p[0], p[1]) || !tx.Same(p[1], p[0]) {
			t.Errorf("not the same: %#v, %#v", p[0], p[1])
		}
		if tx.Name(p[0]) != tx.Name(p[1]) || tx.Seal(p[0]) != tx.Seal(p[1]) || tx.Weight(p[0]) != tx.Weight(p[1]) {
			t.Errorf("not the same name, seal, weight: %#v, %#v", p[0], p[1])
		}
	}
	// No thing and an empty thing are not.
	if tx.Same(api.Tx{Ins: []api.In{{}}}, api.Tx{Ins: []api.In{{Witness: [][]byte{nil}}}}) {
		t.Error("no thing is the same as an empty one")
	}
}

// P9.3: the name hangs on all but the witnesses, the seal on all.
func TestNameAndWitnesses(t *testing.T) {
	name, seal := tx.Name(ordinary()), tx.Seal(ordinary())
	if name == seal {
		t.Error("the name is the seal, though there are witnesses")
	}
	for _, other := range others() {
		if (tx.Name(other.tx) != name) != other.bare {
			t.Errorf("%s: the name", other.what)
		}
		if tx.Seal(other.tx) == seal {
			t.Errorf("%s: the seal", other.what)
		}
	}
	r := rand.New(rand.NewSource(93))
	for range 100 {
		x := ordinary()
		for i := range x.Ins {
			x.Ins[i].Witness = things(r.Intn(31), r.Intn(190))
		}
		if tx.Check(x) != api.OK {
			t.Fatalf("a witness of that kind should fit")
		}
		if tx.Name(x) != name || !bytes.Equal(tx.Bare(x), tx.Bare(ordinary())) {
			t.Errorf("the name hangs on the witnesses %x", x.Ins)
		}
	}
	// Without inputs there is nothing beyond the bare form.
	if x := (api.Tx{Outs: outputs(2, 9)}); tx.Name(x) != tx.Seal(x) {
		t.Error("without inputs the name is not the seal")
	}
}

// R4.

// room: b with marked bytes in the room behind its end.
func room(b []byte) []byte {
	return append(slices.Clone(b), bytes.Repeat([]byte{0xa5}, 40)...)[:len(b)]
}

// roomy: a transaction with room behind each of its lists, and what tells all of it, the room too.
func roomy(t api.Tx) (api.Tx, func() string) {
	t.Ins = append(slices.Clone(t.Ins), inputs(3)...)[:len(t.Ins)]
	t.Outs = append(slices.Clone(t.Outs), outputs(3, 3)...)[:len(t.Outs)]
	for i := range t.Ins {
		l := t.Ins[i].Witness
		t.Ins[i].Witness = append(slices.Clone(l), things(3, 5)...)[:len(l)]
		for k, x := range l {
			t.Ins[i].Witness[k] = room(x)
		}
	}
	for i := range t.Outs {
		t.Outs[i].Script = room(t.Outs[i].Script)
	}
	return t, func() string {
		var all strings.Builder
		fmt.Fprintf(&all, "%x %x %x %x", t.Version, t.Lock, t.Ins[:cap(t.Ins)], t.Outs[:cap(t.Outs)])
		for _, in := range t.Ins {
			for _, x := range in.Witness[:cap(in.Witness)] {
				fmt.Fprintf(&all, " %x", x[:cap(x)])
			}
		}
		for _, out := range t.Outs {
			fmt.Fprintf(&all, " %x", out.Script[:cap(out.Script)])
		}
		return all.String()
	}
}

// spoil: writes over b and over its spare room.
func spoil(b []byte) {
	b = b[:cap(b)]
	for i := range b {
		b[i] = 0x5a
	}
}

func TestFormsAreNew(t *testing.T) {
	for _, plain := range []api.Tx{{}, {Outs: outputs(1, 9)}, ordinary(), many(), byScripts(12000), byThings(12001)} {
		x, all := roomy(plain)
		was := all()
		for i, call := range []func() []byte{
			func() []byte { return tx.Bare(x) },
			func() []byte { return tx.Whole(x) },
			func() []byte { h := tx.Name(x); return h[:] },
			func() []byte { h := tx.Seal(x); return h[:] },
			func() []byte { return []byte{byte(tx.Weight(x)), byte(tx.Check(x))} },
			func() []byte { return []byte(fmt.Sprint(tx.Same(x, plain), tx.Same(plain, x))) },
		} {
			first, second := call(), call()
			kept := slices.Clone(second)
			spoil(first)
			if all() != was {
				t.Errorf("call %d: what was handed in is changed", i)
			}
			if !bytes.Equal(second, kept) || !bytes.Equal(call(), kept) {
				t.Errorf("call %d: two answers share memory", i)
			}
		}
		bare, whole := tx.Bare(x), tx.Whole(x)
		kept := slices.Clone(whole)
		spoil(bare)
		if !bytes.Equal(whole, kept) {
			t.Error("the bare form and the whole one share memory")
		}
	}
}

// spoilAll: writes over all that a transaction holds, and over its spare room.
func spoilAll(t api.Tx) {
	for i := range t.Ins {
		for _, x := range t.Ins[i].Witness {
			spoil(x)
		}
		l := t.Ins[i].Witness
		for k := range l[:cap(l)] {
			l[:cap(l)][k] = []byte{0x5a}
		}
	}
	for i := range t.Outs {
		spoil(t.Outs[i].Script)
	}
	for i := range t.Ins[:cap(t.Ins)] {
		t.Ins[:cap(t.Ins)][i] = api.In{Sequence: 0x5a}
	}
	for i := range t.Outs[:cap(t.Outs)] {
		t.Outs[:cap(t.Outs)][i] = api.Out{Value: 0x5a}
	}
}

// lists: all lists of bytes of an answer.
func lists(t api.Tx, rest []byte) [][]byte {
	var l [][]byte
	for _, out := range t.Outs {
		l = append(l, out.Script)
	}
	for _, in := range t.Ins {
		l = append(l, in.Witness...)
	}
	return append(l, rest)
}

func TestTakenIsNew(t *testing.T) {
	for _, x := range []api.Tx{{}, ordinary(), many(), byScripts(12000), byThings(12000)} {
		plain := append(lay(x).b, filled(50)...)
		b := room(plain)
		was := slices.Clone(b[:cap(b)])
		first, left, _ := tx.Take(b)
		second, rest, _ := tx.Take(b)
		decoded, _ := tx.Decode(b[:len(b)-50])
		spoilAll(first)
		spoil(left)
		if !bytes.Equal(b[:cap(b)], was) {
			t.Error("what was handed in is changed")
		}
		if !alike(second, x) || !bytes.Equal(rest, filled(50)) || !alike(decoded, x) {
			t.Error("two answers share memory")
		}
		spoil(b)
		if !alike(second, x) || !bytes.Equal(rest, filled(50)) || !alike(decoded, x) {
			t.Error("an answer shares memory with what was handed in")
		}
		all := lists(second, rest)
		for i := range all { // each list alone, while the others stay
			again, rest, _ := tx.Take(plain)
			now := lists(again, rest)
			spoil(now[i])
			for k := range now {
				if k != i && !bytes.Equal(now[k], all[k]) {
					t.Fatalf("the lists %d and %d of an answer share memory", i, k)
				}
			}
		}
	}
}

// R4: two witnesses of one answer lie apart, their spare room too.
func TestWitnessesApart(t *testing.T) {
	x := many()
	got, _ := tx.Decode(lay(x).b)
	for i := range got.Ins {
		got.Ins[i].Witness = append(got.Ins[i].Witness, []byte{0x5a})
		for k := range got.Ins {
			if k > i && !alike(api.Tx{Ins: got.Ins[k : k+1]}, api.Tx{Ins: x.Ins[k : k+1]}) {
				t.Fatalf("the witnesses %d and %d share memory", i, k)
			}
		}
	}
}

// R1: what stands behind a transaction does not make it slow to take, however much it is.
func TestMuchBehind(t *testing.T) {
	b := append(lay(many()).b, make([]byte, 1<<26)...)
	got, rest, e := tx.Take(b)
	if e != api.OK || len(rest) != 1<<26 || !alike(got, many()) {
		t.Errorf("Take: %d, %d left", e, len(rest))
	}
	if _, e := tx.Decode(b); e != api.ErrForm {
		t.Errorf("Decode: %d", e)
	}
}

// R5: the same once more.
func TestSameAgain(t *testing.T) {
	b := lay(many()).b
	first, _ := tx.Decode(b)
	for range 3 {
		again, e := tx.Decode(b)
		if e != api.OK || !alike(first, again) || tx.Name(again) != tx.Name(first) || tx.Seal(again) != tx.Seal(first) {
			t.Error("another answer to the same question")
		}
	}
}

// R1, P9.1, P9.2: any bytes.
func FuzzTake(f *testing.F) {
	f.Add([]byte{})
	f.Add([]byte{0, 0, 0, 0, 21})
	f.Add([]byte{0, 0, 0, 0, 0, 253, 1, 0})
	f.Add(lay(ordinary()).b)
	f.Add(append(lay(ordinary()).b, 1))
	f.Add(lay(byThings(12001)).b)
	f.Fuzz(func(t *testing.T, b []byte) {
		want, _, e := takeByWords(b)
		wantTake(t, "any bytes", b, e)
		if e == api.OK {
			wantFits(t, want)
		}
		if got, e := tx.Decode(b); e == api.OK && !bytes.Equal(tx.Whole(got), b) {
			t.Errorf("Decode of %x has the whole form %x", b, tx.Whole(got))
		}
	})
}
