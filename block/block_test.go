package block_test

import (
	"bytes"
	"crypto/sha256"
	"encoding/binary"
	"encoding/hex"
	"fmt"
	"math"
	"math/rand"
	"slices"
	"strings"
	"testing"

	"entail/api"
	"entail/block"
	"entail/tx"
)

// The numbers of the chapter are written out here and not taken from api.
const (
	mostTxs   = 30
	mostBytes = 40000
	ahead     = 80 // bytes of a header
)

// double: the double hash, by another SHA-256.
func double(b []byte) [32]byte {
	once := sha256.Sum256(b)
	return sha256.Sum256(once[:])
}

// filled: n bytes that differ.
func filled(n int) []byte {
	b := make([]byte, n)
	for i := range b {
		b[i] = byte(i*7 + n)
	}
	return b
}

// header: something else in every byte of every field.
func header() api.Header {
	return api.Header{Version: 0x04030201, Prev: double([]byte{1}), Root: double([]byte{2}), Time: 0x14131211, Bits: 0x24232221, Nonce: 0x34333231}
}

// headers: ordinary ones, and those at the edges of each field.
func headers() []api.Header {
	l := []api.Header{
		{},
		header(),
		{Version: math.MaxUint32}, {Time: math.MaxUint32}, {Bits: math.MaxUint32}, {Nonce: math.MaxUint32},
		{Version: 1}, {Time: 1}, {Bits: 1}, {Nonce: 1},
		{Version: 1 << 31}, {Time: 1 << 31}, {Bits: 1 << 31}, {Nonce: 1 << 31},
		{Version: math.MaxUint32, Prev: [32]byte(bytes.Repeat([]byte{255}, 32)), Root: [32]byte(bytes.Repeat([]byte{255}, 32)), Time: math.MaxUint32, Bits: math.MaxUint32, Nonce: math.MaxUint32},
	}
	for i := range 32 {
		var one, other api.Header
		one.Prev[i], other.Root[i] = 0x80, 1
		l = append(l, one, other)
	}
	return l
}

// headerByWords: a header's bytes, as the chapter's words say them.
func headerByWords(h api.Header) []byte {
	b := binary.LittleEndian.AppendUint32(nil, h.Version)
	b = append(append(b, h.Prev[:]...), h.Root[:]...)
	for _, n := range []uint32{h.Time, h.Bits, h.Nonce} {
		b = binary.LittleEndian.AppendUint32(b, n)
	}
	return b
}

// sizeBytes: a size, as short as can be.
func sizeBytes(n uint64) []byte {
	switch {
	case n < 253:
		return []byte{byte(n)}
	case n < 1<<16:
		return binary.LittleEndian.AppendUint16([]byte{253}, uint16(n))
	case n < 1<<32:
		return binary.LittleEndian.AppendUint32([]byte{254}, uint32(n))
	}
	return binary.LittleEndian.AppendUint64([]byte{255}, n)
}

// longer: a size below 253, in each of the ways that are longer than it must be.
func longer(n int) [][]byte {
	return [][]byte{
		binary.LittleEndian.AppendUint16([]byte{253}, uint16(n)),
		binary.LittleEndian.AppendUint32([]byte{254}, uint32(n)),
		binary.LittleEndian.AppendUint64([]byte{255}, uint64(n)),
	}
}

// plain: a transaction of no inputs and one output, whose whole form has just n bytes, 19 to 271 or 274 to 1021.
func plain(n int) api.Tx {
	script := n - 19
	if n > 271 {
		script = n - 21
	}
	return api.Tx{Version: uint32(n), Outs: []api.Out{{Value: 7, Script: filled(script)}}}
}

// long: one whose whole form has just n bytes, 11395 to 12142.
func long(n int) api.Tx {
	t := api.Tx{Version: 2, Outs: make([]api.Out, 12)}
	for i := range t.Outs {
		t.Outs[i] = api.Out{Value: uint64(i), Script: filled(1000)}
	}
	t.Outs[11].Script = filled(n - 11142)
	return t
}

// rich: something in every field; by i they differ.
func rich(i int) api.Tx {
	return api.Tx{
		Version: uint32(i),
		Ins: []api.In{
			{Prev: api.Ref{Tx: double([]byte{byte(i)}), Index: 0x01020304}, Sequence: 0xfffffffe, Witness: [][]byte{{1, 2}, nil, {byte(i)}}},
			{Prev: api.Ref{Tx: double([]byte{9}), Index: uint32(i)}},
		},
		Outs: []api.Out{{Value: 1 << 40, Script: filled(3)}, {Value: uint64(i)}},
		Lock: 0xfdfcfbfa,
	}
}

// riches: n of these.
func riches(n int) []api.Tx {
	l := make([]api.Tx, n)
	for i := range l {
		l[i] = rich(i)
	}
	return l
}

// repeated: n times the same.
func repeated(t api.Tx, n int) []api.Tx { return slices.Repeat([]api.Tx{t}, n) }

// lasting: longest transactions and others behind them, so that a block of them has just n bytes, 39355 to 40102.
func lasting(n int) []api.Tx {
	return append(repeated(long(12000), 3), plain(1000), plain(1000), plain(1000), plain(n-39081))
}

// full: as many transactions as fit, so that a block of them has just n bytes, 39751 to 40498.
func full(n int) []api.Tx {
	return append(repeated(plain(1000), 28), long(11396), plain(n-39477))
}

// most: a transaction that no count and no length forbids, and which has far more than 12000 bytes.
func most() api.Tx {
	t := api.Tx{Version: 1, Ins: make([]api.In, 20), Outs: make([]api.Out, 20)}
	for i := range t.Ins {
		t.Ins[i].Witness = slices.Repeat([][]byte{filled(1000)}, 30)
		t.Outs[i].Script = filled(1000)
	}
	return t
}

// mostForm: its whole form, which layer 9 does not tell.
func mostForm() []byte {
	t := most()
	b := []byte{1, 0, 0, 0, 20}
	for range t.Ins {
		b = append(b, make([]byte, 40)...)
	}
	b = append(b, 20)
	for _, out := range t.Outs {
		b = append(append(b, make([]byte, 8)...), 253, 0xe8, 3)
		b = append(b, out.Script...)
	}
	b = append(b, 0, 0, 0, 0)
	for _, in := range t.Ins {
		b = append(b, 30)
		for _, x := range in.Witness {
			b = append(append(b, 253, 0xe8, 3), x...)
		}
	}
	return b
}

// fitting: transactions of blocks that fit: ordinary ones, and those at the edges of what fits.
func fitting() [][]api.Tx {
	return [][]api.Tx{
		nil,
		{},
		{{}},
		{{Version: 2}, {}},
		riches(1),
		riches(2),
		riches(29),
		riches(30),
		repeated(rich(1), 30),
		make([]api.Tx, 30),
		repeated(long(12000), 3),
		lasting(39999),
		lasting(40000),
		full(39999),
		full(40000),
	}
}

// tooLarge: of blocks that do not: each is past one bound alone.
func tooLarge() map[string][]api.Tx {
	with := func(t api.Tx, at int) []api.Tx {
		l := riches(30)
		l[at] = t
		return l
	}
	script := api.Tx{Outs: []api.Out{{Script: filled(1001)}}}
	return map[string][]api.Tx{
		"31 transactions":                   riches(31),
		"31 empty transactions":             make([]api.Tx, 31),
		"300 transactions":                  make([]api.Tx, 300),
		"40001 bytes":                       lasting(40001),
		"40081 bytes":                       lasting(40081),
		"40001 bytes of 30 transactions":    full(40001),
		"4 of 12000 bytes":                  repeated(long(12000), 4),
		"30 of 12000 bytes":                 repeated(long(12000), 30),
		"one of 12001 bytes":                {long(12001)},
		"a script of 1001 bytes":            {script},
		"a script of 1001 bytes, the first": with(script, 0),
		"a script of 1001 bytes, the last":  with(script, 29),
		"21 inputs, the last":               with(api.Tx{Ins: make([]api.In, 21)}, 29),
		"21 outputs, the 15th":              with(api.Tx{Outs: make([]api.Out, 21)}, 14),
		"31 things":                         {{Ins: []api.In{{Witness: make([][]byte, 31)}}}},
		"the largest transaction":           {most()},
	}
}

// wholeOf: how many bytes they have in all.
func wholeOf(l []api.Tx) int {
	n := 0
	for _, t := range l {
		n += len(tx.Whole(t))
	}
	return n
}

// blockByWords: a block's bytes, as the chapter's words say them.
func blockByWords(h api.Header, l []api.Tx) []byte {
	b := append(headerByWords(h), sizeBytes(uint64(len(l)))...)
	for _, t := range l {
		b = append(b, tx.Whole(t)...)
	}
	return b
}

// decodeByWords: what Decode has to answer: the first error, going through b.
func decodeByWords(b []byte) ([]api.Tx, api.Errno) {
	size := len(b)
	if size < ahead {
		return nil, api.ErrShort
	}
	b = b[ahead:]
	if len(b) == 0 {
		return nil, api.ErrShort
	}
	length := map[byte]int{253: 3, 254: 5, 255: 9}[b[0]]
	if length == 0 {
		length = 1
	}
	if len(b) < length {
		return nil, api.ErrShort
	}
	n := uint64(b[0])
	if length > 1 {
		n = binary.LittleEndian.Uint64(append(slices.Clone(b[1:length]), make([]byte, 8)...))
	}
	if len(sizeBytes(n)) != length {
		return nil, api.ErrForm
	}
	if n > mostTxs {
		return nil, api.ErrLarge
	}
	b = b[length:]
	var l []api.Tx
	for range n {
		t, rest, e := tx.Take(b)
		if e != api.OK {
			return nil, e
		}
		l, b = append(l, t), rest
	}
	if len(b) > 0 {
		return nil, api.ErrForm
	}
	if size > mostBytes {
		return nil, api.ErrLarge
	}
	return l, api.OK
}

// alike: in all, nil and empty being the same.
func alike(a, b []api.Tx) bool { return slices.EqualFunc(a, b, tx.Same) }

// nothing: is it no block at all?
func nothing(b api.Block) bool { return b.Header == api.Header{} && len(b.Txs) == 0 }

// wantDecode: that Decode of b is as the words say, and this is the error.
func wantDecode(t *testing.T, what string, b []byte, e api.Errno) {
	t.Helper()
	want, byWords := decodeByWords(b)
	if byWords != e {
		t.Fatalf("%s: the words say %d, the test %d", what, byWords, e)
	}
	got, told := block.Decode(b)
	if told != e {
		t.Errorf("%s: Decode: %d, not %d", what, told, e)
		return
	}
	if e != api.OK {
		if !nothing(got) {
			t.Errorf("%s: Decode: beside %d a block of %d", what, e, len(got.Txs))
		}
		return
	}
	if !bytes.Equal(headerByWords(got.Header), b[:ahead]) || !alike(got.Txs, want) {
		t.Errorf("%s: Decode: another block: %x", what, got)
	}
	// P11.2: it has just these bytes.
	if again, e := block.Encode(got); e != api.OK || !bytes.Equal(again, b) {
		t.Errorf("%s: Encode of what was decoded: %d, %d bytes, not %d", what, e, len(again), len(b))
	}
}

// Example 1.
func TestExample(t *testing.T) {
	if b := block.PutHeader(api.Header{}); !bytes.Equal(b, make([]byte, 80)) {
		t.Errorf("a header of noughts: %x", b)
	}
}

// P11.1, M1.

func TestHeaderWrittenOut(t *testing.T) {
	h := api.Header{
		Version: 0x04030201,
		Prev:    [32]byte{0: 0xaa, 31: 0xbb},
		Root:    [32]byte{0: 0xcc, 31: 0xdd},
		Time:    0x14131211,
		Bits:    0x24232221,
		Nonce:   0x34333231,
	}
	noughts := strings.Repeat("00", 30)
	want := "01020304" + "aa" + noughts + "bb" + "cc" + noughts + "dd" + "11121314" + "21222324" + "31323334"
	if b := hex.EncodeToString(block.PutHeader(h)); b != want {
		t.Errorf("PutHeader: %s", b)
	}
	b, _ := hex.DecodeString(want)
	if got, rest, e := block.TakeHeader(b); got != h || len(rest) != 0 || e != api.OK {
		t.Errorf("TakeHeader: %x, %x, %d", got, rest, e)
	}
}

func TestPutHeader(t *testing.T) {
	for _, h := range headers() {
		want := headerByWords(h)
		if b := block.PutHeader(h); !bytes.Equal(b, want) || len(b) != ahead {
			t.Errorf("PutHeader of %x: %x", h, b)
		}
		if name := block.Name(h); name != double(want) {
			t.Errorf("Name of %x: %x", h, name)
		}
	}
}

// Headers and names that are known from elsewhere; names are written from their last byte to their first.
func TestKnownNames(t *testing.T) {
	for _, x := range []struct{ header, name string }{
		{
			"01000000" + strings.Repeat("00", 32) +
				"3ba3edfd7a7b12b27ac72c3e67768f617fc81bc3888a51323a9fb8aa4b1e5e4a" + "29ab5f49" + "ffff001d" + "1dac2b7c",
			"000000000019d6689c085ae165831e934ff763ae46a2a6c172b3f1b60a8ce26f",
		},
		{
			"01000000" + "6fe28c0ab6f1b372c1a6a246ae63f74f931e8365e15a089c68d6190000000000" +
				"982051fd1e4ba744bbbe680e1fee14677ba1a3c3540bf7b1cdb606e857233e0e" + "61bc6649" + "ffff001d" + "01e36299",
			"00000000839a8e6886ab5951d76f411475428afc90947ee320161bbf18eb6048",
		},
	} {
		b, _ := hex.DecodeString(x.header)
		h, rest, e := block.TakeHeader(b)
		if len(rest) != 0 || e != api.OK || h.Bits != 0x1d00ffff || !bytes.Equal(block.PutHeader(h), b) {
			t.Fatalf("TakeHeader of %s: %x, %d", x.header, h, e)
		}
		name := block.Name(h)
		slices.Reverse(name[:])
		if got := hex.EncodeToString(name[:]); got != x.name {
			t.Errorf("Name of %s: %s", x.header, got)
		}
	}
}

func TestTakeHeader(t *testing.T) {
	for _, h := range headers() {
		for _, behind := range [][]byte{nil, {0}, {9, 8}, filled(80), filled(50000)} {
			got, rest, e := block.TakeHeader(slices.Concat(headerByWords(h), behind))
			if got != h || !bytes.Equal(rest, behind) || e != api.OK {
				t.Errorf("TakeHeader of %x and %d bytes: %x, %d bytes, %d", h, len(behind), got, len(rest), e)
			}
		}
	}
}

func TestTakeHeaderShort(t *testing.T) {
	b := headerByWords(header())
	for n := range ahead {
		// The room behind the end has the rest, but it does not count.
		if h, rest, e := block.TakeHeader(b[:n]); h != (api.Header{}) || len(rest) != 0 || e != api.ErrShort {
			t.Errorf("TakeHeader of %d bytes: %x, %x, %d", n, h, rest, e)
		}
	}
	if h, rest, e := block.TakeHeader(nil); h != (api.Header{}) || len(rest) != 0 || e != api.ErrShort {
		t.Errorf("TakeHeader of nil: %x, %x, %d", h, rest, e)
	}
}

// The name hangs on each bit of the header.
func TestNameOfEachBit(t *testing.T) {
	seen := map[[32]byte]int{block.Name(header()): -1}
	for i := range 8 * ahead {
		b := headerByWords(header())
		b[i/8] ^= 1 << (i % 8)
		h, _, _ := block.TakeHeader(b)
		name := block.Name(h)
		if k, ok := seen[name]; ok {
			t.Errorf("the bits %d and %d make one name", i, k)
		}
		seen[name] = i
	}
}

// P11.1, M2: Check and Encode.

func TestBlockWrittenOut(t *testing.T) {
	b := api.Block{
		Header: api.Header{Version: 1, Time: 0x04030201},
		Txs: []api.Tx{
			{Version: 2, Outs: []api.Out{{Value: 5, Script: []byte{0x51}}}},
			{Ins: []api.In{{Prev: api.Ref{Index: 3}, Sequence: 4, Witness: [][]byte{{0xee, 0xff}}}}, Lock: 6},
		},
	}
	want := "01000000" + strings.Repeat("00", 64) + "01020304" + strings.Repeat("00", 8) + "02" +
		"02000000" + "00" + "01" + "0500000000000000" + "0151" + "00000000" +
		"00000000" + "01" + strings.Repeat("00", 32) + "03000000" + "04000000" + "00" + "06000000" + "01" + "02eeff"
	x, e := block.Encode(b)
	if hex.EncodeToString(x) != want || e != api.OK {
		t.Errorf("Encode: %x, %d", x, e)
	}
	x, _ = hex.DecodeString(want)
	if got, e := block.Decode(x); got.Header != b.Header || !alike(got.Txs, b.Txs) || e != api.OK {
		t.Errorf("Decode: %x, %d", got, e)
	}
	wantDecode(t, "written out", x, api.OK)
}

func TestFits(t *testing.T) {
	for i, l := range fitting() {
		for _, h := range []api.Header{{}, header()} {
			b := api.Block{Header: h, Txs: l}
			if e := block.Check(b); e != api.OK {
				t.Errorf("block %d: Check: %d", i, e)
			}
			if x, e := block.Encode(b); e != api.OK || !bytes.Equal(x, blockByWords(h, l)) {
				t.Errorf("block %d: Encode: %d, %d bytes", i, e, len(x))
			}
		}
	}
	for _, n := range []int{39999, 40000} {
		for _, l := range [][]api.Tx{lasting(n), full(n)} {
			if x, _ := block.Encode(api.Block{Txs: l}); len(x) != n {
				t.Errorf("a block of %d bytes has %d", n, len(x))
			}
		}
	}
}

func TestTooLarge(t *testing.T) {
	for what, l := range tooLarge() {
		b := api.Block{Header: header(), Txs: l}
		if e := block.Check(b); e != api.ErrLarge {
			t.Errorf("%s: Check: %d", what, e)
		}
		if x, e := block.Encode(b); len(x) != 0 || e != api.ErrLarge {
			t.Errorf("%s: Encode: %d bytes, %d", what, len(x), e)
		}
	}
	for _, l := range [][]api.Tx{lasting(40001), full(40001)} {
		if n := len(blockByWords(api.Header{}, l)); n != 40001 {
			t.Errorf("a block of 40001 bytes has %d", n)
		}
	}
}

// Just one byte about what fits, wherever it stands.
func TestAboutTheMostBytes(t *testing.T) {
	for at := range 7 {
		l := lasting(40000)
		l[6], l[at] = l[at], l[6]
		if e := block.Check(api.Block{Txs: l}); e != api.OK {
			t.Errorf("40000 bytes, the shortest at %d: %d", at, e)
		}
		l[at].Outs = []api.Out{{Script: append(slices.Clone(l[at].Outs[0].Script), 1)}}
		if e := block.Check(api.Block{Txs: l}); e != api.ErrLarge {
			t.Errorf("40001 bytes, the shortest at %d: %d", at, e)
		}
	}
}

// P11.1, M2: Decode.

func TestDecodeFitting(t *testing.T) {
	for i, l := range fitting() {
		wantDecode(t, fmt.Sprint("block ", i), blockByWords(header(), l), api.OK)
	}
}

// Every beginning of a block is too short.
func TestDecodeBeginnings(t *testing.T) {
	for i, l := range fitting() {
		b := blockByWords(header(), l)
		step := 1 + len(b)/300
		for n := 0; n < len(b); n += step {
			wantDecode(t, fmt.Sprint(n, " bytes of block ", i), b[:n], api.ErrShort)
		}
		wantDecode(t, fmt.Sprint("all but one of block ", i), b[:len(b)-1], api.ErrShort)
	}
	for n := range ahead + 1 {
		wantDecode(t, fmt.Sprint(n, " bytes"), make([]byte, n), api.ErrShort)
	}
	wantDecode(t, "nil", nil, api.ErrShort)
	wantDecode(t, "one transaction and no more", append(headerByWords(header()), 1), api.ErrShort)
	wantDecode(t, "no transaction", append(headerByWords(header()), 0), api.OK)
}

// What is left is told ahead of too many bytes.
func TestDecodeLeft(t *testing.T) {
	for i, l := range fitting() {
		b := blockByWords(header(), l)
		for _, behind := range [][]byte{{0}, {7}, filled(80), tx.Whole(rich(1)), filled(mostBytes - 1), filled(mostBytes), make([]byte, 1<<21)} {
			wantDecode(t, fmt.Sprint(len(behind), " bytes behind block ", i), slices.Concat(b, behind), api.ErrForm)
		}
	}
	wantDecode(t, "40001 bytes and one more", append(blockByWords(header(), lasting(40001)), 0), api.ErrForm)
	wantDecode(t, "noughts", make([]byte, 1<<22), api.ErrForm)
}

func TestDecodeTooManyBytes(t *testing.T) {
	for _, l := range [][]api.Tx{lasting(40001), full(40001), lasting(40081), repeated(long(12000), 4), repeated(long(12000), 30)} {
		b := blockByWords(header(), l)
		wantDecode(t, fmt.Sprint(len(b), " bytes"), b, api.ErrLarge)
		wantDecode(t, fmt.Sprint(len(b)-1, " bytes, one too few"), b[:len(b)-1], api.ErrShort)
	}
}

// A size that is longer than it must be, whatever it says and whatever comes behind it.
func TestDecodeLongSizes(t *testing.T) {
	h := headerByWords(header())
	for _, n := range []int{0, 1, 2, 30, 31, 252} {
		for _, size := range longer(n) {
			for _, behind := range [][]byte{nil, tx.Whole(rich(1)), filled(mostBytes)} {
				b := slices.Concat(h, size, behind)
				wantDecode(t, fmt.Sprintf("the size %x and %d bytes", size, len(behind)), b, api.ErrForm)
			}
			for k := range len(size) {
				wantDecode(t, fmt.Sprintf("the size %x, %d bytes of it", size, k), slices.Concat(h, size[:k]), api.ErrShort)
			}
		}
	}
	for _, size := range [][]byte{{254, 253, 0, 0, 0}, {254, 255, 255, 0, 0}, {255, 0, 0, 1, 0, 0, 0, 0, 0}, {255, 255, 255, 255, 255, 0, 0, 0, 0}} {
		wantDecode(t, fmt.Sprintf("the size %x", size), slices.Concat(h, size), api.ErrForm)
	}
}

// More transactions than fit: told ahead of their bytes.
func TestDecodeTooMany(t *testing.T) {
	h := headerByWords(header())
	form := tx.Whole(rich(1))
	for _, n := range []uint64{31, 32, 100, 252, 253, 254, 255, 256, 1 << 15, 1<<16 - 1, 1 << 16, 1<<32 - 1, 1 << 32, 1 << 63, math.MaxUint64 - 1, math.MaxUint64} {
		size := sizeBytes(n)
		wantDecode(t, fmt.Sprint(n, " and no more"), slices.Concat(h, size), api.ErrLarge)
		wantDecode(t, fmt.Sprint(n, " and a wrong one"), slices.Concat(h, size, []byte{0, 0, 0, 0, 253, 1, 0}), api.ErrLarge)
		wantDecode(t, fmt.Sprint(n, " and 31 there"), slices.Concat(h, size, bytes.Repeat(form, 31)), api.ErrLarge)
		wantDecode(t, fmt.Sprint(n, " and many bytes"), slices.Concat(h, size, filled(mostBytes)), api.ErrLarge)
	}
	wantDecode(t, "30 and no more", append(slices.Clone(h), 30), api.ErrShort)
	wantDecode(t, "30 and 29 there", slices.Concat(h, []byte{30}, bytes.Repeat(form, 29)), api.ErrShort)
	wantDecode(t, "30 and 30 there", slices.Concat(h, []byte{30}, bytes.Repeat(form, 30)), api.OK)
	wantDecode(t, "30 and 31 there", slices.Concat(h, []byte{30}, bytes.Repeat(form, 31)), api.ErrForm)
}

// The first wrong transaction is told, ahead of what comes behind it and of the block's own bounds.
func TestDecodeWrongTransactions(t *testing.T) {
	wrong := map[api.Errno][]byte{
		api.ErrForm:  {0, 0, 0, 0, 253, 1, 0},
		api.ErrLarge: {0, 0, 0, 0, 21},
	}
	forms := bytes.Repeat(tx.Whole(rich(1)), 30)
	each := len(forms) / 30
	for _, at := range []int{0, 1, 17, 29} {
		start := slices.Concat(headerByWords(header()), []byte{30}, forms[:at*each])
		for e, one := range wrong {
			for other, two := range wrong {
				b := slices.Concat(start, one, two, filled(9))
				wantDecode(t, fmt.Sprint(e, " at ", at, " ahead of ", other), b, e)
				wantDecode(t, fmt.Sprint(e, " at ", at, " ahead of ", other, " and many bytes"), append(b, filled(mostBytes)...), e)
			}
			wantDecode(t, fmt.Sprint(e, " at ", at, " and no more"), slices.Concat(start, one), e)
		}
		wantDecode(t, fmt.Sprint("nothing at ", at), start, api.ErrShort)
	}
	// A transaction of 12001 bytes is told at its end.
	start := append(headerByWords(header()), 1)
	for _, n := range []int{12001, 12087} {
		form := slices.Concat([]byte{2, 0, 0, 0, 0, 12}, bytes.Repeat(append([]byte{1, 0, 0, 0, 0, 0, 0, 0, 253, 0xe8, 3}, filled(1000)...), 11),
			[]byte{1, 0, 0, 0, 0, 0, 0, 0}, sizeBytes(uint64(n-11142)), filled(n-11142), []byte{0, 0, 0, 0})
		if len(form) != n {
			t.Fatalf("a form of %d bytes has %d", n, len(form))
		}
		b := slices.Concat(start, form)
		wantDecode(t, fmt.Sprint(n, " bytes of one"), b, api.ErrLarge)
		wantDecode(t, fmt.Sprint(n, " bytes of one, and more"), append(b, 1), api.ErrLarge)
		wantDecode(t, fmt.Sprint(n, " bytes of one, but for the last"), b[:len(b)-1], api.ErrShort)
	}
}

// As much as Decode can have to go through: what stands at the end of it is still told.
func TestDecodeOfTheLongest(t *testing.T) {
	b := slices.Concat(headerByWords(header()), []byte{30}, bytes.Repeat(tx.Whole(long(12000)), 29), mostForm())
	wantDecode(t, "the longest", b, api.ErrLarge)
	wantDecode(t, "the longest, but for its last byte", b[:len(b)-1], api.ErrShort)
	wantDecode(t, "the longest, and more", append(slices.Clone(b), filled(1<<21)...), api.ErrLarge)
	last := len(b) - 1003
	copy(b[last:], []byte{253, 1, 0})
	wantDecode(t, "the longest, its last size too long", b, api.ErrForm)
	copy(b[last:], []byte{253, 0xe9, 3})
	wantDecode(t, "the longest, its last size too large", b[:last+3], api.ErrLarge)
	wantDecode(t, "the longest, without its last size", b[:last+2], api.ErrShort)
}

// P11.2: there and back.

func TestThereAndBack(t *testing.T) {
	for _, h := range headers() {
		if got, rest, e := block.TakeHeader(block.PutHeader(h)); got != h || len(rest) != 0 || e != api.OK {
			t.Errorf("%x has become %x, %d", h, got, e)
		}
		x, _ := block.Encode(api.Block{Header: h, Txs: riches(2)})
		if got, e := block.Decode(x); got.Header != h || !alike(got.Txs, riches(2)) || e != api.OK {
			t.Errorf("a block under %x has become %x, %d", h, got, e)
		}
	}
	for i, l := range fitting() {
		x, _ := block.Encode(api.Block{Header: header(), Txs: l})
		got, e := block.Decode(x)
		if got.Header != header() || !alike(got.Txs, l) || e != api.OK {
			t.Errorf("block %d has become another one, %d", i, e)
		}
		if again, e := block.Encode(got); !bytes.Equal(again, x) || e != api.OK {
			t.Errorf("block %d has other bytes, %d", i, e)
		}
	}
}

// byChance: transactions of any number and kind, which may fit or not.
func byChance(r *rand.Rand) []api.Tx {
	l := make([]api.Tx, r.Intn(34))
	length := []int{4, 100, 1100, 1001}[r.Intn(4)]
	for i := range l {
		l[i] = rich(r.Intn(50))
		l[i].Outs = append(l[i].Outs, api.Out{Value: r.Uint64(), Script: filled(r.Intn(length))})
		l[i].Ins = append(l[i].Ins, make([]api.In, r.Intn(2))...)
	}
	return l
}

// P11.1, P11.2: whatever it is, and with a byte of it changed, put in or left out.
func TestByChance(t *testing.T) {
	r := rand.New(rand.NewSource(11))
	fit := 0
	for range 150 {
		l := byChance(r)
		large := len(l) > mostTxs || ahead+1+wholeOf(l) > mostBytes || slices.ContainsFunc(l, func(t api.Tx) bool { return tx.Check(t) != api.OK })
		x, e := block.Encode(api.Block{Header: header(), Txs: l})
		if large != (e == api.ErrLarge) || e != block.Check(api.Block{Header: header(), Txs: l}) {
			t.Fatalf("Encode of %d transactions: %d", len(l), e)
		}
		if large {
			continue
		}
		fit++
		wantDecode(t, "by chance", x, api.OK)
		for range 8 {
			at := r.Intn(len(x))
			if r.Intn(3) == 0 {
				at = min(ahead+r.Intn(10), len(x)-1)
			}
			other := []byte{0, 1, 30, 31, 252, 253, 254, 255, byte(r.Int())}[r.Intn(9)]
			for _, y := range [][]byte{
				slices.Concat(x[:at], []byte{other}, x[at+1:]),
				slices.Concat(x[:at], []byte{other}, x[at:]),
				slices.Concat(x[:at], x[at+1:]),
			} {
				_, e := decodeByWords(y)
				wantDecode(t, "changed by chance", y, e)
			}
		}
	}
	if fit < 40 || fit > 140 {
		t.Errorf("%d of them fit: too one-sided", fit)
	}
}

// P11.1, M3: Root.

// nameByWords: the double hash of the bare form; of one that does not fit 32 noughts.
func nameByWords(t api.Tx) [32]byte {
	if tx.Check(t) != api.OK {
		return [32]byte{}
	}
	return double(tx.Bare(t))
}

// rootByWords: the merkle root of the names, and whether they are doubled.
func rootByWords(l []api.Tx) ([32]byte, bool) {
	var row [][32]byte
	for _, t := range l {
		row = append(row, nameByWords(t))
	}
	if len(row) == 0 {
		return [32]byte{}, false
	}
	doubled := false
	for len(row) > 1 {
		for i := 0; i+1 < len(row); i += 2 {
			doubled = doubled || row[i] == row[i+1]
		}
		if len(row)%2 == 1 {
			row = append(row, row[len(row)-1])
		}
		var above [][32]byte
		for ; len(row) > 0; row = row[2:] {
			above = append(above, double(slices.Concat(row[0][:], row[1][:])))
		}
		row = above
	}
	return row[0], doubled
}

func wantRoot(t *testing.T, l []api.Tx, doubled bool) {
	t.Helper()
	want, byWords := rootByWords(l)
	if byWords != doubled {
		t.Fatalf("of %d: the words say %v, the test %v", len(l), byWords, doubled)
	}
	if root, d := block.Root(l); root != want || d != doubled {
		t.Errorf("Root of %d: %x, %v; not %x, %v", len(l), root, d, want, doubled)
	}
}

func TestRoot(t *testing.T) {
	for n := range 40 {
		wantRoot(t, riches(n), false)
	}
	if root, d := block.Root(nil); root != [32]byte{} || d {
		t.Errorf("Root of none: %x, %v", root, d)
	}
	if root, d := block.Root(riches(1)); root != tx.Name(rich(0)) || d {
		t.Errorf("Root of one: %x, %v", root, d)
	}
	one, other := tx.Name(rich(0)), tx.Name(rich(1))
	if root, _ := block.Root(riches(2)); root != double(slices.Concat(one[:], other[:])) {
		t.Errorf("Root of two: %x", root)
	}
}

func TestRootDoubled(t *testing.T) {
	wantRoot(t, repeated(rich(0), 2), true)
	wantRoot(t, repeated(rich(0), 3), true)
	wantRoot(t, append(riches(3), rich(2)), true)
	wantRoot(t, append(riches(2), riches(2)...), true)
	wantRoot(t, append(riches(6), rich(4), rich(5)), true)
	wantRoot(t, []api.Tx{rich(0), rich(1), rich(1)}, false)
	wantRoot(t, []api.Tx{rich(0), rich(1), rich(0)}, false)
	for n := 3; n < 30; n += 2 {
		l := riches(n)
		root, _ := block.Root(l)
		if again, d := block.Root(append(l, l[n-1])); again != root || !d {
			t.Errorf("%d and the last once more: %x, %v; not %x", n, again, d, root)
		}
	}
}

// Names are asked for, not seals: witnesses are nothing to the root, and two that differ in them alone are alike.
func TestRootAndWitnesses(t *testing.T) {
	l := riches(5)
	root, _ := block.Root(l)
	for i := range l {
		l[i].Ins = slices.Clone(l[i].Ins)
		l[i].Ins[0].Witness = [][]byte{filled(9)}
	}
	if got, _ := block.Root(l); got != root {
		t.Errorf("the root hangs on witnesses: %x, not %x", got, root)
	}
	wantRoot(t, []api.Tx{rich(0), l[0]}, true)
}

func TestRootHangsOnTheOrder(t *testing.T) {
	l := riches(4)
	slices.Reverse(l)
	wantRoot(t, l, false)
	root, _ := block.Root(riches(4))
	if got, _ := block.Root(l); got == root {
		t.Error("turned round the root is the same")
	}
}

// Transactions that do not fit have the name of 32 noughts (layer 9), and there may be more than a block has room for.
func TestRootOfWhatDoesNotFit(t *testing.T) {
	wantRoot(t, []api.Tx{most()}, false)
	wantRoot(t, []api.Tx{most(), rich(0)}, false)
	wantRoot(t, []api.Tx{most(), long(12001)}, true)
	wantRoot(t, riches(256), false)
}

// P11.1, M3: Weight.

func wantWeight(t *testing.T, l []api.Tx, want int) {
	t.Helper()
	if n := block.Weight(l); n != want {
		t.Errorf("Weight of %d: %d, not %d", len(l), n, want)
	}
}

func TestWeight(t *testing.T) {
	wantWeight(t, nil, 0)
	wantWeight(t, []api.Tx{}, 0)
	wantWeight(t, []api.Tx{{Version: 2}}, 40)
	wantWeight(t, make([]api.Tx, 30), 1200)
	wantWeight(t, make([]api.Tx, 300), 12000)
	wantWeight(t, []api.Tx{plain(100)}, 400)
	wantWeight(t, []api.Tx{plain(100), plain(1000), {}}, 4440)
	wantWeight(t, repeated(long(12000), 30), 30*48000)
	// Witnesses count once, all else four times.
	wantWeight(t, []api.Tx{{Ins: []api.In{{Witness: [][]byte{filled(9)}}}}}, 4*50+11)
	wantWeight(t, []api.Tx{{Ins: []api.In{{}}}, {Ins: []api.In{{Witness: [][]byte{filled(9)}}}}}, 4*50+1+4*50+11)
	for n := range 35 {
		want := 0
		for _, x := range riches(n) {
			want += 3*len(tx.Bare(x)) + len(tx.Whole(x))
		}
		wantWeight(t, riches(n), want)
	}
}

// One that does not fit weighs nothing (layer 9), the others what they weigh.
func TestWeightOfWhatDoesNotFit(t *testing.T) {
	wantWeight(t, []api.Tx{most()}, 0)
	wantWeight(t, []api.Tx{{}, most(), long(12001), {}}, 80)
}

// P11.1, M3: Find.

func wantFind(t *testing.T, l []api.Tx, name [32]byte, want int) {
	t.Helper()
	if i := block.Find(l, name); i != want {
		t.Errorf("Find of %x among %d: %d, not %d", name, len(l), i, want)
	}
}

func TestFind(t *testing.T) {
	l := riches(35)
	for i, x := range l {
		wantFind(t, l, nameByWords(x), i)
		wantFind(t, l[:i], nameByWords(x), -1)
		wantFind(t, l[i:], nameByWords(x), 0)
	}
	wantFind(t, nil, [32]byte{}, -1)
	wantFind(t, nil, nameByWords(rich(0)), -1)
	wantFind(t, l, [32]byte{}, -1)
	wantFind(t, l, tx.Seal(l[3]), -1)
	name := nameByWords(l[3])
	name[31]++
	wantFind(t, l, name, -1)
	slices.Reverse(name[:])
	wantFind(t, l, name, -1)
}

func TestFindTheFirst(t *testing.T) {
	wantFind(t, repeated(rich(1), 5), nameByWords(rich(1)), 0)
	wantFind(t, []api.Tx{rich(0), rich(1), rich(2), rich(1), rich(2)}, nameByWords(rich(2)), 2)
	// Two that differ in their witnesses alone have one name.
	other := rich(1)
	other.Ins = slices.Clone(other.Ins)
	other.Ins[0].Witness = nil
	wantFind(t, []api.Tx{rich(0), other, rich(1)}, nameByWords(rich(1)), 1)
	wantFind(t, []api.Tx{rich(0), rich(1), other}, nameByWords(other), 1)
}

// One that does not fit has the name of 32 noughts (layer 9).
func TestFindOfWhatDoesNotFit(t *testing.T) {
	wantFind(t, []api.Tx{rich(0), most(), long(12001)}, [32]byte{}, 1)
	wantFind(t, []api.Tx{most(), rich(0)}, nameByWords(rich(0)), 1)
	wantFind(t, []api.Tx{most()}, double(mostForm()), -1)
}

// R4.

// room: b with marked bytes in the room behind its end.
func room(b []byte) []byte {
	return append(slices.Clone(b), bytes.Repeat([]byte{0xa5}, 40)...)[:len(b)]
}

// spoil: writes over b and over its spare room.
func spoil(b []byte) {
	b = b[:cap(b)]
	for i := range b {
		b[i] = 0x5a
	}
}

// roomy: transactions with room behind each of their lists, and what tells all of it, the room too.
func roomy(plain []api.Tx) ([]api.Tx, func() string) {
	l := append(slices.Clone(plain), riches(2)...)[:len(plain)]
	for i := range l {
		l[i].Ins = append(slices.Clone(l[i].Ins), api.In{Sequence: 1})[:len(l[i].Ins)]
		l[i].Outs = append(slices.Clone(l[i].Outs), api.Out{Value: 1})[:len(l[i].Outs)]
		for k := range l[i].Ins {
			w := l[i].Ins[k].Witness
			l[i].Ins[k].Witness = append(slices.Clone(w), filled(3))[:len(w)]
			for j, x := range w {
				l[i].Ins[k].Witness[j] = room(x)
			}
		}
		for k := range l[i].Outs {
			l[i].Outs[k].Script = room(l[i].Outs[k].Script)
		}
	}
	return l, func() string {
		var all strings.Builder
		fmt.Fprintf(&all, "%x", l[:cap(l)])
		for _, t := range l {
			fmt.Fprintf(&all, "%x %x", t.Ins[:cap(t.Ins)], t.Outs[:cap(t.Outs)])
			for _, out := range t.Outs {
				fmt.Fprintf(&all, " %x", out.Script[:cap(out.Script)])
			}
			for _, in := range t.Ins {
				for _, x := range in.Witness[:cap(in.Witness)] {
					fmt.Fprintf(&all, " %x", x[:cap(x)])
				}
			}
		}
		return all.String()
	}
}

func TestNothingIsChanged(t *testing.T) {
	for _, plain := range fitting() {
		l, all := roomy(plain)
		b := api.Block{Header: header(), Txs: l}
		was := all()
		for i, call := range []func() []byte{
			func() []byte { x, _ := block.Encode(b); return x },
			func() []byte { return block.PutHeader(b.Header) },
			func() []byte { name := block.Name(b.Header); return name[:] },
			func() []byte { root, _ := block.Root(l); return root[:] },
			func() []byte {
				return fmt.Append(nil, block.Check(b), block.Weight(l), block.Find(l, nameByWords(rich(1))))
			},
		} {
			first, second := call(), call()
			kept := slices.Clone(second)
			spoil(first)
			if all() != was || b.Header != header() {
				t.Errorf("call %d: what was handed in is changed", i)
			}
			if !bytes.Equal(second, kept) || !bytes.Equal(call(), kept) {
				t.Errorf("call %d: two answers share memory", i)
			}
		}
	}
}

func TestTakenHeaderIsNew(t *testing.T) {
	b := room(append(headerByWords(header()), filled(50)...))
	was := slices.Clone(b[:cap(b)])
	_, first, _ := block.TakeHeader(b)
	h, second, _ := block.TakeHeader(b)
	spoil(first)
	if !bytes.Equal(b[:cap(b)], was) {
		t.Error("what was handed in is changed")
	}
	spoil(b)
	if h != header() || !bytes.Equal(second, filled(50)) {
		t.Error("an answer shares memory with another one, or with what was handed in")
	}
}

// parts: all lists of bytes of a block.
func parts(b api.Block) [][]byte {
	var l [][]byte
	for _, t := range b.Txs {
		for _, out := range t.Outs {
			l = append(l, out.Script)
		}
		for _, in := range t.Ins {
			l = append(l, in.Witness...)
		}
	}
	return l
}

func TestDecodedIsNew(t *testing.T) {
	for _, l := range [][]api.Tx{riches(1), riches(3), riches(30), lasting(40000)} {
		b := room(blockByWords(header(), l))
		was := slices.Clone(b[:cap(b)])
		first, _ := block.Decode(b)
		second, _ := block.Decode(b)
		for _, x := range parts(first) {
			spoil(x)
		}
		for i := range first.Txs[:cap(first.Txs)] {
			first.Txs[:cap(first.Txs)][i] = api.Tx{}
		}
		if !bytes.Equal(b[:cap(b)], was) {
			t.Error("what was handed in is changed")
		}
		spoil(b)
		if !alike(second.Txs, l) {
			t.Error("an answer shares memory with another one, or with what was handed in")
		}
	}
}

// Each list of an answer alone, while the others stay.
func TestListsApart(t *testing.T) {
	b := blockByWords(header(), riches(3))
	want, _ := block.Decode(b)
	all := parts(want)
	for i := range all {
		got, _ := block.Decode(b)
		now := parts(got)
		spoil(now[i])
		for k := range now {
			if k != i && !bytes.Equal(now[k], all[k]) {
				t.Fatalf("the lists %d and %d of an answer share memory", i, k)
			}
		}
	}
	got, _ := block.Decode(b)
	for i := range got.Txs {
		got.Txs[i].Ins = append(got.Txs[i].Ins, api.In{Sequence: 0x5a})
		got.Txs[i].Outs = append(got.Txs[i].Outs, api.Out{Value: 0x5a})
		if !alike(got.Txs[i+1:], riches(3)[i+1:]) {
			t.Fatalf("the lists of the transaction %d lie within those of another", i)
		}
	}
}

// R5: a call ahead is nothing to the next one.
func TestCallsHangOnTheirArgumentsAlone(t *testing.T) {
	b := blockByWords(header(), riches(3))
	root, _ := block.Root(riches(3))
	for range 3 {
		wantDecode(t, "short", b[:90], api.ErrShort)
		wantDecode(t, "whole", b, api.OK)
		wantDecode(t, "and more", append(slices.Clone(b), 1), api.ErrForm)
		if again, _ := block.Root(riches(3)); again != root || block.Name(header()) != double(headerByWords(header())) {
			t.Error("another answer to the same question")
		}
	}
}

// R1: what stands behind a block does not make it slow to decode, however much it is.
func TestMuchBehind(t *testing.T) {
	b := append(blockByWords(header(), riches(30)), make([]byte, 1<<27)...)
	if got, e := block.Decode(b); e != api.ErrForm || !nothing(got) {
		t.Errorf("Decode: %d", e)
	}
	if h, rest, e := block.TakeHeader(b); h != header() || len(rest) != len(b)-ahead || e != api.OK {
		t.Errorf("TakeHeader: %d, %d bytes left", e, len(rest))
	}
}

// R1, P11.1, P11.2: any bytes.
func FuzzDecode(f *testing.F) {
	f.Add([]byte{})
	f.Add(make([]byte, ahead))
	f.Add(make([]byte, ahead+1))
	f.Add(append(make([]byte, ahead), 31))
	f.Add(append(make([]byte, ahead), 253, 1, 0))
	f.Add(blockByWords(header(), riches(3)))
	f.Add(append(blockByWords(header(), riches(2)), 1))
	f.Add(blockByWords(header(), lasting(40001)))
	f.Fuzz(func(t *testing.T, b []byte) {
		_, e := decodeByWords(b)
		wantDecode(t, "any bytes", b, e)
		h, rest, e := block.TakeHeader(b)
		if (e == api.OK) != (len(b) >= ahead) || e == api.OK && !bytes.Equal(append(block.PutHeader(h), rest...), b) {
			t.Errorf("TakeHeader of %x: %x, %x, %d", b, h, rest, e)
		}
	})
}
