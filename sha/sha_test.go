package sha_test

import (
	"bytes"
	"crypto/sha256"
	"encoding/hex"
	"math/big"
	"math/rand"
	"slices"
	"strings"
	"testing"

	"entail/sha"
)

// about: the lengths about which the padded bytes become one block more, or a block is full.
var about = []int{0, 1, 2, 3, 31, 32, 33, 54, 55, 56, 57, 62, 63, 64, 65, 66, 118, 119, 120, 121, 126, 127, 128, 129, 183, 184, 185, 191, 192, 193, 4095, 4096, 4097}

// hashOf: of hexadecimal digits, with blanks among them.
func hashOf(t *testing.T, written string) [32]byte {
	t.Helper()
	b, err := hex.DecodeString(strings.ReplaceAll(written, " ", ""))
	if err != nil || len(b) != 32 {
		t.Fatalf("%q is no hash", written)
	}
	return [32]byte(b)
}

// counted: n bytes that all differ from their neighbours.
func counted(n int) []byte {
	b := make([]byte, n)
	for i := range b {
		b[i] = byte(i*7 + i>>8)
	}
	return b
}

// inputs: bytes of every length of about, counted, of 0, of 128, of 255, and by chance.
func inputs() [][]byte {
	r := rand.New(rand.NewSource(7))
	var l [][]byte
	for _, n := range about {
		chance := make([]byte, n)
		r.Read(chance)
		l = append(l, counted(n), make([]byte, n), bytes.Repeat([]byte{128}, n), bytes.Repeat([]byte{255}, n), chance)
	}
	return l
}

// wantHash: that a hash stands at what was written.
func wantHash(t *testing.T, h *sha.Hash, written []byte) {
	t.Helper()
	if got, want := h.Sum(), sha256.Sum256(written); got != want {
		t.Errorf("Sum behind %d bytes: %x, not %x", len(written), got, want)
	}
	if got := h.Len(); got != uint64(len(written)) {
		t.Errorf("Len behind %d bytes: %d", len(written), got)
	}
}

// byWords: the hash as the chapter's words say it, with numbers that are worked out from the primes' roots.
func byWords(b []byte) [32]byte {
	primes := primesFrom2(64)
	var now [8]uint32
	for i := range now {
		now[i] = behindPoint(primes[i], 2)
	}
	steps := make([]uint32, 64)
	for t := range steps {
		steps[t] = behindPoint(primes[t], 3)
	}
	p := append(slices.Clone(b), 128)
	for (len(p)+8)%64 != 0 {
		p = append(p, 0)
	}
	for shift := 56; shift >= 0; shift -= 8 {
		p = append(p, byte(uint64(len(b))*8>>shift))
	}
	for ; len(p) > 0; p = p[64:] {
		now = stepByStep(now, p[:64], steps)
	}
	var sum []byte
	for _, n := range now {
		sum = append(sum, byte(n>>24), byte(n>>16), byte(n>>8), byte(n))
	}
	return [32]byte(sum)
}

func stepByStep(now [8]uint32, block []byte, steps []uint32) [8]uint32 {
	rot := func(x uint32, n uint) uint32 { return x>>n | x<<(32-n) }
	var w []uint32
	for i := 0; i < 64; i += 4 {
		w = append(w, uint32(block[i])<<24|uint32(block[i+1])<<16|uint32(block[i+2])<<8|uint32(block[i+3]))
	}
	for t := 16; t < 64; t++ {
		s0 := rot(w[t-15], 7) ^ rot(w[t-15], 18) ^ w[t-15]>>3
		s1 := rot(w[t-2], 17) ^ rot(w[t-2], 19) ^ w[t-2]>>10
		w = append(w, s1+w[t-7]+s0+w[t-16])
	}
	v := now
	for t := range 64 {
		a, b, c, e, f, g := v[0], v[1], v[2], v[4], v[5], v[6]
		t1 := v[7] + (rot(e, 6) ^ rot(e, 11) ^ rot(e, 25)) + (e&f ^ ^e&g) + steps[t] + w[t]
		t2 := (rot(a, 2) ^ rot(a, 13) ^ rot(a, 22)) + (a&b ^ a&c ^ b&c)
		v = [8]uint32{t1 + t2, a, b, c, v[3] + t1, e, f, g}
	}
	for i := range now {
		now[i] += v[i]
	}
	return now
}

func primesFrom2(n int) []int64 {
	var l []int64
	for p := int64(2); len(l) < n; p++ {
		if big.NewInt(p).ProbablyPrime(0) {
			l = append(l, p)
		}
	}
	return l
}

// behindPoint: the first 32 bits behind the point of the root of that order.
func behindPoint(p, order int64) uint32 {
	wanted := new(big.Int).Lsh(big.NewInt(p), uint(32*order))
	root := new(big.Int)
	for bit := 40; bit >= 0; bit-- {
		root.SetBit(root, bit, 1)
		if new(big.Int).Exp(root, big.NewInt(order), nil).Cmp(wanted) > 0 {
			root.SetBit(root, bit, 0)
		}
	}
	return uint32(root.Uint64())
}

// Example 1.
func TestExamples(t *testing.T) {
	for _, x := range [][2]string{
		{"", "e3b0c442 98fc1c14 9afbf4c8 996fb924 27ae41e4 649b934c a495991b 7852b855"},
		{"abc", "ba7816bf 8f01cfea 414140de 5dae2223 b00361a3 96177a9c b410ff61 f20015ad"},
	} {
		if got, want := sha.Sum([]byte(x[0])), hashOf(t, x[1]); got != want {
			t.Errorf("Sum(%q): %x, not %x", x[0], got, want)
		}
	}
}

// P7.1, F1: hashes that are known from elsewhere.
func TestSumKnown(t *testing.T) {
	for _, x := range []struct{ b, want string }{
		{"abcdbcdecdefdefgefghfghighijhijkijkljklmklmnlmnomnopnopq", "248d6a61d20638b8e5c026930c3e6039a33ce45964ff2167f6ecedd419db06c1"},
		{"abcdefghbcdefghicdefghijdefghijkefghijklfghijklmghijklmnhijklmnoijklmnopjklmnopqklmnopqrlmnopqrsmnopqrstnopqrstu", "cf5b16a778af8380036ce59e7b0492370b249b11e8f07a51afac45037afee9d1"},
		{strings.Repeat("a", 1000000), "cdc76e5c9914fb9281a1c7e284d73e67f1809a48a497200e046d39ccc7112cd0"},
	} {
		if got := sha.Sum([]byte(x.b)); got != hashOf(t, x.want) {
			t.Errorf("Sum of %d letters: %x", len(x.b), got)
		}
	}
}

// P7.1, F1: the words of the chapter, taken one by one.
func TestSumByWords(t *testing.T) {
	for _, b := range inputs() {
		if got, want := sha.Sum(b), byWords(b); got != want {
			t.Errorf("Sum of %d bytes: %x, not %x", len(b), got, want)
		}
	}
}

// P7.1, F1: every length to some blocks, of all kinds of bytes.
func TestSumLengths(t *testing.T) {
	for n := range 700 {
		for _, b := range [][]byte{counted(n), make([]byte, n), bytes.Repeat([]byte{255}, n)} {
			if got, want := sha.Sum(b), sha256.Sum256(b); got != want {
				t.Errorf("Sum of %d bytes: %x, not %x", n, got, want)
			}
		}
	}
}

// P7.1, F1: nil and the empty list are the same, and many blocks; a length whose bits need more than 2 of the 8 bytes.
func TestSumFewAndMany(t *testing.T) {
	if sha.Sum(nil) != sha.Sum([]byte{}) {
		t.Error("nil and the empty list")
	}
	for _, n := range []int{8191, 8192, 8193, 65536, 1 << 21, 1<<21 + 5} {
		b := counted(n)
		if got, want := sha.Sum(b), sha256.Sum256(b); got != want {
			t.Errorf("Sum of %d bytes: %x, not %x", n, got, want)
		}
	}
}

// P7.1, F1: one bit more or less is another hash.
func TestSumEveryBit(t *testing.T) {
	b := counted(130)
	seen := map[[32]byte]int{sha.Sum(b): -1}
	for i := range 8 * len(b) {
		b[i/8] ^= 1 << (i % 8)
		h := sha.Sum(b)
		if h != sha256.Sum256(b) {
			t.Errorf("bit %d: %x", i, h)
		}
		if j, ok := seen[h]; ok {
			t.Errorf("bits %d and %d: the same hash", i, j)
		}
		seen[h] = i
		b[i/8] ^= 1 << (i % 8)
	}
}

// P7.1, F1: the hash of the hash.
func TestDouble(t *testing.T) {
	for _, b := range inputs() {
		once := sha256.Sum256(b)
		if got, want := sha.Double(b), sha256.Sum256(once[:]); got != want {
			t.Errorf("Double of %d bytes: %x, not %x", len(b), got, want)
		}
	}
	if got := sha.Double([]byte("hello")); got != hashOf(t, "9595c9df90075148eb06860365df33584b75bff782a510c6cd4883a419833d50") {
		t.Errorf("Double(hello): %x", got)
	}
	if got := sha.Double(nil); got != hashOf(t, "5df6e0e2761359d30a8275058e299fcc0381534545f55cf43e41983f5d4c9456") {
		t.Errorf("Double of nothing: %x", got)
	}
}

// P7.1, F1: no tag, short ones, one of a block, of more, and one that is no text.
func TestTagged(t *testing.T) {
	tags := []string{"", "x", "TapLeaf", strings.Repeat("t", 55), strings.Repeat("t", 56), strings.Repeat("t", 64), strings.Repeat("t", 65), strings.Repeat("long", 50), "\x00", "\xff\xfe", "é€"}
	for _, tag := range tags {
		ahead := sha256.Sum256([]byte(tag))
		for _, b := range inputs() {
			want := sha256.Sum256(slices.Concat(ahead[:], ahead[:], b))
			if got := sha.Tagged(tag, b); got != want {
				t.Errorf("Tagged(%q) of %d bytes: %x, not %x", tag, len(b), got, want)
			}
		}
	}
	if sha.Tagged("a", []byte("bc")) == sha.Tagged("ab", []byte("c")) {
		t.Error("where the tag ends makes no difference")
	}
}

// P7.1, F2: a hash of nothing so far.
func TestNew(t *testing.T) {
	h := sha.New()
	if h == nil {
		t.Fatal("New: nil")
	}
	wantHash(t, h, nil)
	if sha.New() == h {
		t.Error("New: one hash twice")
	}
	var plain sha.Hash
	wantHash(t, &plain, nil)
	plain.Write(counted(70))
	wantHash(t, &plain, counted(70))
}

// P7.1, F2: Write of no bytes changes nothing, wherever it comes.
func TestWriteNothing(t *testing.T) {
	for _, n := range about {
		h := sha.New()
		h.Write(nil)
		h.Write([]byte{})
		h.Write(counted(n))
		h.Write(nil)
		h.Write([]byte{})
		wantHash(t, h, counted(n))
		h.Write([]byte{1})
		h.Write(nil)
		wantHash(t, h, append(counted(n), 1))
	}
}

// P7.1, F2: Sum asked for between writes, and twice in a row; what is written later goes on behind it.
func TestSumBetweenWrites(t *testing.T) {
	for _, n := range about {
		for _, m := range about {
			h, all := sha.New(), counted(n+m)
			h.Write(all[:n])
			if h.Sum() != h.Sum() {
				t.Errorf("%d bytes: two sums in a row differ", n)
			}
			wantHash(t, h, all[:n])
			h.Write(all[n:])
			wantHash(t, h, all)
			wantHash(t, h, all)
		}
	}
}

// P7.1, F2: who asks changes nothing of the hash, not even bytes that are not read any more.
func TestAskingChangesNothing(t *testing.T) {
	for _, n := range about {
		h := sha.New()
		h.Write(counted(n))
		was := *h
		h.Sum()
		h.Len()
		if *h != was {
			t.Errorf("%d bytes: another hash behind Sum and Len", n)
		}
	}
}

// P7.1, F2: a sum behind each byte.
func TestByteByByte(t *testing.T) {
	h, all := sha.New(), counted(400)
	for i := range all {
		wantHash(t, h, all[:i])
		h.Write(all[i : i+1])
	}
	wantHash(t, h, all)
}

// P7.1, F2: two hashes at once know nothing of each other.
func TestTwoAtOnce(t *testing.T) {
	g, h := sha.New(), sha.New()
	var one, other []byte
	for i := range 60 {
		a, b := counted(i), bytes.Repeat([]byte{byte(i)}, 61-i)
		g.Write(a)
		h.Write(b)
		one, other = append(one, a...), append(other, b...)
		sha.Sum(a)
		sha.Tagged("t", b)
		wantHash(t, g, one)
		wantHash(t, h, other)
	}
}

// P7.1, F2: a copy of a hash goes its own way.
func TestCopy(t *testing.T) {
	for _, n := range about {
		h := sha.New()
		h.Write(counted(n))
		c := *h
		h.Write([]byte("one"))
		c.Write([]byte("other"))
		wantHash(t, h, append(counted(n), "one"...))
		wantHash(t, &c, append(counted(n), "other"...))
	}
}

// P7.1, F2, R1: on a nil hash Write does nothing, Sum is as of nothing, Len 0.
func TestNil(t *testing.T) {
	var h *sha.Hash
	wantHash(t, h, nil)
	for _, b := range inputs() {
		h.Write(b)
		wantHash(t, h, nil)
	}
	if h != nil {
		t.Error("a nil hash is none any more")
	}
}

// P7.2: two and three pieces, cut at every place about a block's end.
func TestPieces(t *testing.T) {
	for _, n := range []int{0, 1, 55, 56, 63, 64, 65, 127, 128, 129, 200} {
		all := counted(n)
		for i := 0; i <= n; i++ {
			for j := i; j <= n; j++ {
				h := sha.New()
				h.Write(all[:i])
				h.Write(all[i:j])
				h.Write(all[j:])
				wantHash(t, h, all)
			}
		}
	}
}

// P7.2: pieces that all have one length.
func TestEvenPieces(t *testing.T) {
	all := counted(1000)
	for n := 1; n <= 260; n++ {
		h := sha.New()
		for piece := range slices.Chunk(all, n) {
			h.Write(piece)
		}
		wantHash(t, h, all)
	}
}

// P7.2: pieces by chance, with sums among them.
func TestPiecesByChance(t *testing.T) {
	r := rand.New(rand.NewSource(72))
	for range 2000 {
		all := make([]byte, r.Intn(1500))
		r.Read(all)
		h := sha.New()
		for at := 0; at < len(all); {
			n := min(len(all)-at, r.Intn(1+r.Intn(300)))
			h.Write(all[at : at+n])
			at += n
			if r.Intn(4) == 0 {
				wantHash(t, h, all[:at])
			}
		}
		wantHash(t, h, all)
	}
}

// R4: what is handed in, and the room behind it, is not changed.
func TestArgumentsStay(t *testing.T) {
	for _, b := range inputs() {
		room := append(slices.Clone(b), bytes.Repeat([]byte{0xa5}, 200)...)
		was := slices.Clone(room)
		part := room[:len(b)]
		sha.Sum(part)
		sha.Double(part)
		sha.Tagged("t", part)
		h := sha.New()
		for range 3 {
			h.Write(part)
			h.Sum()
		}
		if !bytes.Equal(room, was) {
			t.Errorf("%d bytes: changed", len(b))
		}
	}
}

// R4: bytes that the caller changes later do not change the hash.
func TestBytesNotKept(t *testing.T) {
	for _, n := range about {
		h, b := sha.New(), counted(n)
		h.Write(b)
		clear(b)
		wantHash(t, h, counted(n))
		b = counted(n)
		h.Write(b)
		for i := range b {
			b[i] ^= 255
		}
		wantHash(t, h, append(counted(n), counted(n)...))
	}
}

// R4: an answer is the caller's own.
func TestAnswersAreNew(t *testing.T) {
	h := sha.New()
	h.Write([]byte("abc"))
	sum := h.Sum()
	clear(sum[:])
	wantHash(t, h, []byte("abc"))
}

// R5: the same call, the same answer, whatever was asked in between.
func TestSameAgain(t *testing.T) {
	for _, b := range inputs() {
		sum, double, tagged := sha.Sum(b), sha.Double(b), sha.Tagged("t", b)
		sha.Sum(counted(99))
		if sha.Sum(b) != sum || sha.Double(b) != double || sha.Tagged("t", b) != tagged {
			t.Errorf("%d bytes: another answer", len(b))
		}
	}
}

func FuzzHash(f *testing.F) {
	f.Add("", []byte{}, uint16(0))
	f.Add("tag", counted(130), uint16(64))
	f.Fuzz(func(t *testing.T, tag string, b []byte, at uint16) {
		i := int(at) % (len(b) + 1)
		h := sha.New()
		h.Write(b[:i])
		wantHash(t, h, b[:i])
		h.Write(b[i:])
		wantHash(t, h, b)
		ahead := sha256.Sum256([]byte(tag))
		if sha.Tagged(tag, b) != sha256.Sum256(slices.Concat(ahead[:], ahead[:], b)) {
			t.Error("Tagged")
		}
	})
}

func BenchmarkSum(b *testing.B) {
	x := counted(64)
	for b.Loop() {
		sha.Sum(x)
	}
}
