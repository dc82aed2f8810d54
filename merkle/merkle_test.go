package merkle_test

import (
	"crypto/sha256"
	"encoding/hex"
	"math"
	"math/rand"
	"slices"
	"testing"

	"entail/api"
	"entail/merkle"
)

// lengths: rows of one, of powers of two, of one more and of one less.
var lengths = []int{1, 2, 3, 4, 5, 6, 7, 8, 9, 10, 11, 12, 13, 15, 16, 17, 18, 19, 31, 32, 33, 63, 64, 65}

// counted: n hashes that all differ.
func counted(n int) [][32]byte {
	l := make([][32]byte, n)
	for i := range l {
		l[i] = sha256.Sum256([]byte{byte(i), byte(i >> 8), 1})
	}
	return l
}

// alike: n times the same hash.
func alike(n int) [][32]byte {
	l := make([][32]byte, n)
	for i := range l {
		l[i] = [32]byte{31: 9}
	}
	return l
}

// pair: the double hash of two, by another SHA-256.
func pair(a, b [32]byte) [32]byte {
	once := sha256.Sum256(slices.Concat(a[:], b[:]))
	return sha256.Sum256(once[:])
}

// rows: the row, and those above it, the top last.
func rows(l [][32]byte) [][][32]byte {
	all := [][][32]byte{l}
	for len(l) > 1 {
		l = slices.Clone(l)
		if len(l)%2 == 1 {
			l = append(l, l[len(l)-1])
		}
		var above [][32]byte
		for ; len(l) > 0; l = l[2:] {
			above = append(above, pair(l[0], l[1]))
		}
		all = append(all, above)
		l = above
	}
	return all
}

// rootByWords: the root and whether the row is doubled, as the chapter's words say it.
func rootByWords(l [][32]byte) ([32]byte, bool) {
	if len(l) == 0 {
		return [32]byte{}, false
	}
	all := rows(l)
	doubled := false
	for _, row := range all[:len(all)-1] {
		for k := range len(row) / 2 {
			if row[2*k] == row[2*k+1] {
				doubled = true
			}
		}
	}
	return all[len(all)-1][0], doubled
}

// branchByWords: of a place that is there.
func branchByWords(l [][32]byte, i int) [][32]byte {
	all := rows(l)
	var branch [][32]byte
	for _, row := range all[:len(all)-1] {
		other := i ^ 1
		if other == len(row) {
			other = i
		}
		branch = append(branch, row[other])
		i /= 2
	}
	return branch
}

// wantRoot: that the root is as the words say, and this doubled.
func wantRoot(t *testing.T, l [][32]byte, doubled bool) {
	t.Helper()
	want, byWords := rootByWords(l)
	if byWords != doubled {
		t.Fatalf("the words say doubled %v of %d hashes, the test %v", byWords, len(l), doubled)
	}
	if got, d := merkle.Root(l); got != want || d != doubled {
		t.Errorf("Root of %d: %x, %v; not %x, %v", len(l), got, d, want, doubled)
	}
}

// wantBranch: that the branch of a place is as the words say, and leads to the root.
func wantBranch(t *testing.T, l [][32]byte, i int) {
	t.Helper()
	got, e := merkle.Branch(l, i)
	if e != api.OK || !slices.Equal(got, branchByWords(l, i)) {
		t.Errorf("Branch of %d of %d: %x, %d", i, len(l), got, e)
		return
	}
	want, _ := rootByWords(l)
	if top := merkle.Climb(l[i], i, got); top != want {
		t.Errorf("from %d of %d the way leads to %x, not %x", i, len(l), top, want)
	}
	if top, _ := merkle.Root(l); top != want {
		t.Errorf("Root of %d: %x, not %x", len(l), top, want)
	}
}

func wrongBranch(t *testing.T, l [][32]byte, i int) {
	t.Helper()
	if got, e := merkle.Branch(l, i); len(got) != 0 || e != api.ErrArg {
		t.Errorf("Branch of %d of %d: %x, %d", i, len(l), got, e)
	}
}

// Example 1.
func TestExamples(t *testing.T) {
	for _, x := range [][32]byte{{}, {1}, {31: 255}, pair([32]byte{1}, [32]byte{2})} {
		if got, d := merkle.Root([][32]byte{x}); got != x || d {
			t.Errorf("Root of the one hash %x: %x, %v", x, got, d)
		}
		if got, d := merkle.Root([][32]byte{x, x}); got != pair(x, x) || !d {
			t.Errorf("Root of %x twice: %x, %v", x, got, d)
		}
	}
}

// P8.1, G1: a block's root that is known from elsewhere, of four names, and its branches.
func TestKnownRoot(t *testing.T) {
	read := func(written string) [32]byte {
		b, err := hex.DecodeString(written)
		if err != nil || len(b) != 32 {
			t.Fatalf("%q is no hash", written)
		}
		slices.Reverse(b)
		return [32]byte(b)
	}
	l := [][32]byte{
		read("8c14f0db3df150123e6f3dbbf30f8b955a8249b62ac1d1ff16284aefa3d06d87"),
		read("fff2525b8931402dd09222c50775608f75787bd2b87e56995a7bdd30f79702c4"),
		read("6359f0868171b1d194cbee1af2f16ea598ae8fad666d9b012c8ed2b79a236ec4"),
		read("e9a66845e05d5abc0ad04ec80f774a7e585c6e8db975962d069a522137b80c1d"),
	}
	want := read("f3e94742aca4b5ef85488dc37c06c3282295ffec960994b2c0d5ac2a25a95766")
	if got, d := merkle.Root(l); got != want || d {
		t.Errorf("Root: %x, %v; not %x", got, d, want)
	}
	for i := range l {
		branch, e := merkle.Branch(l, i)
		if got := merkle.Climb(l[i], i, branch); e != api.OK || got != want {
			t.Errorf("from %d the way leads to %x, %d", i, got, e)
		}
	}
}

// P8.1, G1: the root of none, and of rows whose hashes all differ: the last one paired with itself doubles none.
func TestRoot(t *testing.T) {
	for _, l := range [][][32]byte{nil, {}, counted(3)[:0]} {
		if got, d := merkle.Root(l); got != ([32]byte{}) || d {
			t.Errorf("Root of none: %x, %v", got, d)
		}
	}
	for _, n := range lengths {
		wantRoot(t, counted(n), false)
	}
	l := counted(5)
	low, high := pair(l[0], l[1]), pair(l[2], l[3])
	last := pair(l[4], l[4])
	if got, d := merkle.Root(l); got != pair(pair(low, high), pair(last, last)) || d {
		t.Errorf("Root of five: %x, %v", got, d)
	}
}

// P8.1, G1: which rows are doubled.
func TestDoubled(t *testing.T) {
	for _, n := range lengths {
		wantRoot(t, alike(n), n > 1)
	}
	for _, n := range lengths {
		for k := 1; k < n; k++ {
			l := counted(n)
			l[k] = l[k-1]
			wantRoot(t, l, k%2 == 1)
		}
	}
	for _, places := range [][2]int{{0, 2}, {0, 3}, {1, 3}, {0, 4}, {2, 4}, {3, 6}, {1, 6}} {
		l := counted(7)
		l[places[1]] = l[places[0]]
		wantRoot(t, l, false)
	}
}

// P8.1, G1: two alike in a row above, paired or not, and those that are alike only in the last one's pair with itself.
func TestDoubledAbove(t *testing.T) {
	c := counted(16)
	a, b, x, y := c[0], c[1], c[2], c[3]
	for _, row := range []struct {
		l       [][32]byte
		doubled bool
	}{
		{[][32]byte{a, b, a, b}, true},
		{[][32]byte{a, b, b, a}, false},
		{[][32]byte{x, y, a, b, a, b}, false},
		{[][32]byte{x, y, a, b, a, b, y, x}, false},
		{[][32]byte{x, y, y, x, a, b, a, b}, true},
		{[][32]byte{a, b, x, y, a, b, x, y}, true},
		{[][32]byte{a, b, x, a, b, x}, false},
		{[][32]byte{x, y, a, b, a}, false},
		{[][32]byte{x, y, a, b, x, y}, false},
		{[][32]byte{x, y, a, b, x, x}, true},
		{[][32]byte{a, b, x, y, b}, false},
		{[][32]byte{a, b, x, y, a, b}, false},
		{slices.Concat(c[:8], c[:8]), true},
		{slices.Concat(c[:4], c[8:12], c[:4], c[8:12]), true},
		{slices.Concat(c[:4], c[8:12], c[:4]), false},
		{slices.Concat(c[:5], c[4:5]), true},
		{slices.Concat(c[:6], c[4:6]), true},
		{slices.Concat(c[:12], c[8:12]), true},
	} {
		wantRoot(t, row.l, row.doubled)
	}
}

// P8.1, G1: a row is not doubled by what is found at its top, where nothing is paired.
func TestTopIsNotPaired(t *testing.T) {
	a, b := [32]byte{1}, [32]byte{2}
	wantRoot(t, [][32]byte{a, b}, false)
	wantRoot(t, [][32]byte{pair(a, b)}, false)
	wantRoot(t, [][32]byte{{}}, false)
	wantRoot(t, [][32]byte{{}, {}}, true)
	wantRoot(t, [][32]byte{{}, a}, false)
}

// P8.1, P8.2: the way up from every place of rows of each length, all that differ and all alike.
func TestBranch(t *testing.T) {
	for _, n := range lengths {
		for i := range n {
			wantBranch(t, counted(n), i)
			wantBranch(t, alike(n), i)
		}
	}
}

// P8.1, G1: branches that are written out.
func TestBranchWritten(t *testing.T) {
	l := counted(5)
	low, high := pair(l[0], l[1]), pair(l[2], l[3])
	last := pair(l[4], l[4])
	for i, want := range [][][32]byte{
		{l[1], high, pair(last, last)},
		{l[0], high, pair(last, last)},
		{l[3], low, pair(last, last)},
		{l[2], low, pair(last, last)},
		{l[4], last, pair(low, high)},
	} {
		if got, e := merkle.Branch(l, i); e != api.OK || !slices.Equal(got, want) {
			t.Errorf("Branch of %d: %x, %d; not %x", i, got, e, want)
		}
	}
	if got, e := merkle.Branch(l[:1], 0); e != api.OK || len(got) != 0 {
		t.Errorf("Branch of the only one: %x, %d", got, e)
	}
}

// P8.1, G1: places that are not there.
func TestBranchOfNoPlace(t *testing.T) {
	for _, n := range append([]int{0}, lengths...) {
		for _, i := range []int{-1, -2, -n, -n - 1, n, n + 1, 2 * n, math.MinInt, math.MaxInt} {
			if i < 0 || i >= n {
				wrongBranch(t, counted(n), i)
			}
		}
	}
	wrongBranch(t, nil, 0)
	wrongBranch(t, counted(4)[:3], 3)
}

// climbByWords: as the chapter's words say it.
func climbByWords(leaf [32]byte, i int, branch [][32]byte) [32]byte {
	if i < 0 {
		i = 0
	}
	for _, x := range branch {
		if i&1 == 0 {
			leaf = pair(leaf, x)
		} else {
			leaf = pair(x, leaf)
		}
		i >>= 1
	}
	return leaf
}

// P8.1, G1: Climb with branches of any length, longer than the way too, from even and odd places and from ones below 0.
func TestClimb(t *testing.T) {
	branch := counted(80)
	leaf := [32]byte{5}
	places := []int{0, 1, 2, 3, 4, 5, 6, 7, 8, 100, 101, math.MaxInt, math.MaxInt - 1, 1 << 62, -1, -2, -3, math.MinInt, math.MinInt + 1}
	for _, i := range places {
		for _, n := range []int{0, 1, 2, 3, 4, 5, 62, 63, 64, 65, 80} {
			if got, want := merkle.Climb(leaf, i, branch[:n]), climbByWords(leaf, i, branch[:n]); got != want {
				t.Errorf("Climb from %d by %d: %x, not %x", i, n, got, want)
			}
		}
		if got := merkle.Climb(leaf, i, nil); got != leaf {
			t.Errorf("Climb from %d with no branch: %x", i, got)
		}
	}
	x, y, z := branch[0], branch[1], branch[2]
	for i, want := range [][32]byte{
		pair(pair(pair(leaf, x), y), z), pair(pair(pair(x, leaf), y), z),
		pair(pair(y, pair(leaf, x)), z), pair(pair(y, pair(x, leaf)), z),
		pair(z, pair(pair(leaf, x), y)), pair(z, pair(pair(x, leaf), y)),
	} {
		if got := merkle.Climb(leaf, i, branch[:3]); got != want {
			t.Errorf("Climb from %d: %x, not %x", i, got, want)
		}
	}
}

// P8.2: from a place that is not its own a hash does not come to the root, nor does another hash.
func TestOtherWays(t *testing.T) {
	l := counted(7)
	root, _ := merkle.Root(l)
	for i := range l {
		branch, _ := merkle.Branch(l, i)
		for k := range l {
			if got := merkle.Climb(l[i], k, branch); (got == root) != (k == i || i == 6 && k == 7) {
				t.Errorf("from %d as if it were %d: %x", i, k, got)
			}
			if got := merkle.Climb(l[k], i, branch); (got == root) != (k == i) {
				t.Errorf("from %d in the place of %d: %x", k, i, got)
			}
		}
	}
}

// P8.3: a row of an odd number, above 1, with its last one once more.
func TestTwiceTheLast(t *testing.T) {
	for n := 3; n <= 65; n += 2 {
		for _, l := range [][][32]byte{counted(n), alike(n)} {
			root, _ := merkle.Root(l)
			more := append(slices.Clone(l), l[n-1])
			if got, d := merkle.Root(more); got != root || !d {
				t.Errorf("%d and the last once more: %x, %v; not %x", n, got, d, root)
			}
		}
		if _, d := merkle.Root(counted(n)); d {
			t.Errorf("%d that all differ are doubled", n)
		}
	}
	if one, _ := merkle.Root(counted(1)); one == pair(one, one) {
		t.Error("one hash has the root of two")
	}
}

// P8.1 to P8.3 with rows by chance, of few hashes, so that many are alike.
func TestByChance(t *testing.T) {
	r := rand.New(rand.NewSource(8))
	for range 400 {
		l := make([][32]byte, 1+r.Intn(20))
		kinds := 1 + r.Intn(6)
		for i := range l {
			l[i][r.Intn(2)*31] = byte(r.Intn(kinds))
		}
		_, doubled := rootByWords(l)
		wantRoot(t, l, doubled)
		wantBranch(t, l, r.Intn(len(l)))
	}
}

// R4: what is handed in stays, with the room behind its end; what is answered is not the caller's.
func TestMemory(t *testing.T) {
	for _, n := range lengths {
		room := counted(n + 40)
		kept := slices.Clone(room)
		l := room[:n]
		root, _ := merkle.Root(l)
		for i := range n {
			branch, _ := merkle.Branch(l, i)
			merkle.Climb(l[i], i, branch)
			for k := range branch[:cap(branch)] {
				branch[:cap(branch)][k] = [32]byte{77}
			}
			if !slices.Equal(room, kept) {
				t.Fatalf("the row of %d is changed by the branch of %d", n, i)
			}
		}
		if got, _ := merkle.Root(l); got != root || !slices.Equal(room, kept) {
			t.Errorf("the row of %d is changed", n)
		}
		merkle.Climb(room[0], 3, l)
		if !slices.Equal(room, kept) {
			t.Errorf("a branch of %d is changed", n)
		}
	}
}

// R4, R5: a branch hangs on nothing that is done to another, nor to the row behind the call.
func TestBranchesAreTheirOwn(t *testing.T) {
	l := counted(9)
	one, _ := merkle.Branch(l, 4)
	other, _ := merkle.Branch(l, 4)
	want := slices.Clone(one)
	for i := range other {
		other[i] = [32]byte{1}
	}
	for i := range l {
		l[i] = [32]byte{2}
	}
	if !slices.Equal(one, want) {
		t.Errorf("a branch is changed: %x", one)
	}
}

// R1, P8.1, P8.2: any row and any place.
func FuzzMerkle(f *testing.F) {
	f.Add([]byte{}, 0)
	f.Add([]byte{1, 2, 1, 2}, 3)
	f.Add([]byte{1, 2, 3}, 2)
	f.Add([]byte{1, 2, 3}, -1)
	f.Fuzz(func(t *testing.T, b []byte, i int) {
		l := make([][32]byte, min(len(b), 200))
		for k := range l {
			l[k][0] = b[k]
		}
		_, doubled := rootByWords(l)
		wantRoot(t, l, doubled)
		if i < 0 || i >= len(l) {
			wrongBranch(t, l, i)
		} else {
			wantBranch(t, l, i)
		}
		if got := merkle.Climb([32]byte{9}, i, l); got != climbByWords([32]byte{9}, i, l) {
			t.Errorf("Climb from %d: %x", i, got)
		}
	})
}
