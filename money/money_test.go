package money_test

import (
	"fmt"
	"math"
	"math/big"
	"math/rand"
	"regexp"
	"slices"
	"strings"
	"testing"

	"entail/api"
	"entail/money"
)

// most is written out and not taken from api, as the chapter has it.
const most = 2100000000000000

// edges: numbers at which something might turn.
var edges = []uint64{
	0, 1, 2, 3, 9, 10, 99, 330, 99999999, 100000000, 100000001, 999999999, 1000000000, 150000330, 5000000000,
	1<<31 - 1, 1 << 31, 1<<32 - 1, 1 << 32, 1<<50 - 1, 1 << 50,
	most / 2, most - 100000000, most - 1, most, most + 1, most + 100000000, 2 * most, 10 * most,
	1 << 52, 1 << 53, 1<<63 - 1, 1 << 63, 1<<63 + most, math.MaxUint64 - most, math.MaxUint64 - 1, math.MaxUint64,
}

// P3.1, B1: Check.

func TestCheck(t *testing.T) {
	for _, v := range edges {
		want := api.OK
		if v > most {
			want = api.ErrMoney
		}
		if e := money.Check(v); e != want {
			t.Errorf("Check of %d: %d, not %d", v, e, want)
		}
	}
}

// P3.1, B1: Sum.

func wantSum(t *testing.T, l []uint64, want uint64) {
	t.Helper()
	if n, e := money.Sum(l); n != want || e != api.OK {
		t.Errorf("Sum of %d: %d, %d; not %d", l, n, e, want)
	}
}

func wrongSum(t *testing.T, l ...uint64) {
	t.Helper()
	if n, e := money.Sum(l); n != 0 || e != api.ErrMoney {
		t.Errorf("Sum of %d: %d, %d; not 0 and ErrMoney", l, n, e)
	}
}

func TestSum(t *testing.T) {
	wantSum(t, nil, 0)
	wantSum(t, []uint64{}, 0)
	wantSum(t, []uint64{0}, 0)
	wantSum(t, []uint64{7}, 7)
	wantSum(t, []uint64{0, 0, 0}, 0)
	wantSum(t, []uint64{1, 2, 3, 4}, 10)
	wantSum(t, []uint64{most}, most)
	wantSum(t, []uint64{most, 0, 0}, most)
	wantSum(t, []uint64{0, most}, most)
	wantSum(t, []uint64{most - 1, 1}, most)
	wantSum(t, []uint64{1, most - 1}, most)
	wantSum(t, []uint64{most / 2, most / 2}, most)
}

func TestSumOfWhatIsNoAmount(t *testing.T) {
	wrongSum(t, most+1)
	wrongSum(t, math.MaxUint64)
	wrongSum(t, 1<<63)
	wrongSum(t, 0, most+1)
	wrongSum(t, most+1, 0)
	wrongSum(t, 1, 2, most+1, 3)
}

func TestSumThatIsNoAmount(t *testing.T) {
	wrongSum(t, most, 1)
	wrongSum(t, 1, most)
	wrongSum(t, most, most)
	wrongSum(t, most-1, 1, 1)
	wrongSum(t, most/2, most/2, 1)
	wrongSum(t, most, 1, 0, 0)
}

// What comes later can't bring a sum back among the amounts.
func TestSumThatWouldWrapRound(t *testing.T) {
	wrongSum(t, 1, math.MaxUint64)
	wrongSum(t, math.MaxUint64, 1)
	wrongSum(t, 5, math.MaxUint64-2)
	wrongSum(t, most, math.MaxUint64-most+1)
	wrongSum(t, 1<<63, 1<<63)
	wrongSum(t, most, math.MaxUint64)
	wrongSum(t, math.MaxUint64, math.MaxUint64, 2)
	// As many amounts as wrap round, the last one such that 1 would be left.
	l := slices.Repeat([]uint64{most}, math.MaxUint64/most)
	wrongSum(t, append(l, math.MaxUint64%most+2)...)
	wrongSum(t, slices.Repeat([]uint64{1 << 50}, 1<<14)...)
	wrongSum(t, slices.Repeat([]uint64{1 << 50}, 1<<14+1)...)
}

func TestSumOfMany(t *testing.T) {
	const many = 100000
	l := slices.Repeat([]uint64{most / many}, many)
	wantSum(t, l, most)
	l[many/2]++
	wrongSum(t, l...)
}

// P3.1, B1: Print.

func wantPrint(t *testing.T, v uint64, want string) {
	t.Helper()
	if s := money.Print(v); s != want {
		t.Errorf("Print of %d: %q, not %q", v, s, want)
	}
}

func TestPrint(t *testing.T) {
	wantPrint(t, 0, "0.00000000")
	wantPrint(t, 1, "0.00000001")
	wantPrint(t, 9, "0.00000009")
	wantPrint(t, 10, "0.00000010")
	wantPrint(t, 330, "0.00000330")
	wantPrint(t, 10000000, "0.10000000")
	wantPrint(t, 12345678, "0.12345678")
	wantPrint(t, 99999999, "0.99999999")
	wantPrint(t, 100000000, "1.00000000")
	wantPrint(t, 100000001, "1.00000001")
	wantPrint(t, 150000330, "1.50000330")
	wantPrint(t, 999999999, "9.99999999")
	wantPrint(t, 1000000000, "10.00000000")
	wantPrint(t, 5000000000, "50.00000000")
	wantPrint(t, 10100000000, "101.00000000")
	wantPrint(t, most-1, "20999999.99999999")
	wantPrint(t, most, "21000000.00000000")
}

func TestPrintOfGreaterNumbers(t *testing.T) {
	wantPrint(t, most+1, "21000000.00000001")
	wantPrint(t, 10*most, "210000000.00000000")
	wantPrint(t, 1<<63-1, "92233720368.54775807")
	wantPrint(t, 1<<63, "92233720368.54775808")
	wantPrint(t, math.MaxUint64, "184467440737.09551615")
}

func TestPrintLikeFmt(t *testing.T) {
	r := rand.New(rand.NewSource(3))
	for range 20000 {
		v := r.Uint64() >> r.Intn(64)
		wantPrint(t, v, fmt.Sprintf("%d.%08d", v/100000000, v%100000000))
	}
}

// P3.1, B1: Parse.

func wantParse(t *testing.T, s string, want uint64) {
	t.Helper()
	if v, e := money.Parse(s); v != want || e != api.OK {
		t.Errorf("Parse of %q: %d, %d; not %d", s, v, e, want)
	}
}

func wrongParse(t *testing.T, s string, want api.Errno) {
	t.Helper()
	if v, e := money.Parse(s); v != 0 || e != want {
		t.Errorf("Parse of %.50q (%d bytes): %d, %d; not 0 and %d", s, len(s), v, e, want)
	}
}

func TestParse(t *testing.T) {
	wantParse(t, "0", 0)
	wantParse(t, "0.0", 0)
	wantParse(t, "0.00000000", 0)
	wantParse(t, "1", 100000000)
	wantParse(t, "7", 700000000)
	wantParse(t, "9", 900000000)
	wantParse(t, "10", 1000000000)
	wantParse(t, "100", 10000000000)
	wantParse(t, "101", 10100000000)
	wantParse(t, "1002003", 100200300000000)
	wantParse(t, "9876543", 987654300000000)
	wantParse(t, "1.5", 150000000)
	wantParse(t, "1.50000330", 150000330)
	wantParse(t, "0.5", 50000000)
	wantParse(t, "0.05", 5000000)
	wantParse(t, "0.00000001", 1)
	wantParse(t, "0.00000330", 330)
	wantParse(t, "10.01", 1001000000)
}

// One to eight figures behind the point; those that lack are noughts behind, not ahead.
func TestParseWithFewFiguresBehindThePoint(t *testing.T) {
	wantParse(t, "3.1", 310000000)
	wantParse(t, "3.12", 312000000)
	wantParse(t, "3.123", 312300000)
	wantParse(t, "3.1234", 312340000)
	wantParse(t, "3.12345", 312345000)
	wantParse(t, "3.123456", 312345600)
	wantParse(t, "3.1234567", 312345670)
	wantParse(t, "3.12345678", 312345678)
	wrongParse(t, "3.123456789", api.ErrForm)
	wrongParse(t, "3.123456780", api.ErrForm)
	wrongParse(t, "0.000000000", api.ErrForm)
	wrongParse(t, "0.0000000000000001", api.ErrForm)
}

func TestParseOfWhatIsNotSoWritten(t *testing.T) {
	for _, s := range []string{
		"", ".", "..", ".5", "1.", "0.", "1..", "1..5", "1.5.", "1.5.1", ".1.", "1.2.3",
		"00", "01", "000", "00.5", "01.5", "007", "0000000001", "00.00000000", "021000001",
		"+1", "-1", "-0", "+0.5", "1-", "1.-5", "1.+5", "1e2", "1E2", "0x1", "1_000", "1,5", "1,000.5", "1/2", "1:2",
		" ", " 1", "1 ", "1 .5", "1. 5", "1.5 ", "\t1", "1\n", "1.5\n", "\r\n", "1.5\x00", "\x001",
		"a", "1a", "a1", "1.a", "1.5a", "coin", "1 BTC", "NaN", "Inf", "\"1\"",
	} {
		wrongParse(t, s, api.ErrForm)
	}
}

// Figures of other scripts, points that are none, and runes whose lowest bits are those of a figure.
func TestParseOfOtherScripts(t *testing.T) {
	for _, c := range []rune{
		'\u0660', '\u0665', '\u0669', '\u06f1', '\u0967', '\u09e7', '\uff10', '\uff15', '\uff19', '\u00b9', '\u00b2', '\u2460', '\u2081', '\U0001d7d8', '\U0001d7ff',
		'\u3007', '\u4e00', '\u2212', '\uff0e', '\u3002', '\u066b', '\u2024', '\u00b7', '\u2009', '\u00a0', '\ufeff', '\ufffd', '\u200b',
		0x130, 0x131, 0x139, 0x12e, 0x10030, 0x10039, 0x1002e, 0x100030, '/', ':', '-', ',', 0, 127, 0x80, 0x10ffff,
	} {
		strangerAtEachPlace(t, string(c))
	}
}

func TestParseOfBytesThatAreNoText(t *testing.T) {
	for b := 128; b < 256; b++ {
		strangerAtEachPlace(t, string([]byte{byte(b)}))
	}
	for _, s := range []string{"\xed\xa0\xb0", "\xc0\xb0", "\xe0\x80\xb0", "\xf0\x80\x80\xb1", "\xc0\xae", "\xf4\x90\x80\x80", "\xff\xff\xff"} {
		strangerAtEachPlace(t, s)
	}
}

func strangerAtEachPlace(t *testing.T, x string) {
	t.Helper()
	for _, s := range []string{"", "0", "1", "12", "1.5", "21000001", "1.00000000"} {
		for i := range len(s) + 1 {
			wrongParse(t, s[:i]+x+s[i:], api.ErrForm)
		}
		for i := range len(s) {
			wrongParse(t, s[:i]+x+s[i+1:], api.ErrForm)
		}
	}
}

// Every single byte, and every two of them.
func TestParseOfShortTexts(t *testing.T) {
	for a := range 256 {
		likeThePattern(t, string([]byte{byte(a)}))
		for b := range 256 {
			likeThePattern(t, string([]byte{byte(a), byte(b)}))
		}
	}
}

func TestParseOfWhatIsNoAmount(t *testing.T) {
	wantParse(t, "20999999.99999999", most-1)
	wantParse(t, "21000000", most)
	wantParse(t, "21000000.0", most)
	wantParse(t, "21000000.00000000", most)
	for _, s := range []string{
		"21000000.00000001", "21000000.1", "21000000.01", "21000000.99999999", "21000001", "21000001.5", "21000010", "22000000", "30000000", "99999999", "100000000", "210000000",
		"2100000000000000", "2100000000000001", "9999999999999999.99999999",
	} {
		wrongParse(t, s, api.ErrMoney)
	}
}

// Texts whose number, told modulo 2^64 or modulo 2^63, would be an amount.
func TestParseOfWhatWouldWrapRound(t *testing.T) {
	for _, s := range []string{
		"184467440737.09551615", "184467440737.09551616", "184467440737.09551617", "184467440738", "92233720368.54775808", "92233720368.54775809", "92233720369",
		"18446744073709551615", "18446744073709551616", "18446744073709551617", "18446744073709551616.5", "18446744073709551621", "36893488147419103232", "340282366920938463463374607431768211456", "340282366920938463463374607431768211457",
		"99999999999999999999999",
	} {
		wrongParse(t, s, api.ErrMoney)
	}
	// Whole coins at and just above powers of two, of which little or nothing would be left.
	for _, n := range []uint{64, 65, 72, 80, 128, 256} {
		two := new(big.Int).Lsh(big.NewInt(1), n)
		for d := range int64(20) {
			wrongParse(t, new(big.Int).Add(two, big.NewInt(d)).String(), api.ErrMoney)
		}
	}
}

func TestParseOfVeryLongTexts(t *testing.T) {
	for _, n := range []int{16, 17, 18, 19, 20, 21, 25, 64, 100, 1000, 1 << 20} {
		for _, c := range "123456789" {
			wrongParse(t, strings.Repeat(string(c), n), api.ErrMoney)
		}
		noughts := strings.Repeat("0", n)
		wrongParse(t, "1"+noughts, api.ErrMoney)
		wrongParse(t, "1"+noughts+".00000001", api.ErrMoney)
		for _, s := range []string{noughts, noughts + "1", noughts + ".5", "0." + noughts, "0." + noughts + "1", "1." + noughts, "1." + strings.Repeat("9", n), strings.Repeat(".", n), strings.Repeat("1.", n), strings.Repeat("-", n)} {
			wrongParse(t, s, api.ErrForm)
		}
	}
}

// ErrForm is named ahead of ErrMoney, wherever it shows itself.
func TestParseTellsFormFirst(t *testing.T) {
	long := strings.Repeat("9", 100000)
	for _, s := range []string{
		"21000001.", "21000001x", "21000001.x", "x21000001", "021000001", "21000001.123456789", "21000001.5.", "21000001,5", "-21000001", "21000001 ", "21000000.000000010",
		long + "x", long + ".", long + ".000000000", "0" + long, long + "\xff", long + "." + long, "-" + long,
	} {
		wrongParse(t, s, api.ErrForm)
	}
}

var pattern = regexp.MustCompile(`^(0|[1-9][0-9]*)(\.([0-9]{1,8}))?$`)

// byPattern: what Parse must answer, told by a pattern and by numbers without end.
func byPattern(s string) (uint64, api.Errno) {
	m := pattern.FindStringSubmatch(s)
	if m == nil {
		return 0, api.ErrForm
	}
	v, _ := new(big.Int).SetString(m[1]+m[3]+strings.Repeat("0", 8-len(m[3])), 10)
	if v.Cmp(big.NewInt(most)) > 0 {
		return 0, api.ErrMoney
	}
	return v.Uint64(), api.OK
}

func likeThePattern(t *testing.T, s string) {
	t.Helper()
	want, wantError := byPattern(s)
	if v, e := money.Parse(s); v != want || e != wantError {
		t.Errorf("Parse of %q: %d, %d; not %d, %d", s, v, e, want, wantError)
	}
}

// All texts of at most 8 of a few signs, and longer ones by chance.
func TestParseLikeThePattern(t *testing.T) {
	const signs = "012."
	var all func(s string)
	all = func(s string) {
		likeThePattern(t, s)
		if len(s) == 8 {
			return
		}
		for i := range len(signs) {
			all(s + signs[i:i+1])
		}
	}
	all("")
	r := rand.New(rand.NewSource(33))
	for range 100000 {
		const some = "0123456789.0011229"
		b := make([]byte, r.Intn(24))
		for i := range b {
			b[i] = some[r.Intn(len(some))]
		}
		if len(b) > 2 && r.Intn(2) == 0 {
			b[0], b[r.Intn(len(b)-1)+1] = '1'+byte(r.Intn(3)), '.'
		}
		likeThePattern(t, string(b))
	}
}

func FuzzParse(f *testing.F) {
	for _, s := range []string{"", "0", "1.5", "01.5", "1.", ".5", "21000000.00000001", "\u0661", "1.123456789", "\xff"} {
		f.Add(s)
	}
	f.Fuzz(func(t *testing.T, s string) { likeThePattern(t, s) })
}

// P3.1, B2: Fee.

func wantFee(t *testing.T, weight int, rate, want uint64) {
	t.Helper()
	if n, e := money.Fee(weight, rate); n != want || e != api.OK {
		t.Errorf("Fee of %d at %d: %d, %d; not %d", weight, rate, n, e, want)
	}
}

func wrongFee(t *testing.T, weight int, rate uint64, want api.Errno) {
	t.Helper()
	if n, e := money.Fee(weight, rate); n != 0 || e != want {
		t.Errorf("Fee of %d at %d: %d, %d; not 0 and %d", weight, rate, n, e, want)
	}
}

func TestFee(t *testing.T) {
	wantFee(t, 0, 3, 0)
	wantFee(t, 1, 3, 3)
	wantFee(t, 2, 3, 3)
	wantFee(t, 3, 3, 3)
	wantFee(t, 4, 3, 3)
	wantFee(t, 5, 3, 6)
	wantFee(t, 8, 3, 6)
	wantFee(t, 9, 3, 9)
	wantFee(t, 120000, 7, 210000)
	wantFee(t, 119999, 7, 210000)
	wantFee(t, 119997, 7, 210000)
	wantFee(t, 119996, 7, 209993)
}

func TestFeeAtTheEdgesOfTheRate(t *testing.T) {
	for _, weight := range []int{0, 1, 4, 5, math.MaxInt} {
		wantFee(t, weight, 0, 0)
		wrongFee(t, weight, most+1, api.ErrMoney)
		wrongFee(t, weight, 1<<63, api.ErrMoney)
		wrongFee(t, weight, math.MaxUint64, api.ErrMoney)
	}
	wantFee(t, 0, most, 0)
	wantFee(t, 1, most, most)
	wantFee(t, 4, most, most)
	wrongFee(t, 5, most, api.ErrMoney)
	wrongFee(t, 8, most, api.ErrMoney)
	wantFee(t, 8, most/2, most)
	wrongFee(t, 8, most/2+1, api.ErrMoney)
	wrongFee(t, 9, most/2, api.ErrMoney)
}

func TestFeeAtTheEdgesOfTheWeight(t *testing.T) {
	wantFee(t, 4*most-1, 1, most)
	wantFee(t, 4*most, 1, most)
	wrongFee(t, 4*most+1, 1, api.ErrMoney)
	wantFee(t, 4*most-4, 1, most-1)
	for d := range 9 {
		wrongFee(t, math.MaxInt-d, 1, api.ErrMoney)
		wrongFee(t, math.MaxInt-d, 2, api.ErrMoney)
		wrongFee(t, math.MaxInt-d, most, api.ErrMoney)
	}
}

// What it costs is told as it is, not as what is left of it in 64 bits.
func TestFeeThatWouldWrapRound(t *testing.T) {
	for n := range 15 {
		// 2^(60-n) times 2^(n+4) is 2^64: nothing would be left.
		wrongFee(t, 1<<(62-n), 1<<(n+4), api.ErrMoney)
		wrongFee(t, 1<<(62-n)+1, 1<<(n+4), api.ErrMoney)
		wrongFee(t, 1<<(62-n), 1<<(n+5), api.ErrMoney)
	}
	for _, rate := range []uint64{9, 17, 641, 65537, 6700417, 1000003, 2099999999999999} {
		// The least number of steps that goes round: less than the rate would be left.
		wrongFee(t, int(4*(math.MaxUint64/rate+1)), rate, api.ErrMoney)
	}
}

func TestFeeTellsTheWeightFirst(t *testing.T) {
	for _, weight := range []int{-1, -2, -3, -4, -5, -120000, math.MinInt + 1, math.MinInt} {
		for _, rate := range edges {
			wrongFee(t, weight, rate, api.ErrArg)
		}
	}
}

func TestFeeLikeNumbersWithoutEnd(t *testing.T) {
	r := rand.New(rand.NewSource(34))
	for range 50000 {
		weight, rate := int(r.Uint64()>>(1+r.Intn(63))), r.Uint64()>>r.Intn(64)
		cost := new(big.Int).Add(big.NewInt(int64(weight)), big.NewInt(3))
		cost.Rsh(cost, 2)
		cost.Mul(cost, new(big.Int).SetUint64(rate))
		if rate <= most && cost.Cmp(big.NewInt(most)) <= 0 {
			wantFee(t, weight, rate, cost.Uint64())
		} else {
			wrongFee(t, weight, rate, api.ErrMoney)
		}
	}
}

// P3.2: there and back.

func TestThereAndBack(t *testing.T) {
	for _, v := range edges {
		if v <= most {
			wantParse(t, money.Print(v), v)
		} else {
			wrongParse(t, money.Print(v), api.ErrMoney)
		}
	}
	for v := range uint64(10000) {
		wantParse(t, money.Print(v), v)
		wantParse(t, money.Print(most-v), most-v)
		wantParse(t, money.Print(v*100000007), v*100000007)
		wrongParse(t, money.Print(most+1+v), api.ErrMoney)
	}
	r := rand.New(rand.NewSource(32))
	for range 50000 {
		v := uint64(r.Int63n(most+1)) >> r.Intn(51)
		wantParse(t, money.Print(v), v)
	}
}

// P3.3: piece by piece.

// pieceByPiece: the sum of a and b behind each other is the sum of their sums, and none where one of these is none.
func pieceByPiece(t *testing.T, a, b []uint64) {
	t.Helper()
	var want uint64
	sumA, wantError := money.Sum(a)
	sumB, e := money.Sum(b)
	if wantError == api.OK {
		wantError = e
	}
	if wantError == api.OK {
		want, wantError = money.Sum([]uint64{sumA, sumB})
	}
	for _, l := range [][]uint64{slices.Concat(a, b), slices.Concat(b, a)} {
		if n, e := money.Sum(l); n != want || e != wantError {
			t.Errorf("Sum of %d: %d, %d; by pieces of %d and %d: %d, %d", l, n, e, len(a), len(b), want, wantError)
		}
	}
}

func TestPieceByPiece(t *testing.T) {
	for _, x := range edges {
		pieceByPiece(t, nil, []uint64{x})
		for _, y := range edges {
			pieceByPiece(t, []uint64{x}, []uint64{y})
			pieceByPiece(t, []uint64{x, y}, nil)
			pieceByPiece(t, []uint64{x, 1}, []uint64{2, y})
		}
	}
}

func TestPieceByPieceInAnyOrder(t *testing.T) {
	r := rand.New(rand.NewSource(31))
	for range 5000 {
		l := make([]uint64, r.Intn(12))
		for i := range l {
			l[i] = uint64(r.Int63n(most/4)) >> r.Intn(8)
			if r.Intn(60) == 0 {
				l[i] = edges[r.Intn(len(edges))]
			}
		}
		want, wantError := money.Sum(l)
		cut := r.Intn(len(l) + 1)
		pieceByPiece(t, l[:cut], l[cut:])
		r.Shuffle(len(l), func(i, j int) { l[i], l[j] = l[j], l[i] })
		if n, e := money.Sum(l); n != want || e != wantError {
			t.Errorf("Sum of %d: %d, %d; in another order %d, %d", l, n, e, want, wantError)
		}
	}
}

// R4: what is handed in, and the room behind it, is not changed.

func TestSumChangesNothing(t *testing.T) {
	for _, last := range []uint64{4, most, math.MaxUint64} {
		room := []uint64{1, 2, 3, last, 5, 6, 7}
		was := slices.Clone(room)
		money.Sum(room[:4])
		money.Sum(room[1:4:4])
		if !slices.Equal(room, was) {
			t.Errorf("Sum has changed %d into %d", was, room)
		}
	}
}

// R5: a call ahead is nothing to the next one.
func TestCallsHangOnTheirArgumentsAlone(t *testing.T) {
	for range 3 {
		wrongParse(t, "1.5x", api.ErrForm)
		wantParse(t, "1.5", 150000000)
		wrongParse(t, "21000001", api.ErrMoney)
		wantParse(t, "0", 0)
		wrongSum(t, most, 1)
		wantSum(t, []uint64{1, 1}, 2)
		wrongFee(t, -1, 3, api.ErrArg)
		wantFee(t, 5, 3, 6)
		wantPrint(t, 150000330, "1.50000330")
	}
}
