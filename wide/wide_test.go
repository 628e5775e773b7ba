package wide

import (
	"math"
	"math/big"
	"testing"

	"billiard/api"
)

const (
	least = math.MinInt64
	most  = math.MaxInt64
)

// edges returns numbers at which signs, carries, roundings and limits change.
func edges() []int64 {
	l := []int64{0}
	for _, m := range []int64{1, 2, 3, 5, 7, 10, 1 << 16, 1 << 31, 1 << 32, 3037000499, 3037000500, 1 << 61, 1 << 62, most / 3, most / 2, most - 1, most} {
		l = append(l, m, -m, m-1, 1-m)
	}
	return append(l, least, least+1, least/2, least/3)
}

// scattered returns n numbers of all lengths, the same ones in each run.
func scattered(n int, seed uint64) []int64 {
	l := make([]int64, n)
	for i := range l {
		seed = seed*6364136223846793005 + 1442695040888963407
		length := seed >> 58
		seed = seed*6364136223846793005 + 1442695040888963407
		l[i] = int64(seed^seed>>33) >> length
	}
	return l
}

// The model: the definitions of the chapter in numbers of any length.

func product(a, b int64) *big.Int {
	return new(big.Int).Mul(big.NewInt(a), big.NewInt(b))
}

func number(high int64, low uint64) *big.Int {
	n := new(big.Int).Lsh(big.NewInt(high), 64)
	return n.Add(n, new(big.Int).SetUint64(low))
}

func floor(n, d *big.Int) *big.Int {
	q, r := new(big.Int).QuoRem(n, d, new(big.Int))
	if r.Sign() != 0 && r.Sign() != d.Sign() {
		q.Sub(q, big.NewInt(1))
	}
	return q
}

func ranged(n *big.Int) (int64, api.Errno) {
	if !n.IsInt64() {
		return 0, api.ErrRange
	}
	return n.Int64(), api.OK
}

func modelMulDiv(a, b, c int64) (int64, api.Errno) {
	if c == 0 {
		return 0, api.ErrZero
	}
	return ranged(floor(product(a, b), big.NewInt(c)))
}

func modelMulShift(a, b int64, n int) (int64, api.Errno) {
	if n < 0 || n > 63 {
		return 0, api.ErrArg
	}
	return ranged(floor(product(a, b), new(big.Int).Lsh(big.NewInt(1), uint(n))))
}

func checkMul(t *testing.T, a, b int64) {
	t.Helper()
	if h, l := Mul(a, b); number(h, l).Cmp(product(a, b)) != 0 {
		t.Errorf("Mul(%d, %d) = %d, %d", a, b, h, l)
	}
}

func checkMulDiv(t *testing.T, a, b, c int64) {
	t.Helper()
	q, err := MulDiv(a, b, c)
	if want, wantErr := modelMulDiv(a, b, c); q != want || err != wantErr {
		t.Errorf("MulDiv(%d, %d, %d) = %d, %d, want %d, %d", a, b, c, q, err, want, wantErr)
	}
}

func checkMulShift(t *testing.T, a, b int64, n int) {
	t.Helper()
	q, err := MulShift(a, b, n)
	if want, wantErr := modelMulShift(a, b, n); q != want || err != wantErr {
		t.Errorf("MulShift(%d, %d, %d) = %d, %d, want %d, %d", a, b, n, q, err, want, wantErr)
	}
}

// P1.1

func TestMul(t *testing.T) {
	for _, x := range []struct {
		a, b int64
		high int64
		low  uint64
	}{
		{0, 0, 0, 0},
		{0, -5, 0, 0},
		{least, 0, 0, 0},
		{6, 7, 0, 42},
		{6, -7, -1, 1<<64 - 42},
		{-6, 7, -1, 1<<64 - 42},
		{-6, -7, 0, 42},
		{1 << 32, 1 << 32, 1, 0},
		{-1 << 32, 1 << 32, -1, 0},
		{1 << 62, 4, 1, 0},
		{1 << 62, 2, 0, 1 << 63},
		{least, 1, -1, 1 << 63},
		{least, -1, 0, 1 << 63},
		{least, least, 1 << 62, 0},
		{least, most, -1 << 62, 1 << 63},
		{most, most, 1<<62 - 1, 1},
	} {
		if h, l := Mul(x.a, x.b); h != x.high || l != x.low {
			t.Errorf("Mul(%d, %d) = %d, %d, want %d, %d", x.a, x.b, h, l, x.high, x.low)
		}
	}
}

func TestMulIsTheExactProduct(t *testing.T) {
	for _, a := range edges() {
		for _, b := range edges() {
			checkMul(t, a, b)
		}
	}
	l, m := scattered(20000, 1), scattered(20000, 2)
	for i := range l {
		checkMul(t, l[i], m[i])
	}
}

// P1.2

func TestMulDiv(t *testing.T) {
	for _, x := range []struct {
		a, b, c int64
		q       int64
		err     api.Errno
	}{
		{7, 5, 2, 17, api.OK},
		{7, 5, -2, -18, api.OK},
		{7, -5, 2, -18, api.OK},
		{-7, 5, 2, -18, api.OK},
		{-7, -5, 2, 17, api.OK},
		{-7, -5, -2, -18, api.OK},
		{6, 5, -2, -15, api.OK},
		{1, 1, 3, 0, api.OK},
		{-1, 1, 3, -1, api.OK},
		{0, -5, 3, 0, api.OK},
		{0, 5, -3, 0, api.OK},
		{0, least, least, 0, api.OK},
		{1, 1, least, -1, api.OK},
		{-1, 1, least, 0, api.OK},
		{1 << 62, 1 << 62, 1 << 62, 1 << 62, api.OK},
		{least, least, least, least, api.OK},
		{most, most, most, most, api.OK},
		{most, least, most, least, api.OK},
		{least, most, least, most, api.OK},
	} {
		if q, err := MulDiv(x.a, x.b, x.c); q != x.q || err != x.err {
			t.Errorf("MulDiv(%d, %d, %d) = %d, %d, want %d, %d", x.a, x.b, x.c, q, err, x.q, x.err)
		}
	}
}

func TestMulDivByZero(t *testing.T) {
	for _, a := range edges() {
		for _, b := range edges() {
			if q, err := MulDiv(a, b, 0); q != 0 || err != api.ErrZero {
				t.Errorf("MulDiv(%d, %d, 0) = %d, %d, want 0, ErrZero", a, b, q, err)
			}
		}
	}
}

func TestMulDivOutOfRange(t *testing.T) {
	for _, x := range []struct {
		a, b, c int64
		q       int64
		err     api.Errno
	}{
		// The greatest and the least results, and the next ones.
		{most, 1, 1, most, api.OK},
		{1 << 62, 2, 1, 0, api.ErrRange},
		{1 << 62, -2, 1, least, api.OK},
		{least, 1, -1, 0, api.ErrRange},
		{least, -1, 1, 0, api.ErrRange},
		{least, 1, 1, least, api.OK},
		// The floor decides, and not the fraction: 2^63 - 1/2, -2^63 + 1/2 and -2^63 - 1/2.
		{6148914691236517205, 3, 2, most, api.OK},
		{6148914691236517205, -3, 2, least, api.OK},
		{6148914691236517205, 3, -2, least, api.OK},
		{67280421310721, -274177, 2, 0, api.ErrRange},
		{67280421310721, 274177, -2, 0, api.ErrRange},
		// Magnitudes of 2^64 - 1, 2^64 and more.
		{most, 4, 2, 0, api.ErrRange},
		{most, 4, -2, 0, api.ErrRange},
		{1 << 62, 4, 1, 0, api.ErrRange},
		{1 << 62, -4, 1, 0, api.ErrRange},
		{least, least, 1, 0, api.ErrRange},
		{least, least, -1, 0, api.ErrRange},
		{least, most, 1, 0, api.ErrRange},
	} {
		if q, err := MulDiv(x.a, x.b, x.c); q != x.q || err != x.err {
			t.Errorf("MulDiv(%d, %d, %d) = %d, %d, want %d, %d", x.a, x.b, x.c, q, err, x.q, x.err)
		}
	}
}

// The magnitude of the floor of -2^64 + 1/2 does not fit in 64 bits, although the one of the quotient without its rest does.
func TestMulDivRoundsPast64Bits(t *testing.T) {
	for _, x := range [][3]int64{
		{145295143558111, -253921, 2},
		{-145295143558111, 253921, 2},
		{145295143558111, 253921, -2},
		{-145295143558111, -253921, -2},
	} {
		if q, err := MulDiv(x[0], x[1], x[2]); q != 0 || err != api.ErrRange {
			t.Errorf("MulDiv(%d, %d, %d) = %d, %d, want 0, ErrRange", x[0], x[1], x[2], q, err)
		}
	}
}

func TestMulDivIsTheFloor(t *testing.T) {
	for _, a := range edges() {
		for _, b := range edges() {
			for _, c := range edges() {
				checkMulDiv(t, a, b, c)
			}
		}
	}
	k, l, m := scattered(20000, 3), scattered(20000, 4), scattered(20000, 5)
	for i := range k {
		checkMulDiv(t, k[i], l[i], m[i])
	}
}

// P1.3

func TestMulShift(t *testing.T) {
	for _, x := range []struct {
		a, b int64
		n    int
		q    int64
		err  api.Errno
	}{
		{3, 5, 0, 15, api.OK},
		{3, -5, 0, -15, api.OK},
		{3, 5, 1, 7, api.OK},
		{-3, 5, 1, -8, api.OK},
		{3, -5, 1, -8, api.OK},
		{-3, -5, 1, 7, api.OK},
		{-4, 5, 1, -10, api.OK},
		{0, least, 63, 0, api.OK},
		{1, 1, 63, 0, api.OK},
		{-1, 1, 63, -1, api.OK},
		{1 << 40, 1 << 38, 16, 1 << 62, api.OK},
		{1 << 40, -1 << 38, 16, -1 << 62, api.OK},
		{most, most, 63, most - 1, api.OK},
		{least, most, 63, -most, api.OK},
		{least, 1, 63, -1, api.OK},
		{least, -1, 63, 1, api.OK},
	} {
		if q, err := MulShift(x.a, x.b, x.n); q != x.q || err != x.err {
			t.Errorf("MulShift(%d, %d, %d) = %d, %d, want %d, %d", x.a, x.b, x.n, q, err, x.q, x.err)
		}
	}
}

func TestMulShiftByInvalidCount(t *testing.T) {
	for _, n := range []int{-1, -2, -63, -64, math.MinInt, 64, 65, 127, 128, math.MaxInt} {
		// A product that is out of range for each shift does not change the error: ErrArg is the first one.
		for _, a := range []int64{0, 1, -1, most, least} {
			if q, err := MulShift(a, least, n); q != 0 || err != api.ErrArg {
				t.Errorf("MulShift(%d, %d, %d) = %d, %d, want 0, ErrArg", a, int64(least), n, q, err)
			}
		}
	}
}

func TestMulShiftOutOfRange(t *testing.T) {
	for _, x := range []struct {
		a, b int64
		n    int
		q    int64
		err  api.Errno
	}{
		// The greatest and the least results, and the next ones.
		{most, 1, 0, most, api.OK},
		{1 << 62, 2, 0, 0, api.ErrRange},
		{least, 1, 0, least, api.OK},
		{least, -1, 0, 0, api.ErrRange},
		{most, 2, 0, 0, api.ErrRange},
		{most, 2, 1, most, api.OK},
		{least, 2, 1, least, api.OK},
		{1 << 40, 1 << 39, 16, 0, api.ErrRange},
		{1 << 40, -1 << 39, 16, least, api.OK},
		{least, least, 63, 0, api.ErrRange},
		// The floor decides, and not the fraction: 2^63 - 1/2, -2^63 + 1/2 and -2^63 - 1/2.
		{6148914691236517205, 3, 1, most, api.OK},
		{6148914691236517205, -3, 1, least, api.OK},
		{67280421310721, -274177, 1, 0, api.ErrRange},
		// Magnitudes of 2^64 and more.
		{1 << 40, 1 << 40, 16, 0, api.ErrRange},
		{1 << 40, -1 << 40, 16, 0, api.ErrRange},
		{least, least, 0, 0, api.ErrRange},
		{least, most, 62, 0, api.ErrRange},
	} {
		if q, err := MulShift(x.a, x.b, x.n); q != x.q || err != x.err {
			t.Errorf("MulShift(%d, %d, %d) = %d, %d, want %d, %d", x.a, x.b, x.n, q, err, x.q, x.err)
		}
	}
}

func TestMulShiftIsTheFloor(t *testing.T) {
	for n := -2; n < 66; n++ {
		for _, a := range edges() {
			for _, b := range edges() {
				checkMulShift(t, a, b, n)
			}
		}
	}
	l, m := scattered(20000, 6), scattered(20000, 7)
	for i := range l {
		checkMulShift(t, l[i], m[i], i%64)
	}
}

// P1.4

func TestLess(t *testing.T) {
	for _, x := range []struct {
		ah   int64
		al   uint64
		bh   int64
		bl   uint64
		less bool
	}{
		{0, 0, 0, 0, false},
		{5, 5, 5, 5, false},
		{-5, 5, -5, 5, false},
		{0, 1, 0, 2, true},
		{0, 2, 0, 1, false},
		{1, 0, 2, 0, true},
		{1, 9, 2, 0, true},
		{2, 0, 1, 9, false},
		{-1, 9, 0, 0, true},
		{0, 0, -1, 9, false},
		{-1, math.MaxUint64, 0, 0, true},
		{0, 0, -1, math.MaxUint64, false},
		// The low halves have no sign, even where the high ones are negative.
		{2, 1, 2, 1 << 63, true},
		{2, 1 << 63, 2, 1, false},
		{-2, 1, -2, 1 << 63, true},
		{-2, 1 << 63, -2, 1, false},
		{least, 0, most, math.MaxUint64, true},
		{most, math.MaxUint64, least, 0, false},
		{most, math.MaxUint64, most, math.MaxUint64, false},
	} {
		if less := Less(x.ah, x.al, x.bh, x.bl); less != x.less {
			t.Errorf("Less(%d, %d, %d, %d) = %v", x.ah, x.al, x.bh, x.bl, less)
		}
	}
}

func TestLessComparesAllBits(t *testing.T) {
	highs := []int64{least, least + 1, -2, -1, 0, 1, 2, most - 1, most}
	lows := []uint64{0, 1, 2, 1<<63 - 1, 1 << 63, 1<<63 + 1, math.MaxUint64 - 1, math.MaxUint64}
	for _, ah := range highs {
		for _, al := range lows {
			for _, bh := range highs {
				for _, bl := range lows {
					want := number(ah, al).Cmp(number(bh, bl)) < 0
					if less := Less(ah, al, bh, bl); less != want {
						t.Errorf("Less(%d, %d, %d, %d) = %v", ah, al, bh, bl, less)
					}
				}
			}
		}
	}
}
