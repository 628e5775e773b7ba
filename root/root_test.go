package root

import (
	"math"
	"math/big"
	"testing"

	"billiard/api"
)

const (
	most     = math.MaxUint64
	mostRoot = math.MaxUint32
)

// samples returns the integers around each power of two, around the squares of numbers across the whole range, and with both ends.
func samples() []uint64 {
	l := []uint64{0, most - 1, most}
	for n := range 64 {
		m := uint64(1) << n
		l = append(l, m-1, m, m+1)
	}
	for _, r := range roots() {
		l = append(l, r*r-1, r*r, r*r+1)
	}
	return l
}

// roots returns positive integers below 2^32: those around each power of two, and some across the whole range.
func roots() []uint64 {
	var l []uint64
	for n := 2; n <= 32; n++ {
		m := uint64(1) << n
		l = append(l, m-2, m-1, m/2+1)
	}
	for r := uint64(1); r <= mostRoot; r += 1<<22 - 5 {
		l = append(l, r)
	}
	return append(l, 1, 3037000499, 3037000500, mostRoot)
}

// The model: the integer square root of math/big.

func modelRoot(n uint64) uint64 {
	return new(big.Int).Sqrt(new(big.Int).SetUint64(n)).Uint64()
}

// modelCeil is the root of n - 1, plus 1, since the squares below n are those that are at most n - 1.
func modelCeil(n uint64) uint64 {
	if n == 0 {
		return 0
	}
	return modelRoot(n-1) + 1
}

// P3.1

// edges are integers with their roots, rounded down and up.
var edges = []struct{ n, down, up uint64 }{
	{0, 0, 0},
	{1, 1, 1},
	{2, 1, 2},
	{3, 1, 2},
	{4, 2, 2},
	{5, 2, 3},
	{8, 2, 3},
	{9, 3, 3},
	{10, 3, 4},
	{99, 9, 10},
	{100, 10, 10},
	{101, 10, 11},
	{1<<32 - 1, 1<<16 - 1, 1 << 16},
	{1 << 32, 1 << 16, 1 << 16},
	{1<<32 + 1, 1 << 16, 1<<16 + 1},
	{1<<53 + 1, 94906265, 94906266},
	{1<<62 - 1, 1<<31 - 1, 1 << 31},
	{1 << 62, 1 << 31, 1 << 31},
	{1<<62 + 1, 1 << 31, 1<<31 + 1},
	{1<<63 - 1, 3037000499, 3037000500},
	{1 << 63, 3037000499, 3037000500},
	{mostRoot*mostRoot - 1, mostRoot - 1, mostRoot},
	{mostRoot * mostRoot, mostRoot, mostRoot},
	{mostRoot*mostRoot + 1, mostRoot, 1 << 32},
	{most - 1, mostRoot, 1 << 32},
	{most, mostRoot, 1 << 32},
}

func TestIsqrt(t *testing.T) {
	for _, x := range edges {
		if got := Isqrt(x.n); got != x.down {
			t.Errorf("Isqrt(%d) = %d, want %d", x.n, got, x.down)
		}
	}
}

func TestCeil(t *testing.T) {
	for _, x := range edges {
		if got := Ceil(x.n); got != x.up {
			t.Errorf("Ceil(%d) = %d, want %d", x.n, got, x.up)
		}
	}
}

// TestSquares follows the definition: all integers between two squares have the same roots.
func TestSquares(t *testing.T) {
	for r := uint64(1); r <= 300; r++ {
		if got := Isqrt(r * r); got != r {
			t.Fatalf("Isqrt(%d) = %d, want %d", r*r, got, r)
		}
		for n := (r-1)*(r-1) + 1; n <= r*r; n++ {
			if got := Ceil(n); got != r {
				t.Fatalf("Ceil(%d) = %d, want %d", n, got, r)
			}
			if got := Isqrt(n - 1); got != r-1 {
				t.Fatalf("Isqrt(%d) = %d, want %d", n-1, got, r-1)
			}
		}
	}
}

func TestIsqrtModel(t *testing.T) {
	for _, n := range samples() {
		if got, want := Isqrt(n), modelRoot(n); got != want {
			t.Fatalf("Isqrt(%d) = %d, want %d", n, got, want)
		}
	}
}

func TestCeilModel(t *testing.T) {
	for _, n := range samples() {
		if got, want := Ceil(n), modelCeil(n); got != want {
			t.Fatalf("Ceil(%d) = %d, want %d", n, got, want)
		}
	}
}

// P3.2

func TestSqrt(t *testing.T) {
	for _, x := range []struct {
		a, want int32
		err     api.Errno
	}{
		{0, 0, api.OK},
		{1, 256, api.OK},
		{2, 362, api.OK},
		{3, 443, api.OK},
		{4, 512, api.OK},
		{api.One - 1, api.One - 1, api.OK},
		{api.One, api.One, api.OK},
		{api.One + 1, api.One, api.OK},
		{2 * api.One, 92681, api.OK},
		{4*api.One - 1, 2*api.One - 1, api.OK},
		{4 * api.One, 2 * api.One, api.OK},
		{9 * api.One, 3 * api.One, api.OK},
		{api.WorldMax, 1 << 23, api.OK},
		{math.MaxInt32, 11863283, api.OK},
		{-1, 0, api.ErrArg},
		{-api.One, 0, api.ErrArg},
		{-4 * api.One, 0, api.ErrArg},
		{math.MinInt32 + 1, 0, api.ErrArg},
		{math.MinInt32, 0, api.ErrArg},
	} {
		if got, err := Sqrt(x.a); got != x.want || err != x.err {
			t.Errorf("Sqrt(%d) = %d, %d, want %d, %d", x.a, got, err, x.want, x.err)
		}
	}
}

func TestSqrtModel(t *testing.T) {
	for n := int64(0); n <= math.MaxInt32; n += 1<<16 - 15 {
		a := int32(n)
		want := int32(modelRoot(uint64(n) * api.One))
		if got, err := Sqrt(a); got != want || err != api.OK {
			t.Fatalf("Sqrt(%d) = %d, %d, want %d, 0", a, got, err, want)
		}
		if got, err := Sqrt(-1 - a); got != 0 || err != api.ErrArg {
			t.Fatalf("Sqrt(%d) = %d, %d, want 0, %d", -1-a, got, err, api.ErrArg)
		}
	}
}
