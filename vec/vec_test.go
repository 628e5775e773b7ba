package vec

import (
	"math"
	"math/big"
	"testing"

	"billiard/api"
	"billiard/fx"
)

const (
	least = math.MinInt32
	most  = math.MaxInt32
	// far is the greatest absolute value of a component of a difference.
	far = 1<<31 + 1<<25
)

func v(x, y int32) api.Vec { return api.Vec{X: x, Y: y} }

// numbers returns components around some powers of two and across the whole range, with both ends.
func numbers() []int32 {
	l := []int32{0, 3, -3, 98304, -98304, least, least + 1, most - 1, most}
	for _, n := range []int{0, 1, 15, 16, 22, 30} {
		m := int32(1) << n
		l = append(l, m-1, m, m+1, -m-1, -m, 1-m)
	}
	for n := int64(least); n <= most; n += 1<<29 - 3 {
		l = append(l, int32(n))
	}
	return l
}

// vectors returns vectors of all pairs of some numbers.
func vectors() []api.Vec {
	var l []api.Vec
	n := numbers()
	for i, x := range n {
		for j, y := range n {
			// The numbers are so many that not all pairs of all vectors can be compared with a model.
			if (i+2*j)%7 == 0 || x == least || y == least {
				l = append(l, v(x, y))
			}
		}
	}
	return l
}

// distances returns components of differences: short ones, those around powers of two and across the whole range, with both ends.
func distances() []int64 {
	var l []int64
	for n := int64(-20); n <= 20; n++ {
		l = append(l, n)
	}
	for n := 5; n <= 31; n++ {
		m := int64(1) << n
		l = append(l, m-1, m, m+1, -m-1, -m, 1-m)
	}
	for n := int64(-far); n <= far; n += 1<<26 - 7 {
		l = append(l, n)
	}
	return append(l, far-1, far, -far+1)
}

// The model: exact integers of math/big.

func sumOfProducts(a, b, c, d int64) *big.Int {
	ab := new(big.Int).Mul(big.NewInt(a), big.NewInt(b))
	cd := new(big.Int).Mul(big.NewInt(c), big.NewInt(d))
	return ab.Add(ab, cd)
}

func modelLength(dx, dy int64) int64 {
	n := sumOfProducts(dx, dx, dy, dy)
	return n.Sqrt(n).Int64()
}

// modelRatio uses the Euclidean division of math/big, which rounds down for positive divisors.
func modelRatio(d, length int64) int32 {
	n := new(big.Int).Mul(big.NewInt(d), big.NewInt(65536))
	return int32(n.Div(n, big.NewInt(length)).Int64())
}

func modelUnit(dx, dy int64) api.Vec {
	if dx == 0 && dy == 0 {
		return v(65536, 0)
	}
	length := modelLength(dx, dy)
	return v(modelRatio(dx, length), modelRatio(dy, length))
}

// P4.1

// A pair has two arguments and what the operation returns for them.
type pair struct{ a, b, want api.Vec }

func checkPairs(t *testing.T, name string, f func(a, b api.Vec) api.Vec, pairs []pair) {
	t.Helper()
	for _, x := range pairs {
		if got := f(x.a, x.b); got != x.want {
			t.Errorf("%s(%v, %v) = %v, want %v", name, x.a, x.b, got, x.want)
		}
	}
}

// checkComponents compares f with the function of layer 2 on each component.
func checkComponents(t *testing.T, name string, f func(a, b api.Vec) api.Vec, layer2 func(a, b int32) int32) {
	t.Helper()
	l := vectors()
	for _, a := range l {
		for _, b := range l {
			if got, want := f(a, b), v(layer2(a.X, b.X), layer2(a.Y, b.Y)); got != want {
				t.Fatalf("%s(%v, %v) = %v, want %v", name, a, b, got, want)
			}
		}
	}
}

func TestAdd(t *testing.T) {
	checkPairs(t, "Add", Add, []pair{
		{v(0, 0), v(0, 0), v(0, 0)},
		{v(1, 2), v(30, 40), v(31, 42)},
		{v(1, -2), v(-30, 40), v(-29, 38)},
		{v(most, 5), v(1, 6), v(most, 11)},
		{v(5, most), v(6, 1), v(11, most)},
		{v(least, most), v(-1, 1), v(least, most)},
		{v(least, most), v(most, least), v(-1, -1)},
	})
	checkComponents(t, "Add", Add, fx.Add)
}

func TestSub(t *testing.T) {
	checkPairs(t, "Sub", Sub, []pair{
		{v(0, 0), v(0, 0), v(0, 0)},
		{v(1, 2), v(30, 50), v(-29, -48)},
		{v(least, 5), v(1, 6), v(least, -1)},
		{v(5, least), v(6, 1), v(-1, least)},
		{v(0, 0), v(least, most), v(most, -most)},
		{v(most, least), v(most, least), v(0, 0)},
	})
	checkComponents(t, "Sub", Sub, fx.Sub)
}

func TestNegAndPerp(t *testing.T) {
	for _, x := range []struct{ a, neg, perp api.Vec }{
		{v(0, 0), v(0, 0), v(0, 0)},
		{v(3, 4), v(-3, -4), v(-4, 3)},
		{v(-3, 4), v(3, -4), v(-4, -3)},
		{v(3, -4), v(-3, 4), v(4, 3)},
		{v(most, most), v(-most, -most), v(-most, most)},
		{v(least, 5), v(most, -5), v(-5, least)},
		{v(5, least), v(-5, most), v(most, 5)},
		{v(least, least), v(most, most), v(most, least)},
	} {
		if got := Neg(x.a); got != x.neg {
			t.Errorf("Neg(%v) = %v, want %v", x.a, got, x.neg)
		}
		if got := Perp(x.a); got != x.perp {
			t.Errorf("Perp(%v) = %v, want %v", x.a, got, x.perp)
		}
	}
	for _, a := range vectors() {
		if got, want := Neg(a), v(fx.Neg(a.X), fx.Neg(a.Y)); got != want {
			t.Fatalf("Neg(%v) = %v, want %v", a, got, want)
		}
		if got, want := Perp(a), v(fx.Neg(a.Y), a.X); got != want {
			t.Fatalf("Perp(%v) = %v, want %v", a, got, want)
		}
	}
}

func TestScale(t *testing.T) {
	for _, x := range []struct {
		a    api.Vec
		k    int32
		want api.Vec
	}{
		{v(3, -4), 0, v(0, 0)},
		{v(3, -4), 65536, v(3, -4)},
		{v(3, -4), -65536, v(-3, 4)},
		{v(98304, -98304), 131072, v(196608, -196608)},
		// Products that are not integers are rounded down, and not towards 0.
		{v(1, -1), 32768, v(0, -1)},
		{v(1, -1), -32768, v(-1, 0)},
		{v(65536, -1), 32768, v(32768, -1)},
		{v(most, least), 65536, v(most, least)},
		{v(most, least), 65537, v(most, least)},
		{v(most, least), -65536, v(-most, most)},
		{v(least, most), most, v(least, most)},
		{v(least, most), least, v(most, least)},
	} {
		if got := Scale(x.a, x.k); got != x.want {
			t.Errorf("Scale(%v, %d) = %v, want %v", x.a, x.k, got, x.want)
		}
	}
	for _, a := range vectors() {
		for _, k := range numbers() {
			if got, want := Scale(a, k), v(fx.Mul(a.X, k), fx.Mul(a.Y, k)); got != want {
				t.Fatalf("Scale(%v, %d) = %v, want %v", a, k, got, want)
			}
		}
	}
}

// P4.2

func TestDotAndCross(t *testing.T) {
	for _, x := range []struct {
		a, b       api.Vec
		dot, cross int64
	}{
		{v(0, 0), v(0, 0), 0, 0},
		{v(1, 0), v(0, 1), 0, 1},
		{v(0, 1), v(1, 0), 0, -1},
		{v(1, 2), v(30, 40), 110, -20},
		{v(3, -4), v(5, 6), -9, 38},
		{v(65536, 0), v(65536, 65536), 1 << 32, 1 << 32},
		{v(most, most), v(most, most), 2 * most * most, 0},
		{v(most, most), v(-most, -most), -2 * most * most, 0},
		{v(most, -most), v(most, most), 0, 2 * most * most},
		{v(most, most), v(most, -most), 0, -2 * most * most},
		{v(most, most-1), v(most, most), most * (2*most - 1), most},
	} {
		if got := Dot(x.a, x.b); got != x.dot {
			t.Errorf("Dot(%v, %v) = %d, want %d", x.a, x.b, got, x.dot)
		}
		if got := Cross(x.a, x.b); got != x.cross {
			t.Errorf("Cross(%v, %v) = %d, want %d", x.a, x.b, got, x.cross)
		}
	}
}

func TestDotAndCrossModel(t *testing.T) {
	for _, a := range vectors() {
		for _, b := range vectors() {
			if a.X == least || a.Y == least || b.X == least || b.Y == least {
				continue
			}
			ax, ay, bx, by := int64(a.X), int64(a.Y), int64(b.X), int64(b.Y)
			if got, want := Dot(a, b), sumOfProducts(ax, bx, ay, by); want.Cmp(big.NewInt(got)) != 0 {
				t.Fatalf("Dot(%v, %v) = %d, want %v", a, b, got, want)
			}
			if got, want := Cross(a, b), sumOfProducts(ax, by, -ay, bx); want.Cmp(big.NewInt(got)) != 0 {
				t.Fatalf("Cross(%v, %v) = %d, want %v", a, b, got, want)
			}
		}
	}
}

func TestDiff(t *testing.T) {
	for _, x := range []struct {
		a, b   api.Vec
		dx, dy int64
	}{
		{v(0, 0), v(0, 0), 0, 0},
		{v(1, 2), v(30, 50), 29, 48},
		{v(30, 2), v(1, -50), -29, -52},
		{v(5, least), v(3, most), -2, 1<<32 - 1},
		{v(least, 5), v(most, 3), 1<<32 - 1, -2},
		{v(most, most), v(least, least), 1 - 1<<32, 1 - 1<<32},
		{v(least, most), v(least, most), 0, 0},
		{v(-api.WorldMax, api.WorldMax), v(api.WorldMax, -api.WorldMax), 1 << 31, -1 << 31},
	} {
		if dx, dy := Diff(x.a, x.b); dx != x.dx || dy != x.dy {
			t.Errorf("Diff(%v, %v) = %d, %d, want %d, %d", x.a, x.b, dx, dy, x.dx, x.dy)
		}
	}
	for _, a := range vectors() {
		for _, b := range vectors() {
			wantX, wantY := int64(b.X)-int64(a.X), int64(b.Y)-int64(a.Y)
			if dx, dy := Diff(a, b); dx != wantX || dy != wantY {
				t.Fatalf("Diff(%v, %v) = %d, %d, want %d, %d", a, b, dx, dy, wantX, wantY)
			}
		}
	}
}

// P4.3 and P4.4

// edges are differences with the squares of their lengths, their lengths and their unit vectors.
var edges = []struct {
	dx, dy int64
	sq     uint64
	length int64
	unit   api.Vec
}{
	{0, 0, 0, 0, v(65536, 0)},
	{1, 0, 1, 1, v(65536, 0)},
	{-1, 0, 1, 1, v(-65536, 0)},
	{0, 1, 1, 1, v(0, 65536)},
	{0, -7, 49, 7, v(0, -65536)},
	// Short differences, whose unit vectors are longer than 1.
	{1, 1, 2, 1, v(65536, 65536)},
	{1, -1, 2, 1, v(65536, -65536)},
	{-1, 1, 2, 1, v(-65536, 65536)},
	{-1, -1, 2, 1, v(-65536, -65536)},
	{-1, 2, 5, 2, v(-32768, 65536)},
	{2, 2, 8, 2, v(65536, 65536)},
	// Quotients that are not integers are rounded down, and not towards 0.
	{3, 4, 25, 5, v(39321, 52428)},
	{-3, 4, 25, 5, v(-39322, 52428)},
	{3, -4, 25, 5, v(39321, -52429)},
	{-3, -4, 25, 5, v(-39322, -52429)},
	{4, 3, 25, 5, v(52428, 39321)},
	{1000, 2000, 5000000, 2236, v(29309, 58618)},
	{-1000, -2000, 5000000, 2236, v(-29310, -58619)},
	{1, far, far*far + 1, far, v(0, 65536)},
	{-1, far, far*far + 1, far, v(-1, 65536)},
	{far, -1, far*far + 1, far, v(65536, -1)},
	{far, 0, far * far, far, v(65536, 0)},
	{-far, 0, far * far, far, v(-65536, 0)},
	{0, far, far * far, far, v(0, 65536)},
	{0, -far, far * far, far, v(0, -65536)},
	{far, far, 2 * far * far, 3084453632, v(46340, 46340)},
	{-far, far, 2 * far * far, 3084453632, v(-46341, 46340)},
	{far, -far, 2 * far * far, 3084453632, v(46340, -46341)},
	{-far, -far, 2 * far * far, 3084453632, v(-46341, -46341)},
	{1 << 31, 1 << 31, 1 << 63, 3037000499, v(46340, 46340)},
}

func TestLengthAndUnit(t *testing.T) {
	for _, x := range edges {
		if got := LengthSq(x.dx, x.dy); got != x.sq {
			t.Errorf("LengthSq(%d, %d) = %d, want %d", x.dx, x.dy, got, x.sq)
		}
		if got := Length(x.dx, x.dy); got != x.length {
			t.Errorf("Length(%d, %d) = %d, want %d", x.dx, x.dy, got, x.length)
		}
		if got := Unit(x.dx, x.dy); got != x.unit {
			t.Errorf("Unit(%d, %d) = %v, want %v", x.dx, x.dy, got, x.unit)
		}
	}
}

func TestLengthModel(t *testing.T) {
	for _, dx := range distances() {
		for _, dy := range distances() {
			sq := LengthSq(dx, dy)
			if want := sumOfProducts(dx, dx, dy, dy); want.Cmp(new(big.Int).SetUint64(sq)) != 0 {
				t.Fatalf("LengthSq(%d, %d) = %d, want %v", dx, dy, sq, want)
			}
			length := Length(dx, dy)
			if want := modelLength(dx, dy); length != want {
				t.Fatalf("Length(%d, %d) = %d, want %d", dx, dy, length, want)
			}
			if uint64(length)*uint64(length) > sq {
				t.Fatalf("The square of Length(%d, %d) = %d is more than %d", dx, dy, length, sq)
			}
		}
	}
}

func TestUnitModel(t *testing.T) {
	for _, dx := range distances() {
		for _, dy := range distances() {
			u := Unit(dx, dy)
			if want := modelUnit(dx, dy); u != want {
				t.Fatalf("Unit(%d, %d) = %v, want %v", dx, dy, u, want)
			}
			if max(u.X, u.Y) > 65536 || min(u.X, u.Y) < -65536 {
				t.Fatalf("Unit(%d, %d) = %v has a component beyond 65536", dx, dy, u)
			}
		}
	}
}

// TestBeyond calls the functions with arguments for which only the rule holds that no function panics: the squares of some of them have 64 bits that are all 0.
func TestBeyond(t *testing.T) {
	beyond := []int64{0, 1, far + 1, 1 << 32, -1 << 32, 1 << 40, math.MaxInt64, math.MinInt64}
	for _, dx := range beyond {
		for _, dy := range beyond {
			LengthSq(dx, dy)
			Length(dx, dy)
			Unit(dx, dy)
		}
	}
	Dot(v(least, least), v(least, least))
	Cross(v(least, least), v(least, most))
}
