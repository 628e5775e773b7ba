package fx

import (
	"math"
	"testing"

	"billiard/api"
)

const (
	least = math.MinInt32
	most  = math.MaxInt32
)

// samples returns numbers around each power of two and across the whole range, with both ends.
func samples() []int32 {
	var l []int32
	for n := range 31 {
		m := int32(1) << n
		l = append(l, m-1, m, m+1, -m-1, -m, 1-m)
	}
	for n := int64(least); n <= most; n += 1<<24 - 3 {
		l = append(l, int32(n))
	}
	return append(l, 98304, -98304, least, least+1, most-1, most)
}

// The model: the definitions of the chapter in 64 bits, by division instead of shifts.

func saturated(n int64) int32 {
	if n > most {
		return most
	}
	if n < least {
		return least
	}
	return int32(n)
}

func floor(n, d int64) int64 {
	q := n / d
	if n%d != 0 && (n < 0) != (d < 0) {
		q--
	}
	return q
}

// A pair has two arguments and what the operation returns for them.
type pair struct{ a, b, want int32 }

func checkPairs(t *testing.T, name string, f func(a, b int32) int32, pairs []pair) {
	t.Helper()
	for _, x := range pairs {
		if got := f(x.a, x.b); got != x.want {
			t.Errorf("%s(%d, %d) = %d, want %d", name, x.a, x.b, got, x.want)
		}
	}
}

// checkModel compares f with a model that returns exact integers, for all pairs of samples. It stops at the first difference, since most others follow from the same cause.
func checkModel(t *testing.T, name string, f func(a, b int32) int32, model func(a, b int64) int64) {
	t.Helper()
	for _, a := range samples() {
		for _, b := range samples() {
			if got, want := f(a, b), saturated(model(int64(a), int64(b))); got != want {
				t.Fatalf("%s(%d, %d) = %d, want %d", name, a, b, got, want)
			}
		}
	}
}

// P2.1

func TestSaturate(t *testing.T) {
	for _, x := range []struct {
		n    int64
		want int32
	}{
		{0, 0},
		{7, 7},
		{-7, -7},
		{most - 1, most - 1},
		{most, most},
		{most + 1, most},
		{least + 1, least + 1},
		{least, least},
		{least - 1, least},
		// Numbers whose lower halves would be in range.
		{1 << 32, most},
		{1<<32 + 5, most},
		{-1 << 32, least},
		{-1<<32 + 5, least},
		{math.MaxInt64, most},
		{math.MinInt64, least},
	} {
		if got := Saturate(x.n); got != x.want {
			t.Errorf("Saturate(%d) = %d, want %d", x.n, got, x.want)
		}
	}
}

func TestLimit(t *testing.T) {
	for _, x := range []struct {
		n, limit int64
		want     int64
		changed  bool
	}{
		{5, 9, 5, false},
		{-5, 9, -5, false},
		{8, 9, 8, false},
		{9, 9, 9, false},
		{10, 9, 9, true},
		{-9, 9, -9, false},
		{-10, 9, -9, true},
		{0, 0, 0, false},
		{1, 0, 0, true},
		{-1, 0, 0, true},
		{math.MaxInt64, 0, 0, true},
		{math.MinInt64, 0, 0, true},
		{1 << 40, api.WorldMax, api.WorldMax, true},
		{-1 << 40, api.WorldMax, -api.WorldMax, true},
		{math.MaxInt64, math.MaxInt64, math.MaxInt64, false},
		{-math.MaxInt64, math.MaxInt64, -math.MaxInt64, false},
		{math.MinInt64, math.MaxInt64, -math.MaxInt64, true},
	} {
		if got, changed := Limit(x.n, x.limit); got != x.want || changed != x.changed {
			t.Errorf("Limit(%d, %d) = %d, %v, want %d, %v", x.n, x.limit, got, changed, x.want, x.changed)
		}
	}
}

// P2.2

func TestAdd(t *testing.T) {
	checkPairs(t, "Add", Add, []pair{
		{0, 0, 0},
		{1, 2, 3},
		{-1, 1, 0},
		{98304, -32768, 65536},
		{most, 0, most},
		{most - 1, 1, most},
		{most, 1, most},
		{most, most, most},
		{least, 0, least},
		{least + 1, -1, least},
		{least, -1, least},
		{least, least, least},
		{most, least, -1},
	})
	checkModel(t, "Add", Add, func(a, b int64) int64 { return a + b })
}

func TestSub(t *testing.T) {
	checkPairs(t, "Sub", Sub, []pair{
		{0, 0, 0},
		{1, 2, -1},
		{98304, -32768, 131072},
		{most, -1, most},
		{most, least, most},
		{0, least, most},
		{-1, least, most},
		{-2, least, most - 1},
		{least, 1, least},
		{least, most, least},
		{least, least, 0},
		{most, most, 0},
	})
	checkModel(t, "Sub", Sub, func(a, b int64) int64 { return a - b })
}

func TestNegAndAbs(t *testing.T) {
	for _, x := range []struct{ a, neg, abs int32 }{
		{0, 0, 0},
		{5, -5, 5},
		{-5, 5, 5},
		{65536, -65536, 65536},
		{most, -most, most},
		{-most, most, most},
		{least, most, most},
	} {
		if got := Neg(x.a); got != x.neg {
			t.Errorf("Neg(%d) = %d, want %d", x.a, got, x.neg)
		}
		if got := Abs(x.a); got != x.abs {
			t.Errorf("Abs(%d) = %d, want %d", x.a, got, x.abs)
		}
	}
	for _, a := range samples() {
		neg := saturated(-int64(a))
		if got := Neg(a); got != neg {
			t.Errorf("Neg(%d) = %d, want %d", a, got, neg)
		}
		abs := a
		if a < 0 {
			abs = neg
		}
		if got := Abs(a); got != abs {
			t.Errorf("Abs(%d) = %d, want %d", a, got, abs)
		}
	}
}

func TestMul(t *testing.T) {
	checkPairs(t, "Mul", Mul, []pair{
		{0, least, 0},
		{65536, 65536, 65536},
		{98304, -32768, -49152},
		{-98304, -32768, 49152},
		{65536, most, most},
		{65536, least, least},
		{-65536, most, -most},
		{-65536, least, most},
		// Results that are not integers are rounded down, and not towards 0.
		{1, 1, 0},
		{1, 65535, 0},
		{-1, 1, -1},
		{-1, 65535, -1},
		{-1, 65537, -2},
		{-1, -1, 0},
		{-1, least, 32768},
		// The factors of 2^47 - 1: 2^31 - 1/65536 and its negative are rounded down to the ends.
		{10610063, 13264529, most},
		{10610063, -13264529, least},
		// 2^31 - 2, 2^31, -2^31 and -2^31 - 2, and numbers that are far beyond the ends.
		{131072, 1<<30 - 1, most - 1},
		{131072, 1 << 30, most},
		{131072, -1 << 30, least},
		{131072, -1<<30 - 1, least},
		{most, most, most},
		{least, least, most},
		{most, least, least},
		{least, most, least},
	})
	checkModel(t, "Mul", Mul, func(a, b int64) int64 { return floor(a*b, 65536) })
}

// P2.3

func TestDiv(t *testing.T) {
	checkPairs(t, "Div", quotient(t), []pair{
		{0, 1, 0},
		{0, -5, 0},
		{0, least, 0},
		{65536, 65536, 65536},
		{5, 65536, 5},
		{5, -65536, -5},
		{98304, 32768, 196608},
		{most, 65536, most},
		{least, 65536, least},
		// Results that are not integers are rounded down, and not towards 0.
		{65536, 196608, 21845},
		{-65536, 196608, -21846},
		{65536, -196608, -21846},
		{-65536, -196608, 21845},
		{1, most, 0},
		{-1, most, -1},
		{1, least, -1},
		{-1, least, 0},
		// Both ends: -2^31 is in range, and 2^31 is not.
		{32767, 1, 32767 << 16},
		{32768, 1, most},
		{-32768, 1, least},
		{-32769, 1, least},
		{32768, -1, least},
		{-32768, -1, most},
		{least, -65536, most},
		{most, 1, most},
		{least, 1, least},
		{most, -1, least},
		{least, -1, most},
		{65535, 2, 65535 << 15},
		{65536, 2, most},
		{-65535, 2, -65535 << 15},
		{-65536, 2, least},
		{-65537, 2, least},
	})
	model := func(a, b int64) int64 {
		if b == 0 {
			return 0
		}
		return floor(a*65536, b)
	}
	checkModel(t, "Div", quotient(t), model)
}

// quotient returns Div without its error, which it checks.
func quotient(t *testing.T) func(a, b int32) int32 {
	return func(a, b int32) int32 {
		want := api.OK
		if b == 0 {
			want = api.ErrZero
		}
		q, err := Div(a, b)
		if err != want {
			t.Fatalf("Div(%d, %d): error %d, want %d", a, b, err, want)
		}
		return q
	}
}

func TestDivByZero(t *testing.T) {
	for _, a := range samples() {
		if q, err := Div(a, 0); q != 0 || err != api.ErrZero {
			t.Errorf("Div(%d, 0) = %d, %d, want 0, ErrZero", a, q, err)
		}
	}
}

// P2.4

func TestFromInt(t *testing.T) {
	for _, x := range []struct {
		n    int64
		want int32
	}{
		{0, 0},
		{1, 65536},
		{-1, -65536},
		{32767, 32767 << 16},
		{32768, most},
		{-32768, least},
		{-32769, least},
		{1 << 31, most},
		{-1 << 31, least},
		// Numbers of which a shift by 16 bits would lose the upper ones.
		{1 << 47, most},
		{-1 << 47, least},
		{1 << 48, most},
		{1<<48 + 1, most},
		{-1 << 48, least},
		{-1<<48 + 1, least},
		{math.MaxInt64, most},
		{math.MinInt64, least},
	} {
		if got := FromInt(x.n); got != x.want {
			t.Errorf("FromInt(%d) = %d, want %d", x.n, got, x.want)
		}
	}
	for n := int64(-70000); n <= 70000; n++ {
		if got, want := FromInt(n), saturated(n*65536); got != want {
			t.Fatalf("FromInt(%d) = %d, want %d", n, got, want)
		}
	}
}

func TestFloorAndFrac(t *testing.T) {
	for _, x := range []struct{ a, floor, frac int32 }{
		{0, 0, 0},
		{1, 0, 1},
		{65535, 0, 65535},
		{65536, 1, 0},
		{98304, 1, 32768},
		{-1, -1, 65535},
		{-65535, -1, 1},
		{-65536, -1, 0},
		{-65537, -2, 65535},
		{-98304, -2, 32768},
		{most, 32767, 65535},
		{least, -32768, 0},
		{least + 1, -32768, 1},
	} {
		if got := Floor(x.a); got != x.floor {
			t.Errorf("Floor(%d) = %d, want %d", x.a, got, x.floor)
		}
		if got := Frac(x.a); got != x.frac {
			t.Errorf("Frac(%d) = %d, want %d", x.a, got, x.frac)
		}
	}
	for _, a := range samples() {
		whole := floor(int64(a), 65536)
		if got := Floor(a); int64(got) != whole {
			t.Errorf("Floor(%d) = %d, want %d", a, got, whole)
		}
		if got, want := Frac(a), int64(a)-whole*65536; int64(got) != want {
			t.Errorf("Frac(%d) = %d, want %d", a, got, want)
		}
	}
}
