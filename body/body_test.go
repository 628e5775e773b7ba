package body

import (
	"math"
	"testing"

	"billiard/api"
)

const (
	least = math.MinInt32
	most  = math.MaxInt32
)

func v(x, y int32) api.Vec { return api.Vec{X: x, Y: y} }

// capsule returns a valid body, all parts of which differ from each other and from 0.
func capsule() api.Body {
	return api.Body{Key: 7, Radius: 65536, Axis: v(300, -400), InvMass: 1000, Bounce: 2000, Pos: v(-5000, 6000), Vel: v(70, -80)}
}

// A part is a number of a body, with its limits and the error beyond them. The limits are written out, so that they are checked as well.
type part struct {
	name      string
	set       func(b *api.Body, n int32)
	low, high int32
	err       api.Errno
}

// parts returns all parts that have limits, in the order of their errors.
func parts() []part {
	return []part{
		{"Radius", func(b *api.Body, n int32) { b.Radius = n }, 4096, 4194304, 4},
		{"Axis.X", func(b *api.Body, n int32) { b.Axis.X = n }, -4194304, 4194304, 5},
		{"Axis.Y", func(b *api.Body, n int32) { b.Axis.Y = n }, -4194304, 4194304, 5},
		{"InvMass", func(b *api.Body, n int32) { b.InvMass = n }, 0, 1048576, 6},
		{"Bounce", func(b *api.Body, n int32) { b.Bounce = n }, 0, 65536, 7},
		{"Pos.X", func(b *api.Body, n int32) { b.Pos.X = n }, -1073741824, 1073741824, 8},
		{"Pos.Y", func(b *api.Body, n int32) { b.Pos.Y = n }, -1073741824, 1073741824, 8},
		{"Vel.X", func(b *api.Body, n int32) { b.Vel.X = n }, -16777216, 16777216, 9},
		{"Vel.Y", func(b *api.Body, n int32) { b.Vel.Y = n }, -16777216, 16777216, 9},
	}
}

// P5.1

func checkError(t *testing.T, name string, b api.Body, want api.Errno) {
	t.Helper()
	if got := Check(b); got != want {
		t.Errorf("%s: Check(%+v) = %d, want %d", name, b, got, want)
	}
}

func TestCheckValid(t *testing.T) {
	checkError(t, "capsule", capsule(), api.OK)
	checkError(t, "only a radius", api.Body{Radius: 1 << 16}, api.OK)
	for _, key := range []uint32{0, 1, 1 << 31, 1<<32 - 1} {
		b := capsule()
		b.Key = key
		checkError(t, "key", b, api.OK)
	}
	lows, highs := capsule(), capsule()
	for _, p := range parts() {
		p.set(&lows, p.low)
		p.set(&highs, p.high)
	}
	checkError(t, "all at the lower limits", lows, api.OK)
	checkError(t, "all at the upper limits", highs, api.OK)
}

func TestCheckEachPart(t *testing.T) {
	for _, p := range parts() {
		for _, x := range []struct {
			n    int32
			want api.Errno
		}{
			{p.low, api.OK},
			{p.low + 1, api.OK},
			{p.high - 1, api.OK},
			{p.high, api.OK},
			{p.low - 1, p.err},
			{p.high + 1, p.err},
			{least, p.err},
			{least + 1, p.err},
			{most - 1, p.err},
			{most, p.err},
		} {
			b := capsule()
			p.set(&b, x.n)
			checkError(t, p.name, b, x.want)
		}
	}
}

// TestCheckPowers compares Check with the limits for numbers around all powers of two.
func TestCheckPowers(t *testing.T) {
	for _, p := range parts() {
		for i := range 32 {
			for near := int32(-1); near <= 1; near++ {
				n := int32(uint32(1)<<i) + near
				for _, n := range []int32{n, -n} {
					want := api.OK
					if n < p.low || n > p.high {
						want = p.err
					}
					b := capsule()
					p.set(&b, n)
					checkError(t, p.name, b, want)
				}
			}
		}
	}
}

// TestCheckOrder sets each subset of the parts outside of their limits, below or above them.
func TestCheckOrder(t *testing.T) {
	all := parts()
	for set := range 1 << len(all) {
		below, above := capsule(), capsule()
		want := api.OK
		for i, p := range all {
			if set>>i&1 == 0 {
				continue
			}
			if want == api.OK {
				want = p.err
			}
			p.set(&below, p.low-1)
			p.set(&above, most)
		}
		checkError(t, "below", below, want)
		checkError(t, "above", above, want)
	}
}

func TestCheckExamples(t *testing.T) {
	checkError(t, "zero", api.Body{}, api.ErrRadius)
	checkError(t, "radius and mass", api.Body{InvMass: -1}, api.ErrRadius)
	checkError(t, "mass", api.Body{Radius: 1 << 16, InvMass: -1}, api.ErrMass)
}

// P5.2

func TestIsCircle(t *testing.T) {
	for _, x := range []struct {
		axis api.Vec
		want bool
	}{
		{v(0, 0), true},
		{v(1, 0), false},
		{v(0, 1), false},
		{v(-1, 0), false},
		{v(0, -1), false},
		{v(1, -1), false},
		{v(65536, 0), false},
		{v(0, -65536), false},
		{v(api.AxisMax, 0), false},
		{v(0, -api.AxisMax), false},
		{v(least, 0), false},
		{v(0, least), false},
		{v(least, least), false},
		{v(most, 0), false},
		{v(0, most), false},
	} {
		b := capsule()
		b.Axis = x.axis
		if got := IsCircle(b); got != x.want {
			t.Errorf("IsCircle with the axis %v = %t, want %t", x.axis, got, x.want)
		}
		// Nothing else of the body matters.
		if got := IsCircle(api.Body{Axis: x.axis}); got != x.want {
			t.Errorf("IsCircle with only the axis %v = %t, want %t", x.axis, got, x.want)
		}
	}
}

func TestIsStatic(t *testing.T) {
	for _, x := range []struct {
		mass int32
		want bool
	}{
		{0, true},
		{1, false},
		{-1, false},
		{65536, false},
		{api.MassMax, false},
		{least, false},
		{most, false},
	} {
		b := capsule()
		b.InvMass = x.mass
		if got := IsStatic(b); got != x.want {
			t.Errorf("IsStatic with the inverse mass %d = %t, want %t", x.mass, got, x.want)
		}
		if got := IsStatic(api.Body{InvMass: x.mass}); got != x.want {
			t.Errorf("IsStatic with only the inverse mass %d = %t, want %t", x.mass, got, x.want)
		}
	}
}

// P5.3

func TestEndsAndExtent(t *testing.T) {
	const world, axis = 1073741824, 4194304
	for _, x := range []struct {
		pos, axis     api.Vec
		radius        int32
		first, second api.Vec
		wide, high    int32
	}{
		{v(0, 0), v(0, 0), 65536, v(0, 0), v(0, 0), 65536, 65536},
		{v(5, -7), v(0, 0), 4096, v(5, -7), v(5, -7), 4096, 4096},
		{v(100, 200), v(5, -6), 65536, v(95, 206), v(105, 194), 65541, 65542},
		{v(100, 200), v(-5, 6), 65536, v(105, 194), v(95, 206), 65541, 65542},
		{v(-100, -200), v(300, 400), 4097, v(-400, -600), v(200, 200), 4397, 4497},
		{v(1, 2), v(3, 0), 5000, v(-2, 2), v(4, 2), 5003, 5000},
		{v(1, 2), v(0, -3), 5000, v(1, 5), v(1, -1), 5000, 5003},
		{v(world, world), v(0, 0), 4194304, v(world, world), v(world, world), 4194304, 4194304},
		{v(world, world), v(axis, axis), 4194304, v(world-axis, world-axis), v(world+axis, world+axis), 8388608, 8388608},
		{v(world, -world), v(axis, -axis), 4096, v(world-axis, axis-world), v(world+axis, -world-axis), 4198400, 4198400},
		{v(-world, world), v(axis, -axis), 4194304, v(-world-axis, world+axis), v(axis-world, world-axis), 8388608, 8388608},
		{v(-world, -world), v(-axis, 1), 4194304, v(axis-world, -world-1), v(-world-axis, 1-world), 8388608, 4194305},
	} {
		b := capsule()
		b.Pos, b.Axis, b.Radius = x.pos, x.axis, x.radius
		if got := Check(b); got != api.OK {
			t.Errorf("Check(%+v) = %d, want 0", b, got)
		}
		if first, second := Ends(b); first != x.first || second != x.second {
			t.Errorf("Ends(%+v) = %v, %v, want %v, %v", b, first, second, x.first, x.second)
		}
		if wide, high := Extent(b); wide != x.wide || high != x.high {
			t.Errorf("Extent(%+v) = %d, %d, want %d, %d", b, wide, high, x.wide, x.high)
		}
	}
}

// reaches returns components of an axis, from one limit to the other one.
func reaches() []int32 {
	return []int32{-api.AxisMax, 1 - api.AxisMax, -65536, -1, 0, 1, 2, 65537, api.AxisMax - 1, api.AxisMax}
}

// places returns components of a position, from one limit to the other one.
func places() []int32 {
	return []int32{-api.WorldMax, -65537, -1, 0, 1, 98304, api.WorldMax - 1, api.WorldMax}
}

// size returns the absolute value of n.
func size(n int32) int64 {
	if n < 0 {
		return -int64(n)
	}
	return int64(n)
}

func TestEndsAndExtentModel(t *testing.T) {
	l, m := reaches(), places()
	for i, ax := range l {
		for j, ay := range l {
			for k, px := range m {
				b := capsule()
				b.Axis, b.Pos, b.Radius = v(ax, ay), v(px, m[(i+j+k)%len(m)]), int32(api.RadiusMin+(i*7+j)*50000)
				first, second := Ends(b)
				if int64(first.X) != int64(px)-int64(ax) || int64(first.Y) != int64(b.Pos.Y)-int64(ay) {
					t.Fatalf("Ends(%+v) has the first end %v", b, first)
				}
				if int64(second.X) != int64(px)+int64(ax) || int64(second.Y) != int64(b.Pos.Y)+int64(ay) {
					t.Fatalf("Ends(%+v) has the second end %v", b, second)
				}
				if x, y := Extent(b); int64(x) != size(ax)+int64(b.Radius) || int64(y) != size(ay)+int64(b.Radius) {
					t.Fatalf("Extent(%+v) = %d, %d", b, x, y)
				}
			}
		}
	}
}

// P5.4

func TestMoved(t *testing.T) {
	const world = 1073741824
	for _, x := range []struct{ pos, d, want api.Vec }{
		{v(0, 0), v(0, 0), v(0, 0)},
		{v(100, 200), v(0, 0), v(100, 200)},
		{v(100, 200), v(-100, 5), v(0, 205)},
		{v(-1, 1), v(3, -4), v(2, -3)},
		{v(0, 0), v(least, most), v(least, most)},
		{v(0, 0), v(most, least), v(most, least)},
		// The sums end at the ends of the range of int32.
		{v(world, world), v(most-world, most-world), v(most, most)},
		{v(-world, -world), v(least+world, least+world), v(least, least)},
		{v(world, -world), v(most-world, least+world), v(most, least)},
		{v(-1, 1), v(least+1, most-1), v(least, most)},
		// The position is beyond the world, and the vector longer than all positions.
		{v(-world, world), v(most, least), v(most-world, least+world)},
		{v(world, world), v(1, 2), v(world+1, world+2)},
		{v(world, -world), v(-world, world), v(0, 0)},
		{v(world, -world), v(-2*world, most), v(-world, most-world)},
	} {
		b := capsule()
		b.Pos = x.pos
		before := b
		want := b
		want.Pos = x.want
		if got := Moved(b, x.d); got != want {
			t.Errorf("Moved(%+v, %v) = %+v, want %+v", b, x.d, got, want)
		}
		if b != before {
			t.Errorf("Moved changed %+v to %+v", before, b)
		}
	}
}

func TestMovedModel(t *testing.T) {
	moves := []int32{least, least + 1, -api.WorldMax, -65536, -1, 0, 1, 99999, api.WorldMax - 1, api.WorldMax, most - 1, most}
	for _, px := range places() {
		for _, py := range places() {
			for _, dx := range moves {
				for _, dy := range moves {
					x, y := int64(px)+int64(dx), int64(py)+int64(dy)
					if x < least || x > most || y < least || y > most {
						continue
					}
					b := capsule()
					b.Pos = v(px, py)
					want := b
					want.Pos = v(int32(x), int32(y))
					if got := Moved(b, v(dx, dy)); got != want {
						t.Fatalf("Moved(%+v, %v) = %+v, want %+v", b, v(dx, dy), got, want)
					}
				}
			}
		}
	}
}

// TestBeyond calls the functions with arguments for which only the rule holds that no function panics.
func TestBeyond(t *testing.T) {
	for _, n := range []int32{least, least + 1, most} {
		b := api.Body{Radius: n, Axis: v(n, n), InvMass: n, Bounce: n, Pos: v(n, n), Vel: v(n, n)}
		Ends(b)
		Extent(b)
		Moved(b, v(n, n))
	}
}
