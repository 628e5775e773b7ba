package box

import (
	"math"
	"testing"

	"billiard/api"
)

const (
	least = math.MinInt32
	most  = math.MaxInt32
)

// The limits of bodies are written out, so that they are checked as well.
const (
	radiusMin = 4096
	radiusMax = 4194304
	axisMax   = 4194304
	worldMax  = 1073741824
)

func v(x, y int32) api.Vec { return api.Vec{X: x, Y: y} }

// to returns the box from one corner to another one.
func to(minX, minY, maxX, maxY int32) Box {
	return Box{MinX: minX, MinY: minY, MaxX: maxX, MaxY: maxY}
}

// none is the empty box that Union and Meet return.
var none = Box{MinX: 1, MinY: 0, MaxX: 0, MaxY: 0}

// solid returns a valid body with the parts that matter for its box, and with others that are not zero.
func solid(radius int32, axis, pos api.Vec) api.Body {
	return api.Body{Key: 7, Radius: radius, Axis: axis, InvMass: 1000, Bounce: 2000, Pos: pos, Vel: v(7000000, -8000000)}
}

// P8.1

func checkOf(t *testing.T, b api.Body, want Box) {
	t.Helper()
	if got := Of(b); got != want {
		t.Errorf("Of(%+v) = %+v, want %+v", b, got, want)
	}
}

func TestOf(t *testing.T) {
	for _, x := range []struct {
		radius    int32
		axis, pos api.Vec
		want      Box
	}{
		// Circles.
		{65536, v(0, 0), v(0, 0), to(-65536, -65536, 65536, 65536)},
		{65536, v(0, 0), v(100, -200), to(-65436, -65736, 65636, 65336)},
		{radiusMin, v(0, 0), v(5, 7), to(-4091, -4089, 4101, 4103)},
		{radiusMax, v(0, 0), v(-5, -7), to(-4194309, -4194311, 4194299, 4194297)},
		// Capsules with axes of all signs.
		{5000, v(300, 400), v(10, 20), to(-5290, -5380, 5310, 5420)},
		{5000, v(-300, 400), v(10, 20), to(-5290, -5380, 5310, 5420)},
		{5000, v(300, -400), v(10, 20), to(-5290, -5380, 5310, 5420)},
		{5000, v(-300, -400), v(10, 20), to(-5290, -5380, 5310, 5420)},
		{5000, v(300, 0), v(10, 20), to(-5290, -4980, 5310, 5020)},
		{5000, v(-300, 0), v(10, 20), to(-5290, -4980, 5310, 5020)},
		{5000, v(0, 400), v(10, 20), to(-4990, -5380, 5010, 5420)},
		{5000, v(0, -400), v(10, 20), to(-4990, -5380, 5010, 5420)},
		// The limits of the axis, with both limits of the radius.
		{radiusMin, v(axisMax, 1), v(0, 0), to(-4198400, -4097, 4198400, 4097)},
		{radiusMin, v(-1, -axisMax), v(0, 0), to(-4097, -4198400, 4097, 4198400)},
		{radiusMax, v(-axisMax, axisMax), v(0, 0), to(-8388608, -8388608, 8388608, 8388608)},
		// The limits of the position.
		{radiusMin, v(0, 0), v(worldMax, worldMax), to(1073737728, 1073737728, 1073745920, 1073745920)},
		{radiusMin, v(0, 0), v(-worldMax, -worldMax), to(-1073745920, -1073745920, -1073737728, -1073737728)},
		{radiusMax, v(axisMax, -axisMax), v(worldMax, -worldMax), to(1065353216, -1082130432, 1082130432, -1065353216)},
		{radiusMax, v(axisMax, axisMax), v(-worldMax, worldMax), to(-1082130432, 1065353216, -1065353216, 1082130432)},
	} {
		checkOf(t, solid(x.radius, x.axis, x.pos), x.want)
		// Nothing else of the body matters.
		checkOf(t, api.Body{Radius: x.radius, Axis: x.axis, Pos: x.pos}, x.want)
	}
}

// size returns the absolute value of n.
func size(n int32) int64 {
	if n < 0 {
		return -int64(n)
	}
	return int64(n)
}

// checkReach expects a side of a box to reach from pos minus the axis and the radius to pos plus both.
func checkReach(t *testing.T, b api.Body, low, high, pos, axis int32) {
	t.Helper()
	reach := size(axis) + int64(b.Radius)
	if int64(low) != int64(pos)-reach || int64(high) != int64(pos)+reach {
		t.Fatalf("Of(%+v) reaches from %d to %d", b, low, high)
	}
}

// TestOfModel combines all components of positions and axes at and near their limits.
func TestOfModel(t *testing.T) {
	places := []int32{-worldMax, 1 - worldMax, -1, 0, 1, 98304, worldMax - 1, worldMax}
	axes := []int32{-axisMax, 1 - axisMax, -65537, -1, 0, 1, 300, axisMax - 1, axisMax}
	for _, radius := range []int32{radiusMin, radiusMin + 1, 65536, radiusMax - 1, radiusMax} {
		for _, px := range places {
			for _, py := range places {
				for _, ax := range axes {
					for _, ay := range axes {
						b := solid(radius, v(ax, ay), v(px, py))
						got := Of(b)
						checkReach(t, b, got.MinX, got.MaxX, px, ax)
						checkReach(t, b, got.MinY, got.MaxY, py, ay)
					}
				}
			}
		}
	}
}

func TestExample(t *testing.T) {
	a := Of(api.Body{Radius: 4096})
	if want := to(-4096, -4096, 4096, 4096); a != want {
		t.Errorf("the box is %+v, want %+v", a, want)
	}
	checkContains(t, a, v(4096, -4096), true)
}

// P8.2

func TestEmpty(t *testing.T) {
	for _, x := range []struct {
		a    Box
		want bool
	}{
		{to(1, 2, 5, 9), false},
		{to(-5, -9, -1, -2), false},
		{Box{}, false},
		// A point, and lines.
		{to(3, 4, 3, 4), false},
		{to(3, 4, 8, 4), false},
		{to(3, 4, 3, 8), false},
		{to(least, least, least, least), false},
		{to(most, most, most, most), false},
		{to(least, most, most, most), false},
		{to(least, least, most, most), false},
		// Empty in one direction, by one unit and by more.
		{none, true},
		{to(4, 4, 3, 4), true},
		{to(3, 5, 3, 4), true},
		{to(8, 1, 2, 9), true},
		{to(1, 8, 9, 2), true},
		{to(most, least, least, most), true},
		{to(least, most, most, least), true},
		{to(least+1, 0, least, 0), true},
		{to(0, most, 0, most-1), true},
		// The difference of the components has no room in an int32.
		{to(most, 0, least, 0), true},
		{to(0, most, 0, least), true},
		// Empty in both directions.
		{to(1, 1, 0, 0), true},
		{to(8, 9, 1, 2), true},
		{to(most, most, least, least), true},
	} {
		if got := Empty(x.a); got != x.want {
			t.Errorf("Empty(%+v) = %t, want %t", x.a, got, x.want)
		}
	}
}

func checkContains(t *testing.T, a Box, p api.Vec, want bool) {
	t.Helper()
	if got := Contains(a, p); got != want {
		t.Errorf("Contains(%+v, %v) = %t, want %t", a, p, got, want)
	}
}

// A spot is a component of a point, which is within a side of a box or not.
type spot struct {
	at     int32
	within bool
}

// spots returns components at both ends of a side that is not empty, one unit within and outside of them, and in the middle.
func spots(low, high int32) []spot {
	l := []spot{{low, true}, {high, true}, {int32((int64(low) + int64(high)) >> 1), true}}
	if low < high {
		l = append(l, spot{low + 1, true}, spot{high - 1, true})
	}
	if low > least {
		l = append(l, spot{low - 1, false}, spot{least, false})
	}
	if high < most {
		l = append(l, spot{high + 1, false}, spot{most, false})
	}
	return l
}

// TestContains looks at points within, on each edge and corner, and outside of each.
func TestContains(t *testing.T) {
	for _, a := range []Box{
		to(0, 0, 5, 9),
		to(-7, 100, -3, 250),
		to(3, 4, 3, 4),
		to(-8, 4, 8, 4),
		to(3, -8, 3, 8),
		{},
		to(least, least, most, most),
		to(least, least, least, least),
		to(most, most, most, most),
		to(least, -5, -10, most),
		to(10, least, most, 5),
		to(least+1, least+1, most-1, most-1),
	} {
		for _, x := range spots(a.MinX, a.MaxX) {
			for _, y := range spots(a.MinY, a.MaxY) {
				checkContains(t, a, v(x.at, y.at), x.within && y.within)
			}
		}
	}
}

// TestEmptyContainsNothing looks at points within the edges of empty boxes, on and beside them.
func TestEmptyContainsNothing(t *testing.T) {
	for _, a := range []Box{
		none,
		to(6, 0, 3, 9),
		to(0, 6, 9, 3),
		to(6, 6, 3, 3),
		to(most, least, least, most),
		to(least, most, most, least),
		to(most, most, least, least),
	} {
		for _, x := range []int32{least, -1, 0, 1, 2, 3, 4, 5, 6, 7, 9, most} {
			for _, y := range []int32{least, -1, 0, 1, 2, 3, 4, 5, 6, 7, 9, most} {
				checkContains(t, a, v(x, y), false)
			}
		}
	}
}

// A couple is two boxes, with what they are together.
type couple struct {
	name        string
	a, b        Box
	union, meet Box
	overlap     bool
}

// couples returns boxes in all positions to each other.
func couples() []couple {
	a := to(0, 10, 5, 19)
	return []couple{
		{"equal", a, a, a, a, true},
		{"equal points", to(3, 4, 3, 4), to(3, 4, 3, 4), to(3, 4, 3, 4), to(3, 4, 3, 4), true},
		{"apart in X", a, to(8, 12, 9, 15), to(0, 10, 9, 19), none, false},
		{"apart in X by one unit", a, to(6, 10, 9, 19), to(0, 10, 9, 19), none, false},
		{"apart in Y", a, to(1, 30, 2, 40), to(0, 10, 5, 40), none, false},
		{"apart in Y by one unit", a, to(0, 0, 5, 9), to(0, 0, 5, 19), none, false},
		{"apart in both", a, to(-9, -8, -7, -6), to(-9, -8, 5, 19), none, false},
		{"apart in both by one unit", a, to(6, 0, 7, 9), to(0, 0, 7, 19), none, false},
		{"touching in the right edge", a, to(5, 12, 8, 30), to(0, 10, 8, 30), to(5, 12, 5, 19), true},
		{"touching in the left edge", a, to(-4, 10, 0, 19), to(-4, 10, 5, 19), to(0, 10, 0, 19), true},
		{"touching in the upper edge", a, to(-1, 19, 3, 22), to(-1, 10, 5, 22), to(0, 19, 3, 19), true},
		{"touching in the lower edge", a, to(2, 1, 3, 10), to(0, 1, 5, 19), to(2, 10, 3, 10), true},
		{"touching in the upper right corner", a, to(5, 19, 9, 22), to(0, 10, 9, 22), to(5, 19, 5, 19), true},
		{"touching in the upper left corner", a, to(-9, 19, 0, 22), to(-9, 10, 5, 22), to(0, 19, 0, 19), true},
		{"touching in the lower right corner", a, to(5, 1, 9, 10), to(0, 1, 9, 19), to(5, 10, 5, 10), true},
		{"touching in the lower left corner", a, to(-9, 1, 0, 10), to(-9, 1, 5, 19), to(0, 10, 0, 10), true},
		{"one within the other", a, to(1, 12, 3, 15), a, to(1, 12, 3, 15), true},
		{"one within the other, at a corner", a, to(0, 10, 3, 15), a, to(0, 10, 3, 15), true},
		{"a point within the other", a, to(1, 12, 1, 12), a, to(1, 12, 1, 12), true},
		{"a point on a corner", a, to(5, 10, 5, 10), a, to(5, 10, 5, 10), true},
		{"a point beside a corner", a, to(6, 9, 6, 9), to(0, 9, 6, 19), none, false},
		{"a line through the other", a, to(-3, 12, 8, 12), to(-3, 10, 8, 19), to(0, 12, 5, 12), true},
		{"crossing lines", to(-3, 2, 8, 2), to(4, -5, 4, 6), to(-3, -5, 8, 6), to(4, 2, 4, 2), true},
		{"crossing", a, to(-9, 12, 9, 15), to(-9, 10, 9, 19), to(0, 12, 5, 15), true},
		{"crossing in a corner", a, to(3, 15, 9, 30), to(0, 10, 9, 30), to(3, 15, 5, 19), true},
		{"crossing with negative numbers", to(-9, -9, -5, -5), to(-7, -20, 7, 20), to(-9, -20, 7, 20), to(-7, -9, -5, -5), true},
		{"one is all points", a, to(least, least, most, most), to(least, least, most, most), a, true},
		{"at both ends", to(least, least, least, least), to(most, most, most, most), to(least, least, most, most), none, false},
		{"at both ends of X", to(least, 0, -1, 3), to(0, 0, most, 3), to(least, 0, most, 3), none, false},
		{"at both ends of Y, touching", to(0, least, 3, 0), to(1, 0, 4, most), to(0, least, 4, most), to(1, 0, 3, 0), true},
		{"one empty in X", a, to(4, 12, 2, 15), a, none, false},
		{"one empty in Y", a, to(2, 15, 4, 12), a, none, false},
		{"one empty in both", a, to(4, 15, 2, 12), a, none, false},
		{"one empty by one unit", a, to(3, 12, 2, 15), a, none, false},
		{"one empty, around the other", a, to(9, 0, -9, 30), a, none, false},
		{"one empty, apart", a, to(99, 90, 90, 99), a, none, false},
		{"one empty, at both ends", a, to(most, most, least, least), a, none, false},
		{"one nothing", a, none, a, none, false},
		{"one nothing, the other around it", to(-5, -5, 5, 5), none, to(-5, -5, 5, 5), none, false},
		{"a point and an empty one", to(3, 4, 3, 4), to(5, 0, 0, 9), to(3, 4, 3, 4), none, false},
		{"all points and an empty one", to(least, least, most, most), to(5, 9, 0, 0), to(least, least, most, most), none, false},
		{"both empty", to(5, 0, 0, 9), to(0, 9, 5, 0), none, none, false},
		{"both empty in X", to(5, 0, 0, 9), to(6, 1, 1, 8), none, none, false},
		{"both empty in X, not if joined", to(5, 0, 3, 9), to(2, 0, 1, 9), none, none, false},
		{"both empty and equal", to(5, 9, 0, 0), to(5, 9, 0, 0), none, none, false},
		{"both empty, at both ends", to(most, most, least, least), to(most, least, least, most), none, none, false},
		{"both nothing", none, none, none, none, false},
	}
}

func TestOverlap(t *testing.T) {
	for _, x := range couples() {
		if Overlap(x.a, x.b) != x.overlap || Overlap(x.b, x.a) != x.overlap {
			t.Errorf("%s: Overlap of %+v and %+v is %t, and %t exchanged, want %t", x.name, x.a, x.b, Overlap(x.a, x.b), Overlap(x.b, x.a), x.overlap)
		}
	}
}

// P8.3

func TestUnion(t *testing.T) {
	for _, x := range couples() {
		if Union(x.a, x.b) != x.union || Union(x.b, x.a) != x.union {
			t.Errorf("%s: Union of %+v and %+v is %+v, and %+v exchanged, want %+v", x.name, x.a, x.b, Union(x.a, x.b), Union(x.b, x.a), x.union)
		}
	}
}

func TestMeet(t *testing.T) {
	for _, x := range couples() {
		if Meet(x.a, x.b) != x.meet || Meet(x.b, x.a) != x.meet {
			t.Errorf("%s: Meet of %+v and %+v is %+v, and %+v exchanged, want %+v", x.name, x.a, x.b, Meet(x.a, x.b), Meet(x.b, x.a), x.meet)
		}
	}
}

// TestUnionReturnsTheOther expects the box that is not empty to be returned as it is.
func TestUnionReturnsTheOther(t *testing.T) {
	empty := []Box{none, to(5, 0, 0, 9), to(0, 9, 5, 0), to(most, most, least, least), to(least+1, most, least, most)}
	for _, a := range []Box{{}, to(1, 2, 5, 9), to(-3, -3, -3, -3), to(-8, 4, 8, 4), to(least, least, most, most), to(most, most, most, most)} {
		for _, b := range empty {
			if Union(a, b) != a || Union(b, a) != a {
				t.Errorf("Union of %+v and %+v is %+v, and %+v exchanged", a, b, Union(a, b), Union(b, a))
			}
		}
	}
}

// The model looks at the points whose components are on a scale of few numbers, which all edges are on. If a box has points then its corners are among them.

// scales returns numbers in ascending order.
func scales() [][]int32 {
	return [][]int32{{0, 1, 2, 3}, {-2, -1, 0, 1}, {least, -1, 0, most}, {least, least + 1, most - 1, most}}
}

// rectangles returns all boxes with edges on a scale, the empty ones as well.
func rectangles(scale []int32) []Box {
	var l []Box
	for _, minX := range scale {
		for _, minY := range scale {
			for _, maxX := range scale {
				for _, maxY := range scale {
					l = append(l, to(minX, minY, maxX, maxY))
				}
			}
		}
	}
	return l
}

// A set of points on a scale of four numbers has a bit for each.
type set uint16

// points returns the set of the points in a box.
func points(scale []int32, a Box) set {
	var s set
	for i, x := range scale {
		for j, y := range scale {
			if a.MinX <= x && x <= a.MaxX && a.MinY <= y && y <= a.MaxY {
				s |= 1 << (i*len(scale) + j)
			}
		}
	}
	return s
}

// around returns the least box that contains a set of points, or none if it has no points.
func around(scale []int32, s set) Box {
	if s == 0 {
		return none
	}
	a := to(most, most, least, least)
	for i, x := range scale {
		for j, y := range scale {
			if s>>(i*len(scale)+j)&1 == 1 {
				a = to(min(a.MinX, x), min(a.MinY, y), max(a.MaxX, x), max(a.MaxY, y))
			}
		}
	}
	return a
}

func TestModelOfOne(t *testing.T) {
	for _, scale := range scales() {
		for _, a := range rectangles(scale) {
			s := points(scale, a)
			if Empty(a) != (s == 0) {
				t.Fatalf("Empty(%+v) = %t", a, Empty(a))
			}
			for i, x := range scale {
				for j, y := range scale {
					checkContains(t, a, v(x, y), s>>(i*len(scale)+j)&1 == 1)
				}
			}
		}
	}
}

func TestModelOfTwo(t *testing.T) {
	for _, scale := range scales() {
		all := rectangles(scale)
		for _, a := range all {
			for _, b := range all {
				s, r := points(scale, a), points(scale, b)
				if got := Overlap(a, b); got != (s&r != 0) {
					t.Fatalf("Overlap(%+v, %+v) = %t", a, b, got)
				}
				if got, want := Union(a, b), around(scale, s|r); got != want {
					t.Fatalf("Union(%+v, %+v) = %+v, want %+v", a, b, got, want)
				}
				if got, want := Meet(a, b), around(scale, s&r); got != want {
					t.Fatalf("Meet(%+v, %+v) = %+v, want %+v", a, b, got, want)
				}
			}
		}
	}
}

// TestBeyond calls Of with invalid bodies, for which only the rule holds that no function panics.
func TestBeyond(t *testing.T) {
	for _, n := range []int32{least, least + 1, -1, 0, most} {
		Of(api.Body{Radius: n, Axis: v(n, n), Pos: v(n, n)})
		Of(api.Body{Radius: n, Axis: v(n, -n), Pos: v(-n, n)})
	}
}
