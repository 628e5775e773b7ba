package point

import (
	"math"
	"math/big"
	"testing"

	"billiard/api"
	"billiard/vec"
)

const (
	least = math.MinInt32
	most  = math.MaxInt32
	far   = 1082130432 // the greatest absolute value of a component
	long  = 16777216   // the greatest difference of the ends
	half  = long / 2
)

func v(x, y int32) api.Vec { return api.Vec{X: x, Y: y} }

// plus returns a + b. A sum of places that has no room in an int32 is not within the limits as it is.
func plus(a, b api.Vec) api.Vec { return v(a.X+b.X, a.Y+b.Y) }

// An edge is a segment and a point, with what the functions return for them.
type edge struct {
	name    string
	p, q, c api.Vec
	n, d    int64
	nearest api.Vec
	sq      uint64
}

func (x edge) check(t *testing.T) {
	t.Helper()
	if n, d := Param(x.p, x.q, x.c); n != x.n || d != x.d {
		t.Errorf("Param(%v, %v, %v) = %d, %d, want %d, %d", x.p, x.q, x.c, n, d, x.n, x.d)
	}
	if got := Nearest(x.p, x.q, x.c); got != x.nearest {
		t.Errorf("Nearest(%v, %v, %v) = %v, want %v", x.p, x.q, x.c, got, x.nearest)
	}
	if got := DistSq(x.p, x.q, x.c); got != x.sq {
		t.Errorf("DistSq(%v, %v, %v) = %d, want %d", x.p, x.q, x.c, got, x.sq)
	}
}

func checkEdges(t *testing.T, edges []edge) {
	t.Helper()
	for _, x := range edges {
		t.Run(x.name, x.check)
	}
}

// P12.1 and P12.2

func TestExample(t *testing.T) {
	checkEdges(t, []edge{
		{"beside the segment", v(0, 0), v(10, 0), v(3, 7), 30, 100, v(3, 0), 49},
		{"behind the second end", v(0, 0), v(10, 0), v(99, 7), 100, 100, v(10, 0), 89*89 + 49},
	})
}

func TestEndsAtTheSamePlace(t *testing.T) {
	checkEdges(t, []edge{
		{"with the point", v(5, -5), v(5, -5), v(5, -5), 0, 0, v(5, -5), 0},
		{"at the origin", v(0, 0), v(0, 0), v(3, -4), 0, 0, v(0, 0), 25},
		{"the point to the right", v(5, -5), v(5, -5), v(6, -5), 0, 0, v(5, -5), 1},
		{"the point to the left and above", v(5, -5), v(5, -5), v(2, -1), 0, 0, v(5, -5), 25},
		{"at a corner", v(far, far), v(far, far), v(-far, -far), 0, 0, v(far, far), 8 * far * far},
		{"at another corner", v(-far, far), v(-far, far), v(far, far), 0, 0, v(-far, far), 4 * far * far},
	})
}

func TestAlongAnAxis(t *testing.T) {
	checkEdges(t, []edge{
		{"at the first end", v(2, 5), v(12, 5), v(2, 5), 0, 100, v(2, 5), 0},
		{"at the second end", v(2, 5), v(12, 5), v(12, 5), 100, 100, v(12, 5), 0},
		{"on the segment", v(2, 5), v(12, 5), v(7, 5), 50, 100, v(7, 5), 0},
		{"on the line, before the first end", v(2, 5), v(12, 5), v(-4, 5), 0, 100, v(2, 5), 36},
		{"on the line, behind the second end", v(2, 5), v(12, 5), v(15, 5), 100, 100, v(12, 5), 9},
		{"above", v(2, 5), v(12, 5), v(9, 8), 70, 100, v(9, 5), 9},
		{"below", v(2, 5), v(12, 5), v(9, -8), 70, 100, v(9, 5), 169},
		{"to the left", v(12, 5), v(2, 5), v(9, 8), 30, 100, v(9, 5), 9},
		{"to the left, behind the second end", v(12, 5), v(2, 5), v(-1, 9), 100, 100, v(2, 5), 25},
		{"upwards", v(-3, -6), v(-3, 4), v(0, -2), 40, 100, v(-3, -2), 9},
		{"upwards, before the first end", v(-3, -6), v(-3, 4), v(0, -10), 0, 100, v(-3, -6), 25},
		{"downwards", v(-3, 4), v(-3, -6), v(0, -2), 60, 100, v(-3, -2), 9},
		{"downwards, behind the second end", v(-3, 4), v(-3, -6), v(1, -9), 100, 100, v(-3, -6), 25},
	})
}

func TestAtAnAngle(t *testing.T) {
	checkEdges(t, []edge{
		{"at the first end", v(1, 1), v(7, 9), v(1, 1), 0, 100, v(1, 1), 0},
		{"at the second end", v(1, 1), v(7, 9), v(7, 9), 100, 100, v(7, 9), 0},
		{"on the segment", v(1, 1), v(7, 9), v(4, 5), 50, 100, v(4, 5), 0},
		{"on the line, before the first end", v(1, 1), v(7, 9), v(-2, -3), 0, 100, v(1, 1), 25},
		{"on the line, behind the second end", v(1, 1), v(7, 9), v(10, 13), 100, 100, v(7, 9), 25},
		{"on one side", v(1, 1), v(7, 9), v(0, 8), 50, 100, v(4, 5), 25},
		{"on the other side", v(1, 1), v(7, 9), v(8, 2), 50, 100, v(4, 5), 25},
		{"to the left and upwards", v(1, 1), v(-5, 9), v(-6, 2), 50, 100, v(-2, 5), 25},
		{"to the right and downwards", v(1, 1), v(7, -7), v(8, 0), 50, 100, v(4, -3), 25},
		{"to the left and downwards", v(1, 1), v(-5, -7), v(-6, 0), 50, 100, v(-2, -3), 25},
		// Points beyond an end, one component of which is between those of the ends.
		{"before the first end, but farther right", v(1, 1), v(7, 9), v(6, -3), 0, 100, v(1, 1), 41},
		{"behind the second end, but farther left", v(1, 1), v(7, 9), v(2, 13), 100, 100, v(7, 9), 41},
	})
}

func TestShortest(t *testing.T) {
	checkEdges(t, []edge{
		{"to the right, before", v(0, 0), v(1, 0), v(-1, 9), 0, 1, v(0, 0), 82},
		{"to the right, at the first end", v(0, 0), v(1, 0), v(0, 9), 0, 1, v(0, 0), 81},
		{"to the right, at the second end", v(0, 0), v(1, 0), v(1, 9), 1, 1, v(1, 0), 81},
		{"to the right, behind", v(0, 0), v(1, 0), v(2, 9), 1, 1, v(1, 0), 82},
		{"to the left, before", v(0, 0), v(-1, 0), v(1, 4), 0, 1, v(0, 0), 17},
		{"to the left, behind", v(0, 0), v(-1, 0), v(-2, 4), 1, 1, v(-1, 0), 17},
		{"upwards", v(0, 0), v(0, 1), v(7, 2), 1, 1, v(0, 1), 50},
		{"downwards", v(0, 0), v(0, -1), v(7, -3), 1, 1, v(0, -1), 53},
		{"right and up", v(0, 0), v(1, 1), v(1, 0), 1, 2, v(0, 0), 1},
		{"left and down", v(0, 0), v(-1, -1), v(-1, 0), 1, 2, v(-1, -1), 1},
		{"right and down", v(0, 0), v(1, -1), v(1, 0), 1, 2, v(0, -1), 2},
		{"left and up", v(0, 0), v(-1, 1), v(-1, 0), 1, 2, v(-1, 0), 0},
	})
}

// TestNearestToAnEnd looks at points that are nearest to an end exactly, and at those one unit before and behind them.
func TestNearestToAnEnd(t *testing.T) {
	checkEdges(t, []edge{
		{"before the first end", v(0, 0), v(10, 0), v(-1, 5), 0, 100, v(0, 0), 26},
		{"at the first end", v(0, 0), v(10, 0), v(0, 5), 0, 100, v(0, 0), 25},
		{"behind the first end", v(0, 0), v(10, 0), v(1, 5), 10, 100, v(1, 0), 25},
		{"before the second end", v(0, 0), v(10, 0), v(9, 5), 90, 100, v(9, 0), 25},
		{"at the second end", v(0, 0), v(10, 0), v(10, 5), 100, 100, v(10, 0), 25},
		{"behind the second end", v(0, 0), v(10, 0), v(11, 5), 100, 100, v(10, 0), 26},
		{"at an angle, before the first end", v(0, 0), v(-3, 4), v(5, 3), 0, 25, v(0, 0), 34},
		{"at an angle, at the first end", v(0, 0), v(-3, 4), v(4, 3), 0, 25, v(0, 0), 25},
		{"at an angle, behind the first end", v(0, 0), v(-3, 4), v(3, 3), 3, 25, v(-1, 0), 25},
		{"at an angle, before the second end", v(0, 0), v(3, 4), v(-2, 7), 22, 25, v(2, 3), 32},
		{"at an angle, at the second end", v(0, 0), v(3, 4), v(-1, 7), 25, 25, v(3, 4), 25},
		{"at an angle, behind the second end", v(0, 0), v(3, 4), v(0, 7), 25, 25, v(3, 4), 18},
		{"a long one, before the second end", v(0, 0), v(long, 0), v(long-1, 5), long * (long - 1), long * long, v(long-1, 0), 25},
		{"a long one, at the second end", v(0, 0), v(long, 0), v(long, 5), long * long, long * long, v(long, 0), 25},
		{"a long one, behind the second end", v(0, 0), v(long, 0), v(long+1, 5), long * long, long * long, v(long, 0), 26},
		// Quotients that are half a unit away from an end.
		{"a diagonal, behind the first end", v(0, 0), v(-long, -long), v(-1, 0), long, 2 * long * long, v(-1, -1), 1},
		{"a diagonal, before the second end", v(0, 0), v(long, long), v(long-1, long), 2*long*long - long, 2 * long * long, v(long-1, long-1), 1},
	})
}

// TestFloors looks at quotients that are not whole: they are rounded down, and not towards 0 or to the nearest integer.
func TestFloors(t *testing.T) {
	checkEdges(t, []edge{
		{"positive ones", v(0, 0), v(5, 5), v(3, 0), 15, 50, v(1, 1), 5},
		{"negative ones", v(0, 0), v(-5, -5), v(-3, 0), 15, 50, v(-2, -2), 5},
		{"a negative and a positive one", v(0, 0), v(-5, 5), v(-3, 0), 15, 50, v(-2, 1), 2},
		{"a positive and a negative one", v(0, 0), v(5, -5), v(3, 0), 15, 50, v(1, -2), 8},
		{"positive ones, nearer to the next integer", v(0, 0), v(3, 4), v(-2, 7), 22, 25, v(2, 3), 32},
		{"from the other end", v(3, 4), v(0, 0), v(-2, 7), 3, 25, v(2, 3), 32},
		{"away from the origin", v(-100, 70), v(-105, 65), v(-103, 70), 15, 50, v(-102, 68), 5},
		{"across the origin", v(2, -2), v(-3, 3), v(-1, -2), 15, 50, v(0, -1), 2},
		{"small ones", v(0, 0), v(-1000, 1), v(-1, 0), 1000, 1000001, v(-1, 0), 0},
		{"whole ones", v(0, 0), v(-6, -8), v(-3, -4), 50, 100, v(-3, -4), 0},
	})
}

// TestGreatest looks at the greatest components, whose products need 128 bits.
func TestGreatest(t *testing.T) {
	const side = 2*far - long // from the second end to the point in the opposite corner
	checkEdges(t, []edge{
		{"to the opposite corner", v(far, far), v(far-long, far-long), v(-far, -far), 2 * long * long, 2 * long * long, v(far-long, far-long), 2 * side * side},
		{"from the opposite corner", v(-far+long, -far+long), v(-far, -far), v(far, far), 0, 2 * long * long, v(-far+long, -far+long), 2 * side * side},
		{"along the upper edge", v(-far, far), v(-far+long, far), v(far, -far), long * long, long * long, v(-far+long, far), side*side + 4*far*far},
		{"along the left edge", v(-far, far), v(-far, far-long), v(far, far), 0, long * long, v(-far, far), 4 * far * far},
		{"across the corner", v(far, -far), v(far-long, -far+long), v(-far, -far), 2 * long * long, 2 * long * long, v(far-long, -far+long), side*side + long*long},
		{"half of a diagonal", v(far, far), v(far-long, far-long), v(far, far-long), long * long, 2 * long * long, v(far-half, far-half), 2 * half * half},
		{"a unit more than half, rounded down", v(far, far), v(far-long, far-long), v(far-1, far-long), long*long + long, 2 * long * long, v(far-half-1, far-half-1), half*half + (half-1)*(half-1)},
		{"a unit more than half, in two directions", v(-far, far), v(-far+long, far-long), v(-far+1, far-long), long*long + long, 2 * long * long, v(-far+half, far-half-1), (half-1)*(half-1) + (half-1)*(half-1)},
		{"beside the middle", v(-far, -far+half), v(-far+long, -far+half), v(-far+half+1, far), long * (half + 1), long * long, v(-far+half+1, -far+half), (2*far - half) * (2*far - half)},
	})
}

// The model: exact integers of math/big.

func integer(n int32) *big.Int { return big.NewInt(int64(n)) }

func difference(from, to int32) *big.Int {
	return new(big.Int).Sub(integer(to), integer(from))
}

// scalar returns ax * bx + ay * by.
func scalar(ax, ay, bx, by *big.Int) *big.Int {
	x, y := new(big.Int).Mul(ax, bx), new(big.Int).Mul(ay, by)
	return x.Add(x, y)
}

func modelParam(p, q, c api.Vec) (n, d *big.Int) {
	dx, dy := difference(p.X, q.X), difference(p.Y, q.Y)
	n = scalar(difference(p.X, c.X), difference(p.Y, c.Y), dx, dy)
	d = scalar(dx, dy, dx, dy)
	if n.Sign() < 0 {
		n.SetInt64(0)
	}
	if n.Cmp(d) > 0 {
		n.Set(d)
	}
	return n, d
}

// modelComponent uses the Euclidean division of math/big, which rounds down for positive divisors.
func modelComponent(from, to int32, n, d *big.Int) int32 {
	if d.Sign() == 0 {
		return from
	}
	part := difference(from, to)
	part.Mul(part, n)
	part.Div(part, d)
	return int32(part.Add(part, integer(from)).Int64())
}

func checkModel(t *testing.T, p, q, c api.Vec) {
	t.Helper()
	n, d := modelParam(p, q, c)
	nearest := v(modelComponent(p.X, q.X, n, d), modelComponent(p.Y, q.Y, n, d))
	x, y := difference(nearest.X, c.X), difference(nearest.Y, c.Y)
	edge{"", p, q, c, n.Int64(), d.Int64(), nearest, scalar(x, y, x, y).Uint64()}.check(t)
}

// starts returns first ends: around the origin and at the greatest components.
func starts() []api.Vec {
	l := []api.Vec{v(0, 0), v(7, -9), v(-65536, 98304), v(1<<30, -1<<30), v(half, -half)}
	for _, x := range []int32{-far, far} {
		l = append(l, v(x, x), v(x, -x), v(x, 0), v(0, x), v(x, x/2+1))
	}
	return l
}

// steps returns differences of the ends in all directions: none, the shortest and the longest ones, and some between them.
func steps() []api.Vec {
	l := []api.Vec{v(0, 0)}
	for _, s := range []api.Vec{v(1, 0), v(1, 1), v(1, 2), v(3, 4), v(10, 0), v(7, 1), v(1000, 1), v(65536, 98304), v(half, half-1), v(long-1, 5), v(long, 1), v(long, 0), v(long, long-1), v(long, long)} {
		for range 4 {
			l = append(l, s, v(s.Y, s.X))
			s = v(-s.Y, s.X)
		}
	}
	return l
}

// around returns points near a place, and some in the far.
func around(p api.Vec) []api.Vec {
	l := []api.Vec{v(far, far), v(-far, far), v(-far, -far), v(far, -far), v(0, 0)}
	for x := int32(-2); x <= 2; x++ {
		for y := int32(-2); y <= 2; y++ {
			l = append(l, plus(p, v(x, y)))
		}
	}
	return append(l, plus(p, v(99999, -77777)), plus(p, v(-long, half)), plus(p, v(half, long)))
}

// within reports whether the components of all vectors are those of segments and points.
func within(all ...api.Vec) bool {
	for _, a := range all {
		if max(a.X, a.Y) > far || min(a.X, a.Y) < -far {
			return false
		}
	}
	return true
}

// forEach calls f with segments and points: near the ends, near three places between them and one beyond each, and in the far.
func forEach(t *testing.T, f func(p, q, c api.Vec)) {
	for _, p := range starts() {
		for _, s := range steps() {
			q := plus(p, s)
			for _, k := range []int64{-1, 0, 1, 2, 3, 4, 5} {
				place := plus(p, v(int32(int64(s.X)*k/4), int32(int64(s.Y)*k/4)))
				for _, c := range around(place) {
					if within(p, q, c) && !t.Failed() {
						f(p, q, c)
					}
				}
			}
		}
	}
}

func TestModel(t *testing.T) {
	forEach(t, func(p, q, c api.Vec) { checkModel(t, p, q, c) })
}

// TestSmall looks at all segments from the origin, and all points, with small components.
func TestSmall(t *testing.T) {
	const size = 6
	for i := range 13 * 13 * 13 * 13 {
		q := v(int32(i%13-size), int32(i/13%13-size))
		c := v(int32(i/13/13%13-size), int32(i/13/13/13-size))
		checkModel(t, v(0, 0), q, c)
		if t.Failed() {
			return
		}
	}
}

// between returns the component of a segment along an axis that is nearest to a component of a point.
func between(from, to, at int32) int32 {
	return max(min(at, max(from, to)), min(from, to))
}

// TestAxisModel needs no quotients: on a segment along an axis, only the component along it is looked at.
func TestAxisModel(t *testing.T) {
	forEach(t, func(p, q, c api.Vec) {
		if p.X != q.X && p.Y != q.Y {
			return
		}
		if got, want := Nearest(p, q, c), v(between(p.X, q.X, c.X), between(p.Y, q.Y, c.Y)); got != want {
			t.Errorf("Nearest(%v, %v, %v) = %v, want %v", p, q, c, got, want)
		}
	})
}

// TestOnTheSegment looks at points that are exactly on a segment: they are the nearest ones to themselves.
func TestOnTheSegment(t *testing.T) {
	const parts = 1 << 10
	for _, p := range starts() {
		for _, s := range []api.Vec{v(1, 0), v(0, -1), v(1, 1), v(-3, 4), v(-1, -7), v(9999, 16384), v(16384, -16384), v(-16384, 16383)} {
			q := plus(p, v(s.X*parts, s.Y*parts))
			for k := int32(0); k <= parts && within(q); k++ {
				c := plus(p, v(s.X*k, s.Y*k))
				if got, sq := Nearest(p, q, c), DistSq(p, q, c); got != c || sq != 0 {
					t.Fatalf("Nearest(%v, %v, %v) = %v, with the square %d", p, q, c, got, sq)
				}
			}
		}
	}
}

func TestDistSq(t *testing.T) {
	forEach(t, func(p, q, c api.Vec) {
		if got, want := DistSq(p, q, c), vec.LengthSq(vec.Diff(Nearest(p, q, c), c)); got != want {
			t.Errorf("DistSq(%v, %v, %v) = %d, want %d", p, q, c, got, want)
		}
	})
}

// P12.3

func TestInTheBox(t *testing.T) {
	forEach(t, func(p, q, c api.Vec) {
		m := Nearest(p, q, c)
		if m.X != between(p.X, q.X, m.X) || m.Y != between(p.Y, q.Y, m.Y) {
			t.Errorf("Nearest(%v, %v, %v) = %v, which is not in the box", p, q, c, m)
		}
	})
}

func TestEnds(t *testing.T) {
	first, second, inner := 0, 0, 0
	forEach(t, func(p, q, c api.Vec) {
		n, d := Param(p, q, c)
		if n < 0 || n > d {
			t.Errorf("Param(%v, %v, %v) = %d, %d", p, q, c, n, d)
		}
		m := Nearest(p, q, c)
		if n == 0 {
			first++
			if m != p {
				t.Errorf("Nearest(%v, %v, %v) = %v, want the first end", p, q, c, m)
			}
		}
		if n == d {
			second++
			if m != q {
				t.Errorf("Nearest(%v, %v, %v) = %v, want the second end", p, q, c, m)
			}
		}
		if 0 < n && n < d {
			inner++
		}
	})
	if first < 1000 || second < 1000 || inner < 1000 {
		t.Errorf("%d times the first end, %d times the second one, and %d times neither", first, second, inner)
	}
}

func TestMoved(t *testing.T) {
	moves := []api.Vec{v(1, 0), v(-1, -1), v(12345, -54321), v(-long, far), v(far, far), v(-far, -far), v(-1<<30, 1<<30)}
	moved := 0
	forEach(t, func(p, q, c api.Vec) {
		for _, by := range moves {
			p2, q2, c2 := plus(p, by), plus(q, by), plus(c, by)
			if !within(p2, q2, c2) {
				continue
			}
			moved++
			n, d := Param(p, q, c)
			edge{"", p2, q2, c2, n, d, plus(Nearest(p, q, c), by), DistSq(p, q, c)}.check(t)
		}
	})
	if moved < 10000 {
		t.Errorf("only %d segments were moved", moved)
	}
}

// TestBeyond calls the functions with arguments for which only the rule holds that no function panics.
func TestBeyond(t *testing.T) {
	beyond := []int32{least, least + 1, -far - 1, -1 << 16, 0, 1, 1 << 16, far + 1, most}
	size := len(beyond)
	for i := range size * size * size * size {
		p, q := v(beyond[i%size], beyond[i/size%size]), v(beyond[i/size/size%size], beyond[i/size/size/size])
		for _, c := range []api.Vec{v(0, 0), v(least, least), v(most, most), v(least, most), v(most, -far)} {
			Param(p, q, c)
			Nearest(p, q, c)
			DistSq(p, q, c)
		}
	}
}
