package contact

import (
	"cmp"
	"math"
	"math/big"
	"slices"
	"testing"

	"billiard/api"
	"billiard/body"
	"billiard/box"
)

// The limits of the chapters are written out, so that they are checked as well.
const (
	one       = 65536
	radiusMin = 4096
	radiusMax = 4194304
	axisMax   = 4194304
	worldMax  = 1073741824
	greatest  = math.MaxUint32 // key
)

func v(x, y int32) api.Vec { return api.Vec{X: x, Y: y} }

func plus(a, b api.Vec) api.Vec { return v(a.X+b.X, a.Y+b.Y) }

func minus(a, b api.Vec) api.Vec { return v(a.X-b.X, a.Y-b.Y) }

func circle(key uint32, radius, x, y int32) api.Body {
	return api.Body{Key: key, Radius: radius, InvMass: one, Pos: v(x, y)}
}

func capsule(key uint32, radius, x, y, axisX, axisY int32) api.Body {
	b := circle(key, radius, x, y)
	b.Axis = v(axisX, axisY)
	return b
}

// The model: the chosen points and all that follows from them, in exact integers of math/big.

func difference64(from, to int32) *big.Int { return big.NewInt(int64(to) - int64(from)) }

// scalar returns ax * bx + ay * by.
func scalar(ax, ay, bx, by *big.Int) *big.Int {
	x, y := new(big.Int).Mul(ax, bx), new(big.Int).Mul(ay, by)
	return x.Add(x, y)
}

// modelNearest uses the Euclidean division of math/big, which rounds down for positive divisors.
func modelNearest(p, q, c api.Vec) api.Vec {
	dx, dy := difference64(p.X, q.X), difference64(p.Y, q.Y)
	n := scalar(difference64(p.X, c.X), difference64(p.Y, c.Y), dx, dy)
	d := scalar(dx, dy, dx, dy)
	if d.Sign() == 0 || n.Sign() < 0 {
		return p
	}
	if n.Cmp(d) > 0 {
		return q
	}
	x, y := dx.Mul(dx, n), dy.Mul(dy, n)
	return v(p.X+int32(x.Div(x, d).Int64()), p.Y+int32(y.Div(y, d).Int64()))
}

// An apart is the difference of two points, with its square.
type apart struct {
	dx, dy int64
	sq     uint64
}

func modelApart(from, to api.Vec) apart {
	x, y := difference64(from.X, to.X), difference64(from.Y, to.Y)
	return apart{x.Int64(), y.Int64(), scalar(x, y, x, y).Uint64()}
}

func ends(b api.Body) (first, second api.Vec) { return minus(b.Pos, b.Axis), plus(b.Pos, b.Axis) }

// modelPairs returns the differences of the four pairs of points of the cores.
func modelPairs(low, high api.Body) [4]apart {
	ap, aq := ends(low)
	bp, bq := ends(high)
	return [4]apart{
		modelApart(ap, modelNearest(bp, bq, ap)),
		modelApart(aq, modelNearest(bp, bq, aq)),
		modelApart(modelNearest(ap, aq, bp), bp),
		modelApart(modelNearest(ap, aq, bq), bq),
	}
}

// modelChosen returns the difference of the chosen points. The lesser key decides which body is the first one.
func modelChosen(a, b api.Body) apart {
	if b.Key < a.Key {
		a, b = b, a
	}
	pairs := modelPairs(a, b)
	return slices.MinFunc(pairs[:], func(a, b apart) int { return cmp.Compare(a.sq, b.sq) })
}

func modelLength(d apart) int64 {
	sq := new(big.Int).SetUint64(d.sq)
	return sq.Sqrt(sq).Int64()
}

// modelUnit rounds down, as modelNearest does.
func modelUnit(d apart) api.Vec {
	if d.sq == 0 {
		return v(one, 0)
	}
	part := func(n int64) int32 {
		x := new(big.Int).Mul(big.NewInt(n), big.NewInt(one))
		return int32(x.Div(x, big.NewInt(modelLength(d))).Int64())
	}
	return v(part(d.dx), part(d.dy))
}

// A result is all that the functions say about two bodies.
type result struct {
	contact api.Contact
	touch   bool
	gap     int64
}

func modelResult(a, b api.Body) result {
	d := modelChosen(a, b)
	sum := int64(a.Radius) + int64(b.Radius)
	r := result{gap: modelLength(d) - sum}
	if d.sq < uint64(sum*sum) {
		r.touch = true
		r.contact = contactOf(a, b, modelUnit(d), int32(sum-modelLength(d)))
	}
	return r
}

func contactOf(a, b api.Body, normal api.Vec, depth int32) api.Contact {
	pair := api.Pair{Low: min(a.Key, b.Key), High: max(a.Key, b.Key)}
	return api.Contact{Pair: pair, Normal: normal, Depth: depth}
}

// checkValid ends the test if nothing is promised for two bodies.
func checkValid(t *testing.T, a, b api.Body) {
	t.Helper()
	if a.Key == b.Key || body.Check(a) != api.OK || body.Check(b) != api.OK {
		t.Fatalf("%+v and %+v are not two valid bodies", a, b)
	}
}

func checkResult(t *testing.T, a, b api.Body, want result) {
	t.Helper()
	checkValid(t, a, b)
	if c, ok := Of(a, b); c != want.contact || ok != want.touch {
		t.Errorf("Of(%+v, %+v) = %+v, %t, want %+v, %t", a, b, c, ok, want.contact, want.touch)
	}
	if touch := Touch(a, b); touch != want.touch {
		t.Errorf("Touch(%+v, %+v) = %t", a, b, touch)
	}
	if gap := Gap(a, b); gap != want.gap {
		t.Errorf("Gap(%+v, %+v) = %d, want %d", a, b, gap, want.gap)
	}
}

// checkBoth checks both orders of the arguments.
func checkBoth(t *testing.T, a, b api.Body, want result) {
	t.Helper()
	checkResult(t, a, b, want)
	checkResult(t, b, a, want)
}

// A scene is two bodies, with the difference of the chosen points, and the gap. The bodies touch if it is less than 0, and then have the normal.
type scene struct {
	name   string
	a, b   api.Body
	dx, dy int64
	normal api.Vec
	gap    int64
}

func (x scene) result() result {
	if x.gap >= 0 {
		return result{gap: x.gap}
	}
	return result{contactOf(x.a, x.b, x.normal, int32(-x.gap)), true, x.gap}
}

func (x scene) check(t *testing.T) {
	t.Helper()
	// The difference says what a scene is an example of.
	if d := modelChosen(x.a, x.b); d.dx != x.dx || d.dy != x.dy {
		t.Errorf("the difference is (%d, %d) and not (%d, %d)", d.dx, d.dy, x.dx, x.dy)
	}
	if (x.gap >= 0) != (x.normal == api.Vec{}) {
		t.Errorf("the gap is %d, but the normal is %v", x.gap, x.normal)
	}
	checkBoth(t, x.a, x.b, x.result())
}

func checkScenes(t *testing.T, scenes []scene) {
	t.Helper()
	for _, x := range scenes {
		t.Run(x.name, x.check)
	}
}

// P14.1 and P14.2

func TestExample(t *testing.T) {
	checkScenes(t, []scene{
		{"of the chapter", circle(1, one, 0, 0), circle(2, one, 0, 100000), 0, 100000, v(0, 65536), -31072},
		{"with the keys exchanged", circle(2, one, 0, 0), circle(1, one, 0, 100000), 0, -100000, v(0, -65536), -31072},
	})
}

func TestCircles(t *testing.T) {
	checkScenes(t, []scene{
		{"to the right", circle(1, one, 0, 0), circle(2, one, 100000, 0), 100000, 0, v(one, 0), -31072},
		{"to the left", circle(1, one, 0, 0), circle(2, one, -100000, 0), -100000, 0, v(-one, 0), -31072},
		{"at an angle", circle(1, one, 0, 0), circle(2, one, 30000, 40000), 30000, 40000, v(39321, 52428), -81072},
		{"at an angle, rounded down", circle(1, one, 0, 0), circle(2, one, -30000, -40000), -30000, -40000, v(-39322, -52429), -81072},
		{"at an angle, one part rounded down", circle(1, one, 7, 9), circle(2, one, 30007, -39991), 30000, -40000, v(39321, -52429), -81072},
		{"one unit apart", circle(1, one, 5, 5), circle(2, one, 6, 5), 1, 0, v(one, 0), -131071},
		{"one unit apart in both directions", circle(1, one, 5, 5), circle(2, one, 4, 6), -1, 1, v(-one, one), -131071},
		{"with the length rounded down", circle(1, one, 0, 0), circle(2, one, one, one), one, one, v(46341, 46341), -38391},
		{"with the length rounded down, to the left", circle(1, one, 0, 0), circle(2, one, -one, one), -one, one, v(-46342, 46341), -38391},
		{"with a short length rounded down", circle(1, one, 0, 0), circle(2, one, 1, -2), 1, -2, v(32768, -65536), -131070},
		{"a small one within a great one", circle(1, radiusMin, 300000, 400000), circle(2, radiusMax, 0, 0), -300000, -400000, v(-39322, -52429), -3698400},
		{"apart", circle(1, one, 0, 0), circle(2, one, 3*one, 4*one), 3 * one, 4 * one, v(0, 0), 3 * one},
		{"apart, with boxes that overlap", circle(1, one, 0, 0), circle(2, one, 100000, -100000), 100000, -100000, v(0, 0), 10349},
	})
}

// TestExactly looks at bodies with the distance 10000 in all combinations of circles and capsules.
func TestExactly(t *testing.T) {
	for _, x := range []struct {
		name   string
		a, b   api.Body
		dx, dy int64
		normal api.Vec
	}{
		{"two circles", circle(1, 5000, -1000, -2000), circle(2, 5000, 5000, 6000), 6000, 8000, v(39321, 52428)},
		{"two circles below each other", circle(1, 5000, 7, 4000), circle(2, 5000, 7, -6000), 0, -10000, v(0, -one)},
		{"a circle at the side of a capsule", capsule(1, 5000, 0, 0, 30000, 40000), circle(2, 5000, -8000, 6000), -8000, 6000, v(-52429, 39321)},
		{"a capsule with a circle at its side", circle(1, 5000, -8000, 6000), capsule(2, 5000, 0, 0, 30000, 40000), 8000, -6000, v(52428, -39322)},
		{"a circle at the second end of a capsule", capsule(1, 5000, 0, 0, 30000, 40000), circle(2, 5000, 36000, 48000), 6000, 8000, v(39321, 52428)},
		{"a circle at the first end of a capsule", capsule(1, 5000, 0, 0, 30000, 40000), circle(2, 5000, -40000, -40000), -10000, 0, v(-one, 0)},
		{"a capsule at the side of a capsule", capsule(1, 5000, 0, 0, 30000, 40000), capsule(2, 5000, -12000, 9000, -4000, 3000), -8000, 6000, v(-52429, 39321)},
		{"a capsule with its second end there", capsule(1, 5000, 0, 0, 30000, 40000), capsule(2, 5000, -12000, 9000, 4000, -3000), -8000, 6000, v(-52429, 39321)},
		{"capsules end to end", capsule(1, 5000, 0, 0, 30000, 40000), capsule(2, 5000, 86000, 48000, 50000, 0), 6000, 8000, v(39321, 52428)},
		{"parallel capsules", capsule(1, 5000, 0, 0, 70000, 0), capsule(2, 5000, 0, 10000, 70000, 0), 0, 10000, v(0, one)},
	} {
		wider, narrower := x.a, x.b
		wider.Radius++
		narrower.Radius--
		checkScenes(t, []scene{
			{x.name, x.a, x.b, x.dx, x.dy, v(0, 0), 0},
			{x.name + ", one unit less", wider, x.b, x.dx, x.dy, x.normal, -1},
			{x.name + ", one unit more", x.a, narrower, x.dx, x.dy, v(0, 0), 1},
			{x.name + ", one unit more and one less", wider, narrower, x.dx, x.dy, v(0, 0), 0},
		})
	}
}

// TestSquares looks at squares just below and just above that of the sum of the radii.
func TestSquares(t *testing.T) {
	checkScenes(t, []scene{
		// The squares of the differences (128, 8192) and (3968, 7168) are 8193^2 - 1.
		{"one less", circle(1, 4096, 0, 0), circle(2, 4097, 128, 8192), 128, 8192, v(1024, one), -1},
		{"one less, at an angle", circle(1, 4097, 0, 0), circle(2, 4096, -7168, 3968), -7168, 3968, v(-57344, 31744), -1},
		{"one less, beside a capsule", capsule(1, 4097, 50000, 0, 50000, 0), circle(2, 4096, -3968, 7168), -3968, 7168, v(-31744, 57344), -1},
		{"one less, between two capsules", capsule(1, 4097, 50000, 0, 50000, 0), capsule(2, 4096, -3968, 57168, 0, 50000), -3968, 7168, v(-31744, 57344), -1},
		{"one less than the next square", circle(1, 4096, 0, 0), circle(2, 4096, 128, 8192), 128, 8192, v(0, 0), 0},
		{"one less than the next square, at an angle", circle(1, 4096, 0, 0), circle(2, 4096, -7168, 3968), -7168, 3968, v(0, 0), 0},
		{"one more", circle(1, 4096, 0, 0), circle(2, 4096, 8192, -1), 8192, -1, v(0, 0), 0},
		{"one more, at an angle", circle(1, 4096, 0, 0), circle(2, 4097, 2295, 7865), 2295, 7865, v(0, 0), 0},
		{"one more, beside a capsule", capsule(1, 4096, 50000, 0, 50000, 0), circle(2, 4097, -7865, 2295), -7865, 2295, v(0, 0), 0},
		{"one more, great", circle(1, radiusMax, 0, 0), circle(2, radiusMax, 1, 2*radiusMax), 1, 2 * radiusMax, v(0, 0), 0},
		// Below and above the side of the nearest square.
		{"a row less", circle(1, radiusMax, 0, 0), circle(2, radiusMax, 4095, 2*radiusMax-1), 4095, 2*radiusMax - 1, v(31, one), -1},
		{"a row less, but too far aside", circle(1, radiusMax, 0, 0), circle(2, radiusMax, 4096, 2*radiusMax-1), 4096, 2*radiusMax - 1, v(0, 0), 0},
	})
}

// TestBorder goes along the border of the circle of all places at which two circles touch, with the square of the distance in plain integers.
func TestBorder(t *testing.T) {
	const sum = 8193
	y := int32(sum)
	for x := int32(0); x < sum; x++ {
		for x*x+y*y >= sum*sum {
			y--
		}
		a := circle(1, 4096, 100, -100)
		for _, inside := range []api.Vec{v(x, y), v(-x, y), v(-y, -x), v(y, -x)} {
			b := circle(2, 4097, 100+inside.X, -100+inside.Y)
			if _, ok := Of(a, b); !ok || !Touch(a, b) || Gap(a, b) >= 0 {
				t.Fatalf("circles at a distance of %v do not touch", inside)
			}
		}
		for _, outside := range []api.Vec{v(x, y+1), v(-x, y+1), v(-y-1, -x), v(y+1, -x)} {
			b := circle(2, 4097, 100+outside.X, -100+outside.Y)
			if _, ok := Of(a, b); ok || Touch(a, b) || Gap(a, b) != 0 {
				t.Fatalf("circles at a distance of %v touch", outside)
			}
		}
	}
}

func TestCapsules(t *testing.T) {
	checkScenes(t, []scene{
		{"a circle above", capsule(1, one, 0, 0, 10*one, 0), circle(2, one, 5*one, one), 0, one, v(0, one), -one},
		{"a circle above, with the lesser key", capsule(5, one, 0, 0, 10*one, 0), circle(2, one, 5*one, one), 0, -one, v(0, -one), -one},
		{"a circle behind the second end", capsule(1, one, 0, 0, 10*one, 0), circle(2, one, 11*one, 0), one, 0, v(one, 0), -one},
		{"a circle behind the first end", capsule(1, one, 0, 0, 10*one, 0), circle(2, one, -11*one, 0), -one, 0, v(-one, 0), -one},
		{"a circle far behind the end", capsule(1, one, 0, 0, 10*one, 0), circle(2, one, 13*one, 0), 3 * one, 0, v(0, 0), one},
		{"a circle beside an axis at an angle", capsule(1, one, 0, 0, 3*one, 4*one), circle(2, one, -52428, 39321), -52428, 39321, v(-52429, 39321), -65537},
		{"two in the form of a T", capsule(1, one, 0, 0, 10*one, 0), capsule(2, one, 0, 4*one, 0, 3*one), 0, one, v(0, one), -one},
		{"two in the form of a T, with the second end near", capsule(1, one, 0, 0, 10*one, 0), capsule(2, one, 0, 4*one, 0, -3*one), 0, one, v(0, one), -one},
		{"two in the form of a T, with the lesser key above", capsule(2, one, 0, 0, 10*one, 0), capsule(1, one, 0, 4*one, 0, 3*one), 0, -one, v(0, -one), -one},
		{"two in the form of a T, apart", capsule(1, one, 0, 0, 10*one, 0), capsule(2, one, 0, 6*one, 0, 3*one), 0, 3 * one, v(0, 0), one},
		{"end to end", capsule(1, one, 0, 0, one, one), capsule(2, one, 3*one, one, -one, 0), one, 0, v(one, 0), -one},
		{"with boxes that overlap, but apart", capsule(1, one, 0, 0, 8*one, 8*one), capsule(2, one, 8*one, -8*one, 8*one, 8*one), 8 * one, -8 * one, v(0, 0), 610383},
	})
}

// TestCrossing looks at cores with a common point, which counts only if it is an end of one of them.
func TestCrossing(t *testing.T) {
	checkScenes(t, []scene{
		{"apart in spite of it", capsule(1, one, 0, 0, 10*one, 0), capsule(2, one, 0, 0, 0, 5*one), 0, -5 * one, v(0, 0), 3 * one},
		{"just apart", capsule(1, one, 0, 0, 10*one, 0), capsule(2, 4*one, 0, 0, 0, 5*one), 0, -5 * one, v(0, 0), 0},
		{"just together", capsule(1, one, 0, 0, 10*one, 0), capsule(2, 4*one+1, 0, 0, 0, 5*one), 0, -5 * one, v(0, -one), -1},
		{"together", capsule(1, 3*one, 0, 0, 10*one, 0), capsule(2, 3*one, 0, 0, 0, 5*one), 0, -5 * one, v(0, -one), -one},
		{"together, with the lesser key upright", capsule(2, 3*one, 0, 0, 10*one, 0), capsule(1, 3*one, 0, 0, 0, 5*one), 0, 5 * one, v(0, one), -one},
		{"near an end", capsule(1, one, 0, 0, 10*one, 0), capsule(2, one, one, 4*one, 0, 5*one), 0, -one, v(0, -one), -one},
		{"near an end of both", capsule(1, one, 0, 0, 10*one, 0), capsule(2, one, 9*one, 4*one, 0, 6*one), -one, 0, v(-one, 0), -one},
		{"with the first end on the other core", capsule(1, one, 0, 0, 10*one, 0), capsule(2, one, 3*one, 5*one, 0, 5*one), 0, 0, v(one, 0), -2 * one},
		{"with the second end on the other core", capsule(1, one, 0, 0, 10*one, 0), capsule(2, one, 3*one, 5*one, 0, -5*one), 0, 0, v(one, 0), -2 * one},
		{"with the lesser key on the other core", capsule(2, one, 0, 0, 10*one, 0), capsule(1, one, 3*one, 5*one, 0, 5*one), 0, 0, v(one, 0), -2 * one},
		{"with a common end", capsule(1, one, 0, 0, 3*one, 4*one), capsule(2, 2*one, 3*one, 9*one, 0, -5*one), 0, 0, v(one, 0), -3 * one},
		{"a circle on a core", capsule(1, one, 0, 0, 3*one, 4*one), circle(2, one, 1500, 2000), 0, 0, v(one, 0), -2 * one},
		{"a circle with a core on it", circle(1, one, 1500, 2000), capsule(2, one, 0, 0, 3*one, 4*one), 0, 0, v(one, 0), -2 * one},
		{"a circle at an end", capsule(1, one, 7, 8, -9, 10), circle(2, one, 16, -2), 0, 0, v(one, 0), -2 * one},
		{"overlapping on one line", capsule(1, one, 0, 0, 0, 3*one), capsule(2, one, 0, 4*one, 0, 2*one), 0, 0, v(one, 0), -2 * one},
		{"touching on one line", capsule(1, one, 0, 0, 0, 3*one), capsule(2, one, 0, -4*one, 0, one), 0, 0, v(one, 0), -2 * one},
	})
}

func TestSamePlace(t *testing.T) {
	checkScenes(t, []scene{
		{"circles", circle(1, one, 5, 5), circle(2, one, 5, 5), 0, 0, v(one, 0), -2 * one},
		{"circles at the origin", circle(9, one, 0, 0), circle(2, radiusMin, 0, 0), 0, 0, v(one, 0), -69632},
		{"a capsule and a circle", capsule(1, one, -5, 5, one, 3*one), circle(2, one, -5, 5), 0, 0, v(one, 0), -2 * one},
		{"capsules in the same direction", capsule(1, one, 5, -5, 10*one, 20*one), capsule(2, one, 5, -5, 10*one, 20*one), 0, 0, v(one, 0), -2 * one},
		{"capsules in opposite directions", capsule(1, one, 5, -5, 10*one, 20*one), capsule(2, one, 5, -5, -10*one, -20*one), 0, 0, v(one, 0), -2 * one},
		{"a long and a short capsule", capsule(1, one, 5, -5, 10*one, 20*one), capsule(2, one, 5, -5, one, 2*one), 0, 0, v(one, 0), -2 * one},
	})
}

// TestParallel looks at capsules that have several pairs of points with the same square.
func TestParallel(t *testing.T) {
	checkScenes(t, []scene{
		{"beside each other", capsule(1, one, 0, 0, 10*one, 0), capsule(2, one, 0, one, 10*one, 0), 0, one, v(0, one), -one},
		{"in opposite directions", capsule(1, one, 0, 0, 10*one, 0), capsule(2, one, 0, one, -10*one, 0), 0, one, v(0, one), -one},
		{"moved along", capsule(1, one, 0, 0, 10*one, 0), capsule(2, one, 9*one, -one, 10*one, 0), 0, -one, v(0, -one), -one},
		{"upright", capsule(2, one, 0, 0, 0, 10*one), capsule(1, one, one, 3*one, 0, 2*one), -one, 0, v(-one, 0), -one},
		{"one behind the other", capsule(1, one, 0, 0, 10*one, 0), capsule(2, one, 20*one, one, 10*one, 0), 0, one, v(0, one), -one},
		{"one behind the other on one line", capsule(1, one, 0, 0, 10*one, 0), capsule(2, one, 21*one, 0, 10*one, 0), one, 0, v(one, 0), -one},
		{"apart", capsule(1, one, 0, 0, 10*one, 0), capsule(2, one, 0, 2*one, 10*one, 0), 0, 2 * one, v(0, 0), 0},
		{"at an angle", capsule(1, one, 0, 0, 30000, 40000), capsule(2, one, -40000, 30000, 30000, 40000), -40000, 30000, v(-52429, 39321), -81072},
		{"at an angle, one behind the other", capsule(1, one, 0, 0, 30000, 40000), capsule(2, one, 90000, 120000, 30000, 40000), 30000, 40000, v(39321, 52428), -81072},
	})
}

// TestOrderOfKeys looks at pairs of chosen points that depend on the order of the bodies.
func TestOrderOfKeys(t *testing.T) {
	checkScenes(t, []scene{
		// All four pairs have the same square.
		{"the level one first", capsule(1, one, 0, 0, 25000, 0), capsule(2, one, 0, 0, -15000, -20000), 16000, -12000, v(52428, -39322), -111072},
		{"the level one second", capsule(2, one, 0, 0, 25000, 0), capsule(1, one, 0, 0, -15000, -20000), 0, -20000, v(0, -one), -111072},
		{"the level one first, turned", capsule(1, one, 0, 0, -25000, 0), capsule(2, one, 0, 0, -15000, -20000), -16000, 12000, v(-52429, 39321), -111072},
		{"the level one second, turned", capsule(2, one, 0, 0, -25000, 0), capsule(1, one, 0, 0, -15000, -20000), 0, -20000, v(0, -one), -111072},
		{"the middle of both", capsule(1, one, 0, 0, 30000, 0), capsule(2, one, 0, 0, 0, 30000), 30000, 0, v(one, 0), -101072},
		{"the middle of both, the other way round", capsule(2, one, 0, 0, 30000, 0), capsule(1, one, 0, 0, 0, 30000), 0, 30000, v(0, one), -101072},
	})
}

func TestKeys(t *testing.T) {
	for _, x := range [][2]uint32{{0, 1}, {0, greatest}, {1<<31 - 1, 1 << 31}, {5, 1 << 31}, {1, greatest}, {greatest - 1, greatest}, {255, 256}} {
		low, high := circle(x[0], one, 10, 20), circle(x[1], one, 10, 20-one)
		want := api.Contact{Pair: api.Pair{Low: x[0], High: x[1]}, Normal: v(0, -one), Depth: one}
		checkBoth(t, low, high, result{want, true, -one})
		low.Key, high.Key = high.Key, low.Key
		want.Normal = v(0, one)
		checkBoth(t, low, high, result{want, true, -one})
	}
}

func TestLimits(t *testing.T) {
	const w, r, a = worldMax, radiusMax, axisMax
	checkScenes(t, []scene{
		{"the least radii, at one place", circle(1, radiusMin, w, w), circle(2, radiusMin, w, w), 0, 0, v(one, 0), -2 * radiusMin},
		{"the least radii, just together", circle(1, radiusMin, w, -w), circle(2, radiusMin, w-8191, -w), -8191, 0, v(-one, 0), -1},
		{"the least radii, just apart", circle(1, radiusMin, w, -w), circle(2, radiusMin, w-8192, -w), -8192, 0, v(0, 0), 0},
		{"the greatest radii, at one place", circle(1, r, -w, w), circle(2, r, -w, w), 0, 0, v(one, 0), -2 * r},
		{"the greatest radii, just together", circle(1, r, -w, w), circle(2, r, -w, w-2*r+1), 0, 1 - 2*r, v(0, -one), -1},
		{"the greatest radii, just apart", circle(1, r, -w, w), circle(2, r, -w, w-2*r), 0, -2 * r, v(0, 0), 0},
		{"the least and the greatest radius", circle(1, radiusMin, 0, -w), circle(2, r, radiusMin+r-1, -w), 4198399, 0, v(one, 0), -1},
		{"the greatest axes, crossing in a corner", capsule(1, r, w, w, a, a), capsule(2, r, w, w, -a, a), a, a, v(46340, 46340), -2456967},
		{"the greatest axes, beside each other in a corner", capsule(1, r, w, w, a, a), capsule(2, r, w, w-a, a, a), a / 2, -a / 2, v(46340, -46341), -5422788},
		{"the greatest axes, end to end", capsule(1, r, -w, -w, a, a), capsule(2, r, -w+2*a, -w+3*a, a, a), 0, a, v(0, one), -r},
		{"the greatest axes, just apart", capsule(1, r, -w, -w, a, 0), capsule(2, r, -w+4*a, -w, a, 0), 2 * a, 0, v(0, 0), 0},
		{"the greatest axes, just together", capsule(1, r, -w, -w, a, 0), capsule(2, r, -w+4*a-1, -w, a, 0), 2*a - 1, 0, v(one, 0), -1},
		{"the shortest axis", capsule(1, radiusMin, 0, 0, 0, -1), circle(2, radiusMin, 0, 8192), 0, 8191, v(0, one), -1},
	})
}

func TestFar(t *testing.T) {
	const w, a = worldMax, axisMax
	checkScenes(t, []scene{
		{"along an edge", circle(1, one, -w, 0), circle(2, one, w, 0), 2 * w, 0, v(0, 0), 2*w - 2*one},
		{"along an edge, to the left", circle(1, one, w, w), circle(2, one, -w, w), -2 * w, 0, v(0, 0), 2*w - 2*one},
		{"in opposite corners", circle(1, radiusMin, -w, -w), circle(2, radiusMin, w, w), 2 * w, 2 * w, v(0, 0), 3036992307},
		{"in the other corners", circle(2, radiusMax, -w, w), circle(1, radiusMax, w, -w), -2 * w, 2 * w, v(0, 0), 3028611891},
		{"a multiple of 2^16 apart", circle(1, radiusMin, 0, 0), circle(2, radiusMin, one, one), one, one, v(0, 0), 84489},
		{"a multiple of 2^24 apart", circle(1, radiusMax, 0, 0), circle(2, radiusMax, 1<<24, 0), 1 << 24, 0, v(0, 0), 1 << 23},
		{"capsules along an edge", capsule(1, one, -w, 0, a, 0), capsule(2, one, w, 0, a, 0), 2*w - 2*a, 0, v(0, 0), 2*w - 2*a - 2*one},
		{"upright capsules at opposite edges", capsule(1, one, -w, w, 0, a), capsule(2, one, w, w, 0, -a), 2 * w, 0, v(0, 0), 2*w - 2*one},
	})
}

// sizes returns the radii and axes of bodies: circles and capsules in all directions, with the least and the greatest numbers and some between them.
func sizes() []api.Body {
	return []api.Body{
		circle(0, radiusMin, 0, 0),
		circle(0, 5001, 0, 0),
		circle(0, radiusMax, 0, 0),
		capsule(0, radiusMin, 0, 0, 0, -1),
		capsule(0, radiusMin+1, 0, 0, axisMax, 0),
		capsule(0, 5001, 0, 0, -30000, 40000),
		capsule(0, one, 0, 0, 5*one, 2*one),
		capsule(0, one, 0, 0, 0, one),
		capsule(0, 3*one, 0, 0, -one, -one-1),
		capsule(0, radiusMax-1, 0, 0, axisMax, -axisMax),
	}
}

// places returns positions: around the origin and in the corners of the world.
func places() []api.Vec {
	return []api.Vec{v(0, 0), v(-12345, 777), v(worldMax, worldMax), v(-worldMax, worldMax), v(worldMax, -worldMax), v(-worldMax+3*one, -worldMax)}
}

// offsets returns differences whose lengths are a sum of radii, and a unit less and more, and others that are less and far greater.
func offsets(sum int32) []api.Vec {
	part := func(numerator int64) int32 { return int32(int64(sum) * numerator / 5) }
	return []api.Vec{
		v(0, 0), v(1, 0), v(-3, -5), v(sum/2, -sum/3),
		v(sum, 0), v(sum-1, 0), v(sum+1, 0), v(0, -sum), v(0, 1-sum), v(0, -sum-1),
		v(part(3), part(4)), v(part(3)-1, part(4)), v(part(3)+1, part(4)+1),
		v(part(-4), part(3)), v(part(-4)+1, part(3)), v(part(-4)-1, part(3)+1),
		v(sum, sum/7), v(-3*sum, sum), v(worldMax/3, -worldMax/2),
	}
}

// keys returns pairs of keys in both orders.
func keys() [][2]uint32 { return [][2]uint32{{1, 2}, {2, 1}, {0, greatest}, {1 << 31, 7}} }

func inWorld(p api.Vec) bool {
	return max(p.X, p.Y) <= worldMax && min(p.X, p.Y) >= -worldMax
}

// atPlaces returns the positions of b at which it, or one of its ends, has one of the offsets from a or one of the ends of a.
func atPlaces(a, b api.Body) []api.Vec {
	first, second := ends(a)
	var l []api.Vec
	for _, from := range []api.Vec{a.Pos, first, second} {
		for _, o := range offsets(a.Radius + b.Radius) {
			to := plus(from, o)
			for _, pos := range []api.Vec{to, minus(to, b.Axis), plus(to, b.Axis)} {
				if inWorld(pos) {
					l = append(l, pos)
				}
			}
		}
	}
	return l
}

// forEach calls f with pairs of valid bodies, until the test fails.
func forEach(t *testing.T, f func(a, b api.Body)) {
	t.Helper()
	n := 0
	for _, a := range sizes() {
		for _, b := range sizes() {
			for _, a.Pos = range places() {
				for _, b.Pos = range atPlaces(a, b) {
					k := keys()[n%len(keys())]
					a.Key, b.Key = k[0], k[1]
					n++
					if f(a, b); t.Failed() {
						return
					}
				}
			}
		}
	}
	if n < 30000 {
		t.Errorf("only %d pairs of bodies", n)
	}
}

func TestModel(t *testing.T) {
	gaps := map[int64]int{}
	touch, apart := 0, 0
	forEach(t, func(a, b api.Body) {
		want := modelResult(a, b)
		checkResult(t, a, b, want)
		gaps[want.gap]++
		if want.touch {
			touch++
		} else {
			apart++
		}
	})
	if touch < 10000 || apart < 5000 || min(gaps[-1], gaps[0], gaps[1]) < 500 {
		t.Errorf("%d pairs of bodies touch, and %d do not, with the gaps -1, 0 and 1 for %d, %d and %d", touch, apart, gaps[-1], gaps[0], gaps[1])
	}
}

// around returns all vectors whose components have absolute values of at most size.
func around(size int32) []api.Vec {
	var l []api.Vec
	for x := -size; x <= size; x++ {
		for y := -size; y <= size; y++ {
			l = append(l, v(x, y))
		}
	}
	return l
}

// TestSmall looks at all short cores close to each other, many of which have several pairs of points with the same square, or cross each other.
func TestSmall(t *testing.T) {
	several, order := 0, 0
	for _, axis := range around(1) {
		for _, other := range around(2) {
			for _, pos := range around(3) {
				a := capsule(3, 4096, 0, 0, axis.X, axis.Y)
				b := capsule(4, 4096, pos.X, pos.Y, other.X, other.Y)
				checkResult(t, a, b, modelResult(a, b))
				d := modelChosen(a, b)
				for _, p := range modelPairs(a, b) {
					if p.sq == d.sq && p != d {
						several++
						break
					}
				}
				b.Key = 2
				checkResult(t, a, b, modelResult(a, b))
				if e := modelChosen(a, b); e.dx != -d.dx || e.dy != -d.dy {
					order++
				}
			}
		}
	}
	if several < 500 || order < 500 {
		t.Errorf("%d pairs of cores have several differences with the least square, and %d depend on the order", several, order)
	}
}

// interval returns the distance of the intervals from a - x to a + x and from b - y to b + y, which is 0 if they have a common point.
func interval(a, x, b, y int32) int64 {
	abs := func(n int64) int64 { return max(n, -n) }
	return max(0, abs(int64(a)-int64(b))-abs(int64(x))-abs(int64(y)))
}

// TestAxisModel needs no chosen points: cores along the axes are boxes, the distance of which is that of the cores, unless these cross each other.
func TestAxisModel(t *testing.T) {
	n := 0
	forEach(t, func(a, b api.Body) {
		if a.Axis.X != 0 && a.Axis.Y != 0 || b.Axis.X != 0 && b.Axis.Y != 0 {
			return
		}
		x, y := interval(a.Pos.X, a.Axis.X, b.Pos.X, b.Axis.X), interval(a.Pos.Y, a.Axis.Y, b.Pos.Y, b.Axis.Y)
		if x == 0 && y == 0 {
			return
		}
		n++
		sum := int64(a.Radius) + int64(b.Radius)
		touch := uint64(x*x)+uint64(y*y) < uint64(sum*sum)
		if _, ok := Of(a, b); ok != touch || Touch(a, b) != touch || Gap(a, b) < 0 != touch {
			t.Errorf("%+v and %+v touch: %t", a, b, touch)
		}
	})
	if n < 3000 {
		t.Errorf("only %d pairs of bodies along the axes", n)
	}
}

// TestOtherParts changes the parts of bodies that have nothing to do with contacts. Static bodies have contacts as others do, also with each other.
func TestOtherParts(t *testing.T) {
	parts := []api.Body{
		{},
		{InvMass: 1},
		{InvMass: 1048576, Bounce: 65536},
		{Bounce: 65536, Vel: v(16777216, -16777216)},
		{InvMass: 5, Bounce: 6, Vel: v(-7, 8)},
	}
	for _, x := range []scene{
		{"circles", circle(1, one, 0, 0), circle(2, one, -30000, -40000), -30000, -40000, v(-39322, -52429), -81072},
		{"capsules", capsule(5, one, 0, 0, 10*one, 0), capsule(4, one, 0, 4*one, 0, 3*one), 0, -one, v(0, -one), -one},
		{"at one place", circle(7, one, 9, 9), circle(6, one, 9, 9), 0, 0, v(one, 0), -2 * one},
		{"apart", circle(1, one, 0, 0), circle(2, one, 0, -2*one), 0, -2 * one, v(0, 0), 0},
	} {
		for _, p := range parts {
			for _, q := range parts {
				x.a.InvMass, x.a.Bounce, x.a.Vel = p.InvMass, p.Bounce, p.Vel
				x.b.InvMass, x.b.Bounce, x.b.Vel = q.InvMass, q.Bounce, q.Vel
				x.check(t)
			}
		}
	}
}

// P14.3

func TestOrderOfArguments(t *testing.T) {
	forEach(t, func(a, b api.Body) {
		c, ok := Of(a, b)
		if d, also := Of(b, a); d != c || also != ok {
			t.Errorf("Of(%+v, %+v) = %+v, %t, but %+v, %t the other way round", a, b, c, ok, d, also)
		}
		if Touch(a, b) != Touch(b, a) || Gap(a, b) != Gap(b, a) {
			t.Errorf("Touch(%+v, %+v) or Gap depends on the order", a, b)
		}
	})
}

func TestDepth(t *testing.T) {
	deepest := 0
	forEach(t, func(a, b api.Body) {
		c, ok := Of(a, b)
		sum := a.Radius + b.Radius
		if ok && (c.Depth < 1 || c.Depth > sum) {
			t.Errorf("Of(%+v, %+v) has the depth %d", a, b, c.Depth)
		}
		if c.Depth == sum {
			deepest++
		}
		if ok != (Gap(a, b) < 0) || ok && Gap(a, b) != -int64(c.Depth) {
			t.Errorf("Of(%+v, %+v) = %+v, %t, but the gap is %d", a, b, c, ok, Gap(a, b))
		}
	})
	if deepest < 500 {
		t.Errorf("only %d contacts with the greatest depth", deepest)
	}
}

func TestBoxes(t *testing.T) {
	apart := 0
	forEach(t, func(a, b api.Body) {
		overlap := box.Overlap(box.Of(a), box.Of(b))
		if Touch(a, b) && !overlap {
			t.Errorf("%+v and %+v touch, but their boxes do not overlap", a, b)
		}
		if !overlap {
			apart++
		}
	})
	if apart < 1000 {
		t.Errorf("only %d pairs of boxes that do not overlap", apart)
	}
}

func TestMoved(t *testing.T) {
	moves := []api.Vec{v(1, 0), v(-1, -1), v(12345, -54321), v(-one, 1<<20), v(worldMax, worldMax), v(-worldMax, -worldMax), v(-1<<29, 1<<30)}
	moved := 0
	forEach(t, func(a, b api.Body) {
		c, ok := Of(a, b)
		want := result{c, ok, Gap(a, b)}
		for _, by := range moves {
			a, b := body.Moved(a, by), body.Moved(b, by)
			if inWorld(a.Pos) && inWorld(b.Pos) {
				moved++
				checkResult(t, a, b, want)
			}
		}
	})
	if moved < 50000 {
		t.Errorf("only %d pairs of bodies were moved", moved)
	}
}

// TestBeyond calls the functions with bodies that are not valid or have the same key, for which only the rule holds that no function panics.
func TestBeyond(t *testing.T) {
	var beyond []api.Body
	numbers := []int32{math.MinInt32, -1, 0, worldMax + 1, math.MaxInt32}
	for _, radius := range numbers {
		for _, x := range numbers {
			for _, y := range numbers {
				for _, axis := range []api.Vec{v(0, 0), v(x, -1), v(axisMax+1, y), v(y, x)} {
					beyond = append(beyond, capsule(1, radius, x, y, axis.X, axis.Y))
				}
			}
		}
	}
	beyond = append(beyond, circle(1, one, 0, 0))
	for _, a := range beyond {
		for _, b := range beyond {
			Of(a, b)
			Touch(a, b)
			Gap(a, b)
			b.Key = 0
			Of(a, b)
		}
	}
}
