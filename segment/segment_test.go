package segment

import (
	"cmp"
	"math"
	"math/big"
	"slices"
	"testing"

	"billiard/api"
)

const (
	far  = 1082130432 // the greatest absolute value of a component
	long = 16777216   // the greatest difference of the ends
	half = long / 2
	wide = 2 * far // the greatest difference of a component of two points
)

func v(x, y int32) api.Vec { return api.Vec{X: x, Y: y} }

// plus returns a + b. A sum that has no room in an int32 is not within the limits as it is.
func plus(a, b api.Vec) api.Vec { return v(a.X+b.X, a.Y+b.Y) }

// The model: the four pairs in exact integers of math/big.

// A pair is a point of each of two segments, with the square of their distance.
type pair struct {
	a, b api.Vec
	sq   uint64
}

func difference(from, to int32) *big.Int { return big.NewInt(int64(to) - int64(from)) }

// scalar returns ax * bx + ay * by.
func scalar(ax, ay, bx, by *big.Int) *big.Int {
	x, y := new(big.Int).Mul(ax, bx), new(big.Int).Mul(ay, by)
	return x.Add(x, y)
}

// modelNearest uses the Euclidean division of math/big, which rounds down for positive divisors.
func modelNearest(p, q, c api.Vec) api.Vec {
	dx, dy := difference(p.X, q.X), difference(p.Y, q.Y)
	n := scalar(difference(p.X, c.X), difference(p.Y, c.Y), dx, dy)
	d := scalar(dx, dy, dx, dy)
	if d.Sign() == 0 || n.Sign() < 0 {
		return p
	}
	if n.Cmp(d) > 0 {
		return q
	}
	x, y := dx.Mul(dx, n), dy.Mul(dy, n)
	return v(p.X+int32(x.Div(x, d).Int64()), p.Y+int32(y.Div(y, d).Int64()))
}

func modelPair(a, b api.Vec) pair {
	x, y := difference(a.X, b.X), difference(a.Y, b.Y)
	return pair{a, b, scalar(x, y, x, y).Uint64()}
}

func modelPairs(ap, aq, bp, bq api.Vec) [4]pair {
	return [4]pair{
		modelPair(ap, modelNearest(bp, bq, ap)),
		modelPair(aq, modelNearest(bp, bq, aq)),
		modelPair(modelNearest(ap, aq, bp), bp),
		modelPair(modelNearest(ap, aq, bq), bq),
	}
}

// first returns the first one of the pairs with the least square.
func first(pairs [4]pair) pair {
	return slices.MinFunc(pairs[:], func(a, b pair) int { return cmp.Compare(a.sq, b.sq) })
}

func checkPair(t *testing.T, ap, aq, bp, bq api.Vec, want pair) {
	t.Helper()
	if a, b := Chosen(ap, aq, bp, bq); a != want.a || b != want.b {
		t.Errorf("Chosen(%v, %v, %v, %v) = %v, %v, want %v, %v", ap, aq, bp, bq, a, b, want.a, want.b)
	}
	if sq := DistSq(ap, aq, bp, bq); sq != want.sq {
		t.Errorf("DistSq(%v, %v, %v, %v) = %d, want %d", ap, aq, bp, bq, sq, want.sq)
	}
}

// A scene is two segments, with the squares of the four pairs and the chosen points.
type scene struct {
	name           string
	ap, aq, bp, bq api.Vec
	squares        [4]uint64
	a, b           api.Vec
}

func (x scene) check(t *testing.T) {
	t.Helper()
	// The squares say what a scene is an example of.
	for i, p := range modelPairs(x.ap, x.aq, x.bp, x.bq) {
		if p.sq != x.squares[i] {
			t.Errorf("the pair %d has the square %d and not %d", i, p.sq, x.squares[i])
		}
	}
	checkPair(t, x.ap, x.aq, x.bp, x.bq, pair{x.a, x.b, slices.Min(x.squares[:])})
}

func checkScenes(t *testing.T, scenes []scene) {
	t.Helper()
	for _, x := range scenes {
		t.Run(x.name, x.check)
	}
}

// P13.1

func TestExample(t *testing.T) {
	checkScenes(t, []scene{
		{"of the chapter", v(0, 0), v(10, 0), v(4, 3), v(4, 9), [4]uint64{25, 45, 9, 81}, v(4, 0), v(4, 3)},
		{"the other way round", v(4, 3), v(4, 9), v(0, 0), v(10, 0), [4]uint64{9, 81, 25, 45}, v(4, 3), v(4, 0)},
	})
}

func TestEachPair(t *testing.T) {
	checkScenes(t, []scene{
		{"the first end of the first", v(0, 0), v(0, 10), v(-5, -3), v(7, -3), [4]uint64{9, 169, 34, 58}, v(0, 0), v(0, -3)},
		{"the second end of the first", v(0, 10), v(0, 0), v(-5, -3), v(7, -3), [4]uint64{169, 9, 34, 58}, v(0, 0), v(0, -3)},
		{"the first end of the second", v(-5, -3), v(7, -3), v(0, 0), v(0, 10), [4]uint64{34, 58, 9, 169}, v(0, -3), v(0, 0)},
		{"the second end of the second", v(-5, -3), v(7, -3), v(0, 10), v(0, 0), [4]uint64{34, 58, 169, 9}, v(0, -3), v(0, 0)},
		{"two ends", v(0, 0), v(-8, 1), v(3, -4), v(9, -9), [4]uint64{25, 146, 25, 162}, v(0, 0), v(3, -4)},
	})
}

// TestSameSquares looks at pairs with the same square but other points, in every position.
func TestSameSquares(t *testing.T) {
	checkScenes(t, []scene{
		{"0 and 1", v(0, 0), v(4, 0), v(-3, 5), v(9, 5), [4]uint64{25, 25, 34, 50}, v(0, 0), v(0, 5)},
		{"0 and 2", v(0, 0), v(10, 0), v(5, 4), v(-5, 4), [4]uint64{16, 41, 16, 41}, v(0, 0), v(0, 4)},
		{"0 and 3", v(0, 0), v(10, 0), v(-5, 4), v(5, 4), [4]uint64{16, 41, 41, 16}, v(0, 0), v(0, 4)},
		{"1 and 2", v(0, 0), v(10, 0), v(5, 4), v(15, 4), [4]uint64{41, 16, 16, 41}, v(10, 0), v(10, 4)},
		{"1 and 3", v(0, 0), v(10, 0), v(15, 4), v(5, 4), [4]uint64{41, 16, 41, 16}, v(10, 0), v(10, 4)},
		{"2 and 3", v(-3, 5), v(9, 5), v(0, 0), v(4, 0), [4]uint64{34, 50, 25, 25}, v(0, 5), v(0, 0)},
		{"all but 0", v(-30, -40), v(15, 20), v(-25, 0), v(25, 0), [4]uint64{1625, 400, 400, 400}, v(15, 20), v(15, 0)},
		{"all but 1", v(15, 20), v(-30, -40), v(-25, 0), v(25, 0), [4]uint64{400, 1625, 400, 400}, v(15, 20), v(15, 0)},
		{"all but 2", v(-25, 0), v(25, 0), v(-30, -40), v(15, 20), [4]uint64{400, 400, 1625, 400}, v(-25, 0), v(-9, -12)},
		{"all but 3", v(-25, 0), v(25, 0), v(15, 20), v(-30, -40), [4]uint64{400, 400, 400, 1625}, v(-25, 0), v(-9, -12)},
		{"all", v(-25, 0), v(25, 0), v(15, 20), v(-15, -20), [4]uint64{400, 400, 400, 400}, v(-25, 0), v(-9, -12)},
		{"all, with the first one turned", v(25, 0), v(-25, 0), v(15, 20), v(-15, -20), [4]uint64{400, 400, 400, 400}, v(25, 0), v(9, 12)},
		{"all, exchanged", v(15, 20), v(-15, -20), v(-25, 0), v(25, 0), [4]uint64{400, 400, 400, 400}, v(15, 20), v(15, 0)},
		{"all, at two places", v(0, 0), v(2, 0), v(0, 3), v(2, 3), [4]uint64{9, 9, 9, 9}, v(0, 0), v(0, 3)},
		{"all, at two places, with the first one turned", v(2, 0), v(0, 0), v(0, 3), v(2, 3), [4]uint64{9, 9, 9, 9}, v(2, 0), v(2, 3)},
		{"all, at two places, with the second one turned", v(0, 0), v(2, 0), v(2, 3), v(0, 3), [4]uint64{9, 9, 9, 9}, v(0, 0), v(0, 3)},
	})
}

func TestParallel(t *testing.T) {
	checkScenes(t, []scene{
		{"the second within the first", v(0, 0), v(10, 0), v(2, 5), v(8, 5), [4]uint64{29, 29, 25, 25}, v(2, 0), v(2, 5)},
		{"the first within the second", v(2, 5), v(8, 5), v(10, 0), v(0, 0), [4]uint64{25, 25, 29, 29}, v(2, 5), v(2, 0)},
		{"upwards", v(0, 0), v(0, 10), v(-7, 4), v(-7, 14), [4]uint64{65, 49, 49, 65}, v(0, 10), v(-7, 10)},
		{"in opposite directions", v(0, 0), v(0, 10), v(-7, 14), v(-7, 4), [4]uint64{65, 49, 65, 49}, v(0, 10), v(-7, 10)},
		{"end beside end", v(0, 0), v(10, 0), v(10, 3), v(20, 3), [4]uint64{109, 9, 9, 109}, v(10, 0), v(10, 3)},
		{"one behind the other", v(0, 0), v(10, 0), v(14, 3), v(20, 3), [4]uint64{205, 25, 25, 109}, v(10, 0), v(14, 3)},
		{"at an angle", v(0, 0), v(30, 40), v(7, 26), v(37, 66), [4]uint64{725, 100, 100, 725}, v(30, 40), v(22, 46)},
		{"at an angle, one behind the other", v(0, 0), v(30, 40), v(82, 124), v(52, 84), [4]uint64{9760, 2420, 9760, 2420}, v(30, 40), v(52, 84)},
	})
}

func TestOnOneLine(t *testing.T) {
	checkScenes(t, []scene{
		{"overlapping", v(0, 0), v(10, 0), v(6, 0), v(16, 0), [4]uint64{36, 0, 0, 36}, v(10, 0), v(10, 0)},
		{"overlapping, in opposite directions", v(0, 0), v(10, 0), v(16, 0), v(6, 0), [4]uint64{36, 0, 36, 0}, v(10, 0), v(10, 0)},
		{"overlapping, the first one turned", v(10, 0), v(0, 0), v(6, 0), v(16, 0), [4]uint64{0, 36, 0, 36}, v(10, 0), v(10, 0)},
		{"the second within the first", v(0, 0), v(10, 0), v(3, 0), v(5, 0), [4]uint64{9, 25, 0, 0}, v(3, 0), v(3, 0)},
		{"the second within the first, turned", v(0, 0), v(10, 0), v(5, 0), v(3, 0), [4]uint64{9, 25, 0, 0}, v(5, 0), v(5, 0)},
		{"the first within the second", v(3, 0), v(5, 0), v(0, 0), v(10, 0), [4]uint64{0, 0, 9, 25}, v(3, 0), v(3, 0)},
		{"touching", v(0, 0), v(4, 0), v(4, 0), v(9, 0), [4]uint64{16, 0, 0, 25}, v(4, 0), v(4, 0)},
		{"apart", v(0, 0), v(4, 0), v(6, 0), v(9, 0), [4]uint64{36, 4, 4, 25}, v(4, 0), v(6, 0)},
		{"apart, both turned", v(4, 0), v(0, 0), v(9, 0), v(6, 0), [4]uint64{4, 36, 25, 4}, v(4, 0), v(6, 0)},
		{"apart by a unit, upwards", v(2, 0), v(2, 4), v(2, -5), v(2, -1), [4]uint64{1, 25, 25, 1}, v(2, 0), v(2, -1)},
		{"at an angle, overlapping", v(0, 0), v(6, 8), v(3, 4), v(9, 12), [4]uint64{25, 0, 0, 25}, v(6, 8), v(6, 8)},
		{"at an angle, touching", v(0, 0), v(6, 8), v(-3, -4), v(0, 0), [4]uint64{0, 100, 25, 0}, v(0, 0), v(0, 0)},
		{"at an angle, apart", v(0, 0), v(3, 4), v(6, 8), v(9, 12), [4]uint64{100, 25, 25, 100}, v(3, 4), v(6, 8)},
	})
}

// TestCrossing looks at segments with a common point, which counts only if it is an end of one of them.
func TestCrossing(t *testing.T) {
	checkScenes(t, []scene{
		{"at a right angle", v(0, 0), v(10, 0), v(5, -2), v(5, 3), [4]uint64{25, 25, 4, 9}, v(5, 0), v(5, -2)},
		{"with an end of the first one nearer", v(4, 0), v(-10, 0), v(0, -9), v(0, 7), [4]uint64{16, 100, 81, 49}, v(4, 0), v(0, 0)},
		{"in the middle of both", v(0, 0), v(10, 10), v(0, 10), v(10, 0), [4]uint64{50, 50, 50, 50}, v(0, 0), v(5, 5)},
		{"at an acute angle", v(-10, 0), v(20, 0), v(-30, -10), v(60, 20), [4]uint64{10, 40, 500, 2000}, v(-10, 0), v(-9, -3)},
		{"at the first end of the first", v(0, 0), v(0, 5), v(-3, 0), v(4, 0), [4]uint64{0, 25, 9, 16}, v(0, 0), v(0, 0)},
		{"at the second end of the first", v(0, 5), v(0, 0), v(-3, 0), v(4, 0), [4]uint64{25, 0, 9, 16}, v(0, 0), v(0, 0)},
		{"at the first end of the second", v(0, 0), v(10, 0), v(5, 0), v(5, 5), [4]uint64{25, 25, 0, 25}, v(5, 0), v(5, 0)},
		{"at the second end of the second", v(0, 0), v(10, 0), v(5, 5), v(5, 0), [4]uint64{25, 25, 25, 0}, v(5, 0), v(5, 0)},
	})
}

func TestSinglePoints(t *testing.T) {
	checkScenes(t, []scene{
		{"the first one", v(1, 1), v(1, 1), v(0, 0), v(9, 0), [4]uint64{1, 1, 2, 65}, v(1, 1), v(1, 0)},
		{"the first one, behind an end", v(-3, 4), v(-3, 4), v(0, 0), v(9, 0), [4]uint64{25, 25, 25, 160}, v(-3, 4), v(0, 0)},
		{"the first one, at an end", v(9, 0), v(9, 0), v(0, 0), v(9, 0), [4]uint64{0, 0, 81, 0}, v(9, 0), v(9, 0)},
		{"the first one, on the second", v(3, 4), v(3, 4), v(0, 0), v(9, 12), [4]uint64{0, 0, 25, 100}, v(3, 4), v(3, 4)},
		{"the second one", v(0, 0), v(9, 0), v(1, 1), v(1, 1), [4]uint64{2, 65, 1, 1}, v(1, 0), v(1, 1)},
		{"the second one, behind an end", v(0, 0), v(9, 0), v(12, 4), v(12, 4), [4]uint64{160, 25, 25, 25}, v(9, 0), v(12, 4)},
		{"the second one, at an end", v(0, 0), v(9, 0), v(9, 0), v(9, 0), [4]uint64{81, 0, 0, 0}, v(9, 0), v(9, 0)},
		{"the second one, on the first", v(0, 0), v(9, 12), v(3, 4), v(3, 4), [4]uint64{25, 100, 0, 0}, v(3, 4), v(3, 4)},
		{"both", v(0, 0), v(0, 0), v(3, 4), v(3, 4), [4]uint64{25, 25, 25, 25}, v(0, 0), v(3, 4)},
		{"both at one place", v(-7, 2), v(-7, 2), v(-7, 2), v(-7, 2), [4]uint64{}, v(-7, 2), v(-7, 2)},
		{"both at the origin", v(0, 0), v(0, 0), v(0, 0), v(0, 0), [4]uint64{}, v(0, 0), v(0, 0)},
	})
}

func TestCommonEnds(t *testing.T) {
	checkScenes(t, []scene{
		{"the same segment twice", v(1, 2), v(8, 5), v(1, 2), v(8, 5), [4]uint64{}, v(1, 2), v(1, 2)},
		{"the same segment, turned", v(1, 2), v(8, 5), v(8, 5), v(1, 2), [4]uint64{}, v(1, 2), v(1, 2)},
		{"the first ends", v(0, 0), v(3, 4), v(0, 0), v(5, 0), [4]uint64{0, 16, 0, 20}, v(0, 0), v(0, 0)},
		{"the first and the second end", v(0, 0), v(3, 4), v(5, 0), v(0, 0), [4]uint64{0, 16, 20, 0}, v(0, 0), v(0, 0)},
		{"the second and the first end", v(3, 4), v(0, 0), v(0, 0), v(5, 0), [4]uint64{16, 0, 0, 20}, v(0, 0), v(0, 0)},
		{"the second ends", v(3, 4), v(0, 0), v(5, 0), v(0, 0), [4]uint64{16, 0, 20, 0}, v(0, 0), v(0, 0)},
		{"at an obtuse angle", v(-6, 1), v(1, 1), v(1, 1), v(7, -4), [4]uint64{49, 0, 0, 61}, v(1, 1), v(1, 1)},
	})
}

// TestFloors looks at nearest points that are rounded down, which makes their distances longer or shorter.
func TestFloors(t *testing.T) {
	checkScenes(t, []scene{
		// Before they are rounded, the least square is that of two pairs.
		{"0 and not 2", v(0, 0), v(-5, 5), v(-3, 6), v(2, 1), [4]uint64{2, 5, 8, 5}, v(0, 0), v(1, 1)},
		{"1 and not 2", v(0, 0), v(-5, 5), v(-3, 6), v(-8, 11), [4]uint64{45, 2, 8, 45}, v(-5, 5), v(-4, 6)},
		{"2 and not 0", v(0, 0), v(-5, 5), v(-9, -8), v(-4, -13), [4]uint64{162, 185, 128, 185}, v(-1, 0), v(-9, -8)},
		{"3 and not 1", v(0, 0), v(-5, 5), v(-9, 2), v(-4, -3), [4]uint64{25, 32, 25, 18}, v(-1, 0), v(-4, -3)},
		// Before they are rounded, the least square is that of another pair.
		{"0 instead of 2", v(0, 0), v(-1, -3), v(2, -2), v(3, -4), [4]uint64{8, 10, 9, 17}, v(0, 0), v(2, -2)},
		{"1 instead of 3", v(0, 0), v(1, -3), v(3, 3), v(1, -2), [4]uint64{2, 1, 18, 2}, v(1, -3), v(1, -2)},
		{"2 instead of 1", v(0, 0), v(3, -3), v(3, -4), v(-4, -2), [4]uint64{10, 2, 1, 20}, v(3, -3), v(3, -4)},
		{"3 instead of 0", v(0, 0), v(3, 2), v(-2, 4), v(0, -1), [4]uint64{2, 20, 20, 1}, v(0, 0), v(0, -1)},
	})
}

func TestGreatest(t *testing.T) {
	const inner, innermost = wide - long, wide - 2*long
	checkScenes(t, []scene{
		{"points in opposite corners", v(-far, -far), v(-far, -far), v(far, far), v(far, far), [4]uint64{2 * wide * wide, 2 * wide * wide, 2 * wide * wide, 2 * wide * wide}, v(-far, -far), v(far, far)},
		// The squares are greater than 2^63 or not.
		{"diagonals in opposite corners", v(-far, -far), v(-far+long, -far+long), v(far, far), v(far-long, far-long), [4]uint64{2 * inner * inner, 2 * innermost * innermost, 2 * inner * inner, 2 * innermost * innermost}, v(-far+long, -far+long), v(far-long, far-long)},
		{"diagonals in the other corners", v(far-long, -far+long), v(far, -far), v(-far, far), v(-far+long, far-long), [4]uint64{2 * innermost * innermost, 2 * inner * inner, 2 * inner * inner, 2 * innermost * innermost}, v(far-long, -far+long), v(-far+long, far-long)},
		{"a point and a diagonal", v(far, far), v(far, far), v(-far, -far), v(-far+long, -far+long), [4]uint64{2 * inner * inner, 2 * inner * inner, 2 * wide * wide, 2 * inner * inner}, v(far, far), v(-far+long, -far+long)},
		{"at opposite edges", v(-far, far), v(-far, far-long), v(far, -far), v(far, -far+long), [4]uint64{wide*wide + inner*inner, wide*wide + innermost*innermost, wide*wide + inner*inner, wide*wide + innermost*innermost}, v(-far, far-long), v(far, -far+long)},
		{"beside each other at opposite edges", v(-far, far-long), v(-far, far), v(far, far-long), v(far, far), [4]uint64{wide * wide, wide * wide, wide * wide, wide * wide}, v(-far, far-long), v(far, far-long)},
		{"on one line along an edge", v(-far, far), v(-far+long, far), v(far, far), v(far-long, far), [4]uint64{inner * inner, innermost * innermost, inner * inner, innermost * innermost}, v(-far+long, far), v(far-long, far)},
		{"crossing in a corner", v(far-long, far-long), v(far, far), v(far-long, far), v(far, far-long), [4]uint64{2 * half * half, 2 * half * half, 2 * half * half, 2 * half * half}, v(far-long, far-long), v(far-half, far-half)},
		{"the same diagonal twice", v(far, -far), v(far-long, -far+long), v(far, -far), v(far-long, -far+long), [4]uint64{}, v(far, -far), v(far, -far)},
		{"a short one beside a diagonal", v(far, far), v(far-long, far-long), v(far, far-long), v(far-1, far-long), [4]uint64{long * long, (long - 1) * (long - 1), 2 * half * half, half*half + (half-1)*(half-1)}, v(far-half-1, far-half-1), v(far-1, far-long)},
	})
}

// starts returns first ends: around the origin and at the greatest components.
func starts() []api.Vec {
	return []api.Vec{v(0, 0), v(7, -9), v(-65536, 98304), v(far, far), v(-far, far), v(-far, -far), v(far, -far), v(half, -far)}
}

// steps returns differences of the ends in all directions: none, the shortest and the longest ones, and some between them.
func steps() []api.Vec {
	l := []api.Vec{v(0, 0)}
	for _, s := range []api.Vec{v(1, 0), v(2, 1), v(4, -3), v(1000, 1), v(65536, 98304), v(long, 0), v(long-1, long)} {
		for range 4 {
			l = append(l, s)
			s = v(-s.Y, s.X)
		}
	}
	return l
}

// offsets returns differences from a place of the first segment to the first end of the second one.
func offsets() []api.Vec {
	return []api.Vec{v(0, 0), v(1, 0), v(-2, -3), v(-5, 7), v(99999, -77777), v(-long, half), v(-wide/4, wide/3)}
}

// within reports whether the components of all vectors are those of segments.
func within(all ...api.Vec) bool {
	for _, a := range all {
		if max(a.X, a.Y) > far || min(a.X, a.Y) < -far {
			return false
		}
	}
	return true
}

// forEach calls f with pairs of segments: the second one starts at or near a place on the first one, or in the far.
func forEach(t *testing.T, f func(ap, aq, bp, bq api.Vec)) {
	t.Helper()
	n := 0
	for _, ap := range starts() {
		for _, s := range steps() {
			aq := plus(ap, s)
			for _, k := range []int64{0, 2, 3} {
				place := plus(ap, v(int32(int64(s.X)*k/3), int32(int64(s.Y)*k/3)))
				for _, o := range offsets() {
					bp := plus(place, o)
					for _, u := range steps() {
						bq := plus(bp, u)
						if within(ap, aq, bp, bq) && !t.Failed() {
							n++
							f(ap, aq, bp, bq)
						}
					}
				}
			}
		}
	}
	if n < 50000 && !t.Failed() {
		t.Errorf("only %d pairs of segments", n)
	}
}

func TestModel(t *testing.T) {
	forEach(t, func(ap, aq, bp, bq api.Vec) {
		checkPair(t, ap, aq, bp, bq, first(modelPairs(ap, aq, bp, bq)))
	})
}

// sameSquares returns a bit for each pair with the least square, or 0 if two of these pairs have the same points.
func sameSquares(pairs [4]pair) int {
	chosen := first(pairs)
	bits := 0
	for i, p := range pairs {
		if p.sq != chosen.sq {
			continue
		}
		if slices.Contains(pairs[:i], p) {
			return 0
		}
		bits |= 1 << i
	}
	return bits
}

// TestSmall looks at all segments from the origin, and all other segments, with small components.
func TestSmall(t *testing.T) {
	const size = 3
	var small []api.Vec
	for x := int32(-size); x <= size; x++ {
		for y := int32(-size); y <= size; y++ {
			small = append(small, v(x, y))
		}
	}
	var seen [16]int
	for _, aq := range small {
		for _, bp := range small {
			for _, bq := range small {
				pairs := modelPairs(v(0, 0), aq, bp, bq)
				checkPair(t, v(0, 0), aq, bp, bq, first(pairs))
				seen[sameSquares(pairs)]++
			}
		}
	}
	if slices.Min(seen[:]) == 0 {
		t.Errorf("the pairs with the least square are not in all positions: %v", seen)
	}
}

// gap returns the distance of two intervals with the given ends, which is 0 if they have a common point.
func gap(ap, aq, bp, bq int32) uint64 {
	return uint64(max(0, int64(min(ap, aq))-int64(max(bp, bq)), int64(min(bp, bq))-int64(max(ap, aq))))
}

// TestAxisModel needs no nearest points: segments along the axes are boxes, the distance of which is that of the segments, unless these cross each other.
func TestAxisModel(t *testing.T) {
	n := 0
	forEach(t, func(ap, aq, bp, bq api.Vec) {
		if ap.X != aq.X && ap.Y != aq.Y || bp.X != bq.X && bp.Y != bq.Y {
			return
		}
		x, y := gap(ap.X, aq.X, bp.X, bq.X), gap(ap.Y, aq.Y, bp.Y, bq.Y)
		sameLine := ap.X == aq.X && bp.X == bq.X || ap.Y == aq.Y && bp.Y == bq.Y
		if x == 0 && y == 0 && !sameLine {
			return
		}
		n++
		if got := DistSq(ap, aq, bp, bq); got != x*x+y*y {
			t.Errorf("DistSq(%v, %v, %v, %v) = %d, want %d", ap, aq, bp, bq, got, x*x+y*y)
		}
	})
	if n < 1000 {
		t.Errorf("only %d pairs of segments along the axes", n)
	}
}

// P13.2

func TestExchanged(t *testing.T) {
	forEach(t, func(ap, aq, bp, bq api.Vec) {
		if got, want := DistSq(bp, bq, ap, aq), DistSq(ap, aq, bp, bq); got != want {
			t.Errorf("DistSq(%v, %v, %v, %v) = %d, but %d with the segments exchanged", bp, bq, ap, aq, got, want)
		}
		// The points are the same ones if no other pair has the least square.
		pairs := modelPairs(ap, aq, bp, bq)
		if bits := sameSquares(pairs); bits != 0 && bits&(bits-1) == 0 {
			p := first(pairs)
			checkPair(t, bp, bq, ap, aq, pair{p.b, p.a, p.sq})
		}
	})
}

func TestMoved(t *testing.T) {
	moves := []api.Vec{v(1, 0), v(-1, -1), v(12345, -54321), v(-long, far), v(far, far), v(-far, -far), v(-1<<30, 1<<30)}
	moved := 0
	forEach(t, func(ap, aq, bp, bq api.Vec) {
		a, b := Chosen(ap, aq, bp, bq)
		sq := DistSq(ap, aq, bp, bq)
		for _, by := range moves {
			ap2, aq2, bp2, bq2 := plus(ap, by), plus(aq, by), plus(bp, by), plus(bq, by)
			if within(ap2, aq2, bp2, bq2) {
				moved++
				checkPair(t, ap2, aq2, bp2, bq2, pair{plus(a, by), plus(b, by), sq})
			}
		}
	})
	if moved < 50000 {
		t.Errorf("only %d pairs of segments were moved", moved)
	}
}

// TestBeyond calls the functions with arguments for which only the rule holds that no function panics.
func TestBeyond(t *testing.T) {
	beyond := []api.Vec{v(0, 0), v(1<<16, -1), v(far+1, -far-1), v(math.MinInt32, math.MinInt32), v(math.MaxInt32, math.MaxInt32), v(math.MinInt32, math.MaxInt32), v(math.MaxInt32, 0)}
	for _, ap := range beyond {
		for _, aq := range beyond {
			for _, bp := range beyond {
				for _, bq := range beyond {
					Chosen(ap, aq, bp, bq)
					DistSq(ap, aq, bp, bq)
				}
			}
		}
	}
}
