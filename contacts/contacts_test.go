package contacts

import (
	"cmp"
	"math"
	"math/big"
	"slices"
	"testing"

	"billiard/api"
	"billiard/pairs"
	"billiard/view"
)

// The limits of the chapters are written out, so that they are checked as well.
const (
	one       = 65536
	width     = 4194304 // of a cell
	worldMax  = 1073741824
	radiusMin = 4096
	radiusMax = 4194304
	axisMax   = 4194304
	capacity  = 4096
	greatest  = math.MaxUint32 // key
	least     = math.MinInt32
	most      = math.MaxInt32
)

// circle returns a circle with the radius 1.
func circle(key uint32, x, y int32) api.Body { return ball(key, one, x, y) }

func ball(key uint32, radius, x, y int32) api.Body {
	return api.Body{Key: key, Radius: radius, InvMass: one, Pos: api.Vec{X: x, Y: y}}
}

// rod returns a capsule at a position.
func rod(key uint32, radius, axisX, axisY, x, y int32) api.Body {
	b := ball(key, radius, x, y)
	b.Axis = api.Vec{X: axisX, Y: axisY}
	return b
}

// static returns a body without a mass.
func static(b api.Body) api.Body {
	b.InvMass = 0
	return b
}

// c returns the contact of two keys with a normal and a depth.
func c(low, high uint32, x, y, depth int32) api.Contact {
	return api.Contact{Pair: api.Pair{Low: low, High: high}, Normal: api.Vec{X: x, Y: y}, Depth: depth}
}

func list(l ...api.Contact) []api.Contact { return l }

// atOnePlace returns the contacts of bodies at the same place, all with the same depth, for keys in ascending order.
func atOnePlace(depth int32, keys ...uint32) []api.Contact {
	var l []api.Contact
	for i, low := range keys {
		for _, high := range keys[i+1:] {
			l = append(l, c(low, high, one, 0, depth))
		}
	}
	return l
}

// checkView ends the test if v is no view, as nothing is promised then.
func checkView(t *testing.T, v []api.Body) {
	t.Helper()
	if err := view.Check(v); err != api.OK {
		t.Fatalf("the bodies are no view: %d", err)
	}
}

// checkTests compares the number of comparisons with that of layer 11 and its bounds.
func checkTests(t *testing.T, v []api.Body, tests int) {
	t.Helper()
	found, want := pairs.Find(v)
	if n := len(v); tests != want || tests < len(found) || tests > n*(n-1)/2 {
		t.Errorf("All compared %d times, and Find %d times, with %d bodies and %d pairs", tests, want, n, len(found))
	}
}

func checkAll(t *testing.T, v []api.Body, want []api.Contact) {
	t.Helper()
	checkView(t, v)
	got, tests := All(v)
	if !slices.Equal(got, want) {
		t.Errorf("All = %v, want %v", got, want)
	}
	checkTests(t, v, tests)
}

func checkWith(t *testing.T, l []api.Contact, key uint32, want []api.Contact) {
	t.Helper()
	if got := With(l, key); !slices.Equal(got, want) {
		t.Errorf("With(%v, %d) = %v, want %v", l, key, got, want)
	}
}

func checkDeepest(t *testing.T, l []api.Contact, want api.Contact, ok bool) {
	t.Helper()
	if got, found := Deepest(l); got != want || found != ok {
		t.Errorf("Deepest(%v) = %v, %t, want %v, %t", l, got, found, want, ok)
	}
}

// The model looks at all pairs of bodies, and has no boxes. It computes contacts in exact integers of math/big.

func difference(from, to int32) *big.Int { return big.NewInt(int64(to) - int64(from)) }

// scalar returns ax * bx + ay * by.
func scalar(ax, ay, bx, by *big.Int) *big.Int {
	x, y := new(big.Int).Mul(ax, bx), new(big.Int).Mul(ay, by)
	return x.Add(x, y)
}

// A segment is the core of a body.
type segment struct{ p, q api.Vec }

func coreOf(b api.Body) segment {
	return segment{api.Vec{X: b.Pos.X - b.Axis.X, Y: b.Pos.Y - b.Axis.Y}, api.Vec{X: b.Pos.X + b.Axis.X, Y: b.Pos.Y + b.Axis.Y}}
}

// nearest uses the Euclidean division of math/big, which rounds down for positive divisors.
func (s segment) nearest(to api.Vec) api.Vec {
	dx, dy := difference(s.p.X, s.q.X), difference(s.p.Y, s.q.Y)
	n := scalar(difference(s.p.X, to.X), difference(s.p.Y, to.Y), dx, dy)
	d := scalar(dx, dy, dx, dy)
	if d.Sign() == 0 || n.Sign() < 0 {
		return s.p
	}
	if n.Cmp(d) > 0 {
		return s.q
	}
	x, y := dx.Mul(dx, n), dy.Mul(dy, n)
	return api.Vec{X: s.p.X + int32(x.Div(x, d).Int64()), Y: s.p.Y + int32(y.Div(y, d).Int64())}
}

// An apart is the difference of two points, with its square.
type apart struct{ dx, dy, sq *big.Int }

func apartOf(from, to api.Vec) apart {
	x, y := difference(from.X, to.X), difference(from.Y, to.Y)
	return apart{x, y, scalar(x, y, x, y)}
}

// chosen returns the difference of the chosen points of two cores.
func chosen(a, b segment) apart {
	l := []apart{
		apartOf(a.p, b.nearest(a.p)),
		apartOf(a.q, b.nearest(a.q)),
		apartOf(a.nearest(b.p), b.p),
		apartOf(a.nearest(b.q), b.q),
	}
	return slices.MinFunc(l, func(a, b apart) int { return a.sq.Cmp(b.sq) })
}

// unit returns the unit vector of a difference with a length.
func (d apart) unit(length *big.Int) api.Vec {
	if d.sq.Sign() == 0 {
		return api.Vec{X: one}
	}
	part := func(n *big.Int) int32 {
		x := new(big.Int).Mul(n, big.NewInt(one))
		return int32(x.Div(x, length).Int64())
	}
	return api.Vec{X: part(d.dx), Y: part(d.dy)}
}

// modelContact returns the contact of two bodies, that with the lesser key first, and whether they touch.
func modelContact(low, high api.Body) (api.Contact, bool) {
	d := chosen(coreOf(low), coreOf(high))
	sum := int64(low.Radius) + int64(high.Radius)
	if d.sq.Cmp(big.NewInt(sum*sum)) >= 0 {
		return api.Contact{}, false
	}
	length := new(big.Int).Sqrt(d.sq)
	n := d.unit(length)
	return c(low.Key, high.Key, n.X, n.Y, int32(sum-length.Int64())), true
}

func modelAll(v []api.Body) []api.Contact {
	var l []api.Contact
	for i, low := range v {
		for _, high := range v[i+1:] {
			if found, ok := modelContact(low, high); ok {
				l = append(l, found)
			}
		}
	}
	return l
}

// A scene is a view with its contacts.
type scene struct {
	name string
	v    []api.Body
	want []api.Contact
}

func checkScenes(t *testing.T, scenes []scene) {
	t.Helper()
	for _, x := range scenes {
		t.Run(x.name, func(t *testing.T) {
			checkAll(t, x.v, x.want)
			checkAll(t, x.v, x.want)
			if want := modelAll(x.v); !slices.Equal(x.want, want) {
				t.Errorf("the model has %v", want)
			}
		})
	}
}

// P15.1

// TestExample asks for the contacts of the chapter's example alone.
func TestExample(t *testing.T) {
	at := api.Vec{X: 1234567, Y: -7654321}
	l, tests := All([]api.Body{
		{Key: 3, Radius: 1 << 16, Pos: at},
		{Key: 4, Radius: 1 << 17, Pos: at},
		{Key: 9, Radius: 1 << 18, Pos: at},
	})
	want := []api.Contact{
		{Pair: api.Pair{Low: 3, High: 4}, Normal: api.Vec{X: 65536, Y: 0}, Depth: 3 << 16},
		{Pair: api.Pair{Low: 3, High: 9}, Normal: api.Vec{X: 65536, Y: 0}, Depth: 5 << 16},
		{Pair: api.Pair{Low: 4, High: 9}, Normal: api.Vec{X: 65536, Y: 0}, Depth: 6 << 16},
	}
	if !slices.Equal(l, want) || tests != 3 {
		t.Errorf("the contacts are %v after %d comparisons", l, tests)
	}
}

func TestFew(t *testing.T) {
	checkScenes(t, []scene{
		{"nil", nil, nil},
		{"no body", []api.Body{}, nil},
		{"one body", []api.Body{circle(7, 0, 0)}, nil},
		{"one capsule over several cells", []api.Body{rod(7, radiusMax, axisMax, -axisMax, 5, 5)}, nil},
		{"one static body with the key 0", []api.Body{static(circle(0, 9, 9))}, nil},
		{"one body with the greatest key", []api.Body{circle(greatest, worldMax, worldMax)}, nil},
		{"two that touch", []api.Body{circle(1, 0, 0), circle(2, 0, 100000)}, list(c(1, 2, 0, one, 31072))},
		{"two that touch, the other way round", []api.Body{circle(1, 0, 100000), circle(2, 0, 0)}, list(c(1, 2, 0, -one, 31072))},
		{"two that touch at an angle", []api.Body{circle(5, 0, 0), circle(6, -30000, -40000)}, list(c(5, 6, -39322, -52429, 81072))},
		{"two that just touch", []api.Body{circle(1, 0, 0), circle(2, 2*one-1, 0)}, list(c(1, 2, one, 0, 1))},
		{"two whose edges have a common point only", []api.Body{circle(1, 0, 0), circle(2, 2*one, 0)}, nil},
		{"two at the same place", []api.Body{circle(2, 9, -9), circle(3, 9, -9)}, list(c(2, 3, one, 0, 2*one))},
		{"two that are far apart", []api.Body{circle(1, -worldMax, -worldMax), circle(2, worldMax, worldMax)}, nil},
		{"one within the other", []api.Body{ball(1, radiusMin, 300000, 400000), ball(2, radiusMax, 0, 0)}, list(c(1, 2, -39322, -52429, 3698400))},
	})
}

func TestSeveral(t *testing.T) {
	checkScenes(t, []scene{
		{"none touches another one", []api.Body{circle(1, 0, 0), circle(2, 2*one, 0), circle(3, 4*one, 0), circle(4, 2*one, 2*one), circle(5, -50*one, 0)}, nil},
		{"all touch", []api.Body{circle(1, 0, 0), circle(2, one, 0), circle(3, 0, one), circle(4, one, one)}, list(
			c(1, 2, one, 0, one), c(1, 3, 0, one, one), c(1, 4, 46341, 46341, 38391),
			c(2, 3, -46342, 46341, 38391), c(2, 4, 0, one, one), c(3, 4, one, 0, one))},
		{"a chain", []api.Body{circle(1, 0, 0), circle(2, 2*one-1, 0), circle(3, 4*one-2, 0), circle(4, 6*one-2, 0)}, list(c(1, 2, one, 0, 1), c(2, 3, one, 0, 1))},
		{"a ring, whose last one touches the first one", []api.Body{circle(1, 0, 0), circle(2, 100000, 0), circle(3, 100000, 100000), circle(9, 0, 100000)}, list(
			c(1, 2, one, 0, 31072), c(1, 9, 0, one, 31072), c(2, 3, 0, one, 31072), c(3, 9, -one, 0, 31072))},
		{"one touches all others", []api.Body{circle(1, -100000, 0), circle(2, 100000, 0), ball(5, one, 0, 0), circle(7, 0, -100000), circle(8, 0, 100000)}, list(
			c(1, 5, one, 0, 31072), c(2, 5, -one, 0, 31072), c(5, 7, 0, -one, 31072), c(5, 8, 0, one, 31072))},
		{"several at the same place", []api.Body{circle(0, 7, 7), circle(5, 7, 7), circle(6, 7, 7), circle(greatest, 7, 7)}, atOnePlace(2*one, 0, 5, 6, greatest)},
		{"several at each of two places", []api.Body{circle(1, 7, 7), circle(2, 9*one, 7), circle(3, 9*one, 7), circle(4, 7, 7)}, list(c(1, 4, one, 0, 2*one), c(2, 3, one, 0, 2*one))},
		{"a capsule over a row of circles", []api.Body{circle(1, -3000000, 0), circle(2, 0, one), rod(3, one, axisMax, 0, 0, 0), circle(4, 3000000, -one), circle(5, axisMax+one, 0), circle(6, axisMax+2*one, 0)}, list(
			c(1, 3, one, 0, 2*one), c(2, 3, 0, -one, one), c(3, 4, 0, -one, one), c(3, 5, one, 0, one), c(5, 6, one, 0, one))},
		{"capsules from cell to cell", []api.Body{rod(1, one, axisMax, 0, 0, 0), rod(2, one, axisMax, 0, 2*axisMax+one, 0), rod(3, one, 0, axisMax, 3*axisMax+one, axisMax+one)}, list(c(1, 2, one, 0, one), c(2, 3, 0, one, one))},
	})
}

// TestStatic looks at static bodies, which have contacts as others do, also with each other.
func TestStatic(t *testing.T) {
	checkScenes(t, []scene{
		{"two static bodies", []api.Body{static(circle(1, 0, 0)), static(circle(2, 0, one))}, list(c(1, 2, 0, one, one))},
		{"a static floor", []api.Body{circle(1, -9*one, one), circle(2, 9*one, one), circle(3, 0, 2*one), static(rod(4, one, 20*one, 0, 0, 0))}, list(c(1, 4, 0, -one, one), c(2, 4, 0, -one, one))},
		{"static and other bodies", []api.Body{static(circle(1, 0, 0)), circle(2, one, 0), static(circle(3, 2*one, 0)), circle(4, 3*one, 0)}, list(c(1, 2, one, 0, one), c(2, 3, one, 0, one), c(3, 4, one, 0, one))},
		{"static bodies that do not touch", []api.Body{static(circle(1, 0, 0)), static(circle(2, 2*one, 0))}, nil},
	})
}

// TestBoxesOnly looks at bodies whose boxes overlap, and which thus are pairs of layer 11, but do not touch.
func TestBoxesOnly(t *testing.T) {
	for _, x := range []scene{
		{"circles in the corners of their boxes", []api.Body{circle(1, 0, 0), circle(2, 100000, -100000)}, nil},
		{"circles with a common corner of their boxes", []api.Body{circle(1, 0, 0), circle(2, 2*one, 2*one)}, nil},
		{"circles with a common edge of their boxes", []api.Body{circle(1, 0, 0), circle(2, 0, -2*one)}, nil},
		{"a small circle in the corner of a great one", []api.Body{ball(1, 100000, 0, 0), ball(2, 4096, 104000, 104000)}, nil},
		{"a circle in the box of a capsule", []api.Body{rod(1, one, axisMax, axisMax, 0, 0), circle(2, axisMax, -axisMax)}, nil},
		{"capsules that cross each other, but with ends far away", []api.Body{rod(1, one, 10*one, 0, 0, 0), rod(2, one, 0, 5*one, 0, 0)}, nil},
		{"capsules beside each other", []api.Body{rod(1, one, axisMax, axisMax, 0, 0), rod(2, one, -axisMax, -axisMax, 9*one, 0)}, nil},
		{"one that touches another one as well", []api.Body{circle(1, 0, 0), circle(2, 100000, 100000), circle(3, 150000, 50000)}, list(c(2, 3, 46341, -46342, 60362))},
	} {
		t.Run(x.name, func(t *testing.T) {
			if found, _ := pairs.Find(x.v); len(found) != len(x.want)+1 {
				t.Errorf("the boxes overlap for %v", found)
			}
			checkScenes(t, []scene{x})
		})
	}
}

func TestKeys(t *testing.T) {
	at := func(keys ...uint32) []api.Body {
		var v []api.Body
		for _, key := range keys {
			v = append(v, circle(key, 5, 5))
		}
		return v
	}
	for _, keys := range [][]uint32{
		{0, 1},
		{0, greatest},
		{1, greatest},
		{greatest - 1, greatest},
		{1<<31 - 1, 1 << 31},
		{0, 1<<31 - 1, 1 << 31, greatest},
		{255, 256, 65535, 65536, 1 << 24},
		{0, 1, 2, greatest - 2, greatest - 1, greatest},
	} {
		checkAll(t, at(keys...), atOnePlace(2*one, keys...))
	}
	checkScenes(t, []scene{
		// The lesser key decides on the direction of the normal.
		{"the least key to the left", []api.Body{circle(0, 0, 0), circle(greatest, one, 0)}, list(c(0, greatest, one, 0, one))},
		{"the least key to the right", []api.Body{circle(0, one, 0), circle(greatest, 0, 0)}, list(c(0, greatest, -one, 0, one))},
		{"keys on both sides of 2^31", []api.Body{circle(1<<31-1, 0, one), circle(1<<31, 0, 0)}, list(c(1<<31-1, 1<<31, 0, -one, one))},
		// Cores that cross each other, for which the chosen points depend on the order.
		{"the level core first", []api.Body{rod(1, one, 25000, 0, 0, 0), rod(2, one, -15000, -20000, 0, 0)}, list(c(1, 2, 52428, -39322, 111072))},
		{"the level core second", []api.Body{rod(1, one, -15000, -20000, 0, 0), rod(2, one, 25000, 0, 0, 0)}, list(c(1, 2, 0, -one, 111072))},
	})
}

// TestEnds looks at bodies at the ends of the world.
func TestEnds(t *testing.T) {
	const w = worldMax
	checkScenes(t, []scene{
		{"one in each corner", []api.Body{circle(1, -w, -w), circle(2, -w, w), circle(3, w, -w), circle(4, w, w)}, nil},
		{"great ones in the middle of each edge", []api.Body{rod(1, radiusMax, axisMax, 0, w, 0), rod(2, radiusMax, axisMax, 0, -w, 0), ball(3, radiusMax, 0, w), ball(4, radiusMax, 0, -w)}, nil},
		{"two in each corner", []api.Body{circle(1, -w, -w), circle(2, -w, w), circle(3, w, -w), circle(4, w, w), circle(5, w-one, w), circle(6, w, one-w), circle(7, one-w, w), circle(8, one-w, -w)}, list(
			c(1, 8, one, 0, one), c(2, 7, one, 0, one), c(3, 6, 0, one, one), c(4, 5, -one, 0, one))},
		{"at the same corner", []api.Body{ball(1, radiusMin, w, w), ball(2, radiusMax, w, w), rod(3, radiusMax, axisMax, axisMax, w, w)}, list(
			c(1, 2, one, 0, radiusMin+radiusMax), c(1, 3, one, 0, radiusMin+radiusMax), c(2, 3, one, 0, 2*radiusMax))},
		{"cores that leave the world", []api.Body{rod(1, radiusMax, axisMax, axisMax, w, w), rod(2, radiusMax, -axisMax, axisMax, w, w)}, list(c(1, 2, 46340, 46340, 2456967))},
		{"the least radii, just together and just apart", []api.Body{ball(1, radiusMin, -w, w), ball(2, radiusMin, -w+8191, w), ball(3, radiusMin, -w, w-8192)}, list(c(1, 2, one, 0, 1))},
		{"the greatest radii, just together and just apart", []api.Body{ball(1, radiusMax, w, -w), ball(2, radiusMax, w, -w+2*radiusMax-1), ball(3, radiusMax, w-2*radiusMax, -w)}, list(c(1, 2, 0, one, 1))},
	})
}

// TestOrder looks at views with contacts in an order of the cells that is not that of the keys.
func TestOrder(t *testing.T) {
	checkScenes(t, []scene{
		{"in the reverse order of cells", []api.Body{circle(1, 60*width, 0), circle(2, 40*width, 0), circle(3, 20*width, 0), circle(7, 20*width, 0), circle(8, 40*width, 0), circle(9, 60*width, 0)}, list(
			c(1, 9, one, 0, 2*one), c(2, 8, one, 0, 2*one), c(3, 7, one, 0, 2*one))},
		{"over cells in both directions", []api.Body{rod(5, one, axisMax, 0, 0, 0), circle(6, axisMax, 0), circle(7, -axisMax, 0), circle(8, axisMax, one), circle(9, 0, one)}, list(
			c(5, 6, one, 0, 2*one), c(5, 7, one, 0, 2*one), c(5, 8, 0, one, one), c(5, 9, 0, one, one), c(6, 8, 0, one, one))},
		{"by the greater key within the lesser one", []api.Body{circle(1, 0, 0), circle(256, one, 0), circle(65536, 0, 0), circle(1<<24, 0, one), circle(greatest, 0, 0)}, list(
			c(1, 256, one, 0, one), c(1, 65536, one, 0, 2*one), c(1, 1<<24, 0, one, one), c(1, greatest, one, 0, 2*one),
			c(256, 65536, -one, 0, one), c(256, 1<<24, -46342, 46341, 38391), c(256, greatest, -one, 0, one),
			c(65536, 1<<24, 0, one, one), c(65536, greatest, one, 0, 2*one),
			c(1<<24, greatest, 0, -one, one))},
	})
	state := uint64(3)
	for n := range 50 {
		l, _ := All(randomView(&state, n))
		for i := range l {
			if i > 0 && !before(l[i-1].Pair, l[i].Pair) || l[i].Pair.Low >= l[i].Pair.High {
				t.Fatalf("the contacts are %v", l)
			}
		}
	}
}

func before(a, b api.Pair) bool { return a.Low < b.Low || a.Low == b.Low && a.High < b.High }

// TestTests looks at the number of comparisons alone.
func TestTests(t *testing.T) {
	for _, x := range []struct {
		name        string
		v           []api.Body
		least, most int
	}{
		{"nil", nil, 0, 0},
		{"no body", []api.Body{}, 0, 0},
		{"one body", []api.Body{circle(1, 0, 0)}, 0, 0},
		{"two that touch", []api.Body{circle(1, 0, 0), circle(2, 9, 9)}, 1, 1},
		{"two boxes", []api.Body{circle(1, 0, 0), circle(2, 2*one, 2*one)}, 1, 1},
		{"two that are apart", []api.Body{circle(1, 0, 0), circle(2, 9*one, 0)}, 0, 1},
		{"two with a bucket in common", []api.Body{circle(1, width+one, width+one), circle(2, -one, -one)}, 0, 1},
		{"four at the same place", []api.Body{circle(1, 0, 0), circle(2, 0, 0), circle(3, 0, 0), circle(4, 0, 0)}, 6, 6},
		{"four at the corner of cells", []api.Body{circle(1, 0, 0), circle(2, width, width), circle(3, 0, 0), circle(4, width, width)}, 2, 6},
	} {
		t.Run(x.name, func(t *testing.T) {
			checkView(t, x.v)
			_, tests := All(x.v)
			if tests < x.least || tests > x.most {
				t.Errorf("All compared %d times, want %d to %d", tests, x.least, x.most)
			}
			checkTests(t, x.v, tests)
		})
	}
}

// TestOtherParts changes the parts of bodies that have nothing to do with contacts.
func TestOtherParts(t *testing.T) {
	v := []api.Body{circle(1, 0, 0), rod(2, one, 5*one, 0, 0, one), circle(3, 9*one, 0), circle(7, 10*one, 0)}
	want := list(c(1, 2, 0, one, one), c(3, 7, one, 0, one))
	checkAll(t, v, want)
	for i := range v {
		v[i].InvMass = int32(i) * 300000
		v[i].Bounce = int32(3-i) * 20000
		v[i].Vel = api.Vec{X: 16777216, Y: -16777216}
		checkAll(t, v, want)
	}
}

// next returns a number that looks random, from 0 to limit - 1.
func next(state *uint64, limit int64) int64 {
	*state = *state*6364136223846793005 + 1442695040888963407
	return int64(*state>>33) % limit
}

// randomBody returns a body near the origin, at an end of the world, or on a lattice whose neighbors just touch or just do not.
func randomBody(state *uint64, key uint32) api.Body {
	within := func(size int64) int32 { return int32(next(state, 2*size+1) - size) }
	b := ball(key, int32(radiusMin+next(state, radiusMax/2)), within(4*width), within(4*width))
	switch next(state, 6) {
	case 0:
		b.Pos = api.Vec{X: worldMax - int32(next(state, 3*width)), Y: -worldMax}
	case 1, 2:
		b.Radius = radiusMin
		b.Pos = api.Vec{X: within(2)*2*radiusMin + within(1), Y: within(2)*2*radiusMin + within(1)}
	}
	switch next(state, 4) {
	case 0:
		b.Axis = api.Vec{X: within(axisMax), Y: within(axisMax)}
	case 1:
		b.Axis = api.Vec{X: within(1), Y: within(8 * radiusMin)}
	}
	if next(state, 4) == 0 {
		b = static(b)
	}
	return b
}

// randomView returns a view of n bodies.
func randomView(state *uint64, n int) []api.Body {
	var v []api.Body
	step := int64(greatest) / int64(n+1)
	for i := range n {
		v = append(v, randomBody(state, uint32(int64(i)*step+next(state, step))))
	}
	return v
}

func TestModel(t *testing.T) {
	state := uint64(1)
	contacts, others, edge := 0, 0, 0
	for n := range 120 {
		v := randomView(&state, n%45)
		want := modelAll(v)
		if checkAll(t, v, want); t.Failed() {
			t.Fatalf("with the bodies %+v", v)
		}
		found, _ := pairs.Find(v)
		contacts += len(want)
		others += len(found) - len(want)
		for _, x := range want {
			if x.Depth == 1 {
				edge++
			}
		}
	}
	if contacts < 500 || others < 500 || edge < 50 {
		t.Errorf("the views have %d contacts, %d of them with the depth 1, and %d other pairs", contacts, edge, others)
	}
}

// lattice returns as many bodies as a view can have, in 64 rows with a distance.
func lattice(distance int32) []api.Body {
	var v []api.Body
	for i := range int32(capacity) {
		v = append(v, ball(uint32(i)*1048577, radiusMin, (i%64-32)*distance, (i/64-32)*distance))
	}
	return v
}

// TestFull looks at views with all bodies that there may be, in rows in which each body touches the next one only.
func TestFull(t *testing.T) {
	const distance = 2*radiusMin - 1
	v := lattice(distance)
	var want []api.Contact
	for i, b := range v {
		if i%64 < 63 {
			want = append(want, c(b.Key, v[i+1].Key, one, 0, 1))
		}
		if i/64 < 63 {
			want = append(want, c(b.Key, v[i+64].Key, 0, one, 1))
		}
	}
	checkAll(t, v, want)
	checkAll(t, lattice(distance+1), nil)
	checkAll(t, lattice(7*width), nil)
}

// TestFullAtOnePlace has so many contacts that they are looked at one by one.
func TestFullAtOnePlace(t *testing.T) {
	v := lattice(0)
	checkView(t, v)
	l, tests := All(v)
	if n := capacity * (capacity - 1) / 2; len(l) != n || tests != n {
		t.Fatalf("%d contacts after %d comparisons, want %d", len(l), tests, n)
	}
	i := 0
	for low := range v {
		for high := low + 1; high < len(v); high++ {
			if want := c(v[low].Key, v[high].Key, one, 0, 2*radiusMin); l[i] != want {
				t.Fatalf("the contact %d is %v, want %v", i, l[i], want)
			}
			i++
		}
	}
}

// TestMoved moves all bodies by the same vector over the edges of cells, which changes no contact.
func TestMoved(t *testing.T) {
	v := []api.Body{circle(1, 0, 0), circle(2, one, -one), circle(4, -2*one, 0), rod(5, one, axisMax, one, axisMax+one, 0), ball(6, radiusMin, 8*axisMax, 8*axisMax)}
	want := modelAll(v)
	if len(want) != 3 {
		t.Fatalf("the model has %v", want)
	}
	for _, dx := range []int32{0, -one, width - one, 5*width + 2*one, -worldMax + 3*one} {
		for _, dy := range []int32{0, one, -width + one, -7 * width, worldMax - 8*axisMax} {
			moved := slices.Clone(v)
			for i := range moved {
				moved[i].Pos = api.Vec{X: v[i].Pos.X + dx, Y: v[i].Pos.Y + dy}
			}
			checkAll(t, moved, want)
		}
	}
}

// TestBeyond calls All with lists that are no views, for which only the rule holds that no function panics.
func TestBeyond(t *testing.T) {
	for _, v := range [][]api.Body{
		{{}, {}},
		{circle(2, 0, 0), circle(1, 0, 0), circle(2, 0, 0)},
		{ball(1, -one, 0, 0), ball(2, -one, 0, 0)},
		{ball(1, 0, 3, 3), ball(2, 0, 3, 3), ball(3, 0, 3, 3)},
		{ball(1, least, 5, 5), rod(1, most, least, most, least, most)},
		{rod(3, most, most, most, most, most), rod(3, least, least, least, least, least), rod(2, 0, -1, least, 0, most)},
	} {
		l, _ := All(v)
		With(l, 1)
		Deepest(l)
	}
}

// P15.2

func TestWith(t *testing.T) {
	a, b, d := c(1, 3, one, 0, 5), c(1, 8, 0, one, 7), c(3, 4, 3, 8, 9)
	e, f, g := c(3, 8, 0, -one, 6), c(0, greatest, 1, 2, 3), c(4, 1<<31, -one, 0, 1)
	all := list(a, b, d, e, f, g)
	for _, x := range []struct {
		name string
		l    []api.Contact
		key  uint32
		want []api.Contact
	}{
		{"nil", nil, 1, nil},
		{"nil and the key 0", nil, 0, nil},
		{"no contact", list(), 1, nil},
		{"as Low only", all, 1, list(a, b)},
		{"as High only", all, 8, list(b, e)},
		{"as both in different contacts", all, 3, list(a, d, e)},
		{"as High and then as Low", all, 4, list(d, g)},
		{"not at all", all, 2, nil},
		{"as a depth only", all, 5, nil},
		{"as another depth only", all, 6, nil},
		{"as a depth and a part of a normal only", all, one, nil},
		{"beside a key", all, greatest - 1, nil},
		{"beside another key", all, 1<<31 + 1, nil},
		{"not between the keys of a contact", all, 7, nil},
		{"the least key", all, 0, list(f)},
		{"the greatest key", all, greatest, list(f)},
		{"the key 2^31", all, 1 << 31, list(g)},
		{"one contact with it as Low", list(a), 1, list(a)},
		{"one contact with it as High", list(a), 3, list(a)},
		{"one contact without it", list(a), 2, nil},
		{"in all contacts", list(a, d, e), 3, list(a, d, e)},
		{"in the order of the list", list(g, e, d, b, a), 3, list(e, d, a)},
		{"in the first and the last contact", list(b, d, d, e), 8, list(b, e)},
		{"several equal contacts", list(a, a, d, a), 1, list(a, a, a)},
		{"several contacts of the same keys", list(c(1, 2, 3, 4, 5), c(1, 2, 0, 0, 0), c(1, 2, 3, 4, 5)), 2, list(c(1, 2, 3, 4, 5), c(1, 2, 0, 0, 0), c(1, 2, 3, 4, 5))},
		{"a zero contact", list(a, api.Contact{}), 0, list(api.Contact{})},
		{"twice in a pair", list(a, c(7, 7, 0, 0, 9), b), 7, list(c(7, 7, 0, 0, 9))},
		{"a pair in the reverse order, as Low", list(c(9, 4, 0, 0, least), a), 9, list(c(9, 4, 0, 0, least))},
		{"a pair in the reverse order, as High", list(c(9, 4, 0, 0, most), a), 4, list(c(9, 4, 0, 0, most))},
	} {
		t.Run(x.name, func(t *testing.T) {
			checkWith(t, x.l, x.key, x.want)
			checkWith(t, x.l, x.key, x.want)
		})
	}
}

// TestWithOfViews compares the contacts of each body of a view with those that the model has for the body and each other one.
func TestWithOfViews(t *testing.T) {
	state := uint64(5)
	total := 0
	for n := range 45 {
		v := randomView(&state, n)
		l, _ := All(v)
		for _, b := range v {
			var want []api.Contact
			for _, other := range v {
				low, high := b, other
				if other.Key < b.Key {
					low, high = other, b
				}
				if found, ok := modelContact(low, high); ok && other.Key != b.Key {
					want = append(want, found)
				}
			}
			total += len(want)
			checkWith(t, l, b.Key, want)
			checkWith(t, l, b.Key+1, nil)
		}
	}
	if total < 500 {
		t.Errorf("the bodies have %d contacts", total)
	}
}

func TestDeepest(t *testing.T) {
	a, b, d := c(1, 2, one, 0, 500), c(1, 3, 0, one, 700), c(2, 3, 3, 4, 600)
	same := c(4, 9, 5, 6, 700)
	for _, x := range []struct {
		name string
		l    []api.Contact
		want api.Contact
		ok   bool
	}{
		{"nil", nil, api.Contact{}, false},
		{"no contact", list(), api.Contact{}, false},
		{"no contact of a longer list", list(a, b)[:0], api.Contact{}, false},
		{"one contact", list(a), a, true},
		{"one contact with the least depth", list(c(7, 8, 1, 2, 1)), c(7, 8, 1, 2, 1), true},
		{"one zero contact", list(api.Contact{}), api.Contact{}, true},
		{"the greatest one first", list(b, a, d), b, true},
		{"the greatest one last", list(a, d, b), b, true},
		{"the greatest one between others", list(a, b, d), b, true},
		{"the greatest one twice", list(b, a, b), b, true},
		{"several with the greatest depth, first of all", list(b, same, a, d), b, true},
		{"several with the greatest depth, the other one first", list(same, b, a, d), same, true},
		{"several with the greatest depth, last of all", list(a, d, same, b), same, true},
		{"several with the greatest depth, the first and the last one", list(b, a, d, same), b, true},
		{"several with the greatest depth, the last and the first one", list(same, a, d, b), same, true},
		{"all with the same depth", list(same, b, c(0, 1, 0, 0, 700)), same, true},
		{"several with a lesser depth", list(a, c(5, 6, 0, 0, 500), b, c(5, 7, 0, 0, 500)), b, true},
		{"ascending", list(c(1, 2, 0, 0, 1), c(1, 3, 0, 0, 2), c(1, 4, 0, 0, 3)), c(1, 4, 0, 0, 3), true},
		{"descending", list(c(1, 2, 0, 0, 3), c(1, 3, 0, 0, 2), c(1, 4, 0, 0, 1)), c(1, 2, 0, 0, 3), true},
		{"the greatest depth that there is", list(a, c(1, 4, 0, 0, 2*radiusMax), b), c(1, 4, 0, 0, 2*radiusMax), true},
		{"depths that no bodies have", list(c(1, 2, 0, 0, least), c(1, 3, 0, 0, most), c(1, 4, 0, 0, -1)), c(1, 3, 0, 0, most), true},
		{"depths less than 0", list(c(1, 2, 0, 0, -2), c(1, 3, 0, 0, -1), c(1, 4, 0, 0, -1)), c(1, 3, 0, 0, -1), true},
		{"depths of at most 0", list(c(1, 2, 0, 0, -2), c(1, 3, 0, 0, 0), c(1, 4, 0, 0, 0)), c(1, 3, 0, 0, 0), true},
		{"the least number only", list(c(1, 2, 0, 0, least), c(1, 3, 0, 0, least)), c(1, 2, 0, 0, least), true},
		{"not the greatest key or normal", list(a, c(8, greatest, most, most, 1)), a, true},
	} {
		t.Run(x.name, func(t *testing.T) {
			checkDeepest(t, x.l, x.want, x.ok)
			checkDeepest(t, x.l, x.want, x.ok)
		})
	}
}

// TestDeepestOfViews compares the deepest contact with the first one of a list that is sorted by the depth.
func TestDeepestOfViews(t *testing.T) {
	state := uint64(6)
	several := 0
	for n := range 90 {
		l, _ := All(randomView(&state, n%45))
		for i := range l {
			if n%2 == 0 {
				l[i].Depth = int32(next(&state, 5))
			}
		}
		sorted := slices.Clone(l)
		slices.SortStableFunc(sorted, func(a, b api.Contact) int { return cmp.Compare(b.Depth, a.Depth) })
		if len(sorted) == 0 {
			checkDeepest(t, l, api.Contact{}, false)
			continue
		}
		checkDeepest(t, l, sorted[0], true)
		if len(sorted) > 1 && sorted[0].Depth == sorted[1].Depth {
			several++
		}
	}
	if several < 20 {
		t.Errorf("only %d lists have several contacts with the greatest depth", several)
	}
}

// P15.3

// TestArguments compares lists, and the unused capacity of their slices, with copies afterwards.
func TestArguments(t *testing.T) {
	bodies := []api.Body{circle(1, 0, 0), circle(2, one, 0), rod(5, one, axisMax, -9, 3*one, 0), circle(8, 50*one, 0), circle(3, 0, 0), circle(1, 0, 0), {}}
	contacts := list(c(1, 2, one, 0, 5), c(1, 5, 0, one, 9), c(2, 5, 3, 4, 9), c(1, 8, 5, 6, 7), c(2, 1, 0, 0, 99), api.Contact{})
	bodiesBefore, contactsBefore := slices.Clone(bodies), slices.Clone(contacts)
	v, l := bodies[:4], contacts[:3]
	checkView(t, v)
	All(v)
	for _, key := range []uint32{0, 1, 2, 5, 8, greatest} {
		With(l, key)
	}
	Deepest(l)
	Deepest(l[:0])
	if !slices.Equal(bodies, bodiesBefore) {
		t.Errorf("the bodies have become %+v", bodies)
	}
	if !slices.Equal(contacts, contactsBefore) {
		t.Errorf("the contacts have become %+v", contacts)
	}
}

// TestResultsAreNew modifies results and their unused capacity, and asks again.
func TestResultsAreNew(t *testing.T) {
	v := []api.Body{circle(1, 0, 0), circle(2, 0, 0), circle(5, 0, 0), circle(8, 50*one, 0)}
	want := atOnePlace(2*one, 1, 2, 5)
	l := atOnePlace(2*one, 1, 2, 5)
	other := c(77, 78, 79, 80, 81)
	for range 3 {
		all, _ := All(v)
		// The key 1 is in the first two contacts, 5 in the last two, and 9 in none.
		results := [][]api.Contact{all, With(l, 1), With(l, 5), With(l[:2], 1), With(l, 9)}
		for _, r := range results {
			for i := range r {
				r[i] = other
			}
			r = append(r, other, other)
			for i := range r[:cap(r)] {
				r[:cap(r)][i] = other
			}
		}
		checkAll(t, v, want)
		checkWith(t, l, 1, want[:2])
		checkWith(t, l, 5, want[1:])
		if !slices.Equal(l, want) {
			t.Errorf("the contacts have become %v", l)
		}
	}
}

// TestResultsStay modifies arguments, which must not change earlier results, and asks with the new ones.
func TestResultsStay(t *testing.T) {
	v := []api.Body{circle(1, 0, 0), circle(2, one, 0), circle(5, 50*one, 0)}
	all, _ := All(v)
	l := list(c(1, 2, one, 0, 5), c(1, 5, 0, one, 9), c(2, 5, 3, 4, 9))
	with := With(l, 1)
	whole := With(l[:2], 1)
	deepest, _ := Deepest(l)
	v[0].Key, v[1].Pos = 0, v[2].Pos
	l[0], l[1] = c(3, 4, 5, 6, 7), c(1, 6, 7, 8, 9)
	if want := list(c(1, 2, one, 0, one)); !slices.Equal(all, want) {
		t.Errorf("the contacts have become %v", all)
	}
	want := list(c(1, 2, one, 0, 5), c(1, 5, 0, one, 9))
	if !slices.Equal(with, want) || !slices.Equal(whole, want) || deepest != want[1] {
		t.Errorf("the contacts of a key have become %v and %v, and the deepest one %v", with, whole, deepest)
	}
	checkAll(t, v, list(c(2, 5, one, 0, 2*one)))
	checkWith(t, l, 1, list(c(1, 6, 7, 8, 9)))
	checkDeepest(t, l, c(1, 6, 7, 8, 9), true)
}
