package pairs

import (
	"math"
	"slices"
	"testing"

	"billiard/api"
	"billiard/box"
	"billiard/grid"
	"billiard/view"
)

// The limits of the chapters are written out, so that they are checked as well.
const (
	one       = 65536
	width     = 4194304 // of a cell
	worldMax  = 1073741824
	radiusMin = 4096
	radiusMax = 4194304
	axisMax   = 4194304
	capacity  = 4096
	greatest  = math.MaxUint32 // key
	least     = math.MinInt32
	most      = math.MaxInt32
)

// circle returns a circle with the radius 1.
func circle(key uint32, x, y int32) api.Body { return ball(key, one, x, y) }

func ball(key uint32, radius, x, y int32) api.Body {
	return api.Body{Key: key, Radius: radius, InvMass: one, Pos: api.Vec{X: x, Y: y}}
}

// rod returns a capsule at a position.
func rod(key uint32, radius, axisX, axisY, x, y int32) api.Body {
	b := ball(key, radius, x, y)
	b.Axis = api.Vec{X: axisX, Y: axisY}
	return b
}

// static returns a body without a mass.
func static(b api.Body) api.Body {
	b.InvMass = 0
	return b
}

// to returns the box from one corner to another one.
func to(minX, minY, maxX, maxY int32) box.Box {
	return box.Box{MinX: minX, MinY: minY, MaxX: maxX, MaxY: maxY}
}

// list returns pairs from their keys.
func list(keys ...uint32) []api.Pair {
	var l []api.Pair
	for i := 0; i < len(keys); i += 2 {
		l = append(l, api.Pair{Low: keys[i], High: keys[i+1]})
	}
	return l
}

// all returns all pairs of the keys, which are ascending.
func all(keys ...uint32) []api.Pair {
	var l []api.Pair
	for i, low := range keys {
		for _, high := range keys[i+1:] {
			l = append(l, api.Pair{Low: low, High: high})
		}
	}
	return l
}

// checkView ends the test if v is no view, as nothing is promised then.
func checkView(t *testing.T, v []api.Body) {
	t.Helper()
	if err := view.Check(v); err != api.OK {
		t.Fatalf("the bodies are no view: %d", err)
	}
}

func checkTests(t *testing.T, v []api.Body, pairs, tests int) {
	t.Helper()
	if n := len(v); tests < pairs || tests > n*(n-1)/2 {
		t.Errorf("Find compared %d times, with %d bodies and %d pairs", tests, n, pairs)
	}
}

func checkFind(t *testing.T, v []api.Body, want []api.Pair) {
	t.Helper()
	checkView(t, v)
	got, tests := Find(v)
	if !slices.Equal(got, want) {
		t.Errorf("Find = %v, want %v", got, want)
	}
	checkTests(t, v, len(want), tests)
}

func checkWithin(t *testing.T, v []api.Body, a box.Box, want ...uint32) {
	t.Helper()
	checkView(t, v)
	if got := Within(v, a); !slices.Equal(got, want) {
		t.Errorf("Within(%+v) = %v, want %v", a, got, want)
	}
}

// checkLonely expects the keys, and no other ones, to be lonely.
func checkLonely(t *testing.T, v []api.Body, want ...uint32) {
	t.Helper()
	checkView(t, v)
	keys := []uint32{0, 1, 2, 3, 1<<31 - 1, 1 << 31, greatest - 1, greatest}
	for _, b := range v {
		keys = append(keys, b.Key)
	}
	for _, key := range keys {
		if got := Lonely(v, key); got != slices.Contains(want, key) {
			t.Errorf("Lonely(%d) = %t", key, got)
		}
	}
}

// The model looks at all pairs of bodies, with numbers that have room for all sums.

// abs returns the absolute value of n.
func abs(n int64) int64 { return max(n, -n) }

// reach returns how far a body extends from its position in one direction.
func reach(b api.Body, axis int32) int64 { return int64(b.Radius) + abs(int64(axis)) }

// modelOverlap compares the distance of two bodies in each direction with their reach.
func modelOverlap(a, b api.Body) bool {
	x := abs(int64(a.Pos.X)-int64(b.Pos.X)) <= reach(a, a.Axis.X)+reach(b, b.Axis.X)
	y := abs(int64(a.Pos.Y)-int64(b.Pos.Y)) <= reach(a, a.Axis.Y)+reach(b, b.Axis.Y)
	return x && y
}

func modelFind(v []api.Body) []api.Pair {
	var l []api.Pair
	for i, a := range v {
		for _, b := range v[i+1:] {
			if modelOverlap(a, b) {
				l = append(l, api.Pair{Low: a.Key, High: b.Key})
			}
		}
	}
	return l
}

// between reports whether the side from low to high has a point that is at most reach away from pos.
func between(low, high, pos int32, reach int64) bool {
	return low <= high && int64(low) <= int64(pos)+reach && int64(high) >= int64(pos)-reach
}

func modelWithin(v []api.Body, a box.Box) []uint32 {
	var keys []uint32
	for _, b := range v {
		x := between(a.MinX, a.MaxX, b.Pos.X, reach(b, b.Axis.X))
		if x && between(a.MinY, a.MaxY, b.Pos.Y, reach(b, b.Axis.Y)) {
			keys = append(keys, b.Key)
		}
	}
	return keys
}

// modelLonely returns the keys of the bodies that are in no pair.
func modelLonely(v []api.Body) []uint32 {
	in := map[uint32]bool{}
	for _, p := range modelFind(v) {
		in[p.Low], in[p.High] = true, true
	}
	var keys []uint32
	for _, b := range v {
		if !in[b.Key] {
			keys = append(keys, b.Key)
		}
	}
	return keys
}

// boxesAround returns boxes of all kinds, and some at and beside the edges of bodies.
func boxesAround(v []api.Body) []box.Box {
	l := []box.Box{{}, {MinX: 1}, to(-worldMax, -worldMax, worldMax, worldMax), to(least, least, most, most), to(most, most, least, least), to(0, 0, worldMax, worldMax), to(-width, -3*width, width, -width)}
	for i, b := range v {
		x, y := int32(reach(b, b.Axis.X)), int32(reach(b, b.Axis.Y))
		p := b.Pos
		l = append(l,
			to(p.X, p.Y, p.X, p.Y),
			to(p.X+1, p.Y, p.X, p.Y),
			to(p.X-x, p.Y+1, p.X+x, p.Y-1),
			to(p.X+x, p.Y+y, p.X+x, p.Y+y),
			to(p.X-x-1, p.Y, p.X-x-1, p.Y),
			to(p.X+x+int32(i%2), p.Y-5, p.X+x+9, p.Y+5),
			to(p.X-9, p.Y-y-9, p.X+9, p.Y-y-int32(i%2)),
		)
	}
	return l
}

// checkModel compares all results with those of the model.
func checkModel(t *testing.T, v []api.Body) {
	t.Helper()
	checkFind(t, v, modelFind(v))
	checkLonely(t, v, modelLonely(v)...)
	for _, a := range boxesAround(v) {
		checkWithin(t, v, a, modelWithin(v, a)...)
	}
	if t.Failed() {
		t.Fatalf("with the bodies %+v", v)
	}
}

// next returns a number that looks random, from 0 to limit - 1.
func next(state *uint64, limit int64) int64 {
	*state = *state*6364136223846793005 + 1442695040888963407
	return int64(*state>>33) % limit
}

// A scene is a view with its pairs and the keys of those that are in none.
type scene struct {
	name   string
	v      []api.Body
	pairs  []api.Pair
	lonely []uint32
}

// scenes returns views of few bodies.
func scenes() []scene {
	return []scene{
		{"nil", nil, nil, nil},
		{"the empty view", []api.Body{}, nil, nil},
		{"one circle", []api.Body{circle(7, 0, 0)}, nil, []uint32{7}},
		{"one capsule over several cells", []api.Body{rod(7, radiusMax, axisMax, -axisMax, 5, 5)}, nil, []uint32{7}},
		{"one static body with the key 0", []api.Body{static(circle(0, 9, 9))}, nil, []uint32{0}},
		{"one body with the greatest key", []api.Body{circle(greatest, 9, 9)}, nil, []uint32{greatest}},
		{"the example", []api.Body{circle(1, 0, 0), circle(2, 131072, 131072)}, list(1, 2), nil},
		{"the example with the third circle instead", []api.Body{circle(1, 0, 0), circle(3, 131073, 0)}, nil, []uint32{1, 3}},
		{"the example with all three circles", []api.Body{circle(1, 0, 0), circle(2, 131072, 131072), circle(3, 131073, 0)}, list(1, 2, 2, 3), nil},
		{"far apart", []api.Body{circle(1, -worldMax, -worldMax), circle(2, worldMax, worldMax), circle(3, 0, 0)}, nil, []uint32{1, 2, 3}},
		{"a chain", []api.Body{circle(1, 0, 0), circle(2, 2*one, 0), circle(3, 4*one, 0), circle(4, 6*one+1, 0)}, list(1, 2, 2, 3), []uint32{4}},
		{"at the same place", []api.Body{circle(2, 9, -9), circle(3, 9, -9)}, list(2, 3), nil},
		{"all at the same place", []api.Body{circle(0, 7, 7), circle(5, 7, 7), rod(6, one, 3, 4, 7, 7), circle(greatest, 7, 7)}, all(0, 5, 6, greatest), nil},
		{"one within the other", []api.Body{ball(1, radiusMax, 0, 0), ball(2, radiusMin, 1000000, -2000000)}, list(1, 2), nil},
		{"in a corner of the box, where the circles do not touch", []api.Body{ball(1, 100000, 0, 0), ball(2, 4096, 104000, 104000)}, list(1, 2), nil},
		{"in a corner of the box, far from the capsule", []api.Body{rod(1, one, axisMax, axisMax, 0, 0), circle(2, axisMax, -axisMax)}, list(1, 2), nil},
		{"capsules over several cells", []api.Body{rod(1, one, axisMax, axisMax, 0, 0), rod(2, one, axisMax, -axisMax, 0, 0), rod(3, one, -axisMax, 0, 2*axisMax, 0)}, all(1, 2, 3), nil},
		{"capsules that touch over several cells", []api.Body{rod(1, one, axisMax, 0, 0, 0), rod(2, one, -axisMax, 0, 2*axisMax+2*one, 2*one), rod(3, one, axisMax, 0, 0, -2*one-1)}, list(1, 2), []uint32{3}},
		{"a capsule over a row of circles", []api.Body{circle(1, -3000000, 0), circle(2, 0, 0), rod(3, one, axisMax, 0, 0, 0), circle(4, 3000000, 0), circle(5, axisMax+2*one, 0), circle(6, axisMax+2*one+1, 2*one+1)}, list(1, 3, 2, 3, 3, 4, 3, 5), []uint32{6}},
		{"static bodies", []api.Body{static(circle(1, 0, 0)), static(circle(2, one, 0)), circle(3, -one, one), static(circle(4, 8*one, 8*one))}, list(1, 2, 1, 3, 2, 3), []uint32{4}},
		{"the keys at both ends", []api.Body{circle(0, 0, 0), circle(greatest, one, one)}, list(0, greatest), nil},
		{"keys on both sides of 2^31", []api.Body{circle(0, 0, 0), circle(1<<31-1, 0, 0), circle(1<<31, 0, 0), circle(greatest, 0, 0)}, all(0, 1<<31-1, 1<<31, greatest), nil},
		{"the edges of the world", []api.Body{circle(1, worldMax, worldMax), circle(2, worldMax-2*one, worldMax), circle(3, -worldMax, -worldMax), rod(4, radiusMax, axisMax, axisMax, -worldMax, -worldMax), ball(5, radiusMax, worldMax, -worldMax), ball(6, radiusMin, -worldMax, worldMax), circle(7, worldMax-2*one, worldMax-2*one-1)}, list(1, 2, 3, 4), []uint32{5, 6, 7}},
		{"opposite edges of the world", []api.Body{rod(1, radiusMax, axisMax, 0, worldMax, 0), rod(2, radiusMax, axisMax, 0, -worldMax, 0), ball(3, radiusMax, 0, worldMax), ball(4, radiusMax, 0, -worldMax)}, nil, []uint32{1, 2, 3, 4}},
		{"pairs in the reverse order of cells", []api.Body{circle(1, 60*width, 0), circle(2, 40*width, 0), circle(3, 20*width, 0), circle(7, 20*width, 0), circle(8, 40*width, 0), circle(9, 60*width, 0)}, list(1, 9, 2, 8, 3, 7), nil},
		{"on both sides of the edge of a cell", []api.Body{ball(1, radiusMin, width-radiusMin, 5), ball(2, radiusMin, width+radiusMin, 5), ball(3, radiusMin, width-radiusMin-1, 5*radiusMin), ball(4, radiusMin, width+radiusMin, 5*radiusMin)}, list(1, 2), []uint32{3, 4}},
	}
}

// P11.1

func TestFind(t *testing.T) {
	for _, x := range scenes() {
		t.Run(x.name, func(t *testing.T) {
			checkFind(t, x.v, x.pairs)
			checkFind(t, x.v, x.pairs)
			checkModel(t, x.v)
		})
	}
}

// TestExample asks for the pairs of the chapter's example alone.
func TestExample(t *testing.T) {
	first := api.Body{Key: 1, Radius: 1 << 16}
	second := api.Body{Key: 2, Radius: 1 << 16, Pos: api.Vec{X: 131072, Y: 131072}}
	third := api.Body{Key: 3, Radius: 1 << 16, Pos: api.Vec{X: 131073}}
	if l, tests := Find([]api.Body{first, second}); !slices.Equal(l, list(1, 2)) || tests != 1 {
		t.Errorf("the pairs are %v after %d comparisons", l, tests)
	}
	if l, tests := Find([]api.Body{first, third}); len(l) != 0 || tests < 0 || tests > 1 {
		t.Errorf("the pairs are %v after %d comparisons", l, tests)
	}
}

// TestTouch puts a body beside another one on all sides, with boxes that overlap by one unit, that touch in an edge or a corner only, and that miss each other by one unit.
func TestTouch(t *testing.T) {
	places := []api.Vec{{X: 0, Y: 0}, {X: width, Y: -width}, {X: -one, Y: width - one}, {X: 1000000, Y: -7654321}, {X: worldMax - 9000000, Y: 9000000 - worldMax}}
	bodies := []api.Body{circle(4, 0, 0), ball(4, radiusMin, 0, 0), ball(4, radiusMax, 0, 0), rod(4, one, axisMax, -3, 0, 0), rod(4, 70000, -300, axisMax, 0, 0)}
	for _, p := range places {
		for _, b := range bodies {
			for _, a := range []api.Body{circle(2, p.X, p.Y), rod(2, 5000, 6, -8, p.X, p.Y)} {
				checkBeside(t, a, b)
			}
		}
	}
}

// checkBeside puts b on all sides of a.
func checkBeside(t *testing.T, a, b api.Body) {
	t.Helper()
	x := int32(reach(a, a.Axis.X) + reach(b, b.Axis.X))
	y := int32(reach(a, a.Axis.Y) + reach(b, b.Axis.Y))
	for _, dx := range []int32{-x - 1, -x, 1 - x, 0, x - 1, x, x + 1} {
		for _, dy := range []int32{-y - 1, -y, 1 - y, 0, y - 1, y, y + 1} {
			b.Pos = api.Vec{X: a.Pos.X + dx, Y: a.Pos.Y + dy}
			v := []api.Body{a, b}
			if -x <= dx && dx <= x && -y <= dy && dy <= y {
				checkFind(t, v, list(2, 4))
				checkLonely(t, v)
			} else {
				checkFind(t, v, nil)
				checkLonely(t, v, 2, 4)
			}
			if t.Failed() {
				t.Fatalf("with the bodies %+v", v)
			}
		}
	}
}

// TestOtherParts changes parts of bodies that do not matter to their boxes.
func TestOtherParts(t *testing.T) {
	v := []api.Body{circle(1, 0, 0), rod(2, one, 5000, -6000, one, one), circle(3, 9*one, 0)}
	want := list(1, 2)
	checkFind(t, v, want)
	for i := range v {
		v[i].Axis = api.Vec{X: -v[i].Axis.X, Y: -v[i].Axis.Y}
		v[i].InvMass = int32(i) * 300000
		v[i].Bounce = int32(2-i) * 32768
		v[i].Vel = api.Vec{X: 16777216, Y: -16777216}
		checkFind(t, v, want)
		checkLonely(t, v, 3)
		checkWithin(t, v, to(one, one, one, one), 1, 2)
	}
}

// TestSharedBucket looks at bodies in cells far apart, (1, 1) and (-1, -1), that have a bucket in common, so that they are candidates of the grid.
func TestSharedBucket(t *testing.T) {
	v := []api.Body{circle(1, width+one, width+one), circle(2, -one, -one), circle(3, -2*one-1, -one-1)}
	checkFind(t, v, list(2, 3))
	checkLonely(t, v, 1)
	checkModel(t, v)
}

// TestTestsAreOfCandidates compares the number of comparisons with that of the candidates of a grid.
func TestTestsAreOfCandidates(t *testing.T) {
	state := uint64(2)
	for n := range 60 {
		v := randomView(&state, n)
		var g grid.Grid
		for _, b := range v {
			g.Insert(b.Key, box.Of(b))
		}
		if _, tests := Find(v); tests != len(g.Candidates()) {
			t.Errorf("Find compared %d times, and there are %d candidates", tests, len(g.Candidates()))
		}
	}
}

// lattice returns as many bodies as a view can have, in rows with a distance, each at a place of its own.
func lattice(distance int32) []api.Body {
	var v []api.Body
	for i := range int32(capacity) {
		v = append(v, ball(uint32(i)*1048577, radiusMin, (i%64-32)*distance, (i/64-32)*distance))
	}
	return v
}

// TestFull looks at views with all bodies that there may be.
func TestFull(t *testing.T) {
	for _, distance := range []int32{0, 2 * radiusMin, 2*radiusMin + 1, 7 * width} {
		v := lattice(distance)
		checkView(t, v)
		got, tests := Find(v)
		if want := modelFind(v); !slices.Equal(got, want) {
			t.Errorf("%d pairs with the distance %d, want %d", len(got), distance, len(want))
		}
		checkTests(t, v, len(got), tests)
		if got := Within(v, to(-worldMax, -worldMax, worldMax, worldMax)); len(got) != capacity {
			t.Errorf("%d bodies are in the world with the distance %d", len(got), distance)
		}
		for _, b := range []api.Body{v[0], v[2080], v[capacity-1]} {
			if got, want := Lonely(v, b.Key), distance > 2*radiusMin; got != want {
				t.Errorf("Lonely(%d) = %t with the distance %d", b.Key, got, distance)
			}
		}
	}
}

// P11.2

func TestWithin(t *testing.T) {
	v := []api.Body{
		circle(0, 0, 0),
		static(circle(3, 2*one, 0)),
		circle(4, 5*one, 0),
		rod(8, one, 0, axisMax, 20*one, axisMax),
		ball(9, radiusMax, -worldMax, worldMax),
		rod(1<<31, radiusMin, axisMax, 0, worldMax, -worldMax),
		circle(greatest, 5*one, -2*one),
	}
	for _, x := range []struct {
		name string
		a    box.Box
		want []uint32
	}{
		{"the zero box, which is a point", box.Box{}, []uint32{0}},
		{"a point on an edge of two", to(one, one, one, one), []uint32{0, 3}},
		{"a point on an edge of two, where bodies do not touch it", to(one, -one, one, -one), []uint32{0, 3}},
		{"a point beside an edge of two", to(one, one+1, one, one+1), nil},
		{"a point beside a corner", to(4*one-1, one+1, 4*one-1, one+1), nil},
		{"a point on a corner", to(4*one, one, 4*one, one), []uint32{4}},
		{"a point on the edge of two, one above the other", to(5*one, -one, 5*one, -one), []uint32{4, greatest}},
		{"a point in the second cell of a capsule", to(20*one, 2*axisMax, 20*one, 2*axisMax), []uint32{8}},
		{"a point in the corner of a box", to(21*one, 2*axisMax+one, 21*one, 2*axisMax+one), []uint32{8}},
		{"a point above the box of a capsule", to(20*one, 2*axisMax+one+1, 20*one, 2*axisMax+one+1), nil},
		{"a point beyond the world", to(worldMax+axisMax+radiusMin, -worldMax-radiusMin, worldMax+axisMax+radiusMin, -worldMax-radiusMin), []uint32{1 << 31}},
		{"a point beyond all", to(most, least, most, least), nil},
		{"the whole world", to(-worldMax, -worldMax, worldMax, worldMax), []uint32{0, 3, 4, 8, 9, 1 << 31, greatest}},
		{"all points", to(least, least, most, most), []uint32{0, 3, 4, 8, 9, 1 << 31, greatest}},
		{"around one", to(-9*one, -9*one, -one+5, 9*one), []uint32{0}},
		{"around two", to(4*one+1, -9*one, 9*one, 9*one), []uint32{4, greatest}},
		{"within one", to(-5, -6, 7, 8), []uint32{0}},
		{"the box of one, which touches another one", to(-one, -one, one, one), []uint32{0, 3}},
		{"touching the left edge", to(-9*one, -5, -one, 5), []uint32{0}},
		{"beside the left edge", to(-9*one, -5, -one-1, 5), nil},
		{"touching the lower edge", to(-5, -9*one, 5, -one), []uint32{0}},
		{"below the lower edge", to(-5, -9*one, 5, -one-1), nil},
		{"touching the right edge", to(6*one, -5, 7*one, 5), []uint32{4}},
		{"beside the right edge", to(6*one+1, -5, 7*one, 5), nil},
		{"touching the upper edge", to(4*one, one, 5*one, 2*one), []uint32{4}},
		{"above the upper edge", to(4*one, one+1, 5*one, 2*one), nil},
		{"touching a corner", to(-9*one, one, -one, 9*one), []uint32{0}},
		{"beside a corner", to(-9*one, one+1, -one-1, 9*one), nil},
		{"a line through several", to(0, 0, 5*one, 0), []uint32{0, 3, 4}},
		{"a line between two", to(3*one+1, -9*one, 3*one+1, 9*one), nil},
		{"empty in X", to(5, -9, 4, 9), nil},
		{"empty in Y", to(-9, 5, 9, 4), nil},
		{"empty in both", to(5, 5, -5, -5), nil},
		{"empty and around all", to(most, most, least, least), nil},
		{"empty in X only and around all", to(most, least, least, most), nil},
		{"empty by the document", box.Box{MinX: 1}, nil},
		{"empty and a line through several", to(0, 1, 5*one, 0), nil},
	} {
		t.Run(x.name, func(t *testing.T) {
			checkWithin(t, v, x.a, x.want...)
			checkWithin(t, v, x.a, x.want...)
			if want := modelWithin(v, x.a); !slices.Equal(x.want, want) {
				t.Errorf("the model has %v", want)
			}
			checkWithin(t, nil, x.a)
			checkWithin(t, []api.Body{}, x.a)
		})
	}
}

// TestWithinOfOne asks for a view of one body.
func TestWithinOfOne(t *testing.T) {
	for _, b := range []api.Body{circle(0, 0, 0), rod(greatest, one, 4000, -5000, width, 0), static(ball(6, radiusMax, worldMax, worldMax))} {
		v := []api.Body{b}
		checkWithin(t, v, box.Of(b), b.Key)
		checkWithin(t, v, to(b.Pos.X, b.Pos.Y, b.Pos.X, b.Pos.Y), b.Key)
		checkWithin(t, v, to(-worldMax, -worldMax, worldMax, worldMax), b.Key)
		checkWithin(t, v, to(b.Pos.X, b.Pos.Y, b.Pos.X, b.Pos.Y-1))
		checkWithin(t, v, to(3*width, 3*width, 3*width, 3*width))
	}
}

// P11.3

func TestLonely(t *testing.T) {
	for _, x := range scenes() {
		t.Run(x.name, func(t *testing.T) {
			checkLonely(t, x.v, x.lonely...)
			checkLonely(t, x.v, x.lonely...)
		})
	}
}

// TestLonelyWithoutBody asks for keys that are not in the view, where a box without extent at the origin would be lonely, in a pair, or within one body.
func TestLonelyWithoutBody(t *testing.T) {
	for _, v := range [][]api.Body{
		nil,
		{},
		{circle(5, 0, 0)},
		{circle(5, one, one)},
		{circle(5, 9*one, 9*one)},
		{circle(5, 0, 0), circle(7, 0, 0)},
		{circle(5, 9*one, 0), circle(7, 0, 9*one)},
	} {
		checkView(t, v)
		for _, key := range []uint32{0, 1, 4, 6, 8, 1 << 31, 1<<31 + 5, greatest} {
			if Lonely(v, key) {
				t.Errorf("Lonely(%d) = true with the bodies %+v", key, v)
			}
		}
	}
}

// TestLonelyIsInNoPair compares Lonely with Find.
func TestLonelyIsInNoPair(t *testing.T) {
	state := uint64(4)
	for n := range 40 {
		v := randomView(&state, n)
		l, _ := Find(v)
		for _, b := range v {
			in := slices.ContainsFunc(l, func(p api.Pair) bool { return p.Low == b.Key || p.High == b.Key })
			if Lonely(v, b.Key) == in {
				t.Errorf("Lonely(%d) = %t with the pairs %v", b.Key, !in, l)
			}
		}
	}
}

// randomBody returns a body near the origin, near an edge of the world, or anywhere, some of whose edges are on those of cells.
func randomBody(state *uint64, key uint32) api.Body {
	b := ball(key, int32(radiusMin+next(state, radiusMax-radiusMin)), int32(next(state, 12*width)-6*width), int32(next(state, 12*width)-6*width))
	switch next(state, 6) {
	case 0:
		b.Pos.X = int32(next(state, 2*worldMax) - worldMax)
	case 1:
		b.Pos.Y = worldMax
	case 2:
		b.Radius = one
		b.Pos = api.Vec{X: int32(next(state, 8))*width - one, Y: int32(next(state, 8))*width + one}
	}
	if next(state, 2) == 0 {
		b.Axis = api.Vec{X: int32(next(state, 2*axisMax) - axisMax), Y: int32(next(state, 2*axisMax) - axisMax)}
	}
	if next(state, 4) == 0 {
		b = static(b)
	}
	return b
}

// randomView returns a view of n bodies.
func randomView(state *uint64, n int) []api.Body {
	var v []api.Body
	step := int64(greatest) / int64(n+1)
	for i := range n {
		v = append(v, randomBody(state, uint32(int64(i)*step+next(state, step))))
	}
	return v
}

func TestModel(t *testing.T) {
	state := uint64(1)
	pairs, lonely := 0, 0
	for n := range 120 {
		v := randomView(&state, n%45)
		checkModel(t, v)
		pairs += len(modelFind(v))
		lonely += len(modelLonely(v))
	}
	if pairs < 500 || lonely < 500 {
		t.Errorf("the views have %d pairs and %d bodies in none", pairs, lonely)
	}
}

// TestMoved moves all bodies by the same vector over the edges of cells, which changes no pair.
func TestMoved(t *testing.T) {
	v := []api.Body{circle(1, 0, 0), circle(2, 2*one, -2*one), circle(4, -2*one-1, 0), rod(5, one, axisMax, one, axisMax+one, 0), ball(6, radiusMin, 8*axisMax, 8*axisMax)}
	want := list(1, 2, 1, 5, 2, 5)
	for _, dx := range []int32{0, -one, width - one, 5*width + 2*one, -worldMax + 3*one} {
		for _, dy := range []int32{0, one, -width + one, -7 * width, worldMax - 8*axisMax} {
			moved := slices.Clone(v)
			for i := range moved {
				moved[i].Pos = api.Vec{X: v[i].Pos.X + dx, Y: v[i].Pos.Y + dy}
			}
			checkFind(t, moved, want)
			checkLonely(t, moved, 4, 6)
		}
	}
}

// P11.4

// TestArguments compares a view, and the unused capacity of its slice, with a copy afterwards.
func TestArguments(t *testing.T) {
	whole := []api.Body{circle(1, 0, 0), circle(2, one, one), rod(5, one, axisMax, -9, 3*one, 0), circle(8, 50*one, 0), circle(3, 0, 0), circle(1, 0, 0), {}}
	before := slices.Clone(whole)
	v := whole[:4]
	checkView(t, v)
	a := to(-one, -one, 9*one, 9*one)
	Find(v)
	Within(v, a)
	Lonely(v, 8)
	Lonely(v, 3)
	if !slices.Equal(whole, before) {
		t.Errorf("the bodies have become %+v", whole)
	}
	if a != to(-one, -one, 9*one, 9*one) {
		t.Errorf("the box has become %+v", a)
	}
}

// TestResultsAreNew modifies results and their unused capacity, and asks again.
func TestResultsAreNew(t *testing.T) {
	v := []api.Body{circle(1, 0, 0), circle(2, one, one), circle(5, 2*one, 0), circle(8, 50*one, 0)}
	before := slices.Clone(v)
	for range 3 {
		pairs, _ := Find(v)
		keys := Within(v, to(-one, -one, 9*one, 9*one))
		for i := range pairs {
			pairs[i] = api.Pair{Low: 77, High: 78}
		}
		for i := range keys {
			keys[i] = 77
		}
		pairs = append(pairs, api.Pair{Low: 79, High: 80})
		keys = append(keys, 79, 80)
		checkFind(t, v, list(1, 2, 1, 5, 2, 5))
		checkWithin(t, v, to(-one, -one, 9*one, 9*one), 1, 2, 5)
		checkLonely(t, v, 8)
		if len(pairs) != 4 || pairs[3] != (api.Pair{Low: 79, High: 80}) || len(keys) != 5 || keys[4] != 80 {
			t.Errorf("the extended results have become %v and %v", pairs, keys)
		}
	}
	if !slices.Equal(v, before) {
		t.Errorf("the bodies have become %+v", v)
	}
}

// TestResultsStay modifies the view, which must not change earlier results, and asks with the new one.
func TestResultsStay(t *testing.T) {
	v := []api.Body{circle(1, 0, 0), circle(2, one, one), circle(5, 50*one, 0)}
	everything := to(-worldMax, -worldMax, worldMax, worldMax)
	pairs, _ := Find(v)
	keys := Within(v, everything)
	v[0].Key, v[1].Pos = 0, v[2].Pos
	if !slices.Equal(pairs, list(1, 2)) || !slices.Equal(keys, []uint32{1, 2, 5}) {
		t.Errorf("the results have become %v and %v", pairs, keys)
	}
	checkFind(t, v, list(2, 5))
	checkWithin(t, v, everything, 0, 2, 5)
	checkLonely(t, v, 0)
}

// TestBeyond calls the functions with lists that are no views, for which only the rule holds that no function panics.
func TestBeyond(t *testing.T) {
	for _, v := range [][]api.Body{
		{{}, {}},
		{circle(2, 0, 0), circle(1, 0, 0), circle(2, 0, 0)},
		{ball(1, -one, 0, 0), ball(2, -one, 0, 0)},
		{ball(1, least, 5, 5), rod(1, most, least, most, least, most)},
		{rod(3, most, most, most, most, most), rod(3, least, least, least, least, least), rod(2, 0, -1, least, 0, most)},
	} {
		Find(v)
		for key := range uint32(4) {
			Lonely(v, key)
		}
		for _, a := range []box.Box{{}, {MinX: 1}, to(least, least, most, most), to(most, most, least, least)} {
			Within(v, a)
		}
	}
}
