package grid

import (
	"cmp"
	"math"
	"slices"
	"testing"

	"billiard/api"
	"billiard/body"
	"billiard/box"
)

const (
	least   = math.MinInt32
	most    = math.MaxInt32
	highest = math.MaxUint32 // key
)

// The parameters of the grid are written out, so that they are checked as well.
const (
	width   = 4194304 // of a cell
	buckets = 1024
)

// An entry is a key with a box.
type entry struct {
	key uint32
	a   box.Box
}

// to returns the box from one corner to another one.
func to(minX, minY, maxX, maxY int32) box.Box {
	return box.Box{MinX: minX, MinY: minY, MaxX: maxX, MaxY: maxY}
}

// dot returns the box of a point in the middle of a cell.
func dot(x, y int32) box.Box {
	p := middle(x, y)
	return to(p.X, p.Y, p.X, p.Y)
}

// middle returns the point in the middle of a cell.
func middle(x, y int32) api.Vec {
	return api.Vec{X: x*width + width/2, Y: y*width + width/2}
}

// pairs returns pairs from their keys.
func pairs(keys ...uint32) []api.Pair {
	var l []api.Pair
	for i := 0; i < len(keys); i += 2 {
		l = append(l, api.Pair{Low: keys[i], High: keys[i+1]})
	}
	return l
}

func build(entries ...entry) *Grid {
	g := &Grid{}
	for _, e := range entries {
		g.Insert(e.key, e.a)
	}
	return g
}

func checkLen(t *testing.T, g *Grid, want int) {
	t.Helper()
	if got := g.Len(); got != want {
		t.Errorf("Len() = %d, want %d", got, want)
	}
}

func checkCandidates(t *testing.T, g *Grid, want []api.Pair) {
	t.Helper()
	if got := g.Candidates(); !slices.Equal(got, want) {
		t.Errorf("Candidates() = %v, want %v", got, want)
	}
}

func checkAt(t *testing.T, g *Grid, p api.Vec, want ...uint32) {
	t.Helper()
	if got := g.At(p); !slices.Equal(got, want) {
		t.Errorf("At(%v) = %v, want %v", p, got, want)
	}
}

// corners returns points of all kinds: around the origin, in cells far away, and at the ends of int32.
func corners() []api.Vec {
	var l []api.Vec
	for _, x := range []int32{least, -width, -1, 0, 7 * width, most} {
		for _, y := range []int32{least, -width, -1, 0, 7 * width, most} {
			l = append(l, api.Vec{X: x, Y: y})
		}
	}
	return l
}

// The model computes with numbers that have room for the products.

// unsigned returns n modulo 2^32.
func unsigned(n int64) int64 {
	return ((n % 4294967296) + 4294967296) % 4294967296
}

func bucketOf(column, row int64) int {
	return int((unsigned(column*73856093) ^ unsigned(row*19349663)) % buckets)
}

// floor returns the column or row of a number.
func floor(n int32) int64 {
	return int64(math.Floor(float64(n) / width))
}

// bucketsOf returns the set of the buckets of a box.
func bucketsOf(a box.Box) map[int]bool {
	set := map[int]bool{}
	if a.MinX > a.MaxX || a.MinY > a.MaxY {
		return set
	}
	for row := floor(a.MinY); row <= floor(a.MaxY); row++ {
		for column := floor(a.MinX); column <= floor(a.MaxX); column++ {
			set[bucketOf(column, row)] = true
		}
	}
	return set
}

// common reports whether two sets of buckets have one in common.
func common(a, b map[int]bool) bool {
	for i := range a {
		if b[i] {
			return true
		}
	}
	return false
}

// modelCandidates looks at all pairs of entries.
func modelCandidates(entries []entry) []api.Pair {
	var sets []map[int]bool
	for _, e := range entries {
		sets = append(sets, bucketsOf(e.a))
	}
	var l []api.Pair
	for i, e := range entries {
		for j, f := range entries {
			if e.key < f.key && common(sets[i], sets[j]) {
				l = append(l, api.Pair{Low: e.key, High: f.key})
			}
		}
	}
	slices.SortFunc(l, func(a, b api.Pair) int {
		if a.Low != b.Low {
			return cmp.Compare(a.Low, b.Low)
		}
		return cmp.Compare(a.High, b.High)
	})
	return slices.Compact(l)
}

// modelAt looks at all entries.
func modelAt(entries []entry, p api.Vec) []uint32 {
	var l []uint32
	for _, e := range entries {
		if bucketsOf(e.a)[bucketOf(floor(p.X), floor(p.Y))] {
			l = append(l, e.key)
		}
	}
	slices.Sort(l)
	return slices.Compact(l)
}

// checkModel compares all results of a grid with those of the model.
func checkModel(t *testing.T, entries []entry) {
	t.Helper()
	g := build(entries...)
	checkLen(t, g, len(entries))
	checkCandidates(t, g, modelCandidates(entries))
	points := corners()
	for _, e := range entries {
		points = append(points, api.Vec{X: e.a.MinX, Y: e.a.MinY}, api.Vec{X: e.a.MaxX, Y: e.a.MaxY})
	}
	for _, p := range points {
		checkAt(t, g, p, modelAt(entries, p)...)
	}
	if t.Failed() {
		t.Fatalf("with the entries %+v", entries)
	}
}

// next returns a number that looks random, from 0 to limit - 1.
func next(state *uint64, limit int64) int64 {
	*state = *state*6364136223846793005 + 1442695040888963407
	return int64(*state>>33) % limit
}

// The nil Grid and the zero Grid

func TestNil(t *testing.T) {
	var g *Grid
	g.Insert(1, dot(0, 0))
	g.Insert(2, dot(0, 0))
	g.Insert(0, to(least, least, most, most))
	g.Insert(highest, to(5, 5, 4, 4))
	checkLen(t, g, 0)
	checkCandidates(t, g, nil)
	for _, p := range corners() {
		checkAt(t, g, p)
	}
}

func TestZero(t *testing.T) {
	var g Grid
	checkLen(t, &g, 0)
	checkCandidates(t, &g, nil)
	for _, p := range corners() {
		checkAt(t, &g, p)
	}
	g.Insert(7, dot(0, 0))
	checkLen(t, &g, 1)
	checkAt(t, &g, middle(0, 0), 7)
}

// TestApart inserts into one of two grids.
func TestApart(t *testing.T) {
	var g, h Grid
	g.Insert(1, dot(0, 0))
	g.Insert(2, dot(0, 0))
	checkLen(t, &h, 0)
	checkCandidates(t, &h, nil)
	checkAt(t, &h, middle(0, 0))
}

// P10.1

func TestLen(t *testing.T) {
	var g Grid
	for i, e := range []entry{
		{5, dot(0, 0)},
		{6, dot(0, 0)},
		{5, dot(3, 3)},                // another one with the same key
		{5, dot(3, 3)},                // the same entry
		{6, to(5, 0, 4, 0)},           // without cells
		{9, box.Box{MinX: 1}},         // without cells
		{0, to(0, 0, 3*width, width)}, // with several cells
		{highest, to(least, least, most, most)},
	} {
		g.Insert(e.key, e.a)
		checkLen(t, &g, i+1)
	}
	g.Candidates()
	g.At(middle(0, 0))
	checkLen(t, &g, 8)
}

func TestManyEntries(t *testing.T) {
	var g Grid
	for i := range 5000 {
		g.Insert(uint32(i%3), dot(0, 0))
	}
	checkLen(t, &g, 5000)
	checkCandidates(t, &g, pairs(0, 1, 0, 2, 1, 2))
	checkAt(t, &g, middle(0, 0), 0, 1, 2)
}

// TestBetween asks for results between the entries.
func TestBetween(t *testing.T) {
	var g Grid
	g.Insert(5, dot(0, 0))
	checkCandidates(t, &g, nil)
	checkAt(t, &g, middle(0, 0), 5)
	g.Insert(3, dot(0, 0))
	checkCandidates(t, &g, pairs(3, 5))
	checkAt(t, &g, middle(0, 0), 3, 5)
	g.Insert(4, dot(0, 0))
	checkCandidates(t, &g, pairs(3, 4, 3, 5, 4, 5))
	checkAt(t, &g, middle(0, 0), 3, 4, 5)
	g.Insert(4, dot(0, 0))
	checkCandidates(t, &g, pairs(3, 4, 3, 5, 4, 5))
	checkAt(t, &g, middle(0, 0), 3, 4, 5)
	g.Insert(9, dot(1, 0))
	checkCandidates(t, &g, pairs(3, 4, 3, 5, 4, 5))
	checkAt(t, &g, middle(1, 0), 9)
}

// P10.2

func TestCandidates(t *testing.T) {
	for _, x := range []struct {
		name    string
		entries []entry
		want    []api.Pair
	}{
		{"one entry", []entry{{1, dot(0, 0)}}, nil},
		{"one entry with several cells", []entry{{1, to(-1, -1, 0, 0)}}, nil},
		{"the example", []entry{{1, to(0, 0, 5, 5)}, {2, to(width-9, width-9, width-1, width-1)}}, pairs(1, 2)},
		{"the example in another order", []entry{{2, to(0, 0, 5, 5)}, {1, to(width-9, width-9, width-1, width-1)}}, pairs(1, 2)},
		{"the same box", []entry{{1, to(3, 4, 5, 6)}, {2, to(3, 4, 5, 6)}}, pairs(1, 2)},
		{"cells side by side", []entry{{1, dot(0, 0)}, {2, dot(1, 0)}, {3, dot(0, 1)}, {4, dot(1, 1)}}, nil},
		{"the same key", []entry{{1, dot(0, 0)}, {1, to(0, 0, 1, 1)}}, nil},
		{"the same entry", []entry{{1, dot(0, 0)}, {1, dot(0, 0)}}, nil},
		{"the same key thrice and another one", []entry{{1, dot(0, 0)}, {1, dot(0, 0)}, {2, dot(0, 0)}, {1, to(0, 0, 1, 1)}}, pairs(1, 2)},
		{"both keys twice", []entry{{2, dot(0, 0)}, {1, dot(0, 0)}, {2, dot(0, 0)}, {1, dot(0, 0)}}, pairs(1, 2)},
		{"the same key at two places", []entry{{1, dot(0, 0)}, {1, dot(4, 0)}, {2, dot(4, 0)}, {3, dot(0, 0)}}, pairs(1, 2, 1, 3)},
		{"two keys at two places", []entry{{1, dot(0, 0)}, {1, dot(4, 0)}, {2, dot(4, 0)}, {2, dot(0, 0)}}, pairs(1, 2)},
		{"an edge in another cell", []entry{{1, to(0, 0, width, 5)}, {2, dot(1, 0)}}, pairs(1, 2)},
		{"an edge before another cell", []entry{{1, to(0, 0, width-1, 5)}, {2, dot(1, 0)}}, nil},
		{"an edge in another row", []entry{{1, to(0, -1, 5, 5)}, {2, dot(0, -1)}}, pairs(1, 2)},
		{"an edge before another row", []entry{{1, to(0, 0, 5, 5)}, {2, dot(0, -1)}}, nil},
		{"several cells in common", []entry{{1, to(-1, -1, 0, 0)}, {2, to(-1, -1, 0, 0)}}, pairs(1, 2)},
		{"one of several cells", []entry{{1, to(-1, -1, 0, 0)}, {2, to(0, 0, width, width)}}, pairs(1, 2)},
		{"a point on an edge", []entry{{1, to(width, width, width, width)}, {2, dot(1, 1)}, {3, dot(0, 0)}, {4, dot(1, 0)}, {5, dot(0, 1)}}, pairs(1, 2)},
		{"a line over columns", []entry{{1, to(-1, 5, 2*width, 5)}, {2, dot(-1, 0)}, {3, dot(2, 0)}, {4, dot(3, 0)}, {5, dot(0, 1)}}, pairs(1, 2, 1, 3)},
		{"a line over rows", []entry{{1, to(5, -1, 5, 2*width)}, {2, dot(0, -1)}, {3, dot(0, 2)}, {4, dot(0, 3)}, {5, dot(1, 0)}}, pairs(1, 2, 1, 3)},
		{"empty boxes", []entry{{1, to(5, 0, 4, 5)}, {2, to(0, 5, 5, 4)}, {3, to(most, most, least, least)}, {4, box.Box{MinX: 1}}}, nil},
		{"empty boxes in a cell with others", []entry{{1, to(5, 0, 4, 5)}, {2, to(0, 5, 5, 4)}, {3, to(4, 4, 5, 5)}, {4, to(4, 4, 5, 5)}}, pairs(3, 4)},
		{"an empty box and another one with the same key", []entry{{1, to(5, 0, 4, 5)}, {2, dot(0, 0)}, {1, dot(0, 0)}}, pairs(1, 2)},
		{"a box over cells whose edges are exchanged", []entry{{1, to(width, 0, -1, 0)}, {2, dot(0, 0)}}, nil},
		{"the keys at both ends", []entry{{highest, dot(0, 0)}, {0, dot(0, 0)}}, pairs(0, highest)},
		{"keys on both sides of 2^31", []entry{{1 << 31, dot(0, 0)}, {1<<31 - 1, dot(0, 0)}, {highest, dot(0, 0)}, {0, dot(0, 0)}}, pairs(0, 1<<31-1, 0, 1<<31, 0, highest, 1<<31-1, 1<<31, 1<<31-1, highest, 1<<31, highest)},
		{"pairs from several cells", []entry{{4, dot(0, 0)}, {3, dot(0, 0)}, {2, dot(5, 5)}, {9, dot(5, 5)}, {1, dot(8, -3)}, {10, dot(8, -3)}}, pairs(1, 10, 2, 9, 3, 4)},
		{"low keys and high keys mixed", []entry{{1, to(0, 0, width, 0)}, {9, dot(0, 0)}, {5, dot(1, 0)}, {7, dot(0, 0)}, {6, dot(1, 0)}}, pairs(1, 5, 1, 6, 1, 7, 1, 9, 5, 6, 7, 9)},
		{"the ends of the plane", []entry{{1, to(most, most, most, most)}, {2, to(most-width+1, most-width+1, most-width+1, most-width+1)}, {3, to(most-width, most, most-width, most)}}, pairs(1, 2)},
		{"the other ends of the plane", []entry{{1, to(least, least, least, least)}, {2, to(least+width-1, least+width-1, least+width-1, least+width-1)}, {3, to(least+width, least, least+width, least)}}, pairs(1, 2)},
	} {
		t.Run(x.name, func(t *testing.T) {
			g := build(x.entries...)
			checkCandidates(t, g, x.want)
			checkCandidates(t, g, x.want)
			checkModel(t, x.entries)
		})
	}
}

// TestSharedBucket looks at cells far apart that have a bucket in common: (0, 0) and (-512, -512) have 0, and (1, 1), (-1, -1) and (511, 511) have 194.
func TestSharedBucket(t *testing.T) {
	entries := []entry{{1, dot(0, 0)}, {2, dot(-512, -512)}, {3, dot(1, 1)}, {4, dot(-1, -1)}, {5, dot(511, 511)}, {6, dot(2, 1)}}
	g := build(entries...)
	checkCandidates(t, g, pairs(1, 2, 3, 4, 3, 5, 4, 5))
	checkAt(t, g, middle(0, 0), 1, 2)
	checkAt(t, g, middle(-512, -512), 1, 2)
	for _, n := range []int32{1, -1, 511} {
		checkAt(t, g, middle(n, n), 3, 4, 5)
	}
	checkAt(t, g, middle(2, 1), 6)
	checkModel(t, entries)
}

// TestSameBucketOfOne inserts boxes that have several cells with the same bucket: those around the origin have (1, 1) and (-1, -1), and (1, -1) and (-1, 1).
func TestSameBucketOfOne(t *testing.T) {
	around := to(-1, -1, width, width)
	g := build(entry{7, around})
	checkCandidates(t, g, nil)
	checkAt(t, g, middle(1, 1), 7)
	checkAt(t, g, middle(1, -1), 7)
	g = build(entry{7, around}, entry{2, around}, entry{4, dot(511, 511)})
	checkLen(t, g, 3)
	checkCandidates(t, g, pairs(2, 4, 2, 7, 4, 7))
	checkAt(t, g, middle(-1, -1), 2, 4, 7)
	checkAt(t, g, middle(0, 0), 2, 7)
}

// TestWhole inserts the box of all points, which has each bucket 1024 times.
func TestWhole(t *testing.T) {
	whole := to(least, least, most, most)
	g := build(entry{9, whole}, entry{3, whole}, entry{5, dot(77, -3)}, entry{12, to(5, 5, 4, 4)})
	checkLen(t, g, 4)
	checkCandidates(t, g, pairs(3, 5, 3, 9, 5, 9))
	checkAt(t, g, middle(77, -3), 3, 5, 9)
	for x := int32(-512); x < 512; x++ {
		want := []uint32{3, 9}
		if bucketOf(int64(x), 0) == bucketOf(77, -3) {
			want = []uint32{3, 5, 9}
		}
		checkAt(t, g, middle(x, 0), want...)
	}
}

// P10.3

func TestAt(t *testing.T) {
	g := build(
		entry{7, to(0, 0, 10, 10)},
		entry{2, to(100, 100, width, width)},
		entry{highest, to(width+5, width+5, width+6, width+6)},
		entry{4, to(5, 0, 4, 0)},
		entry{2, to(0, 0, 1, 1)},
		entry{0, to(-1, -1, -1, 0)},
		entry{9, to(-width, -width, -1, -1)},
	)
	for _, x := range []struct {
		p    api.Vec
		want []uint32
	}{
		{api.Vec{X: 0, Y: 0}, []uint32{2, 7}},
		{api.Vec{X: 50, Y: width - 1}, []uint32{2, 7}},
		{api.Vec{X: width - 1, Y: 0}, []uint32{2, 7}},
		{api.Vec{X: width, Y: 0}, []uint32{2}},
		{api.Vec{X: 0, Y: width}, []uint32{2}},
		{api.Vec{X: width, Y: width}, []uint32{0, 2, 9, highest}}, // (1, 1) and (-1, -1) have the same bucket
		{api.Vec{X: 2*width - 1, Y: 2*width - 1}, []uint32{0, 2, 9, highest}},
		{api.Vec{X: 2 * width, Y: width}, nil},
		{api.Vec{X: -1, Y: -1}, []uint32{0, 2, 9, highest}},
		{api.Vec{X: -width, Y: -width}, []uint32{0, 2, 9, highest}},
		{api.Vec{X: -1, Y: 0}, []uint32{0}},
		{api.Vec{X: -1, Y: width - 1}, []uint32{0}},
		{api.Vec{X: 0, Y: -1}, nil},
		{api.Vec{X: 5 * width, Y: 3 * width}, nil},
		{api.Vec{X: most, Y: 0}, nil},
		{api.Vec{X: least, Y: 0}, nil},
		{api.Vec{X: least, Y: least}, []uint32{2, 7}}, // the bucket of (0, 0)
		{api.Vec{X: most, Y: most}, []uint32{0, 2, 9, highest}},
	} {
		checkAt(t, g, x.p, x.want...)
		checkAt(t, g, x.p, x.want...)
	}
}

// TestWithout looks at all cells for those whose buckets have no entries, with an entry that has one bucket.
func TestWithout(t *testing.T) {
	g := build(entry{6, dot(3, 5)})
	n := 0
	for x := int32(-512); x < 512; x++ {
		for y := int32(-512); y < 512; y++ {
			has := bucketOf(int64(x), int64(y)) == 524
			got := g.At(middle(x, y))
			if has && !slices.Equal(got, []uint32{6}) || !has && len(got) != 0 {
				t.Fatalf("At(%v) = %v for the cell (%d, %d)", middle(x, y), got, x, y)
			}
			if has {
				n++
			}
		}
	}
	if n != 1024 {
		t.Errorf("%d cells have the bucket", n)
	}
}

// TestAllBuckets inserts one entry for each bucket, and asks for each.
func TestAllBuckets(t *testing.T) {
	var g Grid
	keys := map[int]uint32{}
	for x := int32(-512); x < 512; x++ {
		g.Insert(uint32(x+512), dot(x, 9))
		keys[bucketOf(int64(x), 9)] = uint32(x + 512)
	}
	checkLen(t, &g, buckets)
	checkCandidates(t, &g, nil)
	for x := int32(-512); x < 512; x++ {
		checkAt(t, &g, middle(x, 9), uint32(x+512))
		checkAt(t, &g, middle(x, -40), keys[bucketOf(int64(x), -40)])
	}
}

// P10.4

// checkOrders inserts entries in all orders.
func checkOrders(t *testing.T, done, rest []entry, check func(g *Grid)) {
	t.Helper()
	if len(rest) == 0 {
		check(build(done...))
	}
	for i, e := range rest {
		others := slices.Delete(slices.Clone(rest), i, i+1)
		checkOrders(t, append(slices.Clone(done), e), others, check)
	}
}

func TestOrders(t *testing.T) {
	entries := []entry{
		{3, to(-1, -1, width, width)},
		{0, dot(0, 0)},
		{highest, dot(1, 1)},
		{3, dot(7, 7)},
		{5, dot(7, 7)},
		{8, to(9, 9, 8, 8)},
		{5, dot(7, 7)},
	}
	checkOrders(t, nil, entries, func(g *Grid) {
		checkLen(t, g, 7)
		checkCandidates(t, g, pairs(0, 3, 3, 5, 3, highest))
		checkAt(t, g, middle(0, 0), 0, 3)
		checkAt(t, g, middle(-1, -1), 3, highest)
		checkAt(t, g, middle(7, 7), 3, 5)
	})
}

// TestOverlap checks that boxes that overlap are candidates, for edges that touch on and beside the edges of cells.
func TestOverlap(t *testing.T) {
	var boxes []box.Box
	places := []int32{-width - 1, -width, -1, 0, 1, width - 1, width}
	for _, x := range places {
		for _, y := range places {
			boxes = append(boxes, to(x, y, x, y), to(x, y, x+1, y), to(x, y, x, y+width), to(x-width, y-2, x, y+1))
		}
	}
	for i, a := range boxes {
		for _, b := range boxes[i:] {
			g := build(entry{8, a}, entry{6, b})
			if box.Overlap(a, b) && !slices.Equal(g.Candidates(), pairs(6, 8)) {
				t.Fatalf("%+v and %+v overlap and are no candidate", a, b)
			}
		}
	}
}

// TestBodies checks that the bodies whose boxes overlap are candidates, and that At finds the bodies around their positions.
func TestBodies(t *testing.T) {
	state := uint64(10)
	var l []api.Body
	var g Grid
	for i := range 300 {
		b := api.Body{Key: uint32(i * 7919 % 300), Radius: api.RadiusMin + int32(next(&state, 2*width/3))}
		b.Axis.X = int32(next(&state, width)) - width/2
		b.Pos = api.Vec{X: int32(next(&state, 40*width)) - 20*width, Y: int32(next(&state, 40*width)) - 20*width}
		if err := body.Check(b); err != api.OK {
			t.Fatalf("the body %+v has the error %d", b, err)
		}
		l = append(l, b)
		g.Insert(b.Key, box.Of(b))
	}
	candidates := g.Candidates()
	overlaps := 0
	for _, a := range l {
		if !slices.Contains(g.At(a.Pos), a.Key) {
			t.Errorf("the body with the key %d is not at its position", a.Key)
		}
		for _, b := range l {
			if a.Key < b.Key && box.Overlap(box.Of(a), box.Of(b)) {
				overlaps++
				if !slices.Contains(candidates, api.Pair{Low: a.Key, High: b.Key}) {
					t.Errorf("the bodies with the keys %d and %d overlap and are no candidate", a.Key, b.Key)
				}
			}
		}
	}
	if overlaps < 50 || len(candidates) <= overlaps || len(candidates) >= 300*299/2 {
		t.Errorf("%d overlaps and %d candidates", overlaps, len(candidates))
	}
}

// randomEntries returns entries with keys that occur several times, near each other, far apart, and some of them empty.
func randomEntries(state *uint64, n int) []entry {
	keys := []uint32{0, 1, 2, 3, 5, 8, 1 << 31, highest - 1, highest}
	var l []entry
	for range n {
		x, y := next(state, 6*width)-3*width, next(state, 6*width)-3*width
		if next(state, 4) == 0 {
			x, y = next(state, 900*width)-450*width, next(state, 900*width)-450*width
		}
		w, h := next(state, 4*width)-width/4, next(state, 3*width)-width/4
		key := keys[next(state, int64(len(keys)))]
		l = append(l, entry{key, to(int32(x), int32(y), int32(x+w), int32(y+h))})
	}
	return l
}

func TestModel(t *testing.T) {
	state := uint64(1)
	for round := range 300 {
		entries := randomEntries(&state, round%25)
		checkModel(t, entries)
		slices.Reverse(entries)
		checkModel(t, entries)
	}
}

// TestFull inserts as many bodies as a world can have into a few cells, in an order of keys that is not ascending.
func TestFull(t *testing.T) {
	const n = 4096
	var g Grid
	for i := range uint32(n) {
		key := (i*1021 + 5) % n
		a := to(-9, -9, -2, -2)
		if key%1024 == 0 {
			a = to(-9, -9, width, width)
		}
		g.Insert(key, a)
	}
	got := g.Candidates()
	if len(got) != n*(n-1)/2 {
		t.Fatalf("%d candidates", len(got))
	}
	i := 0
	for low := range uint32(n) {
		for high := low + 1; high < n; high++ {
			if got[i] != (api.Pair{Low: low, High: high}) {
				t.Fatalf("the candidate %d is %v, want (%d, %d)", i, got[i], low, high)
			}
			i++
		}
	}
	checkAt(t, &g, middle(1, 0), 0, 1024, 2048, 3072)
}

// P10.5

// TestResultsAreNew modifies results and their unused capacity, which must not change the grid.
func TestResultsAreNew(t *testing.T) {
	entries := []entry{{5, dot(0, 0)}, {2, to(-1, 0, 0, 0)}, {9, dot(0, 0)}, {7, dot(-1, 0)}, {6, dot(0, 0)}}
	g := build(entries...)
	for range 3 {
		keys := g.At(middle(0, 0))
		for i := range keys {
			keys[i] = 77
		}
		keys = append(keys, 78, 79, 80)
		candidates := g.Candidates()
		for i := range candidates {
			candidates[i] = api.Pair{Low: 77, High: 78}
		}
		candidates = append(candidates, api.Pair{Low: 1, High: 2})
		checkAt(t, g, middle(0, 0), 2, 5, 6, 9)
		checkAt(t, g, middle(-1, 0), 2, 7)
		checkCandidates(t, g, pairs(2, 5, 2, 6, 2, 7, 2, 9, 5, 6, 5, 9, 6, 9))
		if len(keys) != 7 || len(candidates) != 8 {
			t.Errorf("%d keys and %d candidates", len(keys), len(candidates))
		}
	}
}

// TestResultsStay adds entries, which must not change earlier results.
func TestResultsStay(t *testing.T) {
	g := build(entry{5, dot(0, 0)}, entry{9, dot(0, 0)})
	keys, candidates := g.At(middle(0, 0)), g.Candidates()
	for _, key := range []uint32{0, 7, 20, 6, 4} {
		g.Insert(key, dot(0, 0))
	}
	if !slices.Equal(keys, []uint32{5, 9}) || !slices.Equal(candidates, pairs(5, 9)) {
		t.Errorf("the results have become %v and %v", keys, candidates)
	}
	// After results were extended, the grid must not write into them, nor they into it.
	keys = append(g.At(middle(0, 0)), 1000)
	g.Insert(21, dot(0, 0))
	if keys[len(keys)-1] != 1000 {
		t.Errorf("the extended result has become %v", keys)
	}
	checkAt(t, g, middle(0, 0), 0, 4, 5, 6, 7, 9, 20, 21)
}
