package cell

import (
	"math"
	"slices"
	"testing"

	"billiard/api"
	"billiard/box"
)

const (
	least = math.MinInt32
	most  = math.MaxInt32
)

// The parameters of the grid are written out, so that they are checked as well.
const (
	width   = 4194304 // of a cell
	buckets = 1024
	low     = -512 // the column and the row of the point at the lower end
	high    = 511  // the column and the row of the point at the upper end
)

func v(x, y int32) api.Vec { return api.Vec{X: x, Y: y} }

// to returns the box from one corner to another one.
func to(minX, minY, maxX, maxY int32) box.Box {
	return box.Box{MinX: minX, MinY: minY, MaxX: maxX, MaxY: maxY}
}

// P9.1

func checkOf(t *testing.T, p api.Vec, want Cell) {
	t.Helper()
	if got := Of(p); got != want {
		t.Errorf("Of(%v) = %v, want %v", p, got, want)
	}
}

// A place is a component of a point, with its column or row.
type place struct {
	at, cell int32
}

func places() []place {
	return []place{
		{0, 0}, {1, 0}, {65536, 0}, {width / 2, 0}, {width - 2, 0}, {width - 1, 0},
		{width, 1}, {width + 1, 1}, {2*width - 1, 1}, {2 * width, 2}, {2*width + 1, 2},
		{7*width - 1, 6}, {7 * width, 7}, {7*width + 1, 7},
		{-1, -1}, {-2, -1}, {-65536, -1}, {-width / 2, -1}, {1 - width, -1}, {-width, -1},
		{-width - 1, -2}, {-width - 2, -2}, {1 - 2*width, -2}, {-2 * width, -2}, {-2*width - 1, -3},
		{1 - 7*width, -7}, {-7 * width, -7}, {-7*width - 1, -8},
		// The limits of positions.
		{1073741823, 255}, {1073741824, 256}, {1073741825, 256},
		{-1073741823, -256}, {-1073741824, -256}, {-1073741825, -257},
		// Both ends of int32.
		{most, high}, {most - 1, high}, {most - width + 1, high}, {most - width, high - 1},
		{least, low}, {least + 1, low}, {least + width - 1, low}, {least + width, low + 1},
	}
}

func TestOf(t *testing.T) {
	for _, x := range places() {
		for _, y := range places() {
			checkOf(t, v(x.at, y.at), Cell{x.cell, y.cell})
		}
	}
}

// TestOfModel looks at each edge of a cell, and one unit before and after it.
func TestOfModel(t *testing.T) {
	for n := int32(low); n <= high; n++ {
		edge := n * width
		checkOf(t, v(edge, 5), Cell{n, 0})
		checkOf(t, v(-5, edge), Cell{-1, n})
		checkOf(t, v(edge+1, edge+width-1), Cell{n, n})
		if n > low {
			checkOf(t, v(edge-1, -5), Cell{n - 1, -1})
			checkOf(t, v(5, edge-1), Cell{0, n - 1})
		}
	}
}

func TestExample(t *testing.T) {
	checkOf(t, v(-1, 4194304), Cell{-1, 1})
}

// P9.2

// checkSpan expects the cells of a box that is not empty to reach from one cell to another one.
func checkSpan(t *testing.T, a box.Box, wantLow, wantHigh Cell) {
	t.Helper()
	if gotLow, gotHigh, ok := Span(a); gotLow != wantLow || gotHigh != wantHigh || !ok {
		t.Errorf("Span(%+v) = %v, %v, %t, want %v, %v", a, gotLow, gotHigh, ok, wantLow, wantHigh)
	}
}

// checkNone expects a box to have no cells.
func checkNone(t *testing.T, a box.Box) {
	t.Helper()
	if gotLow, gotHigh, ok := Span(a); ok || gotLow != (Cell{}) || gotHigh != (Cell{}) {
		t.Errorf("Span(%+v) = %v, %v, %t, want none", a, gotLow, gotHigh, ok)
	}
	if l := All(a); len(l) != 0 {
		t.Errorf("All(%+v) has %d cells, want none", a, len(l))
	}
}

func checkAll(t *testing.T, a box.Box, want []Cell) {
	t.Helper()
	if got := All(a); !slices.Equal(got, want) {
		t.Errorf("All(%+v) = %v, want %v", a, got, want)
	}
}

func TestSpanAndAll(t *testing.T) {
	for _, x := range []struct {
		name string
		a    box.Box
		want []Cell
	}{
		{"a point", to(0, 0, 0, 0), []Cell{{0, 0}}},
		{"a point in a cell", to(-5, width+5, -5, width+5), []Cell{{-1, 1}}},
		{"a point on an edge", to(-width, width-1, -width, width-1), []Cell{{-1, 0}}},
		{"a point at the lower ends", to(least, least, least, least), []Cell{{low, low}}},
		{"a point at the upper ends", to(most, most, most, most), []Cell{{high, high}}},
		{"a point at both ends", to(least, most, least, most), []Cell{{low, high}}},
		{"a line within a cell", to(3, 4, 900, 4), []Cell{{0, 0}}},
		{"a line over columns", to(-1, 4, width, 4), []Cell{{-1, 0}, {0, 0}, {1, 0}}},
		{"a line over rows", to(4, -1, 4, width), []Cell{{0, -1}, {0, 0}, {0, 1}}},
		{"a line of two points over an edge", to(-1, -1, 0, -1), []Cell{{-1, -1}, {0, -1}}},
		{"within a cell", to(5, 6, width-2, 900), []Cell{{0, 0}}},
		{"within a cell with negative numbers", to(1-width, -900, -2, -1), []Cell{{-1, -1}}},
		{"one whole cell", to(0, 0, width-1, width-1), []Cell{{0, 0}}},
		{"another whole cell", to(-3*width, 4*width, -2*width-1, 5*width-1), []Cell{{-3, 4}}},
		{"a unit more to the right", to(0, 0, width, width-1), []Cell{{0, 0}, {1, 0}}},
		{"a unit more to the left", to(-1, 0, width-1, width-1), []Cell{{-1, 0}, {0, 0}}},
		{"a unit more upwards", to(0, 0, width-1, width), []Cell{{0, 0}, {0, 1}}},
		{"a unit more downwards", to(0, -1, width-1, width-1), []Cell{{0, -1}, {0, 0}}},
		{"a unit less at each side", to(1, 1, width-2, width-2), []Cell{{0, 0}}},
		{"four points around a corner", to(-1, -1, 0, 0), []Cell{{-1, -1}, {0, -1}, {-1, 0}, {0, 0}}},
		{"four points around another corner", to(2*width-1, -width-1, 2*width, -width), []Cell{{1, -2}, {2, -2}, {1, -1}, {2, -1}}},
		{"several columns and rows", to(-5, 5, 2*width+5, width+5), []Cell{{-1, 0}, {0, 0}, {1, 0}, {2, 0}, {-1, 1}, {0, 1}, {1, 1}, {2, 1}}},
		{"several whole columns and rows", to(-2*width, -width, -1, 2*width-1), []Cell{{-2, -1}, {-1, -1}, {-2, 0}, {-1, 0}, {-2, 1}, {-1, 1}}},
		{"more rows than columns", to(9, -2*width, 10, width), []Cell{{0, -2}, {0, -1}, {0, 0}, {0, 1}}},
		{"at the lower ends", to(least, least, least+width, least), []Cell{{low, low}, {low + 1, low}}},
		{"at the upper ends", to(most-width, most-width, most, most), []Cell{{high - 1, high - 1}, {high, high - 1}, {high - 1, high}, {high, high}}},
		{"a cell at the upper ends", to(most-width+1, most-width+1, most, most), []Cell{{high, high}}},
		{"a cell at the lower ends", to(least, least, least+width-1, least+width-1), []Cell{{low, low}}},
	} {
		t.Run(x.name, func(t *testing.T) {
			checkAll(t, x.a, x.want)
			checkSpan(t, x.a, x.want[0], x.want[len(x.want)-1])
		})
	}
}

func TestEmptyHasNone(t *testing.T) {
	for _, a := range []box.Box{
		{MinX: 1},
		// Empty in one direction, by a unit, by cells and by more than an int32 has room for.
		to(5, 0, 4, 9),
		to(0, 5, 9, 4),
		to(width, 0, width-1, 9),
		to(3*width, 0, -width, 9),
		to(0, 3*width, 9, -width),
		to(most, 0, least, 0),
		to(0, most, 0, least),
		to(most, least, least, most),
		to(least, most, most, least),
		// Empty in both directions.
		to(1, 1, 0, 0),
		to(3*width, 9, -width, 8),
		to(most, most, least, least),
	} {
		checkNone(t, a)
	}
}

// strip returns the columns or rows, in ascending order, that have a number from one to another one.
func strip(from, upTo int32) []int32 {
	var l []int32
	for n := int64(low); n <= high; n++ {
		if n*width <= int64(upTo) && int64(from) <= n*width+width-1 {
			l = append(l, int32(n))
		}
	}
	return l
}

// model returns the cells of a box that is not empty.
func model(a box.Box) []Cell {
	var l []Cell
	for _, y := range strip(a.MinY, a.MaxY) {
		for _, x := range strip(a.MinX, a.MaxX) {
			l = append(l, Cell{x, y})
		}
	}
	return l
}

// sides returns edges of boxes near each other, the first one of each not beyond the second one.
func sides() [][2]int32 {
	var l [][2]int32
	for _, near := range []int32{0, -3 * width, 5*width + 99, least + width, most - 2*width} {
		for _, from := range []int32{-width, -1, 0, 1} {
			for _, length := range []int32{0, 1, width - 1, width, width + 1, 2*width - 1} {
				l = append(l, [2]int32{near + from, near + from + length})
			}
		}
	}
	return append(l, [2]int32{least, least}, [2]int32{most, most})
}

func TestModelOfAll(t *testing.T) {
	for _, x := range sides() {
		for _, y := range sides() {
			a := to(x[0], y[0], x[1], y[1])
			want := model(a)
			checkAll(t, a, want)
			checkSpan(t, a, want[0], want[len(want)-1])
			if t.Failed() {
				return
			}
		}
	}
}

// TestEdges exchanges the edges of boxes, which makes them empty.
func TestEdges(t *testing.T) {
	for _, x := range sides() {
		for _, y := range sides() {
			if x[0] < x[1] {
				checkNone(t, to(x[1], y[0], x[0], y[1]))
			}
			if y[0] < y[1] {
				checkNone(t, to(x[0], y[1], x[1], y[0]))
			}
		}
	}
}

// TestWhole looks at boxes over all columns, all rows and both.
func TestWhole(t *testing.T) {
	for _, a := range []box.Box{
		to(least, 7, most, 7),
		to(least, -1, most, width),
		to(-7, least, -7, most),
		to(-1, least, width, most),
		to(least, least, most, most),
	} {
		want := model(a)
		if got := All(a); !slices.Equal(got, want) {
			t.Errorf("All(%+v) has %d cells, want %d", a, len(got), len(want))
		}
		checkSpan(t, a, want[0], want[len(want)-1])
	}
	if n := len(All(to(least, least, most, most))); n != 1<<20 {
		t.Errorf("the box of all points has %d cells", n)
	}
}

// TestAllIsNew changes a result, which must not change another one.
func TestAllIsNew(t *testing.T) {
	a := to(-1, -1, 0, 0)
	l := All(a)
	for i := range l {
		l[i] = Cell{99, 99}
	}
	checkAll(t, a, []Cell{{-1, -1}, {0, -1}, {-1, 0}, {0, 0}})
}

// TestStops leaves the iterator early, after which it must not yield again.
func TestStops(t *testing.T) {
	n := 0
	for c := range cells(to(-1, -1, width, width)) {
		n++
		if c == (Cell{0, 0}) {
			break
		}
	}
	if n != 5 {
		t.Errorf("the cell in the middle is the one with the number %d", n)
	}
}

// P9.3

func checkBucket(t *testing.T, c Cell, want int) {
	t.Helper()
	if got := Bucket(c); got != want {
		t.Errorf("Bucket(%v) = %d, want %d", c, got, want)
	}
}

func TestBucket(t *testing.T) {
	for _, x := range []struct {
		c    Cell
		want int
	}{
		{Cell{0, 0}, 0},
		{Cell{1, 0}, 93},
		{Cell{0, 1}, 159},
		{Cell{1, 1}, 194},
		{Cell{2, 0}, 186},
		{Cell{0, 2}, 318},
		{Cell{3, 5}, 524},
		{Cell{-1, 0}, 931},
		{Cell{0, -1}, 865},
		{Cell{-1, -1}, 194},
		{Cell{-1, 1}, 828},
		{Cell{1, -1}, 828},
		{Cell{100, -7}, 1011},
		{Cell{-100, 7}, 1013},
		// The products reach 2^32 for 59 and for 222.
		{Cell{58, 0}, 274},
		{Cell{59, 0}, 367},
		{Cell{-58, 0}, 750},
		{Cell{-59, 0}, 657},
		{Cell{0, 221}, 323},
		{Cell{0, 222}, 482},
		{Cell{0, -221}, 701},
		{Cell{0, -222}, 542},
		{Cell{58, 221}, 81},
		// The cells of the points at both ends.
		{Cell{high, high}, 194},
		{Cell{high, low}, 931},
		{Cell{low, high}, 865},
		{Cell{low, low}, 0},
		{Cell{low, 0}, 512},
		{Cell{0, low}, 512},
		{Cell{high, 0}, 419},
		{Cell{0, high}, 353},
		// Cells that are not those of points.
		{Cell{1023, 0}, 931},
		{Cell{1024, 0}, 0},
		{Cell{0, 1024}, 0},
		{Cell{-1024, 1024}, 0},
		{Cell{1025, 1025}, 194},
		{Cell{most, most}, 194},
		{Cell{most, least}, 931},
		{Cell{least, most}, 865},
		{Cell{least, least}, 0},
	} {
		checkBucket(t, x.c, x.want)
	}
}

// unsigned returns n modulo 2^32.
func unsigned(n int64) int64 {
	return ((n % 4294967296) + 4294967296) % 4294967296
}

// bucket computes with numbers that have room for the products.
func bucket(c Cell) int {
	x, y := unsigned(int64(c.X)*73856093), unsigned(int64(c.Y)*19349663)
	return int((x ^ y) % buckets)
}

// TestBucketModel looks at all cells of points.
func TestBucketModel(t *testing.T) {
	for x := int32(low); x <= high; x++ {
		for y := int32(low); y <= high; y++ {
			c := Cell{x, y}
			if got, want := Bucket(c), bucket(c); got != want || got < 0 || got >= buckets {
				t.Fatalf("Bucket(%v) = %d, want %d", c, got, want)
			}
		}
	}
}

// TestBucketModelBeyond looks at cells in all of int32.
func TestBucketModelBeyond(t *testing.T) {
	var numbers []int32
	for shift := range 32 {
		n := int32(1) << shift
		numbers = append(numbers, n-1, n, n+1, -n, ^n-n/3)
	}
	for _, x := range numbers {
		for _, y := range numbers {
			checkBucket(t, Cell{x, y}, bucket(Cell{x, y}))
		}
	}
}

// P9.4

func checkBounds(t *testing.T, c Cell, want box.Box) {
	t.Helper()
	if got := Bounds(c); got != want {
		t.Errorf("Bounds(%v) = %+v, want %+v", c, got, want)
	}
}

func TestBounds(t *testing.T) {
	checkBounds(t, Cell{0, 0}, to(0, 0, 4194303, 4194303))
	checkBounds(t, Cell{1, 0}, to(4194304, 0, 8388607, 4194303))
	checkBounds(t, Cell{0, 1}, to(0, 4194304, 4194303, 8388607))
	checkBounds(t, Cell{-1, -1}, to(-4194304, -4194304, -1, -1))
	checkBounds(t, Cell{-2, 3}, to(-8388608, 12582912, -4194305, 16777215))
	checkBounds(t, Cell{3, -2}, to(12582912, -8388608, 16777215, -4194305))
	checkBounds(t, Cell{high, high}, to(2143289344, 2143289344, most, most))
	checkBounds(t, Cell{low, low}, to(least, least, -2143289345, -2143289345))
	checkBounds(t, Cell{low, high}, to(least, 2143289344, -2143289345, most))
	checkBounds(t, Cell{high, low}, to(2143289344, least, most, -2143289345))
}

// checkAround expects the points of a box, and not the ones one unit beside it, to have a cell.
func checkAround(t *testing.T, c Cell, a box.Box) {
	t.Helper()
	corners := []api.Vec{v(a.MinX, a.MinY), v(a.MaxX, a.MinY), v(a.MinX, a.MaxY), v(a.MaxX, a.MaxY)}
	for _, p := range append(corners, v(a.MinX+width/2, a.MinY+width/3)) {
		checkOf(t, p, c)
	}
	var beside []api.Vec
	if a.MinX > least {
		beside = append(beside, v(a.MinX-1, a.MinY))
	}
	if a.MinY > least {
		beside = append(beside, v(a.MinX, a.MinY-1))
	}
	if a.MaxX < most {
		beside = append(beside, v(a.MaxX+1, a.MaxY))
	}
	if a.MaxY < most {
		beside = append(beside, v(a.MaxX, a.MaxY+1))
	}
	for _, p := range beside {
		if Of(p) == c {
			t.Errorf("%v beside the box %+v has its cell %v", p, a, c)
		}
	}
}

// TestBoundsModel looks at each column with a few rows, and at each row with a few columns.
func TestBoundsModel(t *testing.T) {
	for n := int32(low); n <= high; n++ {
		for _, m := range []int32{low, -1, 0, 7, high} {
			for _, c := range []Cell{{n, m}, {m, n}} {
				a := Bounds(c)
				checkBounds(t, c, to(c.X*width, c.Y*width, c.X*width+width-1, c.Y*width+width-1))
				checkAround(t, c, a)
				checkAll(t, a, []Cell{c})
				checkSpan(t, a, c, c)
			}
		}
	}
}

// TestBeyond calls Bounds with cells that are not those of points, for which only the rule holds that no function panics.
func TestBeyond(t *testing.T) {
	for _, n := range []int32{least, low - 1, high + 1, most} {
		Bounds(Cell{n, 0})
		Bounds(Cell{0, n})
		Bounds(Cell{n, n})
	}
}
