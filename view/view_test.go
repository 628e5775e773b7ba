package view

import (
	"cmp"
	"slices"
	"testing"

	"billiard/api"
)

const (
	capacity = 4096
	greatest = 1<<32 - 1
)

// circle returns a valid body; x distinguishes bodies with the same key.
func circle(key uint32, x int32) api.Body {
	return api.Body{Key: key, Radius: 65536, InvMass: 65536, Pos: api.Vec{X: x, Y: -x}}
}

// capsule returns a valid body, all parts of which differ from each other and from 0.
func capsule(key uint32) api.Body {
	return api.Body{Key: key, Radius: 65537, Axis: api.Vec{X: 300, Y: -400}, InvMass: 1000, Bounce: 2000, Pos: api.Vec{X: -5000, Y: 6000}, Vel: api.Vec{X: 70, Y: -80}}
}

// circles returns valid bodies with the keys, each of which is at a place of its own.
func circles(keys ...uint32) []api.Body {
	var l []api.Body
	for i, key := range keys {
		l = append(l, circle(key, int32(i)))
	}
	return l
}

// many returns n valid bodies with the keys 3, 6, ..
func many(n int) []api.Body {
	var l []api.Body
	for i := range n {
		l = append(l, circle(uint32(i+1)*3, int32(i)))
	}
	return l
}

// reversed returns the bodies of l in reverse order.
func reversed(l []api.Body) []api.Body {
	l = slices.Clone(l)
	slices.Reverse(l)
	return l
}

// A fault makes a body invalid in one way, with the error of that.
type fault struct {
	make func(b *api.Body)
	err  api.Errno
}

func faults() []fault {
	return []fault{
		{func(b *api.Body) { b.Radius = 4095 }, 4},
		{func(b *api.Body) { b.Radius = 4194305 }, 4},
		{func(b *api.Body) { b.Axis.X = 4194305 }, 5},
		{func(b *api.Body) { b.Axis.Y = -4194305 }, 5},
		{func(b *api.Body) { b.InvMass = -1 }, 6},
		{func(b *api.Body) { b.InvMass = 1048577 }, 6},
		{func(b *api.Body) { b.Bounce = -1 }, 7},
		{func(b *api.Body) { b.Bounce = 65537 }, 7},
		{func(b *api.Body) { b.Pos.X = 1073741825 }, 8},
		{func(b *api.Body) { b.Pos.Y = -1073741825 }, 8},
		{func(b *api.Body) { b.Vel.X = 16777217 }, 9},
		{func(b *api.Body) { b.Vel.Y = -16777217 }, 9},
	}
}

// A change makes another valid body of a capsule, which differs in one part only.
type change struct {
	part string
	make func(b *api.Body)
}

func changes() []change {
	return []change{
		{"Radius", func(b *api.Body) { b.Radius++ }},
		{"Axis.X", func(b *api.Body) { b.Axis.X = -b.Axis.X }},
		{"Axis.Y", func(b *api.Body) { b.Axis.Y-- }},
		{"InvMass", func(b *api.Body) { b.InvMass = 0 }},
		{"Bounce", func(b *api.Body) { b.Bounce++ }},
		{"Pos.X", func(b *api.Body) { b.Pos.X++ }},
		{"Pos.Y", func(b *api.Body) { b.Pos.Y = -b.Pos.Y }},
		{"Vel.X", func(b *api.Body) { b.Vel.X = 0 }},
		{"Vel.Y", func(b *api.Body) { b.Vel.Y++ }},
	}
}

func checkError(t *testing.T, name string, l []api.Body, want api.Errno) {
	t.Helper()
	before := slices.Clone(l)
	if got := Check(l); got != want {
		t.Errorf("%s: Check returns %d, want %d", name, got, want)
	}
	if !slices.Equal(l, before) {
		t.Errorf("%s: Check changed its argument", name)
	}
}

// checkSorted compares Sort(l) with the bodies.
func checkSorted(t *testing.T, name string, l, want []api.Body) {
	t.Helper()
	before := slices.Clone(l)
	got, err := Sort(l)
	if err != api.OK || !slices.Equal(got, want) {
		t.Errorf("%s: Sort returns %+v, %d, want %+v", name, got, err, want)
	}
	if !slices.Equal(l, before) {
		t.Errorf("%s: Sort changed its argument to %+v", name, l)
	}
}

// checkUnsorted expects an error of Sort.
func checkUnsorted(t *testing.T, name string, l []api.Body, want api.Errno) {
	t.Helper()
	before := slices.Clone(l)
	if got, err := Sort(l); got != nil || err != want {
		t.Errorf("%s: Sort returns %d bodies and %d, want nil and %d", name, len(got), err, want)
	}
	if !slices.Equal(l, before) {
		t.Errorf("%s: Sort changed its argument", name)
	}
}

// P7.1 and P7.2

func TestViews(t *testing.T) {
	for _, x := range []struct {
		name string
		l    []api.Body
	}{
		{"nil", nil},
		{"empty", []api.Body{}},
		{"one body", circles(7)},
		{"the key 0", circles(0)},
		{"the greatest key", circles(greatest)},
		{"a capsule", []api.Body{capsule(3)}},
		{"first and last keys", circles(0, greatest)},
		{"keys next to each other", circles(0, 1, 2, 1<<31-1, 1<<31, greatest-1, greatest)},
		{"equal but for the keys", []api.Body{capsule(1), capsule(2), capsule(3)}},
		{"full", many(capacity)},
		{"one less than full", many(capacity - 1)},
	} {
		checkError(t, x.name, x.l, 0)
		checkSorted(t, x.name, x.l, x.l)
		checkSorted(t, x.name+", reversed", reversed(x.l), x.l)
		if len(x.l) > 1 {
			checkError(t, x.name+", reversed", reversed(x.l), 10)
		}
	}
}

func TestTooMany(t *testing.T) {
	for _, x := range []struct {
		name string
		l    []api.Body
	}{
		{"one more than full", many(capacity + 1)},
		{"twice as many", many(2 * capacity)},
		{"descending", reversed(many(capacity + 1))},
		{"one key twice", append(many(capacity), circle(3*capacity, 5))},
		{"an invalid body behind a full view", append(many(capacity), api.Body{Key: greatest})},
		{"an invalid body before a full view", append([]api.Body{{}}, many(capacity)...)},
		{"invalid bodies with the same key", make([]api.Body, capacity+1)},
	} {
		checkError(t, x.name, x.l, 12)
		checkUnsorted(t, x.name, x.l, 12)
	}
}

func TestEqualKeys(t *testing.T) {
	full := many(capacity)
	full[capacity-1].Key = 3
	last := many(capacity)
	last[capacity-1].Key = last[capacity-2].Key
	for _, x := range []struct {
		name string
		l    []api.Body
	}{
		{"both keys 0", circles(0, 0)},
		{"both greatest", circles(greatest, greatest)},
		{"the same body", []api.Body{capsule(4), capsule(4)}},
		{"the first two", circles(1, 1, 2, 3)},
		{"in the middle", circles(1, 2, 2, 3)},
		{"the last two", circles(1, 2, 3, 3)},
		{"three", circles(5, 5, 5)},
		{"apart", circles(1, 2, 1)},
		{"apart, the greater one", circles(2, 1, 2)},
		{"far apart", circles(9, 3, 4, 8, 1, 9)},
		{"next to each other, descending", circles(3, 2, 2, 1)},
		{"first and last of a full list", full},
		{"last two of a full list", last},
	} {
		checkError(t, x.name, x.l, 10)
		checkUnsorted(t, x.name, x.l, 10)
		checkUnsorted(t, x.name+", reversed", reversed(x.l), 10)
	}
}

func TestKeysThatAreNotAscending(t *testing.T) {
	for _, x := range []struct {
		name string
		l    []api.Body
		want []uint32
	}{
		{"two", circles(2, 1), []uint32{1, 2}},
		{"from the greatest to 0", circles(greatest, 0), []uint32{0, greatest}},
		// The keys have no sign.
		{"the highest bit", circles(1<<31, 1<<31-1), []uint32{1<<31 - 1, 1 << 31}},
		{"the first", circles(4, 1, 2, 3), []uint32{1, 2, 3, 4}},
		{"one in the middle", circles(1, 3, 2, 4), []uint32{1, 2, 3, 4}},
		{"the last", circles(2, 3, 4, 1), []uint32{1, 2, 3, 4}},
		{"descending", circles(9, 7, 5, 3, 0), []uint32{0, 3, 5, 7, 9}},
	} {
		checkError(t, x.name, x.l, 10)
		got, err := Sort(x.l)
		if err != api.OK || len(got) != len(x.want) {
			t.Errorf("%s: Sort returns %d bodies and %d", x.name, len(got), err)
			continue
		}
		for i, key := range x.want {
			if got[i].Key != key || !slices.Contains(x.l, got[i]) {
				t.Errorf("%s: Sort returns %+v", x.name, got)
			}
		}
	}
}

// TestSortOrders sorts bodies in all orders, with two keys that are equal in some of them.
func TestSortOrders(t *testing.T) {
	v := []api.Body{circle(0, 9), capsule(1), circle(256, 6), capsule(1 << 31), circle(greatest, 7)}
	double := slices.Clone(v)
	double[3].Key = 256
	for _, order := range orders(len(v)) {
		var l, d []api.Body
		for _, i := range order {
			l = append(l, v[i])
			d = append(d, double[i])
		}
		checkSorted(t, "any order", l, v)
		want := api.ErrDuplicate
		if slices.Equal(l, v) {
			want = api.OK
		}
		checkError(t, "any order", l, want)
		checkUnsorted(t, "any order, with equal keys", d, 10)
		checkError(t, "any order, with equal keys", d, 10)
	}
}

// orders returns all orders of the numbers below n.
func orders(n int) [][]int {
	if n == 0 {
		return [][]int{nil}
	}
	var all [][]int
	for _, o := range orders(n - 1) {
		for i := range n {
			all = append(all, slices.Insert(slices.Clone(o), i, n-1))
		}
	}
	return all
}

func TestInvalidBody(t *testing.T) {
	for _, f := range faults() {
		for _, place := range []int{0, 2, 4} {
			// The keys are ascending, descending, and equal: the invalid body comes first anyway.
			for _, l := range [][]api.Body{circles(1, 2, 3, 4, 5), circles(5, 4, 3, 2, 1), circles(6, 6, 6, 6, 6)} {
				l[place] = capsule(l[place].Key)
				f.make(&l[place])
				checkError(t, "one invalid body", l, f.err)
				checkUnsorted(t, "one invalid body", l, f.err)
			}
		}
		b := capsule(0)
		f.make(&b)
		checkError(t, "only an invalid body", []api.Body{b}, f.err)
		checkUnsorted(t, "only an invalid body", []api.Body{b}, f.err)
		l := many(capacity)
		f.make(&l[capacity-1])
		checkError(t, "the last one of a full list", l, f.err)
		checkUnsorted(t, "the last one of a full list", l, f.err)
	}
}

// TestFirstInvalidBody has two invalid bodies in one list: its order decides, and not that of the errors or keys.
func TestFirstInvalidBody(t *testing.T) {
	for _, first := range faults() {
		for _, second := range faults() {
			for _, l := range [][]api.Body{circles(1, 2, 3, 4), circles(4, 3, 2, 1), circles(2, 1, 2, 1)} {
				for _, places := range [][2]int{{0, 1}, {0, 3}, {1, 2}, {2, 3}} {
					l := slices.Clone(l)
					first.make(&l[places[0]])
					second.make(&l[places[1]])
					checkError(t, "two invalid bodies", l, first.err)
					checkUnsorted(t, "two invalid bodies", l, first.err)
				}
			}
			both := []api.Body{capsule(1)}
			first.make(&both[0])
			second.make(&both[0])
			want := min(first.err, second.err)
			checkError(t, "a body with two faults", both, want)
			checkUnsorted(t, "a body with two faults", both, want)
		}
	}
	checkError(t, "invalid bodies", make([]api.Body, capacity), 4)
	checkUnsorted(t, "invalid bodies", make([]api.Body, capacity), 4)
}

func TestSortLong(t *testing.T) {
	v := many(capacity)
	var l []api.Body
	for i := range capacity {
		// 5 and 4096 have no common divisor, so each body occurs once.
		l = append(l, v[i*5%capacity])
	}
	checkError(t, "full, in another order", l, 10)
	checkSorted(t, "full, in another order", l, v)
}

// P7.3

func checkFound(t *testing.T, v []api.Body, key uint32, want int, ok bool) {
	t.Helper()
	if got, found := Find(v, key); got != want || found != ok {
		t.Errorf("Find of %d in %d bodies = %d, %t, want %d, %t", key, len(v), got, found, want, ok)
	}
}

func TestFind(t *testing.T) {
	for _, key := range []uint32{0, 1, 1 << 31, greatest} {
		checkFound(t, nil, key, 0, false)
		checkFound(t, []api.Body{}, key, 0, false)
		checkFound(t, circles(key), key, 0, true)
	}
	checkFound(t, circles(0), 1, 1, false)
	checkFound(t, circles(0), greatest, 1, false)
	checkFound(t, circles(greatest), 0, 0, false)
	checkFound(t, circles(greatest), greatest-1, 0, false)
	checkFound(t, circles(1<<31), 1<<31-1, 0, false)
	checkFound(t, circles(1<<31), 1<<31+1, 1, false)
	v := circles(3, 7, 9, 1<<31, greatest)
	for _, x := range []struct {
		key  uint32
		want int
		ok   bool
	}{
		{0, 0, false},
		{2, 0, false},
		{3, 0, true},
		{4, 1, false},
		{6, 1, false},
		{7, 1, true},
		{8, 2, false},
		{9, 2, true},
		{10, 3, false},
		{1<<31 - 1, 3, false},
		{1 << 31, 3, true},
		{1<<31 + 1, 4, false},
		{greatest - 1, 4, false},
		{greatest, 4, true},
	} {
		checkFound(t, v, x.key, x.want, x.ok)
	}
}

// TestFindEverywhere looks for all keys in views of many lengths.
func TestFindEverywhere(t *testing.T) {
	for _, n := range []int{0, 1, 2, 3, 4, 5, 6, 7, 8, 9, 15, 16, 17, 100, capacity - 1, capacity} {
		v := many(n)
		for i := range n {
			key := uint32(i+1) * 3
			checkFound(t, v, key-1, i, false)
			checkFound(t, v, key, i, true)
			checkFound(t, v, key+1, i+1, false)
			if t.Failed() {
				return
			}
		}
		checkFound(t, v, 0, 0, false)
		checkFound(t, v, greatest, n, false)
		if !slices.Equal(v, many(n)) {
			t.Errorf("Find changed a view of %d bodies", n)
		}
	}
}

// P7.4

// checkDiff compares Diff(a, b) with the keys, and expects Apply to return b.
func checkDiff(t *testing.T, name string, a, b []api.Body, want Change) {
	t.Helper()
	beforeA, beforeB := slices.Clone(a), slices.Clone(b)
	c := Diff(a, b)
	checkChange(t, name, c, want)
	checkApplied(t, name, a, b, c)
	if !slices.Equal(a, beforeA) || !slices.Equal(b, beforeB) {
		t.Errorf("%s: Diff or Apply changed a view", name)
	}
	checkChange(t, name+", after Apply", c, want)
}

func checkChange(t *testing.T, name string, got, want Change) {
	t.Helper()
	if !slices.Equal(got.Added, want.Added) || !slices.Equal(got.Removed, want.Removed) || !slices.Equal(got.Changed, want.Changed) {
		t.Errorf("%s: the difference is %v, want %v", name, got, want)
	}
}

func checkApplied(t *testing.T, name string, a, b []api.Body, c Change) {
	t.Helper()
	if got := Apply(a, b, c); !slices.Equal(got, b) {
		t.Errorf("%s: Apply returns %+v, want %+v", name, got, b)
	}
}

// checkDiffs checks both differences of two views.
func checkDiffs(t *testing.T, name string, a, b []api.Body, removed, added, changed []uint32) {
	t.Helper()
	checkDiff(t, name, a, b, Change{Added: added, Removed: removed, Changed: changed})
	checkDiff(t, name+", exchanged", b, a, Change{Added: removed, Removed: added, Changed: changed})
}

func TestDiff(t *testing.T) {
	type keys = []uint32
	v := circles(0, 4, 1<<31, greatest)
	for _, x := range []struct {
		name                    string
		a, b                    []api.Body
		removed, added, changed keys
	}{
		{"empty", nil, nil, nil, nil, nil},
		{"nil and empty", nil, []api.Body{}, nil, nil, nil},
		{"one empty", v, nil, keys{0, 4, 1 << 31, greatest}, nil, nil},
		{"one empty, not nil", v, []api.Body{}, keys{0, 4, 1 << 31, greatest}, nil, nil},
		{"equal", v, slices.Clone(v), nil, nil, nil},
		{"the same", v, v, nil, nil, nil},
		{"alternating", circles(1, 3, 5), circles(2, 4, 6), keys{1, 3, 5}, keys{2, 4, 6}, nil},
		{"one after the other", circles(1, 2, 3), circles(7, 8), keys{1, 2, 3}, keys{7, 8}, nil},
		{"one in the middle of the other", circles(1, 9), circles(4, 5), keys{1, 9}, keys{4, 5}, nil},
		{"one key each", circles(0), circles(greatest), keys{0}, keys{greatest}, nil},
		{"all bodies changed", circles(0, 4, greatest), []api.Body{capsule(0), capsule(4), capsule(greatest)}, nil, nil, keys{0, 4, greatest}},
		{"the first changed", v, []api.Body{capsule(0), v[1], v[2], v[3]}, nil, nil, keys{0}},
		{"the last changed", v, []api.Body{v[0], v[1], v[2], capsule(greatest)}, nil, nil, keys{greatest}},
		{"the first removed", v, v[1:], keys{0}, nil, nil},
		{"one in the middle removed", v, []api.Body{v[0], v[1], v[3]}, keys{1 << 31}, nil, nil},
		{"the last removed", v, v[:3], keys{greatest}, nil, nil},
		{"all at once", []api.Body{circle(1, 5), circle(2, 5), circle(3, 5), circle(6, 5)}, []api.Body{circle(0, 5), circle(2, 5), circle(3, 6), circle(5, 5), circle(7, 5)}, keys{1, 6}, keys{0, 5, 7}, keys{3}},
	} {
		checkDiffs(t, x.name, x.a, x.b, x.removed, x.added, x.changed)
	}
}

func TestDiffOfOnePart(t *testing.T) {
	for _, x := range changes() {
		for i := range 3 {
			a := []api.Body{capsule(2), capsule(5), capsule(9)}
			b := slices.Clone(a)
			x.make(&b[i])
			if Check(b) != api.OK || a[i] == b[i] {
				t.Fatalf("%s: %+v is no other valid body", x.part, b[i])
			}
			checkDiffs(t, x.part, a, b, nil, nil, []uint32{a[i].Key})
		}
	}
	// A body with another key is another one.
	checkDiffs(t, "Key", []api.Body{capsule(1)}, []api.Body{capsule(2)}, []uint32{1}, []uint32{2}, nil)
}

func TestDiffOfFull(t *testing.T) {
	a, b := many(capacity), many(capacity)
	checkDiffs(t, "equal", a, b, nil, nil, nil)
	var all, other []uint32
	for i := range b {
		all = append(all, a[i].Key)
		b[i].Key++
		other = append(other, b[i].Key)
	}
	checkDiffs(t, "no key in common", a, b, all, other, nil)
	checkDiffs(t, "one empty", a, nil, all, nil, nil)
	for i := range b {
		b[i] = capsule(a[i].Key)
	}
	checkDiffs(t, "all changed", a, b, nil, nil, all)
}

func TestExample(t *testing.T) {
	checkDiff(t, "example", []api.Body{capsule(1), capsule(2)}, []api.Body{capsule(2), capsule(3)}, Change{Added: []uint32{3}, Removed: []uint32{1}})
}

// difference computes a difference by looking for each body in the other list.
func difference(a, b []api.Body) Change {
	find := func(l []api.Body, key uint32) int {
		return slices.IndexFunc(l, func(x api.Body) bool { return x.Key == key })
	}
	var c Change
	for _, x := range a {
		i := find(b, x.Key)
		switch {
		case i < 0:
			c.Removed = append(c.Removed, x.Key)
		case b[i] != x:
			c.Changed = append(c.Changed, x.Key)
		}
	}
	for _, x := range b {
		if find(a, x.Key) < 0 {
			c.Added = append(c.Added, x.Key)
		}
	}
	return c
}

// subview returns the view of those of six bodies whose digits in base 3 of n are not 0; 1 and 2 stand for different bodies.
func subview(n int) []api.Body {
	var v []api.Body
	for _, key := range []uint32{0, 1, 7, 1 << 31, greatest - 1, greatest} {
		if n%3 != 0 {
			v = append(v, circle(key, int32(n%3)))
		}
		n /= 3
	}
	return v
}

// TestDiffModel computes the differences of all views with some keys and two bodies for each.
func TestDiffModel(t *testing.T) {
	const all = 729
	for i := range all {
		for j := range all {
			a, b := subview(i), subview(j)
			checkDiff(t, "model", a, b, difference(a, b))
			if t.Failed() {
				t.Fatalf("views %+v and %+v", a, b)
			}
		}
	}
}

// A series yields numbers without an evident pattern, the same ones each time.
type series uint64

func (s *series) below(n uint64) uint64 {
	*s = *s*6364136223846793005 + 1442695040888963407
	return uint64(*s) >> 33 % n
}

// TestHistory changes a view repeatedly; applying all differences one after the other follows it.
func TestHistory(t *testing.T) {
	r := series(5)
	var view, followed []api.Body
	for step := range 500 {
		next := slices.Clone(view)
		for range r.below(6) {
			b := circle(uint32(r.below(40))*110000000, int32(r.below(3)))
			i := slices.IndexFunc(next, func(x api.Body) bool { return x.Key == b.Key })
			switch {
			case i < 0:
				next = append(next, b)
			case r.below(2) == 0:
				next[i] = b
			default:
				next = slices.Delete(next, i, i+1)
			}
		}
		sorted := slices.Clone(next)
		slices.SortFunc(sorted, func(a, b api.Body) int { return cmp.Compare(a.Key, b.Key) })
		checkSorted(t, "history", next, sorted)
		c := Diff(view, sorted)
		checkChange(t, "history", c, difference(view, sorted))
		followed = Apply(followed, sorted, c)
		if !slices.Equal(followed, sorted) || Check(followed) != api.OK || t.Failed() {
			t.Fatalf("after the step %d the view is %+v, want %+v", step, followed, sorted)
		}
		view = sorted
	}
}

// P7.5

// roomy returns the bodies in a slice with room for two more, and what is in that room.
func roomy(l []api.Body) (short, rest []api.Body) {
	long := append(slices.Clone(l), capsule(98), capsule(99))
	return long[:len(l)], long[len(l):]
}

// checkRoom expects the room behind an argument to be as roomy left it.
func checkRoom(t *testing.T, name string, rest []api.Body) {
	t.Helper()
	if !slices.Equal(rest, []api.Body{capsule(98), capsule(99)}) {
		t.Errorf("%s: the room behind an argument became %+v", name, rest)
	}
}

// spoil overwrites a slice and the room behind it.
func spoil[T any](l []T, x T) {
	l = l[:cap(l)]
	for i := range l {
		l[i] = x
	}
}

func TestUnusedRoom(t *testing.T) {
	a, restA := roomy(circles(1, 2, 5))
	b, restB := roomy([]api.Body{circle(0, 3), circle(2, 4), capsule(5), circle(7, 9)})
	l, restL := roomy(circles(5, 2, 9))
	keys := [][]uint32{{0, 7, 97, 98}, {1, 97, 98}, {2, 5, 97, 98}}
	c := Change{Added: keys[0][:2], Removed: keys[1][:1], Changed: keys[2][:2]}
	Check(a)
	Check(l)
	Sort(a)
	Sort(l)
	Find(a, 9)
	Diff(a, b)
	checkApplied(t, "with room", a, b, c)
	checkRoom(t, "a", restA)
	checkRoom(t, "b", restB)
	checkRoom(t, "l", restL)
	for i, want := range [][]uint32{{0, 7, 97, 98}, {1, 97, 98}, {2, 5, 97, 98}} {
		if !slices.Equal(keys[i], want) {
			t.Errorf("the keys and the room behind them became %v, want %v", keys[i], want)
		}
	}
}

func TestSortedIsIndependent(t *testing.T) {
	for _, keys := range [][]uint32{{1, 2, 3}, {3, 1, 2}, {6}} {
		l, rest := roomy(circles(keys...))
		want := slices.Clone(l)
		first, _ := Sort(l)
		second, _ := Sort(l)
		view := slices.Clone(second)
		spoil(first, capsule(77))
		checkRoom(t, "after the result was modified", rest)
		if !slices.Equal(l, want) || !slices.Equal(second, view) {
			t.Errorf("after a result was modified, the list is %+v and another result %+v", l, second)
		}
		spoil(l, capsule(66))
		if !slices.Equal(second, view) {
			t.Errorf("after the list was modified, the result is %+v", second)
		}
	}
}

func TestAppliedIsIndependent(t *testing.T) {
	for _, x := range []struct{ a, b []api.Body }{
		{circles(1, 2, 3), circles(1, 2, 3)},
		{circles(1, 2, 3), circles(1, 2)},
		{circles(1, 2, 3), []api.Body{circle(1, 0), capsule(2), circle(4, 4)}},
		{nil, circles(1, 2)},
	} {
		a, restA := roomy(x.a)
		b, restB := roomy(x.b)
		c := Diff(a, b)
		first, second := Apply(a, b, c), Apply(a, b, c)
		spoil(first, capsule(77))
		checkRoom(t, "a", restA)
		checkRoom(t, "b", restB)
		checkChange(t, "after a result was modified", c, difference(x.a, x.b))
		if !slices.Equal(a, x.a) || !slices.Equal(b, x.b) || !slices.Equal(second, x.b) {
			t.Errorf("after a result was modified, the views are %+v, %+v and %+v", a, b, second)
		}
		spoil(a, capsule(66))
		spoil(b, capsule(55))
		if !slices.Equal(second, x.b) {
			t.Errorf("after the views were modified, the result is %+v", second)
		}
	}
}

func TestDifferenceIsIndependent(t *testing.T) {
	a, b := []api.Body{circle(1, 1), circle(2, 1), circle(4, 1)}, []api.Body{circle(2, 2), circle(3, 2)}
	want := Change{Added: []uint32{3}, Removed: []uint32{1, 4}, Changed: []uint32{2}}
	first, second := Diff(a, b), Diff(a, b)
	// No two parts of a difference share memory, nor do two differences.
	spoil(first.Added, 77)
	checkChange(t, "after Added was modified", Change{Removed: first.Removed, Changed: first.Changed}, Change{Removed: []uint32{1, 4}, Changed: []uint32{2}})
	spoil(first.Removed, 66)
	checkChange(t, "after Removed was modified", Change{Changed: first.Changed}, Change{Changed: []uint32{2}})
	spoil(first.Changed, 55)
	checkChange(t, "another difference", second, want)
	checkDiff(t, "after a result was modified", a, b, want)
}

// TestUnspecified expects lists that are no views, and changes that are no differences, to be dealt with without a panic.
func TestUnspecified(t *testing.T) {
	lists := [][]api.Body{nil, circles(5, 1, 3), circles(2, 2, 2), circles(greatest, 0), make([]api.Body, 7), many(3), reversed(many(9))}
	keys := []uint32{9, 3, 3, 0, greatest}
	for _, a := range lists {
		for _, key := range keys {
			if i, _ := Find(a, key); i < 0 || i > len(a) {
				t.Errorf("Find returns the index %d in %d bodies", i, len(a))
			}
		}
		for _, b := range lists {
			Diff(a, b)
			Apply(a, b, Diff(b, a))
			Apply(a, b, Change{})
			Apply(a, b, Change{Added: keys, Removed: keys, Changed: keys})
		}
	}
}
