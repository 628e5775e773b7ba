package store

import (
	"cmp"
	"slices"
	"testing"

	"billiard/api"
)

const (
	capacity = 4096
	greatest = 1<<32 - 1
)

// circle returns a valid body; x distinguishes bodies with the same key.
func circle(key uint32, x int32) api.Body {
	return api.Body{Key: key, Radius: 65536, InvMass: 65536, Pos: api.Vec{X: x, Y: -x}}
}

// capsule returns a valid body, all parts of which differ from each other and from 0.
func capsule(key uint32) api.Body {
	return api.Body{Key: key, Radius: 65537, Axis: api.Vec{X: 300, Y: -400}, InvMass: 1000, Bounce: 2000, Pos: api.Vec{X: -5000, Y: 6000}, Vel: api.Vec{X: 70, Y: -80}}
}

// A fault is a body that is invalid in one way, with the error of that.
type fault struct {
	b   api.Body
	err api.Errno
}

// faults returns invalid bodies with the key.
func faults(key uint32) []fault {
	change := func(f func(b *api.Body)) api.Body {
		b := capsule(key)
		f(&b)
		return b
	}
	return []fault{
		{api.Body{Key: key}, 4},
		{change(func(b *api.Body) { b.Radius = 4095 }), 4},
		{change(func(b *api.Body) { b.Radius, b.Vel.X = 4194305, 16777217 }), 4},
		{change(func(b *api.Body) { b.Axis.X = 4194305 }), 5},
		{change(func(b *api.Body) { b.InvMass = -1 }), 6},
		{change(func(b *api.Body) { b.Bounce, b.Pos.X = 65537, 1073741825 }), 7},
		{change(func(b *api.Body) { b.Pos.Y = -1073741825 }), 8},
		{change(func(b *api.Body) { b.Vel.X = 16777217 }), 9},
	}
}

// filled returns a store to which the bodies were added in their order.
func filled(t *testing.T, bodies ...api.Body) *Store {
	t.Helper()
	s := &Store{}
	for _, b := range bodies {
		checkError(t, "Add", s.Add(b), api.OK)
	}
	return s
}

// full returns a store with the keys 3, 6, .. and no room.
func full(t *testing.T) *Store {
	t.Helper()
	var bodies []api.Body
	for i := range capacity {
		bodies = append(bodies, circle(uint32(i+1)*3, int32(i)))
	}
	return filled(t, bodies...)
}

func checkError(t *testing.T, name string, got, want api.Errno) {
	t.Helper()
	if got != want {
		t.Errorf("%s returns %d, want %d", name, got, want)
	}
}

// checkBodies compares Len, Bodies and Get of s with the bodies, which are in ascending order of their keys.
func checkBodies(t *testing.T, name string, s *Store, want ...api.Body) {
	t.Helper()
	if got := s.Len(); got != len(want) {
		t.Errorf("%s: Len() = %d, want %d", name, got, len(want))
	}
	if got := s.Bodies(); !slices.Equal(got, want) {
		t.Errorf("%s: Bodies() = %+v, want %+v", name, got, want)
	}
	for _, b := range want {
		if got, err := s.Get(b.Key); got != b || err != api.OK {
			t.Errorf("%s: Get(%d) = %+v, %d, want %+v", name, b.Key, got, err, b)
		}
	}
}

func checkAbsent(t *testing.T, name string, s *Store, key uint32, want api.Errno) {
	t.Helper()
	if got, err := s.Get(key); got != (api.Body{}) || err != want {
		t.Errorf("%s: Get(%d) = %+v, %d, want a zero body and %d", name, key, got, err, want)
	}
}

// The zero Store and a nil Store

func TestZero(t *testing.T) {
	var s Store
	for _, key := range []uint32{0, 1, greatest} {
		checkAbsent(t, "zero", &s, key, 11)
		checkError(t, "Remove", s.Remove(key), 11)
		checkError(t, "Set", s.Set(circle(key, 0)), 11)
		checkError(t, "Set of an invalid body", s.Set(api.Body{Key: key}), 4)
		checkError(t, "Add of an invalid body", s.Add(api.Body{Key: key}), 4)
	}
	checkBodies(t, "zero", &s)
	c := s.Clone()
	if c == nil || c == &s {
		t.Fatal("a clone of the zero Store is nil or the same")
	}
	checkBodies(t, "clone", c)
	checkError(t, "Add", c.Add(capsule(0)), 0)
	checkBodies(t, "clone", c, capsule(0))
	checkBodies(t, "zero, after its clone changed", &s)
	checkError(t, "Add", s.Add(circle(0, 1)), 0)
	checkBodies(t, "zero, after Add", &s, circle(0, 1))
	checkBodies(t, "clone", c, capsule(0))
}

func TestNil(t *testing.T) {
	var s *Store
	for _, key := range []uint32{0, 1, greatest} {
		checkError(t, "Add", s.Add(circle(key, 0)), 1)
		checkError(t, "Add of an invalid body", s.Add(api.Body{Key: key}), 1)
		checkError(t, "Remove", s.Remove(key), 1)
		checkAbsent(t, "nil", s, key, 1)
		checkError(t, "Set", s.Set(circle(key, 0)), 1)
		checkError(t, "Set of an invalid body", s.Set(api.Body{Key: key}), 1)
	}
	checkBodies(t, "nil", s)
	if s.Clone() != nil {
		t.Error("a clone of a nil Store is not nil")
	}
}

// P6.1

func TestAdd(t *testing.T) {
	s := filled(t, circle(5, 1), capsule(greatest), circle(0, 2), circle(1<<31, 3))
	want := []api.Body{circle(0, 2), circle(5, 1), circle(1<<31, 3), capsule(greatest)}
	checkBodies(t, "four bodies", s, want...)
	for _, b := range want {
		checkError(t, "Add of the same body", s.Add(b), 10)
		checkError(t, "Add of another body with its key", s.Add(circle(b.Key, 77)), 10)
	}
	for _, key := range []uint32{0, 1, 5, greatest} {
		for _, f := range faults(key) {
			checkError(t, "Add of an invalid body", s.Add(f.b), f.err)
		}
	}
	checkBodies(t, "after Add failed", s, want...)
	checkAbsent(t, "after Add failed", s, 1, 11)
}

func TestAddToFull(t *testing.T) {
	s := full(t)
	before := s.Bodies()
	if len(before) != 4096 || before[0] != circle(3, 0) || before[4095] != circle(3*4096, 4095) {
		t.Fatalf("a full store has %d bodies, the first of which is %+v", len(before), before[0])
	}
	for _, key := range []uint32{0, 1, 4, greatest} {
		checkError(t, "Add to a full store", s.Add(circle(key, 5)), 12)
		checkAbsent(t, "full", s, key, 11)
	}
	for _, key := range []uint32{3, 6, 3 * 4096} {
		checkError(t, "Add of a used key to a full store", s.Add(circle(key, 5)), 10)
	}
	for _, key := range []uint32{0, 3} {
		for _, f := range faults(key) {
			checkError(t, "Add of an invalid body to a full store", s.Add(f.b), f.err)
		}
	}
	checkBodies(t, "after Add failed", s, before...)
	checkError(t, "Set in a full store", s.Set(capsule(3)), 0)
	checkError(t, "Set with an absent key in a full store", s.Set(capsule(4)), 11)
	checkError(t, "Remove from a full store", s.Remove(3*2000), 0)
	checkAbsent(t, "after Remove", s, 3*2000, 11)
	checkError(t, "Add after Remove", s.Add(circle(1, 9)), 0)
	checkError(t, "Add to a store that is full again", s.Add(circle(3*2000, 5)), 12)
	want := slices.Concat([]api.Body{circle(1, 9), capsule(3)}, before[1:1999], before[2000:])
	checkBodies(t, "full again", s, want...)
}

func TestFullThenEmpty(t *testing.T) {
	s := full(t)
	for i := range uint32(capacity) {
		// 5 and 4096 have no common divisor, so each key is removed once.
		checkError(t, "Remove", s.Remove((i*5%capacity+1)*3), 0)
		if s.Len() != capacity-1-int(i) {
			t.Fatalf("%d bodies after %d were removed", s.Len(), i+1)
		}
	}
	checkBodies(t, "empty again", s)
	checkError(t, "Add", s.Add(capsule(3)), 0)
	checkBodies(t, "one body", s, capsule(3))
}

// P6.2

func TestRemove(t *testing.T) {
	keys := []uint32{0, 4, 7, greatest}
	for _, key := range keys {
		s := &Store{}
		var rest []api.Body
		for _, k := range keys {
			checkError(t, "Add", s.Add(circle(k, 1)), 0)
			if k != key {
				rest = append(rest, circle(k, 1))
			}
		}
		checkError(t, "Remove of an absent key", s.Remove(5), 11)
		checkError(t, "Remove", s.Remove(key), 0)
		checkBodies(t, "after Remove", s, rest...)
		checkAbsent(t, "after Remove", s, key, 11)
		checkError(t, "Remove again", s.Remove(key), 11)
		checkError(t, "Set of the removed key", s.Set(circle(key, 2)), 11)
		checkBodies(t, "after Remove failed", s, rest...)
		checkError(t, "Add again", s.Add(circle(key, 3)), 0)
		all := append(rest, circle(key, 3))
		slices.SortFunc(all, byKey)
		checkBodies(t, "after Add", s, all...)
	}
}

func TestRemoveOnly(t *testing.T) {
	for _, key := range []uint32{0, 1, greatest} {
		s := filled(t, circle(key, 1))
		checkError(t, "Remove", s.Remove(key), 0)
		checkBodies(t, "after the only body was removed", s)
		checkAbsent(t, "after the only body was removed", s, key, 11)
		checkError(t, "Remove again", s.Remove(key), 11)
		checkError(t, "Add again", s.Add(capsule(key)), 0)
		checkBodies(t, "after Add", s, capsule(key))
	}
}

// P6.3

func TestSet(t *testing.T) {
	s := filled(t, circle(8, 1), circle(greatest, 2), circle(0, 3))
	checkError(t, "Set", s.Set(capsule(0)), 0)
	checkError(t, "Set", s.Set(circle(greatest, 4)), 0)
	want := []api.Body{capsule(0), circle(8, 1), circle(greatest, 4)}
	checkBodies(t, "after Set", s, want...)
	checkError(t, "Set to the same body", s.Set(capsule(0)), 0)
	for _, key := range []uint32{1, 7, 9, greatest - 1} {
		checkError(t, "Set with an absent key", s.Set(circle(key, 5)), 11)
		checkAbsent(t, "after Set failed", s, key, 11)
	}
	for _, key := range []uint32{0, 1, 8, greatest} {
		for _, f := range faults(key) {
			checkError(t, "Set to an invalid body", s.Set(f.b), f.err)
		}
	}
	checkBodies(t, "after Set failed", s, want...)
}

// P6.4 and P6.5

func byKey(a, b api.Body) int { return cmp.Compare(a.Key, b.Key) }

// orders returns all orders of the numbers below n.
func orders(n int) [][]int {
	if n == 0 {
		return [][]int{nil}
	}
	var all [][]int
	for _, o := range orders(n - 1) {
		for i := range n {
			all = append(all, slices.Insert(slices.Clone(o), i, n-1))
		}
	}
	return all
}

// TestOrders adds bodies in all orders, and removes them in all orders.
func TestOrders(t *testing.T) {
	sorted := []api.Body{capsule(0), circle(1, 5), circle(256, 6), capsule(1 << 31), circle(greatest, 7)}
	all := orders(len(sorted))
	if len(all) != 120 {
		t.Fatalf("%d orders of 5 numbers", len(all))
	}
	for _, order := range all {
		s := &Store{}
		for _, i := range order {
			checkError(t, "Add", s.Add(sorted[i]), 0)
		}
		checkBodies(t, "added in any order", s, sorted...)
		for _, removal := range all {
			c := s.Clone()
			rest := slices.Clone(sorted)
			for _, i := range removal {
				checkError(t, "Remove", c.Remove(sorted[i].Key), 0)
				rest = slices.DeleteFunc(rest, func(b api.Body) bool { return b == sorted[i] })
				checkBodies(t, "removed in any order", c, rest...)
			}
		}
		if t.Failed() {
			t.Fatalf("added in the order %v", order)
		}
	}
}

// A model is a list of bodies in which all keys are looked for one by one.
type model struct {
	list []api.Body
}

func (m *model) find(key uint32) int {
	return slices.IndexFunc(m.list, func(b api.Body) bool { return b.Key == key })
}

func (m *model) add(b api.Body, invalid api.Errno) api.Errno {
	switch {
	case invalid != 0:
		return invalid
	case m.find(b.Key) >= 0:
		return 10
	case len(m.list) == 4096:
		return 12
	}
	m.list = append(m.list, b)
	slices.SortFunc(m.list, byKey)
	return 0
}

func (m *model) set(b api.Body, invalid api.Errno) api.Errno {
	i := m.find(b.Key)
	switch {
	case invalid != 0:
		return invalid
	case i < 0:
		return 11
	}
	m.list[i] = b
	return 0
}

func (m *model) remove(key uint32) api.Errno {
	i := m.find(key)
	if i < 0 {
		return 11
	}
	m.list = slices.Delete(m.list, i, i+1)
	return 0
}

// A series yields numbers without an evident pattern, the same ones each time.
type series uint64

func (s *series) below(n uint64) uint64 {
	*s = *s*6364136223846793005 + 1442695040888963407
	return uint64(*s) >> 33 % n
}

// step executes one operation on both s and m, with one of the keys.
func step(t *testing.T, r *series, s *Store, m *model, keys []uint32) {
	t.Helper()
	key := keys[r.below(uint64(len(keys)))]
	b, invalid := circle(key, int32(r.below(1<<30))), api.OK
	if r.below(8) == 0 {
		l := faults(key)
		f := l[r.below(uint64(len(l)))]
		b, invalid = f.b, f.err
	}
	switch r.below(4) {
	case 0, 1:
		checkError(t, "Add", s.Add(b), m.add(b, invalid))
	case 2:
		checkError(t, "Set", s.Set(b), m.set(b, invalid))
	case 3:
		checkError(t, "Remove", s.Remove(key), m.remove(key))
	}
	if m.find(key) < 0 {
		checkAbsent(t, "after a step", s, key, 11)
	}
}

func TestSteps(t *testing.T) {
	keys := []uint32{0, 1, 2, 3, 5, 8, 255, 256, 65536, 1 << 30, 1<<31 - 1, 1 << 31, greatest - 1, greatest}
	for seed := range 50 {
		r := series(seed)
		s, m := &Store{}, &model{}
		for range 400 {
			step(t, &r, s, m, keys)
			checkBodies(t, "after a step", s, m.list...)
			if t.Failed() {
				t.Fatalf("with the seed %d", seed)
			}
		}
	}
}

// TestStepsNearFull executes steps on stores that are full at times.
func TestStepsNearFull(t *testing.T) {
	s := full(t)
	m := &model{s.Bodies()}
	var keys []uint32
	for i := range uint32(12) {
		keys = append(keys, i*2)
	}
	r := series(7)
	for range 400 {
		step(t, &r, s, m, keys)
		if s.Len() != len(m.list) || t.Failed() {
			t.Fatalf("%d bodies, want %d", s.Len(), len(m.list))
		}
	}
	checkBodies(t, "near full", s, m.list...)
}

func TestExample(t *testing.T) {
	s := filled(t, circle(5, 1), circle(2, 2), circle(9, 3))
	checkError(t, "Remove", s.Remove(5), 0)
	checkBodies(t, "example", s, circle(2, 2), circle(9, 3))
}

// P6.4 and P6.6

func TestCloneIsIndependent(t *testing.T) {
	s := filled(t, circle(4, 1), circle(2, 2), circle(6, 3), circle(8, 4))
	// After a body is removed, the slice of the store has room that a clone must not share.
	checkError(t, "Remove", s.Remove(2), 0)
	c := s.Clone()
	d := c.Clone()
	want := []api.Body{circle(4, 1), circle(6, 3), circle(8, 4)}
	checkBodies(t, "clone", c, want...)
	checkError(t, "Add to the store", s.Add(circle(1, 5)), 0)
	checkError(t, "Add to the clone", c.Add(circle(3, 6)), 0)
	checkError(t, "Set in the store", s.Set(capsule(4)), 0)
	checkError(t, "Set in the clone", c.Set(capsule(6)), 0)
	checkError(t, "Remove from the clone", c.Remove(4), 0)
	checkBodies(t, "store", s, circle(1, 5), capsule(4), circle(6, 3), circle(8, 4))
	checkBodies(t, "clone", c, circle(3, 6), capsule(6), circle(8, 4))
	checkBodies(t, "clone of the clone", d, want...)
	checkAbsent(t, "store", s, 3, 11)
	checkAbsent(t, "clone", c, 1, 11)
	checkAbsent(t, "clone", c, 4, 11)
}

func TestCloneOfEmpty(t *testing.T) {
	s := filled(t, circle(4, 1))
	checkError(t, "Remove", s.Remove(4), 0)
	c := s.Clone()
	checkBodies(t, "clone", c)
	checkError(t, "Add to the store", s.Add(circle(1, 5)), 0)
	checkError(t, "Add to the clone", c.Add(circle(2, 6)), 0)
	checkBodies(t, "store", s, circle(1, 5))
	checkBodies(t, "clone", c, circle(2, 6))
}

func TestCloneOfFull(t *testing.T) {
	s := full(t)
	c := s.Clone()
	checkError(t, "Add to a full clone", c.Add(circle(1, 0)), 12)
	checkError(t, "Remove from the store", s.Remove(3), 0)
	checkError(t, "Add to a full clone", c.Add(circle(1, 0)), 12)
	checkError(t, "Add to the store", s.Add(circle(1, 0)), 0)
}

func TestBodiesAreIndependent(t *testing.T) {
	s := filled(t, circle(4, 1), circle(2, 2), circle(6, 3), circle(8, 4))
	checkError(t, "Remove", s.Remove(8), 0)
	want := []api.Body{circle(2, 2), circle(4, 1), circle(6, 3)}
	first, second := s.Bodies(), s.Bodies()
	for i := range first {
		first[i] = capsule(99)
	}
	_ = append(first, capsule(98))
	// The room behind the bodies is not the store's either.
	for i := range first[:cap(first)] {
		first[:cap(first)][i] = capsule(97)
	}
	checkBodies(t, "after a result was changed", s, want...)
	checkError(t, "Add", s.Add(circle(1, 5)), 0)
	checkError(t, "Set", s.Set(capsule(2)), 0)
	checkError(t, "Remove", s.Remove(4), 0)
	if !slices.Equal(second, want) {
		t.Errorf("Bodies() became %+v after the store changed", second)
	}
	checkBodies(t, "after steps", s, circle(1, 5), capsule(2), circle(6, 3))
}
