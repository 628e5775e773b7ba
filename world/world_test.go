package world

import (
	"bytes"
	"fmt"
	"math"
	"slices"
	"strings"
	"testing"

	"billiard/api"
	"billiard/step"
)

// The limits and parameters of the chapters are written out, so that they are checked as well.
const (
	one       = 65536
	worldMax  = 1073741824
	speedMax  = 16777216
	radiusMin = 4096
	radiusMax = 4194304
	axisMax   = 4194304
	massMax   = 1048576
	capacity  = 4096
	gravity   = 1024
	head      = 8                      // bytes of a snapshot before the bodies
	each      = 40                     // bytes of a body
	greatest  = math.MaxUint32         // key
	grazing   = 2*one - 1024           // distance at which two balls touch, but are not pushed apart
	beside    = 9 * one                // distance at which they do not touch
	empty     = "BIL1\x00\x00\x00\x00" // snapshot
)

func v(x, y int32) api.Vec { return api.Vec{X: x, Y: y} }

func bodies(l ...api.Body) []api.Body { return l }

// ball returns a circle with the radius 1, the mass 1 and the bounce 0.
func ball(key uint32, x, y, velX, velY int32) api.Body {
	return api.Body{Key: key, Radius: one, InvMass: one, Pos: v(x, y), Vel: v(velX, velY)}
}

// rod returns a capsule, all parts of which differ from each other and from 0.
func rod(key uint32) api.Body {
	return api.Body{Key: key, Radius: 70001, Axis: v(30002, -40003), InvMass: 50004, Bounce: 60005, Pos: v(-7000006, 80000007), Vel: v(900008, -1000009)}
}

// with returns a body with another inverse mass.
func with(mass int32, b api.Body) api.Body {
	b.InvMass = mass
	return b
}

// static returns a body without a mass.
func static(b api.Body) api.Body { return with(0, b) }

// hard returns a body with the greatest bounce.
func hard(b api.Body) api.Body {
	b.Bounce = one
	return b
}

// lattice returns n bodies with the keys 3, 6, .. in rows of 64, none of which touches another one.
func lattice(n int) []api.Body {
	l := make([]api.Body, 0, n)
	for i := range int32(n) {
		b := ball(uint32(i+1)*3, (i%64-32)*beside, (i/64-32)*beside, i*17, -i*19)
		b.InvMass, b.Bounce = i%5*30000, i%7*9000
		l = append(l, b)
	}
	return l
}

// short returns a text for a message about lists, which may be long.
func short(x any) string {
	text := strings.ToValidUTF8(fmt.Sprintf("%+v", x), "?")
	return text[:min(len(text), 1200)]
}

// The model: the definitions of layers 5, 6, 7, 19, 21 and 22, by looking at all bodies of a list. Steps are those of layer 20, which has a model of its own.

// A number is a field of a body with its limits.
type number struct {
	name        string
	of          func(b *api.Body) *int32
	least, most int32
	err         api.Errno
}

// numbers returns the fields of a body but the key, in the order of the encoding.
func numbers() []number {
	return []number{
		{"radius", func(b *api.Body) *int32 { return &b.Radius }, radiusMin, radiusMax, 4},
		{"axis x", func(b *api.Body) *int32 { return &b.Axis.X }, -axisMax, axisMax, 5},
		{"axis y", func(b *api.Body) *int32 { return &b.Axis.Y }, -axisMax, axisMax, 5},
		{"mass", func(b *api.Body) *int32 { return &b.InvMass }, 0, massMax, 6},
		{"bounce", func(b *api.Body) *int32 { return &b.Bounce }, 0, one, 7},
		{"place x", func(b *api.Body) *int32 { return &b.Pos.X }, -worldMax, worldMax, 8},
		{"place y", func(b *api.Body) *int32 { return &b.Pos.Y }, -worldMax, worldMax, 8},
		{"speed x", func(b *api.Body) *int32 { return &b.Vel.X }, -speedMax, speedMax, 9},
		{"speed y", func(b *api.Body) *int32 { return &b.Vel.Y }, -speedMax, speedMax, 9},
	}
}

// invalid returns the error of a body, or 0.
func invalid(b api.Body) api.Errno {
	for _, n := range numbers() {
		if f := *n.of(&b); f < n.least || f > n.most {
			return n.err
		}
	}
	return 0
}

// noView returns the error of a list that is no view, or 0.
func noView(l []api.Body) api.Errno {
	if len(l) > capacity {
		return 12
	}
	for _, b := range l {
		if err := invalid(b); err != 0 {
			return err
		}
	}
	for i, b := range l {
		if i > 0 && l[i-1].Key >= b.Key {
			return 10
		}
	}
	return 0
}

// word returns the 4 bytes of an integer, the most significant one first, for negative ones those of the integer plus 2^32.
func word(n int64) []byte {
	if n < 0 {
		n += 4294967296
	}
	return []byte{byte(n / 16777216), byte(n / 65536 % 256), byte(n / 256 % 256), byte(n % 256)}
}

// value returns the number from 0 to 2^32 - 1 that a list of bytes begins with.
func value(b []byte) int64 {
	return ((int64(b[0])*256+int64(b[1]))*256+int64(b[2]))*256 + int64(b[3])
}

// encode returns the encoding of bodies, which are a view or not.
func encode(l ...api.Body) []byte {
	b := append([]byte("BIL1"), word(int64(len(l)))...)
	for _, x := range l {
		b = append(b, word(int64(x.Key))...)
		for _, n := range numbers() {
			b = append(b, word(int64(*n.of(&x)))...)
		}
	}
	return b
}

// decode returns the bodies that are encoded, or the error.
func decode(b []byte) ([]api.Body, api.Errno) {
	if len(b) < head || string(b[:4]) != "BIL1" || int64(len(b)) != head+each*value(b[4:]) {
		return nil, 13
	}
	var l []api.Body
	for rest := b[head:]; len(rest) > 0; rest = rest[each:] {
		x := api.Body{Key: uint32(value(rest))}
		for i, n := range numbers() {
			f := value(rest[4+4*i:])
			if f >= 2147483648 {
				f -= 4294967296
			}
			*n.of(&x) = int32(f)
		}
		l = append(l, x)
	}
	return l, noView(l)
}

// pushed returns a component of a velocity after an impulse.
func pushed(vel, j, mass int32) int32 {
	product := int64(j) * int64(mass)
	change := product / one
	if product%one < 0 {
		change--
	}
	return int32(max(-speedMax, min(speedMax, int64(vel)+change)))
}

// A model is a world that has only a list of its bodies, in ascending order of their keys.
type model struct {
	list []api.Body
}

// index returns the index of the body with the key, or -1.
func (m *model) index(key uint32) int {
	for i, b := range m.list {
		if b.Key == key {
			return i
		}
	}
	return -1
}

func (m *model) add(b api.Body) api.Errno {
	switch err := invalid(b); {
	case err != 0:
		return err
	case m.index(b.Key) >= 0:
		return 10
	case len(m.list) >= capacity:
		return 12
	}
	at := 0
	for at < len(m.list) && m.list[at].Key < b.Key {
		at++
	}
	m.list = slices.Insert(slices.Clone(m.list), at, b)
	return 0
}

func (m *model) remove(key uint32) api.Errno {
	i := m.index(key)
	if i < 0 {
		return 11
	}
	m.list = slices.Delete(slices.Clone(m.list), i, i+1)
	return 0
}

func (m *model) get(key uint32) (api.Body, api.Errno) {
	i := m.index(key)
	if i < 0 {
		return api.Body{}, 11
	}
	return m.list[i], 0
}

func (m *model) impulse(key uint32, j api.Vec) api.Errno {
	i := m.index(key)
	if i < 0 {
		return 11
	}
	m.list = slices.Clone(m.list)
	b := &m.list[i]
	b.Vel = v(pushed(b.Vel.X, j.X, b.InvMass), pushed(b.Vel.Y, j.Y, b.InvMass))
	return 0
}

func (m *model) step() api.Stats {
	after, stats := step.Step(m.list)
	m.list = after
	return stats
}

func (m *model) restore(b []byte) api.Errno {
	l, err := decode(b)
	if err == 0 {
		m.list = l
	}
	return err
}

// A kind of operation has the name of its method.
type kind int

const (
	add kind = iota
	remove
	get
	impulse
	steps
	snapshot
	restore
	list
	kinds // their number
)

// An operation calls a method.
type operation struct {
	kind kind
	b    api.Body
	key  uint32
	j    api.Vec
	data []byte
}

// An outcome is what an operation returned.
type outcome struct {
	err   api.Errno
	b     api.Body
	stats api.Stats
	data  string // snapshot, or encoding of the view
}

// on makes the operation on a world.
func (o operation) on(w *World) outcome {
	switch o.kind {
	case add:
		return outcome{err: w.Add(o.b)}
	case remove:
		return outcome{err: w.Remove(o.key)}
	case get:
		b, err := w.Get(o.key)
		return outcome{err: err, b: b}
	case impulse:
		return outcome{err: w.Impulse(o.key, o.j)}
	case steps:
		return outcome{stats: w.Step()}
	case snapshot:
		return outcome{data: string(w.Snapshot())}
	case restore:
		return outcome{err: w.Restore(o.data)}
	}
	return outcome{data: string(encode(w.View()...))}
}

// onModel makes the operation on a model.
func (o operation) onModel(m *model) outcome {
	switch o.kind {
	case add:
		return outcome{err: m.add(o.b)}
	case remove:
		return outcome{err: m.remove(o.key)}
	case get:
		b, err := m.get(o.key)
		return outcome{err: err, b: b}
	case impulse:
		return outcome{err: m.impulse(o.key, o.j)}
	case steps:
		return outcome{stats: m.step()}
	case restore:
		return outcome{err: m.restore(o.data)}
	}
	return outcome{data: string(encode(m.list...))}
}

// A twin is a world with the model of it.
type twin struct {
	t *testing.T
	w World
	m model
}

// twinOf returns a world to which bodies were added.
func twinOf(t *testing.T, l ...api.Body) *twin {
	t.Helper()
	p := &twin{t: t}
	for _, b := range l {
		p.add(b, 0)
	}
	return p
}

// do makes an operation on both, and compares the outcomes.
func (p *twin) do(o operation) outcome {
	p.t.Helper()
	got, want := o.on(&p.w), o.onModel(&p.m)
	if got != want {
		p.t.Fatalf("%s of %s is %s, want %s", short(o), short(p.m.list), short(got), short(want))
	}
	return want
}

// check compares the worlds as a whole.
func (p *twin) check() {
	p.t.Helper()
	checkWorld(p.t, &p.w, p.m.list...)
}

// expect makes an operation that has an error, or 0, and changes nothing if it has one.
func (p *twin) expect(o operation, err api.Errno) {
	p.t.Helper()
	before := p.w.View()
	if got := p.do(o).err; got != err {
		p.t.Fatalf("%s of %s has the error %d, want %d", short(o), short(before), got, err)
	}
	if err != 0 {
		checkWorld(p.t, &p.w, before...)
	}
}

func (p *twin) add(b api.Body, err api.Errno) {
	p.t.Helper()
	p.expect(operation{kind: add, b: b}, err)
}

func (p *twin) remove(key uint32, err api.Errno) {
	p.t.Helper()
	p.expect(operation{kind: remove, key: key}, err)
}

func (p *twin) impulse(key uint32, j api.Vec, err api.Errno) {
	p.t.Helper()
	p.expect(operation{kind: impulse, key: key, j: j}, err)
}

func (p *twin) restore(data []byte, err api.Errno) {
	p.t.Helper()
	p.expect(operation{kind: restore, data: data}, err)
}

func (p *twin) step() api.Stats {
	p.t.Helper()
	return p.do(operation{kind: steps}).stats
}

// checkWorld compares the results of all methods that change nothing with the bodies, which are a view.
func checkWorld(t *testing.T, w *World, want ...api.Body) {
	t.Helper()
	if err := noView(want); err != 0 {
		t.Fatalf("%s is no view: %d", short(want), err)
	}
	if got := w.View(); !slices.Equal(got, want) {
		t.Errorf("View() = %s, want %s", short(got), short(want))
	}
	if got := w.Snapshot(); !bytes.Equal(got, encode(want...)) {
		t.Errorf("Snapshot() = %v, want that of %s", short(got), short(want))
	}
	used := map[uint32]bool{}
	for _, b := range want {
		used[b.Key] = true
		if got, err := w.Get(b.Key); got != b || err != 0 {
			t.Errorf("Get(%d) = %+v, %d, want %+v", b.Key, got, err, b)
		}
	}
	absent := []uint32{0, 1, 2, 4, 7, 1<<31 - 1, 1 << 31, greatest - 1, greatest}
	for _, b := range want[:min(len(want), 20)] {
		absent = append(absent, b.Key-1, b.Key+1, b.Key^1<<31)
	}
	for _, key := range absent {
		if got, err := w.Get(key); !used[key] && (got != api.Body{} || err != 11) {
			t.Errorf("Get(%d) = %+v, %d, want a zero body and 11", key, got, err)
		}
	}
	if t.Failed() {
		// All that follows would fail as well.
		t.FailNow()
	}
}

// wrong returns bodies that have the key and an error each, with the errors.
func wrong(key uint32) (l []api.Body, errs []api.Errno) {
	all := numbers()
	last := all[len(all)-1]
	for _, n := range all {
		for _, f := range []int32{n.least - 1, n.most + 1, math.MinInt32, math.MaxInt32} {
			l, errs = append(l, n.set(rod(key), f)), append(errs, n.err)
		}
		// The error that layer 5 names first is the one of a body with several ones.
		b := last.set(rod(key), last.most+1)
		l, errs = append(l, n.set(b, n.least-1)), append(errs, n.err)
	}
	return append(l, api.Body{Key: key}), append(errs, 4)
}

// set returns a body with another number in the field.
func (n number) set(b api.Body, f int32) api.Body {
	*n.of(&b) = f
	return b
}

// A nil World and the zero World

func TestNil(t *testing.T) {
	var w *World
	errs := map[string]api.Errno{}
	for _, key := range []uint32{0, 1, greatest} {
		errs["Add"] = w.Add(ball(key, 0, 0, 0, 0))
		errs["Add of an invalid body"] = w.Add(api.Body{Key: key})
		errs["Remove"] = w.Remove(key)
		errs["Impulse"] = w.Impulse(key, v(1, -1))
		errs["Impulse of 0"] = w.Impulse(key, v(0, 0))
		b, err := w.Get(key)
		if errs["Get"] = err; b != (api.Body{}) {
			t.Errorf("Get(%d) of a nil World returns %+v", key, b)
		}
		errs["Restore"] = w.Restore(encode(rod(key)))
		errs["Restore of an invalid body"] = w.Restore(encode(api.Body{Key: key}))
		errs["Restore of no snapshot"] = w.Restore([]byte("BIL2"))
		errs["Restore of the empty snapshot"] = w.Restore([]byte(empty))
		errs["Restore of nil"] = w.Restore(nil)
		for name, err := range errs {
			if err != 1 {
				t.Errorf("%s of a nil World returns %d", name, err)
			}
		}
		if s := w.Step(); s != (api.Stats{}) {
			t.Errorf("Step of a nil World returns %+v", s)
		}
		if l := w.View(); len(l) != 0 {
			t.Errorf("View of a nil World returns %+v", l)
		}
		if b := w.Snapshot(); len(b) != 0 {
			t.Errorf("Snapshot of a nil World returns %v", b)
		}
	}
}

func TestZero(t *testing.T) {
	var w World
	checkWorld(t, &w)
	checkWorld(t, new(World))
	p := twinOf(t)
	for _, key := range []uint32{0, 1, greatest} {
		p.remove(key, 11)
		p.impulse(key, v(1, -1), 11)
		p.impulse(key, v(0, 0), 11)
		p.add(api.Body{Key: key}, 4)
		p.restore(nil, 13)
	}
	if s := p.step(); s != (api.Stats{}) {
		t.Errorf("a step without bodies has %+v", s)
	}
	p.check()
	p.restore([]byte(empty), 0)
	p.check()
	p.add(rod(0), 0)
	p.check()
}

func TestExample(t *testing.T) {
	p := twinOf(t, ball(2, 0, 0, 0, 0), rod(1))
	if n := len(p.w.Snapshot()); n != 88 {
		t.Errorf("the snapshot of two bodies has %d bytes", n)
	}
	p.check()
}

// P22.1

func TestAdd(t *testing.T) {
	p := twinOf(t)
	for _, key := range []uint32{5, greatest, 0, 1 << 31, 7} {
		b := rod(key)
		b.Pos.X += int32(key % 1000)
		p.add(b, 0)
		p.check()
		p.add(b, 10)
		p.add(ball(key, 1, 2, 3, 4), 10)
	}
	var keys []uint32
	for _, b := range p.w.View() {
		keys = append(keys, b.Key)
	}
	if !slices.Equal(keys, []uint32{0, 5, 7, 1 << 31, greatest}) {
		t.Errorf("the keys are %v", keys)
	}
}

// TestAddInvalid has invalid bodies with keys that are used and that are not.
func TestAddInvalid(t *testing.T) {
	for _, l := range [][]api.Body{nil, bodies(rod(0)), bodies(ball(greatest, 0, 0, 0, 0), rod(9))} {
		p := twinOf(t, l...)
		for _, key := range []uint32{0, 9, 10, greatest} {
			wrongs, errs := wrong(key)
			for i, b := range wrongs {
				p.add(b, errs[i])
			}
		}
	}
}

// TestAddAtLimits has bodies whose fields are at a limit, one by one and all of them.
func TestAddAtLimits(t *testing.T) {
	p := twinOf(t)
	least, most := rod(1), rod(greatest)
	for i, n := range numbers() {
		for j, f := range []int32{n.least, n.most, n.least + 1, n.most - 1} {
			p.add(n.set(rod(uint32(100+10*i+j)), f), 0)
		}
		least, most = n.set(least, n.least), n.set(most, n.most)
	}
	p.add(least, 0)
	p.add(most, 0)
	p.check()
	if len(p.m.list) != 4*9+2 {
		t.Errorf("there are %d bodies", len(p.m.list))
	}
}

// full returns a world with as many bodies as there may be.
func full(t *testing.T) (*twin, []api.Body) {
	t.Helper()
	p, l := &twin{t: t}, lattice(capacity)
	for i := range l {
		// 5 and 4096 have no common divisor, so each body is added once.
		if err := p.w.Add(l[i*5%capacity]); err != 0 {
			t.Fatalf("Add of body %d returns %d", i, err)
		}
	}
	p.m.list = l
	return p, l
}

func TestFull(t *testing.T) {
	p, l := full(t)
	p.check()
	for _, key := range []uint32{0, 1, 4, greatest} {
		p.add(rod(key), 12)
	}
	for _, key := range []uint32{3, 6, 3 * capacity} {
		p.add(rod(key), 10)
	}
	for _, key := range []uint32{0, 3} {
		for i, f := range []int32{radiusMin - 1, radiusMax + 1} {
			b := rod(key)
			b.Radius = f
			p.add(b, 4)
			b = rod(key)
			b.Vel = v(speedMax*int32(i), (speedMax+1)*int32(1-2*i))
			p.add(b, 9)
		}
	}
	p.impulse(4, v(1, 1), 11)
	p.impulse(l[7].Key, v(one, -one), 0)
	p.remove(4, 11)
	p.remove(3*2000, 0)
	p.add(rod(1), 0)
	p.add(rod(3*2000), 12)
	p.check()
}

func TestFullThenEmpty(t *testing.T) {
	p, l := full(t)
	for i := range l {
		if err := p.w.Remove(l[i*7%capacity].Key); err != 0 {
			t.Fatalf("Remove of body %d returns %d", i, err)
		}
	}
	p.m.list = nil
	p.check()
	p.add(rod(3), 0)
	p.check()
}

func TestRemove(t *testing.T) {
	keys := []uint32{0, 4, 7, greatest}
	for _, key := range keys {
		p := twinOf(t, rod(greatest), rod(0), rod(7), rod(4))
		p.remove(5, 11)
		p.remove(key, 0)
		p.check()
		p.remove(key, 11)
		p.impulse(key, v(1, 1), 11)
		p.add(ball(key, 1, 2, 3, 4), 0)
		p.check()
		p.add(rod(key), 10)
		for _, other := range keys {
			p.remove(other, 0)
			p.check()
		}
	}
}

func TestRemoveOnly(t *testing.T) {
	for _, key := range []uint32{0, 1, greatest} {
		p := twinOf(t, rod(key))
		for range 3 {
			p.remove(key, 0)
			p.check()
			p.remove(key, 11)
			p.add(ball(key, 1, 2, 3, 4), 0)
			p.check()
		}
	}
}

// P22.2

func TestImpulse(t *testing.T) {
	for _, x := range []struct {
		b       api.Body
		j, want api.Vec
	}{
		{ball(1, 0, 0, 0, 0), v(0, 0), v(0, 0)},
		{ball(1, 0, 0, 5, -6), v(0, 0), v(5, -6)},
		{ball(1, 0, 0, 0, 0), v(64, -65), v(64, -65)},
		{ball(0, 9, 9, 100, 200), v(-300, 400), v(-200, 600)},
		{ball(greatest, 0, 0, -1, 1), v(1, -1), v(0, 0)},
		// The floors of products that are no multiples of 2^16.
		{with(one/2, ball(1, 0, 0, 0, 0)), v(3, -3), v(1, -2)},
		{with(one/2, ball(1, 0, 0, 7, 7)), v(-1, 1), v(6, 7)},
		{with(1, ball(1, 0, 0, 0, 0)), v(one-1, -1), v(0, -1)},
		{with(1, ball(1, 0, 0, 0, 0)), v(-one, one), v(-1, 1)},
		{with(1, ball(1, 0, 0, 0, 0)), v(math.MinInt32, math.MaxInt32), v(-32768, 32767)},
		{with(massMax, ball(1, 0, 0, 0, 0)), v(1, -1), v(16, -16)},
		{with(40000, ball(1, 0, 0, 10, 10)), v(-7, 7), v(5, 14)},
		// A static body is not moved by any impulse.
		{static(ball(1, 0, 0, 0, 0)), v(one, -one), v(0, 0)},
		{static(ball(1, 0, 0, 12, -13)), v(math.MaxInt32, math.MinInt32), v(12, -13)},
		{static(ball(1, 0, 0, -speedMax, speedMax)), v(-1, 1), v(-speedMax, speedMax)},
		// The speed is limited, in each component by itself.
		{ball(1, 0, 0, 0, 0), v(speedMax, -speedMax), v(speedMax, -speedMax)},
		{ball(1, 0, 0, 0, 0), v(speedMax+1, -speedMax-1), v(speedMax, -speedMax)},
		{ball(1, 0, 0, speedMax, -speedMax), v(1, -1), v(speedMax, -speedMax)},
		{ball(1, 0, 0, speedMax, -speedMax), v(-1, 1), v(speedMax-1, 1-speedMax)},
		{ball(1, 0, 0, speedMax, -speedMax), v(-2*speedMax, 2*speedMax), v(-speedMax, speedMax)},
		{ball(1, 0, 0, speedMax-5, 3), v(6, 7), v(speedMax, 10)},
		{ball(1, 0, 0, 3, 5-speedMax), v(7, -6), v(10, -speedMax)},
		{with(massMax, ball(1, 0, 0, speedMax, -speedMax)), v(math.MinInt32, math.MaxInt32), v(-speedMax, speedMax)},
		{with(massMax, ball(1, 0, 0, 0, 0)), v(math.MaxInt32, math.MinInt32), v(speedMax, -speedMax)},
	} {
		others := bodies(rod(7), ball(8, 1, 2, 3, 4))
		p := twinOf(t, others[1], x.b, others[0])
		p.impulse(x.b.Key, x.j, 0)
		p.check()
		after := x.b
		after.Vel = x.want
		if got, err := p.w.Get(x.b.Key); got != after || err != 0 {
			t.Errorf("after the impulse %v, %+v has become %+v (%d), want %+v", x.j, x.b, got, err, after)
		}
		for _, other := range others {
			if got, err := p.w.Get(other.Key); got != other || err != 0 {
				t.Errorf("after an impulse of another body, %+v has become %+v (%d)", other, got, err)
			}
		}
	}
}

// TestImpulses gives impulses to bodies of a world one after the other, which are rounded and limited one by one.
func TestImpulses(t *testing.T) {
	p := twinOf(t, with(one/2, rod(3)), with(massMax, rod(0)), static(rod(greatest)), with(77, rod(2)))
	for i := range 200 {
		n := int32(i*i*i - 1000000)
		for _, key := range []uint32{0, 2, 3, greatest} {
			p.impulse(key, v(n, -3*n), 0)
			p.check()
			p.impulse(key+5, v(n, n), 11)
		}
	}
	p = twinOf(t, with(one/2, ball(1, 0, 0, 0, 0)))
	p.impulse(1, v(1, -1), 0)
	p.impulse(1, v(1, -1), 0)
	if b, _ := p.w.Get(1); b.Vel != v(0, -2) {
		t.Errorf("after two impulses, the velocity is %v", b.Vel)
	}
}

func TestImpulseAbsent(t *testing.T) {
	for _, l := range [][]api.Body{nil, bodies(rod(1)), bodies(rod(1), rod(5)), bodies(rod(greatest-1), rod(1<<31))} {
		p := twinOf(t, l...)
		for _, key := range []uint32{0, 2, 4, 6, greatest} {
			for _, j := range []api.Vec{v(0, 0), v(1, 1), v(math.MinInt32, math.MaxInt32)} {
				p.impulse(key, j, 11)
			}
		}
	}
}

// P22.3

// A scene is a view before and after a step, with its contacts, and whether a limit is reached.
type scene struct {
	name          string
	before, after []api.Body
	contacts      int
	clamped       bool
}

func TestStep(t *testing.T) {
	for _, x := range []scene{
		{"no bodies", nil, nil, 0, false},
		{"fall", bodies(ball(1, 0, 0, 0, 0)), bodies(ball(1, 0, -16, 0, -gravity)), 0, false},
		{"fall on", bodies(ball(1, 0, -16, 0, -gravity)), bodies(ball(1, 0, -48, 0, -2*gravity)), 0, false},
		{"static", bodies(static(rod(0)), static(ball(1, 0, 0, 0, 0))), bodies(static(movedBy(rod(0), 14062, -15626)), static(ball(1, 0, 0, 0, 0))), 0, false},
		{"static, at one place", bodies(static(ball(0, 5, 5, 0, 0)), static(ball(1, 5, 5, 64, -1))), bodies(static(ball(0, 5, 5, 0, 0)), static(ball(1, 6, 4, 64, -1))), 1, false},
		{"static, at the edge", bodies(static(ball(3, worldMax, 0, 63, 0)), static(ball(4, 0, -worldMax, 0, 0))), bodies(static(ball(3, worldMax, 0, 63, 0)), static(ball(4, 0, -worldMax, 0, 0))), 0, false},
		{"static, over the edge", bodies(static(ball(3, worldMax, 0, 64, 0))), bodies(static(ball(3, worldMax, 0, 64, 0))), 0, true},
		{"lying", bodies(static(ball(7, 0, 0, 0, 0)), ball(9, 0, grazing, 0, 0)), bodies(static(ball(7, 0, 0, 0, 0)), ball(9, 0, grazing, 0, 0)), 1, false},
		{"exchange", bodies(hard(ball(1, 0, 0, 64, 0)), hard(ball(2, grazing, 0, -64, 0))), bodies(hard(ball(1, -1, -16, -64, -gravity)), hard(ball(2, grazing+1, -16, 64, -gravity))), 1, false},
		{"edge", bodies(ball(1, 5, -worldMax, 0, 0)), bodies(ball(1, 5, -worldMax, 0, -gravity)), 0, true},
		{"at speed", bodies(ball(1, 0, 0, 0, gravity-speedMax)), bodies(ball(1, 0, -speedMax/64, 0, -speedMax)), 0, false},
		{"over speed", bodies(ball(1, 0, 0, speedMax, gravity-1-speedMax)), bodies(ball(1, speedMax/64, -speedMax/64, speedMax, -speedMax)), 0, true},
		{"one of two", bodies(ball(1, 0, 0, 0, -speedMax), ball(2, beside, 0, 0, 0)), bodies(ball(1, 0, -speedMax/64, 0, -speedMax), ball(2, beside, -16, 0, -gravity)), 0, true},
	} {
		t.Run(x.name, func(t *testing.T) {
			_, stats := step.Step(x.before)
			backwards := slices.Clone(x.before)
			slices.Reverse(backwards)
			for _, l := range [][]api.Body{x.before, backwards} {
				p := twinOf(t, l...)
				got := p.step()
				if want := (api.Stats{Tests: stats.Tests, Contacts: x.contacts, Clamped: x.clamped}); got != want {
					t.Errorf("the statistics are %+v, want %+v", got, want)
				}
				if n := len(l); got.Tests > n*(n-1)/2 || got.Tests < x.contacts {
					t.Errorf("%d comparisons", got.Tests)
				}
				p.check()
				checkWorld(t, &p.w, x.after...)
			}
		})
	}
}

func movedBy(b api.Body, x, y int32) api.Body {
	b.Pos.X += x
	b.Pos.Y += y
	return b
}

// table returns a view in which bodies touch, fall, and reach limits.
func table() []api.Body {
	return bodies(static(ball(1, 0, 0, 64, 0)), hard(ball(2, 0, one, 5, -one)), movedBy(rod(5), 7000000, -80000000), ball(9, worldMax, 0, 640, -speedMax), static(rod(10)))
}

// TestSteps makes many steps, and compares them with those of layer 20 for the view.
func TestSteps(t *testing.T) {
	p := twinOf(t, table()...)
	for n := range 30 {
		stats := p.step()
		p.check()
		if n == 0 && (stats.Contacts < 1 || !stats.Clamped) {
			t.Errorf("the statistics are %+v", stats)
		}
	}
	after, _ := step.Steps(table(), 30)
	checkWorld(t, &p.w, after...)
}

// TestStepBetween has steps after bodies were removed, added and pushed.
func TestStepBetween(t *testing.T) {
	p := twinOf(t, table()...)
	p.step()
	p.remove(9, 0)
	p.add(ball(0, 3, one, 4, 5), 0)
	p.step()
	p.check()
	p.impulse(2, v(0, 3*one), 0)
	p.remove(1, 0)
	p.remove(10, 0)
	p.add(rod(9), 0)
	p.add(rod(9), 10)
	p.step()
	p.check()
	p.remove(9, 0)
	p.remove(9, 11)
	p.step()
	p.check()
}

func TestFullStep(t *testing.T) {
	p, l := full(t)
	for range 2 {
		if s := p.step(); s.Contacts != 0 || s.Clamped {
			t.Errorf("the statistics are %+v", s)
		}
		p.check()
	}
	p.add(rod(1), 12)
	p.remove(l[99].Key, 0)
	p.add(rod(1), 0)
	p.check()
}

// P22.4

// TestSnapshot has snapshots that are written out byte by byte.
func TestSnapshot(t *testing.T) {
	p := twinOf(t)
	checkBytes(t, p.w.Snapshot(), []byte(empty))
	p.add(api.Body{Key: greatest, Radius: 0x1000, Pos: v(-3, -256), Vel: v(-257, -65536)}, 0)
	last := "\xff\xff\xff\xff" + "\x00\x00\x10\x00" + "\x00\x00\x00\x00" + "\x00\x00\x00\x00" + "\x00\x00\x00\x00" + "\x00\x00\x00\x00" + "\xff\xff\xff\xfd" + "\xff\xff\xff\x00" + "\xff\xff\xfe\xff" + "\xff\xff\x00\x00"
	checkBytes(t, p.w.Snapshot(), []byte("BIL1\x00\x00\x00\x01"+last))
	p.add(api.Body{Key: 0x01020304, Radius: 0x00112233, Axis: v(0x00213243, -0x00213243), InvMass: 0x000a0b0c, Bounce: 0x0000d0e0, Pos: v(0x31415926, -0x27182818), Vel: v(0x00fedcba, -0x00fedcba)}, 0)
	first := "\x01\x02\x03\x04" + "\x00\x11\x22\x33" + "\x00\x21\x32\x43" + "\xff\xde\xcd\xbd" + "\x00\x0a\x0b\x0c" + "\x00\x00\xd0\xe0" + "\x31\x41\x59\x26" + "\xd8\xe7\xd7\xe8" + "\x00\xfe\xdc\xba" + "\xff\x01\x23\x46"
	checkBytes(t, p.w.Snapshot(), []byte("BIL1\x00\x00\x00\x02"+first+last))
	p.remove(greatest, 0)
	checkBytes(t, p.w.Snapshot(), []byte("BIL1\x00\x00\x00\x01"+first))
	p.remove(0x01020304, 0)
	checkBytes(t, p.w.Snapshot(), []byte(empty))
}

func checkBytes(t *testing.T, got, want []byte) {
	t.Helper()
	if !bytes.Equal(got, want) {
		t.Errorf("the bytes are %v, want %v", short(got), short(want))
	}
}

// TestRestore restores snapshots of no, one and several bodies in worlds with no, some of the same, and other bodies.
func TestRestore(t *testing.T) {
	views := [][]api.Body{nil, bodies(rod(0)), bodies(ball(0, 1, 2, 3, 4)), bodies(rod(greatest)), bodies(rod(0), rod(greatest)), table(), table()[1:3], lattice(100)}
	for _, before := range views {
		for _, l := range views {
			p := twinOf(t, before...)
			other := twinOf(t, l...)
			p.restore(other.w.Snapshot(), 0)
			checkWorld(t, &p.w, l...)
			checkBytes(t, p.w.Snapshot(), encode(l...))
			other.check()
			for i := range 2 {
				if a, b := p.step(), other.step(); a != b {
					t.Errorf("step %d has %+v, and %+v in the world with the snapshot", i, b, a)
				}
				p.check()
				checkWorld(t, &p.w, other.w.View()...)
			}
			p.restore(encode(before...), 0)
			checkWorld(t, &p.w, before...)
		}
	}
}

// TestRestoreSame restores a snapshot of the world itself, which changes nothing, and later ones, which undo what was done.
func TestRestoreSame(t *testing.T) {
	p := twinOf(t, table()...)
	data := p.w.Snapshot()
	p.restore(data, 0)
	checkWorld(t, &p.w, table()...)
	p.step()
	p.remove(2, 0)
	p.add(rod(77), 0)
	p.restore(data, 0)
	checkWorld(t, &p.w, table()...)
	p.restore(data, 0)
	checkWorld(t, &p.w, table()...)
	p.restore(encode(), 0)
	checkWorld(t, &p.w)
	p.restore(data, 0)
	checkWorld(t, &p.w, table()...)
}

// TestAfterRestore uses all methods that change bodies after a snapshot was restored.
func TestAfterRestore(t *testing.T) {
	p := twinOf(t, rod(1), rod(2), rod(3))
	p.restore(encode(table()...), 0)
	p.remove(3, 11)
	p.impulse(3, v(1, 1), 11)
	p.add(rod(2), 10)
	p.add(rod(3), 0)
	p.impulse(3, v(one, 1), 0)
	p.impulse(2, v(1, one), 0)
	p.check()
	for _, key := range []uint32{5, 1, 10, 3, 9, 2} {
		p.remove(key, 0)
		p.check()
		p.remove(key, 11)
	}
	p.restore(encode(rod(8)), 0)
	p.remove(8, 0)
	p.check()
}

func TestRestoreFull(t *testing.T) {
	p, l := full(t)
	data := p.w.Snapshot()
	if len(data) != 163848 {
		t.Errorf("the snapshot has %d bytes", len(data))
	}
	q := twinOf(t, table()...)
	many := append(lattice(capacity), rod(greatest))
	q.restore(encode(many...), 12)
	many[0].Radius, many[1].Key = 0, 0
	q.restore(encode(many...), 12)
	q.restore(data, 0)
	q.check()
	q.add(rod(1), 12)
	q.remove(l[0].Key, 0)
	q.add(rod(1), 0)
	q.check()
	p.restore(encode(many...), 12)
	p.restore(encode(table()...), 0)
	checkWorld(t, &p.w, table()...)
	p.add(rod(77), 0)
}

// rejected returns bytes that are no snapshots, with their errors.
func rejected() (l [][]byte, errs []api.Errno) {
	put := func(err api.Errno, b []byte) { l, errs = append(l, b), append(errs, err) }
	put(13, nil)
	put(13, []byte{})
	put(13, make([]byte, head))
	good := encode(rod(1), ball(7, 1, 2, 3, 4))
	for n := range good {
		put(13, good[:n])
	}
	for n := 1; n < len(good); n++ {
		put(13, good[n:])
		put(13, slices.Concat(good, make([]byte, n)))
	}
	for _, n := range []int64{0, 1, 3, 4, 258, 65538, 1<<24 + 2, 1<<29 + 2, 1<<31 + 2, greatest} {
		put(13, slices.Concat(good[:4], word(n), good[8:]))
	}
	for _, text := range []string{"BIL2", "BIL0", "bil1", "BIL\x00", "1LIB", "\x00BIL", " BIL", "BILL", "AIL1"} {
		put(13, append([]byte(text), good[4:]...))
		put(13, []byte(text+empty[4:]))
	}
	wrongs, kinds := wrong(7)
	for i, b := range wrongs {
		put(kinds[i], encode(b))
		put(kinds[i], encode(rod(1), b))
		put(kinds[i], encode(b, rod(8)))
		// Neither the keys nor a later body with another error count.
		put(kinds[i], encode(b, rod(7)))
		put(kinds[i], encode(b, wrongs[len(wrongs)-1-i]))
		put(13, encode(b)[:head+each-1])
		put(13, append(encode(b), 0))
	}
	for _, keys := range [][]uint32{{0, 0}, {1, 1}, {greatest, greatest}, {2, 1}, {greatest, 0}, {1 << 31, 1}, {1, 2, 2}, {1, 3, 2}, {2, 1, 3}, {3, 2, 1}} {
		var v []api.Body
		for _, key := range keys {
			v = append(v, rod(key))
		}
		put(10, encode(v...))
	}
	return l, errs
}

func TestRejected(t *testing.T) {
	bad, errs := rejected()
	for _, l := range [][]api.Body{nil, bodies(rod(1)), bodies(rod(1), ball(7, 1, 2, 3, 4)), table()} {
		p := twinOf(t, l...)
		for i, b := range bad {
			p.restore(b, errs[i])
		}
		p.check()
		p.step()
		p.check()
	}
}

// TestEachByte gives each byte of a snapshot other values: the bytes are the snapshot afterwards, or are rejected.
func TestEachByte(t *testing.T) {
	data := encode(rod(1<<24), rod(2<<24))
	p := twinOf(t, table()...)
	restored := 0
	for at := range data {
		for _, x := range []byte{0, 1, 2, 3, 15, 16, 63, 64, 127, 128, 192, 254, 255} {
			before, b := p.w.Snapshot(), slices.Clone(data)
			b[at] = x
			if p.do(operation{kind: restore, data: b}).err == 0 {
				before = b
				restored++
			}
			checkBytes(t, p.w.Snapshot(), before)
		}
	}
	p.check()
	if restored < 200 {
		t.Errorf("only %d snapshots were restored", restored)
	}
}

// P22.5 and P22.6

// orders returns all orders of some bodies.
func orders(l []api.Body) [][]api.Body {
	if len(l) == 0 {
		return [][]api.Body{nil}
	}
	var all [][]api.Body
	for _, o := range orders(l[1:]) {
		for i := range l {
			all = append(all, slices.Insert(slices.Clone(o), i, l[0]))
		}
	}
	return all
}

func TestOrders(t *testing.T) {
	l := bodies(ball(0, 0, 0, 64, 0), ball(3, one, 0, 0, 5), static(ball(4, 0, -one, 0, 0)), hard(ball(1<<31, one, one, -7, 0)), ball(greatest, 1, -one, 0, 0))
	after, stats := step.Step(l)
	all := orders(l)
	if len(all) != 120 || stats.Contacts < 5 {
		t.Fatalf("%d orders, and a step with %+v", len(all), stats)
	}
	for _, order := range all {
		p := twinOf(t, order...)
		checkWorld(t, &p.w, l...)
		if got := p.step(); got != stats {
			t.Errorf("a step has %+v, want %+v", got, stats)
		}
		checkWorld(t, &p.w, after...)
		for i, b := range order {
			p.remove(b.Key, 0)
			if i%2 == 0 {
				p.check()
			}
		}
	}
}

// histories returns worlds that have the same bodies, which are those of before after a step, and came by them in different ways.
func histories(t *testing.T, before []api.Body) ([]*World, []api.Body) {
	stepped := &twinOf(t, before...).w
	stepped.Step()
	l := stepped.View()
	backwards := slices.Clone(l)
	slices.Reverse(backwards)
	forth, back := &twinOf(t, l...).w, &twinOf(t, backwards...).w
	// Bodies between, which are removed, and others with the same keys.
	crowded := &World{}
	for _, b := range l {
		crowded.Add(ball(b.Key+1, 0, 0, 0, 0))
		crowded.Remove(b.Key)
		crowded.Add(ball(b.Key, 5, 6, 7, 8))
	}
	crowded.Step()
	for _, b := range crowded.View() {
		crowded.Remove(b.Key)
	}
	for _, b := range backwards {
		crowded.Add(b)
	}
	restored, replaced, twice := &World{}, &twinOf(t, lattice(70)...).w, &twinOf(t, table()...).w
	restored.Restore(stepped.Snapshot())
	replaced.Restore(encode(l...))
	twice.Restore(encode(before...))
	twice.Step()
	twice.Restore(twice.Snapshot())
	// Velocities that impulses lead to.
	pushed := &World{}
	for _, b := range l {
		other := b
		if b.InvMass == one {
			other.Vel = v(0, 0)
		}
		pushed.Add(other)
		pushed.Impulse(b.Key, v(b.Vel.X-other.Vel.X, b.Vel.Y-other.Vel.Y))
	}
	return []*World{stepped, forth, back, crowded, restored, replaced, twice, pushed}, l
}

// TestHistories makes the same operations on worlds with the same bodies.
func TestHistories(t *testing.T) {
	for seed := range 60 {
		s := source(seed)
		before := model{}
		for range 2 + seed%7 {
			before.add(s.body())
		}
		worlds, l := histories(t, before.list)
		p := &twin{t: t, m: model{list: l}}
		for i, w := range worlds {
			if checkWorld(t, w, l...); t.Failed() {
				t.Fatalf("the world %d of the seed %d is another one", i, seed)
			}
		}
		for range 40 {
			o := s.operation(&p.m)
			want := o.onModel(&p.m)
			for i, w := range worlds {
				if got := o.on(w); got != want {
					t.Fatalf("%s has the outcome %s in the world %d, want %s", short(o), short(got), i, short(want))
				}
			}
		}
		for _, w := range worlds {
			checkWorld(t, w, p.m.list...)
		}
	}
}

// A source yields numbers that are scattered, but the same in each run.
type source uint64

func (s *source) below(n int64) int64 {
	*s = *s*6364136223846793005 + 1442695040888963407
	return int64(uint64(*s>>33) % uint64(n))
}

// upTo returns a number from -limit to limit.
func (s *source) upTo(limit int64) int32 { return int32(s.below(2*limit+1) - limit) }

func (s *source) vector(limit int64) api.Vec { return v(s.upTo(limit), s.upTo(limit)) }

// key returns one of a few keys.
func (s *source) key() uint32 {
	keys := []uint32{0, 1, 2, 3, 5, 8, 1<<31 - 1, 1 << 31, greatest - 1, greatest}
	return keys[s.below(int64(len(keys)))]
}

// body returns a valid body, close to others or to an edge of the world.
func (s *source) body() api.Body {
	b := api.Body{Key: s.key(), Radius: one / 2 * int32(1+s.below(4)), InvMass: one, Bounce: int32(s.below(one + 1)), Pos: s.vector(3 * one), Vel: s.vector(1 << s.below(25))}
	switch s.below(4) {
	case 0:
		b.InvMass = 0
	case 1:
		b.InvMass = int32(s.below(massMax + 1))
	}
	if s.below(3) == 0 {
		b.Axis = s.vector(2 * one)
	}
	switch s.below(8) {
	case 0:
		b.Pos.X = worldMax - int32(s.below(3*one))
	case 1:
		b.Pos.Y = int32(s.below(3*one)) - worldMax
	}
	return b
}

// flawed returns a body that is valid or not.
func (s *source) flawed() api.Body {
	b, all := s.body(), numbers()
	if s.below(4) == 0 {
		n := all[s.below(int64(len(all)))]
		*n.of(&b) = int32(s.below(1<<32) - 1<<31)
	}
	return b
}

// data returns bytes to restore: the snapshot of the world or of another one, which may be changed.
func (s *source) data(m *model) []byte {
	l := m.list
	if s.below(2) == 0 {
		other := model{}
		for range s.below(8) {
			other.add(s.body())
		}
		l = other.list
	}
	b := encode(l...)
	switch s.below(5) {
	case 0:
		b = b[:s.below(int64(len(b)))]
	case 1:
		b = append(b, byte(s.below(256)))
	case 2:
		b[s.below(int64(len(b)))] = byte(s.below(256))
	}
	if s.below(8) == 0 && len(l) > 1 {
		b = encode(append(slices.Clone(l), l[s.below(int64(len(l)))])...)
	}
	return b
}

// operation returns an operation, which is more often one that adds a body than one that removes one.
func (s *source) operation(m *model) operation {
	o := operation{kind: kind(s.below(int64(kinds) + 2)), key: s.key(), j: s.vector(1 << s.below(32))}
	if o.kind >= kinds {
		o.kind = []kind{add, steps}[o.kind-kinds]
	}
	switch o.kind {
	case add:
		o.b = s.flawed()
	case restore:
		o.data = s.data(m)
	}
	return o
}

// TestOperations compares lists of operations with the model.
func TestOperations(t *testing.T) {
	type count struct {
		kind kind
		err  api.Errno
	}
	counts := map[count]int{}
	contacts, clamped, most := 0, 0, 0
	for seed := range 200 {
		s := source(1000 + seed)
		p := twinOf(t)
		added := map[uint32]api.Body{}
		for range 150 {
			o := s.operation(&p.m)
			x := p.do(o)
			p.check()
			checkAdded(t, added, o, x.err, &p.w)
			counts[count{o.kind, x.err}]++
			contacts += x.stats.Contacts
			if x.stats.Clamped {
				clamped++
			}
			most = max(most, len(p.m.list))
			if t.Failed() {
				t.Fatalf("with the seed %d", seed)
			}
		}
	}
	least := func(kind kind, errs ...api.Errno) {
		for _, err := range errs {
			if n := counts[count{kind, err}]; n < 20 {
				t.Errorf("operations of the kind %d have the error %d in %d cases only", kind, err, n)
			}
		}
	}
	least(add, 0, 4, 5, 6, 7, 8, 9, 10)
	least(remove, 0, 11)
	least(get, 0, 11)
	least(impulse, 0, 11)
	least(restore, 0, 10, 13)
	if contacts < 5000 || clamped < 500 || most < 9 || counts[count{steps, 0}] < 3000 || counts[count{snapshot, 0}] < 1000 || counts[count{list, 0}] < 1000 {
		t.Errorf("there are %d contacts, %d steps that reach a limit, at most %d bodies, and the operations %v", contacts, clamped, most, counts)
	}
}

// checkAdded checks that all parts of bodies but positions and velocities are as they were added or restored.
func checkAdded(t *testing.T, added map[uint32]api.Body, o operation, err api.Errno, w *World) {
	t.Helper()
	fixed := func(b api.Body) api.Body {
		b.Pos, b.Vel = api.Vec{}, api.Vec{}
		return b
	}
	if err == 0 {
		switch o.kind {
		case add:
			added[o.b.Key] = fixed(o.b)
		case remove:
			delete(added, o.key)
		case restore:
			clear(added)
			l, _ := decode(o.data)
			for _, b := range l {
				added[b.Key] = fixed(b)
			}
		}
	}
	l := w.View()
	if len(l) != len(added) || noView(l) != 0 {
		t.Errorf("%s is no view of %d bodies", short(l), len(added))
	}
	for _, b := range l {
		if fixed(b) != added[b.Key] {
			t.Errorf("%+v has become %+v", added[b.Key], b)
		}
	}
}

// P22.7

// filled returns a slice with unused capacity that holds something.
func filled(b []byte) []byte {
	all := append(slices.Clone(b), 171, 172, 173)
	return all[:len(b)]
}

// overwrite overwrites all that a slice has room for.
func overwrite[E any](l []E, x E) {
	l = l[:cap(l)]
	for i := range l {
		l[i] = x
	}
}

func TestRestoredBytes(t *testing.T) {
	bad, _ := rejected()
	for _, data := range append(bad, encode(), encode(rod(3)), encode(table()...)) {
		p := twinOf(t, rod(1), rod(2))
		given := filled(data)
		before := slices.Clone(given[:cap(given)])
		p.do(operation{kind: restore, data: given})
		p.step()
		p.do(operation{kind: remove, key: 1})
		p.do(operation{kind: add, b: rod(5)})
		checkBytes(t, given[:cap(given)], before)
		p.check()
		overwrite(given, 1)
		p.check()
		p.step()
		p.check()
	}
}

// TestRestoredTwice has two worlds with the same bytes, which do not depend on each other.
func TestRestoredTwice(t *testing.T) {
	p, q := twinOf(t, table()...), twinOf(t)
	data := p.w.Snapshot()
	q.restore(data, 0)
	p.restore(data, 0)
	q.step()
	q.remove(1, 0)
	q.add(rod(3), 0)
	p.impulse(2, v(5, 5), 0)
	p.check()
	q.check()
	checkBytes(t, data, encode(table()...))
}

// TestResultsAreNew overwrites results, which changes neither the world nor later results.
func TestResultsAreNew(t *testing.T) {
	for _, l := range [][]api.Body{nil, bodies(rod(1)), table(), lattice(100)} {
		p := twinOf(t, l...)
		try := func() {
			t.Helper()
			first, second := p.w.View(), p.w.View()
			data, again := p.w.Snapshot(), p.w.Snapshot()
			overwrite(first, ball(77, 1, 2, 3, 4))
			overwrite(data, 90)
			if !slices.Equal(second, p.m.list) {
				t.Errorf("another view has become %s", short(second))
			}
			checkBytes(t, again, encode(p.m.list...))
			p.check()
		}
		try()
		p.step()
		try()
		p.restore(encode(l...), 0)
		try()
		p.add(rod(5000), 0)
		try()
		p.impulse(5000, v(7, 8), 0)
		try()
		p.remove(5000, 0)
		try()
		p.step()
		p.check()
	}
}

// TestResultsStay changes a world after it returned results, which stay as they are.
func TestResultsStay(t *testing.T) {
	changes := []operation{
		{kind: add, b: rod(3)}, {kind: remove, key: 1}, {kind: impulse, key: 2, j: v(one, one)}, {kind: steps},
		{kind: restore, data: encode(rod(1), rod(2), rod(5))}, {kind: restore, data: encode(table()...)}, {kind: restore, data: encode()}, {kind: add, b: rod(9)},
	}
	for _, first := range changes {
		p := twinOf(t, table()...)
		for _, o := range append([]operation{first}, changes...) {
			l, data := p.w.View(), p.w.Snapshot()
			before, bytesBefore := slices.Clone(l), slices.Clone(data)
			p.do(o)
			for _, b := range p.w.View() {
				p.impulse(b.Key, v(3, 4), 0)
			}
			overwrite(p.w.View(), rod(4))
			p.check()
			if !slices.Equal(l, before) {
				t.Errorf("after %s, a view has become %s, want %s", short(o), short(l), short(before))
			}
			checkBytes(t, data, bytesBefore)
		}
	}
}

// P6

// TestLonely removes a body that touches no other one, which does not change the next state of the others.
func TestLonely(t *testing.T) {
	l := bodies(static(ball(1, 0, 0, 0, 0)), ball(2, 100, grazing-9, 7, 0), ball(3, 2*beside, 0, 5, 5), hard(ball(4, 0, -one, 0, one)))
	p, q := twinOf(t, l...), twinOf(t, l...)
	q.remove(3, 0)
	p.step()
	q.step()
	p.remove(3, 0)
	checkWorld(t, &q.w, p.w.View()...)
}

// TestMoved moves all bodies before a step, and after it.
func TestMoved(t *testing.T) {
	for _, by := range []api.Vec{v(1, -1), v(4194304, one), v(-123456789, 98765432)} {
		p, q := twinOf(t), twinOf(t)
		for _, b := range table()[:3] {
			p.add(b, 0)
			q.add(movedBy(b, by.X, by.Y), 0)
		}
		for range 20 {
			if a, b := p.step(), q.step(); a.Contacts != b.Contacts || a.Clamped || b.Clamped {
				t.Errorf("the steps have %+v and %+v", a, b)
			}
			var want []api.Body
			for _, b := range p.w.View() {
				want = append(want, movedBy(b, by.X, by.Y))
			}
			checkWorld(t, &q.w, want...)
		}
	}
}
