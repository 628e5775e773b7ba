package integrate

import (
	"fmt"
	"math"
	"slices"
	"testing"

	"billiard/api"
	"billiard/correct"
	"billiard/view"
)

// The limits of the chapters are written out, so that they are checked as well.
const (
	one      = 65536
	gravity  = 1024
	ticks    = 64
	worldMax = 1073741824
	speedMax = 16777216
	massMax  = 1048576
	shiftMax = 1 << 62
	capacity = 4096
	greatest = math.MaxUint32 // key
)

func v(x, y int32) api.Vec { return api.Vec{X: x, Y: y} }

func by(x, y int64) correct.Shift { return correct.Shift{X: x, Y: y} }

func shifts(l ...correct.Shift) []correct.Shift { return l }

func bodies(l ...api.Body) []api.Body { return l }

// capsule returns a body of which no field is zero but for those that are given as such, so that a change of any of them is seen.
func capsule(key uint32, invMass int32, pos, vel api.Vec) api.Body {
	return api.Body{Key: key, Radius: 5000, Axis: v(-70, 90), InvMass: invMass, Bounce: 333, Pos: pos, Vel: vel}
}

// flying returns a body with the mass 1 and a velocity.
func flying(x, y int32) api.Body { return capsule(9, one, v(-11, 12), v(x, y)) }

// The model: the definitions of the chapter in plain integers. The sum of a position, a shift and a part of a velocity is less than 2^63, as is the product of an impulse and an inverse mass, so that all numbers are exact in 64 bits.

// floor returns the floor of n / d, for d > 0.
func floor(n, d int64) int64 {
	q := n / d
	if n%d < 0 {
		q--
	}
	return q
}

func modelLimit(n, limit int64) (int32, bool) {
	if n > limit {
		return int32(limit), true
	}
	if n < -limit {
		return int32(-limit), true
	}
	return int32(n), false
}

func modelVector(x, y, limit int64) (api.Vec, bool) {
	nx, changedX := modelLimit(x, limit)
	ny, changedY := modelLimit(y, limit)
	return v(nx, ny), changedX || changedY
}

func modelGravity(b api.Body) (api.Body, bool) {
	changed := false
	if b.InvMass != 0 {
		b.Vel, changed = modelVector(int64(b.Vel.X), int64(b.Vel.Y)-gravity, speedMax)
	}
	return b, changed
}

func modelMove(b api.Body, s correct.Shift) (api.Body, bool) {
	changed := false
	b.Pos, changed = modelVector(int64(b.Pos.X)+s.X+floor(int64(b.Vel.X), ticks), int64(b.Pos.Y)+s.Y+floor(int64(b.Vel.Y), ticks), worldMax)
	return b, changed
}

func modelPush(b api.Body, j api.Vec) (api.Body, bool) {
	changed := false
	m := int64(b.InvMass)
	b.Vel, changed = modelVector(int64(b.Vel.X)+floor(int64(j.X)*m, one), int64(b.Vel.Y)+floor(int64(j.Y)*m, one), speedMax)
	return b, changed
}

// short returns a text for a message about bodies or shifts, of which there may be many.
func short(x any) string {
	text := fmt.Sprintf("%+v", x)
	return text[:min(len(text), 1500)]
}

// checkSpecified ends the test if nothing is promised for a view and shifts.
func checkSpecified(t *testing.T, l []api.Body, m []correct.Shift) {
	t.Helper()
	if err := view.Check(l); err != api.OK {
		t.Fatalf("the bodies are no view: %d", err)
	}
	if len(m) != len(l) {
		t.Fatalf("there are %d shifts for %d bodies", len(m), len(l))
	}
	for _, s := range m {
		if max(s.X, s.Y) > shiftMax || min(s.X, s.Y) < -shiftMax {
			t.Fatalf("nothing is promised for the shift %+v", s)
		}
	}
}

func checkGravity(t *testing.T, l, want []api.Body, clamped bool) {
	t.Helper()
	got, limited := Gravity(l)
	if !slices.Equal(got, want) || limited != clamped {
		t.Errorf("Gravity(%s) = %s, %t, want %s, %t", short(l), short(got), limited, short(want), clamped)
	}
	if err := view.Check(got); err != api.OK {
		t.Errorf("Gravity(%s) is no view: %d", short(l), err)
	}
}

func checkMove(t *testing.T, l []api.Body, m []correct.Shift, want []api.Body, clamped bool) {
	t.Helper()
	checkSpecified(t, l, m)
	got, limited := Move(l, m)
	if !slices.Equal(got, want) || limited != clamped {
		t.Errorf("Move(%s, %s) = %s, %t, want %s, %t", short(l), short(m), short(got), limited, short(want), clamped)
	}
	if err := view.Check(got); err != api.OK {
		t.Errorf("Move(%s, %s) is no view: %d", short(l), short(m), err)
	}
}

func checkPush(t *testing.T, b api.Body, j api.Vec, want api.Body, clamped bool) {
	t.Helper()
	got, limited := Push(b, j)
	if got != want || limited != clamped {
		t.Errorf("Push(%+v, %+v) = %+v, %t, want %+v, %t", b, j, got, limited, want, clamped)
	}
	if err := view.Check(bodies(got)); err != api.OK {
		t.Errorf("Push(%+v, %+v) is not valid: %d", b, j, err)
	}
}

// checkModel compares Gravity and Move with the model.
func checkModel(t *testing.T, l []api.Body, m []correct.Shift) {
	t.Helper()
	checkSpecified(t, l, m)
	var fallen, moved []api.Body
	fast, far := false, false
	for i, b := range l {
		after, clamped := modelGravity(b)
		fallen, fast = append(fallen, after), fast || clamped
		after, clamped = modelMove(b, m[i])
		moved, far = append(moved, after), far || clamped
	}
	checkGravity(t, l, fallen, fast)
	checkMove(t, l, m, moved, far)
}

// turned returns a vector with its components exchanged.
func turned(a api.Vec) api.Vec { return v(a.Y, a.X) }

// P19.1

// TestFalls has the velocities of bodies with a mass before and after gravity.
func TestFalls(t *testing.T) {
	for _, x := range []struct {
		before, after int32
		clamped       bool
	}{
		{0, -1024, false}, {1, -1023, false}, {-1, -1025, false}, {64, -960, false}, {-64, -1088, false},
		{1023, -1, false}, {1024, 0, false}, {1025, 1, false}, {-1024, -2048, false}, {one, 64512, false},
		{speedMax, 16776192, false}, {speedMax - 1, 16776191, false}, {speedMax - 1024, 16775168, false},
		{1025 - speedMax, 1 - speedMax, false}, {1024 - speedMax, -speedMax, false}, {1023 - speedMax, -speedMax, true}, {1022 - speedMax, -speedMax, true},
		{2 - speedMax, -speedMax, true}, {1 - speedMax, -speedMax, true}, {-speedMax, -speedMax, true},
	} {
		for _, across := range []int32{0, 1, -1, 1024, speedMax - 1, speedMax, 1 - speedMax, -speedMax} {
			for _, invMass := range []int32{1, one - 1, one, massMax - 1, massMax} {
				b := capsule(greatest, invMass, v(worldMax, -worldMax), v(across, x.before))
				want := b
				want.Vel.Y = x.after
				checkGravity(t, bodies(b), bodies(want), x.clamped)
			}
			static := capsule(0, 0, v(-worldMax, worldMax), v(across, x.before))
			checkGravity(t, bodies(static), bodies(static), false)
		}
	}
}

// runs returns the first ones of runs of velocities, as many as there may be bodies: those next to the limits, and around 0.
func runs() []int32 {
	var l []int32
	for i := range int32(10) {
		l = append(l, i*capacity-speedMax, (i-5)*capacity, speedMax-(i+1)*capacity)
	}
	return l
}

// TestRunsOfSpeeds has all velocities upwards and downwards of the runs.
func TestRunsOfSpeeds(t *testing.T) {
	reached := 0
	for _, first := range runs() {
		var l, want []api.Body
		clamped := false
		for i := range int32(capacity) {
			b := capsule(uint32(i), 1+i, v(1, 2), v(-i, first+i))
			l = append(l, b)
			if b.Vel.Y -= gravity; b.Vel.Y < -speedMax {
				b.Vel.Y, clamped = -speedMax, true
				reached++
			}
			want = append(want, b)
		}
		checkGravity(t, l, want, clamped)
	}
	if reached != gravity {
		t.Errorf("a limit was reached by %d bodies", reached)
	}
}

func TestFewFall(t *testing.T) {
	for _, x := range []struct {
		name    string
		l, want []api.Body
		clamped bool
	}{
		{"nil", nil, nil, false},
		{"no body", bodies(), bodies(), false},
		{"one body", bodies(capsule(0, one, v(5, 6), v(7, 8))), bodies(capsule(0, one, v(5, 6), v(7, -1016))), false},
		{"one static body", bodies(capsule(0, 0, v(5, 6), v(7, 8))), bodies(capsule(0, 0, v(5, 6), v(7, 8))), false},
		{"a circle", bodies(api.Body{Key: 3, Radius: 4096, InvMass: 1}), bodies(api.Body{Key: 3, Radius: 4096, InvMass: 1, Vel: v(0, -1024)}), false},
		{"a static circle", bodies(api.Body{Key: 3, Radius: 4096}), bodies(api.Body{Key: 3, Radius: 4096}), false},
		{"two bodies at the same place",
			bodies(capsule(1, one, v(5, 6), v(0, 0)), capsule(2, massMax, v(5, 6), v(0, 0))),
			bodies(capsule(1, one, v(5, 6), v(0, -1024)), capsule(2, massMax, v(5, 6), v(0, -1024))), false},
		{"two bodies, the first one at the limit",
			bodies(capsule(1, one, v(0, 0), v(0, -speedMax)), capsule(2, one, v(9, 9), v(0, 0))),
			bodies(capsule(1, one, v(0, 0), v(0, -speedMax)), capsule(2, one, v(9, 9), v(0, -1024))), true},
		{"two bodies, the second one at the limit",
			bodies(capsule(1, one, v(0, 0), v(0, 0)), capsule(greatest, one, v(9, 9), v(3, -speedMax))),
			bodies(capsule(1, one, v(0, 0), v(0, -1024)), capsule(greatest, one, v(9, 9), v(3, -speedMax))), true},
		{"two bodies that meet the limit exactly",
			bodies(capsule(1, 1, v(0, 0), v(0, 1024-speedMax)), capsule(2, massMax, v(9, 9), v(3, 1024-speedMax))),
			bodies(capsule(1, 1, v(0, 0), v(0, -speedMax)), capsule(2, massMax, v(9, 9), v(3, -speedMax))), false},
		{"static bodies at the limit beside another one",
			bodies(capsule(1, 0, v(0, 0), v(0, -speedMax)), capsule(2, 1, v(0, 0), v(0, 0)), capsule(3, 0, v(0, 0), v(speedMax, -speedMax))),
			bodies(capsule(1, 0, v(0, 0), v(0, -speedMax)), capsule(2, 1, v(0, 0), v(0, -1024)), capsule(3, 0, v(0, 0), v(speedMax, -speedMax))), false},
		{"static bodies around another one at the limit",
			bodies(capsule(1, 0, v(0, 0), v(0, 0)), capsule(2, 1, v(0, 0), v(0, -speedMax)), capsule(3, 0, v(0, 0), v(0, 0))),
			bodies(capsule(1, 0, v(0, 0), v(0, 0)), capsule(2, 1, v(0, 0), v(0, -speedMax)), capsule(3, 0, v(0, 0), v(0, 0))), true},
		{"a limit of each sign",
			bodies(capsule(1, one, v(0, 0), v(speedMax, speedMax)), capsule(2, one, v(0, 0), v(-speedMax, -speedMax))),
			bodies(capsule(1, one, v(0, 0), v(speedMax, speedMax-1024)), capsule(2, one, v(0, 0), v(-speedMax, -speedMax))), true},
	} {
		t.Run(x.name, func(t *testing.T) { checkGravity(t, x.l, x.want, x.clamped) })
	}
}

// TestOneOfMany has one body at a limit among others, at each index.
func TestOneOfMany(t *testing.T) {
	for _, n := range []int{1, 2, 3, 7, 64, capacity} {
		var l []api.Body
		for i := range n {
			l = append(l, capsule(uint32(i), int32(i%3), v(int32(i), -5), v(ticks, 1024)))
		}
		none := make([]correct.Shift, n)
		checkModel(t, l, none)
		_, fast := Gravity(l)
		_, far := Move(l, none)
		if fast || far {
			t.Errorf("a limit of %d bodies was reached: %t, %t", n, fast, far)
		}
		for i := 0; i < n; i += 1 + n/50 {
			m := slices.Clone(l)
			m[i].Vel.Y, m[i].Pos.X = -speedMax, worldMax
			checkModel(t, m, none)
			_, fast := Gravity(m)
			_, far := Move(m, none)
			if fast != (i%3 != 0) || !far {
				t.Errorf("the limits were reported as %t, %t for the body %d of %d", fast, far, i, n)
			}
		}
	}
}

// P19.2

// TestExample has the chapter's example alone.
func TestExample(t *testing.T) {
	b := api.Body{Radius: 1 << 16, InvMass: 1 << 16, Vel: v(64, -1)}
	want := b
	want.Pos = v(1, -1)
	checkMove(t, bodies(b), shifts(by(0, 0)), bodies(want), false)
}

// TestTravels has the components of velocities, and how far they move a body.
func TestTravels(t *testing.T) {
	type travel struct{ vel, move int32 }
	l := []travel{
		{0, 0}, {1, 0}, {2, 0}, {31, 0}, {32, 0}, {33, 0}, {62, 0}, {63, 0}, {64, 1}, {65, 1}, {126, 1}, {127, 1}, {128, 2}, {129, 2}, {191, 2}, {192, 3}, {193, 3},
		{-1, -1}, {-2, -1}, {-31, -1}, {-32, -1}, {-33, -1}, {-62, -1}, {-63, -1}, {-64, -1}, {-65, -2}, {-126, -2}, {-127, -2}, {-128, -2}, {-129, -3}, {-191, -3}, {-192, -3}, {-193, -4},
		{1024, 16}, {-1024, -16}, {4032, 63}, {-4032, -63}, {4160, 65}, {-4160, -65}, {4031, 62}, {-4031, -63}, {-4033, -64}, {-4161, -66},
		{one, 1024}, {-one, -1024}, {one - 1, 1023}, {1 - one, -1024}, {-1 - one, -1025},
		{speedMax, 262144}, {speedMax - 1, 262143}, {speedMax - 63, 262143}, {speedMax - 64, 262143}, {speedMax - 65, 262142},
		{-speedMax, -262144}, {1 - speedMax, -262144}, {63 - speedMax, -262144}, {64 - speedMax, -262143}, {65 - speedMax, -262143},
	}
	places := []api.Vec{v(0, 0), v(-1, 1), v(12345678, -87654321), v(1<<29, -1<<29)}
	for _, x := range l {
		for _, y := range l {
			for _, pos := range places {
				for _, invMass := range []int32{0, 1, one, massMax} {
					b := capsule(4, invMass, pos, v(x.vel, y.vel))
					want := b
					want.Pos = v(pos.X+x.move, pos.Y+y.move)
					checkMove(t, bodies(b), shifts(by(0, 0)), bodies(want), false)
				}
			}
		}
	}
}

// TestRunsOfTravels counts how far the velocities of the runs move a body.
func TestRunsOfTravels(t *testing.T) {
	none := make([]correct.Shift, capacity)
	for _, first := range runs() {
		// The first velocity of a run is a multiple of 64.
		move := first / ticks
		var l, want []api.Body
		for i := range int32(capacity) {
			b := capsule(uint32(i), i%2, v(-3, 4), v(first+i, -first-i))
			// The floor of minus n is minus that of n, or one less if n is not a multiple of 64.
			up := -move
			if i%ticks != 0 {
				up--
			}
			l = append(l, b)
			b.Pos = v(-3+move, 4+up)
			want = append(want, b)
			if i%ticks == ticks-1 {
				move++
			}
		}
		checkMove(t, l, none, want, false)
	}
}

// moves are the positions of a body along an axis, before and after a move.
var moves = []struct {
	pos     int32
	shift   int64
	vel     int32
	after   int32
	clamped bool
}{
	// No limit.
	{0, 0, 0, 0, false}, {0, 1, 0, 1, false}, {0, -1, 0, -1, false}, {7, 1, 64, 9, false}, {7, -1, -64, 5, false}, {7, 1, -64, 7, false}, {7, -1, 64, 7, false},
	{7, 1, -1, 7, false}, {7, -1, 63, 6, false}, {7, 1, 63, 8, false}, {7, 1, -65, 6, false}, {0, 16384, 0, 16384, false}, {0, -16777216, 64, -16777215, false},
	{0, 0, speedMax, 262144, false}, {0, 0, -speedMax, -262144, false}, {100, -262244, speedMax, 0, false},
	// At the limits, without a motion, and with one that is rounded down to none.
	{worldMax, 0, 0, worldMax, false}, {-worldMax, 0, 0, -worldMax, false}, {worldMax, 0, 63, worldMax, false}, {worldMax, 0, 1, worldMax, false}, {-worldMax, 0, 63, -worldMax, false}, {-worldMax, 0, 1, -worldMax, false},
	// At the limits, beyond them by one.
	{worldMax, 0, 64, worldMax, true}, {worldMax, 0, 127, worldMax, true}, {worldMax, 1, 0, worldMax, true}, {worldMax, 1, 63, worldMax, true}, {worldMax, 2, -1, worldMax, true}, {worldMax, 2, -64, worldMax, true},
	{-worldMax, 0, -1, -worldMax, true}, {-worldMax, 0, -64, -worldMax, true}, {-worldMax, -1, 0, -worldMax, true}, {-worldMax, -1, 63, -worldMax, true}, {-worldMax, -2, 64, -worldMax, true},
	// At the limits, away from them by one.
	{worldMax, 0, -1, worldMax - 1, false}, {worldMax, 0, -64, worldMax - 1, false}, {worldMax, 0, -65, worldMax - 2, false}, {worldMax, -1, 0, worldMax - 1, false}, {worldMax, -1, 63, worldMax - 1, false},
	{-worldMax, 0, 64, 1 - worldMax, false}, {-worldMax, 0, 127, 1 - worldMax, false}, {-worldMax, 1, 0, 1 - worldMax, false}, {-worldMax, 2, -1, 1 - worldMax, false},
	// At the limits, with shifts and velocities that undo each other, or do not quite.
	{worldMax, 1, -1, worldMax, false}, {worldMax, 1, -64, worldMax, false}, {worldMax, -1, 64, worldMax, false}, {worldMax, 262144, -speedMax, worldMax, false}, {worldMax, -262144, speedMax, worldMax, false},
	{worldMax, 262145, -speedMax, worldMax, true}, {worldMax, 262143, -speedMax, worldMax - 1, false}, {worldMax, -262143, speedMax, worldMax, true},
	{-worldMax, -1, 64, -worldMax, false}, {-worldMax, 1, -64, -worldMax, false}, {-worldMax, 1, -65, -worldMax, true}, {-worldMax, -262144, speedMax, -worldMax, false}, {-worldMax, 262144, -speedMax, -worldMax, false}, {-worldMax, -262145, speedMax, -worldMax, true},
	// Near the limits, which a motion meets exactly, and goes beyond by one.
	{worldMax - 1, 0, 64, worldMax, false}, {worldMax - 1, 0, 127, worldMax, false}, {worldMax - 1, 0, 128, worldMax, true}, {worldMax - 1, 1, 0, worldMax, false}, {worldMax - 1, 2, 0, worldMax, true}, {worldMax - 1, 1, 64, worldMax, true},
	{worldMax - 5, 0, 383, worldMax, false}, {worldMax - 5, 0, 384, worldMax, true}, {worldMax - 5, 4, 64, worldMax, false}, {worldMax - 5, 5, 64, worldMax, true}, {worldMax - 5, 6, -1, worldMax, false}, {worldMax - 5, 7, -1, worldMax, true}, {worldMax - 5, 4, 63, worldMax - 1, false},
	{worldMax - 262144, 0, speedMax, worldMax, false}, {worldMax - 262143, 0, speedMax - 1, worldMax, false}, {worldMax - 262143, 0, speedMax, worldMax, true},
	{1 - worldMax, 0, -1, -worldMax, false}, {1 - worldMax, 0, -64, -worldMax, false}, {1 - worldMax, 0, -65, -worldMax, true}, {1 - worldMax, -1, 0, -worldMax, false}, {1 - worldMax, -2, 0, -worldMax, true}, {1 - worldMax, -1, -1, -worldMax, true},
	{5 - worldMax, 0, -320, -worldMax, false}, {5 - worldMax, 0, -321, -worldMax, true}, {5 - worldMax, -4, -64, -worldMax, false}, {5 - worldMax, -5, -64, -worldMax, true}, {5 - worldMax, -6, 64, -worldMax, false}, {5 - worldMax, -7, 64, -worldMax, true},
	{262144 - worldMax, 0, -speedMax, -worldMax, false}, {262143 - worldMax, 0, 64 - speedMax, -worldMax, false}, {262143 - worldMax, 0, 63 - speedMax, -worldMax, true}, {262143 - worldMax, 0, -speedMax, -worldMax, true},
	// From one limit to the other one.
	{-worldMax, 2 * worldMax, 0, worldMax, false}, {-worldMax, 2*worldMax + 1, 0, worldMax, true}, {-worldMax, 2*worldMax + 1, -1, worldMax, false}, {-worldMax, 2*worldMax - 1, 0, worldMax - 1, false}, {-worldMax, worldMax, 0, 0, false},
	{worldMax, -2 * worldMax, 0, -worldMax, false}, {worldMax, -2*worldMax - 1, 0, -worldMax, true}, {worldMax, -2*worldMax - 1, 64, -worldMax, false}, {worldMax, 1 - 2*worldMax, 0, 1 - worldMax, false}, {worldMax, -worldMax, 63, 0, false},
	// Shifts that have no room in 32 bits, and lead out of the world.
	{0, 1 << 31, 0, worldMax, true}, {0, -1 << 31, 0, -worldMax, true}, {0, 1 << 32, 0, worldMax, true}, {0, -1 << 32, 0, -worldMax, true}, {5, 1<<32 + 5, 64, worldMax, true}, {5, -1<<32 - 5, 64, -worldMax, true}, {-worldMax, 1<<33 - 1, 0, worldMax, true}, {worldMax, 1 << 40, -speedMax, worldMax, true},
	// The greatest shifts.
	{0, shiftMax, 0, worldMax, true}, {0, -shiftMax, 0, -worldMax, true}, {worldMax, shiftMax, speedMax, worldMax, true}, {-worldMax, shiftMax, -speedMax, worldMax, true}, {worldMax, -shiftMax, speedMax, -worldMax, true}, {-worldMax, -shiftMax, -speedMax, -worldMax, true}, {0, shiftMax - 1, -1, worldMax, true}, {0, 1 - shiftMax, 1, -worldMax, true},
}

// TestMoves has all moves along both axes, for bodies with and without a mass.
func TestMoves(t *testing.T) {
	for _, x := range moves {
		for _, y := range moves {
			for _, invMass := range []int32{0, one} {
				b := capsule(7, invMass, v(x.pos, y.pos), v(x.vel, y.vel))
				want := b
				want.Pos = v(x.after, y.after)
				checkMove(t, bodies(b), shifts(by(x.shift, y.shift)), bodies(want), x.clamped || y.clamped)
			}
		}
	}
}

// TestManyMoves has all moves in one view, where each body has the shift with its index, and each move alone without a limit.
func TestManyMoves(t *testing.T) {
	var l, want, free, wantFree []api.Body
	var m, n []correct.Shift
	for i, x := range moves {
		b := capsule(uint32(10*i), int32(i%4), v(x.pos, 5), v(x.vel, -1))
		after := b
		after.Pos = v(x.after, 4)
		l, m, want = append(l, b), append(m, by(x.shift, 0)), append(want, after)
		if !x.clamped {
			free, n, wantFree = append(free, b), append(n, by(x.shift, 0)), append(wantFree, after)
		}
	}
	checkMove(t, l, m, want, true)
	checkMove(t, free, n, wantFree, false)
	if len(free) < 50 || len(l)-len(free) < 40 {
		t.Errorf("there are %d moves, %d of them without a limit", len(l), len(free))
	}
}

func TestFewMove(t *testing.T) {
	for _, x := range []struct {
		name    string
		l       []api.Body
		m       []correct.Shift
		want    []api.Body
		clamped bool
	}{
		{"nil", nil, nil, nil, false},
		{"no body", bodies(), shifts(), bodies(), false},
		{"one body", bodies(capsule(0, one, v(5, 6), v(64, 128))), shifts(by(0, 0)), bodies(capsule(0, one, v(6, 8), v(64, 128))), false},
		{"one body with a shift", bodies(capsule(0, one, v(5, 6), v(64, 128))), shifts(by(10, -20)), bodies(capsule(0, one, v(16, -12), v(64, 128))), false},
		{"one static body", bodies(capsule(0, 0, v(5, 6), v(64, -128))), shifts(by(0, 0)), bodies(capsule(0, 0, v(6, 4), v(64, -128))), false},
		{"a circle that does not move", bodies(api.Body{Key: 3, Radius: 4096, InvMass: 1}), shifts(by(0, 0)), bodies(api.Body{Key: 3, Radius: 4096, InvMass: 1}), false},
		{"two bodies", bodies(capsule(1, 1, v(5, 6), v(0, 64)), capsule(2, 2, v(5, 6), v(64, 0))), shifts(by(1, 2), by(30, 40)), bodies(capsule(1, 1, v(6, 9), v(0, 64)), capsule(2, 2, v(36, 46), v(64, 0))), false},
		{"two bodies, the first one at the edge", bodies(capsule(1, 1, v(worldMax, 6), v(64, 0)), capsule(2, 2, v(5, 6), v(64, 0))), shifts(by(0, 2), by(30, 40)), bodies(capsule(1, 1, v(worldMax, 8), v(64, 0)), capsule(2, 2, v(36, 46), v(64, 0))), true},
		{"two bodies, the second one at the edge", bodies(capsule(1, 1, v(5, 6), v(64, 0)), capsule(2, 2, v(5, -worldMax), v(64, 0))), shifts(by(0, 2), by(30, -1)), bodies(capsule(1, 1, v(6, 8), v(64, 0)), capsule(2, 2, v(36, -worldMax), v(64, 0))), true},
		{"two bodies in a corner", bodies(capsule(1, 1, v(worldMax, worldMax), v(speedMax, speedMax)), capsule(2, 2, v(-worldMax, -worldMax), v(-1, -1))), shifts(by(1, 1), by(0, 0)), bodies(capsule(1, 1, v(worldMax, worldMax), v(speedMax, speedMax)), capsule(2, 2, v(-worldMax, -worldMax), v(-1, -1))), true},
		{"a static body between others", bodies(capsule(1, 1, v(5, 6), v(64, 0)), capsule(2, 0, v(5, 6), v(128, 0)), capsule(3, massMax, v(5, 6), v(192, 0))), shifts(by(10, 0), by(0, 0), by(-20, 0)), bodies(capsule(1, 1, v(16, 6), v(64, 0)), capsule(2, 0, v(7, 6), v(128, 0)), capsule(3, massMax, v(-12, 6), v(192, 0))), false},
		{"a static body at the edge", bodies(capsule(1, 0, v(0, worldMax), v(0, 64)), capsule(greatest, 1, v(0, 0), v(0, 0))), shifts(by(0, 0), by(0, 0)), bodies(capsule(1, 0, v(0, worldMax), v(0, 64)), capsule(greatest, 1, v(0, 0), v(0, 0))), true},
	} {
		t.Run(x.name, func(t *testing.T) { checkMove(t, x.l, x.m, x.want, x.clamped) })
	}
}

// TestFall lets a circle fall from the upper edge of the world, by 16 units more in each step until it has the greatest velocity, and then until it is at the lower edge.
func TestFall(t *testing.T) {
	const start = 8192
	l := bodies(api.Body{Radius: one, InvMass: one, Pos: v(0, worldMax), Vel: v(0, -start*gravity)})
	steps, fast := 0, 0
	for l[0].Pos.Y > -worldMax {
		steps++
		fall := int64(16 * min(start+steps, 16384))
		bottom := int64(l[0].Pos.Y) - fall
		fallen, clamped := Gravity(l)
		moved, reached := Move(fallen, shifts(by(0, 0)))
		if moved[0].Pos != v(0, int32(max(bottom, -worldMax))) || clamped != (start+steps > 16384) || reached != (bottom < -worldMax) {
			t.Fatalf("the circle is at %v after %d steps, %t, %t", moved[0].Pos, steps, clamped, reached)
		}
		if clamped {
			fast++
		}
		l = moved
	}
	if fast < 2000 || fast != steps+start-16384 {
		t.Errorf("there were %d steps, %d of them at the greatest velocity", steps, fast)
	}
}

// TestStart has the first two steps of a circle that falls, and of a static one, which moves without falling.
func TestStart(t *testing.T) {
	l := bodies(api.Body{Key: 1, Radius: one, InvMass: 1}, api.Body{Key: 2, Radius: one, Vel: v(64, 128)})
	for _, want := range [][]api.Vec{{v(0, -16), v(1, 2)}, {v(0, -48), v(2, 4)}} {
		fallen, _ := Gravity(l)
		l, _ = Move(fallen, make([]correct.Shift, 2))
		if l[0].Pos != want[0] || l[1].Pos != want[1] {
			t.Errorf("the circles are at %v and %v, want %v", l[0].Pos, l[1].Pos, want)
		}
	}
}

// P19.3

// pushes are the components of the velocity of a body before and after a push.
var pushes = []struct {
	invMass, vel, j, after int32
	clamped                bool
}{
	// No impulse.
	{one, 0, 0, 0, false}, {1, 5, 0, 5, false}, {massMax, -5, 0, -5, false}, {one, speedMax, 0, speedMax, false}, {massMax, -speedMax, 0, -speedMax, false}, {1, -speedMax, 0, -speedMax, false},
	// The mass 1.
	{one, 0, 1, 1, false}, {one, 0, -1, -1, false}, {one, 7, 10, 17, false}, {one, 7, -10, -3, false}, {one, 0, speedMax, speedMax, false}, {one, 0, -speedMax, -speedMax, false}, {one, 0, speedMax + 1, speedMax, true}, {one, 0, -speedMax - 1, -speedMax, true},
	{one, speedMax, 1, speedMax, true}, {one, speedMax, -1, speedMax - 1, false}, {one, -speedMax, -1, -speedMax, true}, {one, -speedMax, 1, 1 - speedMax, false},
	{one, speedMax - 1, 1, speedMax, false}, {one, speedMax - 1, 2, speedMax, true}, {one, 1 - speedMax, -1, -speedMax, false}, {one, 1 - speedMax, -2, -speedMax, true}, {one, speedMax - 9, 9, speedMax, false}, {one, speedMax - 9, 10, speedMax, true}, {one, 9 - speedMax, -9, -speedMax, false}, {one, 9 - speedMax, -10, -speedMax, true},
	{one, -speedMax, 2 * speedMax, speedMax, false}, {one, -speedMax, 2*speedMax + 1, speedMax, true}, {one, speedMax, -2 * speedMax, -speedMax, false}, {one, speedMax, -2*speedMax - 1, -speedMax, true},
	{one, 0, math.MaxInt32, speedMax, true}, {one, 0, math.MinInt32, -speedMax, true}, {one, speedMax, math.MaxInt32, speedMax, true}, {one, -speedMax, math.MinInt32, -speedMax, true}, {one, speedMax, math.MinInt32, -speedMax, true},
	// Products that are rounded down, also below zero.
	{one / 2, 0, 1, 0, false}, {one / 2, 0, 2, 1, false}, {one / 2, 0, 3, 1, false}, {one / 2, 0, -1, -1, false}, {one / 2, 0, -2, -1, false}, {one / 2, 0, -3, -2, false}, {one / 2, 4, -3, 2, false}, {one / 2, -4, 3, -3, false},
	{one - 1, 0, 1, 0, false}, {one - 1, 0, -1, -1, false}, {one + 1, 0, 1, 1, false}, {one + 1, 0, -1, -2, false}, {one + 1, 0, one, one + 1, false}, {one + 1, 0, -one, -one - 1, false}, {one + 1, 0, 1 - one, -one, false},
	{3, 0, 21845, 0, false}, {3, 0, 21846, 1, false}, {3, 0, -21845, -1, false}, {3, 0, -21846, -2, false},
	// The least inverse mass.
	{1, 0, 1, 0, false}, {1, 0, one - 1, 0, false}, {1, 0, one, 1, false}, {1, 0, one + 1, 1, false}, {1, 0, -1, -1, false}, {1, 0, 1 - one, -1, false}, {1, 0, -one, -1, false}, {1, 0, -one - 1, -2, false},
	{1, 0, math.MaxInt32, 32767, false}, {1, 0, math.MinInt32, -32768, false}, {1, speedMax, math.MaxInt32, speedMax, true}, {1, speedMax - 32767, math.MaxInt32, speedMax, false}, {1, speedMax - 32766, math.MaxInt32, speedMax, true}, {1, 32768 - speedMax, math.MinInt32, -speedMax, false}, {1, 32767 - speedMax, math.MinInt32, -speedMax, true},
	{1, speedMax, 1, speedMax, false}, {1, speedMax, one - 1, speedMax, false}, {1, speedMax, one, speedMax, true}, {1, speedMax, -1, speedMax - 1, false}, {1, -speedMax, -1, -speedMax, true}, {1, -speedMax, 1, -speedMax, false}, {1, 1 - speedMax, -1, -speedMax, false}, {1, 1 - speedMax, -one, -speedMax, false}, {1, 1 - speedMax, -one - 1, -speedMax, true},
	// The greatest inverse mass.
	{massMax, 0, 1, 16, false}, {massMax, 0, -1, -16, false}, {massMax, 0, massMax, speedMax, false}, {massMax, 0, massMax + 1, speedMax, true}, {massMax, 0, -massMax, -speedMax, false}, {massMax, 0, -massMax - 1, -speedMax, true},
	{massMax, speedMax - 16, 1, speedMax, false}, {massMax, speedMax - 15, 1, speedMax, true}, {massMax, 16 - speedMax, -1, -speedMax, false}, {massMax, 15 - speedMax, -1, -speedMax, true}, {massMax, 0, math.MaxInt32, speedMax, true}, {massMax, 0, math.MinInt32, -speedMax, true}, {massMax, speedMax, math.MinInt32, -speedMax, true}, {massMax, -speedMax, math.MaxInt32, speedMax, true},
	{massMax - 1, 0, 1, 15, false}, {massMax - 1, 0, -1, -16, false}, {massMax - 1, 0, massMax, speedMax - 16, false}, {massMax - 1, 0, -massMax, 16 - speedMax, false},
	// Static bodies.
	{0, 0, 0, 0, false}, {0, 5, 1, 5, false}, {0, 5, -1, 5, false}, {0, -5, math.MaxInt32, -5, false}, {0, -5, math.MinInt32, -5, false}, {0, speedMax, math.MaxInt32, speedMax, false}, {0, -speedMax, math.MinInt32, -speedMax, false}, {0, speedMax, 1, speedMax, false}, {0, -speedMax, -1, -speedMax, false},
}

// TestPushes has all pushes in either component, and those of the same body in both.
func TestPushes(t *testing.T) {
	limits, same := 0, 0
	for _, x := range pushes {
		for _, y := range pushes {
			if x.invMass != y.invMass {
				continue
			}
			same++
			if x.clamped != y.clamped {
				limits++
			}
			for _, pos := range []api.Vec{v(0, 0), v(worldMax, -worldMax)} {
				b := capsule(greatest, x.invMass, pos, v(x.vel, y.vel))
				want := b
				want.Vel = v(x.after, y.after)
				checkPush(t, b, v(x.j, y.j), want, x.clamped || y.clamped)
			}
		}
	}
	if limits < 500 || same < 1500 {
		t.Errorf("there are %d pushes, and %d of them have one component at a limit", same, limits)
	}
}

// TestPushOne has single pushes, also of a circle.
func TestPushOne(t *testing.T) {
	checkPush(t, flying(1, 2), v(10, -20), flying(11, -18), false)
	checkPush(t, flying(speedMax, 2), v(1, -2), flying(speedMax, 0), true)
	checkPush(t, flying(3, -speedMax), v(-3, -1), flying(0, -speedMax), true)
	checkPush(t, flying(speedMax, -speedMax), v(-5, 6), flying(speedMax-5, 6-speedMax), false)
	circle := api.Body{Radius: 4194304, InvMass: 3 * one, Pos: v(5, 5)}
	want := circle
	want.Vel = v(3, -6)
	checkPush(t, circle, v(1, -2), want, false)
	static := api.Body{Radius: 4096, Vel: v(7, speedMax)}
	checkPush(t, static, v(math.MinInt32, math.MaxInt32), static, false)
}

// Comparisons with the model

// A source returns scattered numbers, the same ones in each run.
type source uint64

func (s *source) next() uint64 {
	*s = *s*6364136223846793005 + 1442695040888963407
	return uint64(*s) >> 17
}

// below returns a number from 0 to n - 1.
func (s *source) below(n int) int { return int(s.next() % uint64(n)) }

// upTo returns a number from -limit to limit, of which there are many short ones, many multiples of 64, and many near the limit.
func (s *source) upTo(limit int64) int64 {
	long := int64((s.next()<<31 ^ s.next()) >> 1 & math.MaxInt64)
	n := long >> s.below(62) % (limit + 1)
	switch s.below(8) {
	case 0:
		n = limit
	case 1:
		n = limit - n%(min(limit, 3000)+1)
	case 2:
		n &^= ticks - 1
	}
	if s.below(2) == 0 {
		return -n
	}
	return n
}

func (s *source) vector(limit int64) api.Vec {
	return v(int32(s.upTo(limit)), int32(s.upTo(limit)))
}

// shift returns a shift that is often so small that a body remains in the world.
func (s *source) shift() correct.Shift {
	limits := []int64{0, 1, 300, 262144, worldMax, 1 << 33, shiftMax}
	limit := limits[s.below(len(limits))]
	return by(s.upTo(limit), s.upTo(limit))
}

// body returns a body, which is often static.
func (s *source) body(key uint32) api.Body {
	size := func(least, most int64) int32 { return int32(least + (s.upTo(most-least)+most-least)/2) }
	b := api.Body{Key: key, Radius: size(4096, 4194304), Axis: s.vector(4194304), InvMass: size(0, massMax), Bounce: size(0, one), Pos: s.vector(worldMax), Vel: s.vector(speedMax)}
	switch s.below(6) {
	case 0:
		b.InvMass = 0
	case 1:
		b.InvMass = 1
	case 2:
		b.Vel.X = 0
	}
	return b
}

// view returns a view of n bodies with shifts.
func (s *source) view(n int) ([]api.Body, []correct.Shift) {
	var l []api.Body
	var m []correct.Shift
	key := uint32(s.below(3))
	for range n {
		l, m = append(l, s.body(key)), append(m, s.shift())
		key += uint32(1 + s.below(1000000))
	}
	return l, m
}

// eachScattered calls f with scattered views and shifts, until the test fails.
func eachScattered(t *testing.T, f func(l []api.Body, m []correct.Shift)) {
	t.Helper()
	s := source(19)
	for n := range 20000 {
		if f(s.view(n % 6)); t.Failed() {
			return
		}
	}
}

func TestScattered(t *testing.T) {
	counts := map[string]int{}
	eachScattered(t, func(l []api.Body, m []correct.Shift) {
		checkModel(t, l, m)
		_, fast := Gravity(l)
		_, far := Move(l, m)
		counts[fmt.Sprintf("%d bodies, gravity %t", len(l), fast)]++
		counts[fmt.Sprintf("%d bodies, move %t", len(l), far)]++
	})
	for n := range 6 {
		for _, name := range []string{"gravity", "move"} {
			free, limited := counts[fmt.Sprintf("%d bodies, %s false", n, name)], counts[fmt.Sprintf("%d bodies, %s true", n, name)]
			if free < 40 || n > 0 && limited < 40 {
				t.Errorf("%d views of %d bodies reach a limit by %s, and %d do not", limited, n, name, free)
			}
		}
	}
}

func TestScatteredPushes(t *testing.T) {
	s := source(3)
	limited, free, static := 0, 0, 0
	for range 200000 {
		b := s.body(uint32(s.next()))
		j := s.vector([]int64{0, 3, 4000, 1 << 24, math.MaxInt32}[s.below(5)])
		if s.below(50) == 0 {
			j.X = math.MinInt32
		}
		want, clamped := modelPush(b, j)
		if checkPush(t, b, j, want, clamped); t.Failed() {
			return
		}
		switch {
		case clamped:
			limited++
		case b.InvMass == 0:
			static++
		default:
			free++
		}
	}
	if limited < 10000 || free < 10000 || static < 10000 {
		t.Errorf("%d pushes are limited, %d are not, and %d are of static bodies", limited, free, static)
	}
}

// TestFull has views with all bodies that there may be.
func TestFull(t *testing.T) {
	s := source(4096)
	for range 5 {
		l, m := s.view(capacity)
		checkModel(t, l, m)
	}
}

// P19.4

// TestKept compares all other fields of scattered bodies, and all of those that are static.
func TestKept(t *testing.T) {
	falls, moves, rests := 0, 0, 0
	eachScattered(t, func(l []api.Body, m []correct.Shift) {
		fallen, _ := Gravity(l)
		moved, _ := Move(l, m)
		for i, b := range l {
			f, g := fallen[i], moved[i]
			if f.Vel != b.Vel {
				falls++
			}
			if g.Pos != b.Pos {
				moves++
			}
			if b.InvMass == 0 {
				rests++
				if p, clamped := Push(b, v(math.MinInt32, math.MaxInt32)); p != b || f != b || clamped {
					t.Errorf("the static body %+v has become %+v and %+v", b, f, p)
				}
			}
			f.Vel, g.Pos = b.Vel, b.Pos
			p, _ := Push(b, v(lower(m[i].X), lower(m[i].Y)))
			p.Vel = b.Vel
			if f != b || g != b || p != b {
				t.Errorf("the body %+v has become %+v, %+v and %+v", b, f, g, p)
			}
		}
	})
	if falls < 10000 || moves < 10000 || rests < 5000 {
		t.Errorf("%d bodies fell, %d bodies moved, and %d were static", falls, moves, rests)
	}
}

// lower returns the lower bits of a number, as an impulse.
func lower(n int64) int32 { return int32(n) }

// TestReports compares what is reported with what was changed: where a limit is not reported, all sums are exact.
func TestReports(t *testing.T) {
	eachScattered(t, func(l []api.Body, m []correct.Shift) {
		fallen, fast := Gravity(l)
		moved, far := Move(l, m)
		slow, near := true, true
		for i, b := range l {
			y := int64(b.Vel.Y)
			if b.InvMass != 0 {
				y -= gravity
			}
			slow = slow && int64(fallen[i].Vel.Y) == y && fallen[i].Vel.X == b.Vel.X
			dx, dy := m[i].X+int64(b.Vel.X>>6), m[i].Y+int64(b.Vel.Y>>6)
			near = near && int64(moved[i].Pos.X) == int64(b.Pos.X)+dx && int64(moved[i].Pos.Y) == int64(b.Pos.Y)+dy
		}
		if slow == fast || near == far {
			t.Errorf("for %+v and %+v, the limits were reported as %t and %t", l, m, fast, far)
		}
	})
}

// TestApart puts two views together, which changes nothing for the bodies of either of them.
func TestApart(t *testing.T) {
	s := source(2)
	for range 2000 {
		l, m := s.view(6)
		var fallen, moved []api.Body
		fast, far := false, false
		for i := range l {
			after, clamped := Gravity(l[i : i+1])
			fallen, fast = append(fallen, after...), fast || clamped
			after, clamped = Move(l[i:i+1], m[i:i+1])
			moved, far = append(moved, after...), far || clamped
		}
		checkGravity(t, l, fallen, fast)
		checkMove(t, l, m, moved, far)
	}
}

// TestAxes exchanges the axes of the world, for moves and pushes.
func TestAxes(t *testing.T) {
	s := source(90)
	for range 20000 {
		b, d := s.body(5), s.shift()
		want, far := Move(bodies(b), shifts(d))
		pushed, fast := Push(b, v(lower(d.Y), lower(d.X)))
		b.Pos, b.Vel = turned(b.Pos), turned(b.Vel)
		want[0].Pos, want[0].Vel = turned(want[0].Pos), turned(want[0].Vel)
		pushed.Pos, pushed.Vel = turned(pushed.Pos), turned(pushed.Vel)
		checkMove(t, bodies(b), shifts(by(d.Y, d.X)), want, far)
		checkPush(t, b, v(lower(d.X), lower(d.Y)), pushed, fast)
	}
}

// P19.5

// scene returns a view with shifts that change all bodies, where the slices have capacity that is not used.
func scene() ([]api.Body, []correct.Shift) {
	l := bodies(capsule(1, one, v(10, 20), v(640, -640)), capsule(2, 1, v(30, 40), v(-speedMax, -speedMax)), capsule(3, massMax, v(50, 60), v(0, 0)), capsule(4, 7, v(70, 80), v(9, 9)))
	m := shifts(by(5, 6), by(-shiftMax, shiftMax), by(7, 8), by(9, 10))
	return l[:3], m[:3]
}

// checkScene compares a scene, and the unused capacity of its slices, with a new one.
func checkScene(t *testing.T, l []api.Body, m []correct.Shift) {
	t.Helper()
	want, shifts := scene()
	if got := l[:cap(l)]; !slices.Equal(got, want[:cap(want)]) {
		t.Errorf("the bodies have become %+v", got)
	}
	if got := m[:cap(m)]; !slices.Equal(got, shifts[:cap(shifts)]) {
		t.Errorf("the shifts have become %+v", got)
	}
}

func TestArguments(t *testing.T) {
	l, m := scene()
	for n := range len(l) + 1 {
		Gravity(l[:n])
		Move(l[:n], m[:n])
	}
	for i, b := range l {
		Push(b, v(int32(i), -5))
		Push(l[i], v(math.MaxInt32, math.MinInt32))
	}
	checkScene(t, l, m)
}

// overwrite writes x to all elements of a slice, and to its unused capacity.
func overwrite[E any](l []E, x E) {
	l = l[:cap(l)]
	for i := range l {
		l[i] = x
	}
}

// TestResultsAreNew overwrites results, and asks again.
func TestResultsAreNew(t *testing.T) {
	l, m := scene()
	for n := range len(l) + 1 {
		for range 3 {
			checkModel(t, l[:n], m[:n])
			fallen, _ := Gravity(l[:n])
			overwrite(fallen, flying(77, -78))
			checkModel(t, l[:n], m[:n])
			moved, _ := Move(l[:n], m[:n])
			overwrite(moved, flying(79, -80))
			checkScene(t, l, m)
		}
	}
}

// TestResultsStay overwrites arguments, and asks with the new ones, which must not change earlier results.
func TestResultsStay(t *testing.T) {
	for n := range 4 {
		l, m := scene()
		l, m = l[:n], m[:n]
		fallen, _ := Gravity(l)
		moved, _ := Move(l, m)
		firstFallen, firstMoved := slices.Clone(fallen), slices.Clone(moved)
		overwrite(m, by(4, -4))
		for i := range l[:cap(l)] {
			l[:cap(l)][i].Pos, l[:cap(l)][i].Vel = v(-1, 1), v(2, -2)
		}
		checkModel(t, l, m)
		if !slices.Equal(fallen, firstFallen) || !slices.Equal(moved, firstMoved) {
			t.Errorf("the results have become %+v and %+v", fallen, moved)
		}
		if n > 0 && (fallen[0] == moved[0] || fallen[0] == l[0] || moved[0] == l[0]) {
			t.Errorf("the results %+v and %+v are not changed by their calls", fallen, moved)
		}
	}
}

// TestBeyond calls the functions with arguments for which nothing is promised, and only the rule holds that no function panics.
func TestBeyond(t *testing.T) {
	numbers := []int32{math.MinInt32, -speedMax - 1, -1, 0, 1, speedMax + 1, worldMax + 1, math.MaxInt32}
	long := []int64{math.MinInt64, -shiftMax - 1, -1, 0, shiftMax + 1, math.MaxInt64}
	for _, a := range numbers {
		for _, b := range numbers {
			for _, n := range numbers {
				l := bodies(capsule(7, n, v(a, b), v(b, a)), capsule(7, -n, v(b, a), v(a, b)), capsule(3, n, v(a, a), v(b, b)))
				Gravity(l)
				Push(l[0], v(a, n))
				Push(l[1], v(n, b))
				for _, s := range long {
					Move(l, shifts(by(s, -s), by(-s, s), by(s, s)))
				}
			}
		}
	}
	l, m := scene()
	for n := range 4 {
		Move(l, m[:n])
		Move(l[:n], m)
	}
	Move(l, nil)
	Move(nil, m)
	many := slices.Repeat(bodies(flying(1, 1)), capacity+1)
	Gravity(many)
	Move(many, make([]correct.Shift, capacity+1))
}
