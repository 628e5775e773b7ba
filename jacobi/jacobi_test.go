package jacobi

import (
	"fmt"
	"math"
	"slices"
	"testing"

	"billiard/api"
	"billiard/view"
)

// The limits of the chapters are written out, so that they are checked as well.
const (
	one      = 65536
	massMax  = 1048576
	speedMax = 16777216
	capacity = 4096
	rounds   = 4
	greatest = math.MaxUint32 // key
)

func v(x, y int32) api.Vec { return api.Vec{X: x, Y: y} }

func ball(key uint32, invMass, bounce int32, vel api.Vec) api.Body {
	return api.Body{Key: key, Radius: one, InvMass: invMass, Bounce: bounce, Vel: vel}
}

// soft returns a circle with the mass 1 and the bounce 0.
func soft(key uint32, x, y int32) api.Body { return ball(key, one, 0, v(x, y)) }

// hard returns a circle with the mass 1 and the bounce 2^16.
func hard(key uint32, x, y int32) api.Body { return ball(key, one, one, v(x, y)) }

// wall returns a static body with the bounce 2^16.
func wall(key uint32, x, y int32) api.Body { return ball(key, 0, one, v(x, y)) }

// meet returns a contact of two keys with a normal.
func meet(low, high uint32, x, y int32) api.Contact {
	return api.Contact{Pair: api.Pair{Low: low, High: high}, Normal: v(x, y), Depth: 1}
}

func bodies(l ...api.Body) []api.Body { return l }

func contacts(l ...api.Contact) []api.Contact { return l }

func vels(l ...api.Vec) []api.Vec { return l }

// A sum is the sum of a body.
type sum struct{ x, y int64 }

func sums(l ...sum) []sum { return l }

// with returns a view with other velocities.
func with(v []api.Body, velocities []api.Vec) []api.Body {
	after := slices.Clone(v)
	for i, vel := range velocities {
		after[i].Vel = vel
	}
	return after
}

func velocitiesOf(v []api.Body) []api.Vec {
	var l []api.Vec
	for _, b := range v {
		l = append(l, b.Vel)
	}
	return l
}

// swap returns bodies and contacts with the axes of the world exchanged, which exchanges the components of all results.
func swap(l []api.Body, m []api.Contact) ([]api.Body, []api.Contact) {
	l, m = slices.Clone(l), slices.Clone(m)
	for i, b := range l {
		l[i].Vel = v(b.Vel.Y, b.Vel.X)
	}
	for i, c := range m {
		m[i].Normal = v(c.Normal.Y, c.Normal.X)
	}
	return l, m
}

// The model: the definitions of layers 16 and 17 in plain integers. The product of the greatest approach, 2^26, and the greatest factor of the bounce, 2^17, is 2^43, and no other product is greater, so that all numbers are exact in 64 bits.

// floor returns the floor of n / d, for d > 0.
func floor(n, d int64) int64 {
	q := n / d
	if n%d < 0 {
		q--
	}
	return q
}

func modelStrength(n api.Vec, a, b api.Body) int64 {
	x, y := int64(b.Vel.X)-int64(a.Vel.X), int64(b.Vel.Y)-int64(a.Vel.Y)
	approach := floor(int64(n.X)*x+int64(n.Y)*y, one)
	if approach >= 0 || a.InvMass == 0 && b.InvMass == 0 {
		return 0
	}
	return floor(-approach*(one+int64(max(a.Bounce, b.Bounce))), int64(a.InvMass)+int64(b.InvMass))
}

func modelChange(j int64, inv int32, n api.Vec) sum {
	k := floor(j*int64(inv), one)
	return sum{floor(k*int64(n.X), one), floor(k*int64(n.Y), one)}
}

// modelSums keeps the sums in a map from keys.
func modelSums(v []api.Body, l []api.Contact) []sum {
	byKey := map[uint32]api.Body{}
	for _, b := range v {
		byKey[b.Key] = b
	}
	of := map[uint32]sum{}
	for _, c := range l {
		a, b := byKey[c.Pair.Low], byKey[c.Pair.High]
		j := modelStrength(c.Normal, a, b)
		low, high := modelChange(j, a.InvMass, c.Normal), modelChange(j, b.InvMass, c.Normal)
		of[a.Key] = sum{of[a.Key].x - low.x, of[a.Key].y - low.y}
		of[b.Key] = sum{of[b.Key].x + high.x, of[b.Key].y + high.y}
	}
	var all []sum
	for _, b := range v {
		all = append(all, of[b.Key])
	}
	return all
}

// modelLimit returns n if it is from -2^24 to 2^24, and otherwise the end that is nearer.
func modelLimit(n int64) (int32, bool) {
	switch {
	case n > speedMax:
		return speedMax, true
	case n < -speedMax:
		return -speedMax, true
	}
	return int32(n), false
}

func modelRound(v []api.Body, l []api.Contact) ([]api.Body, bool) {
	after, limited := slices.Clone(v), false
	for i, s := range modelSums(v, l) {
		x, changedX := modelLimit(int64(v[i].Vel.X) + s.x)
		y, changedY := modelLimit(int64(v[i].Vel.Y) + s.y)
		after[i].Vel = api.Vec{X: x, Y: y}
		limited = limited || changedX || changedY
	}
	return after, limited
}

// modelSolve returns the view after the rounds, and for each of them whether a limit changed a velocity.
func modelSolve(v []api.Body, l []api.Contact) ([]api.Body, []bool) {
	var flags []bool
	for len(flags) < rounds {
		after, limited := modelRound(v, l)
		v, flags = after, append(flags, limited)
	}
	return v, flags
}

// checkSpecified ends the test if nothing is promised for a view and contacts.
func checkSpecified(t *testing.T, v []api.Body, l []api.Contact) {
	t.Helper()
	if err := view.Check(v); err != api.OK {
		t.Fatalf("the bodies are no view: %d", err)
	}
	for _, c := range l {
		_, low := view.Find(v, c.Pair.Low)
		_, high := view.Find(v, c.Pair.High)
		if !low || !high || c.Pair.Low >= c.Pair.High || max(c.Normal.X, c.Normal.Y) > one || min(c.Normal.X, c.Normal.Y) < -one {
			t.Fatalf("nothing is promised for the contact %+v", c)
		}
	}
}

// short returns a text for a message about bodies or contacts, of which there may be many.
func short(x any) string {
	text := fmt.Sprintf("%+v", x)
	return text[:min(len(text), 1500)]
}

func checkSums(t *testing.T, v []api.Body, l []api.Contact, want []sum) {
	t.Helper()
	x, y := Sums(v, l)
	var got []sum
	for i := range min(len(x), len(y)) {
		got = append(got, sum{x[i], y[i]})
	}
	if len(x) != len(v) || len(y) != len(v) || !slices.Equal(got, want) {
		t.Errorf("Sums(%s, %s) = %s, %s, want %s", short(v), short(l), short(x), short(y), short(want))
	}
}

func checkRound(t *testing.T, v []api.Body, l []api.Contact, want []api.Body, limited bool) {
	t.Helper()
	got, changed := Round(v, l)
	if !slices.Equal(got, want) || changed != limited {
		t.Errorf("Round(%s, %s) = %s, %t, want %s, %t", short(v), short(l), short(got), changed, short(want), limited)
	}
}

func checkSolve(t *testing.T, v []api.Body, l []api.Contact, want []api.Body, limited bool) {
	t.Helper()
	got, changed := Solve(v, l)
	if !slices.Equal(got, want) || changed != limited {
		t.Errorf("Solve(%s, %s) = %s, %t, want %s, %t", short(v), short(l), short(got), changed, short(want), limited)
	}
}

// checkModel compares all functions with the model. It returns in which of the rounds a limit changed a velocity.
func checkModel(t *testing.T, v []api.Body, l []api.Contact) []bool {
	t.Helper()
	checkSpecified(t, v, l)
	checkSums(t, v, l, modelSums(v, l))
	after, limited := modelRound(v, l)
	checkRound(t, v, l, after, limited)
	solved, flags := modelSolve(v, l)
	checkSolve(t, v, l, solved, slices.Contains(flags, true))
	return flags
}

// A game is a view with contacts, and what becomes of it.
type game struct {
	name    string
	v       []api.Body
	l       []api.Contact
	sums    []sum
	round   []api.Vec
	limited bool
	solved  []api.Vec
	ever    bool
}

// checkGame checks all functions, with the contacts also in the reverse order, and with the axes exchanged.
func checkGame(t *testing.T, g game) {
	t.Helper()
	checkModel(t, g.v, g.l)
	backwards := slices.Clone(g.l)
	slices.Reverse(backwards)
	for _, l := range [][]api.Contact{g.l, backwards} {
		checkSums(t, g.v, l, g.sums)
		checkRound(t, g.v, l, with(g.v, g.round), g.limited)
		checkSolve(t, g.v, l, with(g.v, g.solved), g.ever)
	}
	swapped, l := swap(g.v, g.l)
	round, _ := swap(with(g.v, g.round), nil)
	solved, _ := swap(with(g.v, g.solved), nil)
	var turned []sum
	for _, s := range g.sums {
		turned = append(turned, sum{s.y, s.x})
	}
	checkSums(t, swapped, l, turned)
	checkRound(t, swapped, l, round, g.limited)
	checkSolve(t, swapped, l, solved, g.ever)
}

func checkGames(t *testing.T, l []game) {
	t.Helper()
	for _, g := range l {
		t.Run(g.name, func(t *testing.T) { checkGame(t, g) })
	}
}

// P17.1 and P17.2

// TestExample has the chapter's example alone.
func TestExample(t *testing.T) {
	l := bodies(hard(1, one, 0), hard(2, -one, 0))
	checkSums(t, l, contacts(meet(1, 2, one, 0)), sums(sum{-2 * one, 0}, sum{2 * one, 0}))
	checkRound(t, l, contacts(meet(1, 2, one, 0)), bodies(hard(1, -one, 0), hard(2, one, 0)), false)
	checkSolve(t, l, contacts(meet(1, 2, one, 0)), bodies(hard(1, -one, 0), hard(2, one, 0)), false)
}

func TestFew(t *testing.T) {
	checkGames(t, []game{
		{"nil", nil, nil, nil, nil, false, nil, false},
		{"no body", bodies(), contacts(), sums(), vels(), false, vels(), false},
		{"one body at rest", bodies(hard(1, 0, 0)), nil, sums(sum{}), vels(v(0, 0)), false, vels(v(0, 0)), false},
		{"one body", bodies(hard(5, 7, -8)), contacts(), sums(sum{}), vels(v(7, -8)), false, vels(v(7, -8)), false},
		{"one static body", bodies(wall(5, -7, 8)), nil, sums(sum{}), vels(v(-7, 8)), false, vels(v(-7, 8)), false},
		{"one body at the limits of speed", bodies(hard(5, speedMax, -speedMax)), nil, sums(sum{}), vels(v(speedMax, -speedMax)), false, vels(v(speedMax, -speedMax)), false},
		{"two bodies without a contact", bodies(hard(1, one, 0), hard(2, -one, 0)), nil, sums(sum{}, sum{}), vels(v(one, 0), v(-one, 0)), false, vels(v(one, 0), v(-one, 0)), false},
		{"three bodies, two of them in a contact", bodies(hard(1, one, 0), hard(2, -one, 0), hard(3, -one, 0)), contacts(meet(1, 3, one, 0)), sums(sum{-2 * one, 0}, sum{}, sum{2 * one, 0}), vels(v(-one, 0), v(-one, 0), v(one, 0)), false, vels(v(-one, 0), v(-one, 0), v(one, 0)), false},
	})
}

func TestOneContact(t *testing.T) {
	right, left := contacts(meet(1, 2, one, 0)), contacts(meet(1, 2, -one, 0))
	keep := func(name string, l []api.Contact, a, b api.Body) game {
		return game{name, bodies(a, b), l, sums(sum{}, sum{}), vels(a.Vel, b.Vel), false, vels(a.Vel, b.Vel), false}
	}
	checkGames(t, []game{
		{"a towards b", bodies(soft(1, one, 0), soft(2, 0, 0)), right, sums(sum{-one / 2, 0}, sum{one / 2, 0}), vels(v(one/2, 0), v(one/2, 0)), false, vels(v(one/2, 0), v(one/2, 0)), false},
		{"b towards a", bodies(soft(1, 0, 0), soft(2, -one, 0)), right, sums(sum{-one / 2, 0}, sum{one / 2, 0}), vels(v(-one/2, 0), v(-one/2, 0)), false, vels(v(-one/2, 0), v(-one/2, 0)), false},
		{"to the left", bodies(soft(1, -one, 0), soft(2, one, 0)), left, sums(sum{one, 0}, sum{-one, 0}), vels(v(0, 0), v(0, 0)), false, vels(v(0, 0), v(0, 0)), false},
		{"with other components across", bodies(hard(1, one, 5), hard(2, -one, 6)), right, sums(sum{-2 * one, 0}, sum{2 * one, 0}), vels(v(-one, 5), v(one, 6)), false, vels(v(-one, 5), v(one, 6)), false},
		{"one of them with a bounce", bodies(soft(1, 3*one, 0), hard(2, one, 0)), right, sums(sum{-2 * one, 0}, sum{2 * one, 0}), vels(v(one, 0), v(3*one, 0)), false, vels(v(one, 0), v(3*one, 0)), false},
		{"the other one with a bounce", bodies(hard(1, 3*one, 0), soft(2, one, 0)), right, sums(sum{-2 * one, 0}, sum{2 * one, 0}), vels(v(one, 0), v(3*one, 0)), false, vels(v(one, 0), v(3*one, 0)), false},
		{"half of the bounce", bodies(ball(1, one, one/2, v(one, 0)), soft(2, -one, 0)), right, sums(sum{-3 * one / 2, 0}, sum{3 * one / 2, 0}), vels(v(-one/2, 0), v(one/2, 0)), false, vels(v(-one/2, 0), v(one/2, 0)), false},
		{"other masses", bodies(ball(1, one, 0, v(4*one, 0)), ball(2, 3*one, 0, v(0, 0))), right, sums(sum{-one, 0}, sum{3 * one, 0}), vels(v(3*one, 0), v(3*one, 0)), false, vels(v(3*one, 0), v(3*one, 0)), false},
		{"a rest that the rounds halve", bodies(soft(1, 5, 0), soft(2, 0, 0)), right, sums(sum{-2, 0}, sum{2, 0}), vels(v(3, 0), v(2, 0)), false, vels(v(3, 0), v(2, 0)), false},
		keep("both at rest", right, hard(1, 0, 0), hard(2, 0, 0)),
		keep("with the same velocity", right, hard(1, one, 7), hard(2, one, 7)),
		keep("away from each other", right, hard(1, -one, 0), hard(2, one, 0)),
		keep("away from each other, to the left", left, hard(1, one, 0), hard(2, -one, 0)),
		keep("a behind b, and slower", right, hard(1, one, 0), hard(2, one+1, 0)),
		keep("past each other", right, hard(1, 0, one), hard(2, 0, -one)),
		keep("no normal", contacts(meet(1, 2, 0, 0)), hard(1, one, one), hard(2, -one, -one)),
		keep("less than the least strength", right, soft(1, 1, 0), soft(2, 0, 0)),
		{"the least approach that counts", bodies(soft(1, 1, 0), soft(2, -1, 0)), right, sums(sum{-1, 0}, sum{1, 0}), vels(v(0, 0), v(0, 0)), false, vels(v(0, 0), v(0, 0)), false},
	})
}

func TestStatic(t *testing.T) {
	right := contacts(meet(1, 2, one, 0))
	checkGames(t, []game{
		{"as Low", bodies(ball(1, 0, 0, v(one, 5)), soft(2, 0, 6)), right, sums(sum{}, sum{one, 0}), vels(v(one, 5), v(one, 6)), false, vels(v(one, 5), v(one, 6)), false},
		{"as High", bodies(soft(1, one, 5), ball(2, 0, 0, v(0, 6))), right, sums(sum{-one, 0}, sum{}), vels(v(0, 5), v(0, 6)), false, vels(v(0, 5), v(0, 6)), false},
		{"as Low, with a bounce", bodies(wall(1, one, 5), soft(2, -one, 6)), right, sums(sum{}, sum{4 * one, 0}), vels(v(one, 5), v(3*one, 6)), false, vels(v(one, 5), v(3*one, 6)), false},
		{"as High, with a bounce", bodies(soft(1, one, 5), wall(2, 0, 6)), right, sums(sum{-2 * one, 0}, sum{}), vels(v(-one, 5), v(0, 6)), false, vels(v(-one, 5), v(0, 6)), false},
		{"both", bodies(wall(1, one, 5), wall(2, -one, 6)), right, sums(sum{}, sum{}), vels(v(one, 5), v(-one, 6)), false, vels(v(one, 5), v(-one, 6)), false},
		{"both at the limits of speed", bodies(wall(1, speedMax, -speedMax), wall(2, -speedMax, speedMax)), right, sums(sum{}, sum{}), vels(v(speedMax, -speedMax), v(-speedMax, speedMax)), false, vels(v(speedMax, -speedMax), v(-speedMax, speedMax)), false},
		{"on both sides of a body", bodies(ball(1, 0, 0, v(one, 0)), soft(2, 0, 7), ball(3, 0, 0, v(-one, 0))), contacts(meet(1, 2, one, 0), meet(2, 3, one, 0)), sums(sum{}, sum{}, sum{}), vels(v(one, 0), v(0, 7), v(-one, 0)), false, vels(v(one, 0), v(0, 7), v(-one, 0)), false},
		{"between two bodies", bodies(soft(1, one, 0), wall(2, 0, 7), soft(3, -one, 0)), contacts(meet(1, 2, one, 0), meet(2, 3, one, 0)), sums(sum{-2 * one, 0}, sum{}, sum{2 * one, 0}), vels(v(-one, 0), v(0, 7), v(one, 0)), false, vels(v(-one, 0), v(0, 7), v(one, 0)), false},
		{"with the least inverse mass beside it", bodies(ball(1, 1, 0, v(one, 0)), ball(2, 0, 0, v(0, 0))), right, sums(sum{-one, 0}, sum{}), vels(v(0, 0), v(0, 0)), false, vels(v(0, 0), v(0, 0)), false},
		{"with the greatest inverse mass beside it", bodies(ball(1, 0, 0, v(one, 0)), ball(2, massMax, 0, v(0, 0))), right, sums(sum{}, sum{one, 0}), vels(v(one, 0), v(one, 0)), false, vels(v(one, 0), v(one, 0)), false},
	})
}

func TestMasses(t *testing.T) {
	right := contacts(meet(1, 2, one, 0))
	heavy, light := ball(1, 1, 0, v(one, 0)), ball(1, massMax, 0, v(one, 0))
	checkGames(t, []game{
		{"the least inverse masses", bodies(heavy, ball(2, 1, 0, v(0, 0))), right, sums(sum{-one / 2, 0}, sum{one / 2, 0}), vels(v(one/2, 0), v(one/2, 0)), false, vels(v(one/2, 0), v(one/2, 0)), false},
		{"the greatest inverse masses", bodies(light, ball(2, massMax, 0, v(0, 0))), right, sums(sum{-one / 2, 0}, sum{one / 2, 0}), vels(v(one/2, 0), v(one/2, 0)), false, vels(v(one/2, 0), v(one/2, 0)), false},
		{"the greatest inverse masses and bounces", bodies(ball(1, massMax, one, v(one, 0)), ball(2, massMax, one, v(0, 0))), right, sums(sum{-one, 0}, sum{one, 0}), vels(v(0, 0), v(one, 0)), false, vels(v(0, 0), v(one, 0)), false},
		// The strength is 4095, which the greatest inverse mass makes 65520, and the least one 0. For the approach that is left, 16, the strength is 0.
		{"the least and the greatest inverse mass", bodies(heavy, ball(2, massMax, 0, v(0, 0))), right, sums(sum{}, sum{65520, 0}), vels(v(one, 0), v(65520, 0)), false, vels(v(one, 0), v(65520, 0)), false},
		{"the greatest and the least inverse mass", bodies(light, ball(2, 1, 0, v(0, 0))), right, sums(sum{-65520, 0}, sum{}), vels(v(16, 0), v(0, 0)), false, vels(v(16, 0), v(0, 0)), false},
		{"the least inverse mass and the mass 1", bodies(ball(1, 1, one, v(one, 0)), soft(2, 0, 0)), right, sums(sum{-1, 0}, sum{131070, 0}), vels(v(one-1, 0), v(131070, 0)), false, vels(v(one-1, 0), v(131070, 0)), false},
	})
}

// TestNormals has normals for which the components of a change are rounded down, and minus the change of one body is not the change in the other direction.
func TestNormals(t *testing.T) {
	checkGames(t, []game{
		{"between the axes", bodies(soft(1, 333, 0), soft(2, 0, 0)), contacts(meet(1, 2, 39321, -52428)), sums(sum{-59, 80}, sum{59, -80}), vels(v(274, 80), v(59, -80)), false, vels(v(274, 80), v(59, -80)), false},
		{"between the axes, on the other side", bodies(soft(1, 0, 0), soft(2, 333, 0)), contacts(meet(1, 2, -39321, 52428)), sums(sum{60, -79}, sum{-60, 79}), vels(v(60, -79), v(273, 79)), false, vels(v(61, -79), v(272, 79)), false},
		{"the least and the greatest components", bodies(soft(1, one, one), soft(2, 0, 0)), contacts(meet(1, 2, one, one)), sums(sum{-one, -one}, sum{one, one}), vels(v(0, 0), v(one, one)), false, vels(v(0, 0), v(one, one)), false},
		{"the greatest components, on the other side", bodies(soft(1, -one, 0), soft(2, one, 0)), contacts(meet(1, 2, -one, one)), sums(sum{one, -one}, sum{-one, one}), vels(v(0, -one), v(0, one)), false, vels(v(0, -one), v(0, one)), false},
		{"short, to the left", bodies(soft(1, -one, 0), soft(2, one, 0)), contacts(meet(1, 2, -1, 0)), sums(sum{1, 0}, sum{-1, 0}), vels(v(1-one, 0), v(one-1, 0)), false, vels(v(4-one, 0), v(one-4, 0)), false},
		{"short, to the right", bodies(soft(1, one, 0), soft(2, -one, 0)), contacts(meet(1, 2, 1, 0)), sums(sum{}, sum{}), vels(v(one, 0), v(-one, 0)), false, vels(v(one, 0), v(-one, 0)), false},
		{"in two directions", bodies(soft(1, one, one), soft(2, 0, 0)), contacts(meet(1, 2, one, 0), meet(1, 2, 0, one)), sums(sum{-one / 2, -one / 2}, sum{one / 2, one / 2}), vels(v(one/2, one/2), v(one/2, one/2)), false, vels(v(one/2, one/2), v(one/2, one/2)), false},
		{"in opposite directions", bodies(soft(1, one, 0), soft(2, 0, 0)), contacts(meet(1, 2, one, 0), meet(1, 2, -one, 0)), sums(sum{-one / 2, 0}, sum{one / 2, 0}), vels(v(one/2, 0), v(one/2, 0)), false, vels(v(one/2, 0), v(one/2, 0)), false},
	})
}

func TestSeveralContacts(t *testing.T) {
	c, d := meet(1, 2, one, 0), meet(2, 3, one, 0)
	checkGames(t, []game{
		{"the same one twice", bodies(soft(1, one, 0), soft(2, 0, 0)), contacts(c, c), sums(sum{-one, 0}, sum{one, 0}), vels(v(0, 0), v(one, 0)), false, vels(v(0, 0), v(one, 0)), false},
		{"the same one three times", bodies(soft(1, one, 0), soft(2, 0, 0)), contacts(c, c, c), sums(sum{-3 * one / 2, 0}, sum{3 * one / 2, 0}), vels(v(-one/2, 0), v(3*one/2, 0)), false, vels(v(-one/2, 0), v(3*one/2, 0)), false},
		{"the same one twice, with a static body as High", bodies(soft(1, 0, 0), wall(2, -one, 0)), contacts(c, c), sums(sum{-4 * one, 0}, sum{}), vels(v(-4*one, 0), v(-one, 0)), false, vels(v(-4*one, 0), v(-one, 0)), false},
		{"the same one twice, apart", bodies(soft(1, 3*one, 0), soft(2, one, 0), soft(3, one, 0)), contacts(c, d, c), sums(sum{-2 * one, 0}, sum{2 * one, 0}, sum{}), vels(v(one, 0), v(3*one, 0), v(one, 0)), false, vels(v(one, 0), v(2*one, 0), v(2*one, 0)), false},
		{"from both sides", bodies(soft(1, one, 0), soft(2, 0, 0), soft(3, -one, 0)), contacts(c, d), sums(sum{-one / 2, 0}, sum{}, sum{one / 2, 0}), vels(v(one/2, 0), v(0, 0), v(-one/2, 0)), false, vels(v(one/16, 0), v(0, 0), v(-one/16, 0)), false},
		{"to two bodies in different directions", bodies(soft(1, one, one), soft(2, 0, 0), soft(3, 0, 0)), contacts(c, meet(1, 3, 0, one)), sums(sum{-one / 2, -one / 2}, sum{one / 2, 0}, sum{0, one / 2}), vels(v(one/2, one/2), v(one/2, 0), v(0, one/2)), false, vels(v(one/2, one/2), v(one/2, 0), v(0, one/2)), false},
		{"to two bodies in the same direction", bodies(soft(1, one, 0), soft(2, 0, 0), soft(3, 0, 0)), contacts(c, meet(1, 3, one, 0)), sums(sum{-one, 0}, sum{one / 2, 0}, sum{one / 2, 0}), vels(v(0, 0), v(one/2, 0), v(one/2, 0)), false, vels(v(0, 0), v(one/2, 0), v(one/2, 0)), false},
		{"as High of two contacts", bodies(soft(1, one, 0), soft(2, one, 0), soft(3, 0, 0)), contacts(meet(1, 3, one, 0), meet(2, 3, one, 0)), sums(sum{-one / 2, 0}, sum{-one / 2, 0}, sum{one, 0}), vels(v(one/2, 0), v(one/2, 0), v(one, 0)), false, vels(v(one/2, 0), v(one/2, 0), v(one, 0)), false},
		{"one that passes a velocity on, as High and then Low", bodies(hard(1, one, 0), hard(2, 0, 0), hard(3, 0, 0)), contacts(c, d), sums(sum{-one, 0}, sum{one, 0}, sum{}), vels(v(0, 0), v(one, 0), v(0, 0)), false, vels(v(0, 0), v(0, 0), v(one, 0)), false},
		{"one that passes a velocity on, as Low of both", bodies(hard(1, 0, 0), hard(2, one, 0), hard(3, 0, 0)), contacts(meet(1, 2, -one, 0), meet(1, 3, one, 0)), sums(sum{one, 0}, sum{-one, 0}, sum{}), vels(v(one, 0), v(0, 0), v(0, 0)), false, vels(v(0, 0), v(0, 0), v(one, 0)), false},
		{"one that passes a velocity on, as High of both", bodies(hard(1, one, 0), hard(2, 0, 0), hard(3, 0, 0)), contacts(meet(1, 3, one, 0), meet(2, 3, -one, 0)), sums(sum{-one, 0}, sum{}, sum{one, 0}), vels(v(0, 0), v(0, 0), v(one, 0)), false, vels(v(0, 0), v(one, 0), v(0, 0)), false},
		{"one between two that leave it", bodies(hard(1, -one, 0), hard(2, 0, 0), hard(3, one, 0)), contacts(c, d), sums(sum{}, sum{}, sum{}), vels(v(-one, 0), v(0, 0), v(one, 0)), false, vels(v(-one, 0), v(0, 0), v(one, 0)), false},
		{"all of three with each other", bodies(soft(1, one, 0), soft(2, 0, 0), soft(3, -one, 0)), contacts(c, d, meet(1, 3, one, 0)), sums(sum{-3 * one / 2, 0}, sum{}, sum{3 * one / 2, 0}), vels(v(-one/2, 0), v(0, 0), v(one/2, 0)), false, vels(v(-one/2, 0), v(0, 0), v(one/2, 0)), false},
	})
}

// TestKeys has the least and the greatest keys, and keys between which there are others.
func TestKeys(t *testing.T) {
	for _, keys := range [][3]uint32{{0, 1, 2}, {0, 1 << 31, greatest}, {greatest - 2, greatest - 1, greatest}, {1<<31 - 1, 1 << 31, 1<<31 + 1}, {0, 7, greatest}, {5, 6, 1000}} {
		a, b, c := keys[0], keys[1], keys[2]
		l := bodies(hard(a, one, 0), hard(b, 0, 0), wall(c, -one, 0))
		checkGame(t, game{"first and second", l, contacts(meet(a, b, one, 0)), sums(sum{-one, 0}, sum{one, 0}, sum{}), vels(v(0, 0), v(one, 0), v(-one, 0)), false, vels(v(0, 0), v(one, 0), v(-one, 0)), false})
		checkGame(t, game{"second and third", l, contacts(meet(b, c, one, 0)), sums(sum{}, sum{-2 * one, 0}, sum{}), vels(v(one, 0), v(-2*one, 0), v(-one, 0)), false, vels(v(one, 0), v(-2*one, 0), v(-one, 0)), false})
		checkGame(t, game{"first and third", l, contacts(meet(a, c, one, 0)), sums(sum{-4 * one, 0}, sum{}, sum{}), vels(v(-3*one, 0), v(0, 0), v(-one, 0)), false, vels(v(-3*one, 0), v(0, 0), v(-one, 0)), false})
	}
}

// TestLimits has sums that reach the limit of velocities, miss it by one unit, and go beyond it.
func TestLimits(t *testing.T) {
	const half = speedMax / 2
	right, left := contacts(meet(1, 2, one, 0)), contacts(meet(1, 2, -one, 0))
	checkGames(t, []game{
		{"reached", bodies(wall(1, half, 0), soft(2, 0, 7)), right, sums(sum{}, sum{speedMax, 0}), vels(v(half, 0), v(speedMax, 7)), false, vels(v(half, 0), v(speedMax, 7)), false},
		{"just missed", bodies(wall(1, half, 0), soft(2, 1, 7)), right, sums(sum{}, sum{speedMax - 2, 0}), vels(v(half, 0), v(speedMax-1, 7)), false, vels(v(half, 0), v(speedMax-1, 7)), false},
		{"just gone beyond", bodies(wall(1, half, 0), soft(2, -1, 7)), right, sums(sum{}, sum{speedMax + 2, 0}), vels(v(half, 0), v(speedMax, 7)), true, vels(v(half, 0), v(speedMax, 7)), true},
		{"reached on the other side", bodies(wall(1, -half, 0), soft(2, 0, 7)), left, sums(sum{}, sum{-speedMax, 0}), vels(v(-half, 0), v(-speedMax, 7)), false, vels(v(-half, 0), v(-speedMax, 7)), false},
		{"just missed on the other side", bodies(wall(1, -half, 0), soft(2, -1, 7)), left, sums(sum{}, sum{2 - speedMax, 0}), vels(v(-half, 0), v(1-speedMax, 7)), false, vels(v(-half, 0), v(1-speedMax, 7)), false},
		{"just gone beyond on the other side", bodies(wall(1, -half, 0), soft(2, 1, 7)), left, sums(sum{}, sum{-speedMax - 2, 0}), vels(v(-half, 0), v(-speedMax, 7)), true, vels(v(-half, 0), v(-speedMax, 7)), true},
		{"reached by Low", bodies(soft(1, 0, 7), wall(2, -half, 0)), right, sums(sum{-speedMax, 0}, sum{}), vels(v(-speedMax, 7), v(-half, 0)), false, vels(v(-speedMax, 7), v(-half, 0)), false},
		{"just missed by Low", bodies(soft(1, -1, 7), wall(2, -half, 0)), right, sums(sum{2 - speedMax, 0}, sum{}), vels(v(1-speedMax, 7), v(-half, 0)), false, vels(v(1-speedMax, 7), v(-half, 0)), false},
		{"just gone beyond by Low", bodies(soft(1, 1, 7), wall(2, -half, 0)), right, sums(sum{-speedMax - 2, 0}, sum{}), vels(v(-speedMax, 7), v(-half, 0)), true, vels(v(-speedMax, 7), v(-half, 0)), true},
		{"just gone beyond by Low on the other side", bodies(soft(1, -1, 7), wall(2, half, 0)), left, sums(sum{speedMax + 2, 0}, sum{}), vels(v(speedMax, 7), v(half, 0)), true, vels(v(speedMax, 7), v(half, 0)), true},
		{"far beyond", bodies(wall(1, speedMax, 0), soft(2, -speedMax, speedMax)), right, sums(sum{}, sum{4 * speedMax, 0}), vels(v(speedMax, 0), v(speedMax, speedMax)), true, vels(v(speedMax, 0), v(speedMax, speedMax)), true},
		{"at the limit across", bodies(soft(1, one, -speedMax), soft(2, -one, speedMax)), right, sums(sum{-one, 0}, sum{one, 0}), vels(v(0, -speedMax), v(0, speedMax)), false, vels(v(0, -speedMax), v(0, speedMax)), false},
		{"from limit to limit", bodies(hard(1, speedMax, 0), hard(2, -speedMax, 0)), right, sums(sum{-2 * speedMax, 0}, sum{2 * speedMax, 0}), vels(v(-speedMax, 0), v(speedMax, 0)), false, vels(v(-speedMax, 0), v(speedMax, 0)), false},
		{"both components", bodies(wall(1, speedMax, speedMax), soft(2, -speedMax, -speedMax)), contacts(meet(1, 2, one, one)), sums(sum{}, sum{8 * speedMax, 8 * speedMax}), vels(v(speedMax, speedMax), v(speedMax, speedMax)), true, vels(v(speedMax, speedMax), v(speedMax, speedMax)), true},
		{"both bodies", bodies(hard(1, speedMax, 0), hard(2, -speedMax, 0)), contacts(right[0], right[0]), sums(sum{-4 * speedMax, 0}, sum{4 * speedMax, 0}), vels(v(-speedMax, 0), v(speedMax, 0)), true, vels(v(-speedMax, 0), v(speedMax, 0)), true},
		{"the first of three bodies", bodies(soft(1, 0, 0), wall(2, -speedMax, 0), wall(3, 0, 0)), contacts(meet(1, 2, one, 0)), sums(sum{-2 * speedMax, 0}, sum{}, sum{}), vels(v(-speedMax, 0), v(-speedMax, 0), v(0, 0)), true, vels(v(-speedMax, 0), v(-speedMax, 0), v(0, 0)), true},
		// Each of the sums goes far beyond the limit before the other one is added.
		{"gone beyond and back", bodies(wall(1, speedMax, 0), soft(2, 9, 0), wall(3, -speedMax, 0)), contacts(meet(1, 2, one, 0), meet(2, 3, one, 0)), sums(sum{}, sum{-36, 0}, sum{}), vels(v(speedMax, 0), v(-27, 0), v(-speedMax, 0)), false, vels(v(speedMax, 0), v(729, 0), v(-speedMax, 0)), false},
	})
}

// TestLimitsInRounds looks at limits that change a velocity in some of the rounds only.
func TestLimitsInRounds(t *testing.T) {
	// A velocity passes from one of five bodies to the next one in each round, with as many contacts between each two as are given.
	chain := func(counts ...int) (l []api.Contact) {
		for i, n := range counts {
			for range n {
				l = append(l, meet(uint32(i), uint32(i+1), one, 0))
			}
		}
		return l
	}
	row := bodies(hard(0, speedMax, 0), hard(1, 0, 0), hard(2, 0, 0), hard(3, 0, 0), hard(4, 0, 0))
	// A static body pushes the next one beyond the limit, and a soft one behind that stops it, each in every other round.
	pushed := bodies(ball(0, 0, 0, v(speedMax, 0)), soft(1, 0, 0), ball(2, 0, 0, v(0, 0)))
	for _, x := range []struct {
		name  string
		v     []api.Body
		l     []api.Contact
		flags []bool
	}{
		{"in none", row, chain(1, 1, 1, 1), []bool{false, false, false, false}},
		{"in the first one", row, chain(2), []bool{true, false, false, false}},
		{"in the second one", row, chain(1, 2), []bool{false, true, false, false}},
		{"in the third one", row, chain(1, 1, 2), []bool{false, false, true, false}},
		{"in the last one", row, chain(1, 1, 1, 2), []bool{false, false, false, true}},
		{"in the first and the third one", pushed, chain(2, 1), []bool{true, false, true, false}},
		{"in all", bodies(wall(0, speedMax, 0), soft(1, 0, 0), wall(2, -speedMax, 0)), chain(3, 1), []bool{true, true, true, true}},
	} {
		t.Run(x.name, func(t *testing.T) {
			if flags := checkModel(t, x.v, x.l); !slices.Equal(flags, x.flags) {
				t.Errorf("the model has limits in the rounds %v, want %v", flags, x.flags)
			}
			v := x.v
			for i, flag := range x.flags {
				after, limited := Round(v, x.l)
				if limited != flag {
					t.Errorf("the limit of the round %d is %t, want %t", i, limited, flag)
				}
				v = after
			}
			checkSolve(t, x.v, x.l, v, slices.Contains(x.flags, true))
		})
	}
}

// TestPassedOn has balls in a row, of which the first one moves. A round that reads velocities of its own would pass them on by more than one ball.
func TestPassedOn(t *testing.T) {
	var row []api.Body
	var l []api.Contact
	for i := range uint32(12) {
		row = append(row, hard(i, 0, 0))
		if i > 0 {
			l = append(l, meet(i-1, i, one, 0))
		}
	}
	moves := func(i int) []api.Body {
		after := slices.Clone(row)
		after[i].Vel = v(one, 0)
		return after
	}
	for i := range row {
		checkRound(t, moves(i), l, moves(min(i+1, len(row)-1)), false)
		checkSolve(t, moves(i), l, moves(min(i+rounds, len(row)-1)), false)
	}
	slices.Reverse(l)
	checkRound(t, moves(0), l, moves(1), false)
	checkSolve(t, moves(0), l, moves(rounds), false)
}

// normals returns normals along the axes, between them, zero, and with the least and the greatest components, also those that no contact has.
func normals() []api.Vec {
	return []api.Vec{
		v(0, 0), v(one, 0), v(-one, 0), v(0, one), v(0, -one),
		v(one, one), v(one, -one), v(-one, one), v(-one, -one), v(1, -1), v(1-one, one-1),
		v(39321, 52428), v(-39322, -52429), v(-52429, 39321), v(46340, -46341), v(12345, 64362),
	}
}

func velocities() []api.Vec {
	return []api.Vec{
		v(0, 0), v(1, 0), v(-1, 1), v(-12345, 54321), v(-one, one), v(-3000000, -70001),
		v(speedMax, 0), v(0, speedMax), v(-speedMax, 0), v(0, -speedMax),
		v(speedMax, speedMax), v(-speedMax, speedMax), v(speedMax, -speedMax), v(-speedMax, -speedMax), v(speedMax-1, 1-speedMax),
	}
}

// TestModel compares games of two bodies with the model.
func TestModel(t *testing.T) {
	masses, bounces := []int32{0, 1, 40000, one, massMax - 1, massMax}, []int32{0, 1, 32768, one - 1, one}
	n, changed := 0, 0
	limits := map[bool]int{}
	for _, normal := range normals() {
		for _, from := range velocities() {
			for _, to := range velocities() {
				for _, low := range masses {
					for _, high := range masses {
						a := ball(1, low, bounces[n%len(bounces)], from)
						b := ball(2, high, bounces[n/len(bounces)%len(bounces)], to)
						n++
						l := slices.Repeat(contacts(meet(1, 2, normal.X, normal.Y)), 1+n%3)
						flags := checkModel(t, bodies(a, b), l)
						limits[slices.Contains(flags, true)]++
						if after, _ := Round(bodies(a, b), l); after[0] != a || after[1] != b {
							changed++
						}
						if t.Failed() {
							return
						}
					}
				}
			}
		}
	}
	if changed < 20000 || limits[true] < 10000 || limits[false] < 10000 {
		t.Errorf("of %d games, %d have changes, and the limits are %v", n, changed, limits)
	}
}

// A source returns scattered numbers, the same ones in each run.
type source uint64

func (s *source) next() uint64 {
	*s = *s*6364136223846793005 + 1442695040888963407
	return uint64(*s) >> 17
}

// below returns a number from 0 to n - 1.
func (s *source) below(n int) int { return int(s.next() % uint64(n)) }

// upTo returns a number from -limit to limit, of which there are many short ones.
func (s *source) upTo(limit int64) int32 {
	length := s.next() % 26
	n := int32(int64(s.next()>>(length+20)) % (limit + 1))
	if s.next()%2 == 0 {
		return -n
	}
	return n
}

func (s *source) vector(limit int64) api.Vec { return v(s.upTo(limit), s.upTo(limit)) }

func (s *source) from0(limit int64) int32 {
	n := s.upTo(limit)
	return max(n, -n)
}

// view returns a view of n bodies, some of which are static, and many of which have no short velocity.
func (s *source) view(n int) []api.Body {
	var l []api.Body
	key := uint32(s.below(3))
	for range n {
		b := ball(key, s.from0(massMax), s.from0(one), s.vector(speedMax))
		b.Radius, b.Axis, b.Pos = 4096+s.from0(4190208), s.vector(4194304), s.vector(1<<30)
		switch s.below(6) {
		case 0:
			b.InvMass = 0
		case 1:
			b.InvMass, b.Bounce = one, one
		case 2:
			b.Vel = velocities()[s.below(len(velocities()))]
		}
		l = append(l, b)
		key += uint32(1 + s.below(1000000))
	}
	return l
}

// contacts returns n contacts of a view with at least two bodies, some of them equal.
func (s *source) contacts(v []api.Body, n int) []api.Contact {
	var l []api.Contact
	for len(l) < n {
		low := s.below(len(v) - 1)
		high := low + 1 + s.below(len(v)-1-low)
		c := api.Contact{Pair: api.Pair{Low: v[low].Key, High: v[high].Key}, Normal: s.vector(one), Depth: 1 + s.from0(1<<23)}
		switch s.below(4) {
		case 0:
			c.Normal = normals()[s.below(len(normals()))]
		case 1:
			c.Normal.X = one
		case 2:
			l = append(l, c)
		}
		l = append(l, c)
	}
	return l[:n]
}

// eachScattered calls f with scattered views and their contacts, until the test fails.
func eachScattered(t *testing.T, f func(v []api.Body, l []api.Contact)) {
	t.Helper()
	s := source(17)
	for n := range 6000 {
		v := s.view(2 + n%9)
		l := s.contacts(v, s.below(14))
		if f(v, l); t.Failed() {
			return
		}
	}
}

func TestScattered(t *testing.T) {
	seen := map[[rounds]bool]int{}
	strong, limited := 0, 0
	eachScattered(t, func(v []api.Body, l []api.Contact) {
		flags := checkModel(t, v, l)
		seen[[rounds]bool(flags)]++
		after, changed := Round(v, l)
		if changed {
			limited++
		} else if !slices.Equal(after, v) {
			strong++
		}
	})
	// There are 16 ways in which rounds may have a limit.
	if strong < 500 || limited < 500 || len(seen) < 10 {
		t.Errorf("%d rounds changed velocities, %d had a limit, and there were limits in %v", strong, limited, seen)
	}
}

// TestFull has a view with all bodies that there may be, and many contacts.
func TestFull(t *testing.T) {
	s := source(4096)
	l := s.view(capacity)
	m := s.contacts(l, 40000)
	checkModel(t, l, m)
	var row []api.Contact
	for i, b := range l[1:] {
		row = append(row, meet(l[i].Key, b.Key, one, 0))
	}
	checkModel(t, l, row)
}

// TestGreatSums adds the greatest changes that there are many times, so that the sums need far more than 32 bits.
func TestGreatSums(t *testing.T) {
	const n = 1 << 18
	many := func(n int, low, high uint32, x, y int32) []api.Contact {
		return slices.Repeat(contacts(meet(low, high, x, y)), n)
	}
	still := func(key uint32) api.Body { return ball(key, massMax, 0, v(0, 0)) }
	left, right := wall(1, speedMax, speedMax), wall(3, -speedMax, -speedMax)
	for _, x := range []struct {
		name    string
		v       []api.Body
		l       []api.Contact
		sum     int64 // of the body 2, in both components
		vel     int32
		limited bool
	}{
		{"as High", bodies(left, ball(2, massMax, 0, v(-speedMax, -speedMax))), many(n, 1, 2, one, one), n << 27, speedMax, true},
		{"as Low", bodies(ball(2, massMax, 0, v(speedMax, speedMax)), right), many(n, 2, 3, one, one), -n << 27, -speedMax, true},
		{"as both, and more as High", bodies(left, still(2), right), append(many(n+1, 1, 2, one, one), many(n, 2, 3, one, one)...), 1 << 26, speedMax, true},
		{"as both, and more as Low", bodies(left, still(2), right), append(many(n, 1, 2, one, one), many(n+1, 2, 3, one, one)...), -1 << 26, -speedMax, true},
		{"as both, as often", bodies(left, still(2), right), append(many(n, 1, 2, one, one), many(n, 2, 3, one, one)...), 0, 0, false},
	} {
		t.Run(x.name, func(t *testing.T) {
			i, _ := view.Find(x.v, 2)
			want := make([]sum, len(x.v))
			want[i] = sum{x.sum, x.sum}
			checkSums(t, x.v, x.l, want)
			after := slices.Clone(x.v)
			after[i].Vel = v(x.vel, x.vel)
			checkRound(t, x.v, x.l, after, x.limited)
			if len(x.v) == 2 || !x.limited {
				checkSolve(t, x.v, x.l, after, x.limited)
			}
		})
	}
}

// P17.3

// TestOrder solves with contacts in all orders.
func TestOrder(t *testing.T) {
	s := source(3)
	l := s.view(4)
	orders := 0
	var permute func(fixed, rest []api.Contact, f func([]api.Contact))
	permute = func(fixed, rest []api.Contact, f func([]api.Contact)) {
		if len(rest) == 0 {
			orders++
			f(fixed)
		}
		for i, c := range rest {
			permute(append(slices.Clone(fixed), c), slices.Concat(rest[:i], rest[i+1:]), f)
		}
	}
	for range 20 {
		m := s.contacts(l, 5)
		round, limited := Round(l, m)
		solved, ever := Solve(l, m)
		all := modelSums(l, m)
		permute(nil, m, func(m []api.Contact) {
			checkSums(t, l, m, all)
			checkRound(t, l, m, round, limited)
			checkSolve(t, l, m, solved, ever)
		})
	}
	if orders != 20*120 {
		t.Errorf("there were %d orders", orders)
	}
}

// TestShuffled solves with many contacts in scattered orders.
func TestShuffled(t *testing.T) {
	s := source(8)
	l := s.view(300)
	m := s.contacts(l, 4000)
	x, y := Sums(l, m)
	round, limited := Round(l, m)
	solved, ever := Solve(l, m)
	for range 8 {
		for i := range m {
			j := i + s.below(len(m)-i)
			m[i], m[j] = m[j], m[i]
		}
		if x2, y2 := Sums(l, m); !slices.Equal(x, x2) || !slices.Equal(y, y2) {
			t.Errorf("the sums are %s, %s, want %s, %s", short(x2), short(y2), short(x), short(y))
		}
		checkRound(t, l, m, round, limited)
		checkSolve(t, l, m, solved, ever)
	}
}

// checkKept checks that bodies differ in nothing but the velocities of those that are not static.
func checkKept(t *testing.T, before, after []api.Body) {
	t.Helper()
	if len(before) != len(after) {
		t.Fatalf("%d bodies have become %d", len(before), len(after))
	}
	for i, b := range after {
		if b.InvMass != 0 {
			b.Vel = before[i].Vel
		}
		if b != before[i] {
			t.Errorf("%+v has become %+v", before[i], after[i])
		}
	}
}

func TestKept(t *testing.T) {
	static, moved := 0, 0
	eachScattered(t, func(v []api.Body, l []api.Contact) {
		x, y := Sums(v, l)
		round, _ := Round(v, l)
		solved, _ := Solve(v, l)
		checkKept(t, v, round)
		checkKept(t, v, solved)
		for i, b := range v {
			if b.InvMass != 0 {
				continue
			}
			static++
			if x[i] != 0 || y[i] != 0 {
				t.Errorf("the sum of the static body %+v is %d, %d", b, x[i], y[i])
			}
		}
		if !slices.Equal(v, solved) {
			moved++
		}
		if err := view.Check(round); err != api.OK {
			t.Errorf("the bodies are no view after a round: %d", err)
		}
		if err := view.Check(solved); err != api.OK {
			t.Errorf("the bodies are no view after solving: %d", err)
		}
	})
	if static < 3000 || moved < 3000 {
		t.Errorf("only %d bodies are static, and only %d views have changed", static, moved)
	}
}

// TestOtherParts changes the parts of bodies and contacts that have nothing to do with velocities.
func TestOtherParts(t *testing.T) {
	changed := 0
	eachScattered(t, func(v []api.Body, l []api.Contact) {
		others, deeper := slices.Clone(v), slices.Clone(l)
		for i := range others {
			others[i].Radius, others[i].Axis, others[i].Pos = 4096, api.Vec{}, api.Vec{X: int32(i), Y: -1 << 30}
		}
		for i := range deeper {
			deeper[i].Depth = 1 << 23
		}
		checkSums(t, others, deeper, modelSums(v, l))
		round, limited := Round(v, l)
		checkRound(t, others, deeper, with(others, velocitiesOf(round)), limited)
		solved, ever := Solve(v, l)
		checkSolve(t, others, deeper, with(others, velocitiesOf(solved)), ever)
		if !slices.Equal(v, solved) {
			changed++
		}
	})
	if changed < 3000 {
		t.Errorf("only %d views have changed", changed)
	}
}

// TestApart puts two views with their contacts together, which changes nothing for either of them.
func TestApart(t *testing.T) {
	s := source(2)
	for range 300 {
		l := s.view(8)
		var even, odd []api.Body
		for i, b := range l {
			if i%2 == 0 {
				even = append(even, b)
			} else {
				odd = append(odd, b)
			}
		}
		m, n := s.contacts(even, 6), s.contacts(odd, 6)
		first, limited := Solve(even, m)
		second, too := Solve(odd, n)
		together, _ := view.Sort(slices.Concat(first, second))
		checkSolve(t, l, slices.Concat(m, n), together, limited || too)
		first, limited = Round(even, m)
		together, _ = view.Sort(slices.Concat(first, odd))
		checkRound(t, l, m, together, limited)
	}
}

// P17.4

// scene returns a view with contacts that change all velocities, where the slices have capacity that is not used.
func scene() ([]api.Body, []api.Contact) {
	l := bodies(hard(1, speedMax, 3), soft(2, -speedMax, 4), hard(5, 0, -one), hard(6, 9, 9))
	m := contacts(meet(1, 2, one, 0), meet(2, 5, 0, -one), meet(1, 2, one, 0), meet(1, 5, one, 0))
	return l[:3], m[:3]
}

// TestArguments compares arguments, and the unused capacity of their slices, with copies afterwards.
func TestArguments(t *testing.T) {
	l, m := scene()
	if after, limited := Solve(l, m); slices.Equal(after, l) || !limited {
		t.Fatalf("nothing is changed: %v, %t", after, limited)
	}
	for n := range len(m) + 1 {
		Sums(l, m[:n])
		Round(l, m[:n])
		Solve(l, m[:n])
		Sums(l[:0], m[:0])
		Round(l[:0], m[:0])
		Solve(l[:0], m[:0])
	}
	want, contacts := scene()
	if got := l[:cap(l)]; !slices.Equal(got, want[:cap(want)]) {
		t.Errorf("the bodies have become %+v", got)
	}
	if got := m[:cap(m)]; !slices.Equal(got, contacts[:cap(contacts)]) {
		t.Errorf("the contacts have become %+v", got)
	}
}

// overwrite writes x to all elements of a slice, and to its unused capacity.
func overwrite[E any](l []E, x E) {
	l = l[:cap(l)]
	for i := range l {
		l[i] = x
	}
}

// TestResultsAreNew overwrites results, and asks again.
func TestResultsAreNew(t *testing.T) {
	l, m := scene()
	for n := range len(m) + 1 {
		m := m[:n]
		all := modelSums(l, m)
		round, limited := modelRound(l, m)
		solved, flags := modelSolve(l, m)
		for range 3 {
			checkSums(t, l, m, all)
			checkRound(t, l, m, round, limited)
			checkSolve(t, l, m, solved, slices.Contains(flags, true))
			x, y := Sums(l, m)
			after, _ := Round(l, m)
			end, _ := Solve(l, m)
			overwrite(x, 77)
			for i := range y {
				if y[i] != all[i].y {
					t.Errorf("the sums share memory: %v", y)
				}
			}
			overwrite(y, 78)
			overwrite(after, wall(79, 80, 81))
			overwrite(end, wall(82, 83, 84))
		}
	}
	want, _ := scene()
	if !slices.Equal(l, want) {
		t.Errorf("the bodies have become %+v", l)
	}
}

// TestResultsStay overwrites arguments, which must not change earlier results, and asks with the new ones.
func TestResultsStay(t *testing.T) {
	for n := range 4 {
		l, m := scene()
		m = m[:n]
		all := modelSums(l, m)
		wantRound, _ := modelRound(l, m)
		wantSolved, _ := modelSolve(l, m)
		x, y := Sums(l, m)
		round, _ := Round(l, m)
		solved, _ := Solve(l, m)
		overwrite(m, meet(1, 5, 0, one))
		for i := range l[:cap(l)] {
			l[:cap(l)][i].Vel = v(int32(i), int32(one-i*one))
		}
		checkModel(t, l, m)
		for i, s := range all {
			if x[i] != s.x || y[i] != s.y {
				t.Errorf("the sums have become %v, %v, want %v", x, y, all)
			}
		}
		if !slices.Equal(round, wantRound) || !slices.Equal(solved, wantSolved) {
			t.Errorf("the views have become %+v and %+v, want %+v and %+v", round, solved, wantRound, wantSolved)
		}
	}
}

// TestBeyond calls the functions with arguments for which nothing is promised, and only the rule holds that no function panics.
func TestBeyond(t *testing.T) {
	numbers := []int32{math.MinInt32, -one - 1, -1, 0, 1, massMax + 1, speedMax + 1, math.MaxInt32}
	var lists [][]api.Body
	for _, n := range numbers {
		for _, m := range numbers {
			lists = append(lists, bodies(ball(1, n, m, v(n, m)), ball(2, m, n, v(m, n)), ball(7, -n, -m, v(-m, n))))
			lists = append(lists, bodies(ball(2, one, m, v(n, n)), ball(1, m, n, v(m, m)), ball(1, n, n, v(n, -m))))
		}
	}
	lists = append(lists, nil, slices.Repeat(bodies(hard(1, one, one)), capacity+1))
	for _, l := range lists {
		for _, n := range numbers {
			m := contacts(meet(1, 2, n, n), meet(2, 1, n, -n), meet(1, 1, n, 0), meet(1, 7, 0, n), meet(0, 1, one, n), meet(2, greatest, n, one), meet(3, 4, n, n), api.Contact{})
			Sums(l, m)
			Round(l, m)
			Solve(l, m)
		}
	}
}
