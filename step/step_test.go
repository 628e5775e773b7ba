package step

import (
	"fmt"
	"math"
	"math/big"
	"slices"
	"testing"

	"billiard/api"
	"billiard/body"
	"billiard/contacts"
	"billiard/view"
)

// The limits and parameters of the chapters are written out, so that they are checked as well.
const (
	one       = 65536
	worldMax  = 1073741824
	speedMax  = 16777216
	radiusMin = 4096
	radiusMax = 4194304
	axisMax   = 4194304
	massMax   = 1048576
	capacity  = 4096
	gravity   = 1024
	slop      = 1024
	percent   = 26214
	rounds    = 4
	ticks     = 64
	greatest  = math.MaxUint32 // key
	apart     = 26009          // shift of each of two balls at the same place
)

func v(x, y int32) api.Vec { return api.Vec{X: x, Y: y} }

func bodies(l ...api.Body) []api.Body { return l }

// ball returns a circle with the radius 1, the mass 1 and the bounce 0.
func ball(key uint32, x, y, velX, velY int32) api.Body {
	return api.Body{Key: key, Radius: one, InvMass: one, Pos: v(x, y), Vel: v(velX, velY)}
}

// rod returns a ball that is a capsule.
func rod(key uint32, axisX, axisY, x, y, velX, velY int32) api.Body {
	b := ball(key, x, y, velX, velY)
	b.Axis = v(axisX, axisY)
	return b
}

// static returns a body without a mass.
func static(b api.Body) api.Body {
	b.InvMass = 0
	return b
}

// hard returns a body with the greatest bounce.
func hard(b api.Body) api.Body {
	b.Bounce = one
	return b
}

// light returns a body with the greatest inverse mass.
func light(b api.Body) api.Body {
	b.InvMass = massMax
	return b
}

// short returns a text for a message about bodies, of which there may be many.
func short(x any) string {
	text := fmt.Sprintf("%+v", x)
	return text[:min(len(text), 1500)]
}

// The model: the definitions of layers 5 and 12 to 20 in plain integers. It looks at all pairs of bodies, and has neither boxes nor a grid.

// floor returns the floor of n / d, for d > 0.
func floor(n, d int64) int64 {
	q := n / d
	if n%d < 0 {
		q--
	}
	return q
}

func between(from, to api.Vec) (dx, dy int64) {
	return int64(to.X) - int64(from.X), int64(to.Y) - int64(from.Y)
}

// A segment is the core of a body.
type segment struct{ p, q api.Vec }

func coreOf(b api.Body) segment {
	return segment{v(b.Pos.X-b.Axis.X, b.Pos.Y-b.Axis.Y), v(b.Pos.X+b.Axis.X, b.Pos.Y+b.Axis.Y)}
}

// nearest needs more than 64 bits for one product. The Euclidean division of math/big rounds down for positive divisors.
func (s segment) nearest(c api.Vec) api.Vec {
	dx, dy := between(s.p, s.q)
	cx, cy := between(s.p, c)
	d := dx*dx + dy*dy
	if d == 0 {
		return s.p
	}
	n := max(0, min(d, cx*dx+cy*dy))
	part := func(a int64) int32 {
		x := new(big.Int).Mul(big.NewInt(a), big.NewInt(n))
		return int32(x.Div(x, big.NewInt(d)).Int64())
	}
	return v(s.p.X+part(dx), s.p.Y+part(dy))
}

// A gap is the difference of two points, with its square.
type gap struct {
	dx, dy int64
	sq     uint64
}

func gapOf(from, to api.Vec) gap {
	dx, dy := between(from, to)
	return gap{dx, dy, uint64(dx*dx) + uint64(dy*dy)}
}

// chosen returns the difference of the chosen points of two cores.
func chosen(a, b segment) gap {
	best := gapOf(a.p, b.nearest(a.p))
	for _, g := range []gap{gapOf(a.q, b.nearest(a.q)), gapOf(a.nearest(b.p), b.p), gapOf(a.nearest(b.q), b.q)} {
		if g.sq < best.sq {
			best = g
		}
	}
	return best
}

// A touch is a contact of two bodies with indices in a view.
type touch struct {
	low, high int
	x, y      int64 // of the normal
	depth     int64
}

func modelTouches(l []api.Body) []touch {
	var all []touch
	for i, a := range l {
		for j := i + 1; j < len(l); j++ {
			sum := int64(a.Radius) + int64(l[j].Radius)
			g := chosen(coreOf(a), coreOf(l[j]))
			if g.sq >= uint64(sum*sum) {
				continue
			}
			x := touch{low: i, high: j, x: one, depth: sum}
			if g.sq > 0 {
				sq := new(big.Int).SetUint64(g.sq)
				length := sq.Sqrt(sq).Int64()
				x.x, x.y, x.depth = floor(g.dx*one, length), floor(g.dy*one, length), sum-length
			}
			all = append(all, x)
		}
	}
	return all
}

// A sum is the sum of the changes of velocity of a body, or its shift.
type sum struct{ x, y int64 }

// add adds the part k of the normal of a touch, with a sign.
func (s *sum) add(sign, k int64, x touch) {
	s.x += sign * floor(k*x.x, one)
	s.y += sign * floor(k*x.y, one)
}

func modelStrength(a, b api.Body, x touch) int64 {
	dx, dy := between(a.Vel, b.Vel)
	approach := floor(x.x*dx+x.y*dy, one)
	if approach >= 0 || a.InvMass == 0 && b.InvMass == 0 {
		return 0
	}
	return floor(-approach*(one+int64(max(a.Bounce, b.Bounce))), int64(a.InvMass)+int64(b.InvMass))
}

func modelChanges(l []api.Body, touches []touch) []sum {
	all := make([]sum, len(l))
	for _, x := range touches {
		a, b := l[x.low], l[x.high]
		j := modelStrength(a, b, x)
		all[x.low].add(-1, floor(j*int64(a.InvMass), one), x)
		all[x.high].add(1, floor(j*int64(b.InvMass), one), x)
	}
	return all
}

func modelShifts(l []api.Body, touches []touch) []sum {
	all := make([]sum, len(l))
	for _, x := range touches {
		low, high := int64(l[x.low].InvMass), int64(l[x.high].InvMass)
		if x.depth <= slop || low+high == 0 {
			continue
		}
		correction := floor((x.depth-slop)*percent, one)
		all[x.low].add(-1, floor(correction*low, low+high), x)
		all[x.high].add(1, floor(correction*high, low+high), x)
	}
	return all
}

// limited returns the sum of a vector and (x, y), and sets the flag if a limit changed it.
func limited(a api.Vec, x, y, limit int64, flag *bool) api.Vec {
	component := func(n int64) int32 {
		if n < -limit || n > limit {
			*flag = true
		}
		return int32(max(-limit, min(limit, n)))
	}
	return v(component(int64(a.X)+x), component(int64(a.Y)+y))
}

// A result is a view after a step of the model, with the number of contacts, and for each of the parts 2, 3 and 4 whether it reached a limit.
type result struct {
	after    []api.Body
	contacts int
	limits   [3]bool
}

func (r result) clamped() bool { return r.limits != [3]bool{} }

func modelStep(before []api.Body) result {
	touches := modelTouches(before)
	l := slices.Clone(before)
	r := result{after: l, contacts: len(touches)}
	for i, b := range l {
		if b.InvMass != 0 {
			l[i].Vel = limited(b.Vel, 0, -gravity, speedMax, &r.limits[0])
		}
	}
	for range rounds {
		for i, s := range modelChanges(l, touches) {
			l[i].Vel = limited(l[i].Vel, s.x, s.y, speedMax, &r.limits[1])
		}
	}
	for i, s := range modelShifts(l, touches) {
		x, y := floor(int64(l[i].Vel.X), ticks), floor(int64(l[i].Vel.Y), ticks)
		l[i].Pos = limited(l[i].Pos, s.x+x, s.y+y, worldMax, &r.limits[2])
	}
	return r
}

// comparisons returns the number of comparisons of layer 15.
func comparisons(l []api.Body) int {
	_, tests := contacts.All(l)
	return tests
}

// checkView ends the test if the bodies are no view.
func checkView(t *testing.T, l []api.Body) {
	t.Helper()
	if err := view.Check(l); err != api.OK {
		t.Fatalf("%s is no view: %d", short(l), err)
	}
}

// kept returns a body without the parts that a step may change.
func kept(b api.Body) api.Body {
	b.Pos, b.Vel = api.Vec{}, api.Vec{}
	return b
}

// checkStep checks a step, and the consequences that hold for all views.
func checkStep(t *testing.T, l, want []api.Body, contacts int, clamped bool) {
	t.Helper()
	checkView(t, l)
	got, s := Step(l)
	stats := api.Stats{Tests: comparisons(l), Contacts: contacts, Clamped: clamped}
	if !slices.Equal(got, want) || s != stats {
		t.Errorf("Step(%s) = %s, %+v, want %s, %+v", short(l), short(got), s, short(want), stats)
	}
	checkView(t, got)
	if n := len(l); s.Tests > n*(n-1)/2 || s.Tests < s.Contacts {
		t.Errorf("%d comparisons of %d bodies with %d contacts", s.Tests, n, s.Contacts)
	}
	same := func(a, b api.Body) bool { return kept(a) == kept(b) }
	if !slices.EqualFunc(l, got, same) {
		t.Errorf("the bodies %s have become %s", short(l), short(got))
	}
}

// checkModel compares a step with the model, and returns what the model has.
func checkModel(t *testing.T, l []api.Body) result {
	t.Helper()
	r := modelStep(l)
	checkStep(t, l, r.after, r.contacts, r.clamped())
	return r
}

func checkSteps(t *testing.T, l []api.Body, n int, want []api.Body, stats api.Stats) {
	t.Helper()
	if got, s := Steps(l, n); !slices.Equal(got, want) || s != stats {
		t.Errorf("Steps(%s, %d) = %s, %+v, want %s, %+v", short(l), n, short(got), s, short(want), stats)
	}
}

// modelSteps returns the view after n steps of the model, and the sums of their statistics.
func modelSteps(l []api.Body, n int) ([]api.Body, api.Stats) {
	var all api.Stats
	l = slices.Clone(l)
	for range n {
		r := modelStep(l)
		all = api.Stats{Tests: all.Tests + comparisons(l), Contacts: all.Contacts + r.contacts, Clamped: all.Clamped || r.clamped()}
		l = r.after
	}
	return l, all
}

func checkFree(t *testing.T, b, want api.Body) {
	t.Helper()
	if got := Free(b); got != want {
		t.Errorf("Free(%+v) = %+v, want %+v", b, got, want)
	}
}

// A scene is a view before and after a step, with the number of contacts.
type scene struct {
	name          string
	before, after []api.Body
	contacts      int
}

// checkScenes checks scenes in which no limit is reached.
func checkScenes(t *testing.T, scenes []scene) {
	t.Helper()
	for _, x := range scenes {
		t.Run(x.name, func(t *testing.T) {
			checkStep(t, x.before, x.after, x.contacts, false)
			checkModel(t, x.before)
		})
	}
}

// P20.1

// TestExample has the chapter's example alone.
func TestExample(t *testing.T) {
	b := api.Body{Radius: 1 << 16, InvMass: 1 << 16}
	want := b
	want.Pos, want.Vel = v(0, -16), v(0, -1024)
	checkStep(t, bodies(b), bodies(want), 0, false)
	checkFree(t, b, want)
}

func TestFew(t *testing.T) {
	checkScenes(t, []scene{
		{"nil", nil, nil, 0},
		{"no body", bodies(), bodies(), 0},
		{"one body", bodies(ball(7, 100, 200, 64, 1025)), bodies(ball(7, 101, 200, 64, 1)), 0},
		{"one body with a velocity that is rounded down", bodies(ball(0, 5, 5, -1, 1023)), bodies(ball(0, 4, 4, -1, -1)), 0},
		{"one capsule", bodies(hard(light(rod(greatest, 70000, -5, 9, 9, 0, 0)))), bodies(hard(light(rod(greatest, 70000, -5, 9, -7, 0, -1024)))), 0},
		{"one static body", bodies(static(ball(3, 9, 9, 0, 0))), bodies(static(ball(3, 9, 9, 0, 0))), 0},
		{"one static body with a velocity", bodies(static(ball(3, 9, 9, 128, -64))), bodies(static(ball(3, 11, 8, 128, -64))), 0},
		{"two that are apart",
			bodies(ball(1, 0, 0, 0, 0), ball(greatest, 1000000, 0, 64, 1024)),
			bodies(ball(1, 0, -16, 0, -1024), ball(greatest, 1000001, 0, 64, 0)), 0},
		{"two that just touch",
			bodies(ball(1, 0, 0, 0, 0), ball(2, 2*one-1, 0, 0, 0)),
			bodies(ball(1, 0, -16, 0, -1024), ball(2, 2*one-1, -16, 0, -1024)), 1},
		{"two whose boxes share an edge",
			bodies(ball(1, 0, 0, 64, 0), ball(2, 2*one, 0, -64, 0)),
			bodies(ball(1, 1, -16, 64, -1024), ball(2, 2*one-1, -16, -64, -1024)), 0},
		{"two whose boxes share an edge, one above the other one",
			bodies(ball(1, 0, 0, 0, -64), ball(2, 0, -2*one, 0, 64)),
			bodies(ball(1, 0, -17, 0, -1088), ball(2, 0, -2*one-15, 0, -960)), 0},
		{"two whose boxes share a corner",
			bodies(ball(1, 0, 0, 64, 0), ball(2, 2*one, 2*one, 0, 0)),
			bodies(ball(1, 1, -16, 64, -1024), ball(2, 2*one, 2*one-16, 0, -1024)), 0},
		{"two whose boxes overlap, but which do not touch",
			bodies(ball(1, 0, 0, 64, -64), ball(2, 100000, -100000, 0, 0)),
			bodies(ball(1, 1, -17, 64, -1088), ball(2, 100000, -100016, 0, -1024)), 0},
		{"capsules that cross each other, with ends far away",
			bodies(rod(1, 10*one, 0, 0, 0, 0, -64), rod(2, 0, 5*one, 0, 0, 0, 64)),
			bodies(rod(1, 10*one, 0, 0, -17, 0, -1088), rod(2, 0, 5*one, 0, -15, 0, -960)), 0},
		{"two at the same place",
			bodies(ball(3, 5, 5, 0, 1024), ball(4, 5, 5, 0, 1024)),
			bodies(ball(3, 5-apart, 5, 0, 0), ball(4, 5+apart, 5, 0, 0)), 1},
		{"three at the same place",
			bodies(ball(3, 5, 5, 0, 1024), ball(4, 5, 5, 0, 1024), ball(9, 5, 5, 0, 1024)),
			bodies(ball(3, 5-2*apart, 5, 0, 0), ball(4, 5, 5, 0, 0), ball(9, 5+2*apart, 5, 0, 0)), 3},
	})
}

func TestStatic(t *testing.T) {
	const high = 2*one - 1024 // above a static body, with a depth that is not corrected
	checkScenes(t, []scene{
		{"two static bodies", bodies(static(ball(1, 0, 0, 0, 0)), static(ball(2, 0, one, 0, 0))), bodies(static(ball(1, 0, 0, 0, 0)), static(ball(2, 0, one, 0, 0))), 1},
		{"static bodies that go through each other",
			bodies(static(ball(1, 0, 0, 64, 0)), static(ball(2, one, 0, -64, 0)), static(ball(3, 9, 9, 0, -1))),
			bodies(static(ball(1, 1, 0, 64, 0)), static(ball(2, one-1, 0, -64, 0)), static(ball(3, 9, 8, 0, -1))), 3},
		{"a static body beside another one that is apart",
			bodies(static(ball(1, 0, 0, 0, 0)), ball(2, 3*one, 0, 0, 0)),
			bodies(static(ball(1, 0, 0, 0, 0)), ball(2, 3*one, -16, 0, -1024)), 0},
		{"a ball that lies on a static one", bodies(static(ball(1, 0, 0, 0, 0)), ball(2, 0, high, 0, 0)), bodies(static(ball(1, 0, 0, 0, 0)), ball(2, 0, high, 0, 0)), 1},
		{"a ball that lies on a static one with a greater key", bodies(ball(1, 0, high, 0, 0), static(ball(2, 0, 0, 0, 0))), bodies(ball(1, 0, high, 0, 0), static(ball(2, 0, 0, 0, 0))), 1},
		{"balls on a floor",
			bodies(ball(1, -9*one, high, 0, 0), static(rod(2, 20*one, 0, 0, 0, 0, 0)), light(ball(3, 9*one, high, 0, 0))),
			bodies(ball(1, -9*one, high, 0, 0), static(rod(2, 20*one, 0, 0, 0, 0, 0)), light(ball(3, 9*one, high, 0, 0))), 2},
		{"a ball deep in a static one", bodies(static(ball(1, 0, 0, 0, 0)), ball(2, 0, one-1024, 0, 0)), bodies(static(ball(1, 0, 0, 0, 0)), ball(2, 0, one-1024+26214, 0, 0)), 1},
		{"a ball on a lift", bodies(static(ball(1, 0, 0, 0, 2048)), ball(2, 0, high, 0, 0)), bodies(static(ball(1, 0, 32, 0, 2048)), ball(2, 0, high+32, 0, 2048)), 1},
		{"a static body that is not stopped by a ball", bodies(static(ball(1, 0, 0, 64, 0)), ball(2, 2*one-1, 0, 0, 0)), bodies(static(ball(1, 1, 0, 64, 0)), ball(2, 2*one, -16, 64, -1024)), 1},
		{"a ball under a static body that it does not reach", bodies(static(ball(1, 0, 0, 0, 0)), ball(2, 0, -2*one, 0, 6400)), bodies(static(ball(1, 0, 0, 0, 0)), ball(2, 0, -2*one+84, 0, 5376)), 0},
	})
}

func TestMeeting(t *testing.T) {
	const beside = 2*one - 1
	checkScenes(t, []scene{
		{"balls that exchange their velocities",
			bodies(hard(ball(1, 0, 0, one, 1024)), hard(ball(2, beside, 0, -one, 1024))),
			bodies(hard(ball(1, -1024, 0, -one, 0)), hard(ball(2, beside+1024, 0, one, 0))), 1},
		{"balls that stop", bodies(ball(1, 0, 0, one, 1024), ball(2, beside, 0, -one, 1024)), bodies(ball(1, 0, 0, 0, 0), ball(2, beside, 0, 0, 0)), 1},
		{"balls in a row that lose half of their speed in each round",
			bodies(ball(1, 0, 0, one, 1024), ball(2, beside, 0, 0, 1024), ball(3, 2*beside, 0, -one, 1024)),
			bodies(ball(1, 64, 0, one/16, 0), ball(2, beside, 0, 0, 0), ball(3, 2*beside-64, 0, -one/16, 0)), 2},
		{"a ball that comes from above",
			bodies(hard(ball(1, 0, 0, 0, 1024)), ball(2, 0, beside, 64, 1024-one)),
			bodies(hard(ball(1, 0, -1024, 0, -one)), ball(2, 1, beside, 64, 0)), 1},
		{"balls that touch and go apart",
			bodies(hard(ball(1, 0, 0, -6400, 1024)), hard(ball(2, beside, 0, 6400, 1024))),
			bodies(hard(ball(1, -100, 0, -6400, 0)), hard(ball(2, beside+100, 0, 6400, 0))), 1},
	})
}

// TestOrder has views in which a step whose parts have another order has another result.
func TestOrder(t *testing.T) {
	const high = 2*one - 1024
	checkScenes(t, []scene{
		// Contacts and shifts of the view afterwards.
		{"balls that touch after they have moved only",
			bodies(hard(ball(1, 0, 0, one, 1024)), hard(ball(2, 2*one, 0, -one, 1024))),
			bodies(hard(ball(1, 1024, 0, one, 0)), hard(ball(2, 2*one-1024, 0, -one, 0))), 0},
		{"balls that are deep in each other after they have moved only",
			bodies(ball(1, 0, 0, speedMax/8, 1024), ball(2, 2*one, 0, -speedMax/8, 1024)),
			bodies(ball(1, one/2, 0, speedMax/8, 0), ball(2, 3*one/2, 0, -speedMax/8, 0)), 0},
		{"balls that touch before they have moved only",
			bodies(ball(1, 0, 0, -64, 1024), ball(2, 2*one-1, 0, 64, 1024)),
			bodies(ball(1, -1, 0, -64, 0), ball(2, 2*one, 0, 64, 0)), 1},
		{"balls that are deep in each other before they have moved only",
			bodies(ball(1, 5, 5, -speedMax, 1024), ball(2, 5, 5, speedMax, 1024)),
			bodies(ball(1, 5-4*one-apart, 5, -speedMax, 0), ball(2, 5+4*one+apart, 5, speedMax, 0)), 1},
		// Gravity after solving, or moving before solving.
		{"a ball that lies on a static one", bodies(static(ball(1, 0, 0, 0, 0)), ball(2, 0, high, 0, 0)), bodies(static(ball(1, 0, 0, 0, 0)), ball(2, 0, high, 0, 0)), 1},
		{"a ball that bounces off a static one", bodies(static(ball(1, 0, 0, 0, 0)), hard(ball(2, 0, high, 0, 0))), bodies(static(ball(1, 0, 0, 0, 0)), hard(ball(2, 0, high+16, 0, 1024))), 1},
		{"a ball that falls onto a static one", bodies(static(ball(1, 0, 0, 0, 0)), ball(2, 0, high, 0, -one)), bodies(static(ball(1, 0, 0, 0, 0)), ball(2, 0, high, 0, 0)), 1},
		// Moving before gravity.
		{"a ball that hovers", bodies(ball(1, 0, 0, 0, 1024)), bodies(ball(1, 0, 0, 0, 0)), 0},
	})
}

// TestFastFalls has velocities for which part 2 reaches a limit, meets it exactly, and does not reach it.
func TestFastFalls(t *testing.T) {
	for _, x := range []struct {
		before, after int32
		clamped       bool
	}{
		{1025 - speedMax, 1 - speedMax, false}, {1024 - speedMax, -speedMax, false}, {1023 - speedMax, -speedMax, true}, {1 - speedMax, -speedMax, true}, {-speedMax, -speedMax, true},
		{speedMax, speedMax - 1024, false}, {1025, 1, false}, {0, -1024, false},
	} {
		for _, across := range []int32{0, speedMax, -speedMax} {
			down := int32(floor(int64(x.after), ticks))
			before, after := ball(2, 0, 0, across, x.before), ball(2, across/ticks, down, across, x.after)
			checkStep(t, bodies(before), bodies(after), 0, x.clamped)
			checkFree(t, before, after)
			// Another body, which is apart.
			checkStep(t, bodies(static(ball(1, 9*one, 9*one, 0, 0)), before, ball(3, 9*one, 0, 0, 0)), bodies(static(ball(1, 9*one, 9*one, 0, 0)), after, ball(3, 9*one, -16, 0, -1024)), 0, x.clamped)
			// A static body does not fall.
			moved := static(ball(2, across/ticks, int32(floor(int64(x.before), ticks)), across, x.before))
			checkStep(t, bodies(static(before)), bodies(moved), 0, false)
			checkFree(t, static(before), moved)
		}
	}
}

// TestFastBounces has velocities for which part 3 reaches a limit, meets it exactly, and does not reach it: a wall meets a ball.
func TestFastBounces(t *testing.T) {
	const beside, half = 2*one - 1, speedMax / 2
	step := func(vel int32) int32 { return int32(floor(int64(vel), ticks)) }
	for _, x := range []struct {
		wall, ball, after int32
		clamped           bool
	}{
		{half - 1, 0, speedMax - 2, false}, {half, 1, speedMax - 1, false}, {half, 0, speedMax, false}, {half, -1, speedMax, true}, {half + 1, 0, speedMax, true},
		{half + 1, 3, speedMax - 1, false}, {half + 1, 2, speedMax, false}, {half + 1, 1, speedMax, true},
		{speedMax, 0, speedMax, true}, {speedMax, speedMax, speedMax, false}, {speedMax, speedMax - 1, speedMax, true}, {half, half, half, false},
		{0, -speedMax, speedMax, false}, {0, 1 - speedMax, speedMax - 1, false}, {1, -speedMax, speedMax, true}, {-1, -speedMax, speedMax - 2, false}, {1, 1 - speedMax, speedMax, true}, {1, 2 - speedMax, speedMax, false},
	} {
		// The wall is to the left, to the right, and below.
		checkStep(t,
			bodies(static(hard(ball(1, 0, 0, x.wall, 0))), ball(2, beside, 0, x.ball, 1024)),
			bodies(static(hard(ball(1, step(x.wall), 0, x.wall, 0))), ball(2, beside+step(x.after), 0, x.after, 0)), 1, x.clamped)
		checkStep(t,
			bodies(ball(1, -beside, 0, -x.ball, 1024), static(hard(ball(2, 0, 0, -x.wall, 0)))),
			bodies(ball(1, -beside+step(-x.after), 0, -x.after, 0), static(hard(ball(2, step(-x.wall), 0, -x.wall, 0)))), 1, x.clamped)
		if x.ball <= speedMax-1024 {
			checkStep(t,
				bodies(static(hard(ball(1, 0, 0, 0, x.wall))), ball(2, 0, beside, 0, x.ball+1024)),
				bodies(static(hard(ball(1, 0, step(x.wall), 0, x.wall))), ball(2, 0, beside+step(x.after), 0, x.after)), 1, x.clamped)
		}
	}
}

// TestEdges has positions for which part 4 reaches a limit, meets it exactly, and does not reach it. The velocities are those after gravity.
func TestEdges(t *testing.T) {
	const w = worldMax
	for _, x := range []struct {
		pos, vel, after int32
		clamped         bool
	}{
		{w, 0, w, false}, {w, 63, w, false}, {w, 64, w, true}, {w, 65, w, true}, {w, -1, w - 1, false}, {w, -64, w - 1, false},
		{w - 1, 63, w - 1, false}, {w - 1, 64, w, false}, {w - 1, 127, w, false}, {w - 1, 128, w, true}, {w - 2, 64, w - 1, false},
		{w - 16, 1024, w, false}, {w - 15, 1024, w, true}, {w - 17, 1024, w - 1, false}, {w - 262144, 16776192, w - 16, false}, {w - 262128, 16776192, w, false}, {w - 262127, 16776192, w, true},
		{-w, 0, -w, false}, {-w, 63, -w, false}, {-w, -1, -w, true}, {-w, -64, -w, true}, {-w, 64, 1 - w, false},
		{1 - w, -1, -w, false}, {1 - w, -64, -w, false}, {1 - w, -65, -w, true}, {2 - w, -1, 1 - w, false},
		{16 - w, -1024, -w, false}, {15 - w, -1024, -w, true}, {17 - w, -1024, 1 - w, false}, {262144 - w, -speedMax + 1024, 16 - w, false}, {262128 - w, 1024 - speedMax, -w, false}, {262127 - w, 1024 - speedMax, -w, true},
		{0, 1, 0, false},
	} {
		for _, still := range []int32{0, w, -w} {
			for _, l := range [][2]api.Body{
				{ball(5, x.pos, still, x.vel, 1024), ball(5, x.after, still, x.vel, 0)},
				{ball(5, still, x.pos, 0, x.vel+1024), ball(5, still, x.after, 0, x.vel)},
				{static(rod(5, -axisMax, axisMax, x.pos, still, x.vel, 0)), static(rod(5, -axisMax, axisMax, x.after, still, x.vel, 0))},
				{static(rod(5, -axisMax, axisMax, still, x.pos, 0, x.vel)), static(rod(5, -axisMax, axisMax, still, x.after, 0, x.vel))},
			} {
				checkStep(t, bodies(l[0]), bodies(l[1]), 0, x.clamped)
				checkFree(t, l[0], l[1])
				near := static(ball(2, w-99*one, 99*one-w, 0, 0))
				checkStep(t, bodies(near, l[0]), bodies(near, l[1]), 0, x.clamped)
			}
		}
	}
}

// TestPushedToTheEdge has shifts that reach the ends of the world, also together with velocities: two balls at the same place, the second one of which is pushed to the right.
func TestPushedToTheEdge(t *testing.T) {
	const w = worldMax
	for _, x := range []struct {
		pos, vel    int32
		left, right int32
		clamped     bool
	}{
		{w, 0, w - apart, w, true}, {w - apart, 0, w - 2*apart, w, false}, {w - apart + 1, 0, w - 2*apart + 1, w, true}, {w - apart - 1, 0, w - 2*apart - 1, w - 1, false},
		{-w, 0, -w, apart - w, true}, {apart - w, 0, -w, 2*apart - w, false}, {apart - w - 1, 0, -w, 2*apart - w - 1, true}, {apart - w + 1, 0, 1 - w, 2*apart - w + 1, false},
		// Velocities that undo the shift, or do not quite.
		{w, -ticks * apart, w - 2*apart, w, false}, {w, ticks - ticks*apart, w - 2*apart + 1, w, true}, {w, -ticks * (apart + 1), w - 2*apart - 1, w - 1, false},
		{-w, ticks * apart, -w, 2*apart - w, false}, {-w, ticks*apart - 1, -w, 2*apart - w - 1, true}, {-w, ticks * (apart + 1), 1 - w, 2*apart - w + 1, false},
		{w - apart, ticks, w - 2*apart + 1, w, true}, {w - apart, 63, w - 2*apart, w, false}, {apart - w, -1, -w, 2*apart - w - 1, true},
		{w - apart + 1, -1, w - 2*apart, w, false},
	} {
		for _, still := range []int32{w, 0, -w} {
			checkStep(t,
				bodies(ball(3, x.pos, still, x.vel, 1024), ball(4, x.pos, still, x.vel, 1024)),
				bodies(ball(3, x.left, still, x.vel, 0), ball(4, x.right, still, x.vel, 0)), 1, x.clamped)
		}
	}
	// Upwards, by a static body.
	for _, x := range []struct {
		pos, after int32
		clamped    bool
	}{{w - 26214, w, false}, {w - 26213, w, true}, {w - 26215, w - 1, false}, {w, w, true}} {
		wall := static(ball(1, 7, x.pos-one+1024, 0, 0))
		checkStep(t, bodies(wall, ball(2, 7, x.pos, 0, 0)), bodies(wall, ball(2, 7, x.after, 0, 0)), 1, x.clamped)
	}
}

// TestSteps has the positions of a ball after steps.
func TestSteps(t *testing.T) {
	for _, x := range []struct {
		n      int
		y, vel int32
	}{
		{0, 0, 0}, {-1, 0, 0}, {-2, 0, 0}, {math.MinInt32, 0, 0}, {math.MinInt, 0, 0},
		{1, -16, -1024}, {2, -48, -2048}, {3, -96, -3072}, {4, -160, -4096}, {5, -240, -5120}, {10, -880, -10240}, {100, -80800, -102400},
	} {
		checkSteps(t, bodies(ball(1, 0, 0, 0, 0)), x.n, bodies(ball(1, 0, x.y, 0, x.vel)), api.Stats{})
		still := bodies(static(ball(1, 0, 0, 0, 0)), ball(2, 0, 2*one-1024, 0, 0))
		checkSteps(t, still, x.n, still, api.Stats{Tests: max(0, x.n), Contacts: max(0, x.n)})
		checkSteps(t, nil, x.n, nil, api.Stats{})
		checkSteps(t, bodies(), x.n, bodies(), api.Stats{})
		// A failure for a small number of steps would last for a great one.
		if t.Failed() {
			return
		}
	}
}

// TestSumsOfSteps has views whose contacts differ from step to step.
func TestSumsOfSteps(t *testing.T) {
	flying := bodies(ball(1, 0, 0, -2*one, 0), ball(2, 2*one-1, 0, 2*one, 0))
	meeting := bodies(ball(1, 0, 0, one, 0), ball(2, 2*one+5000, 0, -one, 0))
	for n, x := range []struct{ flying, meeting int }{{0, 0}, {1, 0}, {1, 0}, {1, 0}, {1, 1}, {1, 2}, {1, 3}} {
		_, a := Steps(flying, n)
		_, b := Steps(meeting, n)
		if a.Contacts != x.flying || b.Contacts != x.meeting {
			t.Errorf("after %d steps, there were %d and %d contacts, want %d and %d", n, a.Contacts, b.Contacts, x.flying, x.meeting)
		}
	}
}

// TestClampedInSomeSteps has bodies of which only some of the first six steps reach a limit.
func TestClampedInSomeSteps(t *testing.T) {
	for _, x := range []struct {
		name  string
		b     api.Body
		steps []int
	}{
		{"none", ball(1, 0, worldMax-50-33-17-1, 0, 4160-1), nil},
		{"none of a static body", static(ball(1, 0, 0, 0, -speedMax)), nil},
		{"the first one, at the upper edge", ball(1, 0, worldMax, 0, 1088), []int{1}},
		{"the second one, at the upper edge", ball(1, 0, worldMax-17, 0, 2112), []int{2}},
		{"the third one, at the upper edge", ball(1, 0, worldMax-33-17, 0, 3136), []int{3}},
		{"the first three", ball(1, 0, worldMax, 0, 3136), []int{1, 2, 3}},
		{"all from the first one, by gravity", ball(1, 0, worldMax, 0, 1023-speedMax), []int{1, 2, 3, 4, 5, 6}},
		{"all from the third one, by gravity", ball(1, 0, worldMax, 0, 2048-speedMax), []int{3, 4, 5, 6}},
		{"all from the fourth one, at the lower edge", ball(1, 6, 96-worldMax, 0, 0), []int{4, 5, 6}},
		{"the last one, at the right edge", ball(1, worldMax-5, 0, 64, 0), []int{6}},
	} {
		t.Run(x.name, func(t *testing.T) {
			l, ever := bodies(x.b), false
			for n := 1; n <= 6; n++ {
				r := checkModel(t, l)
				if r.clamped() != slices.Contains(x.steps, n) {
					t.Errorf("the model has %+v for the step %d", r, n)
				}
				l, ever = r.after, ever || r.clamped()
				checkSteps(t, bodies(x.b), n, l, api.Stats{Clamped: ever})
			}
		})
	}
}

// A source returns scattered numbers, the same ones in each run.
type source uint64

func (s *source) next() uint64 {
	*s = *s*6364136223846793005 + 1442695040888963407
	return uint64(*s) >> 17
}

// below returns a number from 0 to n - 1.
func (s *source) below(n int64) int64 { return int64(s.next() % uint64(n)) }

// upTo returns a number from -limit to limit.
func (s *source) upTo(limit int64) int32 { return int32(s.below(2*limit+1) - limit) }

func (s *source) vector(limit int64) api.Vec { return v(s.upTo(limit), s.upTo(limit)) }

// A game is what the bodies of a scattered view have in common.
type game struct {
	center       api.Vec
	size         int64 // greatest distance from the center
	radius, axis int64 // greatest ones
	speed        int64 // greatest one
}

// game returns a game in the middle of the world, in a corner of it, or anywhere, with short or long velocities.
func (s *source) game() game {
	g := game{size: one << s.below(5), radius: one << s.below(4), axis: one << s.below(4), speed: 1 << s.below(25)}
	corner := []int32{-worldMax, worldMax}
	switch s.below(3) {
	case 0:
		g.center = v(corner[s.below(2)], corner[s.below(2)])
	case 1:
		g.center = s.vector(worldMax)
	}
	if s.below(9) == 0 {
		g.radius, g.axis, g.size = radiusMax, axisMax, 4*radiusMax
	}
	return g
}

// body returns a body of a game. It may be at the same place as another one, or beside it so that both boxes share an edge.
func (s *source) body(g game, key uint32, other api.Body) api.Body {
	b := api.Body{Key: key, Radius: int32(radiusMin + s.below(g.radius-radiusMin+1)), InvMass: int32(s.below(massMax + 1)), Bounce: int32(s.below(one + 1))}
	if s.below(2) == 0 {
		b.Axis = s.vector(g.axis)
	}
	if s.below(3) == 0 {
		b.InvMass, b.Bounce = one*int32(s.below(2)), one*int32(s.below(2))
	}
	var ignored bool
	b.Pos = limited(g.center, int64(s.upTo(g.size)), int64(s.upTo(g.size)), worldMax, &ignored)
	b.Vel = s.vector(g.speed)
	switch s.below(12) {
	case 0:
		b.Pos = other.Pos
	case 1:
		x, y := reach(b)
		toX, toY := reach(other)
		b.Pos = limited(other.Pos, x+toX, s.below(y+toY), worldMax, &ignored)
	case 2:
		b.Vel.Y = int32(s.below(3*gravity) - speedMax)
	}
	return b
}

// view returns a view of n bodies of a game.
func (s *source) view(g game, n int) []api.Body {
	var l []api.Body
	other := ball(0, g.center.X, g.center.Y, 0, 0)
	key := uint32(s.below(3))
	for range n {
		other = s.body(g, key, other)
		l = append(l, other)
		key += uint32(1 + s.below(1000000))
	}
	return l
}

// reach returns how far the box of a body reaches from its position.
func reach(b api.Body) (x, y int64) {
	x, y = int64(b.Axis.X), int64(b.Axis.Y)
	return int64(b.Radius) + max(x, -x), int64(b.Radius) + max(y, -y)
}

// overlap reports whether the boxes of two bodies overlap.
func overlap(a, b api.Body) bool {
	dx, dy := between(a.Pos, b.Pos)
	ax, ay := reach(a)
	bx, by := reach(b)
	return max(dx, -dx) <= ax+bx && max(dy, -dy) <= ay+by
}

// overlaps returns the number of pairs of bodies whose boxes overlap.
func overlaps(l []api.Body) int {
	n := 0
	for i, a := range l {
		for _, b := range l[i+1:] {
			if overlap(a, b) {
				n++
			}
		}
	}
	return n
}

// eachScattered calls f with scattered views, until the test fails.
func eachScattered(t *testing.T, f func(l []api.Body)) {
	t.Helper()
	s := source(20)
	for n := range int64(3000) {
		l := s.view(s.game(), int(n%12))
		if f(l); t.Failed() {
			return
		}
	}
}

// TestScattered compares steps with the model. All parts reach limits, alone and together, and no part does.
func TestScattered(t *testing.T) {
	limits := map[[3]bool]int{}
	touches, others, stopped := 0, 0, 0
	eachScattered(t, func(l []api.Body) {
		r := checkModel(t, l)
		limits[r.limits]++
		touches += r.contacts
		others += overlaps(l) - r.contacts
		for i, b := range r.after {
			if free := modelStep(l[i : i+1]).after[0]; b.Vel != free.Vel && b.Pos != free.Pos {
				stopped++
			}
		}
		if s := comparisons(l); s < overlaps(l) {
			t.Errorf("%d comparisons for %d boxes that overlap", s, overlaps(l))
		}
	})
	least := math.MaxInt
	for _, n := range limits {
		least = min(least, n)
	}
	if len(limits) != 8 || least < 20 || touches < 5000 || others < 1000 || stopped < 3000 {
		t.Errorf("the limits are %v, and there are %d contacts, %d other pairs and %d bodies with other velocities", limits, touches, others, stopped)
	}
}

// TestScatteredSteps compares several steps with the model.
func TestScatteredSteps(t *testing.T) {
	s := source(5)
	first, later := 0, 0
	for n := range 600 {
		l := s.view(s.game(), 1+n%9)
		end, all := modelSteps(l, n%14)
		checkSteps(t, l, n%14, end, all)
		_, once := modelSteps(l, 1)
		if once.Clamped {
			first++
		} else if all.Clamped {
			later++
		}
	}
	if first < 10 || later < 10 {
		t.Errorf("a limit was reached in the first step by %d views, and later by %d", first, later)
	}
}

// TestStepsOfSteps makes steps one by one, and in two parts.
func TestStepsOfSteps(t *testing.T) {
	s := source(6)
	plus := func(a, b api.Stats) api.Stats {
		return api.Stats{Tests: a.Tests + b.Tests, Contacts: a.Contacts + b.Contacts, Clamped: a.Clamped || b.Clamped}
	}
	for n := range 60 {
		l := s.view(s.game(), 2+n%9)
		after, all := l, api.Stats{}
		for i := range 12 {
			checkSteps(t, l, i, after, all)
			checkSteps(t, l, -i, l, api.Stats{})
			rest, more := Steps(after, 12-i)
			checkSteps(t, l, 12, rest, plus(all, more))
			next, stats := Step(after)
			after, all = next, plus(all, stats)
		}
	}
}

// lattice returns as many bodies as a view can have, in 64 rows with a distance: some of them are static, and some are capsules.
func lattice(distance int32) []api.Body {
	s := source(4096)
	var l []api.Body
	for i := range int32(capacity) {
		b := ball(uint32(i)*1048577, (i%64-32)*distance, (i/64-32)*distance, s.upTo(speedMax), s.upTo(speedMax))
		b.InvMass, b.Bounce = int32(s.below(massMax)), int32(s.below(one))
		switch i % 50 {
		case 7:
			b.Axis = v(one, -one/2)
		case 8:
			b = static(b)
		}
		l = append(l, b)
	}
	return l
}

// TestFull has views with all bodies that there may be: each body touches some others, or none does.
func TestFull(t *testing.T) {
	if r := checkModel(t, lattice(100000)); r.contacts < 2*63*64 {
		t.Errorf("there are %d contacts", r.contacts)
	}
	l := lattice(9 * one)
	r := checkModel(t, l)
	if r.contacts != 0 {
		t.Errorf("there are %d contacts", r.contacts)
	}
	for i, b := range l {
		checkFree(t, b, r.after[i])
	}
}

// TestCrowd has many bodies at one place, all of which touch each other.
func TestCrowd(t *testing.T) {
	l := lattice(0)[:400]
	if r := checkModel(t, l); r.contacts != 400*399/2 {
		t.Errorf("there are %d contacts", r.contacts)
	}
	want, stats := modelSteps(l, 3)
	checkSteps(t, l, 3, want, stats)
}

// P20.2

// TestFree compares free bodies with steps of views in which nothing touches them.
func TestFree(t *testing.T) {
	clamped, still := 0, 0
	eachScattered(t, func(l []api.Body) {
		for _, b := range l {
			r := modelStep(bodies(b))
			checkFree(t, b, r.after[0])
			checkStep(t, bodies(b), r.after, 0, r.clamped())
			if r.clamped() {
				clamped++
			}
			if body.IsStatic(b) {
				still++
			}
		}
	})
	if clamped < 1000 || still < 1000 {
		t.Errorf("%d bodies reach a limit, and %d are static", clamped, still)
	}
}

// P20.3

// lonely returns the indices of the bodies whose boxes overlap no other one.
func lonely(l []api.Body) []int {
	var all []int
	for i, b := range l {
		if !slices.ContainsFunc(l, func(other api.Body) bool { return other.Key != b.Key && overlap(b, other) }) {
			all = append(all, i)
		}
	}
	return all
}

// TestLonely takes bodies away whose boxes overlap no other one.
func TestLonely(t *testing.T) {
	taken, beside := 0, 0
	eachScattered(t, func(l []api.Body) {
		after, stats := Step(l)
		for _, i := range lonely(l) {
			if alone := Free(l[i]); after[i] != alone {
				t.Errorf("%+v has become %+v, want %+v", l[i], after[i], alone)
			}
			_, alone := Step(l[i : i+1])
			others, rest := Step(slices.Delete(slices.Clone(l), i, i+1))
			if want := slices.Delete(slices.Clone(after), i, i+1); !slices.Equal(others, want) {
				t.Errorf("the others have become %+v, want %+v", others, want)
			}
			if rest.Contacts != stats.Contacts || rest.Tests > stats.Tests || stats.Clamped != (rest.Clamped || alone.Clamped) {
				t.Errorf("the statistics are %+v, and without a body %+v", stats, rest)
			}
			taken++
			if rest.Contacts > 0 {
				beside++
			}
		}
	})
	if taken < 1000 || beside < 300 {
		t.Errorf("%d bodies were taken away, %d of them from others that touch", taken, beside)
	}
}

// moved returns a view with all bodies moved by a vector, and whether it is one.
func moved(l []api.Body, by api.Vec) ([]api.Body, bool) {
	var all []api.Body
	left := false
	for _, b := range l {
		b.Pos = limited(b.Pos, int64(by.X), int64(by.Y), worldMax, &left)
		all = append(all, b)
	}
	return all, !left
}

// TestMoved moves views before and after steps, over the edges of cells and to the edges of the world.
func TestMoved(t *testing.T) {
	s := source(7)
	same, touches := 0, 0
	for n := range 1500 {
		g := s.game()
		g.speed = 1 << s.below(22)
		l := s.view(g, 2+n%7)
		after, stats := Step(l)
		var reached bool
		for _, by := range []api.Vec{
			v(1, -1), v(one, one), v(-4194304, 4194304), s.vector(10000000), s.vector(worldMax), v(-g.center.X, -g.center.Y),
			limited(s.vector(5*one), int64(worldMax-g.center.X), int64(-worldMax-g.center.Y), worldMax, &reached),
		} {
			to, ok := moved(l, by)
			want, inside := moved(after, by)
			if !ok || !inside || stats.Clamped {
				continue
			}
			got, there := Step(to)
			if there.Clamped || there.Contacts != stats.Contacts || !slices.Equal(got, want) {
				t.Errorf("Step(%s) = %s, %+v, want %s, and %d contacts", short(to), short(got), there, short(want), stats.Contacts)
			}
			same++
			touches += stats.Contacts
		}
	}
	if same < 1000 || touches < 1000 {
		t.Errorf("%d views were moved, with %d contacts", same, touches)
	}
}

// TestMovedBack has bodies that reach a limit where they are moved to, so that steps and moves may not be exchanged.
func TestMovedBack(t *testing.T) {
	l, _ := moved(bodies(ball(1, 0, 0, 64, 1024)), v(worldMax, 0))
	checkStep(t, l, bodies(ball(1, worldMax, 0, 64, 0)), 0, true)
}

// P20.4

// table returns a view in which all parts of a step change bodies, as a slice with capacity that is not used.
func table() []api.Body {
	l := bodies(static(ball(1, 0, 0, 64, 0)), hard(ball(2, 0, one, 5, -one)), light(rod(5, 3*one, one, one, 0, 7, 9)), ball(9, worldMax, 0, 640, -speedMax), ball(10, 1, 1, 1, 1), ball(11, 0, 0, 0, 0))
	return l[:4]
}

// TestArguments compares arguments, and the unused capacity of their slices, with copies afterwards.
func TestArguments(t *testing.T) {
	l := table()
	if r := modelStep(l); r.contacts != 3 || !r.clamped() {
		t.Fatalf("the model has %+v", r)
	}
	for n := range len(l) + 1 {
		Step(l[:n])
		for _, steps := range []int{-1, 0, 1, 3} {
			Steps(l[:n], steps)
		}
	}
	want := table()
	if got := l[:cap(l)]; !slices.Equal(got, want[:cap(want)]) {
		t.Errorf("the bodies have become %+v", got)
	}
}

// overwrite writes bodies to all elements of a slice, and to its unused capacity.
func overwrite(l []api.Body) {
	l = l[:cap(l)]
	for i := range l {
		l[i] = ball(77, int32(i), 78, 79, 80)
	}
}

// TestResultsAreNew overwrites results, and asks again.
func TestResultsAreNew(t *testing.T) {
	for n := range len(table()) + 1 {
		l := table()[:n]
		for range 3 {
			checkModel(t, l)
			got, _ := Step(l)
			overwrite(got)
			for _, steps := range []int{math.MinInt, -1, 0, 1, 2, 3} {
				want, stats := modelSteps(l, steps)
				checkSteps(t, l, steps, want, stats)
				got, _ := Steps(l, steps)
				overwrite(got)
			}
		}
		if want := table(); !slices.Equal(l, want[:n]) {
			t.Errorf("the bodies have become %+v", l)
		}
	}
}

// TestResultsStay overwrites arguments and later results, which must not change earlier results.
func TestResultsStay(t *testing.T) {
	for _, steps := range []int{-1, 0, 1, 2, 3} {
		l := table()
		want := modelStep(l).after
		end, _ := modelSteps(l, steps)
		got, _ := Step(l)
		after, _ := Steps(l, steps)
		again, _ := Steps(l, steps)
		overwrite(again)
		overwrite(l)
		for _, other := range [][]api.Body{lattice(100000)[:50], got, after} {
			checkModel(t, other)
			Steps(other, steps)
		}
		if !slices.Equal(got, want) || !slices.Equal(after, end) {
			t.Errorf("the views have become %+v and %+v, want %+v and %+v", got, after, want, end)
		}
	}
}

// TestBeyond calls the functions with arguments for which nothing is promised, and only the rule holds that no function panics.
func TestBeyond(t *testing.T) {
	numbers := []int32{math.MinInt32, -one - 1, -1, 0, 1, massMax + 1, speedMax + 1, worldMax + 1, math.MaxInt32}
	lists := [][]api.Body{bodies(api.Body{}, api.Body{}), slices.Repeat(bodies(ball(1, 1, 1, 1, 1)), capacity/16)}
	for _, n := range numbers {
		for _, m := range numbers {
			odd := api.Body{Key: 2, Radius: n, Axis: v(m, n), InvMass: m, Bounce: n, Pos: v(n, m), Vel: v(m, n)}
			fast := api.Body{Key: 2, Radius: one, InvMass: n, Bounce: m, Pos: v(1, 1), Vel: v(m, n)}
			lists = append(lists, bodies(odd), bodies(odd, ball(1, n, m, n, m)), bodies(fast, odd, fast, ball(3, 1, 2, n, m)), bodies(ball(9, 0, 0, 0, 0), fast))
		}
	}
	for _, l := range lists {
		Step(l)
		Steps(l, 2)
		for _, b := range l {
			Free(b)
		}
	}
}
