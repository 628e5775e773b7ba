package correct

import (
	"fmt"
	"math"
	"slices"
	"testing"

	"billiard/api"
	"billiard/view"
)

// The limits of the chapters are written out, so that they are checked as well.
const (
	one      = 65536
	slop     = 1024
	percent  = 26214
	massMax  = 1048576
	depthMax = 16777216
	capacity = 4096
	deep     = slop + one     // with the correction 26214
	fair     = slop + 501     // with the correction 200
	slight   = slop + 3       // with the correction 1
	most     = 6710374        // correction of the greatest depth
	greatest = math.MaxUint32 // key
)

func v(x, y int32) api.Vec { return api.Vec{X: x, Y: y} }

func ball(key uint32, invMass int32) api.Body {
	return api.Body{Key: key, Radius: one, InvMass: invMass}
}

// unit returns a circle with the mass 1.
func unit(key uint32) api.Body { return ball(key, one) }

// wall returns a static body.
func wall(key uint32) api.Body { return ball(key, 0) }

// meet returns a contact of two keys with a normal and a depth.
func meet(low, high uint32, x, y, depth int32) api.Contact {
	return api.Contact{Pair: api.Pair{Low: low, High: high}, Normal: v(x, y), Depth: depth}
}

func bodies(l ...api.Body) []api.Body { return l }

func contacts(l ...api.Contact) []api.Contact { return l }

func by(x, y int64) Shift { return Shift{X: x, Y: y} }

func shifts(l ...Shift) []Shift { return l }

// The model: the definitions of the chapter in plain integers. The product of a correction, which is less than 2^23, and the greatest inverse mass is less than 2^43, and no other product is greater, so that all numbers are exact in 64 bits.

// floor returns the floor of n / d, for d > 0.
func floor(n, d int64) int64 {
	q := n / d
	if n%d < 0 {
		q--
	}
	return q
}

func modelAmount(c api.Contact, a, b api.Body) int64 {
	if c.Depth <= slop || a.InvMass == 0 && b.InvMass == 0 {
		return 0
	}
	return floor((int64(c.Depth)-slop)*percent, one)
}

// modelShare returns the share of the first body.
func modelShare(c api.Contact, a, b api.Body) int64 {
	n := modelAmount(c, a, b)
	if n == 0 {
		return 0
	}
	return floor(n*int64(a.InvMass), int64(a.InvMass)+int64(b.InvMass))
}

func modelVector(share int64, n api.Vec) Shift {
	return by(floor(share*int64(n.X), one), floor(share*int64(n.Y), one))
}

// modelShifts keeps the shifts in a map from keys.
func modelShifts(v []api.Body, l []api.Contact) []Shift {
	byKey := map[uint32]api.Body{}
	for _, b := range v {
		byKey[b.Key] = b
	}
	of := map[uint32]Shift{}
	for _, c := range l {
		a, b := byKey[c.Pair.Low], byKey[c.Pair.High]
		low, high := modelVector(modelShare(c, a, b), c.Normal), modelVector(modelShare(c, b, a), c.Normal)
		of[a.Key] = by(of[a.Key].X-low.X, of[a.Key].Y-low.Y)
		of[b.Key] = by(of[b.Key].X+high.X, of[b.Key].Y+high.Y)
	}
	var all []Shift
	for _, b := range v {
		all = append(all, of[b.Key])
	}
	return all
}

// checkSpecified ends the test if nothing is promised for a view and contacts.
func checkSpecified(t *testing.T, v []api.Body, l []api.Contact) {
	t.Helper()
	if err := view.Check(v); err != api.OK {
		t.Fatalf("the bodies are no view: %d", err)
	}
	for _, c := range l {
		_, low := view.Find(v, c.Pair.Low)
		_, high := view.Find(v, c.Pair.High)
		if !low || !high || c.Pair.Low >= c.Pair.High || max(c.Normal.X, c.Normal.Y) > one || min(c.Normal.X, c.Normal.Y) < -one || c.Depth < 1 || c.Depth > depthMax {
			t.Fatalf("nothing is promised for the contact %+v", c)
		}
	}
}

// short returns a text for a message about bodies or contacts, of which there may be many.
func short(x any) string {
	text := fmt.Sprintf("%+v", x)
	return text[:min(len(text), 1500)]
}

// checkShares checks the correction of a contact of two bodies, and their shares.
func checkShares(t *testing.T, c api.Contact, a, b api.Body, amount, low, high int64) {
	t.Helper()
	if n := Amount(c, a, b); n != amount {
		t.Errorf("Amount(%+v, %+v, %+v) = %d, want %d", c, a, b, n, amount)
	}
	if n := Share(c, a, b, false); n != low {
		t.Errorf("Share(%+v, %+v, %+v, false) = %d, want %d", c, a, b, n, low)
	}
	if n := Share(c, a, b, true); n != high {
		t.Errorf("Share(%+v, %+v, %+v, true) = %d, want %d", c, a, b, n, high)
	}
}

func checkShifts(t *testing.T, v []api.Body, l []api.Contact, want []Shift) {
	t.Helper()
	if got := Shifts(v, l); !slices.Equal(got, want) {
		t.Errorf("Shifts(%s, %s) = %s, want %s", short(v), short(l), short(got), short(want))
	}
}

// checkModel compares all functions with the model.
func checkModel(t *testing.T, v []api.Body, l []api.Contact) {
	t.Helper()
	checkSpecified(t, v, l)
	checkShifts(t, v, l, modelShifts(v, l))
	for _, c := range l {
		low, _ := view.Find(v, c.Pair.Low)
		high, _ := view.Find(v, c.Pair.High)
		a, b := v[low], v[high]
		checkShares(t, c, a, b, modelAmount(c, a, b), modelShare(c, a, b), modelShare(c, b, a))
	}
}

// A game is a view with contacts, and the shifts that these lead to.
type game struct {
	name string
	v    []api.Body
	l    []api.Contact
	want []Shift
}

// checkGame checks the shifts, with the contacts also in the reverse order, and with the axes of the world exchanged.
func checkGame(t *testing.T, g game) {
	t.Helper()
	checkModel(t, g.v, g.l)
	backwards := slices.Clone(g.l)
	slices.Reverse(backwards)
	checkShifts(t, g.v, g.l, g.want)
	checkShifts(t, g.v, backwards, g.want)
	swapped, turned := slices.Clone(g.l), slices.Clone(g.want)
	for i, c := range swapped {
		swapped[i].Normal = v(c.Normal.Y, c.Normal.X)
	}
	for i, s := range turned {
		turned[i] = by(s.Y, s.X)
	}
	checkShifts(t, g.v, swapped, turned)
}

func checkGames(t *testing.T, l []game) {
	t.Helper()
	for _, g := range l {
		t.Run(g.name, func(t *testing.T) { checkGame(t, g) })
	}
}

// P18.1 and P18.2

// TestExample has the chapter's example alone.
func TestExample(t *testing.T) {
	a, b := ball(1, 1<<16), ball(2, 1<<16)
	c := meet(1, 2, 1<<16, 0, 1<<16+1<<10)
	checkShares(t, c, a, b, 26214, 13107, 13107)
	checkShifts(t, bodies(a, b), contacts(c), shifts(by(-13107, 0), by(13107, 0)))
}

// P18.1

func TestDepths(t *testing.T) {
	for _, x := range []struct {
		depth  int32
		amount int64
	}{
		{1, 0}, {2, 0}, {512, 0}, {slop - 1, 0}, {slop, 0}, {slop + 1, 0}, {slop + 2, 0},
		{slop + 3, 1}, {slop + 4, 1}, {slop + 5, 1}, {slop + 6, 2}, {slop + 7, 2}, {slop + 8, 3},
		{fair - 1, 199}, {fair, 200}, {fair + 1, 200},
		{one, 25804}, {deep - 1, 26213}, {deep, 26214}, {deep + 1, 26214}, {deep + 2, 26214}, {deep + 3, 26215},
		{depthMax - 1, most}, {depthMax, most}, {depthMax - 2, most - 1},
	} {
		for _, m := range [][2]int32{{1, 1}, {one, one}, {massMax, massMax}, {1, massMax}, {massMax, 1}, {one, one + 1}, {one, 0}, {0, 1}, {massMax, 0}} {
			if n := Amount(meet(1, 2, one, 0, x.depth), ball(1, m[0]), ball(2, m[1])); n != x.amount {
				t.Errorf("the correction of the depth %d for the inverse masses %v is %d, want %d", x.depth, m, n, x.amount)
			}
		}
		checkShares(t, meet(1, 2, one, 0, x.depth), wall(1), wall(2), 0, 0, 0)
		checkShares(t, meet(1, 2, one, 0, x.depth), wall(1), unit(2), x.amount, 0, x.amount)
		checkShares(t, meet(1, 2, one, 0, x.depth), unit(1), wall(2), x.amount, x.amount, 0)
		checkShares(t, meet(1, 2, one, 0, x.depth), unit(1), unit(2), x.amount, x.amount/2, x.amount/2)
	}
}

// TestAllDepths counts the corrections of all depths by adding.
func TestAllDepths(t *testing.T) {
	a, b := unit(1), unit(2)
	want, rest := int64(0), 0
	for depth := int32(1); depth <= depthMax; depth++ {
		if depth > slop {
			rest += percent
		}
		if rest >= one {
			want, rest = want+1, rest-one
		}
		if n := Amount(api.Contact{Depth: depth}, a, b); n != want {
			t.Fatalf("the correction of the depth %d is %d, want %d", depth, n, want)
		}
	}
	if want != most {
		t.Errorf("the greatest correction is %d", want)
	}
}

func TestShares(t *testing.T) {
	for _, x := range []struct {
		a, b              int32
		depth             int32
		amount, low, high int64
	}{
		// No correction, and that of 1.
		{one, one, 1, 0, 0, 0}, {1, massMax, slop, 0, 0, 0}, {0, one, slop + 2, 0, 0, 0}, {massMax, 0, slop + 1, 0, 0, 0},
		{one, one, slight, 1, 0, 0}, {1, 1, slight, 1, 0, 0}, {1, massMax, slight, 1, 0, 0}, {massMax, massMax, slight, 1, 0, 0}, {one, 0, slight, 1, 1, 0}, {0, 1, slight, 1, 0, 1},
		// Static bodies.
		{0, 0, depthMax, 0, 0, 0}, {0, 0, slight, 0, 0, 0}, {0, 1, deep, 26214, 0, 26214}, {0, massMax, deep, 26214, 0, 26214}, {1, 0, deep, 26214, 26214, 0}, {massMax, 0, depthMax, most, most, 0}, {0, one, depthMax, most, 0, most},
		// Equal masses, where an odd correction is rounded down twice.
		{1, 1, deep, 26214, 13107, 13107}, {massMax, massMax, deep, 26214, 13107, 13107}, {one, one, slop + 8, 3, 1, 1}, {77, 77, depthMax, most, most / 2, most / 2},
		// Different masses.
		{one, 2 * one, deep, 26214, 8738, 17476}, {2 * one, one, deep, 26214, 17476, 8738}, {1, 2, slop + 8, 3, 1, 2}, {2, 1, slop + 8, 3, 2, 1}, {1, 3, slop + 8, 3, 0, 2}, {3, 1, slop + 8, 3, 2, 0}, {one, 3 * one, fair, 200, 50, 150}, {3, 4, fair, 200, 85, 114}, {4, 3, fair, 200, 114, 85}, {3, 4, depthMax, most, 2875874, 3834499},
		// Very different masses.
		{1, massMax, deep, 26214, 0, 26213}, {massMax, 1, deep, 26214, 26213, 0}, {1, massMax, depthMax, most, 6, 6710367}, {massMax, 1, depthMax, most, 6710367, 6}, {massMax - 1, massMax, depthMax, most, 3355185, 3355188}, {1, 199, fair, 200, 1, 199}, {1, 200, fair, 200, 0, 199}, {200, 1, fair, 200, 199, 0},
	} {
		checkShares(t, meet(1, 2, one, 0, x.depth), ball(1, x.a), ball(2, x.b), x.amount, x.low, x.high)
	}
}

// masses returns inverse masses of which some are equal to each other or close.
func masses() []int32 {
	return []int32{0, 1, 2, 3, 199, 40000, one - 1, one, one + 1, 777777, massMax - 1, massMax}
}

// depths returns depths with corrections from 0 to the greatest one.
func depths() []int32 {
	return []int32{1, slop - 1, slop, slop + 1, slop + 2, slight, slop + 5, slop + 8, fair - 1, fair, 30000, deep - 1, deep, 1 << 20, 4000037, depthMax - 2, depthMax - 1, depthMax}
}

// normals returns normals along the axes, between them, zero, and with the least and the greatest components, also those that no contact has.
func normals() []api.Vec {
	return []api.Vec{
		v(0, 0), v(one, 0), v(-one, 0), v(0, one), v(0, -one),
		v(one, one), v(one, -one), v(-one, one), v(-one, -one), v(1, -1), v(1-one, one-1),
		v(39321, 52428), v(-39322, -52429), v(-52429, 39321), v(46340, -46341), v(12345, 64362),
	}
}

// TestModel compares games of two bodies with the model.
func TestModel(t *testing.T) {
	corrected, kept := 0, 0
	for _, normal := range normals() {
		for _, depth := range depths() {
			for _, low := range masses() {
				for _, high := range masses() {
					l := bodies(ball(1, low), ball(2, high))
					c := meet(1, 2, normal.X, normal.Y, depth)
					checkModel(t, l, contacts(c))
					checkModel(t, l, contacts(c, c, c))
					if slices.Equal(Shifts(l, contacts(c)), shifts(by(0, 0), by(0, 0))) {
						kept++
					} else {
						corrected++
					}
					if t.Failed() {
						return
					}
				}
			}
		}
	}
	if corrected < 20000 || kept < 10000 {
		t.Errorf("%d games have shifts, and %d have none", corrected, kept)
	}
}

// P18.2

func TestFew(t *testing.T) {
	c := meet(1, 2, one, 0, deep)
	checkGames(t, []game{
		{"nil", nil, nil, nil},
		{"no body", bodies(), contacts(), shifts()},
		{"one body", bodies(unit(1)), nil, shifts(by(0, 0))},
		{"one body without contacts", bodies(unit(5)), contacts(), shifts(by(0, 0))},
		{"one static body", bodies(wall(5)), nil, shifts(by(0, 0))},
		{"two bodies without a contact", bodies(unit(1), unit(2)), nil, shifts(by(0, 0), by(0, 0))},
		{"two bodies", bodies(unit(1), unit(2)), contacts(c), shifts(by(-13107, 0), by(13107, 0))},
		{"two bodies, to the left", bodies(unit(1), unit(2)), contacts(meet(1, 2, -one, 0, deep)), shifts(by(13107, 0), by(-13107, 0))},
		{"three bodies, of which the third one is in no contact", bodies(unit(1), unit(2), unit(3)), contacts(c), shifts(by(-13107, 0), by(13107, 0), by(0, 0))},
		{"three bodies, of which the second one is in no contact", bodies(unit(1), unit(2), unit(3)), contacts(meet(1, 3, one, 0, deep)), shifts(by(-13107, 0), by(0, 0), by(13107, 0))},
		{"three bodies, of which the first one is in no contact", bodies(unit(1), unit(2), unit(3)), contacts(meet(2, 3, one, 0, deep)), shifts(by(0, 0), by(-13107, 0), by(13107, 0))},
	})
}

func TestOneContact(t *testing.T) {
	pair := bodies(unit(1), unit(2))
	deepBy := func(depth int32) []api.Contact { return contacts(meet(1, 2, one, 0, depth)) }
	none := shifts(by(0, 0), by(0, 0))
	checkGames(t, []game{
		{"the least depth", pair, deepBy(1), none},
		{"less than Slop", pair, deepBy(slop - 1), none},
		{"Slop", pair, deepBy(slop), none},
		{"more than Slop", pair, deepBy(slop + 1), none},
		{"the correction 1 of equal masses", pair, deepBy(slight), none},
		{"the correction 2 of equal masses", pair, deepBy(slop + 6), shifts(by(-1, 0), by(1, 0))},
		{"the correction 3 of equal masses", pair, deepBy(slop + 8), shifts(by(-1, 0), by(1, 0))},
		{"the greatest depth", pair, deepBy(depthMax), shifts(by(-most/2, 0), by(most/2, 0))},
		{"the least inverse masses", bodies(ball(1, 1), ball(2, 1)), deepBy(deep), shifts(by(-13107, 0), by(13107, 0))},
		{"the greatest inverse masses", bodies(ball(1, massMax), ball(2, massMax)), deepBy(deep), shifts(by(-13107, 0), by(13107, 0))},
		{"the least and the greatest inverse mass", bodies(ball(1, 1), ball(2, massMax)), deepBy(depthMax), shifts(by(-6, 0), by(6710367, 0))},
		{"the greatest and the least inverse mass", bodies(ball(1, massMax), ball(2, 1)), deepBy(depthMax), shifts(by(-6710367, 0), by(6, 0))},
		{"shares of which one is rounded down to 0", bodies(ball(1, 1), ball(2, 200)), deepBy(fair), shifts(by(0, 0), by(199, 0))},
		{"a half of the mass", bodies(unit(1), ball(2, 2*one)), deepBy(deep), shifts(by(-8738, 0), by(17476, 0))},
	})
}

func TestStatic(t *testing.T) {
	c, d := meet(1, 2, one, 0, deep), meet(2, 3, one, 0, deep)
	checkGames(t, []game{
		{"as Low", bodies(wall(1), unit(2)), contacts(c), shifts(by(0, 0), by(26214, 0))},
		{"as High", bodies(unit(1), wall(2)), contacts(c), shifts(by(-26214, 0), by(0, 0))},
		{"both", bodies(wall(1), wall(2)), contacts(c), shifts(by(0, 0), by(0, 0))},
		{"both, with the greatest depth and components below zero", bodies(wall(1), wall(2)), contacts(meet(1, 2, -one, -one, depthMax)), shifts(by(0, 0), by(0, 0))},
		{"as Low, with components below zero", bodies(wall(1), ball(2, 1)), contacts(meet(1, 2, -one, -1, deep)), shifts(by(0, 0), by(-26214, -1))},
		{"as High, with components below zero", bodies(ball(1, massMax), wall(2)), contacts(meet(1, 2, -one, -1, deep)), shifts(by(26214, 1), by(0, 0))},
		{"as Low, with the correction 1", bodies(wall(1), unit(2)), contacts(meet(1, 2, one, -one, slight)), shifts(by(0, 0), by(1, -1))},
		{"as High, with the correction 1", bodies(unit(1), wall(2)), contacts(meet(1, 2, one, -1, slight)), shifts(by(-1, 1), by(0, 0))},
		{"on both sides of a body", bodies(wall(1), unit(2), wall(3)), contacts(c, d), shifts(by(0, 0), by(0, 0), by(0, 0))},
		{"on both sides of a body, deeper in one of them", bodies(wall(1), unit(2), wall(3)), contacts(c, meet(2, 3, one, 0, fair)), shifts(by(0, 0), by(26014, 0), by(0, 0))},
		{"between two bodies", bodies(unit(1), wall(2), unit(3)), contacts(c, d), shifts(by(-26214, 0), by(0, 0), by(26214, 0))},
		{"beside a pair", bodies(unit(1), unit(2), wall(3)), contacts(c, d), shifts(by(-13107, 0), by(-13107, 0), by(0, 0))},
		{"all", bodies(wall(1), wall(2), wall(3)), contacts(c, d, meet(1, 3, 0, one, deep)), shifts(by(0, 0), by(0, 0), by(0, 0))},
	})
}

// TestNormals has normals for which the components of a shift are rounded down, and minus that of one body is not that in the other direction.
func TestNormals(t *testing.T) {
	along := func(x, y int32) []api.Contact { return contacts(meet(1, 2, x, y, fair)) }
	pair := bodies(unit(1), unit(2))
	checkGames(t, []game{
		{"zero", pair, along(0, 0), shifts(by(0, 0), by(0, 0))},
		{"to the right", pair, along(one, 0), shifts(by(-100, 0), by(100, 0))},
		{"to the left", pair, along(-one, 0), shifts(by(100, 0), by(-100, 0))},
		{"between the axes", pair, along(39321, -52428), shifts(by(-59, 80), by(59, -80))},
		{"between the axes, on the other side", pair, along(-39321, 52428), shifts(by(60, -79), by(-60, 79))},
		{"between the axes, above zero", pair, along(39321, 52428), shifts(by(-59, -79), by(59, 79))},
		{"between the axes, below zero", pair, along(-39321, -52428), shifts(by(60, 80), by(-60, -80))},
		{"the greatest components", pair, along(one, one), shifts(by(-100, -100), by(100, 100))},
		{"the least components", pair, along(-one, -one), shifts(by(100, 100), by(-100, -100))},
		{"the least and the greatest component", pair, along(-one, one), shifts(by(100, -100), by(-100, 100))},
		{"close to the least and the greatest component", pair, along(1-one, one-1), shifts(by(100, -99), by(-100, 99))},
		{"short", pair, along(1, -1), shifts(by(0, 1), by(0, -1))},
		{"short, on the other side", pair, along(-1, 1), shifts(by(1, 0), by(-1, 0))},
		{"short, below zero", pair, along(-1, -1), shifts(by(1, 1), by(-1, -1))},
		{"just enough for 1", pair, along(656, -655), shifts(by(-1, 1), by(1, -1))},
		{"just too short for 1", pair, along(655, -656), shifts(by(0, 2), by(0, -2))},
		{"with different shares", bodies(unit(1), ball(2, 3*one)), along(39321, -52428), shifts(by(-29, 40), by(89, -120))},
		{"with the share 0", bodies(ball(1, 1), ball(2, 200)), along(-1, -one), shifts(by(0, 0), by(-1, -199))},
		{"with no correction", pair, contacts(meet(1, 2, -1, -one, slop)), shifts(by(0, 0), by(0, 0))},
		{"with the greatest depth", bodies(wall(1), unit(2)), contacts(meet(1, 2, one, -one, depthMax)), shifts(by(0, 0), by(most, -most))},
		{"in two directions", pair, append(along(one, 0), along(0, one)...), shifts(by(-100, -100), by(100, 100))},
		{"in opposite directions", pair, append(along(one, 0), along(-one, 0)...), shifts(by(0, 0), by(0, 0))},
		// Each vector is rounded down before it is added.
		{"in opposite directions that are rounded", pair, append(along(1, 655), along(-1, -655)...), shifts(by(1, 1), by(-1, -1))},
	})
}

func TestSeveralContacts(t *testing.T) {
	c, d := meet(1, 2, one, 0, deep), meet(2, 3, one, 0, deep)
	pair, row := bodies(unit(1), unit(2)), bodies(unit(1), unit(2), unit(3))
	checkGames(t, []game{
		{"the same one twice", pair, contacts(c, c), shifts(by(-26214, 0), by(26214, 0))},
		{"the same one three times", pair, contacts(c, c, c), shifts(by(-39321, 0), by(39321, 0))},
		{"the same one twice, with a static body", bodies(unit(1), wall(2)), contacts(c, c), shifts(by(-52428, 0), by(0, 0))},
		{"the same one twice, apart", row, contacts(c, d, c), shifts(by(-26214, 0), by(13107, 0), by(13107, 0))},
		{"of one pair with different depths", pair, contacts(c, meet(1, 2, one, 0, fair), meet(1, 2, one, 0, 1)), shifts(by(-13207, 0), by(13207, 0))},
		// Each share is rounded down, and each depth reduced by Slop, before it is added.
		{"the correction 1 three times", pair, slices.Repeat(contacts(meet(1, 2, one, 0, slight)), 3), shifts(by(0, 0), by(0, 0))},
		{"depths that have no correction", pair, slices.Repeat(contacts(meet(1, 2, one, 0, slop)), 9), shifts(by(0, 0), by(0, 0))},
		{"High in one contact, and Low in another one", row, contacts(c, d), shifts(by(-13107, 0), by(0, 0), by(13107, 0))},
		{"High in one contact, and Low in another one, across", row, contacts(c, meet(2, 3, 0, one, fair)), shifts(by(-13107, 0), by(13107, -100), by(0, 100))},
		{"High in one contact, and Low in another one, rounded", row, contacts(meet(1, 2, -1, 1, fair), meet(2, 3, -1, 1, fair)), shifts(by(1, 0), by(0, 0), by(-1, 0))},
		{"Low in two contacts", row, contacts(c, meet(1, 3, 0, one, fair)), shifts(by(-13107, -100), by(13107, 0), by(0, 100))},
		{"High in two contacts", row, contacts(meet(1, 3, one, 0, deep), meet(2, 3, 0, -one, fair)), shifts(by(-13107, 0), by(0, 100), by(13107, -100))},
		{"all of three with each other", row, contacts(c, d, meet(1, 3, one, 0, deep)), shifts(by(-26214, 0), by(0, 0), by(26214, 0))},
		{"in a row of different masses", bodies(wall(1), unit(2), ball(3, 3*one), wall(4)), contacts(c, meet(2, 3, one, 0, fair), meet(3, 4, one, 0, slop+6)), shifts(by(0, 0), by(26164, 0), by(148, 0), by(0, 0))},
	})
}

// TestKeys has the least and the greatest keys, and keys between which there are others.
func TestKeys(t *testing.T) {
	for _, keys := range [][3]uint32{{0, 1, 2}, {0, 1 << 31, greatest}, {greatest - 2, greatest - 1, greatest}, {1<<31 - 1, 1 << 31, 1<<31 + 1}, {0, 7, greatest}, {5, 6, 1000}} {
		a, b, c := keys[0], keys[1], keys[2]
		l := bodies(unit(a), unit(b), wall(c))
		checkGame(t, game{"first and second", l, contacts(meet(a, b, one, 0, deep)), shifts(by(-13107, 0), by(13107, 0), by(0, 0))})
		checkGame(t, game{"second and third", l, contacts(meet(b, c, one, 0, deep)), shifts(by(0, 0), by(-26214, 0), by(0, 0))})
		checkGame(t, game{"first and third", l, contacts(meet(a, c, 0, -one, deep)), shifts(by(0, 26214), by(0, 0), by(0, 0))})
	}
}

// A source returns scattered numbers, the same ones in each run.
type source uint64

func (s *source) next() uint64 {
	*s = *s*6364136223846793005 + 1442695040888963407
	return uint64(*s) >> 17
}

// below returns a number from 0 to n - 1.
func (s *source) below(n int) int { return int(s.next() % uint64(n)) }

// upTo returns a number from -limit to limit, of which there are many short ones.
func (s *source) upTo(limit int64) int32 {
	length := s.next() % 26
	n := int32(int64(s.next()>>(length+20)) % (limit + 1))
	if s.next()%2 == 0 {
		return -n
	}
	return n
}

func (s *source) vector(limit int64) api.Vec { return v(s.upTo(limit), s.upTo(limit)) }

func (s *source) from0(limit int64) int32 {
	n := s.upTo(limit)
	return max(n, -n)
}

// view returns a view of n bodies, some of which are static.
func (s *source) view(n int) []api.Body {
	var l []api.Body
	key := uint32(s.below(3))
	for range n {
		b := ball(key, s.from0(massMax))
		b.Radius, b.Axis, b.Bounce = 4096+s.from0(4190208), s.vector(4194304), s.from0(one)
		b.Pos, b.Vel = s.vector(1<<30), s.vector(1<<24)
		switch s.below(5) {
		case 0:
			b.InvMass = 0
		case 1:
			b.InvMass = masses()[s.below(len(masses()))]
		}
		l = append(l, b)
		key += uint32(1 + s.below(1000000))
	}
	return l
}

// contacts returns n contacts of a view with at least two bodies, some of them equal.
func (s *source) contacts(v []api.Body, n int) []api.Contact {
	var l []api.Contact
	for len(l) < n {
		low := s.below(len(v) - 1)
		high := low + 1 + s.below(len(v)-1-low)
		c := api.Contact{Pair: api.Pair{Low: v[low].Key, High: v[high].Key}, Normal: s.vector(one), Depth: 1 + s.from0(depthMax-1)}
		switch s.below(5) {
		case 0:
			c.Normal = normals()[s.below(len(normals()))]
		case 1:
			c.Normal.X = one
		case 2:
			c.Depth = depths()[s.below(len(depths()))]
		case 3:
			l = append(l, c)
		}
		l = append(l, c)
	}
	return l[:n]
}

// eachScattered calls f with scattered views and their contacts, until the test fails.
func eachScattered(t *testing.T, f func(v []api.Body, l []api.Contact)) {
	t.Helper()
	s := source(18)
	for n := range 10000 {
		v := s.view(2 + n%9)
		l := s.contacts(v, s.below(14))
		if f(v, l); t.Failed() {
			return
		}
	}
}

func TestScattered(t *testing.T) {
	moved, kept := 0, 0
	eachScattered(t, func(v []api.Body, l []api.Contact) {
		checkModel(t, v, l)
		for _, s := range Shifts(v, l) {
			if s == by(0, 0) {
				kept++
			} else {
				moved++
			}
		}
	})
	if moved < 10000 || kept < 10000 {
		t.Errorf("%d bodies have a shift, and %d have none", moved, kept)
	}
}

// TestFull has a view with all bodies that there may be, and many contacts.
func TestFull(t *testing.T) {
	s := source(4096)
	l := s.view(capacity)
	checkModel(t, l, s.contacts(l, 40000))
	var row []api.Contact
	for i, b := range l[1:] {
		row = append(row, meet(l[i].Key, b.Key, one, 0, deep))
	}
	checkModel(t, l, row)
}

// TestGreatSums adds the greatest shifts that there are many times, so that the sums need far more than 32 bits.
func TestGreatSums(t *testing.T) {
	const n = 1 << 18
	many := func(n int, low, high uint32) []api.Contact {
		return slices.Repeat(contacts(meet(low, high, one, -one, depthMax)), n)
	}
	l := bodies(wall(1), ball(2, massMax), wall(3))
	for _, x := range []struct {
		name      string
		low, high int // times that the body 2 is Low and High
		sum       int64
	}{
		{"as High", 0, n, most * n},
		{"as Low", n, 0, -most * n},
		{"as both, and more as High", n, n + 1, most},
		{"as both, and more as Low", n + 1, n, -most},
		{"as both, as often", n, n, 0},
	} {
		t.Run(x.name, func(t *testing.T) {
			m := append(many(x.high, 1, 2), many(x.low, 2, 3)...)
			checkShifts(t, l, m, shifts(by(0, 0), by(x.sum, -x.sum), by(0, 0)))
		})
	}
}

// TestOtherParts changes the parts of bodies and contacts that have nothing to do with corrections.
func TestOtherParts(t *testing.T) {
	eachScattered(t, func(v []api.Body, l []api.Contact) {
		others := slices.Clone(v)
		for i, b := range others {
			others[i] = ball(b.Key, b.InvMass)
			others[i].Bounce, others[i].Vel = int32(i), api.Vec{X: 1 << 24, Y: int32(-i)}
		}
		checkShifts(t, others, l, Shifts(v, l))
		for _, c := range l {
			low, _ := view.Find(v, c.Pair.Low)
			high, _ := view.Find(v, c.Pair.High)
			turned := c
			turned.Normal = api.Vec{X: -c.Normal.Y, Y: c.Normal.X}
			checkShares(t, turned, others[low], others[high], Amount(c, v[low], v[high]), Share(c, v[low], v[high], false), Share(c, v[low], v[high], true))
		}
	})
}

// P18.3

// TestSharesAreParts checks that the shares of a contact together are at most its correction, and no more than one unit less, and that this is less than its depth.
func TestSharesAreParts(t *testing.T) {
	exact, less := 0, 0
	for _, depth := range depths() {
		for _, low := range masses() {
			for _, high := range masses() {
				a, b := ball(1, low), ball(2, high)
				c := meet(1, 2, one, 0, depth)
				amount, first, second := Amount(c, a, b), Share(c, a, b, false), Share(c, a, b, true)
				if amount < 0 || amount >= int64(depth) {
					t.Errorf("the correction of the depth %d is %d", depth, amount)
				}
				if rest := amount - first - second; first < 0 || second < 0 || rest < 0 || rest > 1 {
					t.Errorf("the shares of the correction %d for the inverse masses %d and %d are %d and %d", amount, low, high, first, second)
				}
				if turned := Share(c, b, a, true); turned != first {
					t.Errorf("the share of %d beside %d is %d as Low, and %d as High", low, high, first, turned)
				}
				if amount == first+second {
					exact++
				} else {
					less++
				}
			}
		}
	}
	if exact < 500 || less < 500 {
		t.Errorf("the shares of %d contacts are the correction, and those of %d are less", exact, less)
	}
}

// TestOrder has contacts in all orders.
func TestOrder(t *testing.T) {
	s := source(3)
	l := s.view(4)
	orders := 0
	var permute func(fixed, rest []api.Contact, f func([]api.Contact))
	permute = func(fixed, rest []api.Contact, f func([]api.Contact)) {
		if len(rest) == 0 {
			orders++
			f(fixed)
		}
		for i, c := range rest {
			permute(append(slices.Clone(fixed), c), slices.Concat(rest[:i], rest[i+1:]), f)
		}
	}
	for range 20 {
		m := s.contacts(l, 5)
		want := modelShifts(l, m)
		permute(nil, m, func(m []api.Contact) { checkShifts(t, l, m, want) })
	}
	if orders != 20*120 {
		t.Errorf("there were %d orders", orders)
	}
}

// TestShuffled has many contacts in scattered orders.
func TestShuffled(t *testing.T) {
	s := source(8)
	l := s.view(300)
	m := s.contacts(l, 4000)
	want := Shifts(l, m)
	for range 8 {
		for i := range m {
			j := i + s.below(len(m)-i)
			m[i], m[j] = m[j], m[i]
		}
		checkShifts(t, l, m, want)
	}
}

func TestStaticBodiesHaveNoShift(t *testing.T) {
	static := 0
	eachScattered(t, func(v []api.Body, l []api.Contact) {
		for i, s := range Shifts(v, l) {
			if v[i].InvMass != 0 {
				continue
			}
			static++
			if s != by(0, 0) {
				t.Errorf("the shift of the static body %+v is %+v", v[i], s)
			}
		}
	})
	if static < 10000 {
		t.Errorf("only %d bodies are static", static)
	}
}

// TestApart puts two views with their contacts together, which changes nothing for either of them.
func TestApart(t *testing.T) {
	s := source(2)
	for range 300 {
		l := s.view(8)
		var even, odd []api.Body
		for i, b := range l {
			if i%2 == 0 {
				even = append(even, b)
			} else {
				odd = append(odd, b)
			}
		}
		m, n := s.contacts(even, 6), s.contacts(odd, 6)
		first, second := Shifts(even, m), Shifts(odd, n)
		var together []Shift
		for i := range first {
			together = append(together, first[i], second[i])
		}
		checkShifts(t, l, slices.Concat(m, n), together)
		checkShifts(t, l, slices.Concat(n, m), together)
	}
}

// P18.4

// scene returns a view with contacts that shift all bodies, where the slices have capacity that is not used.
func scene() ([]api.Body, []api.Contact) {
	l := bodies(unit(1), ball(2, 2*one), ball(5, 5), ball(6, 7))
	m := contacts(meet(1, 2, one, 0, deep), meet(2, 5, 0, -one, fair), meet(1, 2, one, 0, deep), meet(1, 5, one, 0, fair))
	return l[:3], m[:3]
}

// TestArguments compares arguments, and the unused capacity of their slices, with copies afterwards.
func TestArguments(t *testing.T) {
	l, m := scene()
	if all := Shifts(l, m); slices.Contains(all[:2], by(0, 0)) {
		t.Fatalf("bodies have no shift: %v", all)
	}
	for n := range len(m) + 1 {
		Shifts(l, m[:n])
		Shifts(l[:0], m[:0])
	}
	for _, c := range m {
		Amount(c, l[0], l[1])
		Share(c, l[0], l[1], false)
		Share(c, l[0], l[1], true)
	}
	want, contacts := scene()
	if got := l[:cap(l)]; !slices.Equal(got, want[:cap(want)]) {
		t.Errorf("the bodies have become %+v", got)
	}
	if got := m[:cap(m)]; !slices.Equal(got, contacts[:cap(contacts)]) {
		t.Errorf("the contacts have become %+v", got)
	}
}

// overwrite writes x to all elements of a slice, and to its unused capacity.
func overwrite[E any](l []E, x E) {
	l = l[:cap(l)]
	for i := range l {
		l[i] = x
	}
}

// TestResultsAreNew overwrites results, and asks again.
func TestResultsAreNew(t *testing.T) {
	l, m := scene()
	for n := range len(m) + 1 {
		want := modelShifts(l, m[:n])
		for range 3 {
			checkShifts(t, l, m[:n], want)
			overwrite(Shifts(l, m[:n]), by(77, -78))
		}
	}
	want, contacts := scene()
	if !slices.Equal(l, want) || !slices.Equal(m, contacts) {
		t.Errorf("the arguments have become %+v, %+v", l, m)
	}
}

// TestResultsStay overwrites arguments, which must not change earlier results, and asks with the new ones.
func TestResultsStay(t *testing.T) {
	for n := range 4 {
		l, m := scene()
		m = m[:n]
		want := modelShifts(l, m)
		got := Shifts(l, m)
		overwrite(m, meet(1, 5, 0, one, depthMax))
		for i := range l[:cap(l)] {
			l[:cap(l)][i].InvMass = int32(1 + i)
		}
		checkModel(t, l, m)
		if !slices.Equal(got, want) {
			t.Errorf("the shifts have become %+v, want %+v", got, want)
		}
	}
}

// TestBeyond calls the functions with arguments for which nothing is promised, and only the rule holds that no function panics.
func TestBeyond(t *testing.T) {
	numbers := []int32{math.MinInt32, -one - 1, -1, 0, 1, slop, deep, massMax + 1, depthMax + 1, math.MaxInt32}
	var lists [][]api.Body
	for _, n := range numbers {
		for _, m := range numbers {
			lists = append(lists, bodies(ball(1, n), ball(2, m), ball(7, -n)))
			lists = append(lists, bodies(ball(2, m), ball(1, n), ball(1, -m)))
		}
	}
	lists = append(lists, nil, slices.Repeat(bodies(unit(1)), capacity+1))
	for _, l := range lists {
		for _, n := range numbers {
			for _, depth := range numbers {
				m := contacts(meet(1, 2, n, n, depth), meet(2, 1, n, -n, depth), meet(1, 1, n, 0, depth), meet(1, 7, 0, n, depth), meet(0, 1, one, n, depth), meet(2, greatest, n, one, depth), meet(3, 4, n, n, depth), api.Contact{})
				Shifts(l, m)
				for _, c := range m {
					Amount(c, ball(1, n), ball(2, -n))
					Share(c, ball(1, n), ball(2, -n), false)
					Share(c, ball(1, depth), ball(2, n), true)
				}
			}
		}
	}
}
