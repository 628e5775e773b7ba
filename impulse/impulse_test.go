package impulse

import (
	"math"
	"math/big"
	"testing"

	"billiard/api"
	"billiard/body"
)

// The limits of the chapters are written out, so that they are checked as well.
const (
	one      = 65536
	massMax  = 1048576
	speedMax = 16777216
	worldMax = 1073741824
	most     = 1 << 43 // strength
)

func v(x, y int32) api.Vec { return api.Vec{X: x, Y: y} }

func along(normal api.Vec) api.Contact {
	return api.Contact{Pair: api.Pair{Low: 1, High: 2}, Normal: normal, Depth: 1}
}

func ball(key uint32, invMass, bounce int32, vel api.Vec) api.Body {
	return api.Body{Key: key, Radius: one, InvMass: invMass, Bounce: bounce, Vel: vel}
}

// moving returns two bodies with velocities, and the same mass.
func moving(a, b api.Vec) (api.Body, api.Body) { return ball(1, one, 0, a), ball(2, one, 0, b) }

// The model: the definitions of the chapter in exact integers of math/big.

func times(a, b *big.Int) *big.Int { return new(big.Int).Mul(a, b) }

// floor uses the Euclidean division of math/big, which rounds down for positive divisors.
func floor(n *big.Int, d int64) *big.Int { return new(big.Int).Div(n, big.NewInt(d)) }

func modelScalar(n api.Vec, a, b api.Body) *big.Int {
	x := big.NewInt(int64(n.X) * (int64(b.Vel.X) - int64(a.Vel.X)))
	y := big.NewInt(int64(n.Y) * (int64(b.Vel.Y) - int64(a.Vel.Y)))
	return x.Add(x, y)
}

func modelApproach(n api.Vec, a, b api.Body) *big.Int { return floor(modelScalar(n, a, b), one) }

func modelBounce(a, b api.Body) int32 {
	if a.Bounce > b.Bounce {
		return a.Bounce
	}
	return b.Bounce
}

func modelStrength(n api.Vec, a, b api.Body) *big.Int {
	approach := modelApproach(n, a, b)
	if approach.Sign() >= 0 || a.InvMass == 0 && b.InvMass == 0 {
		return new(big.Int)
	}
	speed := approach.Neg(approach)
	return floor(times(speed, big.NewInt(one+int64(modelBounce(a, b)))), int64(a.InvMass)+int64(b.InvMass))
}

func modelChange(j int64, inv int32, n api.Vec) (dx, dy *big.Int) {
	k := floor(times(big.NewInt(j), big.NewInt(int64(inv))), one)
	return floor(times(k, big.NewInt(int64(n.X))), one), floor(times(k, big.NewInt(int64(n.Y))), one)
}

// checkValid ends the test if nothing is promised for a contact of two bodies.
func checkValid(t *testing.T, c api.Contact, a, b api.Body) {
	t.Helper()
	if a.Key >= b.Key || body.Check(a) != api.OK || body.Check(b) != api.OK {
		t.Fatalf("%+v and %+v are not two valid bodies in the order of their keys", a, b)
	}
	checkNormal(t, c.Normal)
}

func checkNormal(t *testing.T, n api.Vec) {
	t.Helper()
	if max(n.X, n.Y) > one || min(n.X, n.Y) < -one {
		t.Fatalf("the normal %v is too long", n)
	}
}

// checkContact checks the approach and the strength.
func checkContact(t *testing.T, c api.Contact, a, b api.Body, approach, strength int64) {
	t.Helper()
	checkValid(t, c, a, b)
	if n := Approach(c, a, b); n != approach {
		t.Errorf("Approach(%v, %+v, %+v) = %d, want %d", c.Normal, a, b, n, approach)
	}
	if j := Strength(c, a, b); j != strength {
		t.Errorf("Strength(%v, %+v, %+v) = %d, want %d", c.Normal, a, b, j, strength)
	}
}

func checkChange(t *testing.T, j int64, inv int32, n api.Vec, dx, dy int64) {
	t.Helper()
	if j < 0 || j > most || inv < 0 || inv > massMax {
		t.Fatalf("nothing is promised for the strength %d and the inverse mass %d", j, inv)
	}
	checkNormal(t, n)
	if x, y := Change(j, inv, n); x != dx || y != dy {
		t.Errorf("Change(%d, %d, %v) = %d, %d, want %d, %d", j, inv, n, x, y, dx, dy)
	}
}

// P16.1

func TestExample(t *testing.T) {
	a, b := moving(v(one, 0), v(0, 0))
	checkContact(t, along(v(one, 0)), a, b, -65536, 32768)
	a, b = moving(v(0, 32768), v(0, -32768))
	checkContact(t, along(v(0, one)), a, b, -65536, 32768)
}

// TestExchange looks at bodies with the same mass and the greatest bounce that meet, which exchange their velocities.
func TestExchange(t *testing.T) {
	for _, x := range []struct{ a, b int32 }{{one, -one}, {one, 0}, {0, -one}, {3 * one, one}, {speedMax, -speedMax}, {-6, -8}} {
		a, b := ball(1, one, one, v(x.a, 5)), ball(2, one, one, v(x.b, 7))
		c := along(v(one, 0))
		j := Strength(c, a, b)
		backX, backY := Change(j, a.InvMass, c.Normal)
		forthX, forthY := Change(j, b.InvMass, c.Normal)
		if int64(x.a)-backX != int64(x.b) || int64(x.b)+forthX != int64(x.a) || backY != 0 || forthY != 0 {
			t.Errorf("%+v: changes by (%d, %d) and (%d, %d)", x, backX, backY, forthX, forthY)
		}
	}
}

func TestApproach(t *testing.T) {
	for _, x := range []struct {
		name               string
		normal, a, b       api.Vec
		approach, strength int64
	}{
		{"a towards b", v(one, 0), v(one, 0), v(0, 0), -one, one / 2},
		{"b towards a", v(one, 0), v(0, 0), v(-one, 0), -one, one / 2},
		{"towards each other", v(one, 0), v(one, 0), v(-3*one, 0), -4 * one, 2 * one},
		{"a behind b, and faster", v(one, 0), v(5*one, 0), v(2*one, 0), -3 * one, 3 * one / 2},
		{"to the left", v(-one, 0), v(-one, 0), v(one, 0), -2 * one, one},
		{"upwards", v(0, one), v(9, one), v(-9, -one), -2 * one, one},
		{"downwards", v(0, -one), v(9, -one), v(-9, 4*one), -5 * one, 5 * one / 2},
		{"with a normal between the axes", v(39321, 52428), v(30000, 40000), v(-30000, -40000), -99999, 49999},
		{"with another normal between the axes", v(-52429, 39321), v(-40000, 30000), v(40000, -30000), -100000, 50000},
		{"aside and towards each other", v(46340, 46340), v(0, 20000), v(10000, 0), -7071, 3535},
		{"a away from b", v(one, 0), v(-one, 0), v(0, 0), one, 0},
		{"b away from a", v(one, 0), v(0, 0), v(one, 0), one, 0},
		{"away from each other", v(0, -one), v(0, one), v(0, -one), 2 * one, 0},
		{"away with a normal between the axes", v(39321, 52428), v(-30000, -40000), v(30000, 40000), 99998, 0},
		{"a behind b, and slower", v(one, 0), v(one, 0), v(5*one, 0), 4 * one, 0},
		{"away by one unit", v(one, 0), v(7, 0), v(8, 0), 1, 0},
		{"both at rest", v(one, 0), v(0, 0), v(0, 0), 0, 0},
		{"with the same velocity", v(39321, 52428), v(777, -888), v(777, -888), 0, 0},
		{"past each other", v(one, 0), v(0, one), v(0, -one), 0, 0},
		{"past each other, with a normal between the axes", v(39321, 52428), v(52428, 0), v(0, 39321), 0, 0},
		{"no normal", v(0, 0), v(one, one), v(-one, -one), 0, 0},
		{"towards each other by one unit", v(one, 0), v(1, 0), v(0, 0), -1, 0},
		{"towards each other by two units", v(one, 0), v(1, 0), v(-1, 0), -2, 1},
		{"towards each other by three units", v(0, -one), v(0, -2), v(0, 1), -3, 1},
	} {
		t.Run(x.name, func(t *testing.T) {
			a, b := moving(x.a, x.b)
			checkContact(t, along(x.normal), a, b, x.approach, x.strength)
		})
	}
}

// TestRoundedApproach looks at scalar products around the multiples of 2^16.
func TestRoundedApproach(t *testing.T) {
	for _, x := range []struct {
		scalar, approach int64
	}{
		{-131073, -3}, {-131072, -2}, {-131071, -2}, {-65537, -2}, {-65536, -1}, {-65535, -1}, {-32768, -1}, {-2, -1}, {-1, -1},
		{0, 0}, {1, 0}, {2, 0}, {32768, 0}, {65535, 0}, {65536, 1}, {65537, 1}, {131071, 1}, {131072, 2}, {131073, 2},
	} {
		strength := max(0, -x.approach)
		for _, n := range []api.Vec{v(1, 0), v(-1, 0), v(0, 1), v(0, -1)} {
			// One of the components is the scalar product, or minus it, and the other one counts for nothing.
			rel := v(int32(x.scalar), int32(x.scalar))
			if n.X+n.Y < 0 {
				rel = v(-rel.X, -rel.Y)
			}
			a, b := ball(1, 0, 0, v(0, 0)), ball(2, one, 0, rel)
			checkContact(t, along(n), a, b, x.approach, strength)
			a, b = ball(1, one, 0, v(-rel.X, -rel.Y)), ball(2, 0, 0, v(0, 0))
			checkContact(t, along(n), a, b, x.approach, strength)
		}
	}
}

// TestRoundedOnce looks at sums of products that would have other floors if each product, or each velocity, were rounded alone.
func TestRoundedOnce(t *testing.T) {
	for _, x := range []struct {
		normal, a, b api.Vec
		approach     int64
	}{
		{v(32768, 32768), v(0, 0), v(1, 1), 1},
		{v(32768, 32768), v(0, 0), v(-1, -1), -1},
		{v(32768, -32768), v(0, 0), v(1, 1), 0},
		{v(32768, 0), v(1, 0), v(2, 0), 0},
		{v(32768, 0), v(2, 0), v(1, 0), -1},
		{v(32768, 0), v(-1, 0), v(1, 0), 1},
		{v(32768, 0), v(1, 0), v(-1, 0), -1},
		{v(65535, 1), v(0, 0), v(-1, -1), -1},
		{v(65535, 1), v(0, 0), v(-1, -2), -2},
		{v(39321, 52428), v(0, 0), v(-10, -10), -14},
		{v(39321, 52428), v(0, 0), v(10, 10), 13},
	} {
		a, b := moving(x.a, x.b)
		a.InvMass = 0
		checkContact(t, along(x.normal), a, b, x.approach, max(0, -x.approach))
	}
}

func TestBounce(t *testing.T) {
	for _, x := range []struct{ a, b, bounce int32 }{
		{0, 0, 0}, {one, one, one}, {0, one, one}, {one, 0, one}, {0, 1, 1}, {1, 0, 1}, {5, 9, 9}, {9, 5, 9}, {7, 7, 7}, {one - 1, one, one}, {one, one - 1, one}, {32768, 16384, 32768},
	} {
		a, b := ball(1, one, x.a, v(3*one, 0)), ball(2, 2*one, x.b, v(0, 0))
		if bounce := Bounce(a, b); bounce != x.bounce {
			t.Errorf("Bounce with %d and %d is %d, want %d", x.a, x.b, bounce, x.bounce)
		}
		// The approach is minus the sum of the inverse masses, so that the strength is 2^16 plus the bounce.
		checkContact(t, along(v(one, 0)), a, b, -3*one, one+int64(x.bounce))
		// Masses, and static bodies, make no difference to the bounce.
		a.InvMass, b.InvMass = 0, 0
		if bounce := Bounce(a, b); bounce != x.bounce {
			t.Errorf("Bounce of static bodies with %d and %d is %d, want %d", x.a, x.b, bounce, x.bounce)
		}
	}
}

func TestMasses(t *testing.T) {
	for _, x := range []struct {
		name         string
		a, b, bounce int32
		speed        int32
		strength     int64
	}{
		{"both static", 0, 0, 0, one, 0},
		{"both static, with the greatest bounce and speed", 0, 0, one, speedMax, 0},
		{"a static", 0, one, 0, one, one},
		{"b static", one, 0, 0, one, one},
		{"a static, with a bounce", 0, 2 * one, one / 2, 3 * one, 147456},
		{"b static, and little speed", 3, 0, 0, 1, 21845},
		{"the least inverse mass of a", 1, 0, 0, one, 1 << 32},
		{"the least inverse mass of b", 0, 1, one, one, 1 << 33},
		{"the least inverse mass of both", 1, 1, 0, one, 1 << 31},
		{"the greatest inverse mass of a", massMax, 0, 0, one, 4096},
		{"the greatest inverse mass of b", 0, massMax, one, one, 8192},
		{"the greatest inverse mass of both", massMax, massMax, 0, one, 2048},
		{"the least and the greatest inverse mass", 1, massMax, 0, one, 4095},
		{"the greatest and the least inverse mass", massMax, 1, one, one, 8191},
		{"the least strength", massMax, massMax, 0, 32, 1},
		{"less than the least strength", massMax, massMax, 0, 31, 0},
		{"less than the least strength, with one mass", massMax, 0, 1, 15, 0},
		{"different masses", one, 2 * one, 0, 3 * one, one},
		{"a third, rounded down", one, 2 * one, 0, 2, 0},
		{"two thirds, rounded down", one, 2 * one, 0, 5, 1},
		{"rounded down with a bounce", one, one, one - 1, 1, 0},
		{"rounded down with the greatest bounce", one, one, one, 1, 1},
	} {
		t.Run(x.name, func(t *testing.T) {
			a, b := ball(1, x.a, x.bounce, v(0, x.speed)), ball(2, x.b, 0, v(0, 0))
			checkContact(t, along(v(0, one)), a, b, -int64(x.speed), x.strength)
			a.Vel, b.Vel, b.Bounce = v(0, 0), v(0, -x.speed), x.bounce
			checkContact(t, along(v(0, one)), a, b, -int64(x.speed), x.strength)
			// Bodies that move away from each other have no strength, whatever their masses are.
			checkContact(t, along(v(0, -one)), a, b, int64(x.speed), 0)
		})
	}
}

// TestSpeedLimits looks at all directions of two velocities at their limits, with normals whose components are -2^16, 0 and 2^16: the approach is a multiple of the speed.
func TestSpeedLimits(t *testing.T) {
	signs := []int32{-1, 0, 1}
	var directions []api.Vec
	for _, x := range signs {
		for _, y := range signs {
			directions = append(directions, v(x, y))
		}
	}
	scaled := func(d api.Vec, by int32) api.Vec { return v(d.X*by, d.Y*by) }
	for _, n := range directions {
		for _, from := range directions {
			for _, to := range directions {
				a, b := ball(1, 1, one, scaled(from, speedMax)), ball(2, 0, 0, scaled(to, speedMax))
				multiple := int64(n.X*(to.X-from.X) + n.Y*(to.Y-from.Y))
				checkContact(t, along(scaled(n, one)), a, b, multiple*speedMax, max(0, -multiple)*speedMax*2*one)
			}
		}
	}
}

// TestOtherParts changes the parts of contacts and bodies that have nothing to do with impulses.
func TestOtherParts(t *testing.T) {
	a, b := ball(1, 5, 30000, v(777, 888)), ball(2, 7, 20000, v(-999, 111))
	c := along(v(39321, 52428))
	approach, strength := Approach(c, a, b), Strength(c, a, b)
	if approach >= 0 || strength <= 0 {
		t.Fatalf("the bodies do not approach each other: %d, %d", approach, strength)
	}
	for _, other := range []api.Body{
		{Radius: 4096},
		{Radius: 4194304, Axis: v(4194304, -4194304), Pos: v(worldMax, worldMax)},
		{Radius: 5000, Axis: v(-1, 0), Pos: v(-worldMax, 3)},
	} {
		for _, pair := range []api.Pair{{}, {Low: 1, High: 2}, {Low: 2, High: 1}, {Low: math.MaxUint32, High: 5}} {
			for _, depth := range []int32{0, 1, 8388608, -1, math.MinInt32, math.MaxInt32} {
				c.Pair, c.Depth = pair, depth
				a, b := a, b
				a.Radius, a.Axis, a.Pos = other.Radius, other.Axis, other.Pos
				checkContact(t, c, a, b, approach, strength)
				a.Key, b.Key = 0, math.MaxUint32
				b.Radius, b.Axis, b.Pos = other.Radius, other.Axis, other.Pos
				checkContact(t, c, a, b, approach, strength)
				if bounce := Bounce(a, b); bounce != 30000 {
					t.Errorf("the bounce is %d", bounce)
				}
			}
		}
	}
}

func TestChange(t *testing.T) {
	for _, x := range []struct {
		name   string
		j      int64
		inv    int32
		normal api.Vec
		dx, dy int64
	}{
		{"to the right", one / 2, one, v(one, 0), one / 2, 0},
		{"to the left", one / 2, one, v(-one, 0), -one / 2, 0},
		{"upwards", one / 2, 3 * one, v(0, one), 0, 3 * one / 2},
		{"downwards", one / 2, one / 4, v(0, -one), 0, -one / 8},
		{"between the axes", 100, one, v(39321, -52428), 59, -80},
		{"between the axes, on the other side", 100, one, v(-39321, 52428), -60, 79},
		{"without a normal", most, massMax, v(0, 0), 0, 0},
		{"no strength", 0, one, v(-1, -1), 0, 0},
		{"no strength, with the greatest inverse mass", 0, massMax, v(one, -one), 0, 0},
		{"a strength of 1", 1, one, v(one, -one), 1, -1},
		{"a strength of 1 and a short normal", 1, one, v(1, -1), 0, -1},
		{"a strength of 1 and the greatest inverse mass", 1, massMax, v(one, -one), 16, -16},
		{"a strength of 1 and the least inverse mass", 1, 1, v(one, -one), 0, 0},
		{"a strength of 1 and an inverse mass just too little", 1, one - 1, v(one, -one), 0, 0},
		{"the greatest strength of a static body", most, 0, v(one, -one), 0, 0},
		{"a static body", 100, 0, v(one, one), 0, 0},
		{"the greatest strength and the least inverse mass", most, 1, v(one, -one), 1 << 27, -1 << 27},
		{"the greatest strength and an inverse mass of one", most, one, v(one, -one), 1 << 43, -1 << 43},
		{"the greatest strength and inverse mass", most, massMax, v(one, -one), 1 << 47, -1 << 47},
		{"the greatest strength and inverse mass, on the other side", most, massMax, v(-one, one), -1 << 47, 1 << 47},
		{"the greatest strength and inverse mass with a short normal", most, massMax, v(-1, 1), -1 << 31, 1 << 31},
		{"the greatest strength and inverse mass, less 1", most - 1, massMax - 1, v(one, -one), 140737354137584, -140737354137584},
		{"rounded down the first time only", 3, one / 2, v(one, -one), 1, -1},
		{"rounded down the second time only", 3, one, v(32768, -32768), 1, -2},
		{"rounded down twice", 3, one / 2, v(32768, -32768), 0, -1},
		{"rounded down twice, which makes a difference", 7, one / 4, v(-32768, 32768), -1, 0},
		{"rounded down twice with a normal along an axis", 5, 3 * one / 4, v(65535, -65535), 2, -3},
		{"rounded down to 0 before the direction counts", 1, one / 2, v(-one, -1), 0, 0},
	} {
		t.Run(x.name, func(t *testing.T) {
			checkChange(t, x.j, x.inv, x.normal, x.dx, x.dy)
			checkChange(t, x.j, x.inv, v(x.normal.Y, x.normal.X), x.dy, x.dx)
		})
	}
}

// TestRoundedTwice has changes that would be others if the product of all three numbers were rounded once, or towards 0.
func TestRoundedTwice(t *testing.T) {
	once, zero := 0, 0
	for j := range int64(12) {
		for _, inv := range []int32{one / 8, one / 3, one / 2, 3 * one / 4, one, one + 1} {
			for _, n := range []int32{-one, 1 - one, -46341, -32768, -1, 1, 32768, 46340, one - 1, one} {
				dx, dy := modelChange(j, inv, v(n, 0))
				checkChange(t, j, inv, v(n, 0), dx.Int64(), dy.Int64())
				exact := times(times(big.NewInt(j), big.NewInt(int64(inv))), big.NewInt(int64(n)))
				if floor(exact, one*one).Cmp(dx) != 0 {
					once++
				}
				if new(big.Int).Quo(exact, big.NewInt(one*one)).Cmp(dx) != 0 {
					zero++
				}
			}
		}
	}
	if once < 50 || zero < 50 {
		t.Errorf("only %d changes depend on the number of roundings, and %d on their direction", once, zero)
	}
}

// normals returns normals along the axes, between them, zero, and with the least and the greatest components, also those that no contact has.
func normals() []api.Vec {
	return []api.Vec{
		v(0, 0), v(one, 0), v(-one, 0), v(0, one), v(0, -one),
		v(one, one), v(one, -one), v(-one, one), v(-one, -one),
		v(1, 0), v(0, -1), v(-1, 1), v(one-1, 1-one), v(-one, one-1), v(1, -one),
		v(39321, 52428), v(-39322, -52429), v(-52429, 39321), v(46340, -46341), v(-46341, 46340), v(32768, -32768), v(12345, 64362),
	}
}

// velocities returns velocities at rest, at their limits in all directions, and between them.
func velocities() []api.Vec {
	return []api.Vec{
		v(0, 0), v(1, 0), v(0, -1), v(-1, 1), v(17, -16), v(-12345, 54321),
		v(one, 0), v(-one, one), v(one+1, 1-one), v(-3000000, -70001),
		v(speedMax, 0), v(-speedMax, 0), v(0, speedMax), v(0, -speedMax),
		v(speedMax, speedMax), v(-speedMax, speedMax), v(speedMax, -speedMax), v(-speedMax, -speedMax),
		v(speedMax-1, 1-speedMax), v(1-speedMax, 7654321),
	}
}

func masses() []int32 { return []int32{0, 1, 2, 3, 40000, one - 1, one, one + 1, massMax - 1, massMax} }

func bounces() []int32 { return []int32{0, 1, 32768, 52428, one - 1, one} }

// forEach calls f with contacts of pairs of valid bodies, until the test fails.
func forEach(t *testing.T, f func(c api.Contact, a, b api.Body)) {
	t.Helper()
	n := 0
	for _, normal := range normals() {
		for _, from := range velocities() {
			for _, to := range velocities() {
				for _, low := range masses() {
					for _, high := range masses() {
						l := bounces()
						a := ball(1, low, l[n%len(l)], from)
						b := ball(2, high, l[n/len(l)%len(l)], to)
						n++
						if f(along(normal), a, b); t.Failed() {
							return
						}
					}
				}
			}
		}
	}
}

func TestModel(t *testing.T) {
	signs := map[int]int{}
	static, strong := 0, 0
	forEach(t, func(c api.Contact, a, b api.Body) {
		approach, strength := modelApproach(c.Normal, a, b), modelStrength(c.Normal, a, b)
		checkContact(t, c, a, b, approach.Int64(), strength.Int64())
		if bounce := Bounce(a, b); bounce != modelBounce(a, b) {
			t.Errorf("Bounce(%+v, %+v) = %d", a, b, bounce)
		}
		signs[approach.Sign()]++
		if approach.Sign() < 0 && a.InvMass == 0 && b.InvMass == 0 {
			static++
		}
		if strength.Sign() > 0 {
			strong++
		}
	})
	if min(signs[-1], signs[0], signs[1], strong) < 50000 || static < 1000 {
		t.Errorf("the approaches have the signs %v, %d contacts of static bodies are approaches, and %d have a strength", signs, static, strong)
	}
}

// strengths returns strengths at which roundings and the lengths of products change.
func strengths() []int64 {
	return []int64{0, 1, 2, 3, 5, 100, 32767, 32768, 65535, 65536, 65537, 1<<31 - 1, 1 << 31, 1<<32 + 1, 123456789012, 1 << 42, most - 65537, most - 1, most}
}

func TestChangeModel(t *testing.T) {
	for _, j := range strengths() {
		for _, inv := range masses() {
			for _, n := range normals() {
				dx, dy := modelChange(j, inv, n)
				checkChange(t, j, inv, n, dx.Int64(), dy.Int64())
			}
		}
	}
}

// A source returns scattered numbers, the same ones in each run.
type source uint64

// upTo returns a number from -limit to limit, of which there are many short ones.
func (s *source) upTo(limit int64) int64 {
	next := func() uint64 {
		*s = *s*6364136223846793005 + 1442695040888963407
		return uint64(*s) >> 17
	}
	length := next() % 48
	n := int64(next()>>length) % (limit + 1)
	if next()%2 == 0 {
		return -n
	}
	return n
}

func (s *source) vector(limit int64) api.Vec {
	return v(int32(s.upTo(limit)), int32(s.upTo(limit)))
}

// from0 returns a number from 0 to limit.
func (s *source) from0(limit int64) int64 {
	n := s.upTo(limit)
	return max(n, -n)
}

func TestScattered(t *testing.T) {
	s := source(16)
	strong := 0
	for range 100000 {
		c := along(s.vector(one))
		a := ball(1, int32(s.from0(massMax)), int32(s.from0(one)), s.vector(speedMax))
		b := ball(2, int32(s.from0(massMax)), int32(s.from0(one)), s.vector(speedMax))
		approach, strength := modelApproach(c.Normal, a, b), modelStrength(c.Normal, a, b)
		checkContact(t, c, a, b, approach.Int64(), strength.Int64())
		if strength.Sign() > 0 {
			strong++
		}
		j, inv := s.from0(most), int32(s.from0(massMax))
		dx, dy := modelChange(j, inv, c.Normal)
		checkChange(t, j, inv, c.Normal, dx.Int64(), dy.Int64())
		if t.Failed() {
			return
		}
	}
	if strong < 10000 {
		t.Errorf("only %d contacts have a strength", strong)
	}
}

// P16.2

func TestBounds(t *testing.T) {
	var strongest, fastest int64
	forEach(t, func(c api.Contact, a, b api.Body) {
		j := Strength(c, a, b)
		if j < 0 || j > most {
			t.Errorf("Strength(%v, %+v, %+v) = %d", c.Normal, a, b, j)
		}
		strongest = max(strongest, j)
		for _, inv := range []int32{a.InvMass, b.InvMass} {
			dx, dy := Change(j, inv, c.Normal)
			if max(dx, dy) > 1<<28 || min(dx, dy) < -1<<28 {
				t.Errorf("Change(%d, %d, %v) = %d, %d", j, inv, c.Normal, dx, dy)
			}
			fastest = max(fastest, dx, -dx, dy, -dy)
		}
	})
	// With the greatest approach, 2^26, and the greatest bounce, the strength is 2^43 for the least inverse mass, and the change 2^27.
	if strongest != most || fastest != 1<<27 {
		t.Errorf("the greatest strength is %d, and the greatest component of a change %d", strongest, fastest)
	}
}

// TestGreatest has the greatest strength, and the greatest change that a strength of two bodies leads to.
func TestGreatest(t *testing.T) {
	a, b := ball(1, 1, one, v(speedMax, speedMax)), ball(2, 0, 0, v(-speedMax, -speedMax))
	checkContact(t, along(v(one, one)), a, b, -1<<26, most)
	checkChange(t, most, 1, v(one, one), 1<<27, 1<<27)
	a.InvMass, b.InvMass = massMax, 0
	checkContact(t, along(v(one, one)), a, b, -1<<26, 1<<23)
	checkChange(t, 1<<23, massMax, v(-one, one), -1<<27, 1<<27)
	a.Vel, b.Vel = b.Vel, a.Vel
	checkContact(t, along(v(one, one)), a, b, 1<<26, 0)
	checkContact(t, along(v(-one, -one)), a, b, -1<<26, 1<<23)
}

// TestBeyond calls the functions with arguments for which nothing is promised, and only the rule holds that no function panics.
func TestBeyond(t *testing.T) {
	numbers := []int32{math.MinInt32, math.MinInt32 + 1, -one - 1, -1, 0, 1, one + 1, massMax + 1, speedMax + 1, math.MaxInt32}
	var bodies []api.Body
	for _, x := range numbers {
		for _, y := range numbers {
			bodies = append(bodies, ball(2, x, y, v(y, x)), ball(1, y, -1, v(x, x)), ball(1, one, x, v(x, y)))
		}
	}
	for _, x := range numbers {
		for _, a := range bodies {
			for _, b := range bodies {
				c := along(v(x, a.Vel.X))
				Approach(c, a, b)
				Bounce(a, b)
				Strength(c, a, b)
			}
			for _, j := range []int64{math.MinInt64, -1, 0, 1, most + 1, math.MaxInt64} {
				Change(j, x, a.Vel)
			}
		}
	}
}
