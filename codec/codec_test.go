package codec

import (
	"bytes"
	"fmt"
	"math"
	"slices"
	"testing"

	"billiard/api"
)

// The limits and sizes of the chapters are written out, so that they are checked as well.
const (
	one       = 65536
	worldMax  = 1073741824
	speedMax  = 16777216
	radiusMin = 4096
	radiusMax = 4194304
	axisMax   = 4194304
	massMax   = 1048576
	capacity  = 4096
	greatest  = math.MaxUint32 // key
	head      = 8              // bytes before the bodies
	each      = 40             // bytes of a body
)

func v(x, y int32) api.Vec { return api.Vec{X: x, Y: y} }

func bodies(l ...api.Body) []api.Body { return l }

// ball returns a circle with the radius 1, the mass 1 and the bounce 0.
func ball(key uint32) api.Body {
	return api.Body{Key: key, Radius: one, InvMass: one}
}

// rod returns a capsule, all parts of which differ from each other and from 0.
func rod(key uint32) api.Body {
	return api.Body{Key: key, Radius: 70001, Axis: v(30002, -40003), InvMass: 50004, Bounce: 60005, Pos: v(-7000006, 80000007), Vel: v(900008, -1000009)}
}

// many returns n bodies with the keys 3, 6, ..
func many(n int) []api.Body {
	l := make([]api.Body, 0, n)
	for i := range n {
		b := rod(uint32(i+1) * 3)
		b.Pos = v(int32(i)*7919, int32(i)*-104729)
		l = append(l, b)
	}
	return l
}

// short returns a text for a message about lists, which may be long.
func short(x any) string {
	text := fmt.Sprintf("%v", x)
	return text[:min(len(text), 800)]
}

// The model: the definitions of layers 5, 7 and 21 by division.

// A number is a field of a body with its limits.
type number struct {
	name        string
	of          func(b *api.Body) *int32
	least, most int32
	err         api.Errno
}

// numbers returns the fields of a body but the key, in the order of the encoding.
func numbers() []number {
	return []number{
		{"radius", func(b *api.Body) *int32 { return &b.Radius }, radiusMin, radiusMax, 4},
		{"axis x", func(b *api.Body) *int32 { return &b.Axis.X }, -axisMax, axisMax, 5},
		{"axis y", func(b *api.Body) *int32 { return &b.Axis.Y }, -axisMax, axisMax, 5},
		{"mass", func(b *api.Body) *int32 { return &b.InvMass }, 0, massMax, 6},
		{"bounce", func(b *api.Body) *int32 { return &b.Bounce }, 0, one, 7},
		{"place x", func(b *api.Body) *int32 { return &b.Pos.X }, -worldMax, worldMax, 8},
		{"place y", func(b *api.Body) *int32 { return &b.Pos.Y }, -worldMax, worldMax, 8},
		{"speed x", func(b *api.Body) *int32 { return &b.Vel.X }, -speedMax, speedMax, 9},
		{"speed y", func(b *api.Body) *int32 { return &b.Vel.Y }, -speedMax, speedMax, 9},
	}
}

// modelWord returns the 4 bytes of an integer, the most significant one first, for negative ones those of the integer plus 2^32.
func modelWord(n int64) []byte {
	if n < 0 {
		n += 4294967296
	}
	b := make([]byte, 4)
	for i := 3; i >= 0; i-- {
		b[i] = byte(n % 256)
		n /= 256
	}
	return b
}

// modelValue returns the number from 0 to 2^32 - 1 with these bytes.
func modelValue(b []byte) int64 {
	n := int64(0)
	for _, x := range b {
		n = n*256 + int64(x)
	}
	return n
}

// modelSigned returns the number from -2^31 to 2^31 - 1 with these bytes.
func modelSigned(b []byte) int32 {
	n := modelValue(b)
	if n >= 2147483648 {
		n -= 4294967296
	}
	return int32(n)
}

// modelEncode returns the encoding of bodies, which are a view or not.
func modelEncode(l []api.Body) []byte {
	b := append([]byte{66, 73, 76, 49}, modelWord(int64(len(l)))...)
	for _, x := range l {
		b = append(b, modelWord(int64(x.Key))...)
		for _, n := range numbers() {
			b = append(b, modelWord(int64(*n.of(&x)))...)
		}
	}
	return b
}

// modelBodies returns the bodies that are encoded, and whether they are.
func modelBodies(b []byte) ([]api.Body, bool) {
	if len(b) < head || !bytes.Equal(b[:4], []byte{66, 73, 76, 49}) || int64(len(b)) != head+each*modelValue(b[4:8]) {
		return nil, false
	}
	var l []api.Body
	for at := head; at < len(b); at += each {
		x := api.Body{Key: uint32(modelValue(b[at : at+4]))}
		for i, n := range numbers() {
			*n.of(&x) = modelSigned(b[at+4+4*i : at+8+4*i])
		}
		l = append(l, x)
	}
	return l, true
}

// modelCheck returns the error of layer 7.
func modelCheck(l []api.Body) api.Errno {
	if len(l) > capacity {
		return 12
	}
	all := numbers()
	for _, x := range l {
		for _, n := range all {
			if f := *n.of(&x); f < n.least || f > n.most {
				return n.err
			}
		}
	}
	for i, x := range l {
		if i > 0 && l[i-1].Key >= x.Key {
			return 10
		}
	}
	return 0
}

// checkEncode compares the encoding of bodies with the expected one, or with nil beside an error.
func checkEncode(t *testing.T, l []api.Body, want []byte, err api.Errno) {
	t.Helper()
	if got, e := Encode(l); e != err || !bytes.Equal(got, want) || err != 0 && got != nil {
		t.Errorf("Encode(%s) = %s %d, want %s %d", short(l), short(got), e, short(want), err)
	}
}

// checkDecode compares the view of an encoding with the expected one, or with nil beside an error.
func checkDecode(t *testing.T, b []byte, want []api.Body, err api.Errno) {
	t.Helper()
	if got, e := Decode(b); e != err || !slices.Equal(got, want) || err != 0 && got != nil {
		t.Errorf("Decode(%s) = %s %d, want %s %d", short(b), short(got), e, short(want), err)
	}
}

// checkBodies compares both functions with the model, for bodies that are a view or not, and returns the error.
func checkBodies(t *testing.T, l []api.Body) api.Errno {
	t.Helper()
	b, err := modelEncode(l), modelCheck(l)
	if err != 0 {
		checkEncode(t, l, nil, err)
		checkDecode(t, b, nil, err)
		return err
	}
	checkEncode(t, l, b, 0)
	checkDecode(t, b, l, 0)
	return 0
}

// checkBytes compares Decode with the model, and Encode of its result with the bytes. It returns the error.
func checkBytes(t *testing.T, b []byte) api.Errno {
	t.Helper()
	l, ok := modelBodies(b)
	err := modelCheck(l)
	if !ok {
		err = 13
	}
	if err != 0 {
		checkDecode(t, b, nil, err)
		return err
	}
	checkDecode(t, b, l, 0)
	checkEncode(t, l, b, 0)
	return 0
}

// checkForm checks that bytes are malformed.
func checkForm(t *testing.T, b []byte) {
	t.Helper()
	checkDecode(t, b, nil, api.ErrForm)
	if err := checkBytes(t, b); err != 13 {
		t.Errorf("the model has the error %d for %s", err, short(b))
	}
}

// replaced returns bytes of which those at an index are replaced.
func replaced(b []byte, at int, by ...byte) []byte {
	b = slices.Clone(b)
	copy(b[at:], by)
	return b
}

// join returns new bytes that consist of parts.
func join(parts ...[]byte) []byte { return slices.Concat(parts...) }

// P21.1 and P21.2

func TestExample(t *testing.T) {
	checkEncode(t, nil, []byte("BIL1\x00\x00\x00\x00"), api.OK)
	checkDecode(t, []byte("BIL1\x00\x00\x00\x00"), nil, api.OK)
}

func TestEmpty(t *testing.T) {
	empty := []byte{66, 73, 76, 49, 0, 0, 0, 0}
	for _, l := range [][]api.Body{nil, {}, make([]api.Body, 0, 5), many(3)[:0]} {
		checkEncode(t, l, empty, api.OK)
		checkBodies(t, l)
	}
}

// TestLiteral has encodings that are written out byte by byte.
func TestLiteral(t *testing.T) {
	first := api.Body{Key: 0x01020304, Radius: 0x00112233, Axis: v(0x00213243, -0x00213243), InvMass: 0x000a0b0c, Bounce: 0x0000d0e0, Pos: v(0x31415926, -0x27182818), Vel: v(0x00fedcba, -0x00fedcba)}
	word := []byte{
		0x01, 0x02, 0x03, 0x04,
		0x00, 0x11, 0x22, 0x33,
		0x00, 0x21, 0x32, 0x43,
		0xff, 0xde, 0xcd, 0xbd,
		0x00, 0x0a, 0x0b, 0x0c,
		0x00, 0x00, 0xd0, 0xe0,
		0x31, 0x41, 0x59, 0x26,
		0xd8, 0xe7, 0xd7, 0xe8,
		0x00, 0xfe, 0xdc, 0xba,
		0xff, 0x01, 0x23, 0x46,
	}
	last := api.Body{Key: greatest, Radius: radiusMin, Axis: v(-1, -2), Pos: v(-3, -256), Vel: v(-257, -65536)}
	end := []byte{
		0xff, 0xff, 0xff, 0xff,
		0x00, 0x00, 0x10, 0x00,
		0xff, 0xff, 0xff, 0xff,
		0xff, 0xff, 0xff, 0xfe,
		0x00, 0x00, 0x00, 0x00,
		0x00, 0x00, 0x00, 0x00,
		0xff, 0xff, 0xff, 0xfd,
		0xff, 0xff, 0xff, 0x00,
		0xff, 0xff, 0xfe, 0xff,
		0xff, 0xff, 0x00, 0x00,
	}
	for _, x := range []struct {
		l []api.Body
		b []byte
	}{
		{bodies(first), join([]byte("BIL1\x00\x00\x00\x01"), word)},
		{bodies(last), join([]byte("BIL1\x00\x00\x00\x01"), end)},
		{bodies(first, last), join([]byte("BIL1\x00\x00\x00\x02"), word, end)},
	} {
		checkEncode(t, x.l, x.b, api.OK)
		checkDecode(t, x.b, x.l, api.OK)
		checkBodies(t, x.l)
	}
	checkEncode(t, bodies(last, first), nil, api.ErrDuplicate)
	checkDecode(t, join([]byte("BIL1\x00\x00\x00\x02"), end, word), nil, api.ErrDuplicate)
}

// TestFields sets each field alone, so that none has the place of another one.
func TestFields(t *testing.T) {
	for i, n := range numbers() {
		l := bodies(api.Body{Key: 9, Radius: radiusMin})
		*n.of(&l[0]) = 5003
		want := join([]byte("BIL1\x00\x00\x00\x01"), []byte{0, 0, 0, 9}, []byte{0, 0, 16, 0}, make([]byte, 32))
		copy(want[12+4*i:], []byte{0, 0, 19, 139})
		checkEncode(t, l, want, api.OK)
		checkDecode(t, want, l, api.OK)
	}
}

func TestKeys(t *testing.T) {
	for _, x := range []struct {
		key  uint32
		want []byte
	}{
		{0, []byte{0, 0, 0, 0}}, {1, []byte{0, 0, 0, 1}}, {255, []byte{0, 0, 0, 255}}, {256, []byte{0, 0, 1, 0}}, {1 << 16, []byte{0, 1, 0, 0}}, {1 << 24, []byte{1, 0, 0, 0}},
		{math.MaxInt32, []byte{127, 255, 255, 255}}, {1 << 31, []byte{128, 0, 0, 0}}, {greatest - 1, []byte{255, 255, 255, 254}}, {greatest, []byte{255, 255, 255, 255}},
	} {
		l := bodies(rod(x.key))
		got, err := Encode(l)
		if len(got) != head+each || !bytes.Equal(got[8:12], x.want) || err != api.OK {
			t.Errorf("Encode of the key %d is %v %d", x.key, got, err)
		}
		checkBodies(t, l)
	}
	// The order of keys is that of numbers without a sign.
	checkEncode(t, bodies(ball(1<<31), ball(1)), nil, api.ErrDuplicate)
	if err := checkBodies(t, bodies(ball(0), ball(1), ball(math.MaxInt32), ball(1<<31), ball(greatest))); err != 0 {
		t.Errorf("keys in order have the error %d", err)
	}
}

func TestLimits(t *testing.T) {
	for _, n := range numbers() {
		for _, x := range []struct {
			value int32
			err   api.Errno
		}{
			{n.least, 0}, {n.least + 1, 0}, {n.most - 1, 0}, {n.most, 0},
			{n.least - 1, n.err}, {n.most + 1, n.err}, {math.MinInt32, n.err}, {math.MaxInt32, n.err},
		} {
			b := rod(7)
			*n.of(&b) = x.value
			for _, l := range [][]api.Body{bodies(b), bodies(rod(6), b), bodies(b, rod(8)), bodies(ball(0), b, ball(greatest))} {
				if err := checkBodies(t, l); err != x.err {
					t.Errorf("%s %d: error %d", n.name, x.value, err)
				}
			}
		}
	}
}

// TestExtremes has bodies whose fields are all at a limit.
func TestExtremes(t *testing.T) {
	least, most := api.Body{Key: 0}, api.Body{Key: greatest}
	for _, n := range numbers() {
		*n.of(&least), *n.of(&most) = n.least, n.most
	}
	for _, l := range [][]api.Body{bodies(least), bodies(most), bodies(least, most)} {
		if err := checkBodies(t, l); err != 0 {
			t.Errorf("%v has the error %d", l, err)
		}
	}
	want := []byte("BIL1\x00\x00\x00\x02" +
		"\x00\x00\x00\x00\x00\x00\x10\x00\xff\xc0\x00\x00\xff\xc0\x00\x00\x00\x00\x00\x00\x00\x00\x00\x00\xc0\x00\x00\x00\xc0\x00\x00\x00\xff\x00\x00\x00\xff\x00\x00\x00" +
		"\xff\xff\xff\xff\x00\x40\x00\x00\x00\x40\x00\x00\x00\x40\x00\x00\x00\x10\x00\x00\x00\x01\x00\x00\x40\x00\x00\x00\x40\x00\x00\x00\x01\x00\x00\x00\x01\x00\x00\x00")
	checkEncode(t, bodies(least, most), want, api.OK)
	checkDecode(t, want, bodies(least, most), api.OK)
}

func TestOrderOfKeys(t *testing.T) {
	for _, keys := range [][]uint32{{1, 1}, {0, 0}, {greatest, greatest}, {2, 1}, {greatest, 0}, {1, 2, 2}, {1, 1, 2}, {1, 3, 2}, {2, 1, 3}, {1, 2, 1}, {3, 2, 1}} {
		var l []api.Body
		for i, key := range keys {
			b := rod(key)
			b.Pos.X = int32(i)
			l = append(l, b)
		}
		checkEncode(t, l, nil, api.ErrDuplicate)
		checkDecode(t, modelEncode(l), nil, api.ErrDuplicate)
		if err := checkBodies(t, l); err != 10 {
			t.Errorf("the keys %v have the error %d", keys, err)
		}
	}
}

// wrong returns bodies with each of the errors of a body, and the errors.
func wrong(key uint32) (l []api.Body, errs []api.Errno) {
	for _, n := range numbers() {
		for _, value := range []int32{n.least - 1, n.most + 1} {
			b := rod(key)
			*n.of(&b) = value
			l, errs = append(l, b), append(errs, n.err)
		}
	}
	return l, errs
}

// TestFirstError has two bodies with errors: that of the first one counts, and neither the order of the errors nor the keys do.
func TestFirstError(t *testing.T) {
	for _, keys := range [][]uint32{{1, 2}, {2, 2}, {2, 1}} {
		first, errs := wrong(keys[0])
		second, _ := wrong(keys[1])
		for i, a := range first {
			for _, b := range second {
				for _, l := range [][]api.Body{bodies(a, b), bodies(rod(0), a, b), bodies(a, rod(keys[1])), bodies(rod(keys[1]), a)} {
					checkEncode(t, l, nil, errs[i])
					checkDecode(t, modelEncode(l), nil, errs[i])
				}
			}
		}
	}
}

// TestSeveralErrors has one body with two errors: the one that layer 5 names first counts.
func TestSeveralErrors(t *testing.T) {
	all := numbers()
	for i, first := range all {
		for _, second := range all[i:] {
			b := rod(5)
			*second.of(&b) = second.most + 1
			*first.of(&b) = first.least - 1
			checkEncode(t, bodies(b), nil, first.err)
			checkDecode(t, modelEncode(bodies(b)), nil, first.err)
		}
	}
}

func TestGreatestNumber(t *testing.T) {
	for _, n := range []int{capacity - 1, capacity} {
		l := many(n)
		b, err := Encode(l)
		if err != api.OK || len(b) != head+n*each || !bytes.Equal(b[:8], join([]byte("BIL1"), modelWord(int64(n)))) {
			t.Errorf("%d bodies: %d bytes, error %d", n, len(b), err)
		}
		if err := checkBodies(t, l); err != 0 {
			t.Errorf("%d bodies have the error %d", n, err)
		}
	}
}

// TestTooMany has one body more than a view: the error of their number comes before those of the bodies and keys.
func TestTooMany(t *testing.T) {
	for _, n := range []int{capacity + 1, 2 * capacity, 65536} {
		l := many(n)
		checkEncode(t, l, nil, api.ErrFull)
		checkDecode(t, modelEncode(l), nil, api.ErrFull)
		l[0].Radius, l[1].Key, l[n-1].Vel.Y = 0, 0, math.MinInt32
		checkEncode(t, l, nil, api.ErrFull)
		checkDecode(t, modelEncode(l), nil, api.ErrFull)
	}
	l := make([]api.Body, capacity+1)
	checkEncode(t, l, nil, api.ErrFull)
	checkDecode(t, modelEncode(l), nil, api.ErrFull)
	checkEncode(t, l[:capacity], nil, api.ErrRadius)
	checkDecode(t, modelEncode(l[:capacity]), nil, api.ErrRadius)
}

// TestLastOfMany has errors at the end of the greatest number of bodies.
func TestLastOfMany(t *testing.T) {
	l := many(capacity)
	l[capacity-1].Key = l[capacity-2].Key
	checkEncode(t, l, nil, api.ErrDuplicate)
	checkDecode(t, modelEncode(l), nil, api.ErrDuplicate)
	l[capacity-1].Vel.Y = speedMax + 1
	checkEncode(t, l, nil, api.ErrSpeed)
	checkDecode(t, modelEncode(l), nil, api.ErrSpeed)
}

// P21.2: malformed bytes

func TestShort(t *testing.T) {
	checkForm(t, nil)
	text := []byte("BIL1\x00\x00\x00\x00")
	for n := range len(text) {
		checkForm(t, text[:n])
		checkForm(t, text[:n:n])
		checkForm(t, make([]byte, n))
		checkForm(t, bytes.Repeat([]byte{255}, n))
	}
	for _, b := range []string{"BIL", "BIL1", "BIL1\x00\x00\x00", "bil1\x00\x00\x00\x00", "1LIB\x00\x00\x00\x00", "\x00BIL1\x00\x00\x00\x00", " BIL1\x00\x00\x00", "\x00\x00\x00\x00BIL1", "BIL1\x00\x00\x00\x000", "BIL10000"} {
		checkForm(t, []byte(b))
	}
}

// TestLetters has another letter in each of the four places.
func TestLetters(t *testing.T) {
	for _, l := range [][]api.Body{nil, bodies(ball(1)), many(2)} {
		b := modelEncode(l)
		for at := range 4 {
			for x := range 256 {
				if byte(x) != b[at] {
					checkForm(t, replaced(b, at, byte(x)))
				}
			}
		}
	}
}

// TestLengths has each length from 0 to that of three bodies, with each number of bodies from 0 to 3.
func TestLengths(t *testing.T) {
	all := modelEncode(many(3))
	for n := range 4 {
		b := replaced(all, 4, modelWord(int64(n))...)
		for length := range len(b) + 1 {
			if length == head+n*each {
				checkDecode(t, b[:length], many(3)[:n], api.OK)
			} else {
				checkForm(t, b[:length])
				checkForm(t, slices.Clone(b[:length]))
			}
		}
	}
}

// TestOtherLengths has encodings that are too long or too short by some bytes.
func TestOtherLengths(t *testing.T) {
	for _, n := range []int{0, 1, 2, 5, 100, capacity, capacity + 1} {
		b := modelEncode(many(n))
		for _, more := range []int{1, 2, 3, 4, 7, 8, 39, 40, 41, 80} {
			checkForm(t, join(b, make([]byte, more)))
			if more <= len(b) {
				checkForm(t, b[:len(b)-more])
				checkForm(t, b[more:])
			}
		}
		checkForm(t, join([]byte{0}, b))
		checkForm(t, join(b, b))
	}
}

// TestNumbers has numbers of bodies that are not those of the bytes, each byte of the number among them.
func TestNumbers(t *testing.T) {
	for _, l := range [][]api.Body{nil, bodies(ball(1)), many(2), many(256), many(capacity)} {
		b, n := modelEncode(l), int64(len(l))
		for _, other := range []int64{0, 1, 2, 3, 255, 256, 257, capacity - 1, capacity, capacity + 1, 65536, 1 << 24, math.MaxInt32, 1 << 31, greatest, n - 1, n + 1, n + 65536, n + 1<<24, n + 1<<31, greatest - n} {
			if other != n && other >= 0 {
				checkForm(t, replaced(b, 4, modelWord(other)...))
			}
		}
		for at := range 4 {
			for x := range 256 {
				if byte(x) != b[4+at] && len(l) < 3 {
					checkForm(t, replaced(b, 4+at, byte(x)))
				}
			}
		}
	}
}

// TestGreatNumbers has numbers whose length is beyond 32 bits, and the same as that of the bytes in the last 32 bits.
func TestGreatNumbers(t *testing.T) {
	for _, l := range [][]api.Body{nil, bodies(ball(1)), many(2), many(capacity), many(capacity + 1)} {
		for k := int64(1); k < 8; k++ {
			n := int64(len(l)) + k*(1<<29)
			if (head+each*n)%(1<<32) != head+each*int64(len(l)) || head+each*n < 1<<32 {
				t.Errorf("the length for %d is not that of %d bodies in the last 32 bits", n, len(l))
			}
			checkForm(t, replaced(modelEncode(l), 4, modelWord(n)...))
		}
	}
	// For each short length the numbers whose length is the same in the last 32 bits, or in the last 16.
	tries := 0
	for length := head; length <= head+3*each; length++ {
		b := replaced(modelEncode(many(3))[:length], 0)
		for k := int64(1); k <= each; k++ {
			for _, size := range []int64{k << 32, k << 16} {
				if n := size + int64(length) - head; n%each == 0 && n/each <= greatest {
					checkForm(t, replaced(b, 4, modelWord(n/each)...))
					tries++
				}
			}
		}
	}
	if tries < 200 {
		t.Errorf("only %d numbers were tried", tries)
	}
}

// TestMalformedFirst has malformed bytes with bodies that have errors.
func TestMalformedFirst(t *testing.T) {
	first, _ := wrong(1)
	second, _ := wrong(1)
	for i, a := range first {
		b := modelEncode(bodies(a, second[len(second)-1-i]))
		for _, x := range [][]byte{b[:len(b)-1], join(b, []byte{0}), replaced(b, 3, '2'), replaced(b, 7, 1), replaced(b, 7, 3), replaced(b, 4, 255), b[:head+each], b[:head]} {
			checkForm(t, x)
		}
	}
	full := modelEncode(many(capacity + 1))
	checkForm(t, full[:len(full)-1])
	checkForm(t, join(full, []byte{0}))
	checkForm(t, replaced(full, 7, 2))
}

// P21.3

func TestSize(t *testing.T) {
	for _, x := range [][2]int{{0, 8}, {1, 48}, {2, 88}, {3, 128}, {100, 4008}, {4095, 163808}, {4096, 163848}} {
		if got := Size(x[0]); got != x[1] {
			t.Errorf("Size(%d) = %d, want %d", x[0], got, x[1])
		}
	}
}

func TestSizeOfEncodings(t *testing.T) {
	all := many(capacity)
	for n := range capacity + 1 {
		b, err := Encode(all[:n])
		if err != api.OK || Size(n) != len(b) || Size(n) != head+each*n {
			t.Fatalf("Size(%d) = %d, but the encoding has %d bytes and the error %d", n, Size(n), len(b), err)
		}
	}
}

// P21.4

// A source yields numbers that are scattered, but the same in each run.
type source uint64

func (s *source) next() uint64 {
	*s = *s*6364136223846793005 + 1442695040888963407
	return uint64(*s >> 33)
}

func (s *source) below(n int64) int64 { return int64(s.next() % uint64(n)) }

// field returns a number from least to most, which is often a limit, or close to 0.
func (s *source) field(least, most int32) int32 {
	switch s.below(5) {
	case 0:
		return least
	case 1:
		return most
	case 2:
		return max(least, min(most, int32(s.below(512)-256)))
	}
	return int32(int64(least) + s.below(int64(most)-int64(least)+1))
}

func (s *source) body(key uint32) api.Body {
	b := api.Body{Key: key}
	for _, n := range numbers() {
		*n.of(&b) = s.field(n.least, n.most)
	}
	return b
}

func (s *source) view(n int) []api.Body {
	var l []api.Body
	key := s.below(1 << 20)
	for range n {
		l = append(l, s.body(uint32(key)))
		key += 1 + s.below(1<<24)
	}
	return l
}

func TestScattered(t *testing.T) {
	s := source(21)
	counts := make(map[api.Errno]int)
	for i := range 3000 {
		l := s.view(i % 12)
		counts[checkBodies(t, l)]++
		if len(l) < 2 {
			continue
		}
		at := int(s.below(int64(len(l))))
		l[at].Key = l[s.below(int64(len(l)))].Key + uint32(s.below(3)) - 1
		counts[checkBodies(t, l)]++
		all := numbers()
		n := all[s.below(int64(len(all)))]
		*n.of(&l[at]) = int32(s.below(1<<32) - 1<<31)
		counts[checkBodies(t, l)]++
	}
	for _, err := range []api.Errno{0, 4, 5, 6, 7, 8, 9, 10} {
		if counts[err] < 100 {
			t.Errorf("the error %d occurred %d times only", err, counts[err])
		}
	}
}

// TestScatteredBytes changes bytes of encodings.
func TestScatteredBytes(t *testing.T) {
	s := source(22)
	counts := make(map[api.Errno]int)
	for i := range 3000 {
		b := modelEncode(s.view(i%4 + 1))
		for range 1 + i%3 {
			from := s.below(2) * head
			b[from+s.below(int64(len(b))-from)] = byte(s.below(256))
		}
		counts[checkBytes(t, b)]++
		counts[checkBytes(t, b[:s.below(int64(len(b)))])]++
	}
	for _, err := range []api.Errno{0, 4, 5, 6, 7, 8, 9, 10, 13} {
		if counts[err] < 20 {
			t.Errorf("the error %d occurred %d times only", err, counts[err])
		}
	}
}

// TestEachByte gives each byte of an encoding with two bodies all values.
func TestEachByte(t *testing.T) {
	b := modelEncode(bodies(rod(1<<24), rod(2<<24)))
	seen := map[string]bool{}
	for at := range b {
		for x := range 256 {
			c := replaced(b, at, byte(x))
			if checkBytes(t, c) != 0 {
				continue
			}
			l, _ := Decode(c)
			seen[fmt.Sprint(l)] = true
		}
	}
	if len(seen) < 1000 {
		t.Errorf("only %d views were decoded", len(seen))
	}
}

func TestRoundTrips(t *testing.T) {
	s := source(23)
	for _, l := range [][]api.Body{nil, bodies(ball(0)), bodies(rod(greatest)), many(2), many(capacity), s.view(100), s.view(200)} {
		b, err := Encode(l)
		if err != api.OK || len(b) != Size(len(l)) {
			t.Errorf("%d bodies have %d bytes and the error %d", len(l), len(b), err)
		}
		w, err := Decode(b)
		if err != api.OK || !slices.Equal(w, l) {
			t.Errorf("Decode(Encode(%s)) = %s %d", short(l), short(w), err)
		}
		c, err := Encode(w)
		if err != api.OK || !bytes.Equal(b, c) {
			t.Errorf("Encode(Decode(%s)) = %s %d", short(b), short(c), err)
		}
	}
}

// TestDifferent has views that differ in little: in one field of one body, in a part of the bodies, or in their number.
func TestDifferent(t *testing.T) {
	var views [][]api.Body
	base := many(3)
	for n := range 4 {
		views = append(views, base[:n], base[n:])
	}
	for i := range base {
		views = append(views, slices.Concat(base[:i], base[i+1:]))
		for _, by := range []uint32{1, 2} {
			l := slices.Clone(base)
			l[i].Key += by
			views = append(views, l)
		}
		for _, n := range numbers() {
			for _, by := range []int32{1, -1, 256} {
				l := slices.Clone(base)
				*n.of(&l[i]) += by
				views = append(views, l)
			}
			l := slices.Clone(base)
			*n.of(&l[i]) *= -1
			views = append(views, l)
		}
	}
	byText, different := map[string]string{}, map[string]bool{}
	for _, l := range views {
		b, err := Encode(l)
		if err != api.OK {
			continue
		}
		text := fmt.Sprint(l)
		if other, ok := byText[string(b)]; ok && other != text {
			t.Errorf("%s and %s have the encoding %v", text, other, b)
		}
		byText[string(b)], different[text] = text, true
	}
	if len(different) < 80 || len(byText) != len(different) {
		t.Errorf("%d views have %d encodings", len(different), len(byText))
	}
}

// P21.5

// filled returns a slice with unused capacity that holds something.
func filled[T any](l []T, rest T) []T {
	all := append(slices.Clone(l), rest, rest, rest)
	return all[:len(l)]
}

func TestArguments(t *testing.T) {
	bad := many(3)
	bad[1].Bounce = -1
	for _, l := range [][]api.Body{nil, many(1), many(2), many(100), many(capacity), many(capacity + 1), bad, bodies(ball(2), ball(1)), bodies(ball(1), ball(1))} {
		given := filled(l, rod(17))
		before := slices.Clone(given[:cap(given)])
		Encode(given)
		if !slices.Equal(given[:cap(given)], before) {
			t.Errorf("Encode(%s) modified its argument", short(l))
		}
		for _, b := range [][]byte{modelEncode(l), modelEncode(l)[:7], replaced(modelEncode(l), 7, 99)} {
			bytesGiven := filled(b, 171)
			bytesBefore := slices.Clone(bytesGiven[:cap(bytesGiven)])
			Decode(bytesGiven)
			if !bytes.Equal(bytesGiven[:cap(bytesGiven)], bytesBefore) {
				t.Errorf("Decode(%s) modified its argument", short(b))
			}
		}
	}
}

// overwrite overwrites all that a slice has room for.
func overwrite[T any](l []T, x T) {
	l = l[:cap(l)]
	for i := range l {
		l[i] = x
	}
}

func TestResultsAreNew(t *testing.T) {
	for _, l := range [][]api.Body{nil, {}, many(1), many(2), many(100)} {
		given := filled(l, rod(17))
		before := slices.Clone(given[:cap(given)])
		b, _ := Encode(given)
		overwrite(b, 90)
		if !slices.Equal(given[:cap(given)], before) {
			t.Errorf("a result of Encode has memory of %s", short(l))
		}
		checkEncode(t, given, modelEncode(l), api.OK)

		data := filled(modelEncode(l), 171)
		dataBefore := slices.Clone(data[:cap(data)])
		w, _ := Decode(data)
		overwrite(w, rod(91))
		if !bytes.Equal(data[:cap(data)], dataBefore) {
			t.Errorf("a result of Decode has memory of %s", short(data))
		}
		checkDecode(t, data, l, api.OK)
	}
	checkEncode(t, nil, []byte("BIL1\x00\x00\x00\x00"), api.OK)
	checkDecode(t, []byte("BIL1\x00\x00\x00\x00"), nil, api.OK)
}

func TestResultsStay(t *testing.T) {
	for _, l := range [][]api.Body{nil, many(1), many(2), many(100)} {
		given, data := slices.Clone(l), modelEncode(l)
		b, _ := Encode(given)
		w, _ := Decode(data)
		overwrite(given, rod(5))
		overwrite(data, 6)
		for _, other := range [][]api.Body{nil, bodies(ball(9)), many(3), many(101)} {
			Encode(other)
			Decode(modelEncode(other))
			x, _ := Encode(l)
			overwrite(x, 77)
			y, _ := Decode(modelEncode(l))
			overwrite(y, ball(78))
		}
		if !bytes.Equal(b, modelEncode(l)) || !slices.Equal(w, l) {
			t.Errorf("results for %s changed", short(l))
		}
	}
}

// TestBeyond asks for sizes of which nothing is said but that there is no panic.
func TestBeyond(t *testing.T) {
	for _, n := range []int{-1, -capacity, capacity + 1, math.MaxInt32, math.MinInt32, math.MaxInt, math.MinInt} {
		Size(n)
	}
}
