package table_test

import (
	"math"
	"math/bits"
	"reflect"
	"slices"
	"testing"

	"caesura/api"
	"caesura/table"
)

// noBytes are numbers that no byte holds, some of which would seem to be small ones if they were cut.
var noBytes = []int{math.MinInt, -1 << 32, -256, -255, -1, 256, 257, 511, 512, 1 << 16, 1 << 24, 1 << 32, 1<<32 | 1, 1 << 40, math.MaxInt}

// noFirsts are numbers that three bytes do not hold.
var noFirsts = []int{math.MinInt, -1 << 32, -1 << 24, -1, 1 << 24, 1<<24 | 1, 1 << 25, 1 << 32, 1<<32 | 1, math.MaxInt}

// two is an ordinary table.
func two() api.Table {
	return api.Table{
		Classes: 2,
		Bands:   []api.Band{{First: 0, Class: 0}, {First: 0x41, Class: 1}, {First: 0x1f600, Class: 0}},
		Next:    [][]int{{0, 1}, {1, 0}},
		Break:   []bool{false, true},
	}
}

// filled is a table of these counts, whose numbers differ and reach both ends of what has bytes.
func filled(classes, states, bands int) api.Table {
	x := api.Table{Classes: classes}
	n := classes + 3*states + 7*bands
	for i := range bands {
		x.Bands = append(x.Bands, api.Band{First: 0xffffff - (n*0x10305+i*0x20407)%0x1000000, Class: 255 - (n+i)%256})
	}
	for i := range states {
		row := make([]int, classes)
		for j := range row {
			row[j] = (n + 11*i + 5*j) % 256
		}
		x.Next = append(x.Next, row)
		x.Break = append(x.Break, (n+i)%3 == 0)
	}
	return x
}

// plainSum is the fifth chapter's definition of the sum.
func plainSum(b []byte) uint32 {
	sum := uint32(0x811c9dc5)
	for _, x := range b {
		sum = bits.RotateLeft32(sum^uint32(x), 5) + 0x9e3779b1
	}
	return sum
}

// sealed is bytes, and their sum.
func sealed(b []byte) []byte {
	sum := plainSum(b)
	return append(slices.Clone(b), byte(sum>>24), byte(sum>>16), byte(sum>>8), byte(sum))
}

// plainBytes is the chapter's definition of a table's bytes, of a table that has some.
func plainBytes(x api.Table) []byte {
	b := []byte{0x42, 0x52, 0x4b, 0x31, byte(x.Classes), byte(len(x.Next)), byte(len(x.Bands))}
	for _, band := range x.Bands {
		b = append(b, byte(band.First/65536), byte(band.First/256), byte(band.First), byte(band.Class))
	}
	for _, row := range x.Next {
		for _, to := range row {
			b = append(b, byte(to))
		}
	}
	for at := 0; at < len(x.Break); at += 8 {
		bit := byte(0)
		for i, is := range x.Break[at:min(at+8, len(x.Break))] {
			if is {
				bit += 1 << i
			}
		}
		b = append(b, bit)
	}
	return sealed(b)
}

// isNone tells whether a table is the zero one, nil and empty lists being one.
func isNone(x api.Table) bool {
	return x.Classes == 0 && len(x.Bands) == 0 && len(x.Next) == 0 && len(x.Break) == 0
}

func checkRefused(t *testing.T, what string, x api.Table) {
	t.Helper()
	if b, ok := table.Encode(x); ok || len(b) != 0 {
		t.Errorf("%s: % x %v", what, b, ok)
	}
}

func checkFault(t *testing.T, what string, b []byte, want api.Errno) {
	t.Helper()
	if x, e := table.Decode(b); e != want || !isNone(x) {
		t.Errorf("%s: error %d, not %d, and %v", what, e, want, x)
	}
}

// P6.1: bytes written by hand, with sums worked out apart.
func TestEncode(t *testing.T) {
	for _, x := range []struct {
		t    api.Table
		want []byte
	}{
		{
			api.Table{Classes: 1, Bands: []api.Band{{First: 0, Class: 0}}, Next: [][]int{{0}}, Break: []bool{true}},
			[]byte{0x42, 0x52, 0x4b, 0x31, 1, 1, 1, 0, 0, 0, 0, 0, 1, 0x55, 0x20, 0x4d, 0xac},
		},
		{
			two(),
			[]byte{0x42, 0x52, 0x4b, 0x31, 2, 2, 3, 0, 0, 0, 0, 0, 0, 0x41, 1, 1, 0xf6, 0, 0, 0, 1, 1, 0, 2, 0x71, 0x9d, 0x7f, 0x11},
		},
		{
			api.Table{Classes: 1, Next: [][]int{{9}}, Break: []bool{false}},
			[]byte{0x42, 0x52, 0x4b, 0x31, 1, 1, 0, 9, 0, 0xa0, 0xc0, 0xd1, 0x53},
		},
		{
			api.Table{
				Classes: 1,
				Bands:   []api.Band{{First: 0xffffff, Class: 255}},
				Next:    [][]int{{1}, {2}, {3}, {4}, {5}, {6}, {7}, {8}, {255}},
				Break:   []bool{true, false, false, false, false, false, false, true, true},
			},
			[]byte{0x42, 0x52, 0x4b, 0x31, 1, 9, 1, 0xff, 0xff, 0xff, 0xff, 1, 2, 3, 4, 5, 6, 7, 8, 255, 0x81, 1, 0x5f, 0xea, 0x0f, 0x79},
		},
	} {
		if b, ok := table.Encode(x.t); !ok || !slices.Equal(b, x.want) {
			t.Errorf("Encode(%v): % x %v, not % x", x.t, b, ok, x.want)
		}
	}
}

// P6.1: tables of counts up to both ends have their bytes, as many as Length tells.
func TestEncodeOfEveryCount(t *testing.T) {
	ends := []int{1, 2, 7, 8, 9, 16, 17, 60, 61, 254, 255}
	for _, classes := range ends {
		for _, states := range ends {
			for _, bands := range append([]int{0}, ends...) {
				x := filled(classes, states, bands)
				b, ok := table.Encode(x)
				if !ok || !slices.Equal(b, plainBytes(x)) {
					t.Errorf("%d classes, %d states, %d bands: %d bytes, %v", classes, states, bands, len(b), ok)
				}
				if n := table.Length(classes, states, bands); n != len(b) {
					t.Errorf("%d classes, %d states, %d bands: %d bytes, not %d", classes, states, bands, len(b), n)
				}
			}
		}
	}
}

// P6.1: nil and empty Bands are one.
func TestEncodeWithoutBands(t *testing.T) {
	x, y := two(), two()
	x.Bands, y.Bands = nil, []api.Band{}
	a, ok := table.Encode(x)
	b, also := table.Encode(y)
	if !ok || !also || !slices.Equal(a, b) || len(a) != 7+4+1+4 {
		t.Errorf("% x %v, % x %v", a, ok, b, also)
	}
}

// P6.1: false and nothing, if a count may not be.
func TestEncodeRefusesCounts(t *testing.T) {
	checkRefused(t, "nothing", api.Table{})
	for _, classes := range append([]int{0, 1, 3, 255}, noBytes...) {
		x := two()
		x.Classes = classes
		checkRefused(t, "another number of classes", x)
		x.Next, x.Break = nil, nil
		checkRefused(t, "no states, and another number of classes", x)
	}
	for _, x := range []api.Table{
		{Classes: 0, Next: [][]int{nil}, Break: []bool{true}},
		{Classes: 0, Next: [][]int{{}, {}}, Break: []bool{true, false}},
		{Classes: -1, Next: [][]int{nil}, Break: []bool{true}},
		{Classes: 1},
		{Classes: 1, Next: [][]int{}, Break: []bool{}},
		{Classes: 1, Next: [][]int{{0}}},
		{Classes: 1, Break: []bool{true}},
		{Classes: 2, Next: [][]int{{0, 1}, {1, 0}}, Break: []bool{true}},
		{Classes: 2, Next: [][]int{{0, 1}, {1, 0}}, Break: []bool{true, false, false}},
		filled(1, 256, 0), filled(1, 257, 1), filled(1, 512, 1),
		filled(256, 1, 0), filled(257, 1, 1), filled(512, 1, 1),
		filled(1, 1, 256), filled(1, 1, 257), filled(1, 1, 512),
	} {
		checkRefused(t, "a count", x)
	}
}

// P6.1: false and nothing, if one Next, the first or the last one, is not as long as Classes say.
func TestEncodeRefusesRows(t *testing.T) {
	for state := range 2 {
		for _, row := range [][]int{nil, {}, {0}, {0, 1, 0}} {
			x := two()
			x.Next[state] = row
			checkRefused(t, "a row", x)
		}
		x := two()
		// Spare room is not there to be read.
		x.Next[state] = x.Next[state][:1]
		checkRefused(t, "a row with spare room", x)
	}
}

// P6.1: false and nothing, if one number, wherever it stands, is not what has bytes.
func TestEncodeRefusesNumbers(t *testing.T) {
	for _, v := range noBytes {
		for at := range 4 {
			x := two()
			x.Next[at/2][at%2] = v
			checkRefused(t, "a Next", x)
		}
		for at := range 3 {
			x := two()
			x.Bands[at].Class = v
			checkRefused(t, "a Class", x)
		}
	}
	for _, v := range noFirsts {
		for at := range 3 {
			x := two()
			x.Bands[at].First = v
			checkRefused(t, "a First", x)
		}
	}
}

// P6.1: the numbers at both ends have bytes, though layer 7 refuses them.
func TestEncodeOfEnds(t *testing.T) {
	for _, v := range []int{0, 1, 127, 128, 254, 255} {
		x := two()
		x.Next[1][1], x.Bands[2].Class = v, v
		x.Bands[2].First = v * 0x10101
		if b, ok := table.Encode(x); !ok || !slices.Equal(b, plainBytes(x)) {
			t.Errorf("%d: % x %v", v, b, ok)
		}
	}
}

// P6.1: how many bytes there are, of every count from 0 to 255.
func TestLength(t *testing.T) {
	for _, x := range [][4]int{{0, 0, 0, 11}, {1, 1, 1, 17}, {2, 2, 3, 28}, {3, 9, 0, 40}, {0, 8, 0, 12}, {0, 9, 0, 13}, {9, 0, 0, 11}, {0, 0, 255, 1031}, {255, 255, 255, 66088}} {
		if n := table.Length(x[0], x[1], x[2]); n != x[3] {
			t.Errorf("Length(%d, %d, %d): %d, not %d", x[0], x[1], x[2], n, x[3])
		}
	}
	for classes := range 256 {
		for states := range 256 {
			for _, bands := range []int{0, 1, 2, 60, 61, 128, 254, 255} {
				want := 7 + 4*bands + classes*states + 4
				for bits := states; bits > 0; bits -= 8 {
					want++
				}
				if n := table.Length(classes, states, bands); n != want {
					t.Fatalf("Length(%d, %d, %d): %d, not %d", classes, states, bands, n, want)
				}
			}
		}
	}
}

// P6.1: 0, if one of the counts is not from 0 to 255.
func TestLengthOfNone(t *testing.T) {
	for _, v := range noBytes {
		for _, w := range []int{0, 1, 255, 256, -1, math.MaxInt} {
			for _, x := range [][3]int{{v, w, w}, {w, v, w}, {w, w, v}} {
				if n := table.Length(x[0], x[1], x[2]); n != 0 {
					t.Errorf("Length(%v): %d", x, n)
				}
			}
		}
	}
}

// P6.2: the table of bytes written by hand, whether or not it may be.
func TestDecode(t *testing.T) {
	b := sealed([]byte{0x42, 0x52, 0x4b, 0x31, 2, 2, 3, 0, 0, 0, 0, 0, 0, 0x41, 1, 1, 0xf6, 0, 0, 0, 1, 1, 0, 2})
	if x, e := table.Decode(b); e != api.OK || !reflect.DeepEqual(x, two()) {
		t.Errorf("%v, error %d", x, e)
	}
	b = sealed([]byte{0x42, 0x52, 0x4b, 0x31, 1, 1, 1, 0xff, 0xfe, 0xfd, 0xfc, 0xfb, 0})
	want := api.Table{Classes: 1, Bands: []api.Band{{First: 0xfffefd, Class: 0xfc}}, Next: [][]int{{0xfb}}, Break: []bool{false}}
	if x, e := table.Decode(b); e != api.OK || !reflect.DeepEqual(x, want) {
		t.Errorf("%v, error %d", x, e)
	}
}

// P6.2: fewer than 11 bytes are ErrShort, however they begin; with 11 the mark is asked for, then the sum, then the counts.
func TestDecodeShort(t *testing.T) {
	good := plainBytes(two())
	for n := range len(good) {
		want := api.ErrSum
		if n < 11 {
			want = api.ErrShort
		}
		checkFault(t, "cut short", good[:n], want)
		wrong := make([]byte, n)
		if n >= 11 {
			want = api.ErrMagic
		}
		checkFault(t, "noughts", wrong, want)
	}
	checkFault(t, "nil", nil, api.ErrShort)
	checkFault(t, "an empty list", []byte{}, api.ErrShort)
	checkFault(t, "ten bytes with their sum", sealed([]byte{0x42, 0x52, 0x4b, 0x31, 1, 1}), api.ErrShort)
	checkFault(t, "eleven bytes with their sum", sealed([]byte{0x42, 0x52, 0x4b, 0x31, 0, 0, 0}), api.ErrCount)
	checkFault(t, "eleven bytes with another mark", sealed([]byte{0x42, 0x52, 0x4b, 0x32, 0, 0, 0}), api.ErrMagic)
}

// P6.2: another mark is ErrMagic, with its sum and without.
func TestDecodeMagic(t *testing.T) {
	good := plainBytes(two())
	for at := range 4 {
		for v := range 256 {
			b := slices.Clone(good)
			b[at] = byte(v)
			if b[at] == good[at] {
				continue
			}
			checkFault(t, "another mark", b, api.ErrMagic)
			checkFault(t, "another mark with its sum", sealed(b[:len(b)-4]), api.ErrMagic)
		}
	}
	turned := slices.Clone(good)
	slices.Reverse(turned[:4])
	checkFault(t, "the mark turned round", turned, api.ErrMagic)
}

// P6.2: any other byte, wherever it stands behind the mark, is ErrSum, be it a count or a bit too many.
func TestDecodeSum(t *testing.T) {
	good := plainBytes(two())
	for at := 4; at < len(good); at++ {
		for v := range 256 {
			b := slices.Clone(good)
			b[at] = byte(v)
			if b[at] != good[at] {
				checkFault(t, "another byte", b, api.ErrSum)
			}
		}
	}
	checkFault(t, "a byte more", append(slices.Clone(good), 0), api.ErrSum)
	sum := slices.Clone(good)
	slices.Reverse(sum[len(sum)-4:])
	checkFault(t, "the sum turned round", sum, api.ErrSum)
}

// P6.2: the counts' ends: each from 1 to its limit, all with as many bytes as they ask for.
func TestDecodeCounts(t *testing.T) {
	check := func(classes, states, bands int) {
		x := filled(classes, states, bands)
		b := plainBytes(x)
		if classes < 1 || classes > 8 || states < 1 || states > 5 || bands < 1 || bands > 60 {
			checkFault(t, "a count beyond its limit", b, api.ErrCount)
		} else if y, e := table.Decode(b); e != api.OK || !reflect.DeepEqual(x, y) {
			t.Errorf("%d classes, %d states, %d bands: %v, error %d", classes, states, bands, y, e)
		}
	}
	for v := range 256 {
		for _, w := range []int{0, 1, 5, 6, 8, 60} {
			check(v, min(w, 6), w)
			check(min(w, 9), v, w)
			check(min(w, 9), min(w, 6), v)
		}
	}
}

// P6.2: a byte too many or too few for the counts is ErrCount, also where the bits are wrong.
func TestDecodeLength(t *testing.T) {
	for _, x := range []api.Table{two(), filled(1, 1, 1), filled(8, 5, 60)} {
		good := plainBytes(x)
		inner := good[:len(good)-4]
		for n := 7; n < len(inner)+12; n++ {
			b := append(slices.Clone(inner), make([]byte, 12)...)[:n]
			if n != len(inner) {
				checkFault(t, "another length", sealed(b), api.ErrCount)
				b[len(b)-1] = 0xff
				checkFault(t, "another length, and bits", sealed(b), api.ErrCount)
			}
		}
		for at := 4; at < 7; at++ {
			for v := range 256 {
				b := slices.Clone(inner)
				b[at] = byte(v)
				b[len(b)-1] = 0xff
				if v != int(inner[at]) {
					checkFault(t, "another count, and bits", sealed(b), api.ErrCount)
				}
			}
		}
	}
}

// P6.2: other counts that ask for as many bytes are taken.
func TestDecodeOtherCounts(t *testing.T) {
	x := filled(2, 3, 4)
	b := plainBytes(x)
	b = b[:len(b)-4]
	b[4], b[5] = 3, 2
	b[len(b)-1] = 2
	want := api.Table{Classes: 3, Bands: x.Bands, Next: [][]int{slices.Concat(x.Next[0], x.Next[1][:1]), slices.Concat(x.Next[1][1:], x.Next[2])}, Break: []bool{false, true}}
	if y, e := table.Decode(sealed(b)); e != api.OK || !reflect.DeepEqual(y, want) {
		t.Errorf("%v, error %d", y, e)
	}
}

// P6.2: of each number of states every byte of bits: ErrBits, if one beyond them is not 0.
func TestDecodeBits(t *testing.T) {
	for states := 1; states <= 5; states++ {
		good := plainBytes(filled(3, states, 2))
		inner := good[:len(good)-4]
		for v := range 256 {
			b := slices.Clone(inner)
			b[len(b)-1] = byte(v)
			if v>>states != 0 {
				checkFault(t, "bits", sealed(b), api.ErrBits)
				continue
			}
			x, e := table.Decode(sealed(b))
			if e != api.OK || len(x.Break) != states {
				t.Errorf("bits %x of %d states: %v, error %d", v, states, x.Break, e)
			}
			for i, is := range x.Break {
				if is != (v>>i&1 == 1) {
					t.Errorf("bits %x of %d states: %v", v, states, x.Break)
				}
			}
		}
	}
}

// P6.2: any other byte of bands, Nexts and bits, with its sum, is told, and encoded to these bytes again.
func TestDecodeOfEveryByte(t *testing.T) {
	good := plainBytes(two())
	inner := good[:len(good)-4]
	for at := 7; at < len(inner)-1; at++ {
		for v := range 256 {
			b := slices.Clone(inner)
			b[at] = byte(v)
			b = sealed(b)
			x, e := table.Decode(b)
			if again, ok := table.Encode(x); e != api.OK || !ok || !slices.Equal(again, b) {
				t.Errorf("byte %d as %x: % x %v, error %d", at, v, again, ok, e)
			}
			if table.Same(x, two()) != (byte(v) == good[at]) {
				t.Errorf("byte %d as %x: %v", at, v, x)
			}
		}
	}
}

// P6.2: alike just if nothing differs.
func TestSame(t *testing.T) {
	if !table.Same(two(), two()) || !table.Same(api.Table{}, api.Table{}) {
		t.Error("a table isn't itself")
	}
	for i, f := range []func(x *api.Table){
		func(x *api.Table) { *x = api.Table{} },
		func(x *api.Table) { x.Classes = 3 },
		func(x *api.Table) { x.Classes = 2 + 1<<32 },
		func(x *api.Table) { x.Bands = nil },
		func(x *api.Table) { x.Bands = x.Bands[:2] },
		func(x *api.Table) { x.Bands = append(x.Bands, api.Band{}) },
		func(x *api.Table) { x.Bands[0].First = 1 },
		func(x *api.Table) { x.Bands[2].First += 1 << 24 },
		func(x *api.Table) { x.Bands[2].Class = 1 },
		func(x *api.Table) { x.Bands[0], x.Bands[1] = x.Bands[1], x.Bands[0] },
		func(x *api.Table) { x.Next = nil },
		func(x *api.Table) { x.Next = x.Next[:1] },
		func(x *api.Table) { x.Next = append(x.Next, nil) },
		func(x *api.Table) { x.Next[0] = nil },
		func(x *api.Table) { x.Next[1] = x.Next[1][:1] },
		func(x *api.Table) { x.Next[1] = append(x.Next[1], 0) },
		func(x *api.Table) { x.Next[0][0] = 1 },
		func(x *api.Table) { x.Next[1][1] = -1 },
		func(x *api.Table) { x.Next[1][1] = 256 },
		func(x *api.Table) { x.Next[0], x.Next[1] = x.Next[1], x.Next[0] },
		func(x *api.Table) { x.Break = nil },
		func(x *api.Table) { x.Break = x.Break[:1] },
		func(x *api.Table) { x.Break = append(x.Break, false) },
		func(x *api.Table) { x.Break[0] = true },
		func(x *api.Table) { x.Break[1] = false },
	} {
		x, y := two(), two()
		f(&x)
		f(&y)
		if table.Same(x, two()) || table.Same(two(), x) || !table.Same(x, y) {
			t.Errorf("change %d: %v", i, x)
		}
	}
}

// P6.2: nil and empty lists are one.
func TestSameOfNil(t *testing.T) {
	a := api.Table{Classes: 4, Next: [][]int{nil, {}}}
	b := api.Table{Classes: 4, Bands: []api.Band{}, Next: [][]int{{}, nil}, Break: []bool{}}
	if !table.Same(a, b) || !table.Same(b, a) {
		t.Error("nil and empty lists differ")
	}
	a.Next, b.Next = nil, [][]int{}
	if !table.Same(a, b) || !table.Same(b, a) {
		t.Error("nil and no rows differ")
	}
}

// P6.3: Decode of Encode is the table, of all counts within the limits.
func TestDecodeOfEncode(t *testing.T) {
	for classes := 1; classes <= api.MaxClasses; classes++ {
		for states := 1; states <= api.MaxStates; states++ {
			for bands := 1; bands <= api.MaxBands; bands++ {
				x := filled(classes, states, bands)
				b, ok := table.Encode(x)
				y, e := table.Decode(b)
				if !ok || e != api.OK || !table.Same(x, y) || !reflect.DeepEqual(x, y) {
					t.Errorf("%v: %v, error %d", x, y, e)
				}
			}
		}
	}
}

// roomy is a list with spare room, filled with a mark throughout.
func roomy[T any](l []T, mark T) []T {
	room := make([]T, len(l)+9)
	for i := range room {
		room[i] = mark
	}
	copy(room, l)
	return room[:len(l)]
}

// fill writes a mark through a list and its spare room.
func fill[T any](l []T, mark T) {
	l = l[:cap(l)]
	for i := range l {
		l[i] = mark
	}
}

// roomyTable is a table whose lists all have spare room.
func roomyTable(x api.Table) api.Table {
	rows := make([][]int, len(x.Next))
	for i, row := range x.Next {
		rows[i] = roomy(row, 77)
	}
	return api.Table{Classes: x.Classes, Bands: roomy(x.Bands, api.Band{First: 77, Class: 77}), Next: roomy(rows, []int{77}), Break: roomy(x.Break, true)}
}

// whole is a table with its lists' spare room.
func whole(x api.Table) api.Table {
	rows := slices.Clone(x.Next[:cap(x.Next)])
	for i, row := range rows {
		rows[i] = slices.Clone(row[:cap(row)])
	}
	return api.Table{Classes: x.Classes, Bands: slices.Clone(x.Bands[:cap(x.Bands)]), Next: rows, Break: slices.Clone(x.Break[:cap(x.Break)])}
}

// Rule 2: what is handed in stays as it was, its spare room included, and answers share no memory with it or with each other.
func TestMemoryOfEncode(t *testing.T) {
	x := roomyTable(two())
	before := whole(x)
	want := plainBytes(two())
	first, _ := table.Encode(x)
	second, _ := table.Encode(x)
	table.Same(x, x)
	fill(first, 0xee)
	if !slices.Equal(second, want) {
		t.Errorf("answers share memory: % x", second)
	}
	if third, _ := table.Encode(x); !slices.Equal(third, want) {
		t.Errorf("another answer after the first was written into: % x", third)
	}
	if !reflect.DeepEqual(whole(x), before) {
		t.Errorf("the table is written into: %v", whole(x))
	}
}

// Rule 2, of Decode: its lists, each row among them, share no memory either.
func TestMemoryOfDecode(t *testing.T) {
	want := filled(3, 5, 4)
	b := roomy(plainBytes(want), 0xee)
	before := slices.Clone(b[:cap(b)])
	first, _ := table.Decode(b)
	second, _ := table.Decode(b)
	if !slices.Equal(b[:cap(b)], before) {
		t.Errorf("bytes are written into: % x", b[:cap(b)])
	}
	fill(b, 0x55)
	for i, row := range first.Next {
		others := whole(first).Next
		fill(row, 1000+i)
		others[i] = slices.Repeat([]int{1000 + i}, cap(row))
		if got := whole(first).Next; !reflect.DeepEqual(got, others) {
			t.Errorf("rows share memory: %v, not %v", got, others)
		}
	}
	fill(first.Next, nil)
	fill(first.Bands, api.Band{First: -1, Class: -1})
	for _, is := range []bool{true, false} {
		fill(first.Break, is)
		if !reflect.DeepEqual(second, want) {
			t.Errorf("answers or bytes share memory: %v", second)
		}
	}
}
