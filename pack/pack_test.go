package pack_test

import (
	"math"
	"slices"
	"testing"

	"caesura/pack"
)

// numbers are those at whose bytes something may go wrong: no bit, one bit, all bits of each size, and both ends of int.
var numbers = []int{0, 1, 2, 0x7f, 0x80, 0xff, 0x100, 258, 0x7fff, 0x8000, 0xffff, 0x10000, 0x123456, 0xffffff, 0x1000000, 0x12345678, 0x7fffffff, 0x80000000, 0xffffffff, 0x100000000, 0x123456789a, 1 << 40, math.MaxInt, -1, -2, -128, -129, -256, -0x10000, -0x80000000, -0x100000000, math.MinInt, math.MinInt + 1}

// oddSizes are those that Get refuses.
var oddSizes = []int{math.MinInt, -1 << 32, -5, -1, 0, 5, 8, 1 << 32, 1<<32 | 2, math.MaxInt}

// power is 256 to the power of n.
func power(n int) int {
	p := 1
	for range n {
		p *= 256
	}
	return p
}

// modulo is v modulo what fits in so many bytes, by division.
func modulo(v, size int) int {
	return (v%power(size) + power(size)) % power(size)
}

// plainPut is b, and v's digits of base 256, by division.
func plainPut(b []byte, v, size int) []byte {
	l := slices.Clone(b)
	for place := size - 1; place >= 0; place-- {
		l = append(l, byte(modulo(v, size)/power(place)%256))
	}
	return l
}

// P5.1: ordinary numbers, written by hand.
func TestPut(t *testing.T) {
	for _, x := range []struct {
		b       []byte
		v, size int
		want    []byte
	}{
		{nil, 258, 2, []byte{1, 2}},
		{nil, 258, 1, []byte{2}},
		{nil, 258, 3, []byte{0, 1, 2}},
		{[]byte{7, 8}, 0x12345678, 4, []byte{7, 8, 0x12, 0x34, 0x56, 0x78}},
		{[]byte{7}, 0x12345678, 3, []byte{7, 0x34, 0x56, 0x78}},
		{[]byte{}, -1, 4, []byte{0xff, 0xff, 0xff, 0xff}},
		{nil, -129, 2, []byte{0xff, 0x7f}},
		{nil, math.MinInt, 4, []byte{0, 0, 0, 0}},
		{nil, math.MaxInt, 4, []byte{0xff, 0xff, 0xff, 0xff}},
	} {
		if got := pack.Put(x.b, x.v, x.size); !slices.Equal(got, x.want) {
			t.Errorf("Put(%x, %x, %d): % x, not % x", x.b, x.v, x.size, got, x.want)
		}
	}
}

// P5.1: every number in every size is its digits, behind what is there.
func TestPutOfEveryNumber(t *testing.T) {
	for _, b := range [][]byte{nil, {}, {0}, {1, 2, 3}} {
		for _, v := range numbers {
			for size := range 5 {
				if got, want := pack.Put(b, v, size), plainPut(b, v, size); !slices.Equal(got, want) {
					t.Errorf("Put(%x, %x, %d): % x, not % x", b, v, size, got, want)
				}
			}
		}
	}
}

// P5.1: a size below 0 is cut to 0, one above 4 to 4.
func TestPutCutsSize(t *testing.T) {
	for _, v := range numbers {
		for _, size := range oddSizes {
			cut := 0
			if size > 4 {
				cut = 4
			}
			if got, want := pack.Put([]byte{9}, v, size), plainPut([]byte{9}, v, cut); !slices.Equal(got, want) {
				t.Errorf("Put(%x, %d): % x, not % x", v, size, got, want)
			}
		}
	}
}

// P5.1: ordinary places, and the last one of each size.
func TestGet(t *testing.T) {
	b := []byte{1, 2, 0x80, 0xff, 0}
	for _, x := range []struct{ at, size, want int }{
		{0, 1, 1}, {0, 2, 0x102}, {0, 3, 0x10280}, {0, 4, 0x10280ff},
		{2, 1, 0x80}, {2, 2, 0x80ff}, {1, 4, 0x280ff00}, {2, 3, 0x80ff00}, {3, 2, 0xff00}, {4, 1, 0},
	} {
		if v, ok := pack.Get(b, x.at, x.size); v != x.want || !ok {
			t.Errorf("Get(%d, %d): %x %v, not %x", x.at, x.size, v, ok, x.want)
		}
	}
	// The highest bit is no sign.
	if v, ok := pack.Get([]byte{0xff, 0xff, 0xff, 0xff}, 0, 4); v != 0xffffffff || !ok {
		t.Errorf("Get of all bits: %x %v", v, ok)
	}
}

// P5.1: false and 0, if the size is none, or bytes are missing.
func TestGetRefuses(t *testing.T) {
	b := []byte{1, 2, 3, 4, 5, 6}
	check := func(b []byte, at, size int) {
		if v, ok := pack.Get(b, at, size); v != 0 || ok {
			t.Errorf("Get(%x, %d, %d): %x %v", b, at, size, v, ok)
		}
	}
	for _, size := range oddSizes {
		for _, at := range []int{math.MinInt, -1, 0, 1, 5, 6, math.MaxInt} {
			check(b, at, size)
		}
	}
	for size := 1; size <= 4; size++ {
		for _, at := range []int{math.MinInt, math.MinInt + 1, -1 << 32, -size, -1, 7 - size, 6, 7, 1 << 32, 1 << 62, math.MaxInt - size, math.MaxInt - size + 1, math.MaxInt} {
			check(b, at, size)
		}
		check(nil, 0, size)
		check([]byte{}, 0, size)
		check(b[:size-1], 0, size)
		// Spare room is not there to be read.
		check(b[:1], 1, size)
	}
}

// P5.1: sums worked out apart, byte by byte.
func TestSum(t *testing.T) {
	every := make([]byte, 256)
	for i := range every {
		every[i] = byte(i)
	}
	for _, x := range []struct {
		b    []byte
		want uint32
	}{
		{nil, 0x811c9dc5}, {[]byte{}, 0x811c9dc5},
		{[]byte{0}, 0xc1cb3261}, {[]byte{0, 0}, 0xd79dc5e9}, {[]byte{0xff}, 0xc1cb2101},
		{[]byte("a"), 0xc1cb2e41}, {[]byte("ab"), 0xd79d3e29}, {[]byte("ba"), 0xd79d51c9},
		{[]byte("caesura"), 0xf36ab79c}, {every, 0x3ec3baed},
	} {
		if got := pack.Sum(x.b); got != x.want {
			t.Errorf("Sum(%x): %x, not %x", x.b, got, x.want)
		}
	}
}

// P5.1: in a sum no other byte stands for one.
func TestSumOfEveryByte(t *testing.T) {
	met := map[uint32]int{}
	for i := range 256 {
		sum := pack.Sum([]byte("caesura" + string([]byte{byte(i)}) + "!"))
		if j, ok := met[sum]; ok {
			t.Errorf("bytes %x and %x have one sum", j, i)
		}
		met[sum] = i
	}
}

// bools are those of a text of 0 and 1, the first one first.
func bools(text string) []bool {
	var l []bool
	for _, c := range text {
		l = append(l, c == '1')
	}
	return l
}

// P5.2: eight a byte, the first one lowest, and n of them back again.
func TestBits(t *testing.T) {
	for _, x := range []struct {
		text string
		want []byte
	}{
		{"", nil},
		{"0", []byte{0}},
		{"1", []byte{1}},
		{"01", []byte{2}},
		{"0000000", []byte{0}},
		{"0000001", []byte{0x40}},
		{"00000001", []byte{0x80}},
		{"10110000", []byte{0x0d}},
		{"11111111", []byte{0xff}},
		{"111111110", []byte{0xff, 0}},
		{"000000001", []byte{0, 1}},
		{"0000000100000001", []byte{0x80, 0x80}},
		{"10000000010000000", []byte{1, 2, 0}},
	} {
		l := bools(x.text)
		b := pack.Bits(l)
		if !slices.Equal(b, x.want) {
			t.Errorf("Bits(%s): % x, not % x", x.text, b, x.want)
		}
		if got, ok := pack.Unbits(x.want, len(l)); !slices.Equal(got, l) || !ok {
			t.Errorf("Unbits(% x, %d): %v %v", x.want, len(l), got, ok)
		}
	}
	if b := pack.Bits([]bool{}); len(b) != 0 {
		t.Errorf("Bits of none: % x", b)
	}
	if l, ok := pack.Unbits([]byte{}, 0); len(l) != 0 || !ok {
		t.Errorf("Unbits of none: %v %v", l, ok)
	}
}

// P5.2: each single bit stands at its place, in rows of each length up to three bytes.
func TestBitsOneByOne(t *testing.T) {
	for n := 1; n <= 24; n++ {
		for at := range n {
			l := make([]bool, n)
			l[at] = true
			want := make([]byte, (n+7)/8)
			want[at/8] = 1 << (at % 8)
			if b := pack.Bits(l); !slices.Equal(b, want) {
				t.Errorf("bit %d of %d: % x, not % x", at, n, b, want)
			}
			if got, ok := pack.Unbits(want, n); !slices.Equal(got, l) || !ok {
				t.Errorf("bit %d of %d back: %v %v", at, n, got, ok)
			}
		}
	}
}

// P5.2: of every two bytes and every n, Unbits tells bits just if Bits of them are these bytes.
func TestUnbitsOfEveryByte(t *testing.T) {
	for v := range 1 << 16 {
		b := []byte{byte(v), byte(v >> 8)}
		for n := -1; n <= 17; n++ {
			l, ok := pack.Unbits(b, n)
			if want := n > 8 && n <= 16 && v>>n == 0; ok != want {
				t.Fatalf("Unbits(% x, %d): %v", b, n, ok)
			}
			if !ok && len(l) != 0 {
				t.Fatalf("Unbits(% x, %d): %v beside false", b, n, l)
			}
			if ok && (len(l) != n || !slices.Equal(pack.Bits(l), b)) {
				t.Fatalf("Unbits(% x, %d): %v", b, n, l)
			}
		}
	}
}

// P5.2: false and nothing, if n is none, a byte is missing or too many, or what is missing is not 0.
func TestUnbitsRefuses(t *testing.T) {
	for _, x := range []struct {
		b []byte
		n int
	}{
		{nil, -1}, {nil, 1}, {nil, 8}, {nil, math.MinInt}, {nil, math.MaxInt}, {nil, 1 << 61},
		{[]byte{0}, math.MinInt}, {[]byte{0}, -8}, {[]byte{0}, -7}, {[]byte{0}, -1}, {[]byte{0}, 0},
		{[]byte{0}, 9}, {[]byte{0}, 16}, {[]byte{0}, 1<<32 | 1}, {[]byte{0}, 1 << 62}, {[]byte{0}, math.MaxInt - 6}, {[]byte{0}, math.MaxInt},
		{[]byte{0, 0}, 0}, {[]byte{0, 0}, 1}, {[]byte{0, 0}, 7}, {[]byte{0, 0}, 8}, {[]byte{0, 0}, 17}, {[]byte{0, 0, 0}, 16},
		{[]byte{2}, 1}, {[]byte{4}, 1}, {[]byte{0x80}, 1}, {[]byte{0x80}, 7}, {[]byte{0xff}, 7}, {[]byte{0xff, 2}, 9}, {[]byte{0, 0x80}, 15},
		// Spare room is not there to be read.
		{make([]byte, 1, 8), 9},
	} {
		if l, ok := pack.Unbits(x.b, x.n); len(l) != 0 || ok {
			t.Errorf("Unbits(% x, %d): %v %v", x.b, x.n, l, ok)
		}
	}
}

// P5.3: what was put is got, modulo its size, wherever it stands, and what stands ahead of it is still there.
func TestGetOfPut(t *testing.T) {
	for _, b := range [][]byte{nil, {5}, {1, 2, 3, 4, 5}} {
		for _, v := range numbers {
			for size := 1; size <= 4; size++ {
				put := pack.Put(b, v, size)
				if got, ok := pack.Get(put, len(b), size); got != modulo(v, size) || !ok {
					t.Errorf("Get of %x put in %d behind %d: %x %v, not %x", v, size, len(b), got, ok, modulo(v, size))
				}
				if !slices.Equal(put[:len(b)], b) {
					t.Errorf("%x put in %d behind %x: %x", v, size, b, put)
				}
			}
		}
	}
}

// P5.3: numbers put one behind the other are got one by one.
func TestGetOfMany(t *testing.T) {
	var b []byte
	for _, v := range numbers {
		for size := 1; size <= 4; size++ {
			b = pack.Put(b, v, size)
		}
	}
	at := 0
	for _, v := range numbers {
		for size := 1; size <= 4; size++ {
			if got, ok := pack.Get(b, at, size); got != modulo(v, size) || !ok {
				t.Errorf("Get of %x in %d at %d: %x %v", v, size, at, got, ok)
			}
			at += size
		}
	}
	if at != len(b) {
		t.Errorf("%d bytes, not %d", len(b), at)
	}
}

// roomy is a list with spare room, filled with a mark throughout.
func roomy[T any](l []T, mark T) []T {
	room := make([]T, len(l)+9)
	for i := range room {
		room[i] = mark
	}
	copy(room, l)
	return room[:len(l)]
}

// fill writes a mark through a list and its spare room.
func fill[T any](l []T, mark T) {
	l = l[:cap(l)]
	for i := range l {
		l[i] = mark
	}
}

// Rule 2: what is handed in stays as it was, its spare room included, and answers share no memory with it or with each other.
func TestMemoryOfPut(t *testing.T) {
	for size := range 5 {
		for _, start := range [][]byte{{}, {1}, {1, 2, 3}} {
			in := roomy(start, 0xee)
			before := slices.Clone(in[:cap(in)])
			first, second := pack.Put(in, 0x5050505, size), pack.Put(in, 0x5050505, size)
			fill(first, 0x77)
			if !slices.Equal(in[:cap(in)], before) {
				t.Errorf("Put in %d writes into its argument: % x", size, in[:cap(in)])
			}
			fill(in, 0x66)
			if want := plainPut(start, 0x5050505, size); !slices.Equal(second, want) {
				t.Errorf("Put in %d shares memory: % x, not % x", size, second, want)
			}
		}
	}
}

// Rule 2, of the calls that only read bytes or bools.
func TestMemoryOfOthers(t *testing.T) {
	b := roomy([]byte{0xa5, 1}, 0xee)
	bytesBefore := slices.Clone(b[:cap(b)])
	pack.Get(b, 0, 2)
	pack.Sum(b)
	first, _ := pack.Unbits(b, 9)
	second, _ := pack.Unbits(b, 9)
	fill(first, false)
	if !slices.Equal(second, bools("101001011")) {
		t.Errorf("Unbits' answers share memory: %v", second)
	}
	if !slices.Equal(b[:cap(b)], bytesBefore) {
		t.Errorf("bytes are written into: % x", b[:cap(b)])
	}
	l := roomy(bools("101001011"), true)
	boolsBefore := slices.Clone(l[:cap(l)])
	one, other := pack.Bits(l), pack.Bits(l)
	fill(one, 0)
	if !slices.Equal(other, []byte{0xa5, 1}) {
		t.Errorf("Bits' answers share memory: % x", other)
	}
	if !slices.Equal(l[:cap(l)], boolsBefore) {
		t.Errorf("bools are written into: %v", l[:cap(l)])
	}
}
