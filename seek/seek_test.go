package seek_test

import (
	"math"
	"reflect"
	"slices"
	"strings"
	"testing"
	"unicode/utf8"

	"caesura/api"
	"caesura/seek"
	"caesura/segment"
	"caesura/valid"
)

const last = 0x10ffff

// edgeBytes are the first and last of every kind of byte that UTF-8 tells apart, and their neighbors.
const edgeBytes = "\x00a\x7f\x80\x8f\x90\x9f\xa0\xbf\xc0\xc1\xc2\xdf\xe0\xe1\xec\xed\xee\xef\xf0\xf1\xf3\xf4\xf5\xf7\xf8\xff"

// one is a table of one state.
func one(breaks bool) api.Table {
	return api.Table{Classes: 1, Bands: []api.Band{{}}, Next: [][]int{{0}}, Break: []bool{breaks}}
}

// marks is a table whose class 1 is an a and the scalars around the gap, class 2 z and the last scalar.
// It breaks behind each z, and behind each second one of class 1 since the last one of class 2.
func marks() api.Table {
	return api.Table{
		Classes: 3,
		Bands: []api.Band{
			{First: 0, Class: 0}, {First: 'a', Class: 1}, {First: 'b', Class: 0}, {First: 'z', Class: 2}, {First: '{', Class: 0},
			{First: 0xd7ff, Class: 1}, {First: 0xe001, Class: 0}, {First: last, Class: 2},
		},
		Next:  [][]int{{0, 1, 2}, {1, 2, 2}, {0, 1, 2}},
		Break: []bool{false, false, true},
	}
}

// behind is a table that breaks behind each scalar from one up to another.
func behind(from, to int) api.Table {
	return api.Table{
		Classes: 2,
		Bands:   []api.Band{{First: 0, Class: 0}, {First: from, Class: 1}, {First: to, Class: 0}},
		Next:    [][]int{{0, 1}, {0, 1}},
		Break:   []bool{false, true},
	}
}

// ahead is a table that breaks ahead of a text, and nowhere else.
func ahead() api.Table {
	return api.Table{Classes: 1, Bands: []api.Band{{}}, Next: [][]int{{1}, {1}}, Break: []bool{true, false}}
}

// seconds is a table that breaks behind each second scalar, and ahead of the first.
func seconds() api.Table {
	return api.Table{Classes: 1, Bands: []api.Band{{}}, Next: [][]int{{1}, {0}}, Break: []bool{true, false}}
}

// greatest is a table of as many classes, states and bands as there may be.
func greatest() api.Table {
	x := api.Table{Classes: 8, Break: []bool{false, false, false, false, true}}
	for i := range 60 {
		x.Bands = append(x.Bands, api.Band{First: i * 0x4000, Class: i % 8})
	}
	x.Next = [][]int{
		{0, 1, 2, 3, 4, 0, 1, 2},
		{1, 2, 3, 4, 0, 0, 0, 0},
		{2, 3, 4, 0, 1, 1, 1, 1},
		{3, 4, 0, 1, 2, 2, 2, 2},
		{4, 0, 1, 2, 3, 3, 3, 3},
	}
	return x
}

// good are tables that may be.
func good() []api.Table {
	return []api.Table{one(true), one(false), marks(), behind(0xfffd, 0xfffe), behind('a', 'b'), ahead(), seconds(), greatest()}
}

// scalarBytes are the size of the scalars' bytes that begin with a byte, and from where to where the second one goes; 0, if none begin so.
func scalarBytes(first byte) (size int, lo, hi byte) {
	switch {
	case first <= 0x7f:
		return 1, 0, 0
	case first >= 0xc2 && first <= 0xdf:
		return 2, 0x80, 0xbf
	case first == 0xe0:
		return 3, 0xa0, 0xbf
	case first == 0xed:
		return 3, 0x80, 0x9f
	case first >= 0xe1 && first <= 0xef:
		return 3, 0x80, 0xbf
	case first == 0xf0:
		return 4, 0x90, 0xbf
	case first >= 0xf1 && first <= 0xf3:
		return 4, 0x80, 0xbf
	case first == 0xf4:
		return 4, 0x80, 0x8f
	}
	return 0, 0, 0
}

// plainClass is the class of the last band that is not above a scalar.
func plainClass(x api.Table, v int) int {
	class := 0
	for _, band := range x.Bands {
		if band.First <= v {
			class = band.Class
		}
	}
	return class
}

// plainIs tells of each byte of a text, and of its end, whether there is a break, by the chapters' definitions.
func plainIs(x api.Table, s string) []bool {
	is := make([]bool, len(s)+1)
	state := 0
	for at := 0; at < len(s); {
		is[at] = x.Break[state]
		size, lo, hi := scalarBytes(s[at])
		n := 1
		for n < size && at+n < len(s) && s[at+n] >= lo && s[at+n] <= hi {
			n, lo, hi = n+1, 0x80, 0xbf
		}
		v := 0xfffd
		if n == size {
			r, _ := utf8.DecodeRuneInString(s[at : at+n])
			v = int(r)
		}
		state = x.Next[state][plainClass(x, v)]
		at += n
	}
	is[len(s)] = x.Break[state]
	return is
}

func check(t *testing.T, x api.Table, s string, at int, is bool, next, prev int) {
	t.Helper()
	if b, e := seek.Is(x, s, at); b != is || e != api.OK {
		t.Errorf("%v, %.40q, %d: is %v, error %d, not %v", x, s, at, b, e, is)
	}
	if n, e := seek.Next(x, s, at); n != next || e != api.OK {
		t.Errorf("%v, %.40q, %d: next %d, error %d, not %d", x, s, at, n, e, next)
	}
	if n, e := seek.Prev(x, s, at); n != prev || e != api.OK {
		t.Errorf("%v, %.40q, %d: prev %d, error %d, not %d", x, s, at, n, e, prev)
	}
}

func checkError(t *testing.T, x api.Table, s string, at int, want api.Errno) {
	t.Helper()
	if b, e := seek.Is(x, s, at); b || e != want {
		t.Errorf("%v, %.40q, %d: is %v, error %d, not %d", x, s, at, b, e, want)
	}
	if n, e := seek.Next(x, s, at); n != 0 || e != want {
		t.Errorf("%v, %.40q, %d: next %d, error %d, not %d", x, s, at, n, e, want)
	}
	if n, e := seek.Prev(x, s, at); n != 0 || e != want {
		t.Errorf("%v, %.40q, %d: prev %d, error %d, not %d", x, s, at, n, e, want)
	}
}

// checkAt holds what is told at one byte against the definitions.
func checkAt(t *testing.T, x api.Table, s string, is []bool, at int) {
	t.Helper()
	next, prev := len(s)+1, -1
	for i, broken := range is {
		if broken && i < at {
			prev = i
		}
		if broken && i > at {
			next = min(next, i)
		}
	}
	check(t, x, s, at, is[at], next, prev)
}

// checkPlain holds what is told at each byte against the definitions, and that beyond them nothing is.
func checkPlain(t *testing.T, x api.Table, s string) {
	t.Helper()
	is := plainIs(x, s)
	for at := range is {
		checkAt(t, x, s, is, at)
	}
	checkError(t, x, s, -1, api.ErrRange)
	checkError(t, x, s, len(s)+1, api.ErrRange)
}

// The tables by hand are ones that may be: else nothing below would tell what it is meant to.
func TestTablesMayBe(t *testing.T) {
	for _, x := range good() {
		if e := valid.Table(x); e != api.OK {
			t.Errorf("%v: error %d", x, e)
		}
	}
}

// P10.1: at the text's beginning, its end, between pieces and within them.
func TestAnswers(t *testing.T) {
	for _, r := range []struct {
		x          api.Table
		s          string
		at         int
		is         bool
		next, prev int
	}{
		{one(true), "", 0, true, 1, -1},
		{one(false), "", 0, false, 1, -1},
		{one(true), "ab", 0, true, 1, -1},
		{one(true), "ab", 1, true, 2, 0},
		{one(true), "ab", 2, true, 3, 1},
		{one(false), "ab", 0, false, 3, -1},
		{one(false), "ab", 1, false, 3, -1},
		{one(false), "ab", 2, false, 3, -1},
		{one(true), "\u20ac", 0, true, 3, -1},
		{one(true), "\u20ac", 1, false, 3, 0},
		{one(true), "\u20ac", 2, false, 3, 0},
		{one(true), "\u20ac", 3, true, 4, 0},
		{one(true), "\xf0\x9f\x98a", 0, true, 3, -1},
		{one(true), "\xf0\x9f\x98a", 2, false, 3, 0},
		{one(true), "\xf0\x9f\x98a", 3, true, 4, 0},
		{one(true), "\xf0\x9f\x98a", 4, true, 5, 3},
		{behind('a', 'b'), "bab", 0, false, 2, -1},
		{behind('a', 'b'), "bab", 1, false, 2, -1},
		{behind('a', 'b'), "bab", 2, true, 4, -1},
		{behind('a', 'b'), "bab", 3, false, 4, 2},
		{behind(0xfffd, 0xfffe), "a\xff\ufffd", 1, false, 2, -1},
		{behind(0xfffd, 0xfffe), "a\xff\ufffd", 2, true, 5, -1},
		{behind(0xfffd, 0xfffe), "a\xff\ufffd", 5, true, 6, 2},
		{ahead(), "ab", 0, true, 3, -1},
		{ahead(), "ab", 1, false, 3, 0},
		{ahead(), "ab", 2, false, 3, 0},
		{marks(), "xaxa\u20aczz", 4, true, 8, -1},
		{marks(), "xaxa\u20aczz", 8, true, 9, 4},
		{marks(), "xaxa\u20aczz", 9, true, 10, 8},
	} {
		check(t, r.x, r.s, r.at, r.is, r.next, r.prev)
	}
}

// P10.1: no number beside those from 0 to the text's length, and not one that is taken for one of them when it loses bits.
func TestRange(t *testing.T) {
	for _, x := range good() {
		for _, s := range []string{"", "a", "a\u20ac", "\xf0\x9f\x98"} {
			for _, at := range []int{-1, -2, len(s) + 1, len(s) + 2, 255, 256, 1 << 16, 1 << 32, 1<<32 + len(s), -1 << 32, math.MaxInt, math.MaxInt - 1, math.MinInt, math.MinInt + len(s)} {
				checkError(t, x, s, at, api.ErrRange)
			}
		}
	}
}

// wrongs are tables that may not be, of each error that a table has.
func wrongs() map[api.Errno]api.Table {
	l := map[api.Errno]api.Table{}
	for e, do := range map[api.Errno]func(x *api.Table){
		api.ErrCount:  func(x *api.Table) { x.Break = x.Break[:2] },
		api.ErrBands:  func(x *api.Table) { x.Bands[6].First = 0xd800 },
		api.ErrClass:  func(x *api.Table) { x.Bands[7].Class = 3 },
		api.ErrNext:   func(x *api.Table) { x.Next[2][2] = -1 },
		api.ErrOrder:  func(x *api.Table) { x.Next[0] = []int{0, 2, 1} },
		api.ErrLeast:  func(x *api.Table) { x.Break = []bool{true, true, true} },
		api.ErrColumn: func(x *api.Table) { x.Next = [][]int{{0, 1, 1}, {1, 2, 2}, {0, 1, 1}} },
	} {
		x := marks()
		do(&x)
		l[e] = x
	}
	return l
}

// P10.1: a table that may not be is told first, wherever is asked, and whatever is wrong with it.
func TestTablesThatMayNotBe(t *testing.T) {
	all := []api.Table{{}, {Classes: 1}, {Classes: -1, Bands: []api.Band{{}}, Next: [][]int{nil}, Break: []bool{true}}, {Classes: 1, Next: [][]int{{0}}, Break: []bool{true}}}
	for e, x := range wrongs() {
		if got := valid.Table(x); got != e {
			t.Errorf("%v: error %d, not %d", x, got, e)
		}
		all = append(all, x)
	}
	for _, x := range all {
		for _, s := range []string{"", "a", "zz", "\u20ac", "\xf0\x9f\x98a"} {
			for _, at := range []int{-1, 0, len(s), len(s) + 1, math.MinInt, math.MaxInt} {
				checkError(t, x, s, at, api.ErrArg)
			}
		}
	}
}

// P10.1: at each byte of every text of up to three edge bytes, by every table by hand.
func TestEveryShortText(t *testing.T) {
	edges := []byte(edgeBytes)
	for _, x := range good() {
		checkPlain(t, x, "")
		for _, a := range edges {
			checkPlain(t, x, string([]byte{a}))
			for _, b := range edges {
				checkPlain(t, x, string([]byte{a, b}))
			}
		}
	}
	for _, x := range []api.Table{one(true), marks(), behind(0xfffd, 0xfffe)} {
		for _, a := range edges {
			for _, b := range edges {
				for _, c := range edges {
					checkPlain(t, x, string([]byte{a, b, c}))
				}
			}
		}
	}
}

// texts goes through all texts of at most so many of some parts.
func texts(parts []string, most int, s string, f func(s string)) {
	f(s)
	for _, p := range parts {
		if most > 0 {
			texts(parts, most-1, s+p, f)
		}
	}
}

// tables goes through all tables of two classes and so many states that may be.
func tables(states int, f func(x api.Table)) {
	bands := []api.Band{{First: 0, Class: 0}, {First: 'b', Class: 1}, {First: 'c', Class: 0}, {First: 0xfffd, Class: 1}}
	ways := 1
	for range 2 * states {
		ways *= states
	}
	for nexts := range ways {
		for breaks := range 1 << states {
			x := api.Table{Classes: 2, Bands: bands}
			left := nexts
			for state := range states {
				row := []int{left % states, left / states % states}
				left /= states * states
				x.Next, x.Break = append(x.Next, row), append(x.Break, breaks>>state&1 == 1)
			}
			if valid.Table(x) == api.OK {
				f(x)
			}
		}
	}
}

// P10.1: all tables of two classes and few states, at each byte of texts of which some are ill-formed.
func TestEveryTable(t *testing.T) {
	count := 0
	for states := 1; states <= 3; states++ {
		tables(states, func(x api.Table) {
			count++
			texts([]string{"b", "\xf0\x9f\x98", "\u20ac"}, 2, "", func(s string) { checkPlain(t, x, s) })
		})
	}
	if count < 100 {
		t.Errorf("just %d tables", count)
	}
}

// mixed is a row of numbers that follow from the one before.
type mixed uint64

func (m *mixed) below(n int) int {
	*m = *m*6364136223846793005 + 1442695040888963407
	return int(*m >> 33 % mixed(n))
}

// text is so many bytes and scalars' bytes, whole and cut short.
func (m *mixed) text(size int) string {
	near := []string{"a", "z", "x", "\ud7ff", "\ue000", "\ufffd", "\U0010ffff", "\xe2\x82", "\xf0\x9f\x98"}
	var b []byte
	for range size {
		switch m.below(4) {
		case 0:
			b = append(b, byte(m.below(0x100)))
		case 1:
			b = utf8.AppendRune(b, rune(m.below(last+1)))
		default:
			b = append(b, near[m.below(len(near))]...)
		}
	}
	return string(b)
}

// P10.1: at each byte of longer texts.
func TestLongTexts(t *testing.T) {
	m := mixed(10)
	for range 60 {
		s := m.text(m.below(40))
		for _, x := range good() {
			checkPlain(t, x, s)
		}
	}
}

// P10.1: great texts, in which breaks stand close, or far.
func TestGreatTexts(t *testing.T) {
	s := strings.Repeat("ax", 200000)
	n := len(s)
	for _, r := range []struct {
		x          api.Table
		at         int
		is         bool
		next, prev int
	}{
		{one(true), 0, true, 1, -1},
		{one(true), n / 2, true, n/2 + 1, n/2 - 1},
		{one(true), n, true, n + 1, n - 1},
		{one(false), 0, false, n + 1, -1},
		{one(false), n, false, n + 1, -1},
		{ahead(), n, false, n + 1, 0},
		{behind('x', 'y'), n / 2, true, n/2 + 2, n/2 - 2},
	} {
		check(t, r.x, s, r.at, r.is, r.next, r.prev)
	}
}

// P10.2: Next goes from what it told to the next one, through all breaks, and ends behind the text; what stands ahead of the first is asked by Is, at 0.
func TestNextGoesThroughAll(t *testing.T) {
	m := mixed(102)
	many := []string{"", "a", "aa", "zxz", "\u20ac", "\xf0\x9f\x98a"}
	for range 60 {
		many = append(many, m.text(m.below(50)))
	}
	for _, s := range many {
		for _, x := range good() {
			want, _ := segment.Of(x, s)
			checkError(t, x, s, -1, api.ErrRange)
			var up, down []int
			if is, _ := seek.Is(x, s, 0); is {
				up = append(up, 0)
			}
			for at, _ := seek.Next(x, s, 0); at <= len(s) && len(up) <= len(s); at, _ = seek.Next(x, s, at) {
				up = append(up, at)
			}
			if is, _ := seek.Is(x, s, len(s)); is {
				down = append(down, len(s))
			}
			for at, _ := seek.Prev(x, s, len(s)); at >= 0 && len(down) <= len(s); at, _ = seek.Prev(x, s, at) {
				down = append(down, at)
			}
			slices.Reverse(down)
			if !slices.Equal(up, want) || !slices.Equal(down, want) {
				t.Errorf("%v, %q: up %v, down %v, not %v", x, s, up, down, want)
			}
		}
	}
}

// Rule 4: what was asked by one table, or of one text, is not told by or of another one, nor by the same memory, if another table stands in it.
func TestNothingIsKept(t *testing.T) {
	x := marks()
	check(t, x, "azb", 2, true, 4, -1)
	check(t, x, "bza", 2, true, 4, -1)
	check(t, x, "zba", 2, false, 4, 1)
	check(t, one(true), "azb", 2, true, 3, 1)
	x.Bands[3].First = 'b'
	x.Bands = slices.Delete(x.Bands, 2, 3)
	check(t, x, "azb", 2, true, 3, -1)
	x.Break[0], x.Break[2] = true, false
	check(t, x, "azb", 2, false, 4, 0)
	x.Bands[0].First = 1
	checkError(t, x, "azb", 2, api.ErrArg)
}

// roomy is a list with spare room, filled with a mark.
func roomy[T any](l []T, mark T) []T {
	room := slices.Concat(l, slices.Repeat([]T{mark}, 9))
	return room[:len(l)]
}

// whole is a table with its lists' spare room, in memory of its own.
func whole(x api.Table) api.Table {
	x.Bands, x.Next, x.Break = slices.Clone(x.Bands[:cap(x.Bands)]), slices.Clone(x.Next[:cap(x.Next)]), slices.Clone(x.Break[:cap(x.Break)])
	for i, row := range x.Next {
		x.Next[i] = slices.Clone(row[:cap(row)])
	}
	return x
}

// Rule 2: what is handed in stays as it was, its spare room included, which is not read.
func TestArgumentsStay(t *testing.T) {
	for _, from := range good() {
		x := from
		x.Bands, x.Next, x.Break = roomy(from.Bands, api.Band{First: 77, Class: 77}), roomy(from.Next, []int{77}), roomy(from.Break, true)
		for i, row := range from.Next {
			x.Next[i] = roomy(row, 77)
		}
		before := whole(x)
		for _, s := range []string{"", "xaza\u20ac\xf0\x9f\x98z\U0010ffff"} {
			is := plainIs(from, s)
			for at := range is {
				checkAt(t, x, s, is, at)
			}
			checkError(t, x, s, -1, api.ErrRange)
		}
		if !reflect.DeepEqual(whole(x), before) {
			t.Errorf("written into: %v", whole(x))
		}
	}
}
