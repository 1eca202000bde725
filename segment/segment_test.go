package segment_test

import (
	"reflect"
	"slices"
	"strings"
	"testing"
	"unicode/utf8"
	"unsafe"

	"caesura/api"
	"caesura/segment"
	"caesura/valid"
)

const last = 0x10ffff

// edgeBytes are the first and last of every kind of byte that UTF-8 tells apart, and their neighbors.
const edgeBytes = "\x00a\x7f\x80\x8f\x90\x9f\xa0\xbf\xc0\xc1\xc2\xdf\xe0\xe1\xec\xed\xee\xef\xf0\xf1\xf3\xf4\xf5\xf7\xf8\xff"

// one is a table of one state.
func one(breaks bool) api.Table {
	return api.Table{Classes: 1, Bands: []api.Band{{}}, Next: [][]int{{0}}, Break: []bool{breaks}}
}

// marks is a table whose class 1 is an a and the scalars around the gap, class 2 z and the last scalar.
// It breaks behind each z, and behind each second one of class 1 since the last one of class 2.
func marks() api.Table {
	return api.Table{
		Classes: 3,
		Bands: []api.Band{
			{First: 0, Class: 0}, {First: 'a', Class: 1}, {First: 'b', Class: 0}, {First: 'z', Class: 2}, {First: '{', Class: 0},
			{First: 0xd7ff, Class: 1}, {First: 0xe001, Class: 0}, {First: last, Class: 2},
		},
		Next:  [][]int{{0, 1, 2}, {1, 2, 2}, {0, 1, 2}},
		Break: []bool{false, false, true},
	}
}

// behind is a table that breaks behind each scalar from one up to another.
func behind(from, to int) api.Table {
	return api.Table{
		Classes: 2,
		Bands:   []api.Band{{First: 0, Class: 0}, {First: from, Class: 1}, {First: to, Class: 0}},
		Next:    [][]int{{0, 1}, {0, 1}},
		Break:   []bool{false, true},
	}
}

// ahead is a table that breaks ahead of a text, and nowhere else.
func ahead() api.Table {
	return api.Table{Classes: 1, Bands: []api.Band{{}}, Next: [][]int{{1}, {1}}, Break: []bool{true, false}}
}

// seconds is a table that breaks behind each second scalar, and ahead of the first.
func seconds() api.Table {
	return api.Table{Classes: 1, Bands: []api.Band{{}}, Next: [][]int{{1}, {0}}, Break: []bool{true, false}}
}

// greatest is a table of as many classes, states and bands as there may be.
func greatest() api.Table {
	x := api.Table{Classes: 8, Break: []bool{false, false, false, false, true}}
	for i := range 60 {
		x.Bands = append(x.Bands, api.Band{First: i * 0x4000, Class: i % 8})
	}
	x.Next = [][]int{
		{0, 1, 2, 3, 4, 0, 1, 2},
		{1, 2, 3, 4, 0, 0, 0, 0},
		{2, 3, 4, 0, 1, 1, 1, 1},
		{3, 4, 0, 1, 2, 2, 2, 2},
		{4, 0, 1, 2, 3, 3, 3, 3},
	}
	return x
}

// good are tables that may be.
func good() []api.Table {
	return []api.Table{one(true), one(false), marks(), behind(0xfffd, 0xfffe), behind('a', 'b'), ahead(), seconds(), greatest()}
}

// plainPiece is a scalar and the byte at which its piece begins.
type plainPiece struct{ scalar, at int }

// scalarBytes are the size of the scalars' bytes that begin with a byte, and from where to where the second one goes; 0, if none begin so.
func scalarBytes(first byte) (size int, lo, hi byte) {
	switch {
	case first <= 0x7f:
		return 1, 0, 0
	case first >= 0xc2 && first <= 0xdf:
		return 2, 0x80, 0xbf
	case first == 0xe0:
		return 3, 0xa0, 0xbf
	case first == 0xed:
		return 3, 0x80, 0x9f
	case first >= 0xe1 && first <= 0xef:
		return 3, 0x80, 0xbf
	case first == 0xf0:
		return 4, 0x90, 0xbf
	case first >= 0xf1 && first <= 0xf3:
		return 4, 0x80, 0xbf
	case first == 0xf4:
		return 4, 0x80, 0x8f
	}
	return 0, 0, 0
}

// plainPieces are a text's pieces, read anew by the table of well-formed bytes.
func plainPieces(s string) []plainPiece {
	var l []plainPiece
	for at := 0; at < len(s); {
		size, lo, hi := scalarBytes(s[at])
		n := 1
		for n < size && at+n < len(s) && s[at+n] >= lo && s[at+n] <= hi {
			n, lo, hi = n+1, 0x80, 0xbf
		}
		p := plainPiece{0xfffd, at}
		if n == size {
			r, _ := utf8.DecodeRuneInString(s[at : at+n])
			p.scalar = int(r)
		}
		l = append(l, p)
		at += n
	}
	return l
}

// plainClass is the class of the last band that is not above a scalar.
func plainClass(x api.Table, v int) int {
	class := 0
	for _, band := range x.Bands {
		if band.First <= v {
			class = band.Class
		}
	}
	return class
}

// plainOf are the breaks of a text, by the chapters' definitions.
func plainOf(x api.Table, s string) []int {
	var l []int
	state := 0
	for _, p := range plainPieces(s) {
		if x.Break[state] {
			l = append(l, p.at)
		}
		state = x.Next[state][plainClass(x, p.scalar)]
	}
	if x.Break[state] {
		l = append(l, len(s))
	}
	return l
}

// plainCut is a text, byte by byte, begun anew at each break that has bytes ahead.
func plainCut(s string, breaks []int) []string {
	var l []string
	for i := range len(s) {
		for len(breaks) > 0 && breaks[0] < i {
			breaks = breaks[1:]
		}
		if i == 0 || len(breaks) > 0 && breaks[0] == i {
			l = append(l, "")
		}
		l[len(l)-1] += s[i : i+1]
	}
	return l
}

func check(t *testing.T, x api.Table, s string, of []int, cuts []string) {
	t.Helper()
	if l, ok := segment.Of(x, s); !ok || !slices.Equal(l, of) {
		t.Errorf("%v, %q: breaks %v, %v, not %v", x, s, l, ok, of)
	}
	if l, ok := segment.Cut(x, s); !ok || !slices.Equal(l, cuts) {
		t.Errorf("%v, %q: cuts %q, %v, not %q", x, s, l, ok, cuts)
	}
}

// checkPlain holds a text's breaks and cuts against the definitions.
func checkPlain(t *testing.T, x api.Table, s string) {
	t.Helper()
	of := plainOf(x, s)
	check(t, x, s, of, plainCut(s, of))
}

func checkNone(t *testing.T, x api.Table, s string) {
	t.Helper()
	if l, ok := segment.Of(x, s); ok || len(l) != 0 {
		t.Errorf("%v, %q: breaks %v, %v", x, s, l, ok)
	}
	if l, ok := segment.Cut(x, s); ok || len(l) != 0 {
		t.Errorf("%v, %q: cuts %q, %v", x, s, l, ok)
	}
}

// The tables by hand are ones that may be: else nothing below would tell what it is meant to.
func TestTablesMayBe(t *testing.T) {
	for _, x := range good() {
		if e := valid.Table(x); e != api.OK {
			t.Errorf("%v: error %d", x, e)
		}
	}
}

// P9.1: each piece by itself, by the table of one state that breaks; the text as a whole, by the one that does not.
func TestOneState(t *testing.T) {
	for _, r := range []struct {
		s    string
		of   []int
		cuts []string
	}{
		{"", []int{0}, nil},
		{"\x00", []int{0, 1}, []string{"\x00"}},
		{"ab", []int{0, 1, 2}, []string{"a", "b"}},
		{"aa", []int{0, 1, 2}, []string{"a", "a"}},
		{"a\u00e9\u20ac\U0001f600a", []int{0, 1, 3, 6, 10, 11}, []string{"a", "\u00e9", "\u20ac", "\U0001f600", "a"}},
		{"\xff", []int{0, 1}, []string{"\xff"}},
		{"\x80\x80", []int{0, 1, 2}, []string{"\x80", "\x80"}},
		{"\xf0\x9f\x98a", []int{0, 3, 4}, []string{"\xf0\x9f\x98", "a"}},
		{"\xe2\x82\xe2\x82\xac\xc3", []int{0, 2, 5, 6}, []string{"\xe2\x82", "\u20ac", "\xc3"}},
		{"\xed\xa0\x80", []int{0, 1, 2, 3}, []string{"\xed", "\xa0", "\x80"}},
		{"\xf4\x90\x80\x80", []int{0, 1, 2, 3, 4}, []string{"\xf4", "\x90", "\x80", "\x80"}},
		{"\xef\xbf\xbd\xff", []int{0, 3, 4}, []string{"\ufffd", "\xff"}},
	} {
		check(t, one(true), r.s, r.of, r.cuts)
		if r.s == "" {
			check(t, one(false), r.s, nil, nil)
		} else {
			check(t, one(false), r.s, nil, []string{r.s})
		}
	}
}

// P9.1: breaks at the text's beginning and end, at just one of them, at none; nothing empty is cut there.
func TestBreaksAtTheEnds(t *testing.T) {
	for _, r := range []struct {
		x    api.Table
		s    string
		of   []int
		cuts []string
	}{
		{ahead(), "", []int{0}, nil},
		{ahead(), "a\u20aca", []int{0}, []string{"a\u20aca"}},
		{behind('a', 'b'), "", nil, nil},
		{behind('a', 'b'), "a", []int{1}, []string{"a"}},
		{behind('a', 'b'), "\u20aca", []int{4}, []string{"\u20aca"}},
		{behind('a', 'b'), "a\u20ac", []int{1}, []string{"a", "\u20ac"}},
		{behind('a', 'b'), "\u20acaa\u20ac", []int{4, 5}, []string{"\u20aca", "a", "\u20ac"}},
		{seconds(), "", []int{0}, nil},
		{seconds(), "\u20ac", []int{0}, []string{"\u20ac"}},
		{seconds(), "\u20ac\u00e9", []int{0, 5}, []string{"\u20ac\u00e9"}},
		{seconds(), "\u20ac\u00e9a", []int{0, 5}, []string{"\u20ac\u00e9", "a"}},
	} {
		check(t, r.x, r.s, r.of, r.cuts)
	}
}

// P9.1: what is ill-formed is Replace for the table: it breaks behind each, whatever its bytes, and behind Replace's own.
func TestIllFormedIsReplace(t *testing.T) {
	for _, r := range []struct {
		s    string
		of   []int
		cuts []string
	}{
		{"a\u20ac", nil, []string{"a\u20ac"}},
		{"\ufffd", []int{3}, []string{"\ufffd"}},
		{"a\ufffda", []int{4}, []string{"a\ufffd", "a"}},
		{"a\xffa", []int{2}, []string{"a\xff", "a"}},
		{"\xf0\x9f\x98\xf0\x9fa\xe2", []int{3, 5, 7}, []string{"\xf0\x9f\x98", "\xf0\x9f", "a\xe2"}},
		{"\xc0\x80a", []int{1, 2}, []string{"\xc0", "\x80", "a"}},
		{"\xef\xbf\xbca\xef\xbf\xbe", nil, []string{"\ufffca\ufffe"}},
		{"\xed\xa0\x80", []int{1, 2, 3}, []string{"\xed", "\xa0", "\x80"}},
	} {
		check(t, behind(0xfffd, 0xfffe), r.s, r.of, r.cuts)
	}
}

// P9.1: a table of three classes, scalars at both sides of the gap and the last one among them.
func TestMarks(t *testing.T) {
	for _, r := range []struct {
		s    string
		of   []int
		cuts []string
	}{
		{"", nil, nil},
		{"z", []int{1}, []string{"z"}},
		{"aaaa", []int{2, 4}, []string{"aa", "aa"}},
		{"xaxa\u20aczz", []int{4, 8, 9}, []string{"xaxa", "\u20acz", "z"}},
		{"\ud7ff\ue000\ue001", []int{6}, []string{"\ud7ff\ue000", "\ue001"}},
		{"a\U0010ffffa\U0010fffea", []int{5, 11}, []string{"a\U0010ffff", "a\U0010fffea"}},
		{"a\xed\xa0\x80a\xf4\x8f\xbf", []int{5}, []string{"a\xed\xa0\x80a", "\xf4\x8f\xbf"}},
	} {
		check(t, marks(), r.s, r.of, r.cuts)
	}
}

// P9.1: every text of up to three edge bytes, by every table by hand.
func TestEveryShortText(t *testing.T) {
	edges := []byte(edgeBytes)
	for _, x := range good() {
		checkPlain(t, x, "")
		for _, a := range edges {
			checkPlain(t, x, string([]byte{a}))
			for _, b := range edges {
				checkPlain(t, x, string([]byte{a, b}))
				for _, c := range edges {
					checkPlain(t, x, string([]byte{a, b, c}))
				}
			}
		}
	}
}

// texts goes through all texts of at most so many of some parts.
func texts(parts []string, most int, s string, f func(s string)) {
	f(s)
	for _, p := range parts {
		if most > 0 {
			texts(parts, most-1, s+p, f)
		}
	}
}

// tables goes through all tables of two classes and so many states that may be.
func tables(states int, f func(x api.Table)) {
	bands := []api.Band{{First: 0, Class: 0}, {First: 'b', Class: 1}, {First: 'c', Class: 0}, {First: 0xfffd, Class: 1}}
	ways := 1
	for range 2 * states {
		ways *= states
	}
	for nexts := range ways {
		for breaks := range 1 << states {
			x := api.Table{Classes: 2, Bands: bands}
			left := nexts
			for state := range states {
				row := []int{left % states, left / states % states}
				left /= states * states
				x.Next, x.Break = append(x.Next, row), append(x.Break, breaks>>state&1 == 1)
			}
			if valid.Table(x) == api.OK {
				f(x)
			}
		}
	}
}

// P9.1: all tables of two classes and few states, over texts of which some are ill-formed.
func TestEveryTable(t *testing.T) {
	count := 0
	for states := 1; states <= 3; states++ {
		tables(states, func(x api.Table) {
			count++
			texts([]string{"b", "\u20ac", "\xf0\x9f\x98", "\U0001f600"}, 3, "", func(s string) { checkPlain(t, x, s) })
		})
	}
	if count < 100 {
		t.Errorf("just %d tables", count)
	}
}

// wrongs are tables that may not be, of each error that a table has.
func wrongs() map[api.Errno]api.Table {
	l := map[api.Errno]api.Table{}
	for e, do := range map[api.Errno]func(x *api.Table){
		api.ErrCount:  func(x *api.Table) { x.Break = x.Break[:2] },
		api.ErrBands:  func(x *api.Table) { x.Bands[6].First = 0xd800 },
		api.ErrClass:  func(x *api.Table) { x.Bands[7].Class = 3 },
		api.ErrNext:   func(x *api.Table) { x.Next[2][2] = -1 },
		api.ErrOrder:  func(x *api.Table) { x.Next[0] = []int{0, 2, 1} },
		api.ErrLeast:  func(x *api.Table) { x.Break = []bool{true, true, true} },
		api.ErrColumn: func(x *api.Table) { x.Next = [][]int{{0, 1, 1}, {1, 2, 2}, {0, 1, 1}} },
	} {
		x := marks()
		do(&x)
		l[e] = x
	}
	return l
}

// P9.1: by a table that may not be nothing is told, not even of a text of nothing.
func TestTablesThatMayNotBe(t *testing.T) {
	all := []api.Table{{}, {Classes: 1}, {Classes: -1, Bands: []api.Band{{}}, Next: [][]int{nil}, Break: []bool{true}}, {Classes: 1, Next: [][]int{{0}}, Break: []bool{true}}}
	for e, x := range wrongs() {
		if got := valid.Table(x); got != e {
			t.Errorf("%v: error %d, not %d", x, got, e)
		}
		all = append(all, x)
	}
	for _, x := range all {
		for _, s := range []string{"", "a", "zz", "\u20ac", "\xff", "\xf0\x9f\x98a", "\U0010ffff"} {
			checkNone(t, x, s)
		}
	}
}

// mixed is a row of numbers that follow from the one before.
type mixed uint64

func (m *mixed) below(n int) int {
	*m = *m*6364136223846793005 + 1442695040888963407
	return int(*m >> 33 % mixed(n))
}

// text is so many bytes and scalars' bytes, whole and cut short.
func (m *mixed) text(size int) string {
	near := []string{"a", "z", "x", "\ud7ff", "\ue000", "\ufffd", "\U0010ffff", "\xe2\x82", "\xf0\x9f\x98"}
	var b []byte
	for range size {
		switch m.below(4) {
		case 0:
			b = append(b, byte(m.below(0x100)))
		case 1:
			b = utf8.AppendRune(b, rune(m.below(last+1)))
		default:
			b = append(b, near[m.below(len(near))]...)
		}
	}
	return string(b)
}

// P9.1: longer texts.
func TestLongTexts(t *testing.T) {
	m := mixed(9)
	for range 500 {
		s := m.text(m.below(60))
		for _, x := range good() {
			checkPlain(t, x, s)
		}
	}
}

// P9.2: what is cut, one behind the other, is the text; and nothing of it is empty.
func TestCutsAreTheText(t *testing.T) {
	m := mixed(92)
	many := []string{"", strings.Repeat("a", 200000), strings.Repeat("\xf0\x9f\x98", 70000), strings.Repeat("z\u20aca", 50000) + "\xe2\x82", strings.Repeat("\x80", 200000)}
	for range 200 {
		many = append(many, m.text(m.below(200)))
	}
	for _, s := range many {
		for _, x := range good() {
			cuts, ok := segment.Cut(x, s)
			if !ok || strings.Join(cuts, "") != s || slices.Contains(cuts, "") {
				t.Errorf("%v: %d cuts, %v, of %d bytes", x, len(cuts), ok, len(s))
			}
			if of, ok := segment.Of(x, s); !ok || !slices.Equal(of, plainOf(x, s)) {
				t.Errorf("%v: %d breaks, %v, of %d bytes", x, len(of), ok, len(s))
			}
		}
	}
}

// Rule 4: what was asked by one table, or of one text, is not told by or of another one, nor by the same memory, if another table stands in it.
func TestNothingIsKept(t *testing.T) {
	x := marks()
	check(t, x, "azb", []int{2}, []string{"az", "b"})
	check(t, one(true), "azb", []int{0, 1, 2, 3}, []string{"a", "z", "b"})
	x.Bands[3].First = 'b'
	x.Bands = slices.Delete(x.Bands, 2, 3)
	check(t, x, "azb", []int{2, 3}, []string{"az", "b"})
	x.Break[0], x.Break[2] = true, false
	check(t, x, "azb", []int{0}, []string{"azb"})
	x.Bands[0].First = 1
	checkNone(t, x, "azb")
}

// roomy is a list with spare room, filled with a mark.
func roomy[T any](l []T, mark T) []T {
	room := slices.Concat(l, slices.Repeat([]T{mark}, 9))
	return room[:len(l)]
}

// whole is a table with its lists' spare room, in memory of its own.
func whole(x api.Table) api.Table {
	x.Bands, x.Next, x.Break = slices.Clone(x.Bands[:cap(x.Bands)]), slices.Clone(x.Next[:cap(x.Next)]), slices.Clone(x.Break[:cap(x.Break)])
	for i, row := range x.Next {
		x.Next[i] = slices.Clone(row[:cap(row)])
	}
	return x
}

// Rule 2: what is handed in stays as it was, its spare room included, which is not read.
func TestArgumentsStay(t *testing.T) {
	for _, from := range good() {
		x := from
		x.Bands, x.Next, x.Break = roomy(from.Bands, api.Band{First: 77, Class: 77}), roomy(from.Next, []int{77}), roomy(from.Break, true)
		for i, row := range from.Next {
			x.Next[i] = roomy(row, 77)
		}
		before := whole(x)
		for _, s := range []string{"", "xaza\u20ac\xf0\x9f\x98z\U0010ffff"} {
			of := plainOf(from, s)
			check(t, x, s, of, plainCut(s, of))
		}
		if !reflect.DeepEqual(whole(x), before) {
			t.Errorf("written into: %v", whole(x))
		}
	}
}

// Rule 2: lists that are told are new memory, their spare room too, shared with no argument and no other answer.
func TestAnswersAreNew(t *testing.T) {
	x, s := one(true), "a\u20acb"
	of, _ := segment.Of(x, s)
	cuts, _ := segment.Cut(x, s)
	otherOf, _ := segment.Of(x, s)
	otherCuts, _ := segment.Cut(x, s)
	for i := range of[:cap(of)] {
		of[:cap(of)][i] = -9
	}
	for i := range cuts[:cap(cuts)] {
		cuts[:cap(cuts)][i] = "other"
	}
	wantOf, wantCuts := []int{0, 1, 4, 5}, []string{"a", "\u20ac", "b"}
	if !slices.Equal(otherOf, wantOf) || !slices.Equal(otherCuts, wantCuts) || !reflect.DeepEqual(x, one(true)) {
		t.Errorf("memory is shared: %v, %q, %v", otherOf, otherCuts, x)
	}
	check(t, x, s, wantOf, wantCuts)
}

// overlap tells whether two texts have a byte of memory in common.
func overlap(a, b string) bool {
	first, second := uintptr(unsafe.Pointer(unsafe.StringData(a))), uintptr(unsafe.Pointer(unsafe.StringData(b)))
	return first < second+uintptr(len(b)) && second < first+uintptr(len(a))
}

// Rule 2: what is cut does not lie in the text's memory, be it a part of the text or all of it, nor in another cut's.
func TestCutsHaveTheirOwnMemory(t *testing.T) {
	s := strings.Repeat("az\u20ac", 20)
	for _, x := range []api.Table{one(true), one(false), marks()} {
		cuts, _ := segment.Cut(x, s)
		again, _ := segment.Cut(x, s)
		all := slices.Concat([]string{s}, cuts, again)
		for i, a := range all {
			for _, b := range all[:i] {
				if overlap(a, b) {
					t.Fatalf("%q and %q share memory", a, b)
				}
			}
		}
	}
}
