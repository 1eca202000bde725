package walk_test

import (
	"math"
	"reflect"
	"slices"
	"testing"

	"caesura/api"
	"caesura/valid"
	"caesura/walk"
)

const last = 0x10ffff

// noScalars are numbers that are no scalars; some would seem to be ones if they were cut to fewer bits.
var noScalars = []int{math.MinInt, math.MinInt + 'a', -1 << 40, -1<<32 + 'a', -1 << 32, -'a', -1, 0xd800, 0xd801, 0xdbff, 0xdc00, 0xdffe, 0xdfff, last + 1, last + 2, 1<<21 | 'a', math.MaxInt32, math.MaxInt32 + 1, 1<<32 - 1, 1 << 32, 1<<32 | 'a', 1<<32 | 0xd7ff, 1 << 40, 1<<48 | 'a', math.MaxInt - 1, math.MaxInt}

// one is a table of one state.
func one(breaks bool) api.Table {
	return api.Table{Classes: 1, Bands: []api.Band{{}}, Next: [][]int{{0}}, Break: []bool{breaks}}
}

// marks is a table whose class 1 is an a and the scalars around the gap, class 2 z and the last scalar.
// It breaks behind each z, and behind each second one of class 1 since the last one of class 2.
func marks() api.Table {
	return api.Table{
		Classes: 3,
		Bands: []api.Band{
			{First: 0, Class: 0}, {First: 'a', Class: 1}, {First: 'b', Class: 0}, {First: 'z', Class: 2}, {First: '{', Class: 0},
			{First: 0xd7ff, Class: 1}, {First: 0xe001, Class: 0}, {First: last, Class: 2},
		},
		Next:  [][]int{{0, 1, 2}, {1, 2, 2}, {0, 1, 2}},
		Break: []bool{false, false, true},
	}
}

// greatest is a table of as many classes, states and bands as there may be.
func greatest() api.Table {
	x := api.Table{Classes: 8, Break: []bool{false, false, false, false, true}}
	for i := range 60 {
		x.Bands = append(x.Bands, api.Band{First: i * 0x4000, Class: i % 8})
	}
	x.Next = [][]int{
		{0, 1, 2, 3, 4, 0, 1, 2},
		{1, 2, 3, 4, 0, 0, 0, 0},
		{2, 3, 4, 0, 1, 1, 1, 1},
		{3, 4, 0, 1, 2, 2, 2, 2},
		{4, 0, 1, 2, 3, 3, 3, 3},
	}
	return x
}

// cloned is a table in memory of its own.
func cloned(x api.Table) api.Table {
	rows := slices.Clone(x.Next)
	for i, row := range rows {
		rows[i] = slices.Clone(row)
	}
	return api.Table{Classes: x.Classes, Bands: slices.Clone(x.Bands), Next: rows, Break: slices.Clone(x.Break)}
}

// isScalar is the first chapter's definition.
func isScalar(v int) bool {
	return v >= 0 && v < 0xd800 || v >= 0xe000 && v <= last
}

// plainClass is the class of the last band that is not above a scalar.
func plainClass(x api.Table, v int) int {
	class := 0
	for _, band := range x.Bands {
		if band.First <= v {
			class = band.Class
		}
	}
	return class
}

// plainState is where scalars lead, from state 0.
func plainState(x api.Table, l []int) int {
	state := 0
	for _, v := range l {
		state = x.Next[state][plainClass(x, v)]
	}
	return state
}

// plainBreaks are the places ahead of which scalars lead to a state that breaks, each one walked to anew.
func plainBreaks(x api.Table, l []int) []int {
	var places []int
	for i := 0; i <= len(l); i++ {
		if x.Break[plainState(x, l[:i])] {
			places = append(places, i)
		}
	}
	return places
}

func checkWalk(t *testing.T, x api.Table, l []int, state int, breaks []int) {
	t.Helper()
	if got, ok := walk.State(x, l); !ok || got != state {
		t.Errorf("%v, %x: state %d, %v, not %d", x, l, got, ok, state)
	}
	if got, ok := walk.Breaks(x, l); !ok || !slices.Equal(got, breaks) {
		t.Errorf("%v, %x: breaks %v, %v, not %v", x, l, got, ok, breaks)
	}
}

func checkNoWalk(t *testing.T, x api.Table, l []int) {
	t.Helper()
	if got, ok := walk.State(x, l); ok || got != 0 {
		t.Errorf("%v, %x: state %d, %v", x, l, got, ok)
	}
	if got, ok := walk.Breaks(x, l); ok || len(got) != 0 {
		t.Errorf("%v, %x: breaks %v, %v", x, l, got, ok)
	}
}

func checkClass(t *testing.T, x api.Table, v, want int) {
	t.Helper()
	if got, ok := walk.Class(x, v); !ok || got != want {
		t.Errorf("%v, %#x: class %d, %v, not %d", x, v, got, ok, want)
	}
}

func checkNoClass(t *testing.T, x api.Table, v int) {
	t.Helper()
	if got, ok := walk.Class(x, v); ok || got != 0 {
		t.Errorf("%v, %#x: class %d, %v", x, v, got, ok)
	}
}

// The tables by hand are ones that may be: else nothing below would tell what it is meant to.
func TestTablesMayBe(t *testing.T) {
	for _, x := range []api.Table{one(true), one(false), marks(), greatest()} {
		if e := valid.Table(x); e != api.OK {
			t.Errorf("%v: error %d", x, e)
		}
	}
}

// P8.1: the class of scalars at both sides of where the band changes, of the gap, and at both ends.
func TestClass(t *testing.T) {
	for _, r := range []struct{ v, want int }{
		{0, 0}, {1, 0}, {'a' - 1, 0}, {'a', 1}, {'b', 0}, {'y', 0}, {'z', 2}, {'{', 0},
		{0xd7fe, 0}, {0xd7ff, 1}, {0xe000, 1}, {0xe001, 0}, {0xffff, 0}, {0x10000, 0}, {last - 1, 0}, {last, 2},
	} {
		checkClass(t, marks(), r.v, r.want)
		checkClass(t, one(true), r.v, 0)
	}
	for i := range 60 {
		checkClass(t, greatest(), i*0x4000+0x3fff, i%8)
		if v := i * 0x4000; isScalar(v) {
			checkClass(t, greatest(), v, i%8)
		}
	}
	checkClass(t, greatest(), last, 59%8)
}

// P8.1: what is no scalar has no class.
func TestClassOfNoScalar(t *testing.T) {
	for _, v := range noScalars {
		for _, x := range []api.Table{one(true), marks(), greatest()} {
			checkNoClass(t, x, v)
		}
	}
}

// P8.1: states and breaks by hand: of no scalars, of one, ahead of the first, behind the last.
func TestWalk(t *testing.T) {
	for _, r := range []struct {
		l      []int
		state  int
		breaks []int
	}{
		{nil, 0, nil},
		{[]int{}, 0, nil},
		{[]int{0}, 0, nil},
		{[]int{'a'}, 1, nil},
		{[]int{'z'}, 2, []int{1}},
		{[]int{'z', 0}, 0, []int{1}},
		{[]int{'z', last}, 2, []int{1, 2}},
		{[]int{'a', 'a'}, 2, []int{2}},
		{[]int{'a', 0, 'b', 'a', 0}, 0, []int{4}},
		{[]int{0xd7ff, 0xe000, 0xe001}, 0, []int{2}},
		{[]int{'a', 'z', 'a', 'z', 'a', 'a', 'a'}, 1, []int{2, 4, 6}},
		{[]int{'a', 'z', 'a', 'a'}, 2, []int{2, 4}},
	} {
		checkWalk(t, marks(), r.l, r.state, r.breaks)
	}
	first := marks()
	first.Break = []bool{true, false, false}
	checkWalk(t, first, nil, 0, []int{0})
	checkWalk(t, first, []int{0, 'a', 0, 'z', 0}, 0, []int{0, 1, 5})
}

// P8.1: a table of one state breaks at all places, or at none.
func TestWalkOfOneState(t *testing.T) {
	l := []int{5, 'a', 0xd7ff, 0xe000, last, 5}
	places := []int{0, 1, 2, 3, 4, 5, 6}
	for n := range len(l) + 1 {
		checkWalk(t, one(true), l[:n], 0, places[:n+1])
		checkWalk(t, one(false), l[:n], 0, nil)
	}
}

// P8.1: no walk goes over what is no scalar, wherever it stands, nor where one with its lower bits was asked for ahead.
func TestWalkOverNoScalar(t *testing.T) {
	ahead := []int{'a', 0, 0xd7ff, 'z', last}
	for _, v := range noScalars {
		for _, x := range []api.Table{one(true), marks(), greatest()} {
			checkNoWalk(t, x, []int{v})
			checkNoWalk(t, x, []int{v, v})
			for at := range len(ahead) + 1 {
				checkNoWalk(t, x, slices.Insert(slices.Clone(ahead), at, v))
			}
		}
	}
}

// P8.1: all scalars in one row, and backward; each has its class, though most were asked for but once.
func TestWalkOverEveryScalar(t *testing.T) {
	var l []int
	for v := range last + 1 {
		if isScalar(v) {
			l = append(l, v)
		}
	}
	for _, x := range []api.Table{marks(), greatest()} {
		for range 2 {
			state, breaks := 0, []int(nil)
			for i, v := range l {
				if x.Break[state] {
					breaks = append(breaks, i)
				}
				state = x.Next[state][plainClass(x, v)]
			}
			if x.Break[state] {
				breaks = append(breaks, len(l))
			}
			if got, ok := walk.State(x, l); !ok || got != state {
				t.Errorf("state %d, %v, not %d", got, ok, state)
			}
			if got, ok := walk.Breaks(x, l); !ok || !slices.Equal(got, breaks) {
				t.Errorf("%d breaks, %v, not %d", len(got), ok, len(breaks))
			}
			slices.Reverse(l)
		}
	}
}

// wrongs are tables that may not be, of each error one or more; some have what no walk could go by.
func wrongs() map[string]api.Table {
	l := map[string]api.Table{"nothing": {}}
	for what, do := range map[string]func(x *api.Table){
		"no bands":                        func(x *api.Table) { x.Bands = nil },
		"no classes":                      func(x *api.Table) { x.Classes = 0 },
		"a class more than told":          func(x *api.Table) { x.Classes = 2 },
		"no states":                       func(x *api.Table) { x.Next, x.Break = nil, nil },
		"a Break too few":                 func(x *api.Table) { x.Break = x.Break[:2] },
		"a row that is nil":               func(x *api.Table) { x.Next[0] = nil },
		"a row cut short":                 func(x *api.Table) { x.Next[2] = x.Next[2][:1] },
		"bands that begin at 1":           func(x *api.Table) { x.Bands[0].First = 1 },
		"a band in the gap":               func(x *api.Table) { x.Bands[6].First = 0xd800 },
		"bands that fall":                 func(x *api.Table) { x.Bands[2].First = 'A' },
		"two bands of a class":            func(x *api.Table) { x.Bands[4].Class = 2 },
		"a class that is none":            func(x *api.Table) { x.Bands[7].Class = 3 },
		"a class below 0":                 func(x *api.Table) { x.Bands[7].Class = -1 },
		"classes in another order":        func(x *api.Table) { x.Bands[0].Class, x.Bands[1].Class = 1, 0 },
		"a Next that is none":             func(x *api.Table) { x.Next[2][2] = 3 },
		"a Next below 0":                  func(x *api.Table) { x.Next[0][0] = -1 },
		"a Next in another order":         func(x *api.Table) { x.Next[0] = []int{0, 2, 1} },
		"a state that nothing leads to":   func(x *api.Table) { x.Next[0], x.Next[1] = []int{0, 1, 1}, []int{1, 0, 0} },
		"states that are alike":           func(x *api.Table) { x.Break[2] = false },
		"states that break all":           func(x *api.Table) { x.Break = []bool{true, true, true} },
		"classes that nothing parts":      func(x *api.Table) { x.Next = [][]int{{0, 1, 1}, {1, 2, 2}, {0, 1, 1}} },
		"two classes beside one state":    func(x *api.Table) { *x = one(true); x.Classes, x.Bands, x.Next = 2, marks().Bands[:2], [][]int{{0, 0}} },
		"a state too many for the limits": func(x *api.Table) { x.Next = make([][]int, 6); x.Break = make([]bool, 6) },
	} {
		x := marks()
		do(&x)
		l[what] = x
	}
	return l
}

// P8.1: on a table that may not be nothing is told, not even of no scalars.
func TestTablesThatMayNotBe(t *testing.T) {
	seen := map[api.Errno]bool{}
	for what, x := range wrongs() {
		e := valid.Table(x)
		if e == api.OK {
			t.Errorf("%s: it may be", what)
		}
		seen[e] = true
		for _, l := range [][]int{nil, {}, {0}, {'a'}, {'z', 'z'}, {last}, {-1}, {0xd800, 'a'}} {
			checkNoWalk(t, x, l)
		}
		for _, v := range append([]int{0, 'a', 'z', 0xd7ff, 0xe000, last}, noScalars...) {
			checkNoClass(t, x, v)
		}
	}
	for e := api.ErrBands; e <= api.ErrColumn; e++ {
		if !seen[e] {
			t.Errorf("no table with error %d", e)
		}
	}
}

// rows goes through all rows of at most so many of some scalars.
func rows(scalars []int, most int, l []int, f func(l []int)) {
	f(l)
	for _, v := range scalars {
		if len(l) < most {
			rows(scalars, most, append(slices.Clone(l), v), f)
		}
	}
}

// tables goes through all tables of these counts that may be.
func tables(bands []api.Band, classes, states int, f func(x api.Table)) {
	ways := 1
	for range states * classes {
		ways *= states
	}
	for nexts := range ways {
		for breaks := range 1 << states {
			x := api.Table{Classes: classes, Bands: bands}
			left := nexts
			for state := range states {
				row := make([]int, classes)
				for class := range row {
					row[class] = left % states
					left /= states
				}
				x.Next, x.Break = append(x.Next, row), append(x.Break, breaks>>state&1 == 1)
			}
			if valid.Table(x) == api.OK {
				f(x)
			}
		}
	}
}

// P8.1: all tables of few classes and states lead each short row as the chapter defines it.
func TestEveryTable(t *testing.T) {
	bands := []api.Band{{First: 0, Class: 0}, {First: 0xe000, Class: 1}, {First: last, Class: 0}}
	count := 0
	for classes, few := range map[int][]api.Band{1: bands[:1], 2: bands} {
		for states := 1; states <= 3; states++ {
			tables(few, classes, states, func(x api.Table) {
				count++
				rows([]int{0xd7ff, 0xe000, last}, 3, nil, func(l []int) {
					checkWalk(t, x, l, plainState(x, l), plainBreaks(x, l))
				})
			})
		}
	}
	if count < 100 {
		t.Errorf("just %d tables", count)
	}
}

// mixed is a row of numbers that follow from the one before.
type mixed uint64

func (m *mixed) below(n int) int {
	*m = *m*6364136223846793005 + 1442695040888963407
	return int(*m >> 33 % mixed(n))
}

// row is a row of scalars.
func (m *mixed) row(size int) []int {
	near := []int{0, 'a', 'b', 'z', '{', 0xd7ff, 0xe000, 0xe001, last}
	var l []int
	for len(l) < size {
		v := near[m.below(len(near))]
		if m.below(3) == 0 {
			v = m.below(last + 1)
		}
		if isScalar(v) {
			l = append(l, v)
		}
	}
	return l
}

// upTo are the places that are not above one.
func upTo(places []int, most int) []int {
	n, found := slices.BinarySearch(places, most)
	if found {
		n++
	}
	return places[:n]
}

// P8.1, P8.2: longer rows on greater tables; and what stands behind a place, be it nothing, the row or another one, changes nothing at it.
func TestPlacesAreToldByWhatIsAhead(t *testing.T) {
	m := mixed(8)
	for _, x := range []api.Table{marks(), greatest()} {
		for range 200 {
			l := m.row(m.below(30))
			want := plainBreaks(x, l)
			checkWalk(t, x, l, plainState(x, l), want)
			for at := range len(l) + 1 {
				checkWalk(t, x, l[:at], plainState(x, l[:at]), upTo(want, at))
				other := slices.Concat(l[:at], m.row(m.below(9)))
				if got, ok := walk.Breaks(x, other); !ok || !slices.Equal(upTo(got, at), upTo(want, at)) {
					t.Errorf("%x: breaks %v, %v; of its first %d elsewhere %v", other, got, ok, at, upTo(want, at))
				}
			}
		}
	}
}

// Rule 4: what was asked of one table is not told of another one, nor of the same memory, if another table stands in it.
func TestNothingIsKept(t *testing.T) {
	x := marks()
	l := []int{'a', 'z', 'a', 'a'}
	checkClass(t, x, 'z', 2)
	checkWalk(t, x, l, 2, []int{2, 4})
	checkClass(t, greatest(), 'z', 0)
	checkWalk(t, greatest(), l, 0, nil)
	x.Bands[3].First = 'y'
	x.Bands[4].First = 'z'
	checkClass(t, x, 'z', 0)
	checkClass(t, x, 'y', 2)
	checkWalk(t, x, l, 1, []int{3})
	x.Break[0], x.Break[2] = true, false
	checkWalk(t, x, l, 1, []int{0})
	x.Bands[0].First = 1
	checkNoClass(t, x, 'z')
	checkNoWalk(t, x, l)
}

// roomy is a list with spare room, filled with a mark.
func roomy[T any](l []T, mark T) []T {
	room := slices.Concat(l, slices.Repeat([]T{mark}, 9))
	return room[:len(l)]
}

// whole is a table with its lists' spare room, in memory of its own.
func whole(x api.Table) api.Table {
	x.Bands, x.Next, x.Break = x.Bands[:cap(x.Bands)], slices.Clone(x.Next[:cap(x.Next)]), x.Break[:cap(x.Break)]
	for i, row := range x.Next {
		x.Next[i] = row[:cap(row)]
	}
	return cloned(x)
}

// Rule 2: what is handed in stays as it was, its spare room included, which is not read.
func TestArgumentsStay(t *testing.T) {
	for _, from := range []api.Table{marks(), greatest()} {
		x := cloned(from)
		for i, row := range x.Next {
			x.Next[i] = roomy(row, 77)
		}
		x.Bands, x.Next, x.Break = roomy(x.Bands, api.Band{First: 77, Class: 77}), roomy(x.Next, []int{77}), roomy(x.Break, true)
		l := roomy([]int{'a', 0xe000, 'z', 'a', last}, -77)
		before, row := whole(x), slices.Clone(l[:cap(l)])
		checkWalk(t, x, l, plainState(from, l), plainBreaks(from, l))
		checkClass(t, x, 'z', plainClass(from, 'z'))
		if !reflect.DeepEqual(whole(x), before) || !slices.Equal(l[:cap(l)], row) {
			t.Errorf("written into: %v, %v", whole(x), l[:cap(l)])
		}
	}
}

// Rule 2: breaks that are told are new memory, shared with no argument and no other answer.
func TestAnswersAreNew(t *testing.T) {
	x, l := one(true), []int{5, 6, 7, 8}
	first, _ := walk.Breaks(x, l)
	second, _ := walk.Breaks(x, l)
	room := first[:cap(first)]
	for i := range room {
		room[i] = -9
	}
	want := []int{0, 1, 2, 3, 4}
	if !slices.Equal(second, want) || !slices.Equal(l, []int{5, 6, 7, 8}) || !reflect.DeepEqual(x, one(true)) {
		t.Errorf("memory is shared: %v, %v, %v", second, l, x)
	}
	checkWalk(t, x, l, 0, want)
}
