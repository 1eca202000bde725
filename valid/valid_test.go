package valid_test

import (
	"math"
	"reflect"
	"slices"
	"testing"

	"caesura/api"
	"caesura/table"
	"caesura/valid"
)

// noStates are numbers that no state or class of a small table has, some of which would seem to be small ones if they were cut.
var noStates = []int{math.MinInt, math.MinInt + 1, -1 << 32, -256, -255, -2, -1, 256, 257, 1 << 16, 1 << 32, 1<<32 | 1, math.MaxInt - 1, math.MaxInt}

// change is what is done to a table.
type change struct {
	what string
	do   func(x *api.Table)
}

// two is an ordinary table that may be.
func two() api.Table {
	return api.Table{
		Classes: 2,
		Bands:   []api.Band{{First: 0, Class: 0}, {First: 0x41, Class: 1}, {First: 0x1f600, Class: 0}},
		Next:    [][]int{{0, 1}, {1, 0}},
		Break:   []bool{false, true},
	}
}

// greatest is a table of as many classes, states and bands as there may be, and it may be.
func greatest() api.Table {
	x := api.Table{Classes: 8, Break: []bool{false, false, false, false, true}}
	for i := range 60 {
		x.Bands = append(x.Bands, api.Band{First: i * 0x4000, Class: i % 8})
	}
	x.Next = [][]int{
		{0, 1, 2, 3, 4, 0, 1, 2},
		{1, 2, 3, 4, 0, 0, 0, 0},
		{2, 3, 4, 0, 1, 1, 1, 1},
		{3, 4, 0, 1, 2, 2, 2, 2},
		{4, 0, 1, 2, 3, 3, 3, 3},
	}
	return x
}

// cloned is a table in memory of its own.
func cloned(x api.Table) api.Table {
	rows := slices.Clone(x.Next)
	for i, row := range rows {
		rows[i] = slices.Clone(row)
	}
	return api.Table{Classes: x.Classes, Bands: slices.Clone(x.Bands), Next: rows, Break: slices.Clone(x.Break)}
}

// isNone tells whether a table is the zero one, nil and empty lists being one.
func isNone(x api.Table) bool {
	return x.Classes == 0 && len(x.Bands) == 0 && len(x.Next) == 0 && len(x.Break) == 0
}

func check(t *testing.T, what string, x api.Table, want api.Errno) {
	t.Helper()
	if e := valid.Table(x); e != want {
		t.Errorf("%s: error %d, not %d: %v", what, e, want, x)
	}
	b, ok := table.Encode(x)
	if _, e := table.Decode(b); !ok || e != api.OK {
		return
	}
	y, e := valid.Bytes(b)
	if e != want || want == api.OK && !reflect.DeepEqual(x, y) || want != api.OK && !isNone(y) {
		t.Errorf("%s, as bytes: error %d, not %d: %v", what, e, want, y)
	}
}

// checkEach changes a table that may be, each time anew.
func checkEach(t *testing.T, from func() api.Table, want api.Errno, changes []change) {
	t.Helper()
	for _, c := range changes {
		x := from()
		c.do(&x)
		check(t, c.what, x, want)
	}
}

// P7.1: tables that may be, to both ends of the counts.
func TestTable(t *testing.T) {
	check(t, "two", two(), api.OK)
	check(t, "greatest", greatest(), api.OK)
	for _, is := range []bool{true, false} {
		check(t, "one", api.Table{Classes: 1, Bands: []api.Band{{}}, Next: [][]int{{0}}, Break: []bool{is}}, api.OK)
	}
	checkEach(t, two, api.OK, []change{
		{"bands at the scalars beside the gap", func(x *api.Table) { x.Bands[1].First, x.Bands[2].First = 0xd7ff, 0xe000 }},
		{"a band of the last scalar", func(x *api.Table) { x.Bands[2].First = 0x10ffff }},
		{"bands of one scalar each", func(x *api.Table) { x.Bands[1].First, x.Bands[2].First = 1, 2 }},
		{"the last band of the last class", func(x *api.Table) { x.Bands = x.Bands[:2] }},
		{"state 0 breaks", func(x *api.Table) { x.Break = []bool{true, false} }},
		{"state 0 is never met again", func(x *api.Table) { x.Next = [][]int{{1, 0}, {1, 1}} }},
	})
}

// P7.1: one band, one class, one state, each with too few and too many.
func TestCounts(t *testing.T) {
	check(t, "nothing", api.Table{}, api.ErrCount)
	checkEach(t, two, api.ErrCount, []change{
		{"no bands", func(x *api.Table) { x.Bands = nil }},
		{"an empty list of bands", func(x *api.Table) { x.Bands = x.Bands[:0] }},
		{"a band too many", func(x *api.Table) { x.Bands = make([]api.Band, 61) }},
		{"no states", func(x *api.Table) { x.Next, x.Break = nil, nil }},
		{"no states, but Breaks", func(x *api.Table) { x.Next = nil }},
		{"no Breaks", func(x *api.Table) { x.Break = nil }},
		{"a Break too few", func(x *api.Table) { x.Break = x.Break[:1] }},
		{"a Break too many", func(x *api.Table) { x.Break = append(x.Break, false) }},
		{"a Next too few", func(x *api.Table) { x.Next = x.Next[:1] }},
		{"a Next too many", func(x *api.Table) { x.Next = append(x.Next, []int{0, 0}) }},
		{"the first row nil", func(x *api.Table) { x.Next[0] = nil }},
		{"the first row short", func(x *api.Table) { x.Next[0] = x.Next[0][:1] }},
		{"the last row short", func(x *api.Table) { x.Next[1] = x.Next[1][:1] }},
		{"the last row long", func(x *api.Table) { x.Next[1] = append(x.Next[1], 0) }},
		{"no classes", func(x *api.Table) { x.Classes, x.Next = 0, [][]int{{}, {}} }},
		{"less than no classes", func(x *api.Table) { x.Classes, x.Next = -1, [][]int{{}, {}} }},
	})
	for _, classes := range append([]int{0, 1, 3, 8, 9}, noStates...) {
		x := two()
		x.Classes = classes
		check(t, "another number of classes", x, api.ErrCount)
	}
}

// P7.1: a table beyond one limit that else has what is asked.
func TestCountsBeyondLimits(t *testing.T) {
	checkEach(t, greatest, api.ErrCount, []change{
		{"nine classes", func(x *api.Table) {
			x.Classes, x.Bands[8].Class = 9, 8
			for state := range x.Next {
				x.Next[state] = append(x.Next[state], (state+1)%5)
			}
		}},
		{"six states", func(x *api.Table) {
			x.Next[4][7] = 5
			x.Next, x.Break = append(x.Next, []int{5, 5, 5, 5, 5, 5, 5, 5}), append(x.Break, true)
		}},
		{"sixty-one bands", func(x *api.Table) { x.Bands = append(x.Bands, api.Band{First: 0x10ffff, Class: 4}) }},
	})
}

// P7.1: bands begin at 0, rise by scalars, and no two neighbors have one class.
func TestBands(t *testing.T) {
	checkEach(t, two, api.ErrBands, []change{
		{"the first at 1", func(x *api.Table) { x.Bands[0].First = 1 }},
		{"the first below 0", func(x *api.Table) { x.Bands[0].First = -1 }},
		{"without the first", func(x *api.Table) {
			x.Bands = []api.Band{{First: 0x41, Class: 0}, {First: 0x42, Class: 1}}
		}},
		{"two at 0", func(x *api.Table) { x.Bands[1].First = 0 }},
		{"two at one place", func(x *api.Table) { x.Bands[2].First = 0x41 }},
		{"one that falls", func(x *api.Table) { x.Bands[2].First = 0x40 }},
		{"the last of the class ahead", func(x *api.Table) { x.Bands[2].Class = 1 }},
		{"the second of the class ahead", func(x *api.Table) { x.Bands[1].Class = 0 }},
		{"two of a class that there is not", func(x *api.Table) { x.Bands[1].Class, x.Bands[2].Class = 9, 9 }},
		{"the first ones turned round", func(x *api.Table) { x.Bands[0].First, x.Bands[1].First = x.Bands[1].First, x.Bands[0].First }},
	})
	for _, v := range append([]int{0xd800, 0xd801, 0xdbff, 0xdc00, 0xdffe, 0xdfff, 0x110000, 0x110001, 0xffffff}, noStates...) {
		if v == 256 || v == 257 || v == 1<<16 {
			continue
		}
		for at := range 3 {
			x := two()
			x.Bands[at].First = v
			check(t, "no scalar", x, api.ErrBands)
		}
	}
}

// P7.1: each class is there, no other is, and they first come in their order.
func TestClasses(t *testing.T) {
	checkEach(t, two, api.ErrClass, []change{
		{"one class does not come", func(x *api.Table) { x.Bands = x.Bands[:1] }},
		{"the last one ahead of the first", func(x *api.Table) {
			x.Bands = []api.Band{{First: 0, Class: 1}, {First: 0x41, Class: 0}}
		}},
		{"just the last one", func(x *api.Table) { x.Bands = []api.Band{{First: 0, Class: 1}} }},
		{"one beyond the last, and the last too", func(x *api.Table) { x.Bands[2].Class = 2 }},
		{"one beyond the last in its stead", func(x *api.Table) { x.Bands[1].Class = 2 }},
	})
	for _, v := range append([]int{2, 3, 7, 8, 255}, noStates...) {
		for at := range 3 {
			x := two()
			x.Bands[at].Class = v
			check(t, "no class", x, api.ErrClass)
		}
	}
	for at := range 8 {
		x := greatest()
		x.Bands[at].Class, x.Bands[(at+2)%8].Class = x.Bands[(at+2)%8].Class, x.Bands[at].Class
		check(t, "two that change their places", x, api.ErrClass)
	}
}

// P7.1: each Next is a state.
func TestNexts(t *testing.T) {
	for _, v := range append([]int{2, 3, 4, 5, 255}, noStates...) {
		for at := range 4 {
			x := two()
			x.Next[at/2][at%2] = v
			check(t, "no state", x, api.ErrNext)
		}
	}
}

// P7.1: states are numbered as they are met from state 0 on; one that only itself or a later one leads to is not met.
func TestOrder(t *testing.T) {
	for _, x := range []struct {
		what string
		next [][]int
		want api.Errno
	}{
		{"in their order", [][]int{{1, 2}, {0, 0}, {2, 1}}, api.OK},
		{"the last by state 1's first class", [][]int{{0, 1}, {2, 0}, {2, 2}}, api.OK},
		{"the last by state 1's last class", [][]int{{1, 0}, {1, 2}, {2, 0}}, api.OK},
		{"turned round at state 0", [][]int{{2, 1}, {0, 0}, {2, 1}}, api.ErrOrder},
		{"the last first", [][]int{{0, 2}, {1, 0}, {1, 2}}, api.ErrOrder},
		{"the last first, of state 1", [][]int{{0, 0}, {2, 1}, {1, 1}}, api.ErrOrder},
		{"the last is not met", [][]int{{0, 1}, {1, 0}, {0, 1}}, api.ErrOrder},
		{"the last is met by itself alone", [][]int{{0, 1}, {1, 0}, {2, 2}}, api.ErrOrder},
		{"the second is met by itself alone", [][]int{{0, 0}, {1, 2}, {0, 1}}, api.ErrOrder},
		{"the second is met by the last alone", [][]int{{0, 0}, {0, 2}, {1, 2}}, api.ErrOrder},
		{"none is met", [][]int{{0, 0}, {0, 0}, {0, 0}}, api.ErrOrder},
	} {
		y := two()
		y.Next, y.Break = x.next, []bool{false, true, false}
		check(t, x.what, y, x.want)
	}
}

// P7.1: no two states are alike, be it by the first or by the last pair, by rows of no class or of many.
func TestLeast(t *testing.T) {
	for _, x := range []struct {
		what   string
		next   [][]int
		breaks []bool
		want   api.Errno
	}{
		{"all break", [][]int{{0, 1}, {1, 0}}, []bool{true, true}, api.ErrLeast},
		{"none breaks", [][]int{{0, 1}, {1, 0}}, []bool{false, false}, api.ErrLeast},
		{"the first two", [][]int{{1, 2}, {0, 2}, {2, 0}}, []bool{false, false, true}, api.ErrLeast},
		{"the last two, each to itself", [][]int{{1, 2}, {1, 1}, {2, 2}}, []bool{false, true, true}, api.ErrLeast},
		{"the last two, each to the other one", [][]int{{1, 2}, {2, 2}, {1, 1}}, []bool{false, true, true}, api.ErrLeast},
		{"the first and the last", [][]int{{1, 0}, {2, 1}, {1, 2}}, []bool{true, false, true}, api.ErrLeast},
		{"three that differ by one more class each", [][]int{{0, 1}, {0, 2}, {0, 3}, {0, 3}}, []bool{false, false, false, true}, api.OK},
		{"five that differ by one more class each", [][]int{{0, 1}, {0, 2}, {0, 3}, {0, 4}, {0, 4}}, []bool{false, false, false, false, true}, api.OK},
		{"a row of four that none of the breaks parts", [][]int{{0, 1}, {0, 2}, {0, 3}, {0, 4}, {0, 4}}, []bool{false, false, false, false, false}, api.ErrLeast},
	} {
		y := two()
		y.Next, y.Break = x.next, x.breaks
		check(t, x.what, y, x.want)
	}
}

// P7.1: no two classes, be they the first, the last or far from each other, have the same Next at each state; one state is enough to part them.
func TestColumns(t *testing.T) {
	checkEach(t, two, api.ErrColumn, []change{
		{"two states that take turns", func(x *api.Table) { x.Next = [][]int{{1, 1}, {0, 0}} }},
		{"one state", func(x *api.Table) { x.Next, x.Break = [][]int{{0, 0}}, []bool{true} }},
	})
	checkEach(t, two, api.OK, []change{
		{"they differ at state 0 alone", func(x *api.Table) { x.Next = [][]int{{0, 1}, {1, 1}} }},
		{"they differ at state 1 alone", func(x *api.Table) { x.Next = [][]int{{1, 1}, {1, 0}} }},
	})
	for b := range 8 {
		for a := range b {
			x := greatest()
			for state := range x.Next {
				x.Next[state][b] = x.Next[state][a]
			}
			check(t, "two classes alike", x, plainTable(x))
			if b > 4 && valid.Table(x) != api.ErrColumn {
				t.Errorf("classes %d and %d: error %d", a, b, valid.Table(x))
			}
		}
	}
}

// P7.1: of several faults the first one is told.
func TestOrderOfErrors(t *testing.T) {
	faults := []struct {
		e  api.Errno
		do func(x *api.Table)
	}{
		{api.ErrColumn, func(x *api.Table) { x.Next = [][]int{{1, 1}, {2, 2}, {0, 0}}; x.Break = []bool{false, false, true} }},
		{api.ErrLeast, func(x *api.Table) { x.Break[2] = false }},
		{api.ErrOrder, func(x *api.Table) { x.Next[0][0], x.Next[0][1] = 2, 2 }},
		{api.ErrNext, func(x *api.Table) { x.Next[2][1] = 3 }},
		{api.ErrClass, func(x *api.Table) { x.Bands[1].Class = 5 }},
		{api.ErrBands, func(x *api.Table) { x.Bands[2].Class = 5 }},
		{api.ErrCount, func(x *api.Table) { x.Break = append(x.Break, true) }},
	}
	for chosen := range 1 << len(faults) {
		x := two()
		want := api.OK
		for i, f := range faults {
			// Those of states stand on each other: the first one makes three of them.
			if chosen>>i&1 == 0 || i > 0 && i < 4 && chosen&1 == 0 {
				continue
			}
			f.do(&x)
			if f.e == api.ErrBands && x.Bands[1].Class != 5 {
				x.Bands[2].Class = 1
			}
			want = f.e
		}
		check(t, "several faults", x, want)
	}
}

// P7.1: what is wrong with bytes is told ahead of what is wrong with their table.
func TestBytes(t *testing.T) {
	x := two()
	x.Bands[0].First = 1
	b, _ := table.Encode(x)
	for _, f := range []struct {
		what string
		do   func(b []byte) []byte
		want api.Errno
	}{
		{"nil", func(b []byte) []byte { return nil }, api.ErrShort},
		{"cut short", func(b []byte) []byte { return b[:10] }, api.ErrShort},
		{"another mark", func(b []byte) []byte { b[0]++; return b }, api.ErrMagic},
		{"another sum", func(b []byte) []byte { b[len(b)-1]++; return b }, api.ErrSum},
		{"a byte more", func(b []byte) []byte { return append(b, 0) }, api.ErrSum},
		{"bytes that hold", func(b []byte) []byte { return b }, api.ErrBands},
	} {
		if y, e := valid.Bytes(f.do(slices.Clone(b))); e != f.want || !isNone(y) {
			t.Errorf("%s: error %d, not %d: %v", f.what, e, f.want, y)
		}
	}
	for _, x := range []api.Table{
		{Classes: 9, Bands: []api.Band{{}}, Next: [][]int{make([]int, 9)}, Break: []bool{true}},
		{Classes: 1, Bands: []api.Band{{}}, Next: [][]int{{0}, {0}, {0}, {0}, {0}, {0}}, Break: make([]bool, 6)},
		{Classes: 1, Bands: make([]api.Band, 61), Next: [][]int{{0}}, Break: []bool{true}},
		{Classes: 1, Next: [][]int{{0}}, Break: []bool{true}},
	} {
		b, ok := table.Encode(x)
		if y, e := valid.Bytes(b); !ok || e != api.ErrCount || !isNone(y) {
			t.Errorf("%v: error %d, %v", x, e, y)
		}
	}
}

// P7.1: states that are alike, each one with itself too, in either order.
func TestAlike(t *testing.T) {
	x := two()
	x.Next, x.Break = [][]int{{1, 2}, {1, 1}, {2, 2}, {1, 0}, {2, 1}}, []bool{false, true, true, false, false}
	alike := [][]int{{0, 4}, {1, 2}, {1, 2}, {3}, {0, 4}}
	for a := range 5 {
		for b := range 5 {
			if valid.Alike(x, a, b) != slices.Contains(alike[a], b) {
				t.Errorf("%d and %d: %v", a, b, valid.Alike(x, a, b))
			}
		}
	}
}

// P7.1: what is no state is like none, itself too.
func TestAlikeOfNoState(t *testing.T) {
	for _, v := range append([]int{2, 3, 4, 5}, noStates...) {
		for _, w := range []int{0, 1, v, -1} {
			if valid.Alike(two(), v, w) || valid.Alike(two(), w, v) {
				t.Errorf("%d and %d are alike", v, w)
			}
		}
	}
}

// P7.1: Alike asks for counts and Nexts, and for nothing else.
func TestAlikeAsks(t *testing.T) {
	all := func(x *api.Table) { x.Break = []bool{true, true} }
	for _, c := range []change{
		{"bands", func(x *api.Table) { x.Bands = []api.Band{{First: -5, Class: 99}} }},
		{"bands that fall", func(x *api.Table) { x.Bands[1].First, x.Bands[2].First = 7, 3 }},
		{"classes that do not come", func(x *api.Table) { x.Bands = x.Bands[:1] }},
		{"states that are not met", func(x *api.Table) { x.Next = [][]int{{0, 0}, {1, 1}} }},
		{"classes alike", func(x *api.Table) { x.Next = [][]int{{1, 1}, {0, 0}} }},
	} {
		x := two()
		c.do(&x)
		if valid.Alike(x, 0, 1) || !valid.Alike(x, 1, 1) {
			t.Errorf("%s, one breaks: %v", c.what, valid.Alike(x, 0, 1))
		}
		all(&x)
		if !valid.Alike(x, 0, 1) || !valid.Alike(x, 1, 0) {
			t.Errorf("%s, both break: they aren't alike", c.what)
		}
	}
	for _, c := range []change{
		{"nothing", func(x *api.Table) { *x = api.Table{} }},
		{"no bands", func(x *api.Table) { x.Bands = nil }},
		{"too many bands", func(x *api.Table) { x.Bands = make([]api.Band, 61) }},
		{"another number of classes", func(x *api.Table) { x.Classes = 1 }},
		{"classes beyond all", func(x *api.Table) { x.Classes = math.MaxInt }},
		{"nine classes", func(x *api.Table) { x.Classes, x.Next = 9, [][]int{make([]int, 9), make([]int, 9)} }},
		{"six states", func(x *api.Table) {
			x.Next, x.Break = slices.Repeat([][]int{{0, 0}}, 6), make([]bool, 6)
		}},
		{"a short row", func(x *api.Table) { x.Next[1] = x.Next[1][:1] }},
		{"a Break too many", func(x *api.Table) { x.Break = append(x.Break, true) }},
		{"a Next beyond the states", func(x *api.Table) { x.Next[1][1] = 2 }},
		{"a Next below 0", func(x *api.Table) { x.Next[0][0] = -1 }},
	} {
		x := two()
		all(&x)
		c.do(&x)
		for _, a := range []int{0, 1} {
			if valid.Alike(x, a, a) || valid.Alike(x, a, 1-a) {
				t.Errorf("%s: states are alike", c.what)
			}
		}
	}
}

// plainApart tells whether a row of at most so many classes leads from just one of two states to one that breaks.
func plainApart(x api.Table, a, b, most int) bool {
	if x.Break[a] != x.Break[b] {
		return true
	}
	for class := 0; class < x.Classes && most > 0; class++ {
		if plainApart(x, x.Next[a][class], x.Next[b][class], most-1) {
			return true
		}
	}
	return false
}

// plainOrder tells whether the states are met from state 0 on in their order, and all of them.
func plainOrder(x api.Table) bool {
	met := []int{0}
	for i := 0; i < len(met); i++ {
		for _, to := range x.Next[met[i]] {
			if !slices.Contains(met, to) {
				met = append(met, to)
			}
		}
	}
	return len(met) == len(x.Next) && slices.IsSorted(met)
}

// plainClasses tells whether the classes first come in their order, and all of them.
func plainClasses(x api.Table) bool {
	var met []int
	for _, band := range x.Bands {
		if !slices.Contains(met, band.Class) {
			met = append(met, band.Class)
		}
	}
	for i, class := range met {
		if class != i {
			return false
		}
	}
	return len(met) == x.Classes
}

// plainTable is the chapter's definition of a table that may be, of one whose counts, bands and Nexts may be.
func plainTable(x api.Table) api.Errno {
	if !plainClasses(x) {
		return api.ErrClass
	}
	if !plainOrder(x) {
		return api.ErrOrder
	}
	for b := range x.Next {
		for a := range b {
			// Of n states, two that are not alike are told apart by fewer than n classes.
			if !plainApart(x, a, b, len(x.Next)) {
				return api.ErrLeast
			}
		}
	}
	for b := range x.Classes {
		for a := range b {
			same := true
			for _, row := range x.Next {
				same = same && row[a] == row[b]
			}
			if same {
				return api.ErrColumn
			}
		}
	}
	return api.OK
}

// each goes through all tables of these counts whose Nexts are states.
func each(bands []api.Band, classes, states int, f func(x api.Table)) {
	x := api.Table{Classes: classes, Bands: bands, Break: make([]bool, states)}
	for range states {
		x.Next = append(x.Next, make([]int, classes))
	}
	for {
		for breaks := range 1 << states {
			for state := range states {
				x.Break[state] = breaks>>state&1 == 1
			}
			f(x)
		}
		at := 0
		for at < states*classes && x.Next[at/classes][at%classes] == states-1 {
			x.Next[at/classes][at%classes] = 0
			at++
		}
		if at == states*classes {
			return
		}
		x.Next[at/classes][at%classes]++
	}
}

// P7.1: all tables of few states and classes are told as the chapter defines them, and so are their pairs.
func TestEveryTable(t *testing.T) {
	seen := map[api.Errno]int{}
	bands := []api.Band{{First: 0, Class: 0}, {First: 0x41, Class: 1}, {First: 0x42, Class: 2}}
	for classes := 1; classes <= 3; classes++ {
		for states := 1; states <= 3; states++ {
			each(bands[:classes], classes, states, func(x api.Table) {
				e := plainTable(x)
				seen[e]++
				if valid.Table(x) != e {
					t.Errorf("%v: error %d, not %d", x, valid.Table(x), e)
				}
				for a := range states {
					for b := range states {
						if valid.Alike(x, a, b) == plainApart(x, a, b, states) {
							t.Errorf("%v: %d and %d are alike: %v", x, a, b, valid.Alike(x, a, b))
						}
					}
				}
			})
		}
	}
	for _, e := range []api.Errno{api.OK, api.ErrOrder, api.ErrLeast, api.ErrColumn} {
		if seen[e] == 0 {
			t.Errorf("no table with error %d", e)
		}
	}
}

// mixed is a row of numbers that follow from the one before.
type mixed uint64

func (m *mixed) below(n int) int {
	*m = *m*6364136223846793005 + 1442695040888963407
	return int(*m >> 33 % mixed(n))
}

// of is a table of any counts, whose states are numbered as they are met if it can be.
func (m *mixed) of() api.Table {
	x := api.Table{Classes: 1 + m.below(8), Break: make([]bool, 1+m.below(5))}
	for first, last := 0, -1; len(x.Bands) < x.Classes+m.below(9); first += 1 + m.below(999) {
		class := len(x.Bands)
		if class >= x.Classes {
			class = m.below(x.Classes)
		}
		if class == last {
			break
		}
		x.Bands, last = append(x.Bands, api.Band{First: first, Class: class}), class
	}
	met := 1
	for state := range x.Break {
		x.Break[state] = m.below(2) == 1
		row := make([]int, x.Classes)
		for class := range row {
			row[class] = m.below(min(met+1, len(x.Break)))
			met = max(met, row[class]+1)
		}
		x.Next = append(x.Next, row)
	}
	return x
}

// P7.1: many tables of all counts are told as the chapter defines them.
func TestManyTables(t *testing.T) {
	m := mixed(7)
	seen := map[api.Errno]int{}
	for range 4000 {
		x := m.of()
		e := plainTable(x)
		seen[e]++
		check(t, "one of many", x, e)
		for a := range x.Next {
			for b := range x.Next {
				if valid.Alike(x, a, b) == plainApart(x, a, b, len(x.Next)) {
					t.Errorf("%v: %d and %d are alike: %v", x, a, b, valid.Alike(x, a, b))
				}
			}
		}
	}
	for _, e := range []api.Errno{api.OK, api.ErrOrder, api.ErrLeast, api.ErrColumn} {
		if seen[e] == 0 {
			t.Errorf("no table with error %d", e)
		}
	}
}

// breaks are where a table breaks, of all rows of at most so many scalars, in one row; the table's bands begin at 0, its Nexts are states.
func breaks(x api.Table, state int, scalars []int, most int) string {
	told := "."
	if x.Break[state] {
		told = "/"
	}
	for _, v := range scalars {
		class := 0
		for _, band := range x.Bands {
			if band.First <= v {
				class = band.Class
			}
		}
		if most > 0 {
			told += breaks(x, x.Next[state][class], scalars, most-1)
		}
	}
	return told
}

// P7.2: of all tables that break the same texts just one may be.
func TestOneTableOfTexts(t *testing.T) {
	scalars := []int{0x40, 0x41, 0x10ffff}
	firsts := []int{0, 0x41, 0xe000}
	all := map[string]bool{}
	mayBe := map[string]api.Table{}
	for cuts := range 4 {
		for classes := 1; classes <= 3; classes++ {
			for given := range classes * classes * classes {
				bands := []api.Band{{First: 0, Class: given % classes}}
				for i := 1; i < 3; i++ {
					given /= classes
					if cuts>>(i-1)&1 == 1 {
						bands = append(bands, api.Band{First: firsts[i], Class: given % classes})
					}
				}
				for states := 1; states <= 2; states++ {
					each(bands, classes, states, func(x api.Table) {
						told := breaks(x, 0, scalars, 2)
						all[told] = true
						if valid.Table(x) != api.OK {
							return
						}
						if y, ok := mayBe[told]; ok && !table.Same(x, y) {
							t.Errorf("%v and %v break the same texts", x, y)
						}
						mayBe[told] = cloned(x)
					})
				}
			}
		}
	}
	if len(all) != len(mayBe) || len(all) < 10 {
		t.Errorf("%d tables that may be break texts in %d ways", len(mayBe), len(all))
	}
}

// P7.2: of three states too, no two tables that may be break the same texts.
func TestOneTableOfThreeStates(t *testing.T) {
	scalars := []int{0x40, 0x41, 0x10ffff}
	told := map[string]int{}
	count := 0
	for _, bands := range [][]api.Band{
		{{First: 0, Class: 0}},
		{{First: 0, Class: 0}, {First: 0x41, Class: 1}},
		{{First: 0, Class: 0}, {First: 0xe000, Class: 1}},
		{{First: 0, Class: 0}, {First: 0x41, Class: 1}, {First: 0xe000, Class: 0}},
		{{First: 0, Class: 0}, {First: 0x41, Class: 1}, {First: 0xe000, Class: 2}},
	} {
		classes := 0
		for _, band := range bands {
			classes = max(classes, band.Class+1)
		}
		for states := 1; states <= 3; states++ {
			each(bands, classes, states, func(x api.Table) {
				if valid.Table(x) == api.OK {
					told[breaks(x, 0, scalars, 4)]++
					count++
				}
			})
		}
	}
	if len(told) != count || count < 1000 {
		t.Errorf("%d tables that may be break texts in %d ways", count, len(told))
	}
}

// roomy is a list with spare room, filled with a mark throughout.
func roomy[T any](l []T, mark T) []T {
	room := make([]T, len(l)+9)
	for i := range room {
		room[i] = mark
	}
	copy(room, l)
	return room[:len(l)]
}

// fill writes a mark through a list and its spare room.
func fill[T any](l []T, mark T) {
	l = l[:cap(l)]
	for i := range l {
		l[i] = mark
	}
}

// whole is a table with its lists' spare room.
func whole(x api.Table) api.Table {
	return cloned(api.Table{Classes: x.Classes, Bands: x.Bands[:cap(x.Bands)], Next: wholeRows(x.Next[:cap(x.Next)]), Break: x.Break[:cap(x.Break)]})
}

// wholeRows are rows with their spare room.
func wholeRows(l [][]int) [][]int {
	rows := slices.Clone(l)
	for i, row := range rows {
		rows[i] = row[:cap(row)]
	}
	return rows
}

// Rule 2: a table stays as it was, its spare room included, and the spare room is not read.
func TestMemoryOfTable(t *testing.T) {
	for _, from := range []api.Table{two(), greatest()} {
		x := cloned(from)
		for i, row := range x.Next {
			x.Next[i] = roomy(row, 77)
		}
		x.Bands, x.Next, x.Break = roomy(x.Bands, api.Band{First: 77, Class: 77}), roomy(x.Next, []int{77}), roomy(x.Break, true)
		before := whole(x)
		if e := valid.Table(x); e != api.OK {
			t.Errorf("with spare room: error %d", e)
		}
		if valid.Alike(x, 0, 1) || !valid.Alike(x, 1, 1) {
			t.Error("with spare room: states are alike otherwise")
		}
		if !reflect.DeepEqual(whole(x), before) {
			t.Errorf("the table is written into: %v", whole(x))
		}
	}
}

// Rule 2: bytes stay as they were, and tables that are told share no memory with them or with each other.
func TestMemoryOfBytes(t *testing.T) {
	want := greatest()
	good, _ := table.Encode(want)
	b := roomy(good, 0xee)
	before := slices.Clone(b[:cap(b)])
	first, _ := valid.Bytes(b)
	second, _ := valid.Bytes(b)
	if !slices.Equal(b[:cap(b)], before) {
		t.Errorf("bytes are written into: % x", b[:cap(b)])
	}
	fill(b, 0x55)
	for i, row := range first.Next {
		others := whole(first).Next
		fill(row, 1000+i)
		others[i] = slices.Repeat([]int{1000 + i}, cap(row))
		if got := whole(first).Next; !reflect.DeepEqual(got, others) {
			t.Errorf("rows share memory: %v, not %v", got, others)
		}
	}
	fill(first.Next, nil)
	fill(first.Bands, api.Band{First: -1, Class: -1})
	for _, is := range []bool{true, false} {
		fill(first.Break, is)
		if !reflect.DeepEqual(second, want) {
			t.Errorf("answers or bytes share memory: %v", second)
		}
	}
}
