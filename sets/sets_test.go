package sets_test

import (
	"math"
	"slices"
	"testing"

	"caesura/api"
	"caesura/sets"
)

const last = 0x10ffff

// allScalars is how many scalars there are.
const allScalars = 0x10f800

// points are scalars at whose neighbors something may go wrong: both ends, both sides of the gap, and some that touch.
var points = []int{0, 1, 2, 4, 0xd7fe, 0xd7ff, 0xe000, 0xe001, last - 1, last}

// probes are the points and what stands beside them, scalars or not.
var probes = []int{math.MinInt, -1 << 32, -1, 0, 1, 2, 3, 4, 5, 0xd7fd, 0xd7fe, 0xd7ff, 0xd800, 0xdbff, 0xdc00, 0xdfff, 0xe000, 0xe001, 0xe002, last - 2, last - 1, last, last + 1, 1 << 32, 1<<32 | 1, 1 << 40, math.MaxInt}

// badSets may not be, each for one reason.
var badSets = []api.Set{
	set(5, 4),
	set(last, 0),
	set(-1, 2),
	set(math.MinInt, math.MaxInt),
	set(0, last+1),
	set(last+1, last+1),
	set(math.MaxInt, math.MaxInt),
	set(0xd800, 0xe000),
	set(0xdfff, 0xe000),
	set(0xd7ff, 0xd800),
	set(0xd7ff, 0xdfff),
	set(1<<32|1, 1<<32|2),
	set(1, 1<<32|2),
	set(1, 3, 4, 5),
	set(1, 3, 3, 5),
	set(1, 3, 2, 2),
	set(1, 3, 1, 3),
	set(4, 5, 1, 2),
	set(0, last, 0, 0),
	set(0, last, last, last),
	set(0, 0xd7ff, 0xe000, last),
	set(1, 2, 5, 4),
	set(1, 2, 4, 0xd800),
	set(1, 2, 4, 5, 6, 7),
	set(1, 2, 4, 5, 7, last+1),
	set(5, 4, 7, 8),
}

func set(l ...int) api.Set {
	var s api.Set
	for i := 0; i < len(l); i += 2 {
		s = append(s, api.Range{Lo: l[i], Hi: l[i+1]})
	}
	return s
}

// isScalar is the first chapter's definition.
func isScalar(v int) bool {
	return v >= 0 && v < 0xd800 || v >= 0xe000 && v <= last
}

// isIn is what it is to be a scalar of any ranges, by each of them.
func isIn(l []api.Range, v int) bool {
	for _, r := range l {
		if isScalar(v) && r.Lo <= v && v <= r.Hi {
			return true
		}
	}
	return false
}

// plainGood is the chapter's definition of a set that may be.
func plainGood(s api.Set) bool {
	for i, r := range s {
		if !isScalar(r.Lo) || !isScalar(r.Hi) || r.Hi < r.Lo {
			return false
		}
		if i == 0 {
			continue
		}
		next := s[i-1].Hi + 1
		if next == 0xd800 {
			next = 0xe000
		}
		if r.Lo <= next {
			return false
		}
	}
	return true
}

// pointRanges are all ranges that begin and end at points.
func pointRanges() []api.Range {
	var l []api.Range
	for i, lo := range points {
		for _, hi := range points[i:] {
			l = append(l, api.Range{Lo: lo, Hi: hi})
		}
	}
	return l
}

// pointSets are all sets of at most three ranges that begin and end at points.
func pointSets() []api.Set {
	all := []api.Set{nil}
	for from := 0; from < len(all); from++ {
		if len(all[from]) == 3 {
			break
		}
		for _, r := range pointRanges() {
			if longer := append(slices.Clone(all[from]), r); plainGood(longer) {
				all = append(all, longer)
			}
		}
	}
	return all
}

// checkSet holds a set that was told against what is to be in it, at every probe; as the ends of all sets here are beside points, that tells the whole of it.
func checkSet(t *testing.T, what string, s api.Set, ok bool, want func(v int) bool) {
	t.Helper()
	if !ok || !plainGood(s) {
		t.Fatalf("%s: %x, %v may not be", what, s, ok)
	}
	for _, v := range probes {
		if isIn(s, v) != (isScalar(v) && want(v)) {
			t.Fatalf("%s: %x, of which %#x is one: %v", what, s, v, isIn(s, v))
		}
	}
}

// P3.1: sets that may be, and how many scalars they have.
func TestGoodAndSize(t *testing.T) {
	for _, r := range []struct {
		s    api.Set
		size int
	}{
		{nil, 0},
		{api.Set{}, 0},
		{set(0, 0), 1},
		{set(last, last), 1},
		{set(0x41, 0x43), 3},
		{set(0, last), allScalars},
		{set(0, 0xd7ff), 0xd800},
		{set(0xe000, last), last - 0xe000 + 1},
		{set(0xd7ff, 0xe000), 2},
		{set(0xd7fe, 0xe001), 4},
		{set(1, 2, 4, 5), 4},
		{set(0, 0, 2, 2, 4, 4, last, last), 4},
		{set(0, 0xd7fe, 0xe000, last), allScalars - 1},
		{set(0, 0xd7ff, 0xe001, last), allScalars - 1},
	} {
		if !sets.Good(r.s) {
			t.Errorf("Good(%x) is false", r.s)
		}
		if n := sets.Size(r.s); n != r.size {
			t.Errorf("Size(%x) = %d; want %d", r.s, n, r.size)
		}
	}
}

// P3.1: Good by its definition, of every row of two ranges whose ends are probes.
func TestGoodOfEveryPair(t *testing.T) {
	var l []api.Range
	for _, lo := range probes {
		for _, hi := range probes {
			r := api.Range{Lo: lo, Hi: hi}
			if s := (api.Set{r}); sets.Good(s) != plainGood(s) {
				t.Fatalf("Good(%x) = %v", s, !plainGood(s))
			}
			l = append(l, r)
		}
	}
	for _, a := range l {
		for _, b := range l {
			if s := (api.Set{a, b}); sets.Good(s) != plainGood(s) {
				t.Fatalf("Good(%x) = %v", s, !plainGood(s))
			}
		}
	}
}

// P3.1, P3.2: a set that may not be has nothing, and nothing is made of it, on whichever side it stands.
func TestBadSets(t *testing.T) {
	for _, s := range badSets {
		if sets.Good(s) || sets.Size(s) != 0 {
			t.Errorf("%x: Good %v, Size %d", s, sets.Good(s), sets.Size(s))
		}
		for _, v := range probes {
			if sets.Has(s, v) {
				t.Errorf("Has(%x, %#x)", s, v)
			}
		}
		if got, ok := sets.Not(s); ok || len(got) != 0 {
			t.Errorf("Not(%x) = %x, %v", s, got, ok)
		}
		for _, other := range []api.Set{nil, set(2, 9), set(0, last), s} {
			for name, f := range map[string]func(a, b api.Set) (api.Set, bool){"Union": sets.Union, "Both": sets.Both} {
				if got, ok := f(s, other); ok || len(got) != 0 {
					t.Errorf("%s(%x, %x) = %x, %v", name, s, other, got, ok)
				}
				if got, ok := f(other, s); ok || len(got) != 0 {
					t.Errorf("%s(%x, %x) = %x, %v", name, other, s, got, ok)
				}
			}
		}
	}
}

// P3.1: ranges in any order, within each other, twice, touching, over the gap.
func TestOf(t *testing.T) {
	for _, r := range []struct{ l, want api.Set }{
		{nil, nil},
		{api.Set{}, nil},
		{set(0x41, 0x43, 0x44, 0x44), set(0x41, 0x44)},
		{set(0x44, 0x44, 0x41, 0x43), set(0x41, 0x44)},
		{set(0x41, 0x43, 0x45, 0x45), set(0x41, 0x43, 0x45, 0x45)},
		{set(5, 5, 5, 5, 5, 5), set(5, 5)},
		{set(1, 9, 2, 3), set(1, 9)},
		{set(1, 9, 2, 3, 5, 12, 11, 11), set(1, 12)},
		{set(9, 9, 1, 3, 2, 7), set(1, 7, 9, 9)},
		{set(1, 2, 1, 9, 1, 5), set(1, 9)},
		{set(0, 0xd7ff, 0xe000, last), set(0, last)},
		{set(0xe000, 0xe000, 0xd7ff, 0xd7ff), set(0xd7ff, 0xe000)},
		{set(0xd7fe, 0xd7fe, 0xe000, 0xe000), set(0xd7fe, 0xd7fe, 0xe000, 0xe000)},
		{set(last, last, 0, last, last, last), set(0, last)},
		{set(8, 8, 6, 6, 4, 4, 2, 2), set(2, 2, 4, 4, 6, 6, 8, 8)},
	} {
		if got, ok := sets.Of(r.l); !ok || !slices.Equal(got, r.want) {
			t.Errorf("Of(%x) = %x, %v; want %x", r.l, got, ok, r.want)
		}
	}
}

// P3.1: a range with an end that is no scalar, or with its ends turned round, wherever it stands.
func TestOfWrongRanges(t *testing.T) {
	for _, lo := range probes {
		for _, hi := range probes {
			if isScalar(lo) && isScalar(hi) && lo <= hi {
				continue
			}
			r := api.Range{Lo: lo, Hi: hi}
			good := api.Range{Lo: 0, Hi: last}
			for _, l := range [][]api.Range{{r}, {good, r}, {r, good}, {good, r, good}, {r, r}} {
				if got, ok := sets.Of(l); ok || len(got) != 0 {
					t.Fatalf("Of(%x) = %x, %v", l, got, ok)
				}
			}
		}
	}
}

// P3.1: every list of three ranges that begin and end at points, held against the definition.
func TestOfEveryThree(t *testing.T) {
	ranges := pointRanges()
	for _, a := range ranges {
		for _, b := range ranges {
			for _, c := range ranges {
				l := []api.Range{a, b, c}
				got, ok := sets.Of(l)
				checkSet(t, "Of", got, ok, func(v int) bool { return isIn(l, v) })
			}
		}
	}
}

// P3.1: Has and Size by what it is to be in a set, and a set that may be is its own Of.
func TestHasOfEverySet(t *testing.T) {
	for _, s := range pointSets() {
		for _, v := range probes {
			if sets.Has(s, v) != isIn(s, v) {
				t.Fatalf("Has(%x, %#x) = %v", s, v, !isIn(s, v))
			}
		}
		if got, ok := sets.Of(s); !ok || !slices.Equal(got, s) {
			t.Fatalf("Of(%x) = %x, %v", s, got, ok)
		}
		size := 0
		for _, r := range s {
			size += r.Hi - r.Lo + 1
			if r.Lo < 0xd800 && r.Hi >= 0xe000 {
				size -= 0x800
			}
		}
		if got := sets.Size(s); got != size {
			t.Fatalf("Size(%x) = %d; want %d", s, got, size)
		}
	}
}

// P3.1: sets in their order, and each is the same as itself alone; sets that may not be are told by their ranges too.
func TestSameAndLess(t *testing.T) {
	l := []api.Set{
		nil,
		set(math.MinInt, math.MaxInt),
		set(-1, 5),
		set(0, 0),
		set(0, 0, 2, 2),
		set(0, 0, 2, 2, 4, 4),
		set(0, 0, 2, 3),
		set(0, 0, 3, 3),
		set(0, 1),
		set(0, last),
		set(1, 1),
		set(1, 1, 1, 1),
		set(1, 2, 5, 6),
		set(1, 3),
		set(2, 0, 9, 9),
		set(2, 2),
		set(2, 2, 9, 9),
		set(last, last),
		set(math.MaxInt, math.MinInt),
		set(math.MaxInt, math.MaxInt),
	}
	for i, a := range l {
		for k, b := range l {
			if got := sets.Same(a, b); got != (i == k) {
				t.Errorf("Same(%x, %x) = %v", a, b, got)
			}
			if got := sets.Less(a, b); got != (i < k) {
				t.Errorf("Less(%x, %x) = %v", a, b, got)
			}
		}
	}
	if !sets.Same(nil, api.Set{}) || sets.Less(nil, api.Set{}) || sets.Less(api.Set{}, nil) {
		t.Error("a nil set and an empty one are not one")
	}
	if a, b := set(1, 2, 4, 5), set(1, 2, 4, 5); !sets.Same(a, b) || sets.Less(a, b) {
		t.Error("equal sets in memory of their own are not the same")
	}
}

// P3.2: two sets by hand, either way round.
func TestUnionAndBoth(t *testing.T) {
	for _, r := range []struct{ a, b, union, both api.Set }{
		{nil, nil, nil, nil},
		{nil, set(3, 4), set(3, 4), nil},
		{set(1, 5), set(1, 5), set(1, 5), set(1, 5)},
		{set(1, 5), set(3, 9), set(1, 9), set(3, 5)},
		{set(1, 5), set(6, 9), set(1, 9), nil},
		{set(1, 5), set(7, 9), set(1, 5, 7, 9), nil},
		{set(1, 5), set(5, 9), set(1, 9), set(5, 5)},
		{set(1, 9), set(3, 4, 6, 7), set(1, 9), set(3, 4, 6, 7)},
		{set(1, 3, 5, 7, 9, 11), set(3, 5, 7, 9), set(1, 11), set(3, 3, 5, 5, 7, 7, 9, 9)},
		{set(1, 3, 20, 30), set(2, 25), set(1, 30), set(2, 3, 20, 25)},
		{set(0, 0xd7ff), set(0xe000, last), set(0, last), nil},
		{set(0, 0xd7ff), set(0xd7ff, 0xe000), set(0, 0xe000), set(0xd7ff, 0xd7ff)},
		{set(0, 0xe000), set(0xd7ff, last), set(0, last), set(0xd7ff, 0xe000)},
		{set(0, last), set(0, 0, last, last), set(0, last), set(0, 0, last, last)},
	} {
		for _, p := range [][2]api.Set{{r.a, r.b}, {r.b, r.a}} {
			if got, ok := sets.Union(p[0], p[1]); !ok || !slices.Equal(got, r.union) {
				t.Errorf("Union(%x, %x) = %x, %v; want %x", p[0], p[1], got, ok, r.union)
			}
			if got, ok := sets.Both(p[0], p[1]); !ok || !slices.Equal(got, r.both) {
				t.Errorf("Both(%x, %x) = %x, %v; want %x", p[0], p[1], got, ok, r.both)
			}
		}
	}
}

// P3.2: a set's others by hand: from nothing to all, at both ends, at both sides of the gap.
func TestNot(t *testing.T) {
	for _, r := range []struct{ s, want api.Set }{
		{nil, set(0, last)},
		{api.Set{}, set(0, last)},
		{set(0, last), nil},
		{set(0, 0), set(1, last)},
		{set(last, last), set(0, last-1)},
		{set(0, 0xd7ff), set(0xe000, last)},
		{set(0xe000, last), set(0, 0xd7ff)},
		{set(0xd7ff, 0xe000), set(0, 0xd7fe, 0xe001, last)},
		{set(0, 0xd7fe, 0xe000, last), set(0xd7ff, 0xd7ff)},
		{set(0, 0xd7ff, 0xe001, last), set(0xe000, 0xe000)},
		{set(5, 6, 9, 0xd7ff), set(0, 4, 7, 8, 0xe000, last)},
		{set(0, 0, 2, 2, last, last), set(1, 1, 3, last-1)},
	} {
		if got, ok := sets.Not(r.s); !ok || !slices.Equal(got, r.want) {
			t.Errorf("Not(%x) = %x, %v; want %x", r.s, got, ok, r.want)
		}
	}
}

// P3.2, P3.3: each set's others are all that it has not, and the others of these are the set.
func TestNotOfEverySet(t *testing.T) {
	for _, s := range pointSets() {
		others, ok := sets.Not(s)
		checkSet(t, "Not", others, ok, func(v int) bool { return !isIn(s, v) })
		if back, ok := sets.Not(others); !ok || !slices.Equal(back, s) {
			t.Fatalf("Not(Not(%x)) = %x, %v", s, back, ok)
		}
		if sets.Size(s)+sets.Size(others) != allScalars {
			t.Fatalf("%x and %x have not all scalars together", s, others)
		}
		if got, ok := sets.Both(s, others); !ok || len(got) != 0 {
			t.Fatalf("%x is in %x and in its others", got, s)
		}
		if got, ok := sets.Union(s, others); !ok || !slices.Equal(got, set(0, last)) {
			t.Fatalf("%x and its others are %x", s, got)
		}
	}
}

// P3.2, P3.3: each two sets, held against the definition; what is in both is in each.
func TestUnionAndBothOfEveryPair(t *testing.T) {
	all := pointSets()
	for i, a := range all {
		// Each set against every seventh, from beginnings that differ, so that the time stays short.
		for k := i % 7; k < len(all); k += 7 {
			b := all[k]
			union, ok := sets.Union(a, b)
			checkSet(t, "Union", union, ok, func(v int) bool { return isIn(a, v) || isIn(b, v) })
			both, ok := sets.Both(a, b)
			checkSet(t, "Both", both, ok, func(v int) bool { return isIn(a, v) && isIn(b, v) })
			for _, each := range []api.Set{a, b} {
				if got, ok := sets.Both(both, each); !ok || !slices.Equal(got, both) {
					t.Fatalf("%x is in both %x and %x, but not in %x", both, a, b, each)
				}
			}
			if sets.Size(union)+sets.Size(both) != sets.Size(a)+sets.Size(b) {
				t.Fatalf("the sizes of %x and %x", a, b)
			}
		}
	}
}

// P3.1, P3.2, P3.3: sets of very many ranges.
func TestGreatSets(t *testing.T) {
	var even, odd api.Set
	for v := 0; v <= last; v += 2 {
		if isScalar(v) {
			even = append(even, api.Range{Lo: v, Hi: v})
			odd = append(odd, api.Range{Lo: v + 1, Hi: v + 1})
		}
	}
	if got, ok := sets.Not(even); !ok || !slices.Equal(got, odd) {
		t.Errorf("Not of the even scalars: %v", ok)
	}
	if got, ok := sets.Union(even, odd); !ok || !slices.Equal(got, set(0, last)) {
		t.Errorf("all scalars: %x, %v", got, ok)
	}
	if got, ok := sets.Both(even, odd); !ok || len(got) != 0 {
		t.Errorf("even and odd: %x, %v", got, ok)
	}
	turned := slices.Clone(even)
	slices.Reverse(turned)
	if got, ok := sets.Of(turned); !ok || !sets.Same(got, even) {
		t.Errorf("the even scalars from behind: %v", ok)
	}
	if sets.Size(even) != allScalars/2 || sets.Has(even, last) || !sets.Has(even, last-1) {
		t.Error("the even scalars' size or members")
	}
}

// Rule 2: what is handed in stays as it is, its spare room too, and no answer shares memory with an argument or with another answer.
func TestMemoryIsApart(t *testing.T) {
	spare := set(7, 7, 3, 3)
	fill := func(s api.Set) api.Set { return append(slices.Clone(s), spare...)[:len(s)] }
	whole := func(s api.Set) api.Set { return s[:len(s)+len(spare)] }
	good, other, mixed := set(0, 5, 9, 12), set(1, 1, 3, 10), set(8, 9, 1, 2, 3, 3)
	calls := []func(a, b, l api.Set) (api.Set, bool){
		func(a, b, l api.Set) (api.Set, bool) { return sets.Of(l) },
		func(a, b, l api.Set) (api.Set, bool) { return sets.Of(a) },
		func(a, b, l api.Set) (api.Set, bool) { return sets.Union(a, b) },
		func(a, b, l api.Set) (api.Set, bool) { return sets.Union(a, nil) },
		func(a, b, l api.Set) (api.Set, bool) { return sets.Union(nil, b) },
		func(a, b, l api.Set) (api.Set, bool) { return sets.Both(a, b) },
		func(a, b, l api.Set) (api.Set, bool) { return sets.Both(a, a) },
		func(a, b, l api.Set) (api.Set, bool) { return sets.Not(a) },
	}
	for i, call := range calls {
		a, b, l := fill(good), fill(other), fill(mixed)
		one, _ := call(a, b, l)
		two, ok := call(a, b, l)
		want := slices.Clone(two)
		for k := range one[:cap(one)] {
			one[:cap(one)][k] = api.Range{Lo: -7, Hi: -8}
		}
		if !ok || !slices.Equal(two, want) {
			t.Errorf("call %d: another answer has become %x", i, two)
		}
		for k, p := range [][2]api.Set{{a, good}, {b, other}, {l, mixed}} {
			if !slices.Equal(whole(p[0]), slices.Concat(p[1], spare)) {
				t.Errorf("call %d: argument %d has become %x", i, k, whole(p[0]))
			}
		}
	}
}
