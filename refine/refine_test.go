package refine_test

import (
	"fmt"
	"math"
	"slices"
	"testing"

	"caesura/api"
	"caesura/refine"
)

const last = 0x10ffff

// points are scalars at whose neighbors something may go wrong: both ends, both sides of the gap, and some that touch.
var points = []int{0, 1, 2, 4, 0xd7fe, 0xd7ff, 0xe000, 0xe001, last - 1, last}

// probes are the points and what stands beside them, scalars or not.
var probes = []int{math.MinInt, -1 << 32, -1, 0, 1, 2, 3, 4, 5, 0xd7fd, 0xd7fe, 0xd7ff, 0xd800, 0xdbff, 0xdc00, 0xdfff, 0xe000, 0xe001, 0xe002, last - 2, last - 1, last, last + 1, 1 << 32, 1<<32 | 1, 1 << 40, math.MaxInt}

// badSets may not be, each for one reason.
var badSets = []api.Set{
	set(5, 4),
	set(-1, 2),
	set(math.MinInt, math.MaxInt),
	set(0, last+1),
	set(0xd800, 0xd900),
	set(0xd7ff, 0xd800),
	set(0xdfff, 0xe000),
	set(1, 2, 3, 4),
	set(1, 3, 3, 5),
	set(4, 5, 1, 2),
	set(0, 0xd7ff, 0xe000, last),
	set(1, 2, 5, 4),
}

func set(l ...int) api.Set {
	var s api.Set
	for i := 0; i < len(l); i += 2 {
		s = append(s, api.Range{Lo: l[i], Hi: l[i+1]})
	}
	return s
}

// all is every scalar.
func all() api.Set { return set(0, last) }

// isScalar is the first chapter's definition.
func isScalar(v int) bool {
	return v >= 0 && v < 0xd800 || v >= 0xe000 && v <= last
}

// isIn is what it is to be a scalar of a set, by each of its ranges.
func isIn(s api.Set, v int) bool {
	for _, r := range s {
		if isScalar(v) && r.Lo <= v && v <= r.Hi {
			return true
		}
	}
	return false
}

// follower is the scalar behind another one, or last + 1.
func follower(v int) int {
	if v == 0xd7ff {
		return 0xe000
	}
	return v + 1
}

// isGood is the third chapter's definition of a set that may be.
func isGood(s api.Set) bool {
	for i, r := range s {
		if !isScalar(r.Lo) || !isScalar(r.Hi) || r.Hi < r.Lo || i > 0 && r.Lo <= follower(s[i-1].Hi) {
			return false
		}
	}
	return true
}

// pointSets are all sets of at most two ranges that begin and end at points.
func pointSets() []api.Set {
	sets := []api.Set{nil}
	for from := 0; from < len(sets) && len(sets[from]) < 2; from++ {
		for i, lo := range points {
			for _, hi := range points[i:] {
				if longer := append(slices.Clone(sets[from]), api.Range{Lo: lo, Hi: hi}); isGood(longer) {
					sets = append(sets, longer)
				}
			}
		}
	}
	return sets
}

// held is which of some sets have a scalar, as a text.
func held(l []api.Set, v int) string {
	b := make([]byte, len(l))
	for i, s := range l {
		b[i] = '0'
		if isIn(s, v) {
			b[i] = '1'
		}
	}
	return string(b)
}

// plainParts are the parts by their definition: from each scalar at which something may change to the next one, all are in the same sets.
func plainParts(l []api.Set) []api.Set {
	cuts := []int{0}
	for _, s := range l {
		for _, r := range s {
			cuts = append(cuts, r.Lo, follower(r.Hi))
		}
	}
	slices.Sort(cuts)
	cuts = slices.Compact(append(cuts, last+1))
	var parts []api.Set
	place := map[string]int{}
	for i, lo := range cuts[:len(cuts)-1] {
		if lo > last {
			break
		}
		hi := cuts[i+1] - 1
		if !isScalar(hi) {
			hi = 0xd7ff
		}
		h := held(l, lo)
		k, met := place[h]
		if !met {
			k = len(parts)
			place[h] = k
			parts = append(parts, nil)
		}
		if n := len(parts[k]); n > 0 && follower(parts[k][n-1].Hi) == lo {
			parts[k][n-1].Hi = hi
		} else {
			parts[k] = append(parts[k], api.Range{Lo: lo, Hi: hi})
		}
	}
	return parts
}

func sameSets(a, b []api.Set) bool {
	return slices.EqualFunc(a, b, func(x, y api.Set) bool { return slices.Equal(x, y) })
}

func checkParts(t *testing.T, l []api.Set) {
	t.Helper()
	got, ok := refine.Parts(l)
	if want := plainParts(l); !ok || !sameSets(got, want) {
		t.Fatalf("Parts(%x) = %x, %v; want %x", l, got, ok, want)
	}
}

// checkNoParts asks for false, and nothing beside it.
func checkNoParts(t *testing.T, what string, l []api.Set) {
	t.Helper()
	if got, ok := refine.Parts(l); ok || len(got) != 0 {
		t.Errorf("Parts of %s: %d parts, %v", what, len(got), ok)
	}
}

// singles are sets of one scalar each: of n sets there are n + 1 parts.
func singles(n int) []api.Set {
	var l []api.Set
	for v := range n {
		l = append(l, set(3*v+1, 3*v+1))
	}
	return l
}

// digits are the sets of the numbers below n by their bits from one to another one.
func digits(n, from, to int) []api.Set {
	var l []api.Set
	for k := from; k < to; k++ {
		var s api.Set
		for v := range n {
			switch m := len(s); {
			case v>>k&1 == 0:
			case m > 0 && s[m-1].Hi == v-1:
				s[m-1].Hi = v
			default:
				s = append(s, api.Range{Lo: v, Hi: v})
			}
		}
		l = append(l, s)
	}
	return l
}

// P4.1: parts by hand: of no sets, of nothing and all, of sets that lie within each other, that overlap, over the gap.
func TestParts(t *testing.T) {
	for _, r := range []struct{ l, want []api.Set }{
		{nil, []api.Set{all()}},
		{[]api.Set{}, []api.Set{all()}},
		{[]api.Set{nil}, []api.Set{all()}},
		{[]api.Set{all()}, []api.Set{all()}},
		{[]api.Set{{}, all(), nil, all()}, []api.Set{all()}},
		{[]api.Set{set(0, 0)}, []api.Set{set(0, 0), set(1, last)}},
		{[]api.Set{set(last, last)}, []api.Set{set(0, last-1), set(last, last)}},
		{[]api.Set{set(5, 6)}, []api.Set{set(0, 4, 7, last), set(5, 6)}},
		{[]api.Set{set(0, 4, 7, last)}, []api.Set{set(0, 4, 7, last), set(5, 6)}},
		{[]api.Set{set(1, 9), set(5, 9)}, []api.Set{set(0, 0, 10, last), set(1, 4), set(5, 9)}},
		{[]api.Set{set(5, 9), set(1, 9)}, []api.Set{set(0, 0, 10, last), set(1, 4), set(5, 9)}},
		{[]api.Set{set(7, 9), set(3, 5), set(0, 1)}, []api.Set{set(0, 1), set(2, 2, 6, 6, 10, last), set(3, 5), set(7, 9)}},
		{[]api.Set{set(1, 1, 5, 5), set(3, 3, 7, 7)}, []api.Set{set(0, 0, 2, 2, 4, 4, 6, 6, 8, last), set(1, 1, 5, 5), set(3, 3, 7, 7)}},
		// one set ceases where the other begins
		{[]api.Set{set(1, 4), set(5, 9)}, []api.Set{set(0, 0, 10, last), set(1, 4), set(5, 9)}},
		{[]api.Set{set(0, 0xd7ff)}, []api.Set{set(0, 0xd7ff), set(0xe000, last)}},
		{[]api.Set{set(0xe000, last)}, []api.Set{set(0, 0xd7ff), set(0xe000, last)}},
		{[]api.Set{set(0xd7ff, 0xe000)}, []api.Set{set(0, 0xd7fe, 0xe001, last), set(0xd7ff, 0xe000)}},
		{[]api.Set{set(0xd7ff, 0xd7ff), set(0xe000, 0xe000)}, []api.Set{set(0, 0xd7fe, 0xe001, last), set(0xd7ff, 0xd7ff), set(0xe000, 0xe000)}},
	} {
		if got, ok := refine.Parts(r.l); !ok || !sameSets(got, r.want) {
			t.Errorf("Parts(%x) = %x, %v; want %x", r.l, got, ok, r.want)
		}
	}
}

// P4.1: a set that may not be, wherever it stands, even where there are too many parts besides.
func TestPartsOfBadSets(t *testing.T) {
	for _, bad := range badSets {
		what := fmt.Sprintf("%x", bad)
		checkNoParts(t, what, []api.Set{bad})
		checkNoParts(t, what, []api.Set{nil, all(), bad})
		checkNoParts(t, what, []api.Set{bad, set(1, 2)})
		checkNoParts(t, what, append(singles(300), bad))
		checkNoParts(t, what, slices.Concat(slices.Repeat([]api.Set{all()}, 300), []api.Set{bad}, slices.Repeat([]api.Set{nil}, 300)))
	}
}

// P4.1: 256 parts are told, one more is not, however many sets make them.
func TestPartsBound(t *testing.T) {
	for n := 250; n <= 255; n++ {
		checkParts(t, singles(n))
	}
	checkNoParts(t, "256 singles", singles(256))
	checkNoParts(t, "1000 singles", singles(1000))
	checkParts(t, digits(256, 0, 8))
	checkNoParts(t, "eight bits and one set more", append(digits(256, 0, 8), set(0, 255)))
	checkNoParts(t, "every bit", digits(1<<12, 0, 12))

	// Either half of these sets parts scalars into a few parts, and both together into many.
	low, high := slices.Repeat(digits(256, 0, 4), 100), slices.Repeat(digits(256, 4, 8), 100)
	checkParts(t, slices.Concat(low, high))
	checkNoParts(t, "halves and one set more", slices.Concat(low, high, []api.Set{set(300, 300)}))
	checkNoParts(t, "one set more and halves", slices.Concat([]api.Set{set(300, 300)}, low, high))
	checkNoParts(t, "a first half of too many", slices.Concat(singles(256), make([]api.Set, 300)))
	checkNoParts(t, "a second half of too many", slices.Concat(make([]api.Set, 300), singles(256)))
	checkNoParts(t, "singles on either side", slices.Concat(singles(255), []api.Set{set(0, 0), set(2, 2)}))
}

// P4.1: one set among many that part nothing: each place of it tells the same two parts, or three, if there is another one.
func TestPartsOfManySets(t *testing.T) {
	for _, n := range []int{63, 64, 65, 128, 255, 256, 257, 511, 512, 513, 1030} {
		for _, k := range []int{0, 1, 62, 63, 64, 127, 128, 191, 192, 255, 256, 257, 300, 511, 512, 514, 1029} {
			if k >= n {
				continue
			}
			l := make([]api.Set, n)
			l[k] = set(5, 6)
			checkParts(t, l)
			for i := range l {
				if i%2 == 0 && i != k {
					l[i] = all()
				}
			}
			checkParts(t, l)
			l[n-1-k] = set(6, 7, 9, last)
			checkParts(t, l)
		}
	}
	checkParts(t, slices.Repeat(singles(255), 3))
	checkParts(t, slices.Repeat(digits(200, 0, 8), 70))
}

// P4.1, P4.3: every pair of sets of points, held against the definition; parts are apart, and all together.
func TestPartsOfEveryPair(t *testing.T) {
	l := pointSets()
	for i, a := range l {
		for k, b := range l {
			if (i+k)%3 == 0 {
				checkParts(t, []api.Set{a, b})
			}
		}
	}
}

// P4.3: of parts of three sets, each scalar is in just one, and beside just those that are in the same sets.
func TestPartsApartAndAll(t *testing.T) {
	sets := pointSets()
	for i := range sets {
		l := []api.Set{sets[i], sets[(7*i+3)%len(sets)], sets[(31*i+11)%len(sets)]}
		parts, ok := refine.Parts(l)
		if !ok {
			t.Fatalf("Parts(%x) is false", l)
		}
		home := map[string]int{}
		for _, v := range probes {
			if !isScalar(v) {
				continue
			}
			k := slices.IndexFunc(parts, func(p api.Set) bool { return isIn(p, v) })
			if k < 0 || slices.ContainsFunc(parts[k+1:], func(p api.Set) bool { return isIn(p, v) }) {
				t.Fatalf("Parts(%x) = %x: %#x is not in just one", l, parts, v)
			}
			h := held(l, v)
			if other, met := home[h]; met && other != k {
				t.Fatalf("Parts(%x) = %x: %#x is in a part of its own", l, parts, v)
			}
			home[h] = k
		}
		if len(home) != len(parts) {
			t.Fatalf("Parts(%x) = %x: %d parts are asked for", l, parts, len(home))
		}
		for k := range len(parts) - 1 {
			if parts[k][0].Lo >= parts[k+1][0].Lo {
				t.Fatalf("Parts(%x) = %x: not by their least scalars", l, parts)
			}
		}
	}
}

// P4.1: a set of very many ranges beside many sets: the call ends soon.
func TestPartsOfManyRanges(t *testing.T) {
	var even api.Set
	for v := 0; v < 0xd800; v += 2 {
		even = append(even, api.Range{Lo: v, Hi: v})
	}
	l := make([]api.Set, 20000)
	l[0], l[9999], l[19999] = even, set(0, 0x7fff), even
	parts, ok := refine.Parts(l)
	if !ok || len(parts) != 4 || len(parts[0]) != 0x4000 || len(parts[2]) != 0x2c00 {
		t.Fatalf("%d parts, %v", len(parts), ok)
	}
	bands, ok := refine.Bands(parts)
	if !ok || len(bands) != 0xd800 {
		t.Errorf("%d bands, %v", len(bands), ok)
	}
	for k, want := range [][]int{{0, 2}, {0, 1}} {
		if got, ok := refine.Within([]api.Set{l[9999*k]}, parts); !ok || !slices.Equal(got[0], want) {
			t.Errorf("Within of set %d: %v, %v", 9999*k, got, ok)
		}
	}
}

// P4.2: bands by hand; parts may stand in any order, and there may be any number of them.
func TestBands(t *testing.T) {
	for _, r := range []struct {
		parts []api.Set
		want  []api.Band
	}{
		{[]api.Set{all()}, []api.Band{{First: 0, Class: 0}}},
		{[]api.Set{set(0, 4, 7, last), set(5, 6)}, []api.Band{{First: 0, Class: 0}, {First: 5, Class: 1}, {First: 7, Class: 0}}},
		{[]api.Set{set(5, 6), set(0, 4, 7, last)}, []api.Band{{First: 0, Class: 1}, {First: 5, Class: 0}, {First: 7, Class: 1}}},
		{[]api.Set{set(9, last), set(3, 8), set(0, 2)}, []api.Band{{First: 0, Class: 2}, {First: 3, Class: 1}, {First: 9, Class: 0}}},
		{[]api.Set{set(0, 0xd7ff), set(0xe000, last)}, []api.Band{{First: 0, Class: 0}, {First: 0xe000, Class: 1}}},
		{[]api.Set{set(0, 0xd7fe, 0xe000, last), set(0xd7ff, 0xd7ff)}, []api.Band{{First: 0, Class: 0}, {First: 0xd7ff, Class: 1}, {First: 0xe000, Class: 0}}},
		{[]api.Set{set(0, last-1), set(last, last)}, []api.Band{{First: 0, Class: 0}, {First: last, Class: 1}}},
	} {
		if got, ok := refine.Bands(r.parts); !ok || !slices.Equal(got, r.want) {
			t.Errorf("Bands(%x) = %x, %v; want %x", r.parts, got, ok, r.want)
		}
	}
	var many []api.Set
	for v := range 1000 {
		many = append(many, set(999-v, 999-v))
	}
	got, ok := refine.Bands(append(many, set(1000, last)))
	if !ok || len(got) != 1001 || got[0] != (api.Band{First: 0, Class: 999}) || got[1000] != (api.Band{First: 1000, Class: 1000}) {
		t.Errorf("of 1001 parts: %d bands, %v", len(got), ok)
	}
}

// P4.2: parts that are nothing, that overlap, that leave a scalar out, that may not be.
func TestBandsOfWrongParts(t *testing.T) {
	wrong := [][]api.Set{
		nil,
		{},
		{nil},
		{all(), nil},
		{nil, all()},
		{all(), {}},
		{all(), all()},
		{all(), set(3, 4)},
		{set(3, 4), all()},
		{set(0, 5), set(5, last)},
		{set(0, 5), set(7, last)},
		{set(1, last)},
		{set(0, last-1)},
		{set(0, 5), set(6, last), set(last, last)},
		{set(0, 5), set(6, last), set(0, 0)},
		{set(0, 0xd7ff), set(0xe001, last)},
		{set(0, 0xd7fe), set(0xe000, last)},
		{set(0, 0xe000), set(0xe000, last)},
		{set(0, 0xd7ff, 0xe000, last)},
		{set(0, 0xdfff), set(0xe000, last)},
		{set(0, 0xd7ff), set(0xd800, last)},
		{set(0, last+1)},
	}
	for _, bad := range badSets {
		wrong = append(wrong, []api.Set{bad}, []api.Set{all(), bad}, []api.Set{bad, all()})
	}
	for _, parts := range wrong {
		if got, ok := refine.Bands(parts); ok || len(got) != 0 {
			t.Errorf("Bands(%x) = %x, %v", parts, got, ok)
		}
	}
}

// P4.2: Bands is true of all parts just if they are apart and all together; and Of tells each scalar's part by them.
func TestBandsOfEveryPair(t *testing.T) {
	l := pointSets()
	for i, a := range l {
		for k, b := range l {
			if (i+k)%3 != 0 {
				continue
			}
			parts, _ := refine.Parts([]api.Set{a, b})
			checkBands(t, parts)
			want := len(a) > 0 && len(b) > 0 && !slices.ContainsFunc(points, func(v int) bool { return isIn(a, v) == isIn(b, v) }) && isIn(a, 3) != isIn(b, 3) && isIn(a, 5) != isIn(b, 5) && isIn(a, last-2) != isIn(b, last-2)
			if bands, ok := refine.Bands([]api.Set{a, b}); ok != want || !ok && len(bands) != 0 {
				t.Fatalf("Bands(%x, %x) = %x, %v", a, b, bands, ok)
			}
		}
	}
}

// checkBands asks that bands begin at 0 and rise, that the class changes at each, and that they tell each probe's part.
func checkBands(t *testing.T, parts []api.Set) {
	t.Helper()
	bands, ok := refine.Bands(parts)
	if !ok || bands[0].First != 0 {
		t.Fatalf("Bands(%x) = %x, %v", parts, bands, ok)
	}
	for i := range len(bands) - 1 {
		if bands[i].First >= bands[i+1].First || bands[i].Class == bands[i+1].Class {
			t.Fatalf("Bands(%x) = %x", parts, bands)
		}
	}
	for _, v := range probes {
		k, ok := refine.Of(bands, v)
		if ok != isScalar(v) || ok && !isIn(parts[k], v) || !ok && k != 0 {
			t.Fatalf("Of(%x, %#x) = %d, %v; parts %x", bands, v, k, ok, parts)
		}
	}
}

// P4.2: Of goes by the order in which bands stand, whatever their numbers are.
func TestOf(t *testing.T) {
	bands := []api.Band{{First: 3, Class: 7}, {First: 9, Class: -2}, {First: 5, Class: 4}, {First: 1 << 40, Class: 1}, {First: last, Class: math.MaxInt}}
	for _, r := range []struct {
		bands []api.Band
		v     int
		want  int
		ok    bool
	}{
		{nil, 5, 0, false},
		{[]api.Band{}, 0, 0, false},
		{bands, 0, 0, false},
		{bands, 2, 0, false},
		{bands, 3, 7, true},
		{bands, 4, 7, true},
		{bands, 5, 4, true},
		{bands, 9, 4, true},
		{bands[:2], 8, 7, true},
		{bands[:2], 9, -2, true},
		{bands, 0xd7ff, 4, true},
		{bands, 0xd800, 0, false},
		{bands, 0xdfff, 0, false},
		{bands, 0xe000, 4, true},
		{bands, last - 1, 4, true},
		{bands, last, math.MaxInt, true},
		{bands, last + 1, 0, false},
		{bands, 1 << 40, 0, false},
		{bands, 1<<32 | 5, 0, false},
		{bands, -1, 0, false},
		{bands, math.MaxInt, 0, false},
		{[]api.Band{{First: math.MinInt, Class: 6}}, 0, 6, true},
		{[]api.Band{{First: -1, Class: 6}}, -1, 0, false},
		{[]api.Band{{First: 0xd800, Class: 6}}, 0xe000, 6, true},
		{[]api.Band{{First: 4, Class: 6}, {First: 4, Class: 8}}, 4, 8, true},
		{[]api.Band{{First: math.MaxInt, Class: 6}}, last, 0, false},
	} {
		if got, ok := refine.Of(r.bands, r.v); got != r.want || ok != r.ok {
			t.Errorf("Of(%v, %#x) = %d, %v; want %d, %v", r.bands, r.v, got, ok, r.want, r.ok)
		}
	}
}

// P4.2: places by hand; parts need not be apart nor all, and one of nothing is in each set.
func TestWithin(t *testing.T) {
	parts := []api.Set{set(0, 4), set(5, 9, 30, last), set(10, 20), set(21, 29)}
	for _, r := range []struct {
		l, parts []api.Set
		want     [][]int
	}{
		{nil, nil, nil},
		{nil, parts, nil},
		{[]api.Set{nil, all(), set(3, 4)}, nil, [][]int{nil, nil, nil}},
		{[]api.Set{set(0, 9, 30, last), set(10, 29), nil, all()}, parts, [][]int{{0, 1}, {2, 3}, nil, {0, 1, 2, 3}}},
		{[]api.Set{set(21, 29), set(21, 29)}, parts, [][]int{{3}, {3}}},
		{[]api.Set{nil, set(5, 6)}, []api.Set{nil, set(5, 5), {}, set(6, 6), set(9, 9)}, [][]int{{0, 2}, {0, 1, 2, 3}}},
		{[]api.Set{set(0, 3)}, []api.Set{set(9, 9), set(2, 3), set(0, 0, 3, 3), set(0, 3), set(2, 3)}, [][]int{{1, 2, 3, 4}}},
		{[]api.Set{set(0xd7ff, 0xe000)}, []api.Set{set(0, 0xd7fe), set(0xe000, 0xe000), set(0xd7ff, 0xd7ff), set(0xe001, last)}, [][]int{{1, 2}}},
	} {
		got, ok := refine.Within(r.l, r.parts)
		if !ok || !slices.EqualFunc(got, r.want, func(a, b []int) bool { return slices.Equal(a, b) }) {
			t.Errorf("Within(%x, %x) = %v, %v; want %v", r.l, r.parts, got, ok, r.want)
		}
	}
}

// P4.2: a part that a set has a piece of alone, and sets and parts that may not be.
func TestWithinOfWrongSets(t *testing.T) {
	checkNone := func(l, parts []api.Set) {
		t.Helper()
		if got, ok := refine.Within(l, parts); ok || len(got) != 0 {
			t.Errorf("Within(%x, %x) = %v, %v", l, parts, got, ok)
		}
	}
	parts := []api.Set{set(0, 4), set(5, 9), set(10, 20), set(21, last)}
	for _, s := range []api.Set{set(0, 3), set(1, 4), set(2, 2), set(3, 6), set(0, 5), set(21, last-1), set(9, 9), set(0, 4, 6, 8), set(22, last)} {
		checkNone([]api.Set{s}, parts)
		checkNone([]api.Set{set(0, 9), s}, parts)
		checkNone([]api.Set{s, set(0, 9)}, parts)
	}
	checkNone([]api.Set{set(1, 2)}, []api.Set{set(1, 1), set(2, 2), set(2, 3)})
	checkNone([]api.Set{set(0, 0xd7ff)}, []api.Set{set(0xd7ff, 0xe000)})
	for _, bad := range badSets {
		checkNone([]api.Set{bad}, nil)
		checkNone([]api.Set{bad}, parts)
		checkNone([]api.Set{nil, bad}, []api.Set{all()})
		checkNone(nil, []api.Set{bad})
		checkNone([]api.Set{nil}, []api.Set{all(), bad})
		checkNone([]api.Set{all()}, []api.Set{bad, all()})
	}
}

// P4.2, P4.3: each set is just the parts that Within tells of it.
func TestWithinOfEveryPair(t *testing.T) {
	l := pointSets()
	for i, a := range l {
		for k, b := range l {
			if (i+k)%3 != 1 {
				continue
			}
			pair := []api.Set{a, b}
			parts, _ := refine.Parts(pair)
			got, ok := refine.Within(pair, parts)
			if !ok || len(got) != 2 {
				t.Fatalf("Within(%x, %x) = %v, %v", pair, parts, got, ok)
			}
			for n, s := range pair {
				var want []int
				for place, p := range parts {
					if isIn(s, p[0].Lo) {
						want = append(want, place)
					}
				}
				if !slices.Equal(got[n], want) {
					t.Fatalf("Within(%x, %x) = %v", pair, parts, got)
				}
			}
		}
	}
}

// spoil overwrites lists as far as their room goes.
func spoil(l []api.Set) {
	for _, s := range l {
		s = s[:cap(s)]
		for i := range s {
			s[i] = api.Range{Lo: -7, Hi: -7}
		}
	}
}

// roomy are sets with room to spare, in which a mark stands.
func roomy(l []api.Set) []api.Set {
	mark := api.Range{Lo: -9, Hi: -9}
	var out []api.Set
	for _, s := range l {
		out = append(out, slices.Concat(s, api.Set{mark, mark, mark})[:len(s)])
	}
	return append(out, api.Set{mark})[:len(l)]
}

// whole is all that a list of sets has, with its room.
func whole(l []api.Set) string {
	text := ""
	for _, s := range l[:cap(l)] {
		text += fmt.Sprint(s[:cap(s)])
	}
	return text
}

// What is handed in stays as it is, with its spare room; what is told is memory of its own.
func TestMemory(t *testing.T) {
	l := roomy([]api.Set{set(1, 9), set(5, 20, 30, 40), nil, set(1, 9)})
	before := whole(l)
	parts, _ := refine.Parts(l)
	again, _ := refine.Parts(l)
	places, _ := refine.Within(l, parts)
	if whole(l) != before {
		t.Fatalf("sets were changed: %s; they were %s", whole(l), before)
	}
	want := fmt.Sprint(parts)
	for k := range again {
		spoil(again[k : k+1])
		if fmt.Sprint(parts) != want || whole(l) != before {
			t.Fatal("an answer shares memory with another one, or with an argument")
		}
		if rest := again[k+1:]; fmt.Sprint(rest) != fmt.Sprint(parts[k+1:]) {
			t.Fatal("lists of one answer share memory")
		}
	}
	for k := range places {
		rest := fmt.Sprint(places[k+1:])
		for i := range places[k][:cap(places[k])] {
			places[k][:cap(places[k])][i] = -5
		}
		if fmt.Sprint(places[k+1:]) != rest {
			t.Fatal("lists of one answer share memory")
		}
	}
	given := roomy(parts)
	before = whole(given)
	bands, _ := refine.Bands(given)
	want = fmt.Sprint(bands)
	other, _ := refine.Bands(given)
	for i := range other[:cap(other)] {
		other[:cap(other)][i] = api.Band{First: -5, Class: -5}
	}
	if whole(given) != before || fmt.Sprint(bands) != want {
		t.Fatal("Bands changed what it was given, or what it told")
	}
	refine.Of(bands, 5)
	if fmt.Sprint(bands) != want {
		t.Fatal("Of changed bands")
	}
}
