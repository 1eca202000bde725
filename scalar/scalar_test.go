package scalar_test

import (
	"math"
	"testing"

	"caesura/api"
	"caesura/scalar"
)

// none stands for the answer false in the tables of this file.
const none = -1

// isPlainly is the chapter's definition word by word, to hold the package against.
func isPlainly(v int) bool {
	return v >= 0 && v <= 0x10ffff && !(v >= 0xd800 && v < 0xe000)
}

// checkAnswer wants a number with true, or 0 with false where none is wanted.
func checkAnswer(t *testing.T, call string, v, want, got int, ok bool) {
	t.Helper()
	if want == none {
		if ok || got != 0 {
			t.Errorf("%s(%#x) = %#x, %v; want 0, false", call, v, got, ok)
		}
		return
	}
	if !ok || got != want {
		t.Errorf("%s(%#x) = %#x, %v; want %#x, true", call, v, got, ok, want)
	}
}

// P1.1: the edges that the chapter names, their neighbors, and numbers that are no scalars.
func TestEdges(t *testing.T) {
	rows := []struct {
		v                 int
		is                bool
		next, prev, index int
	}{
		{math.MinInt, false, 0, none, none},
		{math.MinInt + 1, false, 0, none, none},
		{math.MinInt32, false, 0, none, none},
		{-2, false, 0, none, none},
		{-1, false, 0, none, none},
		{0, true, 1, none, 0},
		{1, true, 2, 0, 1},
		{0x41, true, 0x42, 0x40, 0x41},
		{0x7f, true, 0x80, 0x7e, 0x7f},
		{0xd7fe, true, 0xd7ff, 0xd7fd, 0xd7fe},
		{0xd7ff, true, 0xe000, 0xd7fe, 0xd7ff},
		{0xd800, false, 0xe000, 0xd7ff, none},
		{0xd801, false, 0xe000, 0xd7ff, none},
		{0xdc00, false, 0xe000, 0xd7ff, none},
		{0xdffe, false, 0xe000, 0xd7ff, none},
		{0xdfff, false, 0xe000, 0xd7ff, none},
		{0xe000, true, 0xe001, 0xd7ff, 0xd800},
		{0xe001, true, 0xe002, 0xe000, 0xd801},
		{0xfffd, true, 0xfffe, 0xfffc, 0xf7fd},
		{0xffff, true, 0x10000, 0xfffe, 0xf7ff},
		{0x10000, true, 0x10001, 0xffff, 0xf800},
		{0x10fffe, true, 0x10ffff, 0x10fffd, 0x10f7fe},
		{0x10ffff, true, none, 0x10fffe, 0x10f7ff},
		{0x110000, false, none, 0x10ffff, none},
		{0x110001, false, none, 0x10ffff, none},
		{math.MaxInt32, false, none, 0x10ffff, none},
		{math.MaxInt - 1, false, none, 0x10ffff, none},
		{math.MaxInt, false, none, 0x10ffff, none},
	}
	for _, r := range rows {
		if got := scalar.Is(r.v); got != r.is {
			t.Errorf("Is(%#x) = %v", r.v, got)
		}
		next, ok := scalar.Next(r.v)
		checkAnswer(t, "Next", r.v, r.next, next, ok)
		prev, ok := scalar.Prev(r.v)
		checkAnswer(t, "Prev", r.v, r.prev, prev, ok)
		index, ok := scalar.Index(r.v)
		checkAnswer(t, "Index", r.v, r.index, index, ok)
	}
}

// P1.1: numbers whose lower 32 bits, taken alone, would be a scalar's or beside one.
func TestWideNumbers(t *testing.T) {
	for _, low := range []int{0, 0x41, 0xd7ff, 0xd800, 0xe000, 0x10ffff} {
		for _, high := range []int{1 << 32, 1 << 40, 1 << 62} {
			up, down := high|low, -high|low
			for _, v := range []int{up, down} {
				if scalar.Is(v) {
					t.Errorf("Is(%#x)", v)
				}
				index, ok := scalar.Index(v)
				checkAnswer(t, "Index", v, none, index, ok)
			}
			next, ok := scalar.Next(up)
			checkAnswer(t, "Next", up, none, next, ok)
			prev, ok := scalar.Prev(up)
			checkAnswer(t, "Prev", up, 0x10ffff, prev, ok)
			next, ok = scalar.Next(down)
			checkAnswer(t, "Next", down, 0, next, ok)
			prev, ok = scalar.Prev(down)
			checkAnswer(t, "Prev", down, none, prev, ok)
		}
	}
}

// P1.1: every number from below the scalars to beyond them, held against a plain walk.
func TestEveryNumberUpwards(t *testing.T) {
	seen, last := 0, none
	for v := -5; v <= 0x10ffff+5; v++ {
		is := isPlainly(v)
		if got := scalar.Is(v); got != is {
			t.Fatalf("Is(%#x) = %v", v, got)
		}
		prev, ok := scalar.Prev(v)
		checkAnswer(t, "Prev", v, last, prev, ok)
		index, ok := scalar.Index(v)
		if is {
			checkAnswer(t, "Index", v, seen, index, ok)
			seen, last = seen+1, v
		} else {
			checkAnswer(t, "Index", v, none, index, ok)
		}
		if got := scalar.Count(-5, v); got != seen {
			t.Errorf("Count(-5, %#x) = %#x; want %#x", v, got, seen)
		}
		if t.Failed() {
			return
		}
	}
}

// P1.1: the same walk, from beyond the scalars down.
func TestEveryNumberDownwards(t *testing.T) {
	seen, last := 0, none
	for v := 0x10ffff + 5; v >= -5; v-- {
		next, ok := scalar.Next(v)
		checkAnswer(t, "Next", v, last, next, ok)
		if isPlainly(v) {
			seen, last = seen+1, v
		}
		if got := scalar.Count(v, 0x10ffff+5); got != seen {
			t.Errorf("Count(%#x, 0x110004) = %#x; want %#x", v, got, seen)
		}
		if t.Failed() {
			return
		}
	}
}

// P1.1: counts by hand, with bounds that are no scalars and a hi below its lo.
func TestCount(t *testing.T) {
	for _, r := range []struct{ lo, hi, want int }{
		{0, 0, 1},
		{0x41, 0x43, 3},
		{0, 0x10ffff, 0x10f800},
		{math.MinInt, math.MaxInt, 0x10f800},
		{-5, 3, 4},
		{0x10ffff, 0x10ffff, 1},
		{0x10fff0, math.MaxInt, 16},
		{0xd7ff, 0xe000, 2},
		{0xd7ff, 0xd7ff, 1},
		{0xe000, 0xe000, 1},
		{0xd7ff, 0xd800, 1},
		{0xdfff, 0xe000, 1},
		{0xd800, 0xdfff, 0},
		{0xd900, 0xda00, 0},
		{0xd800, 0xe001, 2},
		{0xd700, 0xdabc, 0x100},
		{5, 4, 0},
		{0xe000, 0xd7ff, 0},
		{0xdfff, 0xd800, 0},
		{0x10ffff, 0, 0},
		{1, 0, 0},
		{0, -1, 0},
		{0x110000, 0x10ffff, 0},
		{0x110000, math.MaxInt, 0},
		{math.MaxInt, math.MaxInt, 0},
		{math.MinInt, -1, 0},
		{math.MinInt, math.MinInt, 0},
		{math.MinInt, 0, 1},
		{math.MaxInt, math.MinInt, 0},
	} {
		if got := scalar.Count(r.lo, r.hi); got != r.want {
			t.Errorf("Count(%#x, %#x) = %#x; want %#x", r.lo, r.hi, got, r.want)
		}
	}
}

// P1.1: any two of the edges as bounds, counted one by one.
func TestCountBetweenEdges(t *testing.T) {
	edges := []int{-2, -1, 0, 1, 0x7f, 0xd7fe, 0xd7ff, 0xd800, 0xd801, 0xdfff, 0xe000, 0xe001, 0x10fffe, 0x10ffff, 0x110000, 0x110001}
	for _, lo := range edges {
		want, v := 0, lo
		for _, hi := range edges {
			for ; v <= hi; v++ {
				if isPlainly(v) {
					want++
				}
			}
			if got := scalar.Count(lo, hi); got != want {
				t.Errorf("Count(%#x, %#x) = %#x; want %#x", lo, hi, got, want)
			}
		}
	}
}

// P1.2: there and back from every scalar, the last one alone excepted.
func TestPrevOfNextIsTheScalar(t *testing.T) {
	for v := range api.MaxScalar {
		if !isPlainly(v) {
			continue
		}
		next, ok := scalar.Next(v)
		if !ok {
			t.Fatalf("Next(%#x) is none", v)
		}
		if back, ok := scalar.Prev(next); !ok || back != v {
			t.Fatalf("Prev(Next(%#x)) = %#x, %v", v, back, ok)
		}
	}
	if next, ok := scalar.Next(api.MaxScalar); ok || next != 0 {
		t.Errorf("Next of the last scalar = %#x, %v", next, ok)
	}
}

// P1.2: over the gap, d7ff and e000 are each other's neighbors.
func TestNeighborsOverTheGap(t *testing.T) {
	next, ok := scalar.Next(api.Gap - 1)
	checkAnswer(t, "Next", api.Gap-1, api.Behind, next, ok)
	prev, ok := scalar.Prev(api.Behind)
	checkAnswer(t, "Prev", api.Behind, api.Gap-1, prev, ok)
}
