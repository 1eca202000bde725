package utf_test

import (
	"math"
	"slices"
	"strings"
	"testing"
	"unicode/utf8"

	"caesura/api"
	"caesura/utf"
)

// edgeBytes are the first and last of every kind of byte that UTF-8 tells apart, and their neighbors.
const edgeBytes = "\x00\x41\x7f\x80\x8f\x90\x9f\xa0\xbf\xc0\xc1\xc2\xdf\xe0\xe1\xec\xed\xee\xef\xf0\xf1\xf3\xf4\xf5\xf7\xf8\xff"

// wrongNumbers are no scalars; some would be without their upper bits.
var wrongNumbers = []int{-1, -2, -0x41, 0xd800, 0xd801, 0xdc00, 0xdffe, 0xdfff, 0x110000, 0x1fffff, 0x200000, math.MaxInt32, math.MinInt32, 1 << 32, 1<<32 | 0x41, 1 << 40, -1<<32 | 0x41, math.MaxInt, math.MinInt}

// beginnings are all bytes with which some scalar's bytes begin: 1 for a part of them, 2 for all of them.
func beginnings() map[string]int {
	known := map[string]int{}
	for v := range 0x110000 {
		if v >= 0xd800 && v < 0xe000 {
			continue
		}
		whole := string(rune(v))
		known[whole] = 2
		for n := 1; n < len(whole); n++ {
			known[whole[:n]] = 1
		}
	}
	return known
}

// plainPieces is the chapter's definition word by word, to hold the package against; false, if something is ill-formed.
func plainPieces(known map[string]int, s string) ([]api.Piece, bool) {
	var l []api.Piece
	valid := true
	for at := 0; at < len(s); {
		n := 0
		for at+n < len(s) && known[s[at:at+n+1]] > 0 {
			n++
		}
		n = max(n, 1)
		p := api.Piece{Scalar: 0xfffd, At: at, Size: n}
		if known[s[at:at+n]] == 2 {
			r, _ := utf8.DecodeRuneInString(s[at : at+n])
			p.Scalar = int(r)
		} else {
			valid = false
		}
		l = append(l, p)
		at += n
	}
	return l, valid
}

// checkText holds Pieces and Valid of a text against the definition, and the pieces' bounds against P2.2.
func checkText(t *testing.T, known map[string]int, s string) {
	t.Helper()
	want, valid := plainPieces(known, s)
	got := utf.Pieces(s)
	if !slices.Equal(got, want) {
		t.Fatalf("Pieces(% x) = %v; want %v", s, got, want)
	}
	if utf.Valid(s) != valid {
		t.Fatalf("Valid(% x) = %v", s, !valid)
	}
	end := 0
	for _, p := range got {
		if p.At != end || p.Size < 1 || p.Size > 4 {
			t.Fatalf("Pieces(% x): %v stands at %d", s, p, end)
		}
		end += p.Size
	}
	if end != len(s) {
		t.Fatalf("Pieces(% x) are %d bytes together", s, end)
	}
}

// P2.1: each scalar's bytes, by both calls that tell them, and back as one piece.
func TestEveryScalarThereAndBack(t *testing.T) {
	for v := range 0x110000 {
		if v >= 0xd800 && v < 0xe000 {
			continue
		}
		want := string(rune(v))
		got, ok := utf.Bytes(v)
		if !ok || got != want {
			t.Fatalf("Bytes(%#x) = % x, %v; want % x", v, got, ok, want)
		}
		if s, ok := utf.Text([]int{v}); !ok || s != want {
			t.Fatalf("Text of %#x = % x, %v; want % x", v, s, ok, want)
		}
		if l := utf.Pieces(got); len(l) != 1 || l[0] != (api.Piece{Scalar: v, At: 0, Size: len(want)}) {
			t.Fatalf("Pieces of the bytes of %#x = %v", v, l)
		}
		if !utf.Valid(got) {
			t.Fatalf("the bytes of %#x are not valid", v)
		}
	}
}

// P2.1: where a scalar's bytes grow by one.
func TestBytesAtEachLength(t *testing.T) {
	for _, r := range []struct {
		v    int
		want string
	}{
		{0, "\x00"},
		{0x7f, "\x7f"},
		{0x80, "\xc2\x80"},
		{0x7ff, "\xdf\xbf"},
		{0x800, "\xe0\xa0\x80"},
		{0xd7ff, "\xed\x9f\xbf"},
		{0xe000, "\xee\x80\x80"},
		{0xfffd, "\xef\xbf\xbd"},
		{0xffff, "\xef\xbf\xbf"},
		{0x10000, "\xf0\x90\x80\x80"},
		{0x10ffff, "\xf4\x8f\xbf\xbf"},
	} {
		if got, ok := utf.Bytes(r.v); !ok || got != r.want {
			t.Errorf("Bytes(%#x) = % x, %v; want % x", r.v, got, ok, r.want)
		}
	}
}

// P2.1: what is no scalar has no bytes, and no list that it stands in has a text, wherever it stands.
func TestWrongNumbers(t *testing.T) {
	for _, v := range wrongNumbers {
		if s, ok := utf.Bytes(v); ok || s != "" {
			t.Errorf("Bytes(%#x) = % x, %v", v, s, ok)
		}
		for _, l := range [][]int{{v}, {v, 0x41}, {0x41, v}, {0x41, v, 0x20ac}, {v, v}} {
			if s, ok := utf.Text(l); ok || s != "" {
				t.Errorf("Text(%#x) = % x, %v", l, s, ok)
			}
		}
	}
}

// P2.1: lists by hand, the empty ones among them.
func TestText(t *testing.T) {
	for _, r := range []struct {
		l    []int
		want string
	}{
		{nil, ""},
		{[]int{}, ""},
		{[]int{0}, "\x00"},
		{[]int{0x41, 0x20ac, 0}, "A\xe2\x82\xac\x00"},
		{[]int{0x10ffff, 0xe9, 0xd7ff, 0x7f}, "\xf4\x8f\xbf\xbf\xc3\xa9\xed\x9f\xbf\x7f"},
		{[]int{0xfffd, 0xfffd}, "\xef\xbf\xbd\xef\xbf\xbd"},
	} {
		if got, ok := utf.Text(r.l); !ok || got != r.want {
			t.Errorf("Text(%#x) = % x, %v; want % x", r.l, got, ok, r.want)
		}
	}
}

// P2.1: the pieces' scalars of a list's text are the list.
func TestTextIsReadBack(t *testing.T) {
	var l []int
	for v := 0; v < 0x110000; v += 0x3b {
		if v < 0xd800 || v >= 0xe000 {
			l = append(l, v)
		}
	}
	s, ok := utf.Text(l)
	if !ok || !utf.Valid(s) {
		t.Fatalf("a text of scalars: %v", ok)
	}
	var back []int
	for _, p := range utf.Pieces(s) {
		back = append(back, p.Scalar)
	}
	if !slices.Equal(l, back) {
		t.Error("the scalars that are read are not those that were written")
	}
}

// P2.1: what is ill-formed, by hand: stray bytes, bytes too long or too great, bytes cut short.
func TestIllFormed(t *testing.T) {
	for _, r := range []struct {
		s     string
		sizes []int
		last  int
	}{
		{"\xf0\x9f\x98\x41", []int{3, 1}, 0x41},
		{"\x80", []int{1}, 0xfffd},
		{"\xbf\xbf", []int{1, 1}, 0xfffd},
		{"\xc0\x80", []int{1, 1}, 0xfffd},
		{"\xc1\xbf", []int{1, 1}, 0xfffd},
		{"\xc2", []int{1}, 0xfffd},
		{"\xc2\x41", []int{1, 1}, 0x41},
		{"\xc2\xc2\x80", []int{1, 2}, 0x80},
		{"\xe0\x9f\xbf", []int{1, 1, 1}, 0xfffd},
		{"\xe0\xa0", []int{2}, 0xfffd},
		{"\xe0\xa0\x41", []int{2, 1}, 0x41},
		{"\xed\xa0\x80", []int{1, 1, 1}, 0xfffd},
		{"\xed\xbf\xbf", []int{1, 1, 1}, 0xfffd},
		{"\xed\x9f", []int{2}, 0xfffd},
		{"\xf0\x8f\xbf\xbf", []int{1, 1, 1, 1}, 0xfffd},
		{"\xf0\x90", []int{2}, 0xfffd},
		{"\xf0\x90\x80", []int{3}, 0xfffd},
		{"\xf0\x90\x80\xc0", []int{3, 1}, 0xfffd},
		{"\xf4\x8f\xbf", []int{3}, 0xfffd},
		{"\xf4\x90\x80\x80", []int{1, 1, 1, 1}, 0xfffd},
		{"\xf5\x80\x80\x80", []int{1, 1, 1, 1}, 0xfffd},
		{"\xf8\x88\x80\x80\x80", []int{1, 1, 1, 1, 1}, 0xfffd},
		{"\xfe\xff", []int{1, 1}, 0xfffd},
	} {
		l := utf.Pieces(r.s)
		var sizes []int
		for _, p := range l {
			sizes = append(sizes, p.Size)
		}
		if !slices.Equal(sizes, r.sizes) || l[0].Scalar != 0xfffd || l[len(l)-1].Scalar != r.last {
			t.Errorf("Pieces(% x) = %v; want sizes %v", r.s, l, r.sizes)
		}
		if utf.Valid(r.s) {
			t.Errorf("Valid(% x)", r.s)
		}
		if utf.Valid("A" + r.s + "A") {
			t.Errorf("Valid(41 % x 41)", r.s)
		}
	}
}

// P2.1: Replace by its own bytes is no fault; the empty text has no pieces, and none that is ill-formed.
func TestReplaceItselfAndNothing(t *testing.T) {
	s := "\xef\xbf\xbd\xef\xbf\xbd"
	want := []api.Piece{{Scalar: 0xfffd, At: 0, Size: 3}, {Scalar: 0xfffd, At: 3, Size: 3}}
	if l := utf.Pieces(s); !slices.Equal(l, want) || !utf.Valid(s) {
		t.Errorf("Replace's own bytes: %v, %v", l, utf.Valid(s))
	}
	if l := utf.Pieces(""); len(l) != 0 || !utf.Valid("") {
		t.Errorf("the empty text: %v, %v", l, utf.Valid(""))
	}
}

// P2.1, P2.2: every text of one or two bytes, and of three and four edge bytes, held against the definition.
func TestEveryShortText(t *testing.T) {
	known := beginnings()
	for a := range 0x100 {
		checkText(t, known, string([]byte{byte(a)}))
		for b := range 0x100 {
			checkText(t, known, string([]byte{byte(a), byte(b)}))
		}
	}
	edges := []byte(edgeBytes)
	for _, a := range edges {
		for _, b := range edges {
			for _, c := range edges {
				checkText(t, known, string([]byte{a, b, c}))
				for _, d := range edges {
					checkText(t, known, string([]byte{a, b, c, d}))
				}
			}
		}
	}
}

// P2.1, P2.2: long texts, of a fixed row of numbers that picks bytes and whole scalars.
func TestLongTexts(t *testing.T) {
	known := beginnings()
	state := uint32(1)
	pick := func(n int) int {
		state = state*1664525 + 1013904223
		return int(state>>8) % n
	}
	for range 3000 {
		var b []byte
		for range pick(40) {
			switch pick(3) {
			case 0:
				b = append(b, byte(pick(0x100)))
			case 1:
				b = append(b, edgeBytes[pick(len(edgeBytes))])
			default:
				b = utf8.AppendRune(b, rune(pick(0x110000)))
			}
		}
		checkText(t, known, string(b))
	}
}

// P2.2: texts of many pieces, all well-formed, all ill-formed, or cut short at the end.
func TestPiecesOfGreatTexts(t *testing.T) {
	const many = 100000
	for _, r := range []struct {
		s      string
		pieces int
		valid  bool
	}{
		{strings.Repeat("a", many), many, true},
		{strings.Repeat("\xf0\x9f\x98\x80", many), many, true},
		{strings.Repeat("\xf0\x9f\x98", many), many, false},
		{strings.Repeat("\x80", many), many, false},
		{strings.Repeat("\xe2\x82\xac", many) + "\xe2\x82", many + 1, false},
	} {
		l := utf.Pieces(r.s)
		sum := 0
		for _, p := range l {
			sum += p.Size
		}
		if len(l) != r.pieces || sum != len(r.s) || utf.Valid(r.s) != r.valid {
			t.Errorf("%d pieces of %d bytes together, of %d", len(l), sum, len(r.s))
		}
	}
}

// Rule 2: a list that is handed in stays as it is, its spare room too, and no two answers share memory.
func TestMemoryIsApart(t *testing.T) {
	room := []int{0x41, 0x20ac, 7, 8}
	if s, ok := utf.Text(room[:2]); !ok || s != "A\xe2\x82\xac" {
		t.Errorf("Text = % x, %v", s, ok)
	}
	if !slices.Equal(room, []int{0x41, 0x20ac, 7, 8}) {
		t.Errorf("the list has become %v", room)
	}
	one, two := utf.Pieces("ab"), utf.Pieces("ab")
	for i := range one[:cap(one)] {
		one[:cap(one)][i] = api.Piece{Scalar: 1, At: 2, Size: 3}
	}
	want := []api.Piece{{Scalar: 'a', At: 0, Size: 1}, {Scalar: 'b', At: 1, Size: 1}}
	if !slices.Equal(two, want) || !slices.Equal(utf.Pieces("ab"), want) {
		t.Errorf("another answer has become %v", two)
	}
}
