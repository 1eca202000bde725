package show_test

import (
	"math"
	"reflect"
	"slices"
	"strconv"
	"strings"
	"testing"
	"unsafe"

	"caesura/api"
	"caesura/show"
)

const last = 0x10ffff

// set is ranges from each first number to each second one.
func set(l ...int) api.Set {
	var s api.Set
	for i := 0; i+1 < len(l); i += 2 {
		s = append(s, api.Range{Lo: l[i], Hi: l[i+1]})
	}
	return s
}

func leaf(kind int) api.Tree { return api.Tree{{Kind: kind}} }

func one(s api.Set, name string) api.Tree {
	return api.Tree{{Kind: api.One, Set: s, Name: name}}
}

// linked is nodes that stand behind their children, with their children's numbers.
func linked(l ...api.Node) api.Tree {
	t := slices.Clone(l)
	var roots []int
	for i, n := range t {
		k := len(roots)
		switch n.Kind {
		case api.Star:
			t[i].A, k = roots[k-1], k-1
		case api.Cat, api.Alt:
			t[i].A, t[i].B, k = roots[k-2], roots[k-1], k-2
		}
		roots = append(roots[:k], i)
	}
	return t
}

// pair is a Cat or an Alt, put together by hand.
func pair(kind int, a, b api.Tree) api.Tree {
	return linked(slices.Concat(a, b, leaf(kind))...)
}

// star is a Star, put together by hand.
func star(a api.Tree) api.Tree {
	return linked(slices.Concat(a, leaf(api.Star))...)
}

// of reads a text of one letter a node: e an Empty, n a Never, . a Cat, | an Alt, * a Star, each behind its children; others are Ones by that name.
func of(s string) api.Tree {
	var l []api.Node
	for _, c := range s {
		if kind := strings.IndexRune("ne\x00.|*", c); kind >= 0 {
			l = append(l, api.Node{Kind: kind})
		} else {
			l = append(l, one(set(int(c), int(c)), string(c))...)
		}
	}
	return linked(l...)
}

// short is the beginning of a text.
func short(s string) string { return s[:min(len(s), 200)] }

func checkText(t *testing.T, what string, got string, ok bool, want string) {
	t.Helper()
	if !ok || got != want {
		t.Errorf("%s: %q, %v, not %q", what, short(got), ok, short(want))
	}
}

func checkNone(t *testing.T, what string, got string, ok bool) {
	t.Helper()
	if ok || got != "" {
		t.Errorf("%s: %q, %v", what, short(got), ok)
	}
}

// P13.1: Hex's digits: small ones, no noughts ahead; those of 0 of a number below it.
func TestHex(t *testing.T) {
	for v, want := range map[int]string{
		0: "0", 1: "1", 9: "9", 10: "a", 15: "f", 16: "10", 0x41: "41", 0xabcdef: "abcdef", 0x10ffff: "10ffff", 0x100000: "100000", 0xd800: "d800", 1 << 32: "100000000",
		0x1234567890: "1234567890", math.MaxInt: "7fffffffffffffff", math.MaxInt - 1: "7ffffffffffffffe", -1: "0", -16: "0", math.MinInt: "0", math.MinInt + 1: "0", -1 << 32: "0",
	} {
		checkText(t, "Hex of "+strconv.Itoa(v), show.Hex(v), true, want)
	}
	for v := range 70000 {
		checkText(t, "Hex of "+strconv.Itoa(v), show.Hex(v), true, strconv.FormatInt(int64(v), 16))
	}
	for bits := range 63 {
		for v := range 40 {
			x := 1<<bits + (v-20)*(bits+1)
			checkText(t, "Hex of "+strconv.Itoa(x), show.Hex(x), true, strconv.FormatInt(int64(max(x, 0)), 16))
		}
	}
}

// P13.1: Set's ranges, with one scalar and with more, and the set of nothing.
func TestSet(t *testing.T) {
	for _, x := range []struct {
		s    api.Set
		want string
	}{
		{nil, "[]"}, {api.Set{}, "[]"}, {set(0x41, 0x5a), "[u+41-u+5a]"}, {set(0x41, 0x41), "[u+41]"}, {set(0, 0), "[u+0]"}, {set(0, last), "[u+0-u+10ffff]"}, {set(last, last), "[u+10ffff]"},
		{set(0x41, 0x42), "[u+41-u+42]"}, {set(0, 9, 0xb, 0xb, 0xd, 0xff), "[u+0-u+9 u+b u+d-u+ff]"}, {set(1, 1, 3, 3, 5, 5), "[u+1 u+3 u+5]"},
		{set(0xd7ff, 0xe000), "[u+d7ff-u+e000]"}, {set(0xd7ff, 0xd7ff), "[u+d7ff]"}, {set(0xe000, 0xe000, 0x10000, 0xabcde), "[u+e000 u+10000-u+abcde]"}, {set(0xd7ff, 0xd7ff, 0xe001, 0xe001), "[u+d7ff u+e001]"},
	} {
		got, ok := show.Set(x.s)
		checkText(t, "Set", got, ok, x.want)
		if len(x.s) > 0 {
			got, ok = show.Tree(one(x.s, ""))
			checkText(t, "One", got, ok, x.want)
		}
	}
}

// P13.1: a set of very many ranges.
func TestGreatSet(t *testing.T) {
	var s api.Set
	var b strings.Builder
	for v := 0; v < 0xd000; v += 3 {
		s = append(s, api.Range{Lo: v, Hi: v + v%2})
		b.WriteString(" u+" + strconv.FormatInt(int64(v), 16))
		if v%2 == 1 {
			b.WriteString("-u+" + strconv.FormatInt(int64(v+1), 16))
		}
	}
	got, ok := show.Set(s)
	checkText(t, "great", got, ok, "["+b.String()[1:]+"]")
}

// P13.1: false for a set that may not be, by itself and as a One's; a One has something.
func TestBadSets(t *testing.T) {
	for _, s := range []api.Set{
		set(5, 4), set(1, 2, 3, 4), set(1, 2, 2, 4), set(5, 6, 1, 2), set(0xd7ff, 0xd7ff, 0xe000, 0xe000), set(0xd800, 0xd900), set(0, 0xd800), set(0xdfff, 0xe000),
		set(-1, 3), set(-5, -1), set(0, last+1), set(1, 2, 5, 4), set(math.MinInt, 3), set(0, math.MaxInt), set(1<<32, 1<<32|1),
	} {
		got, ok := show.Set(s)
		checkNone(t, "Set", got, ok)
		for _, name := range []string{"", "x"} {
			got, ok = show.Tree(one(s, name))
			checkNone(t, "One", got, ok)
			got, ok = show.Tree(star(one(s, name)))
			checkNone(t, "Star", got, ok)
		}
	}
	got, ok := show.Tree(one(nil, "x"))
	checkNone(t, "One of nothing", got, ok)
}

// P13.1: Tree by hand: leaves, and each kind of child beneath each kind of node.
func TestTree(t *testing.T) {
	for _, x := range []struct{ a, want string }{
		{"n", "never"}, {"e", "empty"}, {"a", "a"},
		{"a*", "a*"}, {"e*", "empty*"}, {"n*", "never*"}, {"a**", "(a*)*"}, {"a***", "((a*)*)*"}, {"ab.*", "(a b)*"}, {"ab|*", "(a | b)*"},
		{"ab.", "a b"}, {"en.", "empty never"}, {"ab.c.", "a b c"}, {"abc..", "a (b c)"}, {"ab.cd..", "a b (c d)"}, {"ab|c.", "(a | b) c"}, {"abc|.", "a (b | c)"}, {"ab|cd|.", "(a | b) (c | d)"}, {"a*b.", "a* b"}, {"ab*.", "a b*"},
		{"ab|", "a | b"}, {"ne|", "never | empty"}, {"ab|c|", "a | b | c"}, {"abc||", "a | (b | c)"}, {"ab|cd||", "a | b | (c | d)"}, {"ab.c|", "a b | c"}, {"abc.|", "a | b c"}, {"ab.cd.|", "a b | c d"}, {"a*b|", "a* | b"}, {"ab*|", "a | b*"},
		{"abc..d|*e.", "(a (b c) | d)* empty"}, {"ab|*c.*", "((a | b)* c)*"}, {"abcd|..", "a (b (c | d))"},
	} {
		got, ok := show.Tree(of(x.a))
		checkText(t, "Tree of "+x.a, got, ok, x.want)
	}
	for _, name := range []string{"x", "letter", "class", "a b", "[u+41]", "\x00\xff", "\u20ac", strings.Repeat("n", 100000)} {
		got, ok := show.Tree(one(set('a', 'c'), name))
		checkText(t, "a name", got, ok, name)
		got, ok = show.Tree(pair(api.Cat, star(one(set('a', 'c'), name)), one(set(1, 1, 3, 4), "")))
		checkText(t, "a name", got, ok, name+"* [u+1 u+3-u+4]")
	}
}

// P13.1: false for a tree that may not be.
func TestBadTrees(t *testing.T) {
	a := of("a")[0]
	for _, x := range []api.Tree{
		nil, {}, {{Kind: 6}}, {{Kind: -1}}, {{Kind: api.Star}}, {{Kind: api.Cat}}, {{Kind: api.Never, A: 1}}, {{Kind: api.Never, Name: "x"}}, {{Kind: api.Empty, Set: set(1, 1)}},
		{a, a}, {a, {Kind: api.Star, A: 1}}, {a, a, {Kind: api.Cat, A: 1, B: 0}}, {a, a, {Kind: api.Alt, A: 0, B: 0}}, {a, {Kind: 1 << 32}}, {{Kind: 1<<32 | 1}},
		linked(append(of("a"), slices.Repeat(leaf(api.Star), 40000)...)...),
	} {
		got, ok := show.Tree(x)
		checkNone(t, "Tree", got, ok)
	}
}

// plain is the chapter's text, by the parts of a tree that are cut out of it.
func plain(t api.Tree) string {
	root := t[len(t)-1]
	child := func(t api.Tree, at int, in ...int) string {
		begin, wanting := at, 1
		for ; ; begin-- {
			switch t[begin].Kind {
			case api.Cat, api.Alt:
				wanting++
			case api.Never, api.Empty, api.One:
				wanting--
			}
			if wanting == 0 {
				break
			}
		}
		s := plain(linked(t[begin : at+1]...))
		if slices.Contains(in, t[at].Kind) {
			return "(" + s + ")"
		}
		return s
	}
	switch root.Kind {
	case api.Never:
		return "never"
	case api.Empty:
		return "empty"
	case api.Star:
		return child(t, root.A, api.Cat, api.Alt, api.Star) + "*"
	case api.Cat:
		return child(t, root.A, api.Alt) + " " + child(t, root.B, api.Alt, api.Cat)
	case api.Alt:
		return child(t, root.A) + " | " + child(t, root.B, api.Alt)
	}
	return root.Name
}

// reader reads a tree's text, as layer 15 is to read it.
type reader struct {
	text string
	at   int
}

// next tells whether a text stands next, and goes behind it.
func (r *reader) next(s string) bool {
	if strings.HasPrefix(r.text[r.at:], s) {
		r.at += len(s)
		return true
	}
	return false
}

func (r *reader) expression() api.Tree {
	t := r.member()
	for r.next(" | ") {
		t = pair(api.Alt, t, r.member())
	}
	return t
}

func (r *reader) member() api.Tree {
	t := r.piece()
	for !strings.HasPrefix(r.text[r.at:], " |") && r.next(" ") {
		t = pair(api.Cat, t, r.piece())
	}
	return t
}

func (r *reader) piece() api.Tree {
	t := r.atom()
	for r.next("*") {
		t = star(t)
	}
	return t
}

func (r *reader) atom() api.Tree {
	switch {
	case r.next("("):
		t := r.expression()
		r.next(")")
		return t
	case r.next("never"):
		return leaf(api.Never)
	case r.next("empty"):
		return leaf(api.Empty)
	case r.at == len(r.text):
		return nil
	}
	r.at++
	return of(r.text[r.at-1 : r.at])
}

// eachTree goes through all trees of so many nodes.
func eachTree(nodes int, f func(t api.Tree)) {
	if nodes == 1 {
		for _, l := range []string{"n", "e", "x"} {
			f(of(l))
		}
		return
	}
	eachTree(nodes-1, func(a api.Tree) { f(star(a)) })
	for ahead := 1; ahead < nodes-1; ahead++ {
		eachTree(ahead, func(a api.Tree) {
			eachTree(nodes-1-ahead, func(b api.Tree) {
				f(pair(api.Cat, a, b))
				f(pair(api.Alt, a, b))
			})
		})
	}
}

// P13.1, P13.2: every tree of up to seven nodes is written as the chapter says, and is read again.
func TestEveryTree(t *testing.T) {
	for nodes := 1; nodes <= 7; nodes++ {
		eachTree(nodes, func(x api.Tree) {
			got, ok := show.Tree(x)
			checkText(t, "Tree", got, ok, plain(x))
			r := reader{text: got}
			if again := r.expression(); !reflect.DeepEqual(again, x) || r.at != len(got) {
				t.Errorf("%q is read as %v", got, again)
			}
		})
	}
}

// P13.1: trees of MaxNodes, deep and long, on either side.
func TestGreatTrees(t *testing.T) {
	got, ok := show.Tree(linked(append(of("a"), slices.Repeat(leaf(api.Star), 39999)...)...))
	checkText(t, "Stars", got, ok, strings.Repeat("(", 39998)+"a"+strings.Repeat("*)", 39998)+"*")
	for _, x := range []struct {
		kind    int
		between string
	}{{api.Cat, " "}, {api.Alt, " | "}} {
		left := of("a")
		for range 19999 {
			left = append(left, of("a")[0], api.Node{Kind: x.kind})
		}
		got, ok = show.Tree(linked(left...))
		checkText(t, "from the left", got, ok, "a"+strings.Repeat(x.between+"a", 19999))
		right := slices.Concat(slices.Repeat(of("a"), 20000), slices.Repeat(leaf(x.kind), 19999))
		got, ok = show.Tree(linked(right...))
		checkText(t, "from the right", got, ok, strings.Repeat("a"+x.between+"(", 19998)+"a"+x.between+"a"+strings.Repeat(")", 19998))
	}
}

// Rule 2: what is handed in stays as it is, its spare room too; a text is new memory.
func TestArgumentsStay(t *testing.T) {
	s := append(set(1, 3, 5, 5), set(7, 7, 9, 9)...)[:2]
	x := append(pair(api.Cat, one(s, "first"), star(one(s, ""))), leaf(9)...)[:4]
	before := slices.Clone(x[:cap(x)])
	for range 2 {
		got, ok := show.Set(s)
		checkText(t, "Set", got, ok, "[u+1-u+3 u+5]")
		got, ok = show.Tree(x)
		checkText(t, "Tree", got, ok, "first [u+1-u+3 u+5]*")
	}
	if !reflect.DeepEqual(x[:cap(x)], before) || !slices.Equal(s[:4], set(1, 3, 5, 5, 7, 7, 9, 9)) {
		t.Error(x[:cap(x)], s[:4])
	}
	name := strings.Repeat("n", 100)
	if got, _ := show.Tree(one(s, name)); unsafe.StringData(got) == unsafe.StringData(name) {
		t.Error("a text is an argument's name")
	}
	// Rule 4: another set stands in the same memory.
	s[0].Lo = 2
	got, ok := show.Tree(x)
	checkText(t, "Tree", got, ok, "first [u+2-u+3 u+5]*")
}
