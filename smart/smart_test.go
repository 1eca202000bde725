package smart_test

import (
	"fmt"
	"reflect"
	"slices"
	"strings"
	"testing"
	"unsafe"

	"caesura/api"
	"caesura/smart"
)

const last = 0x10ffff

// set is ranges from each first number to each second one.
func set(l ...int) api.Set {
	var s api.Set
	for i := 0; i+1 < len(l); i += 2 {
		s = append(s, api.Range{Lo: l[i], Hi: l[i+1]})
	}
	return s
}

func leaf(kind int) api.Tree { return api.Tree{{Kind: kind}} }

func one(s api.Set, name string) api.Tree {
	return api.Tree{{Kind: api.One, Set: s, Name: name}}
}

// linked is nodes that stand behind their children, with their children's numbers.
func linked(l ...api.Node) api.Tree {
	t := slices.Clone(l)
	var roots []int
	for i, n := range t {
		k := len(roots)
		switch n.Kind {
		case api.Star:
			t[i].A, k = roots[k-1], k-1
		case api.Cat, api.Alt:
			t[i].A, t[i].B, k = roots[k-2], roots[k-1], k-2
		}
		roots = append(roots[:k], i)
	}
	return t
}

// pair is a Cat or an Alt, put together by hand.
func pair(kind int, a, b api.Tree) api.Tree {
	return linked(slices.Concat(a, b, leaf(kind))...)
}

// star is a Star, put together by hand.
func star(a api.Tree) api.Tree {
	return linked(slices.Concat(a, leaf(api.Star))...)
}

// of reads a text of one letter a node: e an Empty, n a Never, . a Cat, | an Alt, * a Star, each behind its children; others are Ones.
func of(s string) api.Tree {
	var l []api.Node
	for _, c := range s {
		if kind := strings.IndexRune("ne\x00.|*", c); kind >= 0 {
			l = append(l, api.Node{Kind: kind})
		} else {
			l = append(l, one(set(int(c), int(c)), "")...)
		}
	}
	return linked(l...)
}

// brief is a tree as the text that is read by of, cut short if it is great.
func brief(t api.Tree) string {
	var b strings.Builder
	for _, n := range t[:min(len(t), 99)] {
		if n.Kind == api.One && len(n.Set) > 0 {
			fmt.Fprintf(&b, "%c%s", n.Set[0].Lo, n.Name)
		} else if n.Kind >= 0 && n.Kind <= api.Star {
			b.WriteByte("neo.|*"[n.Kind])
		} else {
			fmt.Fprint(&b, n)
		}
	}
	return fmt.Sprintf("%q of %d nodes", b.String(), len(t))
}

func checkTree(t *testing.T, what string, x api.Tree, ok bool, want api.Tree) {
	t.Helper()
	if !ok || !slices.EqualFunc(x, want, func(n, m api.Node) bool {
		return n.Kind == m.Kind && n.A == m.A && n.B == m.B && n.Name == m.Name && slices.Equal(n.Set, m.Set)
	}) {
		t.Errorf("%s: %s, %v, not %s", what, brief(x), ok, brief(want))
	}
}

func checkNone(t *testing.T, what string, x api.Tree, ok bool) {
	t.Helper()
	if ok || len(x) != 0 {
		t.Errorf("%s: %s, %v", what, brief(x), ok)
	}
}

// P12.1: Cat by hand: Nevers and Emptys on either side, Cats as b that are put to a from the left, and what stays as it is.
func TestCat(t *testing.T) {
	for _, x := range []struct{ a, b, want string }{
		{"a", "b", "ab."}, {"a", "a", "aa."}, {"a*", "a*", "a*a*."}, {"ab|", "cd|", "ab|cd|."},
		{"n", "a", "n"}, {"a", "n", "n"}, {"n", "n", "n"}, {"n", "e", "n"}, {"e", "n", "n"}, {"n", "ab.", "n"}, {"ab.", "n", "n"},
		{"e", "a", "a"}, {"a", "e", "a"}, {"e", "e", "e"},
		// What an Empty leaves is told as it is.
		{"e", "abc..", "abc.."}, {"abc..", "e", "abc.."}, {"e", "ae.", "ae."}, {"e", "an.", "an."}, {"en.", "e", "en."}, {"e", "ee|", "ee|"}, {"n", "abc..", "n"},
		{"a", "bc.", "ab.c."}, {"ab.", "c", "ab.c."}, {"ab.", "cd.", "ab.c.d."},
		{"a", "bcd..", "ab.c.d."}, {"a", "bc.d.", "ab.c.d."}, {"a", "bc.df..", "ab.c.d.f."}, {"abc..", "d", "abc..d."}, {"abc..", "df.", "abc..d.f."},
		// Nevers and Emptys within b's Cats; not those within a, or beneath other nodes.
		{"a", "be.", "ab."}, {"a", "eb.", "ab."}, {"a", "ee.", "a"}, {"a", "bn.", "n"}, {"a", "nb.", "n"}, {"a", "bnc..", "n"}, {"a", "ebe..", "ab."}, {"a", "be.c.", "ab.c."},
		{"ae.", "b", "ae.b."}, {"an.", "b", "an.b."}, {"ea.", "bc.", "ea.b.c."}, {"ee.", "a", "ee.a."}, {"ee.", "ab.", "ee.a.b."}, {"nn|", "a", "nn|a."}, {"a", "nn|", "ann|."},
		{"a", "ee|", "aee|."}, {"a", "n*", "an*."}, {"a", "be|", "abe|."}, {"a", "bc.*", "abc.*."}, {"a", "bc.d|", "abc.d|."}, {"a", "bcd..e|", "abcd..e|."},
	} {
		got, ok := smart.Cat(of(x.a), of(x.b))
		checkTree(t, "Cat of "+x.a+" and "+x.b, got, ok, of(x.want))
	}
}

// P12.1: Alt by hand: Nevers, members in order, those that are alike, and Emptys beside a Star.
func TestAlt(t *testing.T) {
	for _, x := range []struct{ a, b, want string }{
		{"a", "b", "ab|"}, {"b", "a", "ba|"}, {"a", "a", "a"}, {"ab.", "ab.", "ab."}, {"ab.", "ba.", "ab.ba.|"}, {"a*", "a*", "a*"}, {"e", "e", "e"},
		{"n", "a", "a"}, {"a", "n", "a"}, {"n", "n", "n"}, {"n", "e", "e"}, {"e", "n", "e"}, {"n", "a*", "a*"},
		// What a Never leaves is told as it is.
		{"n", "aa|", "aa|"}, {"aa|", "n", "aa|"}, {"n", "abc||", "abc||"}, {"a*e|", "n", "a*e|"}, {"n", "nn|", "nn|"},
		{"ab|", "c", "ab|c|"}, {"a", "bc|", "ab|c|"}, {"ab|", "cd|", "ab|c|d|"}, {"a", "bcd||", "ab|c|d|"}, {"abc||", "d", "ab|c|d|"}, {"ab|cd||", "fg|h|", "ab|c|d|f|g|h|"},
		{"ab|", "a", "ab|"}, {"ab|", "b", "ab|"}, {"a", "ba|", "ab|"}, {"ab|", "ba|", "ab|"}, {"ab|", "bc|", "ab|c|"}, {"aa|", "b", "ab|"}, {"a", "bb|", "ab|"}, {"aa|", "a", "a"}, {"ab|a|", "c", "ab|c|"},
		{"abc..", "ab.c.", "abc..ab.c.|"}, {"ab|*", "ba|*", "ab|*ba|*|"},
		{"ae|", "b", "ae|b|"}, {"e", "a", "ea|"}, {"a", "e", "ae|"}, {"ae|", "eb|", "ae|b|"}, {"ea|", "e", "ea|"},
		{"e", "a*", "a*"}, {"a*", "e", "a*"}, {"ae|", "b*", "ab*|"}, {"b*", "ae|", "b*a|"}, {"ea*|", "b", "a*b|"}, {"a*e|", "e", "a*"}, {"ea|", "eb*|", "ab*|"}, {"e", "ea*|", "a*"}, {"n*", "e", "n*"},
		// No member is a Star, though one stands beneath.
		{"e", "a*b.", "ea*b.|"}, {"ab*.", "e", "ab*.e|"},
		// A Never that is a member of one of them is one, when neither is a Never.
		{"an|", "b", "an|b|"}, {"b", "na|", "bn|a|"}, {"nn|", "a", "na|"}, {"nn|", "nn|", "n"}, {"a", "nn|", "an|"},
		{"be.", "b", "be.b|"},
	} {
		got, ok := smart.Alt(of(x.a), of(x.b))
		checkTree(t, "Alt of "+x.a+" and "+x.b, got, ok, of(x.want))
	}
}

// P12.1: Star by hand: of leaves, Stars and Alts, whose members are put together again.
func TestStar(t *testing.T) {
	for _, x := range []struct{ a, want string }{
		{"a", "a*"}, {"n", "e"}, {"e", "e"}, {"a*", "a*"}, {"a**", "a**"}, {"e*", "e*"}, {"n*", "n*"}, {"ab.", "ab.*"}, {"abc..", "abc..*"}, {"ae.", "ae.*"}, {"an.", "an.*"},
		{"ab|", "ab|*"}, {"ae|", "a*"}, {"ea|", "a*"}, {"ee|", "e"}, {"aa|", "a*"}, {"abc||", "ab|c|*"}, {"ab|e|", "ab|*"}, {"aeb||", "ab|*"}, {"ea|eb||", "ab|*"},
		{"a*e|", "a*"}, {"a*b|", "a*b|*"}, {"a*a*|", "a*"}, {"a*b*|", "a*b*|*"}, {"a**e|", "a**"}, {"e*e|", "e*"},
		{"na|", "a*"}, {"an|", "a*"}, {"nn|", "e"}, {"ne|", "e"}, {"abn||", "ab|*"}, {"nab||", "ab|*"}, {"nn|a|", "a*"}, {"nn|e|", "e"}, {"na*|", "a*"},
		{"ab.e|", "ab.*"}, {"abc..e|", "abc..*"}, {"ab|ab|e||", "ab|*"}, {"ab.ab.|", "ab.*"}, {"ae.b|", "ae.b|*"}, {"ee.a|", "ee.a|*"},
	} {
		got, ok := smart.Star(of(x.a))
		checkTree(t, "Star of "+x.a, got, ok, of(x.want))
	}
}

// P12.2: Clean by hand: what the root makes plain, and what nodes beneath it do.
func TestClean(t *testing.T) {
	for _, x := range []struct{ a, want string }{
		{"a", "a"}, {"n", "n"}, {"e", "e"}, {"a*", "a*"}, {"a**", "a*"}, {"a***", "a*"}, {"n*", "e"}, {"e*", "e"}, {"n**", "e"},
		{"abc..", "ab.c."}, {"abcd...", "ab.c.d."}, {"ab.cd..", "ab.c.d."}, {"abc||", "ab|c|"}, {"abcd|||", "ab|c|d|"}, {"ab|cd||", "ab|c|d|"},
		{"an.", "n"}, {"an.b|", "b"}, {"ban.|", "b"}, {"ae.eb..", "ab."}, {"abn..", "n"}, {"aen|.", "a"}, {"nn|", "n"}, {"nn|n|", "n"}, {"an|n|b|", "ab|"},
		{"ae|*", "a*"}, {"a*e|", "a*"}, {"ea*|", "a*"}, {"ae|b*|", "ab*|"}, {"ab|ba||*", "ab|*"}, {"an|*e.", "a*"}, {"ne|*", "e"}, {"a*e|b|*", "a*b|*"}, {"a*b*|*", "a*b*|*"},
		{"ab.ab.|", "ab."}, {"ab.c.abc..|", "ab.c."}, {"abc||ab|c||", "ab|c|"}, {"ab.e|*", "ab.*"}, {"abc||*", "ab|c|*"}, {"aa|bb|.", "ab."},
		// An Alt, all of whose members are alike, leaves one of them, and that may be a Cat, or a Star.
		{"cab.ab.|.", "ca.b."}, {"ab.ab.|c.", "ab.c."}, {"cab.ab.|.d.", "ca.b.d."}, {"cabf..ab.f.|.", "ca.b.f."}, {"a*a*|*", "a*"}, {"ab.ab.|ab.ab.|.", "ab.a.b."}, {"ab.ab.|c|", "ab.c|"}, {"ab.ab.|*", "ab.*"}, {"dcab.ab.|.cab.ab.|.|.", "dc.a.b."},
		{"aab.|*", "aab.|*"}, {"ae.*be..", "a*b."}, {"nab|.*", "e"}, {"aa*.e|", "aa*.e|"}, {"an.e|*b|", "eb|"}, {"an.e|*b|*", "b*"},
	} {
		got, ok := smart.Clean(of(x.a))
		checkTree(t, "Clean of "+x.a, got, ok, of(x.want))
	}
}

// P12.1, P12.2: Ones are alike by their sets and their names; all that they have stays.
func TestLabels(t *testing.T) {
	x := one(set('a', 'c', 'e', 'g'), "x")
	others := []api.Tree{
		one(set('a', 'c', 'e', 'g'), ""), one(set('a', 'c', 'e', 'g'), "X"), one(set('a', 'c', 'e', 'g'), "xx"), one(set('a', 'c'), "x"), one(set('e', 'g'), "x"),
		one(set('a', 'c', 'e', 'h'), "x"), one(set('a', 'c', 'f', 'g'), "x"), one(set('a', 'c', 'e', 'g', 'i', 'i'), "x"), one(set(0, last), "\xff"), one(set(0xd7ff, 0xe000), "class"),
	}
	all := x
	for _, y := range others {
		got, ok := smart.Alt(x, y)
		checkTree(t, "two Ones", got, ok, pair(api.Alt, x, y))
		got, ok = smart.Alt(y, y)
		checkTree(t, "one One", got, ok, y)
		got, ok = smart.Cat(x, y)
		checkTree(t, "a Cat of Ones", got, ok, pair(api.Cat, x, y))
		got, ok = smart.Alt(pair(api.Cat, x, star(y)), pair(api.Cat, y, star(x)))
		checkTree(t, "two Cats", got, ok, pair(api.Alt, pair(api.Cat, x, star(y)), pair(api.Cat, y, star(x))))
		all = pair(api.Alt, all, y)
	}
	got, ok := smart.Clean(pair(api.Alt, all, all))
	checkTree(t, "Clean of all", got, ok, all)
	got, ok = smart.Star(pair(api.Alt, all, all))
	checkTree(t, "Star of all", got, ok, star(all))
}

// badTrees are trees that may not be.
func badTrees() []api.Tree {
	o := one(set('a', 'c'), "x")[0]
	great := star(of("a"))
	for len(great) <= api.MaxNodes {
		great = append(great, api.Node{Kind: api.Star, A: len(great) - 1})
	}
	return []api.Tree{
		nil, {}, {{Kind: 6}}, {{Kind: -1}}, {{Kind: api.One}}, {{Kind: api.Never, A: 1}}, {{Kind: api.Empty, B: -1}}, {{Kind: 1 << 32}}, {{Kind: 1<<32 | 1}},
		{{Kind: api.Star}}, {{Kind: api.Star, A: -1}}, {{Kind: api.Cat, A: -1, B: -1}}, {{Kind: api.Alt}}, {{Kind: api.Never, Name: "x"}}, {{Kind: api.Empty, Set: o.Set}},
		{o, o}, {o, {Kind: api.Star, A: 1}}, {o, o, {Kind: api.Cat, A: 1, B: 0}}, {o, o, o, {Kind: api.Cat, A: 0, B: 2}}, {o, {Kind: api.Empty}}, {o, {Kind: api.Never}},
		{o, {Kind: 9}, {Kind: api.Cat, A: 0, B: 1}}, {o, {Kind: 9}, {Kind: api.Alt, A: 0, B: 1}}, {{Kind: api.Never}, {Kind: api.Never}, {Kind: api.Star, A: 1}},
		one(set(5, 4), ""), one(set(1, 2, 3, 4), ""), one(set(0xd800, 0xd900), "x"), one(set(0, last+1), ""), one(set(-1<<62, 1<<62), ""), great,
	}
}

// P12.1, P12.2: of what may not be nothing is told, though the other one is a Never or an Empty.
func TestBadTrees(t *testing.T) {
	for _, bad := range badTrees() {
		x, ok := smart.Star(bad)
		checkNone(t, "Star", x, ok)
		x, ok = smart.Clean(bad)
		checkNone(t, "Clean", x, ok)
		for _, good := range []string{"n", "e", "a", "a*", "ab.", "ab|"} {
			for _, do := range []func(a, b api.Tree) (api.Tree, bool){smart.Cat, smart.Alt} {
				x, ok = do(bad, of(good))
				checkNone(t, "a bad one and "+good, x, ok)
				x, ok = do(of(good), bad)
				checkNone(t, good+" and a bad one", x, ok)
			}
		}
		for _, do := range []func(a, b api.Tree) (api.Tree, bool){smart.Cat, smart.Alt} {
			x, ok = do(bad, bad)
			checkNone(t, "two bad ones", x, ok)
		}
	}
}

// roomyTree is a tree with spare room, in its sets too.
func roomyTree(t api.Tree) api.Tree {
	c := make(api.Tree, len(t), len(t)+9)
	for i, n := range t {
		n.Set = append(append(make(api.Set, 0, len(n.Set)+2), n.Set...), api.Range{Lo: -7, Hi: -8}, api.Range{Lo: -7, Hi: -8})[:len(n.Set)]
		n.Name = strings.Clone(n.Name)
		c[i] = n
	}
	room := c[len(t):cap(c)]
	for i := range room {
		room[i] = api.Node{Kind: 77, A: 77, B: 77, Set: set(7, 7), Name: "mark"}
	}
	return c
}

// whole is a tree with its spare room, and its sets', in memory of its own.
func whole(t api.Tree) api.Tree {
	c := slices.Clone(t[:cap(t)])
	for i, n := range c {
		c[i].Set = slices.Clone(n.Set[:cap(n.Set)])
	}
	return c
}

// spoil overwrites a tree node by node, as far as its room goes, and tells whether its lists are apart from one another.
func spoil(t api.Tree) bool {
	apart := true
	t = t[:cap(t)]
	for i := range t {
		s := t[i].Set[:cap(t[i].Set)]
		for k := range s {
			apart = apart && s[k].Lo != -5
			s[k] = api.Range{Lo: -5, Hi: -6}
		}
	}
	for i := range t {
		t[i] = api.Node{Kind: 55, A: 55, B: 55, Name: "spoilt"}
	}
	return apart
}

// makers are the calls of two trees, also those that tell one of them as it is.
func makers() []func(a, b api.Tree) (api.Tree, bool) {
	e, n := of("e"), of("n")
	return []func(a, b api.Tree) (api.Tree, bool){
		smart.Cat, smart.Alt,
		func(a, b api.Tree) (api.Tree, bool) { return smart.Cat(b, a) },
		func(a, b api.Tree) (api.Tree, bool) { return smart.Cat(a, a) },
		func(a, b api.Tree) (api.Tree, bool) { return smart.Alt(a, a) },
		func(a, b api.Tree) (api.Tree, bool) { return smart.Cat(a, e) },
		func(a, b api.Tree) (api.Tree, bool) { return smart.Cat(e, a) },
		func(a, b api.Tree) (api.Tree, bool) { return smart.Alt(a, n) },
		func(a, b api.Tree) (api.Tree, bool) { return smart.Alt(n, b) },
		func(a, b api.Tree) (api.Tree, bool) { return smart.Star(a) },
		func(a, b api.Tree) (api.Tree, bool) { return smart.Star(b) },
		func(a, b api.Tree) (api.Tree, bool) { return smart.Clean(a) },
		func(a, b api.Tree) (api.Tree, bool) { return smart.Clean(b) },
	}
}

// Rule 2: what is handed in stays as it is, its spare room too; no answer shares memory with it, with another answer, or one of its lists with another one of them.
func TestMemoryIsApart(t *testing.T) {
	x, y := one(set(1, 5, 9, 9), "first"), one(set('a', 'c'), "second")
	p := pair(api.Cat, pair(api.Alt, x, pair(api.Alt, leaf(api.Empty), y)), pair(api.Cat, y, x))
	for _, q := range []api.Tree{star(pair(api.Cat, y, y)), star(pair(api.Alt, y, x)), pair(api.Alt, star(y), pair(api.Alt, x, y))} {
		for i, call := range makers() {
			a, b := roomyTree(p), roomyTree(q)
			beforeA, beforeB := whole(a), whole(b)
			first, ok := call(a, b)
			second, again := call(a, b)
			want := whole(second)
			if !ok || !again || !spoil(first) {
				t.Errorf("call %d: lists of one answer share memory", i)
			}
			if !reflect.DeepEqual(whole(second), want) {
				t.Errorf("call %d: another answer has become %v", i, second)
			}
			if !reflect.DeepEqual(whole(a), beforeA) || !reflect.DeepEqual(whole(b), beforeB) {
				t.Errorf("call %d: an argument has become %v or %v", i, whole(a), whole(b))
			}
			for _, n := range second {
				for _, m := range slices.Concat(a, b) {
					if n.Name != "" && unsafe.StringData(n.Name) == unsafe.StringData(m.Name) {
						t.Errorf("call %d: a name is an argument's", i)
					}
				}
			}
		}
	}
}

// Rule 4: what was handed in ahead, in the same memory too, is forgotten.
func TestNothingIsKept(t *testing.T) {
	a, b := of("ab."), of("ab.")
	x, ok := smart.Alt(a, b)
	checkTree(t, "at first", x, ok, of("ab."))
	b[1].Set[0] = api.Range{Lo: 'c', Hi: 'c'}
	x, ok = smart.Alt(a, b)
	checkTree(t, "another set", x, ok, of("ab.ac.|"))
	b[2].Kind = api.Alt
	x, ok = smart.Cat(b, a)
	checkTree(t, "another kind", x, ok, of("ac|a.b."))
	b[1] = api.Node{Kind: api.Never}
	x, ok = smart.Clean(b)
	checkTree(t, "a Never", x, ok, of("a"))
	x, ok = smart.Alt(a, of("ac."))
	checkTree(t, "as at first", x, ok, of("ab.ac.|"))
}
