package tree_test

import (
	"fmt"
	"math"
	"regexp"
	"slices"
	"strings"
	"testing"

	"caesura/api"
	"caesura/tree"
)

// row is a text's scalars.
func row(s string) []int {
	var l []int
	for _, r := range s {
		l = append(l, int(r))
	}
	return l
}

// letter is a One of the scalars from one to another.
func letter(lo, hi rune) api.Tree {
	return one(set(int(lo), int(hi)), "")
}

// cats is a row of trees, the first two put together first.
func cats(l ...api.Tree) api.Tree {
	t := l[0]
	for _, x := range l[1:] {
		t = pair(api.Cat, t, x)
	}
	return t
}

// alts is a choice of trees, the first two put together first.
func alts(l ...api.Tree) api.Tree {
	t := l[0]
	for _, x := range l[1:] {
		t = pair(api.Alt, t, x)
	}
	return t
}

// parts are the trees of a root's children, and its kind.
func parts(t api.Tree) (kind int, a, b api.Tree) {
	root := len(t) - 1
	switch kind = t[root].Kind; kind {
	case api.Star:
		return kind, t[:root], nil
	case api.Cat, api.Alt:
		begin := t[root].A + 1
		return kind, t[:begin], lift(t[begin:root], -begin)
	}
	return kind, nil, nil
}

// plainTakes is the chapter's definition of what a tree takes, by all ways to part a row.
func plainTakes(t api.Tree, l []int) bool {
	switch kind, a, b := parts(t); kind {
	case api.Empty:
		return len(l) == 0
	case api.One:
		return len(l) == 1 && l[0]>>11 != 0x1b && slices.ContainsFunc(t[0].Set, func(r api.Range) bool { return r.Lo <= l[0] && l[0] <= r.Hi })
	case api.Alt:
		return plainTakes(a, l) || plainTakes(b, l)
	case api.Cat:
		for i := range len(l) + 1 {
			if plainTakes(a, l[:i]) && plainTakes(b, l[i:]) {
				return true
			}
		}
	case api.Star:
		if len(l) == 0 {
			return true
		}
		for i := 1; i <= len(l); i++ {
			if plainTakes(a, l[:i]) && plainTakes(t, l[i:]) {
				return true
			}
		}
	}
	return false
}

// pattern is a tree as a regular expression.
func pattern(t api.Tree) string {
	switch kind, a, b := parts(t); kind {
	case api.Empty:
		return "(?:)"
	case api.One:
		class := "["
		for _, r := range t[0].Set {
			class += fmt.Sprintf(`\x{%x}-\x{%x}`, r.Lo, r.Hi)
		}
		return class + "]"
	case api.Cat:
		return "(?:" + pattern(a) + pattern(b) + ")"
	case api.Alt:
		return "(?:" + pattern(a) + "|" + pattern(b) + ")"
	case api.Star:
		return "(?:" + pattern(a) + ")*"
	}
	return `[^\x{0}-\x{10ffff}]`
}

func checkTakes(t *testing.T, x api.Tree, l []int, want bool) {
	t.Helper()
	if got := tree.Takes(x, l); got != want {
		t.Errorf("Takes(%s, %.99q): %v", brief(x), fmt.Sprint(l[:min(len(l), 20)]), got)
	}
}

// checkTexts asks of a tree whether it takes some texts, and not others.
func checkTexts(t *testing.T, x api.Tree, takes, others []string) {
	t.Helper()
	for _, s := range takes {
		checkTakes(t, x, row(s), true)
	}
	for _, s := range others {
		checkTakes(t, x, row(s), false)
	}
}

// P11.2: each kind of tree by hand, and some of them together.
func TestTakes(t *testing.T) {
	never, empty, a, b := leaf(api.Never), leaf(api.Empty), letter('a', 'a'), letter('b', 'd')
	for _, x := range []struct {
		t             api.Tree
		takes, others []string
	}{
		{never, nil, []string{"", "a", "aa"}},
		{empty, []string{""}, []string{"a", "aa"}},
		{a, []string{"a"}, []string{"", "b", "aa", "ab", "ba"}},
		{b, []string{"b", "c", "d"}, []string{"", "a", "e", "bc"}},
		{cats(a, b), []string{"ab", "ac"}, []string{"", "a", "b", "ba", "aa", "abb", "aab"}},
		{cats(a, empty), []string{"a"}, []string{"", "aa"}},
		{cats(empty, a), []string{"a"}, []string{"", "aa"}},
		{cats(a, never), nil, []string{"", "a", "aa"}},
		{cats(never, a), nil, []string{"", "a", "aa"}},
		{cats(empty, empty), []string{""}, []string{"a"}},
		{alts(a, b), []string{"a", "b"}, []string{"", "ab", "ba", "e"}},
		{alts(b, a), []string{"a", "b"}, []string{"", "ab", "ba", "e"}},
		{alts(never, a), []string{"a"}, []string{"", "b"}},
		{alts(a, empty), []string{"", "a"}, []string{"b", "aa"}},
		{alts(empty, a), []string{"", "a"}, []string{"b", "aa"}},
		{alts(never, never), nil, []string{"", "a"}},
		{star(never), []string{""}, []string{"a"}},
		{star(empty), []string{""}, []string{"a"}},
		{star(a), []string{"", "a", "aa", "aaaaa"}, []string{"b", "ab", "ba", "aab", "baa", "aba"}},
		{star(cats(a, b)), []string{"", "ab", "acad"}, []string{"a", "aba", "b", "abb"}},
		{star(star(a)), []string{"", "a", "aa"}, []string{"b", "aab"}},
		{star(alts(a, empty)), []string{"", "a", "aa"}, []string{"b"}},
		{star(alts(empty, star(b))), []string{"", "b", "bcd"}, []string{"a", "ba"}},
		{cats(star(a), star(b)), []string{"", "a", "b", "ab", "aabb"}, []string{"ba", "aba"}},
		{cats(star(a), a), []string{"a", "aa", "aaa"}, []string{"", "b", "aab"}},
		{cats(star(a), a, a, star(a)), []string{"aa", "aaa"}, []string{"", "a"}},
		{cats(a, pair(api.Cat, b, a)), []string{"aba"}, []string{"ab", "ba", "aab"}},
		{star(cats(alts(a, empty), alts(b, empty))), []string{"", "a", "b", "ba", "abab", "bbaa"}, []string{"e", "abe"}},
		{alts(cats(a, a, a), star(cats(a, a))), []string{"", "aa", "aaa", "aaaa"}, []string{"a", "aaaaa"}},
		{star(alts(cats(a, a), cats(a, a, a))), []string{"", "aa", "aaa", "aaaaa", "aaaaaaa"}, []string{"a", "aab"}},
	} {
		checkTexts(t, x.t, x.takes, x.others)
	}
}

// rows goes through all rows of at most so many of some scalars.
func rows(scalars []int, most int, l []int, f func(l []int)) {
	f(l)
	for _, v := range scalars {
		if most > 0 {
			rows(scalars, most-1, append(slices.Clip(l), v), f)
		}
	}
}

// P11.2: every tree of up to five nodes, by every row of up to four scalars.
func TestTakesOfEveryTree(t *testing.T) {
	leaves := []api.Tree{leaf(api.Never), leaf(api.Empty), letter('a', 'a'), letter('a', 'b')}
	var all [][]int
	rows([]int{'a', 'b', 'c'}, 3, nil, func(l []int) { all = append(all, l) })
	rows([]int{'a', 'b'}, 5, nil, func(l []int) { all = append(all, l) })
	for nodes := 1; nodes <= 5; nodes++ {
		eachTree(nodes, leaves, func(x api.Tree) {
			for _, l := range all {
				checkTakes(t, x, l, plainTakes(x, l))
			}
		})
	}
}

// mixed is a row of numbers that follow from the one before.
type mixed uint64

func (m *mixed) below(n int) int {
	*m = *m*6364136223846793005 + 1442695040888963407
	return int(*m >> 33 % mixed(n))
}

// tree is some tree of so many nodes, with sets of scalars from those by which they part.
func (m *mixed) tree(nodes int, points []int) api.Tree {
	switch {
	case nodes == 1 && m.below(8) == 0:
		return leaf(m.below(2))
	case nodes == 1:
		lo := m.below(len(points))
		return one(set(points[lo], points[lo+m.below(len(points)-lo)]), "")
	case nodes == 2 || m.below(3) == 0:
		return star(m.tree(nodes-1, points))
	}
	ahead := 1 + m.below(nodes-2)
	return pair(api.Cat+m.below(2), m.tree(ahead, points), m.tree(nodes-1-ahead, points))
}

// P11.2: greater trees and longer rows, against regular expressions.
func TestTakesMixed(t *testing.T) {
	m := mixed(11)
	points := []int{0, 'a', 'b', 0xd7ff, 0xe000, 0xfffd, 0x10000, last}
	taken, asked := 0, 0
	for range 400 {
		x := m.tree(1+m.below(30), points)
		p := regexp.MustCompile("^" + pattern(x) + "$")
		for range 20 {
			l := make([]int, m.below(12))
			text := ""
			for i := range l {
				l[i] = points[m.below(len(points))]
				text += string(rune(l[i]))
			}
			// A "$" stands at the end of a text alone, when it is not told otherwise.
			want := p.MatchString(text)
			checkTakes(t, x, l, want)
			asked++
			if want {
				taken++
			}
		}
	}
	if taken < asked/20 || taken > asked*19/20 {
		t.Errorf("%d of %d rows are taken: too few tell something", taken, asked)
	}
}

// P11.2: the first and last scalar of ranges, the neighbors of the gap, and numbers that are no scalars, though a range goes over them.
func TestTakesEdges(t *testing.T) {
	over := one(set(0xd7ff, 0xe000), "")
	all := one(set(0, last), "")
	for _, v := range []int{0xd7ff, 0xe000} {
		checkTakes(t, over, []int{v}, true)
	}
	for _, v := range []int{0xd7fe, 0xe001, 0, last, 0xd800, 0xdbff, 0xdc00, 0xdfff} {
		checkTakes(t, over, []int{v}, false)
	}
	for _, v := range []int{0, 'a', 0xd7ff, 0xe000, 0xffff, 0x10000, last} {
		checkTakes(t, all, []int{v}, true)
		checkTakes(t, star(all), []int{v, v}, true)
		checkTakes(t, one(set(v, v), "x"), []int{v}, true)
	}
	empty := leaf(api.Empty)
	for _, v := range []int{-1, 0xd800, 0xdabc, 0xdfff, last + 1, 1<<32 | 'a', -1<<32 | 'a', 1 << 21, math.MinInt, math.MaxInt} {
		for _, l := range [][]int{{v}, {v, 'a'}, {'a', v}, {'a', v, 'a'}} {
			for _, x := range []api.Tree{all, star(all), star(alts(empty, all)), star(star(all)), empty, leaf(api.Never), cats(star(all), star(all))} {
				checkTakes(t, x, l, false)
			}
		}
	}
}

// P11.2: a set of many ranges, in which each second one of some scalars is.
func TestTakesBySets(t *testing.T) {
	var even api.Set
	for v := 0; v < 2000; v += 2 {
		even = append(even, api.Range{Lo: v, Hi: v})
	}
	x := one(even, "even")
	for v := range 2001 {
		checkTakes(t, x, []int{v}, v%2 == 0 && v < 2000)
	}
}

// P11.2: a tree that may not be takes nothing, not the row of nothing either.
func TestTakesOfBadTrees(t *testing.T) {
	for _, x := range badTrees() {
		for _, l := range [][]int{nil, {}, {'a'}, {'a', 'a'}, {0xd800}} {
			checkTakes(t, x, l, false)
		}
	}
	a := letter('a', 'a')
	// A part that may be stands in what may not be.
	checkTakes(t, append(leaf(9), a...), []int{'a'}, false)
	checkTakes(t, append(leaf(api.Empty), star(lift(a, 1))...), nil, false)
}

// P11.2: rows of great length end, also those that are taken nowhere.
func TestTakesLongRows(t *testing.T) {
	a, b := letter('a', 'a'), letter('b', 'b')
	many := slices.Repeat([]int{'a'}, 100000)
	checkTakes(t, star(a), many, true)
	checkTakes(t, star(a), append(slices.Clip(many), 'b'), false)
	checkTakes(t, cats(star(a), b), many, false)
	checkTakes(t, cats(star(a), b), append(slices.Clip(many), 'b'), true)
	checkTakes(t, a, many, false)
	checkTakes(t, star(star(a)), many, true)
	checkTakes(t, cats(star(a), star(a)), many, true)
	checkTakes(t, cats(star(a), star(a), b), many, false)
	checkTakes(t, star(alts(a, cats(b, b))), slices.Concat(many, []int{'b', 'b'}, many), true)
	checkTakes(t, star(alts(a, cats(b, b))), slices.Concat(many, []int{'b'}, many), false)
}

// P11.2: what may be taken in very many ways is told, and so is what is taken in none of them.
func TestTakesInManyWays(t *testing.T) {
	a, b := letter('a', 'a'), letter('b', 'b')
	l := slices.Repeat([]int{'a'}, 60)
	twice := star(a)
	doubled := a
	for range 6 {
		twice = star(pair(api.Cat, twice, twice))
		doubled = star(pair(api.Alt, pair(api.Cat, doubled, doubled), doubled))
	}
	for _, x := range []api.Tree{
		star(star(a)), star(alts(a, a)), star(cats(star(a), star(a))), star(cats(alts(a, leaf(api.Empty)), star(a))),
		star(alts(a, cats(a, a))), twice, doubled,
	} {
		checkTakes(t, x, l, true)
		checkTakes(t, cats(x, b), l, false)
		checkTakes(t, cats(x, b), append(slices.Clip(l), 'b'), true)
	}
	// No way leads through, and each place is come to anew by each of the choices.
	hard := cats(star(alts(a, a)), leaf(api.Never))
	for range 12 {
		hard = alts(hard, cats(star(alts(a, leaf(api.Empty))), leaf(api.Never)))
	}
	checkTakes(t, star(hard), l, false)
	checkTakes(t, star(hard), nil, true)
}

// P11.2: trees of as many nodes as there may be, deep and long.
func TestTakesOfGreatTrees(t *testing.T) {
	x := tower(40000)
	for _, s := range []string{"", "a", "aaa"} {
		checkTakes(t, x, row(s), true)
	}
	checkTakes(t, x, row("ab"), false)
	l := slices.Repeat([]int{'a'}, 20000)
	for _, chain := range []func(kind, ones int) api.Tree{leftChain, rightChain} {
		cat, alt := chain(api.Cat, 20000), chain(api.Alt, 20000)
		checkTakes(t, cat, l, true)
		checkTakes(t, cat, l[1:], false)
		checkTakes(t, cat, append(slices.Clip(l), 'a'), false)
		checkTakes(t, cat, append(slices.Clip(l[1:]), 'b'), false)
		checkTakes(t, alt, l[:1], true)
		checkTakes(t, alt, l[:2], false)
		checkTakes(t, alt, []int{'b'}, false)
	}
}

// Rule 4: what was asked of one tree or row is not told of another one, nor of the same memory, if another one stands in it.
func TestNothingIsKept(t *testing.T) {
	x, l := star(cats(letter('a', 'a'), letter('b', 'b'))), row("abab")
	checkTakes(t, x, l, true)
	l[3] = 'a'
	checkTakes(t, x, l, false)
	x[1].Set[0].Lo = 'a'
	checkTakes(t, x, l, true)
	x[2].Kind = api.Alt
	checkTakes(t, x, row("bba"), true)
	checkTakes(t, x, row("abc"), false)
	x[3] = api.Node{Kind: api.Never}
	checkTakes(t, x, nil, false)
	checkTakes(t, letter('c', 'c'), row("c"), true)
	checkTakes(t, x[:3], row("b"), true)
	checkTakes(t, x[:3], []int{}, false)
	checkTakes(t, x[:3], row(strings.Repeat("b", 2)), false)
}
