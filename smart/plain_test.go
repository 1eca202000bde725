package smart_test

import (
	"slices"
	"strings"
	"testing"

	"caesura/api"
	"caesura/smart"
	"caesura/tree"
)

func root(t api.Tree) int { return t[len(t)-1].Kind }

// plainCat is the chapter's Cat, by layer 11's calls.
func plainCat(a, b api.Tree) (api.Tree, bool) {
	switch {
	case !tree.Good(a) || !tree.Good(b):
		return nil, false
	case root(a) == api.Never || root(b) == api.Never:
		return leaf(api.Never), true
	case root(a) == api.Empty:
		return b, true
	case root(b) == api.Empty:
		return a, true
	case root(b) == api.Cat:
		x, y, _ := tree.Parts(b)
		if x, ok := plainCat(a, x); ok {
			return plainCat(x, y)
		}
		return nil, false
	}
	return tree.Cat(a, b)
}

// plainMembers are a tree's members.
func plainMembers(t api.Tree) []api.Tree {
	if root(t) != api.Alt {
		return []api.Tree{t}
	}
	a, b, _ := tree.Parts(t)
	return append(plainMembers(a), plainMembers(b)...)
}

// plainAlt is the chapter's Alt, by layer 11's calls.
func plainAlt(a, b api.Tree) (api.Tree, bool) {
	switch {
	case !tree.Good(a) || !tree.Good(b):
		return nil, false
	case root(a) == api.Never:
		return b, true
	case root(b) == api.Never:
		return a, true
	}
	all := append(plainMembers(a), plainMembers(b)...)
	stars := slices.ContainsFunc(all, func(m api.Tree) bool { return root(m) == api.Star })
	var l []api.Tree
	for _, m := range all {
		if stars && root(m) == api.Empty || slices.ContainsFunc(l, func(x api.Tree) bool { return tree.Same(x, m) }) {
			continue
		}
		l = append(l, m)
	}
	t, ok := l[0], true
	for _, m := range l[1:] {
		if t, ok = tree.Alt(t, m); !ok {
			return nil, false
		}
	}
	return t, true
}

// plainStar is the chapter's Star, by layer 11's calls.
func plainStar(a api.Tree) (api.Tree, bool) {
	if !tree.Good(a) {
		return nil, false
	}
	if root(a) == api.Alt {
		l := slices.DeleteFunc(plainMembers(a), func(m api.Tree) bool { return root(m) == api.Empty })
		if len(l) == 0 {
			return leaf(api.Empty), true
		}
		a = l[0]
		for _, m := range l[1:] {
			a, _ = plainAlt(a, m)
		}
	}
	switch root(a) {
	case api.Never, api.Empty:
		return leaf(api.Empty), true
	case api.Star:
		return a, true
	}
	return tree.Star(a)
}

// plainClean is the chapter's Clean, by these, from a tree's root down.
func plainClean(t api.Tree) (api.Tree, bool) {
	a, b, ok := tree.Parts(t)
	if !ok {
		return t, tree.Good(t)
	}
	a, _ = plainClean(a)
	switch root(t) {
	case api.Star:
		return plainStar(a)
	case api.Cat:
		b, _ = plainClean(b)
		return plainCat(a, b)
	}
	b, _ = plainClean(b)
	return plainAlt(a, b)
}

// eachTree goes through all trees of so many nodes, over a Never, an Empty and two Ones.
func eachTree(nodes int, f func(t api.Tree)) {
	if nodes == 1 {
		for _, l := range []string{"n", "e", "a", "b"} {
			f(of(l))
		}
		return
	}
	eachTree(nodes-1, func(a api.Tree) { f(star(a)) })
	for ahead := 1; ahead < nodes-1; ahead++ {
		eachTree(ahead, func(a api.Tree) {
			eachTree(nodes-1-ahead, func(b api.Tree) {
				f(pair(api.Cat, a, b))
				f(pair(api.Alt, a, b))
			})
		})
	}
}

// smallTrees are all trees of at most so many nodes.
func smallTrees(nodes int) []api.Tree {
	var l []api.Tree
	for n := 1; n <= nodes; n++ {
		eachTree(n, func(t api.Tree) { l = append(l, t) })
	}
	return l
}

// rows are all rows of at most three of three scalars, of which two are in trees.
func rows() [][]int {
	l := [][]int{nil}
	for from := 0; len(l[from]) < 3; from++ {
		for _, v := range []int{'a', 'b', 'x'} {
			l = append(l, append(slices.Clip(l[from]), v))
		}
	}
	return l
}

// checkTakes holds what is made plain against what it is made of, row by row.
func checkTakes(t *testing.T, what string, x, of api.Tree) {
	t.Helper()
	for _, l := range rows() {
		if tree.Takes(x, l) != tree.Takes(of, l) {
			t.Errorf("%s: %s and %s differ by %v", what, brief(x), brief(of), l)
			return
		}
	}
}

// P12.1: every two trees, one of up to five nodes, one of up to three.
func TestEveryPair(t *testing.T) {
	l := smallTrees(5)
	few := smallTrees(3)
	for _, a := range l {
		for _, b := range few {
			for _, x := range [][2]api.Tree{{a, b}, {b, a}} {
				got, ok := smart.Cat(x[0], x[1])
				want, _ := plainCat(x[0], x[1])
				checkTree(t, "Cat of "+brief(x[0])+" and "+brief(x[1]), got, ok, want)
				got, ok = smart.Alt(x[0], x[1])
				want, _ = plainAlt(x[0], x[1])
				checkTree(t, "Alt of "+brief(x[0])+" and "+brief(x[1]), got, ok, want)
			}
		}
	}
}

// P12.1, P12.2: Star and Clean of every tree of up to six nodes, and Clean of what is made plain.
func TestEveryTree(t *testing.T) {
	for _, a := range smallTrees(6) {
		got, ok := smart.Star(a)
		want, _ := plainStar(a)
		checkTree(t, "Star of "+brief(a), got, ok, want)
		got, ok = smart.Clean(a)
		want, _ = plainClean(a)
		checkTree(t, "Clean of "+brief(a), got, ok, want)
		again, ok := smart.Clean(got)
		checkTree(t, "Clean of Clean of "+brief(a), again, ok, got)
	}
}

// P12.3: what is made plain takes the same.
func TestTakesTheSame(t *testing.T) {
	few := smallTrees(3)
	for _, a := range few {
		for _, b := range few {
			got, _ := smart.Cat(a, b)
			checkTakes(t, "Cat", got, pair(api.Cat, a, b))
			got, _ = smart.Alt(a, b)
			checkTakes(t, "Alt", got, pair(api.Alt, a, b))
		}
	}
	for _, a := range smallTrees(5) {
		got, _ := smart.Star(a)
		checkTakes(t, "Star", got, star(a))
		got, _ = smart.Clean(a)
		checkTakes(t, "Clean", got, a)
	}
}

// mixed is a row of numbers that follow from the one before.
type mixed uint64

func (m *mixed) below(n int) int {
	*m = *m*6364136223846793005 + 1442695040888963407
	return int(*m >> 33 % mixed(n))
}

// tree is some tree of so many nodes, with more Alts than Cats and few leaves, so that many are alike.
func (m *mixed) tree(nodes int) api.Tree {
	switch {
	case nodes == 1:
		return of([]string{"n", "e", "a", "a", "b", "b"}[m.below(6)])
	case nodes == 2 || m.below(6) == 0:
		return star(m.tree(nodes - 1))
	}
	ahead := 1 + m.below(nodes-2)
	return pair([]int{api.Cat, api.Alt, api.Alt}[m.below(3)], m.tree(ahead), m.tree(nodes-1-ahead))
}

// P12.1, P12.2, P12.3: greater trees.
func TestMixed(t *testing.T) {
	m := mixed(12)
	for range 3000 {
		a, b := m.tree(1+m.below(40)), m.tree(1+m.below(40))
		got, ok := smart.Cat(a, b)
		want, _ := plainCat(a, b)
		checkTree(t, "Cat of "+brief(a)+" and "+brief(b), got, ok, want)
		got, ok = smart.Alt(a, b)
		want, _ = plainAlt(a, b)
		checkTree(t, "Alt of "+brief(a)+" and "+brief(b), got, ok, want)
		got, ok = smart.Star(a)
		want, _ = plainStar(a)
		checkTree(t, "Star of "+brief(a), got, ok, want)
		got, ok = smart.Clean(a)
		want, _ = plainClean(a)
		checkTree(t, "Clean of "+brief(a), got, ok, want)
		again, ok := smart.Clean(got)
		checkTree(t, "Clean of Clean of "+brief(a), again, ok, got)
		checkTakes(t, "Clean", got, a)
	}
}

// P12.1, P12.2: Ones of many sets and names, few of which are alike, with ranges that stand elsewhere in other sets.
func TestMixedLabels(t *testing.T) {
	m := mixed(1)
	for range 300 {
		var x api.Tree
		for range 30 {
			var s api.Set
			for v := 1; v < 9; v += 2 + m.below(3) {
				s = append(s, api.Range{Lo: v, Hi: v + m.below(1)})
			}
			y := one(s, []string{"", "x", "y"}[m.below(3)])
			if x == nil {
				x = y
			} else {
				x = pair(api.Alt, x, y)
			}
		}
		got, ok := smart.Clean(x)
		want, _ := plainClean(x)
		checkTree(t, "Clean of "+brief(x), got, ok, want)
	}
}

// scalars are so many Ones of one scalar each, no two alike.
func scalars(n int) []api.Tree {
	var l []api.Tree
	for v := range n {
		l = append(l, one(set(v, v), ""))
	}
	return l
}

// fromLeft puts trees together from the left, by nodes of a kind.
func fromLeft(kind int, l []api.Tree) api.Tree {
	t := slices.Clone(l[0])
	for _, x := range l[1:] {
		t = append(append(t, x...), api.Node{Kind: kind})
	}
	return linked(t...)
}

// fromRight puts trees together from the right, by nodes of a kind, the last ones first.
func fromRight(kind int, l []api.Tree) api.Tree {
	return linked(append(slices.Concat(l...), slices.Repeat(leaf(kind), len(l)-1)...)...)
}

// P12.1: one node more than MaxNodes is too many, for what is made and for what is made on the way; what is left out does not count.
func TestBound(t *testing.T) {
	a := fromLeft(api.Cat, scalars(20000))
	full := star(a)
	b, few := of("b"), fromLeft(api.Cat, scalars(19999))
	for _, do := range []func(a, b api.Tree) (api.Tree, bool){smart.Cat, smart.Alt} {
		x, ok := do(full, b)
		checkNone(t, "more than MaxNodes", x, ok)
		x, ok = do(b, full)
		checkNone(t, "more than MaxNodes", x, ok)
		x, ok = do(full, full[:len(full)-1])
		checkNone(t, "more than MaxNodes", x, ok)
	}
	x, ok := smart.Cat(few, b)
	checkTree(t, "20000 in a row", x, ok, pair(api.Cat, few, b))
	x, ok = smart.Cat(star(few), b)
	checkTree(t, "just MaxNodes", x, ok, pair(api.Cat, star(few), b))
	x, ok = smart.Cat(star(few), star(b))
	checkNone(t, "MaxNodes and 1", x, ok)
	x, ok = smart.Alt(star(few), b)
	checkTree(t, "just MaxNodes", x, ok, pair(api.Alt, star(few), b))
	x, ok = smart.Alt(star(few), star(b))
	checkNone(t, "MaxNodes and 1", x, ok)
	x, ok = smart.Star(a)
	checkTree(t, "Star of MaxNodes less 1", x, ok, full)
	x, ok = smart.Star(full)
	checkTree(t, "Star of a Star", x, ok, full)
	x, ok = smart.Star(fromLeft(api.Cat, append(scalars(19999), of("b*"))))
	checkNone(t, "Star of MaxNodes", x, ok)
	x, ok = smart.Star(fromLeft(api.Alt, append(scalars(19999), of("b*"))))
	checkNone(t, "Star of an Alt of MaxNodes", x, ok)
	for _, y := range []api.Tree{of("n"), of("e"), full} {
		x, ok = smart.Alt(full, y)
		want, _ := plainAlt(full, y)
		checkTree(t, "Alt of MaxNodes", x, ok, want)
	}
	x, ok = smart.Cat(full, of("e"))
	checkTree(t, "Cat of MaxNodes and an Empty", x, ok, full)
	x, ok = smart.Cat(full, of("n"))
	checkTree(t, "Cat of MaxNodes and a Never", x, ok, of("n"))
	x, ok = smart.Cat(full, of("ee."))
	checkTree(t, "Cat of MaxNodes and Emptys", x, ok, full)
	x, ok = smart.Cat(full, of("nb."))
	checkTree(t, "Cat of MaxNodes and a Never ahead", x, ok, of("n"))
	x, ok = smart.Cat(full, of("bn."))
	checkNone(t, "Cat of MaxNodes, and a Never too late", x, ok)
	x, ok = smart.Cat(full, of("ebn.."))
	checkNone(t, "Cat of MaxNodes, and a Never too late", x, ok)
}

// P12.1, P12.2: many members in a row, put together from either side, among them some that are alike.
func TestLongRows(t *testing.T) {
	l := scalars(20000)
	for _, kind := range []int{api.Cat, api.Alt} {
		left, right := fromLeft(kind, l), fromRight(kind, l)
		for _, x := range []api.Tree{left, right} {
			got, ok := smart.Clean(x)
			checkTree(t, "Clean of a long row", got, ok, left)
		}
		got, ok := smart.Cat(l[0], fromRight(kind, l[1:]))
		want := left
		if kind == api.Alt {
			want = pair(api.Cat, l[0], fromRight(kind, l[1:]))
		}
		checkTree(t, "Cat of a long row", got, ok, want)
	}
	got, ok := smart.Alt(l[0], fromRight(api.Alt, l[1:]))
	checkTree(t, "Alt of a long row", got, ok, fromLeft(api.Alt, l))
	twice := slices.Concat(l[:10000], l[:10000])
	for _, x := range []api.Tree{fromLeft(api.Alt, twice), fromRight(api.Alt, twice)} {
		got, ok = smart.Clean(x)
		checkTree(t, "Clean of all twice", got, ok, fromLeft(api.Alt, l[:10000]))
		got, ok = smart.Star(x)
		checkTree(t, "Star of all twice", got, ok, star(fromLeft(api.Alt, l[:10000])))
	}
	got, ok = smart.Alt(fromRight(api.Alt, l), fromLeft(api.Alt, l))
	checkTree(t, "Alt of two long rows", got, ok, fromLeft(api.Alt, l))
}

// P12.2: deep trees, of Cats and Alts by turns, which are rows when what their Emptys and Nevers leave is put together.
func TestDeepTrees(t *testing.T) {
	l := scalars(10000)
	for _, x := range []struct {
		idle, outer, inner int
	}{{api.Empty, api.Alt, api.Cat}, {api.Never, api.Cat, api.Alt}} {
		idle, outer, inner := leaf(x.idle), leaf(x.outer), leaf(x.inner)
		left, right, ends := slices.Clone(l[0]), slices.Clone(l[0]), api.Tree{}
		for _, y := range l[1:] {
			left = append(left, idle[0], inner[0], y[0], outer[0])
			right = append(right, idle[0], y[0])
			ends = append(ends, inner[0], outer[0])
		}
		right = append(right, ends...)
		for _, deep := range []api.Tree{left, right} {
			got, ok := smart.Clean(linked(deep...))
			checkTree(t, "deep", got, ok, fromLeft(x.outer, l))
		}
	}
}

// P12.2: Stars above one another, and Stars in rows within Stars.
func TestManyStars(t *testing.T) {
	got, ok := smart.Clean(linked(append(of("a"), slices.Repeat(leaf(api.Star), 39999)...)...))
	checkTree(t, "Stars above one another", got, ok, of("a*"))
	x := of("a" + strings.Repeat("b.*", 13333))
	got, ok = smart.Clean(x)
	checkTree(t, "Stars within Stars", got, ok, x)
}
