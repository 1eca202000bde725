package tree_test

import (
	"fmt"
	"math"
	"reflect"
	"slices"
	"strings"
	"testing"
	"unsafe"

	"caesura/api"
	"caesura/tree"
)

const last = 0x10ffff

// set is ranges from each first number to each second one.
func set(l ...int) api.Set {
	var s api.Set
	for i := 0; i+1 < len(l); i += 2 {
		s = append(s, api.Range{Lo: l[i], Hi: l[i+1]})
	}
	return s
}

func leaf(kind int) api.Tree { return api.Tree{{Kind: kind}} }

func one(s api.Set, name string) api.Tree {
	return api.Tree{{Kind: api.One, Set: s, Name: name}}
}

// lift is a tree whose children's numbers are greater by so many.
func lift(t api.Tree, by int) api.Tree {
	l := slices.Clone(t)
	for i, n := range l {
		if n.Kind >= api.Cat {
			l[i].A += by
		}
		if n.Kind == api.Cat || n.Kind == api.Alt {
			l[i].B += by
		}
	}
	return l
}

// pair is a Cat or an Alt, put together by hand.
func pair(kind int, a, b api.Tree) api.Tree {
	return slices.Concat(a, lift(b, len(a)), api.Tree{{Kind: kind, A: len(a) - 1, B: len(a) + len(b) - 1}})
}

// star is a Star, put together by hand.
func star(a api.Tree) api.Tree {
	return slices.Concat(a, api.Tree{{Kind: api.Star, A: len(a) - 1}})
}

// tower is so many nodes: Stars over one leaf.
func tower(nodes int) api.Tree {
	t := one(set('a', 'a'), "")
	for len(t) < nodes {
		t = append(t, api.Node{Kind: api.Star, A: len(t) - 1})
	}
	return t
}

// leftChain is so many Ones, held together by nodes of a kind: ((a a) a) ..
func leftChain(kind, ones int) api.Tree {
	t := one(set('a', 'a'), "")
	for range ones - 1 {
		root := len(t) - 1
		t = append(t, t[0], api.Node{Kind: kind, A: root, B: root + 1})
	}
	return t
}

// rightChain is so many Ones, held together by nodes of a kind: a (a (a ..
func rightChain(kind, ones int) api.Tree {
	var t api.Tree
	for range ones {
		t = append(t, one(set('a', 'a'), "")...)
	}
	for at := ones - 2; at >= 0; at-- {
		t = append(t, api.Node{Kind: kind, A: at, B: len(t) - 1})
	}
	return t
}

// plainSet tells whether a set has something and may be: scalars that rise, and of which no two ranges touch.
func plainSet(s api.Set) bool {
	above := -2
	for _, r := range s {
		if r.Lo < 0 || r.Hi > last || r.Lo > r.Hi || r.Lo>>11 == 0x1b || r.Hi>>11 == 0x1b {
			return false
		}
		if r.Lo <= above+1 || above == 0xd7ff && r.Lo == 0xe000 {
			return false
		}
		above = r.Hi
	}
	return len(s) > 0
}

// plainBegin reads the tree whose root is at a place from its root down, and tells where it begins; -1, if it may not be.
func plainBegin(t api.Tree, at int) int {
	if at < 0 {
		return -1
	}
	n := t[at]
	if n.Kind == api.One && !plainSet(n.Set) || n.Kind != api.One && len(n.Set)+len(n.Name) > 0 {
		return -1
	}
	switch n.Kind {
	case api.Never, api.Empty, api.One:
		if n.A == 0 && n.B == 0 {
			return at
		}
	case api.Star:
		if n.A == at-1 && n.B == 0 {
			return plainBegin(t, at-1)
		}
	case api.Cat, api.Alt:
		second := plainBegin(t, at-1)
		if second > 0 && n.A == second-1 && n.B == at-1 {
			return plainBegin(t, second-1)
		}
	}
	return -1
}

func plainGood(t api.Tree) bool {
	return plainBegin(t, len(t)-1) == 0 && len(t) <= api.MaxNodes
}

// eachTree goes through all trees of so many nodes, over these leaves.
func eachTree(nodes int, leaves []api.Tree, f func(t api.Tree)) {
	if nodes == 1 {
		for _, l := range leaves {
			f(l)
		}
		return
	}
	eachTree(nodes-1, leaves, func(a api.Tree) { f(star(a)) })
	for ahead := 1; ahead < nodes-1; ahead++ {
		eachTree(ahead, leaves, func(a api.Tree) {
			eachTree(nodes-1-ahead, leaves, func(b api.Tree) {
				f(pair(api.Cat, a, b))
				f(pair(api.Alt, a, b))
			})
		})
	}
}

// smallTrees are all trees of at most so many nodes, over three leaves.
func smallTrees(nodes int) []api.Tree {
	var l []api.Tree
	leaves := []api.Tree{leaf(api.Never), leaf(api.Empty), one(set('a', 'c'), "x")}
	for n := 1; n <= nodes; n++ {
		eachTree(n, leaves, func(t api.Tree) { l = append(l, t) })
	}
	return l
}

// badSets are sets that may not be, or are nothing.
func badSets() []api.Set {
	return []api.Set{
		nil, {}, set(5, 4), set(1, 2, 3, 4), set(1, 2, 2, 4), set(5, 6, 1, 2), set(0xd7ff, 0xd7ff, 0xe000, 0xe000),
		set(0xd800, 0xd900), set(0, 0xd800), set(0xdfff, 0xe000), set(-1, 3), set(-5, -1), set(0, last+1), set(1, 2, 5, 4),
		set(math.MinInt, 3), set(0, math.MaxInt), set(1<<32, 1<<32|1),
	}
}

// badTrees are trees that may not be.
func badTrees() []api.Tree {
	o := one(set('a', 'c'), "x")[0]
	l := []api.Tree{
		nil, {}, {{Kind: 6}}, {{Kind: -1}}, {{Kind: api.One}}, {{Kind: api.Never, A: 1}}, {{Kind: api.Empty, B: -1}},
		{{Kind: api.Star}}, {{Kind: api.Star, A: -1}}, {{Kind: api.Cat, A: -1, B: -1}}, {{Kind: api.Alt, A: -2, B: -1}}, {{Kind: api.Alt}},
		{o, o}, {o, {Kind: api.Star, A: 1}}, {o, {Kind: api.Star, A: 0, B: -1}}, {o, o, {Kind: api.Star, A: 1}},
		{o, {Kind: api.Cat, A: -1, B: 0}}, {o, o, {Kind: api.Cat, A: 1, B: 0}}, {o, o, o, {Kind: api.Cat, A: 0, B: 2}}, {o, o, o, {Kind: api.Alt, A: 1, B: 2}},
		{o, {Kind: 9}, {Kind: api.Cat, A: 0, B: 1}}, {{Kind: api.Never, Name: "x"}}, {{Kind: api.Empty, Set: o.Set}}, {o, {Kind: api.Star, A: 0, Set: o.Set}},
		tower(40001),
	}
	for _, s := range badSets() {
		l = append(l, one(s, "x"), star(one(s, "")))
	}
	return l
}

// brief is a tree as text, cut short if it is great.
func brief(t api.Tree) string {
	if len(t) > 9 {
		return fmt.Sprint(t[:9], " .. ", len(t), " nodes")
	}
	return fmt.Sprint(t)
}

func checkGood(t *testing.T, x api.Tree, want bool) {
	t.Helper()
	if tree.Good(x) != want {
		t.Errorf("Good(%s) is not %v", brief(x), want)
	}
}

// plainSame holds nodes against each other field by field.
func plainSame(a, b api.Tree) bool {
	if len(a) != len(b) {
		return false
	}
	for i, n := range a {
		m := b[i]
		if n.Kind != m.Kind || n.A != m.A || n.B != m.B || n.Name != m.Name || !slices.Equal(n.Set, m.Set) {
			return false
		}
	}
	return true
}

func checkTree(t *testing.T, what string, x api.Tree, ok bool, want api.Tree) {
	t.Helper()
	if !ok || !plainSame(x, want) {
		t.Errorf("%s: %s, %v, not %s", what, brief(x), ok, brief(want))
	}
}

func checkNone(t *testing.T, what string, x api.Tree, ok bool) {
	t.Helper()
	if ok || len(x) != 0 {
		t.Errorf("%s: %s, %v", what, brief(x), ok)
	}
}

// P11.1: nodes by hand: no children where there are none, those just ahead where there are some, all beneath the last one.
func TestGood(t *testing.T) {
	o := one(set(1, 2), "")[0]
	alt := api.Node{Kind: api.Alt, A: 0, B: 1}
	for _, x := range []struct {
		t    api.Tree
		want bool
	}{
		{nil, false},
		{api.Tree{}, false},
		{leaf(api.Never), true},
		{leaf(api.Empty), true},
		{api.Tree{o}, true},
		{leaf(api.One), false},
		{leaf(api.Star), false},
		{leaf(api.Cat), false},
		{leaf(api.Alt), false},
		{api.Tree{o, {Kind: api.Star}}, true},
		{api.Tree{o, {Kind: api.Star}, {Kind: api.Star, A: 1}}, true},
		{api.Tree{o, {Kind: api.Star}, {Kind: api.Star, A: 0}}, false},
		{api.Tree{o, {Kind: api.Star, B: 1}}, false},
		{api.Tree{o, {Kind: api.Star, B: -1}}, false},
		{api.Tree{o, o}, false},
		{api.Tree{o, o, {Kind: api.Star, A: 1}}, false},
		{api.Tree{o, o, alt}, true},
		{api.Tree{o, o, {Kind: api.Alt, A: 1, B: 1}}, false},
		{api.Tree{o, o, {Kind: api.Alt, A: 1, B: 0}}, false},
		{api.Tree{o, o, {Kind: api.Alt, A: 0, B: 0}}, false},
		{api.Tree{o, o, {Kind: api.Alt, A: 0, B: 2}}, false},
		{api.Tree{o, {Kind: api.Alt, A: 0, B: 0}}, false},
		{api.Tree{o, {Kind: api.Alt, A: -1, B: 0}}, false},
		{api.Tree{o, o, alt, o, {Kind: api.Cat, A: 2, B: 3}}, true},
		{api.Tree{o, o, alt, o, {Kind: api.Cat, A: 1, B: 3}}, false},
		{api.Tree{o, o, alt, o, {Kind: api.Cat, A: 0, B: 3}}, false},
		{api.Tree{o, o, o, {Kind: api.Cat, A: 1, B: 2}, {Kind: api.Alt, A: 0, B: 3}}, true},
		{api.Tree{o, o, o, {Kind: api.Cat, A: 1, B: 2}, {Kind: api.Alt, A: 2, B: 3}}, false},
		{api.Tree{o, o, o, {Kind: api.Cat, A: 1, B: 2}, {Kind: api.Alt, A: 1, B: 3}}, false},
		{api.Tree{o, o, o, {Kind: api.Cat, A: 1, B: 2}}, false},
		{api.Tree{o, o, o, {Kind: api.Cat, A: 0, B: 2}}, false},
		{api.Tree{o, o, {Kind: api.Star, A: 1}, {Kind: api.Cat, A: 0, B: 2}}, true},
		{api.Tree{o, o, {Kind: api.Star, A: 1}, {Kind: api.Cat, A: 1, B: 2}}, false},
		{api.Tree{o, {Kind: api.Star}, o, {Kind: api.Cat, A: 1, B: 2}}, true},
		{api.Tree{o, {Kind: api.Star}, o, {Kind: api.Cat, A: 0, B: 2}}, false},
		{api.Tree{{Kind: 7}, o, {Kind: api.Cat, A: 0, B: 1}}, false},
		{api.Tree{o, {Kind: api.One}, {Kind: api.Cat, A: 0, B: 1}}, false},
	} {
		checkGood(t, x.t, x.want)
	}
}

// P11.1: every list of up to three nodes with small children's numbers.
func TestGoodOfEveryList(t *testing.T) {
	var nodes []api.Node
	for kind := api.Never; kind <= api.Star; kind++ {
		for a := -1; a <= 2; a++ {
			for b := -1; b <= 2; b++ {
				n := api.Node{Kind: kind, A: a, B: b}
				if kind == api.One {
					n.Set = set('a', 'c')
				}
				nodes = append(nodes, n)
			}
		}
	}
	count := 0
	check := func(x api.Tree) {
		want := plainGood(x)
		checkGood(t, x, want)
		if want {
			count++
		}
	}
	for _, n := range nodes {
		check(api.Tree{n})
		for _, m := range nodes {
			check(api.Tree{n, m})
			for _, o := range nodes {
				check(api.Tree{n, m, o})
			}
		}
	}
	if count != len(smallTrees(3)) {
		t.Errorf("%d lists may be", count)
	}
}

// P11.1: every tree of up to six nodes, and each that differs from it in one number of one node, or by a node more or less.
func TestGoodOfEveryTree(t *testing.T) {
	for _, x := range smallTrees(6) {
		checkGood(t, x, true)
		checkGood(t, x[:len(x)-1], plainGood(x[:len(x)-1]))
		checkGood(t, x[1:], plainGood(x[1:]))
		checkGood(t, slices.Concat(x, x), false)
		for i := range x {
			for v := -1; v <= len(x); v++ {
				for field := range 3 {
					y := slices.Clone(x)
					*[]*int{&y[i].Kind, &y[i].A, &y[i].B}[field] = v
					checkGood(t, y, plainGood(y))
				}
			}
		}
	}
}

// P11.1: a One has a set that may be and has something, by any name; others have neither.
func TestGoodLabels(t *testing.T) {
	goodSets := []api.Set{set(0, 0), set(0, last), set(last, last), set(0xd7ff, 0xe000), set('a', 'c', 'e', 'g'), set(0xd7ff, 0xd7ff, 0xe001, 0xe002)}
	under := map[int]api.Tree{api.Star: one(set(1, 1), ""), api.Cat: {{}, {}}, api.Alt: {{}, {}}}
	roots := map[int]api.Node{api.Star: {Kind: api.Star}, api.Cat: {Kind: api.Cat, B: 1}, api.Alt: {Kind: api.Alt, B: 1}}
	for kind := api.Never; kind <= api.Star; kind++ {
		for _, name := range []string{"", "x", "\xff", strings.Repeat("long", 1000)} {
			for i, s := range slices.Concat(goodSets, badSets()) {
				root := roots[kind]
				root.Kind, root.Set, root.Name = kind, s, name
				want := len(s) == 0 && name == ""
				if kind == api.One {
					want = i < len(goodSets)
				}
				checkGood(t, append(slices.Clone(under[kind]), root), want)
				if kind <= api.One {
					checkGood(t, api.Tree{root, {Kind: api.Star}}, want)
				}
			}
		}
	}
}

// P11.1: 1 to MaxNodes nodes, of whatever shape.
func TestGoodBound(t *testing.T) {
	for _, n := range []int{39999, 40000} {
		checkGood(t, tower(n), true)
	}
	for _, n := range []int{40001, 40002, 80000} {
		checkGood(t, tower(n), false)
	}
	for _, kind := range []int{api.Cat, api.Alt} {
		for _, chain := range []func(kind, ones int) api.Tree{leftChain, rightChain} {
			checkGood(t, chain(kind, 20000), true)
			checkGood(t, star(chain(kind, 20000)), true)
			checkGood(t, star(star(chain(kind, 20000))), false)
			checkGood(t, chain(kind, 20001), false)
		}
	}
}

// P11.1: numbers that are none of a kind or of a child, some of which seem to be one when they lose bits.
func TestGoodWideNumbers(t *testing.T) {
	x := pair(api.Cat, pair(api.Alt, one(set('a', 'a'), ""), leaf(api.Empty)), star(leaf(api.Never)))
	checkGood(t, x, true)
	for i := range x {
		for field := range 3 {
			for _, by := range []int{1 << 8, -1 << 8, 1 << 16, 1 << 31, 1 << 32, -1 << 32, math.MinInt} {
				y := slices.Clone(x)
				*[]*int{&y[i].Kind, &y[i].A, &y[i].B}[field] += by
				checkGood(t, y, false)
			}
			for _, v := range []int{math.MinInt, math.MinInt + 1, -1, math.MaxInt - 1, math.MaxInt} {
				y := slices.Clone(x)
				*[]*int{&y[i].Kind, &y[i].A, &y[i].B}[field] = v
				checkGood(t, y, false)
			}
		}
	}
}

// P11.1: an Empty by its kind alone, a Never by all others.
func TestLeaf(t *testing.T) {
	checkTree(t, "Empty", tree.Leaf(api.Empty), true, leaf(api.Empty))
	for _, kind := range []int{api.Never, api.One, api.Cat, api.Alt, api.Star, 6, -1, 257, 1 << 32, 1<<32 | 1, math.MinInt, math.MinInt + 1, math.MaxInt} {
		checkTree(t, "Never", tree.Leaf(kind), true, leaf(api.Never))
	}
}

// P11.1: a One has its set and its name, whatever the name is; false for a set that may not be, or is nothing.
func TestOne(t *testing.T) {
	for _, name := range []string{"", "x", "class", "a b", "\x00\xff", "\u20ac", strings.Repeat("n", 100000)} {
		for _, s := range []api.Set{set(0, 0), set(0, last), set(0xd7ff, 0xe000), set('a', 'c', 'e', 'g', 0x1f600, last)} {
			x, ok := tree.One(s, name)
			checkTree(t, "One", x, ok, api.Tree{{Kind: api.One, Set: s, Name: name}})
		}
		for _, s := range badSets() {
			x, ok := tree.One(s, name)
			checkNone(t, "One", x, ok)
		}
	}
}

// P11.1: nodes that are made, by hand.
func TestMakes(t *testing.T) {
	a, b := one(set('a', 'a'), "x"), one(set('b', 'd', 'f', 'f'), "")
	alt, ok := tree.Alt(a, b)
	checkTree(t, "Alt", alt, ok, api.Tree{a[0], b[0], {Kind: api.Alt, A: 0, B: 1}})
	stars, ok := tree.Star(alt)
	checkTree(t, "Star", stars, ok, api.Tree{a[0], b[0], {Kind: api.Alt, A: 0, B: 1}, {Kind: api.Star, A: 2}})
	cat, ok := tree.Cat(stars, alt)
	checkTree(t, "Cat", cat, ok, api.Tree{
		a[0], b[0], {Kind: api.Alt, A: 0, B: 1}, {Kind: api.Star, A: 2},
		a[0], b[0], {Kind: api.Alt, A: 4, B: 5}, {Kind: api.Cat, A: 3, B: 6},
	})
	cat, ok = tree.Cat(tree.Leaf(api.Never), stars)
	checkTree(t, "Cat", cat, ok, api.Tree{
		{Kind: api.Never}, a[0], b[0], {Kind: api.Alt, A: 1, B: 2}, {Kind: api.Star, A: 3}, {Kind: api.Cat, A: 0, B: 4},
	})
	stars, ok = tree.Star(tree.Leaf(api.Empty))
	checkTree(t, "Star", stars, ok, api.Tree{{Kind: api.Empty}, {Kind: api.Star}})
}

// P11.3: every two trees of up to four nodes are put together as by hand, and taken apart are what they were.
func TestTogetherAndApart(t *testing.T) {
	l := smallTrees(4)
	for _, a := range l {
		made, ok := tree.Star(a)
		checkTree(t, "Star", made, ok, star(a))
		x, y, ok := tree.Parts(made)
		checkTree(t, "Star's part", x, ok, a)
		checkNone(t, "a Star's second part", y, false)
		for _, b := range l {
			made, ok := tree.Cat(a, b)
			checkTree(t, "Cat", made, ok, pair(api.Cat, a, b))
			x, y, ok := tree.Parts(made)
			checkTree(t, "Cat's A", x, ok, a)
			checkTree(t, "Cat's B", y, ok, b)
			made, ok = tree.Alt(a, b)
			checkTree(t, "Alt", made, ok, pair(api.Alt, a, b))
			x, y, ok = tree.Parts(made)
			checkTree(t, "Alt's A", x, ok, a)
			checkTree(t, "Alt's B", y, ok, b)
		}
	}
}

// P11.3: every tree of up to six nodes is taken apart, and its parts put together are it again.
func TestApartAndTogether(t *testing.T) {
	count := 0
	for _, x := range smallTrees(6) {
		a, b, ok := tree.Parts(x)
		var again api.Tree
		made := ok
		switch x[len(x)-1].Kind {
		case api.Cat:
			again, made = tree.Cat(a, b)
		case api.Alt:
			again, made = tree.Alt(a, b)
		case api.Star:
			again, made = tree.Star(a)
		default:
			checkNone(t, "a leaf's A", a, ok)
			checkNone(t, "a leaf's B", b, ok)
			continue
		}
		count++
		checkTree(t, "apart and together", again, ok && made, x)
	}
	if count < 1000 {
		t.Errorf("just %d trees", count)
	}
}

// P11.1: great trees are put together and taken apart; one node more than MaxNodes is too many.
func TestMakesBound(t *testing.T) {
	for _, make := range []struct {
		kind int
		do   func(a, b api.Tree) (api.Tree, bool)
	}{{api.Cat, tree.Cat}, {api.Alt, tree.Alt}} {
		for _, sizes := range [][2]int{{1, 39998}, {39998, 1}, {20000, 19999}, {19999, 20000}, {2, 39997}} {
			a, b := tower(sizes[0]), tower(sizes[1])
			x, ok := make.do(a, b)
			checkTree(t, "great", x, ok, pair(make.kind, a, b))
			p, q, ok := tree.Parts(x)
			checkTree(t, "great A", p, ok, a)
			checkTree(t, "great B", q, ok, b)
		}
		for _, sizes := range [][2]int{{1, 39999}, {39999, 1}, {20000, 20000}, {40000, 1}, {1, 40000}, {40000, 40000}} {
			x, ok := make.do(tower(sizes[0]), tower(sizes[1]))
			checkNone(t, "greater", x, ok)
		}
	}
	x, ok := tree.Star(tower(39999))
	checkTree(t, "great Star", x, ok, tower(40000))
	x, ok = tree.Star(tower(40000))
	checkNone(t, "greater Star", x, ok)
}

// P11.1: nothing is made of a tree that may not be, on either side, though it might seem to be a part of the other one; nor is it taken apart.
func TestMakesOfBadTrees(t *testing.T) {
	o := one(set('a', 'c'), "x")
	for _, bad := range badTrees() {
		checkGood(t, bad, false)
		x, ok := tree.Star(bad)
		checkNone(t, "Star", x, ok)
		x, y, ok := tree.Parts(bad)
		checkNone(t, "Parts", append(x, y...), ok)
		for _, good := range []api.Tree{leaf(api.Empty), o, star(o), pair(api.Cat, o, o)} {
			for _, do := range []func(a, b api.Tree) (api.Tree, bool){tree.Cat, tree.Alt} {
				x, ok = do(bad, good)
				checkNone(t, "bad A", x, ok)
				x, ok = do(good, bad)
				checkNone(t, "bad B", x, ok)
			}
		}
		for _, do := range []func(a, b api.Tree) (api.Tree, bool){tree.Cat, tree.Alt} {
			x, ok = do(bad, bad)
			checkNone(t, "both bad", x, ok)
		}
	}
}

// differing are trees, may they be or not, of which no two are alike.
func differing() []api.Tree {
	o := one(set(1, 2), "x")[0]
	l := []api.Tree{nil, {{}}, {{}, {}}, {o}, {o, {}}, {{}, o}}
	for _, change := range []func(n *api.Node){
		func(n *api.Node) { n.Kind = api.Star },
		func(n *api.Node) { n.A = 1 },
		func(n *api.Node) { n.B = 1 },
		func(n *api.Node) { n.Name = "" },
		func(n *api.Node) { n.Name = "X" },
		func(n *api.Node) { n.Name = "xx" },
		func(n *api.Node) { n.Set = nil },
		func(n *api.Node) { n.Set = set(1, 3) },
		func(n *api.Node) { n.Set = set(0, 2) },
		func(n *api.Node) { n.Set = set(1, 2, 4, 4) },
		func(n *api.Node) { n.Set = set(4, 4, 1, 2) },
		func(n *api.Node) { n.A, n.B = 1<<32, math.MinInt },
	} {
		n := o
		change(&n)
		l = append(l, api.Tree{n}, api.Tree{o, n}, api.Tree{n, o})
	}
	return append(l, api.Tree{o, o})
}

// P11.2: alike are trees that have the same nodes, in kinds, children, sets and names; nil and empty lists are one.
func TestSame(t *testing.T) {
	l := differing()
	for i, a := range l {
		for j, b := range l {
			copied := slices.Clone(b)
			for k, n := range copied {
				copied[k].Set = slices.Clone(n.Set)
			}
			if tree.Same(a, copied) != (i == j) {
				t.Errorf("Same(%v, %v) is not %v", a, b, i == j)
			}
		}
	}
	if !tree.Same(nil, api.Tree{}) || !tree.Same(api.Tree{}, nil) {
		t.Error("nil and an empty tree differ")
	}
	if !tree.Same(api.Tree{{Set: nil}}, api.Tree{{Set: api.Set{}}}) {
		t.Error("nil and an empty set differ")
	}
}

// P11.2: every two trees of up to four nodes are alike, if they are one.
func TestSameOfEveryPair(t *testing.T) {
	l := smallTrees(4)
	for i, a := range l {
		for j, b := range l {
			if tree.Same(a, b) != (i == j) {
				t.Errorf("Same(%v, %v) is not %v", a, b, i == j)
			}
		}
	}
}

// roomy is a list with spare room, filled with a mark.
func roomy[T any](l []T, mark T) []T {
	return slices.Concat(l, slices.Repeat([]T{mark}, 9))[:len(l)]
}

// roomyTree is a tree with spare room, in its sets too.
func roomyTree(t api.Tree) api.Tree {
	c := slices.Clone(t)
	for i, n := range c {
		c[i].Set = roomy(n.Set, api.Range{Lo: -7, Hi: -8})
	}
	return roomy(c, api.Node{Kind: 77, A: 77, B: 77, Set: set(7, 7), Name: "mark"})
}

// whole is a tree with its spare room, and its sets', in memory of its own.
func whole(t api.Tree) api.Tree {
	c := slices.Clone(t[:cap(t)])
	for i, n := range c {
		c[i].Set = slices.Clone(n.Set[:cap(n.Set)])
	}
	return c
}

// spoil overwrites a tree as far as its room goes.
func spoil(t api.Tree) {
	t = t[:cap(t)]
	for i := range t {
		s := t[i].Set[:cap(t[i].Set)]
		for k := range s {
			s[k] = api.Range{Lo: -5, Hi: -6}
		}
		t[i] = api.Node{Kind: 55, A: 55, B: 55, Name: "spoilt"}
	}
}

// makers are the calls that tell trees, of two trees that are handed in.
func makers() []func(a, b api.Tree) []api.Tree {
	told := func(t api.Tree, _ bool) []api.Tree { return []api.Tree{t} }
	return []func(a, b api.Tree) []api.Tree{
		func(a, b api.Tree) []api.Tree { return told(tree.Cat(a, b)) },
		func(a, b api.Tree) []api.Tree { return told(tree.Cat(a, a)) },
		func(a, b api.Tree) []api.Tree { return told(tree.Alt(a, b)) },
		func(a, b api.Tree) []api.Tree { return told(tree.Alt(b, b)) },
		func(a, b api.Tree) []api.Tree { return told(tree.Star(a)) },
		func(a, b api.Tree) []api.Tree { return told(tree.One(b[0].Set, b[0].Name)) },
		func(a, b api.Tree) []api.Tree { return told(tree.Leaf(api.Empty), true) },
		func(a, b api.Tree) []api.Tree { return told(tree.Leaf(api.Never), true) },
		func(a, b api.Tree) []api.Tree {
			x, y, _ := tree.Parts(a)
			return []api.Tree{x, y}
		},
		func(a, b api.Tree) []api.Tree {
			x, _, _ := tree.Parts(b)
			return []api.Tree{x}
		},
	}
}

// someTrees are two trees with sets and names, a Cat of an Alt and a One, and a Star.
func someTrees() (a, b api.Tree) {
	x, y := one(set(1, 5, 9, 9), "first"), one(set('a', 'c'), "second")
	return pair(api.Cat, pair(api.Alt, x, leaf(api.Empty)), y), star(y)
}

// Rule 2: what is handed in stays as it is, its spare room too, and no answer shares memory with it or with another answer.
func TestMemoryIsApart(t *testing.T) {
	p, q := someTrees()
	for i, call := range makers() {
		a, b := roomyTree(p), roomyTree(q)
		beforeA, beforeB := whole(a), whole(b)
		first, second := call(a, b), call(a, b)
		var want []api.Tree
		for _, x := range second {
			want = append(want, whole(x))
		}
		for k, x := range first {
			rest := make([]api.Tree, 0)
			for _, y := range first[k+1:] {
				rest = append(rest, whole(y))
			}
			spoil(x)
			for j, y := range first[k+1:] {
				if !reflect.DeepEqual(whole(y), rest[j]) {
					t.Errorf("call %d: trees of one answer share memory", i)
				}
			}
		}
		for k, x := range second {
			if len(x) == 0 || !reflect.DeepEqual(whole(x), want[k]) {
				t.Errorf("call %d: another answer has become %v", i, x)
			}
		}
		if !reflect.DeepEqual(whole(a), beforeA) || !reflect.DeepEqual(whole(b), beforeB) {
			t.Errorf("call %d: an argument has become %v or %v", i, whole(a), whole(b))
		}
	}
}

// Rule 2: what asks without telling trees leaves its arguments as they are.
func TestArgumentsStay(t *testing.T) {
	p, q := someTrees()
	a, b, l := roomyTree(p), roomyTree(q), roomy([]int{1, 'a'}, 77)
	beforeA, beforeB, beforeL := whole(a), whole(b), slices.Clone(l[:cap(l)])
	if !tree.Good(a) || !tree.Good(b) || tree.Same(a, b) || !tree.Same(a, p) || !tree.Takes(a, l) || tree.Takes(b, l) || !tree.Takes(b, l[1:]) {
		t.Error("spare room is read")
	}
	if !reflect.DeepEqual(whole(a), beforeA) || !reflect.DeepEqual(whole(b), beforeB) || !slices.Equal(l[:cap(l)], beforeL) {
		t.Errorf("an argument has become %v, %v or %v", whole(a), whole(b), l[:cap(l)])
	}
}

// Rule 2: no two sets of one tree share memory, though one tree was handed in twice.
func TestSetsOfATreeAreApart(t *testing.T) {
	a, _ := someTrees()
	for _, do := range []func(a, b api.Tree) (api.Tree, bool){tree.Cat, tree.Alt} {
		x, _ := do(a, a)
		for i, n := range x {
			before := whole(x)
			for k := range n.Set[:cap(n.Set)] {
				n.Set[:cap(n.Set)][k] = api.Range{Lo: -5, Hi: -6}
			}
			for j := range x {
				if j != i && !reflect.DeepEqual(x[j].Set[:cap(x[j].Set)], before[j].Set) {
					t.Errorf("nodes %d and %d share memory", i, j)
				}
			}
		}
	}
}

// Rule 2: a name that is told does not lie in memory that was handed in, nor in another name's.
func TestNamesHaveTheirOwnMemory(t *testing.T) {
	a, b := someTrees()
	for i, call := range makers() {
		starts := map[uintptr]int{}
		for _, x := range slices.Concat([]api.Tree{a}, call(a, b), call(a, b)) {
			for _, n := range x {
				if n.Name != "" {
					starts[uintptr(unsafe.Pointer(unsafe.StringData(n.Name)))]++
				}
			}
		}
		for _, n := range starts {
			if n > 1 {
				t.Errorf("call %d: %d names lie in one place", i, n)
			}
		}
	}
}
