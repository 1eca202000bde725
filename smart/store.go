package smart

import (
	"strings"

	"caesura/api"
)

// shape is a tree by its root, and by the numbers of its children's trees and of its set.
// Two trees are alike in all, just if their shapes are the same, field by field.
type shape struct {
	kind, a, b, set int
	name            string
}

// link is a range of a set, behind those ahead of it, by their number.
type link struct {
	ahead int
	r     api.Range
}

// entry is a tree that has a number: how many nodes it has, and a One's set.
type entry struct {
	shape
	nodes  int
	ranges api.Set
}

// store gives trees numbers: two that are alike have the same one.
type store struct {
	entries []entry
	numbers map[shape]int
	links   map[link]int
}

func newStore() *store {
	return &store{numbers: map[shape]int{}, links: map[link]int{}}
}

func (s *store) kind(tree int) int {
	return s.entries[tree].kind
}

// put tells the number of a tree that may be.
func (s *store) put(t api.Tree) int {
	numbers := make([]int, len(t))
	for i, n := range t {
		switch n.Kind {
		case api.Star:
			numbers[i] = s.number(shape{kind: n.Kind, a: numbers[n.A]})
		case api.Cat, api.Alt:
			numbers[i] = s.number(shape{kind: n.Kind, a: numbers[n.A], b: numbers[n.B]})
		default:
			numbers[i] = s.leaf(n)
		}
	}
	return numbers[len(t)-1]
}

// leaf tells the number of a tree of one node.
func (s *store) leaf(n api.Node) int {
	last := 0
	for _, r := range n.Set {
		l := link{last, r}
		number, known := s.links[l]
		if !known {
			number = len(s.links) + 1
			s.links[l] = number
		}
		last = number
	}
	number := s.number(shape{kind: n.Kind, set: last, name: n.Name})
	s.entries[number].ranges = n.Set
	return number
}

// number tells the number of a tree by its shape.
func (s *store) number(h shape) int {
	number, known := s.numbers[h]
	if !known {
		number = len(s.entries)
		s.numbers[h] = number
		s.entries = append(s.entries, entry{shape: h, nodes: s.nodes(h)})
	}
	return number
}

// nodes tells how many nodes a tree has.
func (s *store) nodes(h shape) int {
	switch h.kind {
	case api.Star:
		return s.entries[h.a].nodes + 1
	case api.Cat, api.Alt:
		return s.entries[h.a].nodes + s.entries[h.b].nodes + 1
	}
	return 1
}

// spread puts those trees behind a list that stand beneath Cats or Alts, whichever is asked, at a tree's root.
func (s *store) spread(kind, tree int, l []int) []int {
	if e := s.entries[tree]; e.kind == kind {
		return s.spread(kind, e.b, s.spread(kind, e.a, l))
	}
	return append(l, tree)
}

// write puts the nodes of a tree behind others, in memory of their own.
func (s *store) write(t api.Tree, tree int) api.Tree {
	e := s.entries[tree]
	n := api.Node{Kind: e.kind, Name: strings.Clone(e.name), Set: append(api.Set(nil), e.ranges...)}
	switch e.kind {
	case api.Star:
		t = s.write(t, e.a)
		n.A = len(t) - 1
	case api.Cat, api.Alt:
		t = s.write(t, e.a)
		n.A = len(t) - 1
		t = s.write(t, e.b)
		n.B = len(t) - 1
	}
	return append(t, n)
}
