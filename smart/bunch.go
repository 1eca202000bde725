package smart

import (
	"slices"

	"caesura/api"
)

// bunch is a tree that is being made: parts that are put together from the left by Cats or Alts, as its kind says, or one tree of another kind.
// It gets its number as a whole only when it has become a part of another one: so what is put together piece by piece, from either side, takes no memory for each step.
type bunch struct {
	kind  int
	parts []int
	nodes int
}

// single tells a bunch of one tree.
func (s *store) single(tree int) bunch {
	e := s.entries[tree]
	return bunch{e.kind, []int{tree}, e.nodes}
}

// whole tells the number of a bunch.
func (s *store) whole(x bunch) int {
	number := x.parts[0]
	for _, part := range x.parts[1:] {
		number = s.number(shape{kind: x.kind, a: number, b: part})
	}
	return number
}

// tree tells a bunch as a tree; false, if it has too many nodes.
func (s *store) tree(x bunch) (api.Tree, bool) {
	if x.nodes > api.MaxNodes {
		return nil, false
	}
	return s.write(make(api.Tree, 0, x.nodes), s.whole(x)), true
}

// parts tells what a bunch gives to one of Cats or Alts, whichever is asked.
func (s *store) parts(kind int, x bunch) []int {
	if x.kind == kind {
		return x.parts
	}
	return []int{s.whole(x)}
}

// cat tells two bunches in a row; none of their parts is a Never or an Empty, but where it is all of one.
func (s *store) cat(x, y bunch) bunch {
	switch {
	case x.kind == api.Never, y.kind == api.Empty:
		return x
	case y.kind == api.Never, x.kind == api.Empty:
		return y
	}
	return bunch{api.Cat, append(s.parts(api.Cat, x), s.parts(api.Cat, y)...), x.nodes + y.nodes + 1}
}

// alt tells either of two bunches, each of which has been made plain.
func (s *store) alt(x, y bunch) bunch {
	switch {
	case x.kind == api.Never:
		return y
	case y.kind == api.Never:
		return x
	}
	members := s.parts(api.Alt, x)
	more := slices.DeleteFunc(s.parts(api.Alt, y), func(m int) bool { return slices.Contains(members, m) })
	z := s.choice(append(members, more...))
	if z.kind == api.Cat {
		// It is all that is left of both, and may become a part of another Cat, by its own parts.
		z.parts = s.spread(api.Cat, z.parts[0], nil)
	}
	return z
}

// star tells a bunch, none or more times.
func (s *store) star(x bunch) bunch {
	if x.kind == api.Alt {
		// Alt leaves Nevers out, and what is taken again and again needs no Empty.
		x = s.choice(slices.DeleteFunc(distinct(x.parts), func(m int) bool {
			return s.kind(m) == api.Never || s.kind(m) == api.Empty
		}))
	}
	switch x.kind {
	case api.Never, api.Empty:
		return s.single(s.leaf(api.Node{Kind: api.Empty}))
	case api.Star:
		return x
	}
	return s.single(s.number(shape{kind: api.Star, a: s.whole(x)}))
}

// choice tells an Alt of members no two of which are alike; a Never of none.
func (s *store) choice(members []int) bunch {
	if slices.ContainsFunc(members, func(m int) bool { return s.kind(m) == api.Star }) {
		members = slices.DeleteFunc(members, func(m int) bool { return s.kind(m) == api.Empty })
	}
	switch len(members) {
	case 0:
		return s.single(s.leaf(api.Node{Kind: api.Never}))
	case 1:
		return s.single(members[0])
	}
	nodes := len(members) - 1
	for _, m := range members {
		nodes += s.entries[m].nodes
	}
	return bunch{api.Alt, members, nodes}
}

// distinct tells trees, each that is alike to one ahead of it left out.
func distinct(l []int) []int {
	var d []int
	for _, tree := range l {
		if !slices.Contains(d, tree) {
			d = append(d, tree)
		}
	}
	return d
}
