package tree

import (
	"caesura/api"
	"caesura/sets"
)

// question is a tree and a row of scalars, and what is known of them.
type question struct {
	tree api.Tree
	row  []int
	// taken has a node, a place, and one to which the node takes what stands from there.
	taken map[[3]int]struct{}
}

// Takes tells whether a tree takes a row of scalars; false, if it may not be.
func Takes(t api.Tree, l []int) bool {
	if !Good(t) {
		return false
	}
	q := question{tree: t, row: l, taken: map[[3]int]struct{}{}}
	root := len(t) - 1
	q.ask(root, 0)
	_, ok := q.taken[[3]int{root, 0, len(l)}]
	return ok
}

// ask tells to which places a node takes something from a place, but what it has told already.
// What may follow behind a node is the same wherever it began: so each place need be told just once, and the first one that asks goes on from there.
// It goes deeper by the tree's nodes alone, not by the row, which may be of any length.
func (q *question) ask(node, from int) []int {
	var ends []int
	switch n := q.tree[node]; n.Kind {
	case api.Empty:
		ends = q.add(ends, node, from, from)
	case api.One:
		if from < len(q.row) && sets.Has(n.Set, q.row[from]) {
			ends = q.add(ends, node, from, from+1)
		}
	case api.Cat:
		for _, between := range q.ask(n.A, from) {
			ends = q.add(ends, node, from, q.ask(n.B, between)...)
		}
	case api.Alt:
		ends = q.add(ends, node, from, q.ask(n.A, from)...)
		ends = q.add(ends, node, from, q.ask(n.B, from)...)
	case api.Star:
		ends = q.add(ends, node, from, from)
		// The child goes on from each place that it has come to, so the list grows as it is gone through.
		for i := 0; i < len(ends); i++ {
			ends = q.add(ends, node, from, q.ask(n.A, ends[i])...)
		}
	}
	return ends
}

// add remembers that a node takes something from a place to others, and puts those that are new behind a list.
func (q *question) add(ends []int, node, from int, places ...int) []int {
	for _, to := range places {
		fact := [3]int{node, from, to}
		if _, known := q.taken[fact]; !known {
			q.taken[fact] = struct{}{}
			ends = append(ends, to)
		}
	}
	return ends
}
