package bvh

import (
	"math"
	"testing"

	"penumbra/api"
)

func isDeep(t *testing.T, x api.Tree, want int) {
	t.Helper()
	if got := Depth(x); got != want {
		t.Errorf("%d, want %d: %v", got, want, x)
	}
}

// P11.1: of no nodes 0, of one 1.
func TestDepthOfNoneAndOne(t *testing.T) {
	isDeep(t, api.Tree{}, 0)
	isDeep(t, api.Tree{Nodes: []api.Node{}, Order: []int{}}, 0)
	for n := 1; n < 6; n++ {
		isDeep(t, api.Tree{Nodes: []api.Node{leaf(0, n)}, Order: []int{0, 1, 2, 3, 4}[:n]}, 1)
	}
}

// P11.1: the deepest node may be anywhere: the last one, the first child, one that stands ahead of its parent's sister.
func TestDepthOfNamedTrees(t *testing.T) {
	isDeep(t, hand(), 3)
	for _, c := range []struct {
		deep  int
		nodes []api.Node
	}{
		{2, []api.Node{inner(1, 2), leaf(0, 1), leaf(1, 1)}},
		{2, []api.Node{inner(2, 1), leaf(0, 1), leaf(1, 1)}},
		{3, []api.Node{inner(1, 2), inner(3, 4), leaf(0, 1), leaf(1, 1), leaf(2, 1)}},
		{3, []api.Node{inner(1, 4), inner(2, 3), leaf(0, 1), leaf(1, 1), leaf(2, 1)}},
		{3, []api.Node{inner(2, 1), leaf(0, 1), inner(4, 3), leaf(1, 1), leaf(2, 1)}},
		{3, []api.Node{inner(4, 1), inner(2, 3), leaf(0, 1), leaf(1, 1), leaf(2, 1)}},
		{4, []api.Node{inner(1, 2), inner(6, 3), leaf(0, 1), inner(5, 4), leaf(1, 1), leaf(2, 1), leaf(3, 1)}},
		{3, []api.Node{inner(1, 2), inner(3, 4), inner(5, 6), leaf(0, 1), leaf(1, 1), leaf(2, 1), leaf(3, 1)}},
		{4, []api.Node{inner(1, 6), inner(2, 3), leaf(0, 1), inner(4, 5), leaf(1, 1), leaf(2, 1), leaf(3, 1)}},
	} {
		x := api.Tree{Nodes: c.nodes}
		for i := range (len(c.nodes) + 1) / 2 {
			x.Order = append(x.Order, i)
		}
		x = wide(x)
		if !fits(x, make([]api.Tri, len(x.Order))) {
			t.Fatalf("does not fit: %v", c.nodes)
		}
		isDeep(t, x, c.deep)
	}
}

// P11.1: lopsided trees, to either side, also over more triangles than Check takes.
func TestDepthOfLopsidedTrees(t *testing.T) {
	for _, n := range []int{1, 2, 3, 10, 14, 15, 100, api.MaxTree, api.MaxTree + 1, 9000} {
		isDeep(t, chain(n, true), n)
		isDeep(t, chain(n, false), n)
	}
}

// P11.1: trees of any form that fit.
func TestDepthOfSomeTrees(t *testing.T) {
	r := source(41)
	for i := range 400 {
		x := someTree(r, make([]api.Tri, 1+i%60))
		isDeep(t, x, depthOf(x, 0))
	}
}

// P11.1: of trees that don't fit it may be any number, but the call ends.
func TestDepthEnds(t *testing.T) {
	numbers := []int{math.MinInt, -1, 0, 1, 2, 3, 4, math.MaxInt}
	for _, left := range numbers {
		for _, right := range numbers {
			node := inner(left, right)
			Depth(api.Tree{Nodes: []api.Node{node}})
			Depth(api.Tree{Nodes: []api.Node{node, node, node, node}})
			Depth(api.Tree{Nodes: []api.Node{inner(1, 2), node, inner(0, 1)}, Order: []int{7}})
			Depth(api.Tree{Nodes: []api.Node{{Left: left, Right: right, From: right, Count: left}, inner(1, 0)}})
		}
	}
	r := source(42)
	for range 2000 {
		x := api.Tree{Nodes: make([]api.Node, 1+r.IntN(9))}
		for place := range x.Nodes {
			x.Nodes[place] = inner(r.IntN(11)-1, r.IntN(11)-1)
		}
		Depth(x)
	}
	many := make([]api.Node, 1<<18)
	for place := range many {
		many[place] = inner(place+1, place+2)
	}
	Depth(api.Tree{Nodes: many})
}
