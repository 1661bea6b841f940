package bvh

import (
	"math"
	"math/big"
	"slices"
	"testing"

	"penumbra/api"
)

func isChecked(t *testing.T, x api.Tree, l []api.Tri, want bool, what ...any) {
	t.Helper()
	if got := Check(x, l); got != want {
		t.Errorf("%v: %v for %d triangles, want %v: %v", what, got, len(l), want, x)
	}
}

// breach is a change after which the tree of five triangles does not fit any more, for one clause alone.
type breach struct {
	name   string
	change func(t *api.Tree)
}

func orderBreaches() []breach {
	put := func(number int) func(t *api.Tree) { return func(t *api.Tree) { t.Order[3] = number } }
	add := func(numbers ...int) func(t *api.Tree) {
		return func(t *api.Tree) { t.Order = append(t.Order, numbers...) }
	}
	return []breach{
		{"too short", func(t *api.Tree) { t.Order = t.Order[:4] }},
		{"too short, as are the leaves", func(t *api.Tree) { t.Order, t.Nodes[4] = []int{0, 1, 2, 3}, leaf(3, 1) }},
		{"empty", func(t *api.Tree) { t.Order = []int{} }},
		{"nil", func(t *api.Tree) { t.Order = nil }},
		{"too long, by one more number", add(5)},
		{"too long, by a number that was", add(0)},
		{"too long, by one below 0", add(-1)},
		{"too long, as is a leaf", func(t *api.Tree) { t.Order, t.Nodes[4] = append(t.Order, 5), leaf(3, 3) }},
		{"much too long", add(make([]int, 100000)...)},
		{"the first number twice", put(3)},
		{"the last number twice", put(1)},
		{"below 0", put(-1)},
		{"far below 0", put(math.MinInt)},
		{"too great", put(5)},
		{"much too great", put(math.MaxInt)},
	}
}

func leafBreaches() []breach {
	var all []breach
	for _, at := range []int{1, 3, 4} {
		put := func(name string, node api.Node) {
			all = append(all, breach{name, func(t *api.Tree) { node.Box, t.Nodes[at] = t.Nodes[at].Box, node }})
		}
		old := hand().Nodes[at]
		put("From below 0", leaf(-1, old.Count))
		put("From below 0, but the end is right", leaf(-1, old.From+old.Count+1))
		put("From far below 0", leaf(math.MinInt, old.Count))
		put("From and Count end beyond the order", leaf(old.From, 6-old.From))
		put("From and Count end far beyond the order", leaf(old.From, 1000000))
		put("From is the order's end", leaf(5, old.Count))
		put("Count is so great that the sum is no int", leaf(old.From+1, math.MaxInt))
		put("Count is as great as may be", leaf(old.From, math.MaxInt))
		put("From is so great that the sum is no int", leaf(math.MaxInt, old.Count))
		put("both are as great as may be", leaf(math.MaxInt, math.MaxInt))
		put("Left is a place", api.Node{Left: 4, From: old.From, Count: old.Count})
		put("Left is below 0", api.Node{Left: -1, From: old.From, Count: old.Count})
		put("Right is a place", api.Node{Right: 2, From: old.From, Count: old.Count})
		put("Right is below 0", api.Node{Right: math.MinInt, From: old.From, Count: old.Count})
		put("Left and Right are places", api.Node{Left: 3, Right: 4, From: old.From, Count: old.Count})
		put("no Count, and no children", leaf(0, 0))
		put("a From, no Count, and no children", leaf(old.From, 0))
		put("Count below 0", leaf(old.From, -old.Count))
		put("Count far below 0", leaf(old.From, math.MinInt))
	}
	return all
}

func innerBreaches() []breach {
	put := func(name string, node api.Node) breach {
		return breach{name, func(t *api.Tree) { node.Box, t.Nodes[2] = t.Nodes[2].Box, node }}
	}
	all := []breach{
		put("From is a place", api.Node{Left: 4, Right: 3, From: 1}),
		put("From is below 0", api.Node{Left: 4, Right: 3, From: -1}),
		put("Count is below 0", api.Node{Left: 4, Right: 3, Count: -1}),
		put("Count is far below 0", api.Node{Left: 4, Right: 3, Count: math.MinInt}),
		put("Count is above 0", api.Node{Left: 4, Right: 3, Count: 1}),
		put("From and Count are below 0", api.Node{Left: 4, Right: 3, From: -1, Count: -1}),
		put("the children are the first one of them", inner(3, 3)),
		put("the children are the second one of them", inner(4, 4)),
		put("the children are the node itself", inner(2, 2)),
		{"the first one's child is the first one", func(t *api.Tree) { t.Nodes[0].Left = 0 }},
		{"the first one has itself twice", func(t *api.Tree) { t.Nodes[0].Left, t.Nodes[0].Right = 0, 0 }},
	}
	for _, no := range []int{0, 1, 2, -1, -2, math.MinInt, 5, 6, math.MaxInt} {
		all = append(all, put("Left is wrong", inner(no, 3)), put("Right is wrong", inner(4, no)), put("the other child with a wrong Left", inner(no, 4)))
	}
	return all
}

// P11.1: each breach of clauses 1 and 2, whatever the boxes hold.
func TestCheckNamedBreaches(t *testing.T) {
	isChecked(t, hand(), five(), true)
	isChecked(t, wide(hand()), five(), true)
	for _, b := range slices.Concat(orderBreaches(), leafBreaches(), innerBreaches()) {
		isChecked(t, changed(wide(hand()), b.change), five(), false, b.name)
		isChecked(t, changed(hand(), b.change), five(), false, b.name, "small boxes")
	}
}

// P11.1: other lists than the one over which the tree stands: a shorter one, a longer one, none.
func TestCheckOtherLists(t *testing.T) {
	isChecked(t, wide(hand()), five()[:4], false)
	isChecked(t, wide(hand()), append(five(), api.Tri{}), false)
	isChecked(t, wide(hand()), nil, false)
	isChecked(t, wide(hand()), make([]api.Tri, 5), true)
	isChecked(t, hand(), make([]api.Tri, 5), false)
}

// P11.1: of no triangles there are no nodes, of others one at least.
func TestCheckNoNodes(t *testing.T) {
	none := api.Tree{Nodes: []api.Node{}, Order: []int{}}
	for _, l := range [][]api.Tri{nil, {}} {
		isChecked(t, api.Tree{}, l, true)
		isChecked(t, none, l, true)
		isChecked(t, api.Tree{Order: []int{0}}, l, false)
		for _, node := range []api.Node{{}, leaf(0, 1), leaf(0, -1), inner(0, 0), inner(1, 2)} {
			isChecked(t, api.Tree{Nodes: []api.Node{node}}, l, false)
			isChecked(t, api.Tree{Nodes: []api.Node{node, node, node}}, l, false)
		}
		isChecked(t, api.Tree{Nodes: []api.Node{inner(1, 2), leaf(0, 0), leaf(0, 0)}}, l, false)
	}
	isChecked(t, api.Tree{}, five(), false)
	isChecked(t, api.Tree{Order: []int{0, 1, 2, 3, 4}}, five(), false)
	isChecked(t, api.Tree{Order: []int{0}}, five()[:1], false)
	isChecked(t, wide(api.Tree{Order: []int{0}, Nodes: []api.Node{leaf(0, 1)}}), five()[:1], true)
	isChecked(t, wide(api.Tree{Order: []int{0}, Nodes: []api.Node{{}}}), five()[:1], false)
}

// P11.1: clause 3, of nodes and their parents: nobody's child, two nodes' child, and the first one.
func TestCheckParents(t *testing.T) {
	for _, c := range []struct {
		name   string
		isGood bool
		nodes  []api.Node
	}{
		{"each node has a parent", true, []api.Node{inner(1, 2), leaf(0, 2), inner(3, 4), leaf(2, 1), leaf(3, 2)}},
		{"the last leaf is nobody's child", false, []api.Node{inner(1, 2), leaf(0, 2), leaf(2, 2), leaf(4, 1)}},
		{"a leaf in the middle is nobody's child", false, []api.Node{inner(1, 3), leaf(0, 2), leaf(2, 2), leaf(4, 1)}},
		{"the second node is nobody's child", false, []api.Node{inner(2, 3), leaf(0, 2), leaf(2, 2), leaf(4, 1)}},
		{"an inner node is nobody's child", false, []api.Node{inner(1, 2), leaf(0, 2), leaf(2, 1), inner(4, 5), leaf(3, 1), leaf(4, 1)}},
		{"the last leaf is two nodes' child", false, []api.Node{inner(1, 3), inner(2, 3), leaf(0, 2), leaf(2, 3)}},
		{"a leaf is two nodes' child, by its Left and its Right", false, []api.Node{inner(1, 2), inner(3, 2), leaf(0, 2), leaf(2, 3)}},
		{"two leaves are two nodes' children", false, []api.Node{inner(1, 2), inner(3, 4), inner(3, 4), leaf(0, 2), leaf(2, 3)}},
		{"an inner node is two nodes' child", false, []api.Node{inner(1, 2), inner(2, 3), inner(4, 5), leaf(0, 2), leaf(2, 2), leaf(4, 1)}},
		{"one is nobody's child, another one two nodes' child", false, []api.Node{inner(1, 2), inner(2, 3), leaf(0, 2), leaf(2, 1), leaf(3, 2)}},
		{"the first one is a leaf with all, beside others", false, []api.Node{leaf(0, 5), leaf(0, 0)}},
		{"two leaves without a parent", false, []api.Node{leaf(0, 3), leaf(3, 2)}},
		{"the first one is a child of the last one", false, []api.Node{inner(1, 2), leaf(0, 2), inner(3, 0), leaf(2, 3)}},
		{"the first one is its own child", false, []api.Node{inner(0, 1), leaf(0, 5)}},
		{"nodes are one another's children", false, []api.Node{inner(1, 2), inner(2, 3), inner(1, 3), leaf(0, 5)}},
	} {
		isChecked(t, wide(api.Tree{Nodes: c.nodes, Order: []int{4, 2, 0, 1, 3}}), five(), c.isGood, c.name)
	}
}

// P11.1: clause 3, of places and leaves: a place in no leaf, in two.
func TestCheckPlaces(t *testing.T) {
	for _, c := range []struct {
		name   string
		isGood bool
		a, b   api.Node
	}{
		{"one behind the other", true, leaf(0, 2), leaf(2, 3)},
		{"the other way round", true, leaf(2, 3), leaf(0, 2)},
		{"one and four", true, leaf(4, 1), leaf(0, 4)},
		{"the last place is in none", false, leaf(0, 2), leaf(2, 2)},
		{"the first place is in none", false, leaf(1, 1), leaf(2, 3)},
		{"a place in the middle is in none", false, leaf(0, 2), leaf(3, 2)},
		{"a place in the middle is in two", false, leaf(0, 3), leaf(2, 3)},
		{"the last place is in two", false, leaf(0, 5), leaf(4, 1)},
		{"the first place is in two", false, leaf(0, 1), leaf(0, 5)},
		{"all places are in two", false, leaf(0, 5), leaf(0, 5)},
		{"one place is in none, another one in two", false, leaf(0, 2), leaf(1, 3)},
		{"as many as must be, but the same ones", false, leaf(0, 2), leaf(0, 3)},
	} {
		isChecked(t, wide(api.Tree{Nodes: []api.Node{inner(1, 2), c.a, c.b}, Order: []int{4, 2, 0, 1, 3}}), five(), c.isGood, c.name)
	}
}

// P11.1: clause 4: a box that just misses a corner, on each of its six sides, of a leaf and of nodes above it; greater ones hold.
func TestCheckBoxes(t *testing.T) {
	for place := range hand().Nodes {
		for side := range 6 {
			for _, by := range []*big.Rat{tiny(), big.NewRat(1, 1), big.NewRat(1000, 1)} {
				less, more := hand(), hand()
				number := sides(&less.Nodes[place].Box)[side]
				*number = inwards(*number, side, by)
				isChecked(t, less, five(), false, place, side)
				number = sides(&more.Nodes[place].Box)[side]
				*number = outwards(*number, side, by)
				isChecked(t, more, five(), true, place, side)
			}
		}
	}
}

// corners are the three places of a triangle's numbers, so that each can be moved.
func corners(x *api.Tri) []*api.Vec { return []*api.Vec{&x.A, &x.B, &x.C} }

// nodesOver answers the nodes for which the triangle is in a leaf that is them, or is below them.
func nodesOver(t api.Tree, number int) []int {
	var all []int
	for place := range t.Nodes {
		if slices.Contains(under(t, place), number) {
			all = append(all, place)
		}
	}
	return all
}

// P11.1: clause 4: each corner of each triangle is asked for, on each side, by each node above it.
func TestCheckEachCorner(t *testing.T) {
	for number := range five() {
		for corner := range 3 {
			for side := range 6 {
				l := five()
				p := corners(&l[number])[corner]
				moved := []*api.Rat{&p.X, &p.Y, &p.Z}[side%3]
				*moved = outwards(none(), side, big.NewRat(100, 1))
				x := snug(hand(), l)
				isChecked(t, x, l, true, number, corner, side)
				isChecked(t, hand(), l, false, number, corner, side)
				for _, place := range nodesOver(x, number) {
					small := copied(x)
					small.Nodes[place].Box = hand().Nodes[place].Box
					isChecked(t, small, l, false, number, corner, side, place)
				}
			}
		}
	}
}

// P11.1: a box that holds nothing, since its Lo is above its Hi, does not do, even if its numbers are the corners' own.
func TestCheckBoxesTurnedRound(t *testing.T) {
	for place := range hand().Nodes {
		x := hand()
		b := &x.Nodes[place].Box
		b.Lo, b.Hi = b.Hi, b.Lo
		isChecked(t, x, five(), false, place)
		x = hand()
		x.Nodes[place].Box = api.Box{}
		isChecked(t, x, five(), false, place)
	}
}

// P11.1: a node's box need not lie within the box of the node above it, nor hold that of the nodes below.
func TestCheckBoxesOfNodesBelowMayBeGreater(t *testing.T) {
	for place := range hand().Nodes {
		x := hand()
		x.Nodes[place].Box = boxWords("-1000 -1000 -1000", "1000 1000 1000")
		isChecked(t, x, five(), true, place)
	}
}

// P11.1: trees that Build would not build: lopsided ones, one leaf of all, leaves that stand ahead of lower places.
func TestCheckTreesOfOtherForms(t *testing.T) {
	for _, n := range []int{1, 2, 5, 100, api.MaxTree} {
		l := make([]api.Tri, n)
		isChecked(t, chain(n, true), l, true)
		isChecked(t, chain(n, false), l, true)
		one := wide(api.Tree{Nodes: []api.Node{leaf(0, n)}})
		for i := range n {
			one.Order = append(one.Order, (i+n/2)%n)
		}
		isChecked(t, one, l, true)
		one.Order[n/2] = n
		isChecked(t, one, l, false)
	}
}

// P11.1: more than 4096 triangles, or more than 8192 nodes, never fit.
func TestCheckTooMany(t *testing.T) {
	n := api.MaxTree + 1
	one := wide(api.Tree{Nodes: []api.Node{leaf(0, n)}})
	for i := range n {
		one.Order = append(one.Order, i)
	}
	isChecked(t, one, make([]api.Tri, n), false)
	isChecked(t, chain(n, true), make([]api.Tri, n), false)
	isChecked(t, chain(n, true), make([]api.Tri, n-1), false)
	isChecked(t, api.Tree{}, make([]api.Tri, n), false)
	for _, nodes := range []int{8191, 8192, 8193, 100000} {
		x := chain(api.MaxTree, true)
		isChecked(t, changed(x, func(t *api.Tree) { t.Nodes = append(t.Nodes, make([]api.Node, nodes)...)[:nodes] }), make([]api.Tri, api.MaxTree), nodes == 8191, nodes)
		isChecked(t, api.Tree{Nodes: make([]api.Node, nodes)}, nil, false, nodes)
		isChecked(t, wide(api.Tree{Nodes: slices.Repeat([]api.Node{leaf(0, api.MaxTree)}, nodes), Order: x.Order}), make([]api.Tri, api.MaxTree), false, nodes)
	}
}
