package trace

import (
	"math"
	"math/big"
	"math/rand/v2"
	"slices"
	"testing"

	"penumbra/api"
	"penumbra/bvh"
)

// breach is a change after which the tree of five triangles does not fit any more, for one clause alone.
type breach struct {
	name   string
	change func(t *api.Tree)
}

func orderBreaches() []breach {
	put := func(number int) func(t *api.Tree) { return func(t *api.Tree) { t.Order[3] = number } }
	add := func(numbers ...int) func(t *api.Tree) {
		return func(t *api.Tree) { t.Order = append(t.Order, numbers...) }
	}
	return []breach{
		{"too short", func(t *api.Tree) { t.Order = t.Order[:4] }},
		{"too short, as are the leaves", func(t *api.Tree) { t.Order, t.Nodes[4] = []int{0, 1, 2, 3}, leaf(3, 1) }},
		{"empty", func(t *api.Tree) { t.Order = []int{} }},
		{"nil", func(t *api.Tree) { t.Order = nil }},
		{"too long, by one more number", add(5)},
		{"too long, by a number that was", add(0)},
		{"too long, by one below 0", add(-1)},
		{"too long, as is a leaf", func(t *api.Tree) { t.Order, t.Nodes[4] = append(t.Order, 5), leaf(3, 3) }},
		{"much too long", add(make([]int, 100000)...)},
		{"the first number twice", put(3)},
		{"the last number twice", put(1)},
		{"below 0", put(-1)},
		{"far below 0", put(math.MinInt)},
		{"too great", put(5)},
		{"much too great", put(math.MaxInt)},
	}
}

func leafBreaches() []breach {
	var all []breach
	for _, at := range []int{1, 3, 4} {
		put := func(name string, node api.Node) {
			all = append(all, breach{name, func(t *api.Tree) { node.Box, t.Nodes[at] = t.Nodes[at].Box, node }})
		}
		old := hand().Nodes[at]
		put("From below 0", leaf(-1, old.Count))
		put("From below 0, but the end is right", leaf(-1, old.From+old.Count+1))
		put("From far below 0", leaf(math.MinInt, old.Count))
		put("From and Count end beyond the order", leaf(old.From, 6-old.From))
		put("From and Count end far beyond the order", leaf(old.From, 1000000))
		put("From is the order's end", leaf(5, old.Count))
		put("Count is so great that the sum is no int", leaf(old.From+1, math.MaxInt))
		put("Count is as great as may be", leaf(old.From, math.MaxInt))
		put("From is so great that the sum is no int", leaf(math.MaxInt, old.Count))
		put("both are as great as may be", leaf(math.MaxInt, math.MaxInt))
		put("Left is a place", api.Node{Left: 4, From: old.From, Count: old.Count})
		put("Left is below 0", api.Node{Left: -1, From: old.From, Count: old.Count})
		put("Right is a place", api.Node{Right: 2, From: old.From, Count: old.Count})
		put("Right is below 0", api.Node{Right: math.MinInt, From: old.From, Count: old.Count})
		put("Left and Right are places", api.Node{Left: 3, Right: 4, From: old.From, Count: old.Count})
		put("no Count, and no children", leaf(0, 0))
		put("a From, no Count, and no children", leaf(old.From, 0))
		put("Count below 0", leaf(old.From, -old.Count))
		put("Count far below 0", leaf(old.From, math.MinInt))
	}
	return all
}

func innerBreaches() []breach {
	put := func(name string, node api.Node) breach {
		return breach{name, func(t *api.Tree) { node.Box, t.Nodes[2] = t.Nodes[2].Box, node }}
	}
	all := []breach{
		put("From is a place", api.Node{Left: 4, Right: 3, From: 1}),
		put("From is below 0", api.Node{Left: 4, Right: 3, From: -1}),
		put("Count is below 0", api.Node{Left: 4, Right: 3, Count: -1}),
		put("Count is far below 0", api.Node{Left: 4, Right: 3, Count: math.MinInt}),
		put("Count is above 0", api.Node{Left: 4, Right: 3, Count: 1}),
		put("From and Count are below 0", api.Node{Left: 4, Right: 3, From: -1, Count: -1}),
		put("the children are the first one of them", inner(3, 3)),
		put("the children are the second one of them", inner(4, 4)),
		put("the children are the node itself", inner(2, 2)),
		{"the first one's child is the first one", func(t *api.Tree) { t.Nodes[0].Left = 0 }},
		{"the first one has itself twice", func(t *api.Tree) { t.Nodes[0].Left, t.Nodes[0].Right = 0, 0 }},
	}
	for _, no := range []int{0, 1, 2, -1, -2, math.MinInt, 5, 6, math.MaxInt} {
		all = append(all, put("Left is wrong", inner(no, 3)), put("Right is wrong", inner(4, no)), put("the other child with a wrong Left", inner(no, 4)))
	}
	return all
}

// loops are trees that lead round in a circle, have children that are none, numbers as great as may be.
func loops() []api.Tree {
	great := api.Node{Left: math.MaxInt, Right: math.MaxInt, From: math.MaxInt, Count: math.MaxInt}
	least := api.Node{Left: math.MinInt, Right: math.MinInt, From: math.MinInt, Count: math.MinInt}
	order := []int{0, 1, 2, 3, 4}
	return []api.Tree{
		{Nodes: []api.Node{inner(0, 0)}, Order: order},
		{Nodes: []api.Node{inner(1, 2), inner(2, 0), inner(0, 1)}, Order: order},
		{Nodes: []api.Node{inner(1, 1), inner(0, 0)}, Order: order},
		{Nodes: []api.Node{inner(1, 2), inner(1, 2), inner(1, 2)}, Order: order},
		{Nodes: []api.Node{inner(-1, -2), leaf(-3, -4)}, Order: order},
		{Nodes: []api.Node{great, great, great}, Order: order},
		{Nodes: []api.Node{least, least, least}, Order: order},
		{Nodes: []api.Node{inner(1, 2), great, least}, Order: []int{math.MaxInt, math.MinInt, -1, 5, 0}},
		{Nodes: []api.Node{leaf(0, 5)}, Order: []int{math.MaxInt, math.MinInt, -1, 5, 0}},
		{Nodes: []api.Node{{Left: 1, Right: 2, From: 0, Count: 5}, {Left: 0, Right: 1, From: 3, Count: math.MaxInt - 1}, leaf(math.MaxInt-1, 5)}, Order: order},
		{Order: []int{-1}}, {Order: make([]int, 7)}, {Nodes: make([]api.Node, 9)},
	}
}

// change puts any number to any place of the tree, or moves a side of a box.
func change(r *rand.Rand, x *api.Tree) {
	numbers := []int{r.IntN(9), r.IntN(9), r.IntN(9), -1, len(x.Nodes), len(x.Order), math.MinInt, math.MaxInt, math.MaxInt - 1}
	number := numbers[r.IntN(len(numbers))]
	node := &x.Nodes[r.IntN(len(x.Nodes))]
	switch r.IntN(8) {
	case 0:
		node.Left = number
	case 1:
		node.Right = number
	case 2:
		node.From = number
	case 3:
		node.Count = number
	case 4:
		x.Order[r.IntN(len(x.Order))] = number
	case 5:
		side := r.IntN(6)
		place := sides(&node.Box)[side]
		*place = inwards(*place, side, tiny())
	case 6:
		node.Left, node.Right = node.Right, node.Left
	default:
		i, j := r.IntN(len(x.Order)), r.IntN(len(x.Order))
		x.Order[i], x.Order[j] = x.Order[j], x.Order[i]
	}
}

// ray is where a ray begins, and its direction.
type ray struct{ o, d api.Vec }

// isSound asks of a tree what is promised of those that don't fit: the calls end, and what Nearest tells with true is one that the ray meets so.
func isSound(t *testing.T, x api.Tree, l []api.Tri, o, d api.Vec, what ...any) bool {
	t.Helper()
	number, meet, ok := Nearest(x, l, o, d)
	want, isMet := api.Meet{S: none(), U: none(), V: none()}, false
	if ok && number >= 0 && number < len(l) {
		at, isThere := met(valuesOf(o), valuesOf(d), l[number])
		want, isMet = meetOf(at), isThere
	}
	if ok != isMet || !ok && number != -1 || !equal(meet.S, want.S) || !equal(meet.U, want.U) || !equal(meet.V, want.V) {
		t.Errorf("%v: from %v along %v: %d, %v, %v, want %v, %v, by %v over %v", what, o, d, number, meet, ok, want, isMet, x, l)
	}
	there := Blocked(x, l, o, d)
	// Only one that stands between can block, also in a tree that does not fit.
	if there && !isBetween(l, o, d) {
		t.Errorf("%v: nothing stands between %v and %v", what, o, d)
	}
	return ok
}

// someRays go to each of the triangles, and elsewhere.
func someRays(r *rand.Rand, l []api.Tri) []ray {
	all := []ray{{}, {words("1 2 3"), api.Vec{}}, {anyPoint(r), anyPoint(r)}, {latticePoint(r, -1, 4), latticeDirections()[r.IntN(27)]}}
	for _, x := range l[:min(len(l), 6)] {
		o, d := towards(r, x)
		all = append(all, ray{o, d})
	}
	return all
}

// allSound answers how many of some rays meet something.
func allSound(t *testing.T, r *rand.Rand, x api.Tree, l []api.Tri, what ...any) int {
	t.Helper()
	hits := 0
	for _, y := range someRays(r, l) {
		if isSound(t, x, l, y.o, y.d, what) {
			hits++
		}
	}
	return hits
}

// Each breach of what chapter 11 says of a tree's order, leaves and inner nodes, whatever the boxes hold.
func TestNamedBreaches(t *testing.T) {
	r := source(41)
	for _, b := range slices.Concat(orderBreaches(), leafBreaches(), innerBreaches()) {
		for _, x := range []api.Tree{changed(hand(), b.change), changed(wide(hand()), b.change)} {
			if bvh.Check(x, five()) {
				t.Fatalf("%s: fits", b.name)
			}
			allSound(t, r, x, five(), b.name)
		}
	}
}

// Boxes that are too small, turned round, or flat at 0; then a triangle may be missed, but no other one is told.
func TestBoxBreaches(t *testing.T) {
	r := source(42)
	for place := range hand().Nodes {
		for side := range 6 {
			for _, by := range []*big.Rat{tiny(), big.NewRat(1, 1), big.NewRat(1000, 1)} {
				x := hand()
				number := sides(&x.Nodes[place].Box)[side]
				*number = inwards(*number, side, by)
				allSound(t, r, x, five(), place, side)
			}
		}
		x := hand()
		x.Nodes[place].Lo, x.Nodes[place].Hi = x.Nodes[place].Hi, x.Nodes[place].Lo
		allSound(t, r, x, five(), place)
		x.Nodes[place].Box = api.Box{}
		allSound(t, r, x, five(), place)
	}
}

// Circles, nodes that are nobody's child or two nodes' one, numbers as great as may be, an order of triangles that are not there.
func TestLoops(t *testing.T) {
	r := source(43)
	for i, x := range loops() {
		for n := range 6 {
			allSound(t, r, x, five()[:n], i)
			allSound(t, r, wide(x), five()[:n], i)
		}
	}
}

// All trees of up to three nodes with numbers that are there, or just not, over two triangles and an order of all sorts.
func TestAllSmallTrees(t *testing.T) {
	l := []api.Tri{triWords("0 0 1", "2 0 1", "0 2 1"), triWords("0 0 2", "2 0 2", "0 2 2")}
	forms := []api.Node{
		{}, leaf(0, 1), leaf(1, 1), leaf(0, 2), leaf(2, 1), leaf(-1, 1), leaf(-1, 3), leaf(1, 0), leaf(1, -1), leaf(0, 3), inner(1, 2), inner(2, 1), inner(0, 1), inner(2, 0),
		inner(1, 1), inner(2, 3), inner(-1, 3), {Left: 1, Right: 2, Count: 1}, {Left: 1, Right: 2, From: 1}, {Left: 2, From: 1, Count: 1}, {Left: 1, Right: 2, Count: -1},
	}
	box, o, d, hits := boxWords("-1 -1 0", "9 9 9"), words("1/2 1/2 0"), words("0 0 1"), 0
	for _, order := range [][]int{{1, 0}, {0, -1}, {1}} {
		for _, first := range forms {
			for _, second := range forms {
				for _, third := range forms {
					x := api.Tree{Nodes: []api.Node{first, second, third}, Order: order}
					for place := range x.Nodes {
						x.Nodes[place].Box = box
					}
					if isSound(t, x, l, o, d) {
						hits++
					}
				}
			}
		}
	}
	if hits < 1000 {
		t.Errorf("only %d hits", hits)
	}
}

// Trees that fit, after one change or some.
func TestChangedTrees(t *testing.T) {
	r, hits := source(44), 0
	for i := range 500 {
		l := latticeTris(r, 1+i%9)
		x := someTree(r, l)
		if i%3 == 0 {
			x = wide(x)
		}
		for range 1 + r.IntN(3) {
			change(r, &x)
		}
		hits += allSound(t, r, x, l, i)
	}
	if hits < 300 {
		t.Errorf("only %d hits", hits)
	}
}

// Trees over other lists: a shorter one, a longer one, others, none.
func TestTreesOverOtherLists(t *testing.T) {
	r := source(45)
	for i := range 60 {
		l, other := latticeTris(r, 1+i%9), latticeTris(r, 1+i%7)
		for _, x := range []api.Tree{someTree(r, l), wide(someTree(r, l))} {
			allSound(t, r, x, l[:len(l)/2], i)
			allSound(t, r, x, append(slices.Clone(l), other...), i)
			allSound(t, r, x, other, i)
			allSound(t, r, x, nil, i)
		}
		allSound(t, r, api.Tree{}, l, i)
		allSound(t, r, api.Tree{Order: []int{0, -1, 7}}, l, i)
		allSound(t, r, api.Tree{Nodes: make([]api.Node, 9)}, l, i)
	}
}

// Trees in which ever more ways lead to the same nodes: nobody may go them all.
func TestTreesOfVeryManyWays(t *testing.T) {
	l := five()
	for _, n := range []int{40, 5000} {
		for _, step := range [][2]int{{1, 2}, {1, 1}, {2, 1}, {0, 1}, {1, 0}, {-1, 1}, {0, 0}} {
			x := api.Tree{Nodes: make([]api.Node, n), Order: []int{0, 1, 2, 3, 4}}
			for place := range x.Nodes {
				x.Nodes[place] = inner(place+step[0], place+step[1])
				x.Nodes[place].Box = boxWords("-9 -9 -9", "9 9 9")
			}
			isSound(t, x, l, words("1/3 1/3 2"), words("0 0 -1"), n, step)
			x.Nodes[n-1] = leaf(0, 5)
			x.Nodes[n-1].Box = x.Nodes[0].Box
			isSound(t, x, l, words("1/3 1/3 2"), words("0 0 -1"), n, step)
		}
	}
}

// Trees of very many leaves of which each has all of a long order.
func TestTreesOfVeryManyLeaves(t *testing.T) {
	l := append(five(), make([]api.Tri, 4000)...)
	x := api.Tree{Nodes: make([]api.Node, 8191), Order: source(46).Perm(len(l))}
	for place := range x.Nodes {
		x.Nodes[place] = leaf(0, len(l))
		if place < 4095 {
			x.Nodes[place] = inner(2*place+1, 2*place+2)
		}
		x.Nodes[place].Box = boxWords("-9 -9 -9", "9 9 9")
	}
	isSound(t, x, l, words("1/3 1/3 2"), words("0 0 -1"))
	isSound(t, x, l, words("1/3 1/3 2"), words("0 0 1"))
	x.Order = slices.Repeat([]int{4711, -1, math.MaxInt, math.MinInt}, 1<<16)
	isSound(t, x, l, words("1/3 1/3 2"), words("0 0 -1"))
}
