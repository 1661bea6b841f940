package bvh

import (
	"math"
	"math/rand/v2"
	"slices"
	"testing"

	"penumbra/api"
	"penumbra/vec"
)

// isAsTheWords holds Check against the other reckoner, and answers what that one said.
func isAsTheWords(t *testing.T, x api.Tree, l []api.Tri) bool {
	t.Helper()
	want := fits(x, l)
	isChecked(t, x, l, want)
	return want
}

// P11.1: trees of any form that fit, with greater boxes, and numbers that are written otherwise.
func TestCheckSomeTrees(t *testing.T) {
	r := source(51)
	for i := range 120 {
		l := anyTris(r, i%40)
		x := someTree(r, l)
		isChecked(t, x, l, true)
		if !isAsTheWords(t, x, l) {
			t.Fatalf("does not fit: %v", x)
		}
		for j, y := range l {
			l[j] = triWritings(y)[r.IntN(16)]
		}
		isChecked(t, x, l, true)
	}
}

// change puts any number to any place of the tree, or moves a side of a box.
func change(r *rand.Rand, x *api.Tree) {
	numbers := []int{r.IntN(9), r.IntN(9), r.IntN(9), -1, len(x.Nodes), len(x.Order), math.MinInt, math.MaxInt, math.MaxInt - 1}
	number := numbers[r.IntN(len(numbers))]
	node := &x.Nodes[r.IntN(len(x.Nodes))]
	switch r.IntN(8) {
	case 0:
		node.Left = number
	case 1:
		node.Right = number
	case 2:
		node.From = number
	case 3:
		node.Count = number
	case 4:
		x.Order[r.IntN(len(x.Order))] = number
	case 5:
		side := r.IntN(6)
		place := sides(&node.Box)[side]
		*place = inwards(*place, side, tiny())
	case 6:
		node.Left, node.Right = node.Right, node.Left
	default:
		i, j := r.IntN(len(x.Order)), r.IntN(len(x.Order))
		x.Order[i], x.Order[j] = x.Order[j], x.Order[i]
	}
}

// P11.1: trees that fit, after one change and after some, of which many do not fit any more.
func TestCheckChangedTrees(t *testing.T) {
	r, counts := source(52), [2]int{}
	for i := range 3600 {
		l := anyTris(r, 1+i%7)
		x := someTree(r, l)
		if i%3 == 0 {
			x = wide(x)
		}
		for range 1 + r.IntN(3) {
			change(r, &x)
		}
		if isAsTheWords(t, x, l) {
			counts[1]++
		} else {
			counts[0]++
		}
		Depth(x)
	}
	if counts[0] < 1000 || counts[1] < 300 {
		t.Errorf("too few of each: %v", counts)
	}
}

// forms are nodes of which trees over two triangles can be put together, and nodes near to these.
func forms() []api.Node {
	return []api.Node{
		{}, leaf(0, 1), leaf(1, 1), leaf(0, 2), leaf(2, 1), leaf(-1, 1), leaf(1, 0), leaf(1, -1), inner(1, 2), inner(2, 1), inner(0, 1), inner(2, 0), inner(1, 1), inner(2, 3),
		{Left: 1, Right: 2, Count: 1}, {Left: 1, Right: 2, From: 1}, {Left: 2, From: 1, Count: 1}, {Left: 1, Right: 2, Count: -1},
	}
}

// P11.1: all trees of up to three such nodes over two triangles, of which just a few fit.
func TestCheckAllSmallTrees(t *testing.T) {
	l, count := five()[:2], 0
	for _, order := range [][]int{{0, 1}, {1, 0}} {
		for _, first := range forms() {
			x := wide(api.Tree{Nodes: []api.Node{first}, Order: order})
			if isAsTheWords(t, x, l) {
				count++
			}
			for _, second := range forms() {
				isAsTheWords(t, wide(api.Tree{Nodes: []api.Node{first, second}, Order: order}), l)
				for _, third := range forms() {
					if isAsTheWords(t, wide(api.Tree{Nodes: []api.Node{first, second, third}, Order: order}), l) {
						count++
					}
				}
			}
		}
	}
	// One leaf of both; two leaves under one node, the first child ahead or behind, with the first place or the second one.
	if want := 2 * (1 + 4); count != want {
		t.Errorf("%d fit, want %d", count, want)
	}
}

// P11.2: what Build built does not fit any more, if a triangle is moved out of all boxes.
func TestCheckOfBuiltTreesAfterMoves(t *testing.T) {
	r := source(53)
	for i := range 200 {
		l := anyTris(r, 1+i%30)
		x := isBuilt(t, l, i)
		number := r.IntN(len(l))
		y := l[number]
		far := vec.Scale(above(list(0, 0, 0, 0, 0, 0, 0, 1), list(1)), vec.Of(1-2*r.IntN(2), r.IntN(3)-1, r.IntN(3)-1))
		p := corners(&l[number])[r.IntN(3)]
		*p = vec.Sum(*p, far)
		isChecked(t, x, l, false)
		l[number] = api.Tri{A: y.C, B: y.A, C: y.B}
		isChecked(t, x, l, true)
		l[number] = api.Tri{A: y.B, B: y.B, C: y.B}
		isChecked(t, x, l, true)
	}
}

// P11.1 and P11.2: in any order triangles have a tree; that of the one order, its Order renumbered, fits the other one.
func TestTreesOfTrianglesInAnotherOrder(t *testing.T) {
	r := source(54)
	for i := range 50 {
		l := anyTris(r, 1+i)
		x, moved, places := isBuilt(t, l, i), make([]api.Tri, len(l)), r.Perm(len(l))
		for number, place := range places {
			moved[place] = l[number]
		}
		isBuilt(t, moved, i)
		isChecked(t, changed(x, func(t *api.Tree) {
			for j, number := range t.Order {
				t.Order[j] = places[number]
			}
		}), moved, true)
	}
}

// P11.1: a tree over triangles fits one more, if a new first node has it beside the old one.
func TestTreesPutTogether(t *testing.T) {
	r := source(55)
	for i := range 100 {
		l := anyTris(r, 1+i%20)
		x, _ := Build(l)
		more := append(slices.Clone(l), anyTris(r, 1)...)
		grown := api.Tree{Nodes: []api.Node{inner(1, 2), leaf(len(l), 1)}, Order: append(slices.Clone(x.Order), len(l))}
		for _, node := range x.Nodes {
			if node.Count == 0 {
				node.Left, node.Right = node.Left+2, node.Right+2
			}
			grown.Nodes = append(grown.Nodes, node)
		}
		grown = snug(grown, more)
		isChecked(t, grown, more, true)
		isDeep(t, grown, 1+depthOf(x, 0))
		isChecked(t, grown, l, false)
		isChecked(t, x, more, false)
	}
}
