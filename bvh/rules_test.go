package bvh

import (
	"math"
	"reflect"
	"slices"
	"testing"

	"penumbra/api"
)

// takes is what a call is given.
type takes struct {
	tree api.Tree
	l    []api.Tri
}

// told is a true or a false as a number.
func told(is bool) int {
	if is {
		return 1
	}
	return 0
}

// calls are all the calls of the package, each as one that answers trees; what is a number stands in an Order.
func calls() map[string]func(g takes) []api.Tree {
	return map[string]func(g takes) []api.Tree{
		"Build": func(g takes) []api.Tree {
			whole, e := Build(g.l)
			half, f := Build(g.l[len(g.l)/2:])
			return []api.Tree{whole, half, {Order: []int{int(e), int(f)}}}
		},
		"Check": func(g takes) []api.Tree {
			built, _ := Build(g.l)
			return []api.Tree{{Order: []int{told(Check(g.tree, g.l)), told(Check(built, g.l)), told(Check(g.tree, nil)), told(Check(api.Tree{}, g.l)), told(Check(g.tree, g.l[len(g.l)/2:]))}}}
		},
		"Depth": func(g takes) []api.Tree {
			return []api.Tree{{Order: []int{Depth(g.tree), Depth(api.Tree{Nodes: g.tree.Nodes}), Depth(api.Tree{Nodes: g.tree.Nodes[len(g.tree.Nodes)/2:]})}}}
		},
	}
}

// loops are trees that lead round in a circle, have children that are none, numbers as great as may be.
func loops() []api.Tree {
	great := api.Node{Left: math.MaxInt, Right: math.MaxInt, From: math.MaxInt, Count: math.MaxInt}
	least := api.Node{Left: math.MinInt, Right: math.MinInt, From: math.MinInt, Count: math.MinInt}
	order := []int{0, 1, 2, 3, 4}
	return []api.Tree{
		{Nodes: []api.Node{inner(0, 0)}, Order: order},
		{Nodes: []api.Node{inner(1, 2), inner(2, 0), inner(0, 1)}, Order: order},
		{Nodes: []api.Node{inner(1, 1), inner(0, 0)}, Order: order},
		{Nodes: []api.Node{inner(1, 2), inner(1, 2), inner(1, 2)}, Order: order},
		{Nodes: []api.Node{inner(-1, -2), leaf(-3, -4)}, Order: order},
		{Nodes: []api.Node{great, great, great}, Order: order},
		{Nodes: []api.Node{least, least, least}, Order: order},
		{Nodes: []api.Node{inner(1, 2), great, least}, Order: []int{math.MaxInt, math.MinInt, -1, 5, 0}},
		{Nodes: []api.Node{leaf(0, 5)}, Order: []int{math.MaxInt, math.MinInt, -1, 5, 0}},
		{Nodes: []api.Node{{Left: 1, Right: 2, From: 0, Count: 5}, {Left: 0, Right: 1, From: 3, Count: math.MaxInt - 1}, leaf(math.MaxInt-1, 5)}, Order: order},
		{Order: []int{-1}}, {Order: make([]int, 7)}, {Nodes: make([]api.Node, 9)},
	}
}

// given are arguments for which calls take each of their ways; in the last ones Vecs and lists are shared.
func given() []takes {
	r := source(61)
	all := []takes{{}, {l: five()}, {tree: hand()}, {api.Tree{Nodes: []api.Node{}, Order: []int{}}, []api.Tri{}}}
	for _, b := range slices.Concat(orderBreaches()[:8], leafBreaches(), innerBreaches()) {
		all = append(all, takes{changed(hand(), b.change), five()})
	}
	for _, x := range loops() {
		all = append(all, takes{x, five()}, takes{wide(x), five()[:len(x.Nodes)%5]})
	}
	for i := range 60 {
		l := anyTris(r, i%23)
		x := someTree(r, l)
		all = append(all, takes{x, l})
		if len(l) > 0 {
			x = copied(x)
			change(r, &x)
			all = append(all, takes{x, l})
		}
	}
	for n := range 14 {
		for _, l := range kindsOfLists(n) {
			x, _ := Build(l)
			all = append(all, takes{x, l})
		}
	}
	limbs := list(7, 8, 9, 0)
	shared := api.Vec{X: above(limbs, limbs[1:]), Y: above(limbs[:2], limbs), Z: below(limbs, limbs)}
	same := api.Tri{A: shared, B: shared, C: api.Vec{X: shared.Z, Y: shared.X, Z: shared.X}}
	for n := range 12 {
		l := slices.Repeat([]api.Tri{same}, n)
		x := someTree(r, l)
		for place := range x.Nodes {
			x.Nodes[place].Hi = shared
		}
		all = append(all, takes{x, l})
	}
	return all
}

// laidList answers a list inside a greater one, so that what is written beyond its ends is seen, and that one.
func laidList[T any](l []T, guard T) ([]T, []T) {
	whole := slices.Concat([]T{guard, guard}, l, []T{guard, guard, guard})
	return whole[2 : 2+len(l)], whole
}

// memory is all the lists that something reaches.
type memory struct {
	limbs  [][]uint32
	orders [][]int
	nodes  [][]api.Node
	tris   [][]api.Tri
}

// laid answers what is given with all lists inside greater ones.
func (g takes) laid() (takes, memory) {
	var m memory
	number := func(r *api.Rat) {
		num, wholeNum := laidList(r.Num, 77)
		den, wholeDen := laidList(r.Den, 78)
		*r = api.Rat{Neg: r.Neg, Num: num, Den: den}
		m.limbs = append(m.limbs, wholeNum, wholeDen)
	}
	nodes, wholeNodes := laidList(g.tree.Nodes, leaf(4711, 4712))
	order, wholeOrder := laidList(g.tree.Order, 4713)
	l, wholeTris := laidList(g.l, triWords("1 2 3", "4 5 6", "7 8 9"))
	for place := range nodes {
		for _, r := range sides(&nodes[place].Box) {
			number(r)
		}
	}
	for i := range l {
		for _, p := range corners(&l[i]) {
			for _, r := range []*api.Rat{&p.X, &p.Y, &p.Z} {
				number(r)
			}
		}
	}
	m.orders, m.nodes, m.tris = [][]int{wholeOrder}, [][]api.Node{wholeNodes}, [][]api.Tri{wholeTris}
	return takes{api.Tree{Nodes: nodes, Order: order}, l}, m
}

// copied answers the memory as it is now.
func (m memory) copied() memory {
	return memory{clones(m.limbs), clones(m.orders), clones(m.nodes), clones(m.tris)}
}

func clones[T any](lists [][]T) [][]T {
	out := make([][]T, len(lists))
	for i, l := range lists {
		out[i] = slices.Clone(l)
	}
	return out
}

// memoryOf are the lists of trees, up to their capacities.
func memoryOf(trees []api.Tree) memory {
	var m memory
	for _, x := range trees {
		for place := range x.Nodes {
			for _, r := range sides(&x.Nodes[place].Box) {
				m.limbs = append(m.limbs, r.Num[:cap(r.Num)], r.Den[:cap(r.Den)])
			}
		}
		m.orders, m.nodes = append(m.orders, x.Order[:cap(x.Order)]), append(m.nodes, x.Nodes[:cap(x.Nodes)])
	}
	return m
}

// fill writes a number of its own to each list, so that lists that share memory are seen.
func (m memory) fill(first int) {
	for i, l := range m.limbs {
		for j := range l {
			l[j] = uint32(first + i)
		}
	}
	for i, l := range m.orders {
		for j := range l {
			l[j] = first + i
		}
	}
	for i, l := range m.nodes {
		for j := range l {
			l[j] = leaf(first+i, j)
		}
	}
	for _, l := range m.tris {
		clear(l)
	}
}

// isSame holds all lists against those that are wanted, limb by limb; a nil one is an empty one.
func (m memory) isSame(t *testing.T, want memory, what ...any) {
	t.Helper()
	isSameVec := func(a, b api.Vec) bool { return equal(a.X, b.X) && equal(a.Y, b.Y) && equal(a.Z, b.Z) }
	isSameNode := func(a, b api.Node) bool {
		return a.Left == b.Left && a.Right == b.Right && a.From == b.From && a.Count == b.Count && isSameVec(a.Lo, b.Lo) && isSameVec(a.Hi, b.Hi)
	}
	isSameTri := func(a, b api.Tri) bool { return isSameVec(a.A, b.A) && isSameVec(a.B, b.B) && isSameVec(a.C, b.C) }
	nodes := slices.EqualFunc(m.nodes, want.nodes, func(a, b []api.Node) bool { return slices.EqualFunc(a, b, isSameNode) })
	tris := slices.EqualFunc(m.tris, want.tris, func(a, b []api.Tri) bool { return slices.EqualFunc(a, b, isSameTri) })
	limbs := slices.EqualFunc(m.limbs, want.limbs, slices.Equal[[]uint32])
	if orders := slices.EqualFunc(m.orders, want.orders, slices.Equal[[]int]); !nodes || !tris || !limbs || !orders {
		t.Errorf("%v: nodes %v, triangles %v, limbs %v, orders %v", what, nodes, tris, limbs, orders)
	}
}

// R4: an argument is not changed, neither is what stands beside its lists.
func TestArgumentsAreNotChanged(t *testing.T) {
	for name, call := range calls() {
		for i, g := range given() {
			h, m := g.laid()
			kept := m.copied()
			call(h)
			m.isSame(t, kept, name, i)
		}
	}
}

// R4: a list that is handed over as it is keeps its triangles, nodes and numbers, with their signs and lists.
func TestListsHandedOverAreNotChanged(t *testing.T) {
	for name, call := range calls() {
		for i, g := range given() {
			l, kept := slices.Clone(g.l), copied(g.tree)
			call(g)
			if !reflect.DeepEqual(g.l, l) || !reflect.DeepEqual(g.tree, kept) {
				t.Errorf("%s, %d", name, i)
			}
			for j, x := range g.l {
				if len(x.A.X.Num) > 0 && &x.A.X.Num[0] != &l[j].A.X.Num[0] {
					t.Errorf("%s, %d: another list at %d", name, i, j)
				}
			}
		}
	}
}

// R4: what is written to a list of an answer, up to its capacity, is not seen in an argument, in its other lists or in another answer, nor the other way round.
func TestAnswersShareNoMemory(t *testing.T) {
	for i, g := range given() {
		h, arguments := g.laid()
		kept := arguments.copied()
		first, _ := Build(h.l)
		second, _ := Build(h.l)
		answers := memoryOf([]api.Tree{first, second})
		answers.fill(4711)
		written := answers.copied()
		arguments.isSame(t, kept, i)
		arguments.fill(99)
		answers.isSame(t, written, i)
		for j, l := range written.limbs {
			if !slices.Equal(l, run(len(l), uint32(4711+j))) {
				t.Errorf("%d: list %d is %v", i, j, l)
			}
		}
		for j, l := range written.orders {
			if !slices.Equal(l, slices.Repeat([]int{4711 + j}, len(l))) {
				t.Errorf("%d: order %d is %v", i, j, l)
			}
		}
	}
}

// R3: nothing is kept, so a call answers the same again, also if the first answer was written to.
func TestCallsAnswerTheSameAgain(t *testing.T) {
	for name, call := range calls() {
		for i, g := range given() {
			first, second := call(g), call(g)
			memoryOf(first).fill(4711)
			if got := call(g); !reflect.DeepEqual(got, second) {
				t.Errorf("%s, %d: got %v, want %v", name, i, got, second)
			}
		}
	}
}

// R2: all numbers that are answered are canonical; with an error, and of no triangles, the tree is Go's zero value.
func TestAnswersAreCanonical(t *testing.T) {
	for i, g := range given() {
		x, e := Build(g.l)
		for place, node := range x.Nodes {
			for side, number := range sides(&node.Box) {
				isNumber(t, *number, ratOf(valueOf(*number)), i, place, side)
			}
		}
		if e != api.OK || len(g.l) == 0 && !reflect.DeepEqual(x, api.Tree{}) {
			t.Errorf("%d: %v, %d", i, x, e)
		}
	}
}

// Answers hang on the numbers alone, not on how they are written; also R5: an empty list is a nil one.
func TestWritingsAreOfNoMoment(t *testing.T) {
	r := source(62)
	for name, call := range calls() {
		for i, g := range given() {
			if i%5 > 0 {
				continue
			}
			h := takes{copied(g.tree), slices.Clone(g.l)}
			for place := range h.tree.Nodes {
				b := &h.tree.Nodes[place].Box
				*b = boxWritings(*b)[r.IntN(40)]
			}
			for j, x := range h.l {
				all := triWritings(x)
				h.l[j] = all[r.IntN(len(all))]
			}
			if len(h.l) == 0 {
				h.l = []api.Tri{}
			}
			h.tree.Nodes, h.tree.Order = append([]api.Node{}, h.tree.Nodes...), append([]int{}, h.tree.Order...)
			if got, want := call(h), call(g); !reflect.DeepEqual(got, want) {
				t.Errorf("%s, %d: got %v, want %v", name, i, got, want)
			}
		}
	}
}

// P1: the calls end at long arguments, also at those that are long for limbs 0 alone.
func TestLongArguments(t *testing.T) {
	ones, nothing := run(40, top), run(1<<14, 0)
	long := []api.Rat{above(ones, ones[:17]), below(ones[:27], ones), above(nothing, ones), below(ones, nothing), above(nothing, nothing), {Num: append(run(60, top), nothing...), Den: append(run(60, top), nothing...)}}
	longVec := func(i int) api.Vec { return api.Vec{X: long[i%6], Y: long[(i+1)%6], Z: long[(i+2)%6]} }
	var l []api.Tri
	for i := range 30 {
		l = append(l, api.Tri{A: longVec(i), B: longVec(i + 3), C: longVec(5*i + 1)})
	}
	x := isBuilt(t, l, "long")
	for place := range x.Nodes {
		b := &x.Nodes[place].Box
		*b = looseBox(*b)
	}
	isChecked(t, x, l, true)
	x.Nodes[0].Lo.X = long[5]
	isChecked(t, x, l, false)
	for _, call := range calls() {
		call(takes{x, l})
	}
	for _, y := range loops() {
		long := api.Tree{Nodes: slices.Repeat(y.Nodes, 3000), Order: slices.Repeat(y.Order, 3000)}
		for _, call := range calls() {
			call(takes{long, l})
			call(takes{long, make([]api.Tri, api.MaxTree)})
			call(takes{y, make([]api.Tri, api.MaxTree+1)})
		}
	}
}
