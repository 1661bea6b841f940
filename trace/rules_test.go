package trace

import (
	"reflect"
	"slices"
	"testing"

	"penumbra/api"
	"penumbra/bvh"
)

// takes is what a call is given.
type takes struct {
	tree api.Tree
	l    []api.Tri
	o, d api.Vec
}

// answer is what a call tells; what it does not tell stays Go's zero value.
type answer struct {
	number int
	meet   api.Meet
	ok     bool
}

// calls are all the calls of the package.
func calls() map[string]func(g takes) answer {
	return map[string]func(g takes) answer{
		"Nearest": func(g takes) answer {
			number, meet, ok := Nearest(g.tree, g.l, g.o, g.d)
			return answer{number, meet, ok}
		},
		"Blocked": func(g takes) answer { return answer{ok: Blocked(g.tree, g.l, g.o, g.d)} },
	}
}

// given are arguments for which calls take each of their ways; in the last ones Vecs and lists are shared.
func given() []takes {
	r := source(61)
	all := []takes{{}, {l: five()}, {tree: hand()}, {tree: api.Tree{Nodes: []api.Node{}, Order: []int{}}, l: []api.Tri{}}}
	add := func(x api.Tree, l []api.Tri) {
		for i, y := range someRays(r, l) {
			if i > 1 && i < 6 {
				all = append(all, takes{x, l, y.o, y.d})
			}
		}
	}
	for _, b := range slices.Concat(orderBreaches()[:8], leafBreaches(), innerBreaches()) {
		add(changed(hand(), b.change), five())
	}
	for _, x := range loops() {
		add(x, five())
		add(wide(x), five()[:len(x.Nodes)%5])
	}
	for i := range 40 {
		l := anyTris(r, 1+i%11)
		x := someTree(r, l)
		add(x, l)
		x = copied(x)
		change(r, &x)
		add(x, l)
	}
	for n := range 8 {
		l := append(latticeTris(r, n), five()...)
		built, _ := bvh.Build(l)
		add(built, l)
	}
	limbs := list(7, 8, 9, 0)
	shared := api.Vec{X: above(limbs, limbs[1:]), Y: above(limbs[:2], limbs), Z: below(limbs, limbs)}
	same := api.Tri{A: shared, B: api.Vec{X: shared.Y, Y: shared.Z, Z: shared.X}, C: api.Vec{X: shared.Z, Y: shared.X, Z: shared.Y}}
	for n := range 6 {
		l := slices.Repeat([]api.Tri{same}, 1+n)
		x := greater(someTree(r, l))
		x.Nodes[0].Hi = api.Vec{X: shared.X, Y: shared.X, Z: shared.X}
		all = append(all, takes{x, l, shared, shared}, takes{x, l, api.Vec{}, shared}, takes{x, l, same.B, shared}, takes{x, l, shared, same.C})
	}
	return all
}

// laidList answers a list inside a greater one, so that what is written beyond its ends is seen, and that one.
func laidList[T any](l []T, guard T) ([]T, []T) {
	whole := slices.Concat([]T{guard, guard}, l, []T{guard, guard, guard})
	return whole[2 : 2+len(l)], whole
}

// memory is all the lists that something reaches.
type memory struct {
	limbs  [][]uint32
	orders [][]int
	nodes  [][]api.Node
	tris   [][]api.Tri
}

// parts are the places of a Vec's numbers.
func parts(v *api.Vec) []*api.Rat { return []*api.Rat{&v.X, &v.Y, &v.Z} }

// laid answers what is given with all lists inside greater ones.
func (g takes) laid() (takes, memory) {
	var m memory
	lay := func(numbers ...*api.Rat) {
		for _, r := range numbers {
			num, wholeNum := laidList(r.Num, 77)
			den, wholeDen := laidList(r.Den, 78)
			*r = api.Rat{Neg: r.Neg, Num: num, Den: den}
			m.limbs = append(m.limbs, wholeNum, wholeDen)
		}
	}
	nodes, wholeNodes := laidList(g.tree.Nodes, leaf(4711, 4712))
	order, wholeOrder := laidList(g.tree.Order, 4713)
	l, wholeTris := laidList(g.l, triWords("1 2 3", "4 5 6", "7 8 9"))
	for place := range nodes {
		lay(sides(&nodes[place].Box)...)
	}
	for i := range l {
		for _, p := range []*api.Vec{&l[i].A, &l[i].B, &l[i].C} {
			lay(parts(p)...)
		}
	}
	lay(parts(&g.o)...)
	lay(parts(&g.d)...)
	m.orders, m.nodes, m.tris = [][]int{wholeOrder}, [][]api.Node{wholeNodes}, [][]api.Tri{wholeTris}
	return takes{api.Tree{Nodes: nodes, Order: order}, l, g.o, g.d}, m
}

// copied answers the memory as it is now.
func (m memory) copied() memory {
	return memory{clones(m.limbs), clones(m.orders), clones(m.nodes), clones(m.tris)}
}

func clones[T any](lists [][]T) [][]T {
	out := make([][]T, len(lists))
	for i, l := range lists {
		out[i] = slices.Clone(l)
	}
	return out
}

// memoryOf are the lists of answers, up to their capacities.
func memoryOf(answers ...answer) memory {
	var m memory
	for _, a := range answers {
		for _, r := range []api.Rat{a.meet.S, a.meet.U, a.meet.V} {
			m.limbs = append(m.limbs, r.Num[:cap(r.Num)], r.Den[:cap(r.Den)])
		}
	}
	return m
}

// fill writes a number of its own to each list, so that lists that share memory are seen.
func (m memory) fill(first int) {
	for i, l := range m.limbs {
		for j := range l {
			l[j] = uint32(first + i)
		}
	}
	for i, l := range m.orders {
		for j := range l {
			l[j] = first + i
		}
	}
	for i, l := range m.nodes {
		for j := range l {
			l[j] = leaf(first+i, j)
		}
	}
	for _, l := range m.tris {
		clear(l)
	}
}

// isSame holds all lists against those that are wanted, limb by limb; a nil one is an empty one.
func (m memory) isSame(t *testing.T, want memory, what ...any) {
	t.Helper()
	isSameVec := func(a, b api.Vec) bool { return equal(a.X, b.X) && equal(a.Y, b.Y) && equal(a.Z, b.Z) }
	isSameNode := func(a, b api.Node) bool {
		return a.Left == b.Left && a.Right == b.Right && a.From == b.From && a.Count == b.Count && isSameVec(a.Lo, b.Lo) && isSameVec(a.Hi, b.Hi)
	}
	isSameTri := func(a, b api.Tri) bool { return isSameVec(a.A, b.A) && isSameVec(a.B, b.B) && isSameVec(a.C, b.C) }
	nodes := slices.EqualFunc(m.nodes, want.nodes, func(a, b []api.Node) bool { return slices.EqualFunc(a, b, isSameNode) })
	tris := slices.EqualFunc(m.tris, want.tris, func(a, b []api.Tri) bool { return slices.EqualFunc(a, b, isSameTri) })
	limbs := slices.EqualFunc(m.limbs, want.limbs, slices.Equal[[]uint32])
	if orders := slices.EqualFunc(m.orders, want.orders, slices.Equal[[]int]); !nodes || !tris || !limbs || !orders {
		t.Errorf("%v: nodes %v, triangles %v, limbs %v, orders %v", what, nodes, tris, limbs, orders)
	}
}

// R4: an argument is not changed, neither is what stands beside its lists.
func TestArgumentsAreNotChanged(t *testing.T) {
	for name, call := range calls() {
		for i, g := range given() {
			h, m := g.laid()
			kept := m.copied()
			call(h)
			m.isSame(t, kept, name, i)
		}
	}
}

// R4: a list that is handed over as it is keeps its triangles, nodes and numbers, with their signs and lists.
func TestListsHandedOverAreNotChanged(t *testing.T) {
	for name, call := range calls() {
		for i, g := range given() {
			l, kept := slices.Clone(g.l), copied(g.tree)
			call(g)
			if !reflect.DeepEqual(g.l, l) || !reflect.DeepEqual(g.tree, kept) {
				t.Errorf("%s, %d", name, i)
			}
			for j, x := range g.l {
				if len(x.A.X.Num) > 0 && &x.A.X.Num[0] != &l[j].A.X.Num[0] {
					t.Errorf("%s, %d: another list at %d", name, i, j)
				}
			}
		}
	}
}

// R4: what is written to a list of an answer, up to its capacity, is not seen in an argument, in its other lists or in another answer, nor the other way round.
func TestAnswersShareNoMemory(t *testing.T) {
	call := calls()["Nearest"]
	for i, g := range given() {
		h, arguments := g.laid()
		kept := arguments.copied()
		answers := memoryOf(call(h), call(h), call(takes{o: h.o, d: h.d}))
		answers.fill(4711)
		written := answers.copied()
		arguments.isSame(t, kept, i)
		arguments.fill(99)
		answers.isSame(t, written, i)
		for j, l := range written.limbs {
			if !slices.Equal(l, run(len(l), uint32(4711+j))) {
				t.Errorf("%d: list %d is %v", i, j, l)
			}
		}
	}
}

// R3: nothing is kept, so a call answers the same again, also if the first answer was written to.
func TestCallsAnswerTheSameAgain(t *testing.T) {
	for name, call := range calls() {
		for i, g := range given() {
			first, second := call(g), call(g)
			memoryOf(first).fill(4711)
			if got := call(g); !reflect.DeepEqual(got, second) {
				t.Errorf("%s, %d: got %v, want %v", name, i, got, second)
			}
		}
	}
}

// R2: all numbers that are answered are canonical; beside a false they are -1 and 0 0 0.
func TestAnswersAreCanonical(t *testing.T) {
	counts := map[bool]int{}
	for i, g := range given() {
		number, meet, ok := Nearest(g.tree, g.l, g.o, g.d)
		for place, r := range []api.Rat{meet.S, meet.U, meet.V} {
			isNumber(t, r, ratOf(valueOf(r)), i, place)
			if !ok {
				isNumber(t, r, none(), i, place)
			}
		}
		if ok != (number >= 0) || !ok && number != -1 || number >= len(g.l) {
			t.Errorf("%d: %d, %v", i, number, ok)
		}
		counts[ok]++
	}
	if counts[true] < 100 || counts[false] < 100 {
		t.Errorf("too few of each: %v", counts)
	}
}

// Answers hang on the numbers alone, not on how they are written; also R5: an empty list is a nil one.
func TestWritingsAreOfNoMoment(t *testing.T) {
	for name, call := range calls() {
		r := source(62)
		for i, g := range given() {
			if i%9 > 0 {
				continue
			}
			h := takes{copied(g.tree), slices.Clone(g.l), vecWritings(g.o)[r.IntN(20)], vecWritings(g.d)[r.IntN(20)]}
			for place := range h.tree.Nodes {
				b := &h.tree.Nodes[place].Box
				*b = boxWritings(*b)[r.IntN(40)]
			}
			for j, x := range h.l {
				all := triWritings(x)
				h.l[j] = all[r.IntN(len(all))]
			}
			if len(h.l) == 0 {
				h.l = []api.Tri{}
			}
			h.tree.Nodes, h.tree.Order = append([]api.Node{}, h.tree.Nodes...), append([]int{}, h.tree.Order...)
			if got, want := call(h), call(g); !reflect.DeepEqual(got, want) {
				t.Errorf("%s, %d: got %v, want %v", name, i, got, want)
			}
		}
	}
}

// P1: the calls end at long arguments, also at those that are long for limbs 0 alone.
func TestLongArguments(t *testing.T) {
	ones, nothing := run(40, top), run(1<<14, 0)
	long := []api.Rat{above(ones, ones[:17]), below(ones[:27], ones), above(nothing, ones), below(ones, nothing), above(nothing, nothing), {Num: append(run(60, top), nothing...), Den: append(run(60, top), nothing...)}}
	longVec := func(i int) api.Vec { return api.Vec{X: long[i%6], Y: long[(i+1)%6], Z: long[(i+2)%6]} }
	var l []api.Tri
	for i := range 20 {
		l = append(l, api.Tri{A: longVec(i), B: longVec(i + 3), C: longVec(5*i + 1)})
	}
	built, _ := bvh.Build(l)
	trees := []api.Tree{built, greater(built), someTree(source(63), l)}
	for i := range 3 {
		isAsTried(t, trees, l, longVec(i), longVec(i+2))
		o, d := towards(source(uint64(i)), l[i])
		isAsTried(t, trees, l, o, d)
		isBlocked(t, trees, l, longVec(i), longVec(i+1), isBetween(l, longVec(i), longVec(i+1)))
	}
	for _, x := range loops() {
		many := api.Tree{Nodes: slices.Repeat(x.Nodes, 100), Order: slices.Repeat(x.Order, 100)}
		for _, call := range calls() {
			call(takes{many, l, longVec(1), longVec(2)})
			call(takes{wide(many), make([]api.Tri, api.MaxTree+1), longVec(0), longVec(5)})
		}
	}
}
