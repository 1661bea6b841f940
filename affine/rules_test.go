package affine

import (
	"slices"
	"testing"

	"penumbra/api"
)

// takes is what a call is given.
type takes struct {
	a, b api.Map
	p, n api.Vec
	k    api.Rat
}

// calls are all the calls of the package, each as one that answers numbers.
func calls() map[string]func(g takes) []api.Rat {
	return map[string]func(g takes) []api.Rat{
		"Identity": func(takes) []api.Rat { return numbersOfMaps(Identity()) },
		"Apply":    func(g takes) []api.Rat { return numbersOf(Apply(g.a, g.p), Apply(g.a, g.a.X), Apply(g.a, g.a.Move)) },
		"Turn":     func(g takes) []api.Rat { return numbersOf(Turn(g.a, g.p), Turn(g.a, g.a.Y)) },
		"Then":     func(g takes) []api.Rat { return numbersOfMaps(Then(g.a, g.b), Then(g.a, g.a)) },
		"Det":      func(g takes) []api.Rat { return []api.Rat{Det(g.a), Det(g.b)} },
		"Inverse": func(g takes) []api.Rat {
			first, _ := Inverse(g.a)
			second, _ := Inverse(g.b)
			return numbersOfMaps(first, second)
		},
		"Area":    func(g takes) []api.Rat { return numbersOf(Area(g.a, g.p), Area(g.a, g.a.Z)) },
		"Stretch": func(g takes) []api.Rat { return numbersOfMaps(Stretch(g.p, g.n, g.k), Stretch(g.n, g.n, g.n.Z)) },
	}
}

// given are arguments for which calls take each of their ways: with an inverse and without, with 0 and 1, not canonical; in the last ones lists are shared.
func given() []takes {
	vecs := append(lengthOne(),
		api.Vec{}, origin(), words("1 1 1"), words("-1/2 7 5/3"), loose(words("2/3 -1/3 2/3")),
		api.Vec{X: below(list(1), nil), Y: above(run(5, top), run(5, top)), Z: above(list(4), list(0, 0, 0))},
		api.Vec{X: above(run(6, top), run(4, top)), Y: below(list(1, 2, 3, 4), list(5, 6, 7)), Z: above(list(0, 0, 1), list(1))},
	)
	factors := append(kinds(), api.Rat{}, above(list(7, 0), list(7)), below(run(5, top), run(3, top)))
	maps := manyMaps()
	for _, m := range manyMaps() {
		maps = append(maps, looseMap(m))
	}
	var all []takes
	for i, m := range maps {
		for j := range 6 {
			all = append(all, takes{m, maps[(i+7*j)%len(maps)], vecs[(i+j)%len(vecs)], vecs[(i+5*j+3)%len(vecs)], factors[(i+j)%len(factors)]})
		}
	}
	for _, p := range vecs {
		m := api.Map{X: p, Y: p, Z: p, Move: p}
		all = append(all, takes{m, m, p, p, p.X})
	}
	limbs := list(7, 8, 9, 0)
	shared := api.Vec{X: above(limbs, limbs[1:]), Y: above(limbs[:2], limbs), Z: below(limbs, limbs)}
	turned := api.Vec{X: shared.Z, Y: shared.X, Z: shared.Y}
	around := api.Map{X: shared, Y: turned, Z: api.Vec{X: shared.Y, Y: turned.X, Z: shared.X}, Move: shared}
	return append(all, takes{around, around, shared, turned, shared.Y}, takes{api.Map{X: shared, Y: shared, Z: shared, Move: shared}, around, shared, shared, shared.X})
}

// laid answers the number with its lists inside greater ones, so that what is written beyond their ends is seen, and those.
func laid(r api.Rat) (api.Rat, [][]uint32) {
	num, den := slices.Concat(list(77, 78), r.Num, list(79, 80, 81)), slices.Concat(list(77, 78), r.Den, list(79, 80, 81))
	return api.Rat{Neg: r.Neg, Num: num[2 : 2+len(r.Num)], Den: den[2 : 2+len(r.Den)]}, [][]uint32{num, den}
}

func laidVec(v api.Vec) (api.Vec, [][]uint32) {
	x, listsX := laid(v.X)
	y, listsY := laid(v.Y)
	z, listsZ := laid(v.Z)
	return api.Vec{X: x, Y: y, Z: z}, slices.Concat(listsX, listsY, listsZ)
}

func laidMap(m api.Map) (api.Map, [][]uint32) {
	x, listsX := laidVec(m.X)
	y, listsY := laidVec(m.Y)
	z, listsZ := laidVec(m.Z)
	move, listsMove := laidVec(m.Move)
	return api.Map{X: x, Y: y, Z: z, Move: move}, slices.Concat(listsX, listsY, listsZ, listsMove)
}

func (g takes) laid() (takes, [][]uint32) {
	a, listsA := laidMap(g.a)
	b, listsB := laidMap(g.b)
	p, listsP := laidVec(g.p)
	n, listsN := laidVec(g.n)
	k, listsK := laid(g.k)
	return takes{a, b, p, n, k}, slices.Concat(listsA, listsB, listsP, listsN, listsK)
}

func clones(lists [][]uint32) [][]uint32 {
	out := make([][]uint32, len(lists))
	for i, l := range lists {
		out[i] = slices.Clone(l)
	}
	return out
}

func areSame(t *testing.T, got, want [][]uint32, what ...any) {
	t.Helper()
	if !slices.EqualFunc(got, want, slices.Equal[[]uint32]) {
		t.Errorf("%v: got %v, want %v", what, got, want)
	}
}

func fill(a []uint32, limb uint32) {
	for i := range a {
		a[i] = limb
	}
}

// wholes are the lists of all numbers, up to their capacities.
func wholes(l []api.Rat) [][]uint32 {
	var lists [][]uint32
	for _, r := range l {
		lists = append(lists, r.Num[:cap(r.Num)], r.Den[:cap(r.Den)])
	}
	return lists
}

// R4: an argument is not changed, neither are the limbs beside it.
func TestArgumentsAreNotChanged(t *testing.T) {
	for name, call := range calls() {
		for _, g := range given() {
			h, lists := g.laid()
			kept := clones(lists)
			call(h)
			areSame(t, lists, kept, name, g)
			direct := wholes(append(slices.Concat(numbersOfMaps(g.a, g.b), numbersOf(g.p, g.n)), g.k))
			kept = clones(direct)
			call(g)
			areSame(t, direct, kept, name, "direct", g)
		}
	}
}

// R4: what is written to a list of an answer, up to its capacity, is not seen in an argument, in its other lists or in another answer, nor the other way round.
func TestAnswersShareNoMemory(t *testing.T) {
	for name, call := range calls() {
		for _, g := range given() {
			h, arguments := g.laid()
			kept := clones(arguments)
			answers := wholes(slices.Concat(call(h), call(h)))
			for i, l := range answers {
				fill(l, uint32(4711+i))
			}
			areSame(t, arguments, kept, name, g)
			for _, l := range arguments {
				fill(l, 4710)
			}
			for i, l := range answers {
				areSame(t, [][]uint32{l}, [][]uint32{run(len(l), uint32(4711+i))}, name, g)
			}
		}
	}
}

// R3: nothing is kept, so a call answers the same again, also if the first answer was written to.
func TestCallsAnswerTheSameAgain(t *testing.T) {
	for name, call := range calls() {
		for _, g := range given() {
			first, second := call(g), call(g)
			for _, l := range wholes(first) {
				fill(l, 4711)
			}
			for i, answer := range call(g) {
				isNumber(t, answer, second[i], name, g)
			}
		}
	}
}

// R2: all answers are canonical, also where the last result is false.
func TestAnswersAreCanonical(t *testing.T) {
	for name, call := range calls() {
		for _, g := range given() {
			for i, answer := range call(g) {
				isNumber(t, answer, ratOf(valueOf(answer)), name, i, g)
			}
		}
	}
}

// Answers hang on the numbers alone, not on how they are written; also R5: an empty list is a nil one.
func TestWritingsAreOfNoMoment(t *testing.T) {
	vecs := []api.Vec{origin(), words("0 0 1"), words("2/3 -2/3 1/3"), {X: above(list(1, 2, 3), list(0, 1)), Y: none(), Z: word("-2/3")}}
	maps := append(upright()[2:], lying()[1:7]...)
	for name, call := range calls() {
		for i, m := range maps {
			other, p, n, k := maps[(i+3)%len(maps)], vecs[i%len(vecs)], vecs[(i+i/4+1)%len(vecs)], kinds()[i%len(kinds())]
			want := call(takes{m, other, p, n, k})
			first, second := mapWritings(m), mapWritings(other)
			points, directions, factors := vecWritings(p), vecWritings(n), writings(k)
			for j := range max(len(first), len(second), len(points), len(directions)) {
				g := takes{first[j%len(first)], second[j%len(second)], points[j%len(points)], directions[j%len(directions)], factors[j%len(factors)]}
				for place, answer := range call(g) {
					isNumber(t, answer, want[place], name, g)
				}
			}
		}
	}
}

// P1: the calls end at long arguments, also at those that are long for limbs 0 alone.
func TestLongArguments(t *testing.T) {
	ones, nothing := run(120, top), run(1<<16, 0)
	long := []api.Rat{above(ones, ones[:53]), below(ones[:80], ones), above(nothing, ones), below(ones, nothing), above(nothing, nothing)}
	longVec := func(i int) api.Vec { return api.Vec{X: long[i%5], Y: long[(i+1)%5], Z: long[(i+2)%5]} }
	longMap := func(i int) api.Map {
		return api.Map{X: longVec(i), Y: longVec(i + 3), Z: longVec(i + 1), Move: longVec(i + 2)}
	}
	for _, call := range calls() {
		for i := range long {
			call(takes{longMap(i), longMap(i + 2), longVec(i + 4), longVec(i + 1), long[i]})
		}
	}
	one, zero := api.Rat{Num: append(run(200, top), nothing...), Den: append(run(200, top), nothing...)}, long[3]
	m := api.Map{X: api.Vec{X: one, Y: zero, Z: long[2]}, Y: api.Vec{X: long[4], Y: one, Z: zero}, Z: api.Vec{X: zero, Y: long[2], Z: one}, Move: api.Vec{X: zero, Y: zero, Z: one}}
	isInverse(t, m, mapWords("1 0 0", "0 1 0", "0 0 1", "0 0 -1"))
	isMap(t, Stretch(m.Move, m.Move, zero), mapWords("1 0 0", "0 1 0", "0 0 0", "0 0 1"))
}
