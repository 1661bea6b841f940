package tri

import (
	"slices"
	"testing"

	"penumbra/api"
)

// takes is what a call is given.
type takes struct {
	x    api.Tri
	o, d api.Vec
	u, v api.Rat
}

// calls are all the calls of the package, each as one that answers numbers.
func calls() map[string]func(g takes) []api.Rat {
	return map[string]func(g takes) []api.Rat{
		"Normal": func(g takes) []api.Rat { return numbersOf(Normal(g.x), Normal(bent(g.x, "CBA"))) },
		"Unit": func(g takes) []api.Rat {
			direction, area, _ := Unit(g.x)
			back, same, _ := Unit(bent(g.x, "ACB"))
			return append(numbersOf(direction, back), area, same)
		},
		"Point": func(g takes) []api.Rat {
			return numbersOf(Point(g.x, g.u, g.v), Point(g.x, g.v, g.v), Point(g.x, g.x.A.X, g.x.C.Y), Point(g.x, api.Rat{}, api.Rat{}))
		},
		"At": func(g takes) []api.Rat {
			return numbersOf(At(g.o, g.d, g.u), At(g.o, g.o, g.v), At(g.d, g.o, g.o.Z), At(g.o, g.d, api.Rat{}), At(api.Vec{}, g.d, g.u))
		},
		"Hit": func(g takes) []api.Rat {
			first, _ := Hit(g.o, g.d, g.x)
			second, _ := Hit(g.d, g.o, bent(g.x, "BCA"))
			third, _ := Hit(g.x.A, g.x.B, g.x)
			// Towards the triangle's first side, where the numbers allow it: a hit.
			fourth, _ := Hit(g.o, At(Point(g.x, above(list(1), list(2)), api.Rat{}), g.o, below(list(1), list(1))), g.x)
			return numbersOfMeets(first, second, third, fourth)
		},
	}
}

func numbersOfMeets(l ...api.Meet) []api.Rat {
	var out []api.Rat
	for _, m := range l {
		out = append(out, m.S, m.U, m.V)
	}
	return out
}

// givenRays are rays of which some meet the document's triangle, some are beside each of its sides, behind it, at it, along it; canonical and not.
func givenRays() []ray {
	all := []ray{
		{words("1/4 1/4 1"), words("0 0 -2")}, {words("1/4 1/4 -1"), words("0 0 1")}, {words("0 0 1"), words("0 0 -1")}, {words("1 0 1"), words("0 0 -1")},
		{words("1 1 1"), words("0 0 -1")}, {words("-1 1/2 1"), words("0 0 -1")}, {words("1/2 -1 1"), words("0 0 -1")}, {words("1/4 1/4 1"), words("0 0 1")},
		{words("1/4 1/4 0"), words("0 0 1")}, {words("1/4 1/4 0"), words("1 1 0")}, {words("5 7 -11"), api.Vec{}}, {api.Vec{}, words("1 2 3")}, {api.Vec{}, api.Vec{}},
		{places()[38], words("1 2 3")}, {places()[33], places()[48]},
		{api.Vec{X: below(list(1), nil), Y: above(run(5, top), run(5, top)), Z: above(list(4), list(0, 0, 0))}, words("-1/3 -2/3 1/9")},
	}
	for _, l := range all[:9] {
		all = append(all, ray{loose(l.o), loose(l.d)})
	}
	return all
}

// given are arguments for which calls take each of their ways; in the last ones Vecs and lists are shared.
func given() []takes {
	factors := append(kinds(), api.Rat{}, above(list(7, 0), list(7)), below(run(5, top), run(3, top)))
	var all []takes
	for i, x := range append(manyTris(), looseTri(unit()), looseTri(skew())) {
		for j, l := range givenRays() {
			all = append(all, takes{x, l.o, l.d, factors[(i+j)%len(factors)], factors[(i+5*j+2)%len(factors)]})
		}
	}
	for _, p := range places() {
		all = append(all, takes{api.Tri{A: p, B: p, C: p}, p, p, p.X, p.X}, takes{api.Tri{A: p, B: words("1 2 3"), C: words("-5 7 1/2")}, p, p, p.Y, p.Z})
	}
	limbs := list(7, 8, 9, 0)
	shared := api.Vec{X: above(limbs, limbs[1:]), Y: above(limbs[:2], limbs), Z: below(limbs, limbs)}
	turned := api.Vec{X: shared.Z, Y: shared.X, Z: shared.Y}
	return append(all, takes{api.Tri{A: shared, B: turned, C: api.Vec{X: shared.Y, Y: turned.X, Z: shared.X}}, shared, turned, shared.Y, shared.Y}, takes{api.Tri{A: shared, B: shared, C: turned}, turned, turned, shared.X, shared.Z})
}

// laid answers the number with its lists inside greater ones, so that what is written beyond their ends is seen, and those.
func laid(r api.Rat) (api.Rat, [][]uint32) {
	num, den := slices.Concat(list(77, 78), r.Num, list(79, 80, 81)), slices.Concat(list(77, 78), r.Den, list(79, 80, 81))
	return api.Rat{Neg: r.Neg, Num: num[2 : 2+len(r.Num)], Den: den[2 : 2+len(r.Den)]}, [][]uint32{num, den}
}

func laidVec(v api.Vec) (api.Vec, [][]uint32) {
	x, listsX := laid(v.X)
	y, listsY := laid(v.Y)
	z, listsZ := laid(v.Z)
	return api.Vec{X: x, Y: y, Z: z}, slices.Concat(listsX, listsY, listsZ)
}

func laidTri(x api.Tri) (api.Tri, [][]uint32) {
	a, listsA := laidVec(x.A)
	b, listsB := laidVec(x.B)
	c, listsC := laidVec(x.C)
	return api.Tri{A: a, B: b, C: c}, slices.Concat(listsA, listsB, listsC)
}

func (g takes) laid() (takes, [][]uint32) {
	x, listsX := laidTri(g.x)
	o, listsO := laidVec(g.o)
	d, listsD := laidVec(g.d)
	u, listsU := laid(g.u)
	v, listsV := laid(g.v)
	return takes{x, o, d, u, v}, slices.Concat(listsX, listsO, listsD, listsU, listsV)
}

func clones(lists [][]uint32) [][]uint32 {
	out := make([][]uint32, len(lists))
	for i, l := range lists {
		out[i] = slices.Clone(l)
	}
	return out
}

func areSame(t *testing.T, got, want [][]uint32, what ...any) {
	t.Helper()
	if !slices.EqualFunc(got, want, slices.Equal[[]uint32]) {
		t.Errorf("%v: got %v, want %v", what, got, want)
	}
}

func fill(a []uint32, limb uint32) {
	for i := range a {
		a[i] = limb
	}
}

// wholes are the lists of all numbers, up to their capacities.
func wholes(l []api.Rat) [][]uint32 {
	var lists [][]uint32
	for _, r := range l {
		lists = append(lists, r.Num[:cap(r.Num)], r.Den[:cap(r.Den)])
	}
	return lists
}

// R4: an argument is not changed, neither are the limbs beside it.
func TestArgumentsAreNotChanged(t *testing.T) {
	for name, call := range calls() {
		for _, g := range given() {
			h, lists := g.laid()
			kept := clones(lists)
			call(h)
			areSame(t, lists, kept, name, g)
			direct := wholes(append(numbersOf(g.x.A, g.x.B, g.x.C, g.o, g.d), g.u, g.v))
			kept = clones(direct)
			call(g)
			areSame(t, direct, kept, name, "direct", g)
		}
	}
}

// R4: what is written to a list of an answer, up to its capacity, is not seen in an argument, in its other lists or in another answer, nor the other way round.
func TestAnswersShareNoMemory(t *testing.T) {
	for name, call := range calls() {
		for _, g := range given() {
			h, arguments := g.laid()
			kept := clones(arguments)
			answers := wholes(slices.Concat(call(h), call(h)))
			for i, l := range answers {
				fill(l, uint32(4711+i))
			}
			areSame(t, arguments, kept, name, g)
			for _, l := range arguments {
				fill(l, 4710)
			}
			for i, l := range answers {
				areSame(t, [][]uint32{l}, [][]uint32{run(len(l), uint32(4711+i))}, name, g)
			}
		}
	}
}

// R3: nothing is kept, so a call answers the same again, also if the first answer was written to.
func TestCallsAnswerTheSameAgain(t *testing.T) {
	for name, call := range calls() {
		for _, g := range given() {
			first, second := call(g), call(g)
			for _, l := range wholes(first) {
				fill(l, 4711)
			}
			for i, answer := range call(g) {
				isNumber(t, answer, second[i], name, g)
			}
		}
	}
}

// R2: all answers are canonical, also where the last result is false.
func TestAnswersAreCanonical(t *testing.T) {
	for name, call := range calls() {
		for _, g := range given() {
			for i, answer := range call(g) {
				isNumber(t, answer, ratOf(valueOf(answer)), name, i, g)
			}
		}
	}
}

// Answers hang on the numbers alone, not on how they are written; also R5: an empty list is a nil one.
func TestWritingsAreOfNoMoment(t *testing.T) {
	tris := append(open()[:6], shut()[3], shut()[9], triWords("0 0 0", "1 -2 0", "1 0 -1"))
	for name, call := range calls() {
		for i, x := range tris {
			for j, l := range givenRays()[:12] {
				u, v := kinds()[(i+j)%10], kinds()[(i+3*j+1)%10]
				want := call(takes{x, l.o, l.d, u, v})
				others, begins, directions, first, second := triWritings(x), vecWritings(l.o), vecWritings(l.d), writings(u), writings(v)
				for k := range 24 {
					g := takes{others[(5*k+j)%len(others)], begins[(7*k+i)%len(begins)], directions[(3*k+j)%len(directions)], first[k%len(first)], second[k%len(second)]}
					for place, answer := range call(g) {
						isNumber(t, answer, want[place], name, g)
					}
				}
			}
		}
	}
}

// P8.2: one thing that is not canonical, beside canonical ones: each corner, the begin and the direction by themselves.
func TestHitBesideOneThingWrittenOtherwise(t *testing.T) {
	for _, l := range givenRays()[:13] {
		for _, x := range []api.Tri{unit(), skew(), shut()[6]} {
			want, ok := Hit(l.o, l.d, x)
			for _, other := range triWritings(x) {
				isSameHit(t, l.o, l.d, other, want, ok)
			}
			for _, o := range vecWritings(l.o) {
				isSameHit(t, o, l.d, x, want, ok)
			}
			for _, d := range vecWritings(l.d) {
				isSameHit(t, l.o, d, x, want, ok)
			}
		}
	}
}

// P1: the calls end at long arguments, also at those that are long for limbs 0 alone.
func TestLongArguments(t *testing.T) {
	ones, nothing := run(40, top), run(1<<16, 0)
	long := []api.Rat{above(ones, ones[:17]), below(ones[:27], ones), above(nothing, ones), below(ones, nothing), above(nothing, nothing)}
	longVec := func(i int) api.Vec { return api.Vec{X: long[i%5], Y: long[(i+1)%5], Z: long[(i+2)%5]} }
	for _, call := range calls() {
		for i := range long {
			call(takes{api.Tri{A: longVec(i), B: longVec(i + 3), C: longVec(i + 1)}, longVec(i + 2), longVec(i + 4), long[i], long[(i+1)%5]})
		}
	}
	single, zero := api.Rat{Num: append(run(60, top), nothing...), Den: append(run(60, top), nothing...)}, long[3]
	x := api.Tri{A: api.Vec{X: zero, Y: long[2], Z: long[4]}, B: api.Vec{X: single, Y: zero, Z: long[4]}, C: api.Vec{X: long[2], Y: single, Z: zero}}
	isUnit(t, x, words("0 0 1"), word("1/2"))
	isHit(t, api.Vec{X: zero, Y: single, Z: single}, api.Vec{X: zero, Y: zero, Z: api.Rat{Neg: true, Num: single.Num, Den: single.Den}}, x, api.Meet{S: word("1"), U: none(), V: word("1")})
}
