package vec

import (
	"slices"
	"testing"

	"penumbra/api"
)

// numbersOf are the numbers of all of the Vecs, one behind the other.
func numbersOf(l ...api.Vec) []api.Rat {
	var out []api.Rat
	for _, v := range l {
		out = append(out, v.X, v.Y, v.Z)
	}
	return out
}

// calls are all the calls of the package, each as one of a number and two Vecs that answers numbers.
func calls() map[string]func(k api.Rat, a, b api.Vec) []api.Rat {
	return map[string]func(k api.Rat, a, b api.Vec) []api.Rat{
		"Read": func(k api.Rat, a, b api.Vec) []api.Rat { return numbersOf(Read(a), Read(b)) },
		"Same": func(k api.Rat, a, b api.Vec) []api.Rat {
			if Same(a, b) {
				return []api.Rat{word("1")}
			}
			return []api.Rat{none()}
		},
		"Of": func(k api.Rat, a, b api.Vec) []api.Rat { return numbersOf(Of(0, 0, 0), Of(1, 1, 1), Of(7, -1, 5)) },
		"Sum": func(k api.Rat, a, b api.Vec) []api.Rat {
			return numbersOf(Sum(), Sum(a), Sum(b), Sum(a, b), Sum(a, a), Sum(a, b, a), Sum(b, a, a, b, a))
		},
		"Sub":   func(k api.Rat, a, b api.Vec) []api.Rat { return numbersOf(Sub(a, b), Sub(b, a), Sub(a, a)) },
		"Scale": func(k api.Rat, a, b api.Vec) []api.Rat { return numbersOf(Scale(k, a), Scale(k, b), Scale(a.X, a)) },
		"Dot":   func(k api.Rat, a, b api.Vec) []api.Rat { return []api.Rat{Dot(a, b), Dot(b, a), Dot(a, a)} },
		"Cross": func(k api.Rat, a, b api.Vec) []api.Rat { return numbersOf(Cross(a, b), Cross(b, a), Cross(a, a)) },
		"Unit": func(k api.Rat, a, b api.Vec) []api.Rat {
			first, firstLength, _ := Unit(a)
			second, secondLength, _ := Unit(b)
			return append(numbersOf(first, second), firstLength, secondLength)
		},
	}
}

// takes is what a call is given.
type takes struct {
	k    api.Rat
	a, b api.Vec
}

// given are numbers and Vecs for which calls take each of their ways: with 0 and 1, without and with a length, not canonical; in the last ones lists are shared.
func given() []takes {
	vecs := []api.Vec{
		{}, Of(0, 0, 0), Of(1, 0, 0), Of(1, 1, 1), Of(3, 0, -4), words("2/3", "-2/3", "1/3"), words("-1/2", "7", "5/3"),
		{X: above(list(6, 0), list(4, 0)), Y: below(list(0, 6), list(0, 9, 0)), Z: below(list(0), list(5))},
		{X: below(list(1), nil), Y: above(run(5, top), run(5, top)), Z: above(list(4), list(0, 0, 0))},
		{X: above(run(6, top), run(4, top)), Y: below(list(1, 2, 3, 4), list(5, 6, 7)), Z: above(list(0, 0, 1), list(1))},
	}
	factors := []api.Rat{{}, none(), word("1"), word("-1"), word("-3/2"), above(list(7, 0), list(7)), below(run(5, top), run(3, top))}
	var all []takes
	for _, a := range vecs {
		for i, b := range vecs {
			all = append(all, takes{factors[i%len(factors)], a, b})
		}
		all = append(all, takes{a.X, a, a})
	}
	limbs := list(7, 8, 9, 0)
	number := above(limbs, limbs[1:])
	shared := api.Vec{X: number, Y: above(limbs[:2], limbs), Z: below(limbs, limbs)}
	return append(all, takes{number, shared, shared}, takes{number, shared, api.Vec{X: number, Y: number, Z: number}})
}

// laid answers the number with its lists inside greater ones, so that what is written beyond their ends is seen, and those.
func laid(r api.Rat) (api.Rat, [][]uint32) {
	num, den := slices.Concat(list(77, 78), r.Num, list(79, 80, 81)), slices.Concat(list(77, 78), r.Den, list(79, 80, 81))
	return api.Rat{Neg: r.Neg, Num: num[2 : 2+len(r.Num)], Den: den[2 : 2+len(r.Den)]}, [][]uint32{num, den}
}

func laidVec(v api.Vec) (api.Vec, [][]uint32) {
	x, listsX := laid(v.X)
	y, listsY := laid(v.Y)
	z, listsZ := laid(v.Z)
	return api.Vec{X: x, Y: y, Z: z}, slices.Concat(listsX, listsY, listsZ)
}

func (g takes) laid() (takes, [][]uint32) {
	k, listsK := laid(g.k)
	a, listsA := laidVec(g.a)
	b, listsB := laidVec(g.b)
	return takes{k, a, b}, slices.Concat(listsK, listsA, listsB)
}

func clones(lists [][]uint32) [][]uint32 {
	out := make([][]uint32, len(lists))
	for i, l := range lists {
		out[i] = slices.Clone(l)
	}
	return out
}

func areSame(t *testing.T, got, want [][]uint32, what ...any) {
	t.Helper()
	if !slices.EqualFunc(got, want, slices.Equal[[]uint32]) {
		t.Errorf("%v: got %v, want %v", what, got, want)
	}
}

func fill(a []uint32, limb uint32) {
	for i := range a {
		a[i] = limb
	}
}

// wholes are the lists of all numbers, up to their capacities.
func wholes(l []api.Rat) [][]uint32 {
	var lists [][]uint32
	for _, r := range l {
		lists = append(lists, r.Num[:cap(r.Num)], r.Den[:cap(r.Den)])
	}
	return lists
}

// R4: an argument is not changed, neither are the limbs beside it.
func TestArgumentsAreNotChanged(t *testing.T) {
	for name, call := range calls() {
		for _, g := range given() {
			h, lists := g.laid()
			kept := clones(lists)
			call(h.k, h.a, h.b)
			areSame(t, lists, kept, name, g)
			direct := wholes(append(numbersOf(g.a, g.b), g.k))
			kept = clones(direct)
			call(g.k, g.a, g.b)
			areSame(t, direct, kept, name, "direct", g)
		}
	}
}

// R4: the list that Sum is handed is not changed, nor what stands behind it.
func TestListsOfVecsAreNotChanged(t *testing.T) {
	for n := range 9 {
		l := make([]api.Vec, 12)
		for i := range l {
			r := api.Rat{Neg: i%3 == 0, Num: list(uint32(6*i), 0), Den: list(uint32(4*i), 0)}
			l[i] = api.Vec{X: r, Y: above(list(uint32(i)), list(1)), Z: r}
		}
		kept, keptLists := numbersOf(l...), clones(wholes(numbersOf(l...)))
		Sum(l[:n]...)
		if !slices.EqualFunc(numbersOf(l...), kept, equal) {
			t.Errorf("list of %d: got %v, want %v", n, l, kept)
		}
		areSame(t, wholes(numbersOf(l...)), keptLists, n)
	}
}

// R4: what is written to a list of an answer, up to its capacity, is not seen in an argument, in its other lists or in another answer, nor the other way round.
func TestAnswersShareNoMemory(t *testing.T) {
	for name, call := range calls() {
		for _, g := range given() {
			h, arguments := g.laid()
			kept := clones(arguments)
			answers := wholes(slices.Concat(call(h.k, h.a, h.b), call(h.k, h.a, h.b)))
			for i, l := range answers {
				fill(l, uint32(4711+i))
			}
			areSame(t, arguments, kept, name, g)
			for _, l := range arguments {
				fill(l, 4710)
			}
			for i, l := range answers {
				areSame(t, [][]uint32{l}, [][]uint32{run(len(l), uint32(4711+i))}, name, g)
			}
		}
	}
}

// R3: nothing is kept, so a call answers the same again, also if the first answer was written to.
func TestCallsAnswerTheSameAgain(t *testing.T) {
	for name, call := range calls() {
		for _, g := range given() {
			first, second := call(g.k, g.a, g.b), call(g.k, g.a, g.b)
			for _, l := range wholes(first) {
				fill(l, 4711)
			}
			for i, answer := range call(g.k, g.a, g.b) {
				isNumber(t, answer, second[i], name, g)
			}
		}
	}
}

// All answers are canonical, and hang on the numbers alone, not on how they are written; also R5: an empty list is a nil one.
func TestWritingsAreOfNoMoment(t *testing.T) {
	k := word("-3/2")
	for name, call := range calls() {
		for _, a := range []api.Vec{Of(0, 0, 0), Of(3, 0, -4), Of(1, 0, 1), {X: above(list(1, 2, 3), list(0, 1)), Y: none(), Z: word("-2/3")}} {
			for _, b := range []api.Vec{Of(0, 0, 0), words("2/3", "-2/3", "1/3"), Of(0, -1, 0)} {
				want := call(k, a, b)
				factors, others := writings(k), vecWritings(b)
				for i, x := range vecWritings(a) {
					y := others[i%len(others)]
					for j, answer := range call(factors[i%len(factors)], x, y) {
						isNumber(t, answer, want[j], name, x, y)
						isNumber(t, answer, ratOf(valueOf(answer)), name, "canonical", x, y)
					}
				}
			}
		}
	}
}

// P1: the calls end at long arguments, also at those that are long for limbs 0 alone.
func TestLongArguments(t *testing.T) {
	ones, nothing := run(300, top), run(1<<16, 0)
	long := []api.Rat{above(ones, ones[:133]), below(ones[:200], ones), above(nothing, ones), below(ones, nothing), above(nothing, nothing)}
	for _, call := range calls() {
		for i := range long {
			a := api.Vec{X: long[i], Y: long[(i+1)%5], Z: long[(i+2)%5]}
			call(below(ones[:7], ones[:200]), a, api.Vec{X: long[0], Y: long[1], Z: long[1]})
		}
	}
	isVec(t, Read(api.Vec{X: below(run(300, top), run(200, top)), Y: long[2], Z: long[3]}), api.Vec{X: below(long300(), long200()), Y: none(), Z: none()})
}

// long300 and long200 are 2^9600 - 1 and 2^6400 - 1, both without their common divisor 2^3200 - 1.
func long300() []uint32 {
	part := append(list(1), run(99, 0)...)
	return slices.Concat(part, part, list(1))
}

func long200() []uint32 { return slices.Concat(list(1), run(99, 0), list(1)) }
