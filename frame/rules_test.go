package frame

import (
	"slices"
	"testing"

	"penumbra/api"
)

// takes is what a call is given.
type takes struct {
	f    api.Frame
	d    api.Vec
	u, v api.Rat
}

// calls are all the calls of the package, each as one that answers numbers.
func calls() map[string]func(g takes) []api.Rat {
	return map[string]func(g takes) []api.Rat{
		"Of": func(g takes) []api.Rat {
			a, _ := Of(g.d)
			b, _ := Of(g.f.N)
			return numbersOf(a.E1, a.E2, a.N, b.E1, b.E2, b.N)
		},
		"In":  func(g takes) []api.Rat { return numbersOf(In(g.f, g.d), In(g.f, g.f.N)) },
		"Out": func(g takes) []api.Rat { return numbersOf(Out(g.f, g.d), Out(g.f, g.f.N)) },
		"Slopes": func(g takes) []api.Rat {
			u, v, z, _ := Slopes(g.f, g.d)
			x, y, w, _ := Slopes(g.f, g.f.N)
			return []api.Rat{u, v, z, x, y, w}
		},
		"Along": func(g takes) []api.Rat { return numbersOf(Along(g.f, g.u, g.v), Along(g.f, g.u, g.u)) },
	}
}

// given are arguments for which calls take each of their ways: with a frame and without, with slopes and without, with 0 and 1, not canonical; in the last ones lists are shared.
func given(t *testing.T) []takes {
	t.Helper()
	vecs := append(lengthOne(),
		api.Vec{}, origin(), words("3", "4", "0"), words("1", "1", "1"), words("-1/2", "7", "5/3"), loose(words("2/3", "-1/3", "2/3")), loose(words("0", "0", "1")),
		api.Vec{X: below(list(1), nil), Y: above(run(5, top), run(5, top)), Z: above(list(4), list(0, 0, 0))},
		api.Vec{X: above(run(6, top), run(4, top)), Y: below(list(1, 2, 3, 4), list(5, 6, 7)), Z: above(list(0, 0, 1), list(1))},
	)
	frames := skews()
	for _, n := range lengthOne() {
		frames = append(frames, told(t, n), looseFrame(told(t, n)))
	}
	slopes := append(kinds(), api.Rat{}, above(list(7, 0), list(7)), below(run(5, top), run(3, top)))
	var all []takes
	for i, f := range frames {
		for j, d := range vecs {
			all = append(all, takes{f, d, slopes[(i+j)%len(slopes)], slopes[(i+3*j+1)%len(slopes)]})
		}
	}
	for _, d := range vecs {
		all = append(all, takes{api.Frame{E1: d, E2: d, N: d}, d, d.X, d.X})
	}
	limbs := list(7, 8, 9, 0)
	shared := api.Vec{X: above(limbs, limbs[1:]), Y: above(limbs[:2], limbs), Z: below(limbs, limbs)}
	return append(all, takes{api.Frame{E1: shared, E2: shared, N: shared}, shared, shared.X, shared.Y})
}

// laid answers the number with its lists inside greater ones, so that what is written beyond their ends is seen, and those.
func laid(r api.Rat) (api.Rat, [][]uint32) {
	num, den := slices.Concat(list(77, 78), r.Num, list(79, 80, 81)), slices.Concat(list(77, 78), r.Den, list(79, 80, 81))
	return api.Rat{Neg: r.Neg, Num: num[2 : 2+len(r.Num)], Den: den[2 : 2+len(r.Den)]}, [][]uint32{num, den}
}

func laidVec(v api.Vec) (api.Vec, [][]uint32) {
	x, listsX := laid(v.X)
	y, listsY := laid(v.Y)
	z, listsZ := laid(v.Z)
	return api.Vec{X: x, Y: y, Z: z}, slices.Concat(listsX, listsY, listsZ)
}

func (g takes) laid() (takes, [][]uint32) {
	first, listsFirst := laidVec(g.f.E1)
	second, listsSecond := laidVec(g.f.E2)
	third, listsThird := laidVec(g.f.N)
	d, listsD := laidVec(g.d)
	u, listsU := laid(g.u)
	v, listsV := laid(g.v)
	return takes{api.Frame{E1: first, E2: second, N: third}, d, u, v}, slices.Concat(listsFirst, listsSecond, listsThird, listsD, listsU, listsV)
}

func clones(lists [][]uint32) [][]uint32 {
	out := make([][]uint32, len(lists))
	for i, l := range lists {
		out[i] = slices.Clone(l)
	}
	return out
}

func areSame(t *testing.T, got, want [][]uint32, what ...any) {
	t.Helper()
	if !slices.EqualFunc(got, want, slices.Equal[[]uint32]) {
		t.Errorf("%v: got %v, want %v", what, got, want)
	}
}

func fill(a []uint32, limb uint32) {
	for i := range a {
		a[i] = limb
	}
}

// wholes are the lists of all numbers, up to their capacities.
func wholes(l []api.Rat) [][]uint32 {
	var lists [][]uint32
	for _, r := range l {
		lists = append(lists, r.Num[:cap(r.Num)], r.Den[:cap(r.Den)])
	}
	return lists
}

// R4: an argument is not changed, neither are the limbs beside it.
func TestArgumentsAreNotChanged(t *testing.T) {
	for name, call := range calls() {
		for _, g := range given(t) {
			h, lists := g.laid()
			kept := clones(lists)
			call(h)
			areSame(t, lists, kept, name, g)
			direct := wholes(append(numbersOf(g.f.E1, g.f.E2, g.f.N, g.d), g.u, g.v))
			kept = clones(direct)
			call(g)
			areSame(t, direct, kept, name, "direct", g)
		}
	}
}

// R4: what is written to a list of an answer, up to its capacity, is not seen in an argument, in its other lists or in another answer, nor the other way round.
func TestAnswersShareNoMemory(t *testing.T) {
	for name, call := range calls() {
		for _, g := range given(t) {
			h, arguments := g.laid()
			kept := clones(arguments)
			answers := wholes(slices.Concat(call(h), call(h)))
			for i, l := range answers {
				fill(l, uint32(4711+i))
			}
			areSame(t, arguments, kept, name, g)
			for _, l := range arguments {
				fill(l, 4710)
			}
			for i, l := range answers {
				areSame(t, [][]uint32{l}, [][]uint32{run(len(l), uint32(4711+i))}, name, g)
			}
		}
	}
}

// R3: nothing is kept, so a call answers the same again, also if the first answer was written to.
func TestCallsAnswerTheSameAgain(t *testing.T) {
	for name, call := range calls() {
		for _, g := range given(t) {
			first, second := call(g), call(g)
			for _, l := range wholes(first) {
				fill(l, 4711)
			}
			for i, answer := range call(g) {
				isNumber(t, answer, second[i], name, g)
			}
		}
	}
}

// R2: all answers are canonical, also where the last result is false.
func TestAnswersAreCanonical(t *testing.T) {
	for name, call := range calls() {
		for _, g := range given(t) {
			for i, answer := range call(g) {
				isNumber(t, answer, ratOf(valueOf(answer)), name, i, g)
			}
		}
	}
}

// Answers hang on the numbers alone, not on how they are written; also R5: an empty list is a nil one.
func TestWritingsAreOfNoMoment(t *testing.T) {
	u, v := word("-3/2"), none()
	frames := append(skews()[1:4], told(t, words("0", "0", "1")), told(t, words("2/3", "1/3", "2/3")))
	for name, call := range calls() {
		for _, f := range frames {
			for _, d := range []api.Vec{origin(), words("0", "0", "1"), words("3", "4", "0"), words("2/3", "-2/3", "1/3"), {X: above(list(1, 2, 3), list(0, 1)), Y: none(), Z: word("-2/3")}} {
				want := call(takes{f, d, u, v})
				others, first, second := vecWritings(d), writings(u), writings(v)
				all := frameWritings(f)
				for i := range max(len(all), len(others)) {
					g := takes{all[i%len(all)], others[i%len(others)], first[i%len(first)], second[i%len(second)]}
					for j, answer := range call(g) {
						isNumber(t, answer, want[j], name, g)
					}
				}
			}
		}
	}
}

// P1: the calls end at long arguments, also at those that are long for limbs 0 alone.
func TestLongArguments(t *testing.T) {
	ones, nothing := run(120, top), run(1<<16, 0)
	long := []api.Rat{above(ones, ones[:53]), below(ones[:80], ones), above(nothing, ones), below(ones, nothing), above(nothing, nothing)}
	longVec := func(i int) api.Vec { return api.Vec{X: long[i%5], Y: long[(i+1)%5], Z: long[(i+2)%5]} }
	for _, call := range calls() {
		for i := range long {
			call(takes{api.Frame{E1: longVec(i), E2: longVec(i + 1), N: longVec(i + 3)}, longVec(i + 2), long[i], below(ones[:7], ones[:80])})
		}
	}
	one := api.Rat{Num: append(run(200, top), nothing...), Den: append(run(200, top), nothing...)}
	isOf(t, api.Vec{X: long[3], Y: long[4], Z: one}, words("1", "0", "0"), words("0", "1", "0"))
	isOf(t, api.Vec{X: long[3], Y: one, Z: long[2]}, words("1", "0", "0"), words("0", "0", "1"))
}
