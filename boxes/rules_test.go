package boxes

import (
	"slices"
	"testing"

	"penumbra/api"
)

// takes is what a call is given.
type takes struct {
	points []api.Vec
	boxes  []api.Box
	o, d   api.Vec
}

// told is a true or a false as a number, so that answers are numbers alone.
func told(is bool) api.Rat {
	if is {
		return above(list(1), list(1))
	}
	return none()
}

// calls are all the calls of the package, each as one that answers numbers.
func calls() map[string]func(g takes) []api.Rat {
	return map[string]func(g takes) []api.Rat{
		"Around": func(g takes) []api.Rat {
			return numbersOfBoxes(Around(g.points...), Around(g.points[:len(g.points)/2]...), Around(g.o, g.d), Around(g.o), Around())
		},
		"Join": func(g takes) []api.Rat {
			return numbersOfBoxes(Join(g.boxes...), Join(g.boxes[:len(g.boxes)/2]...), Join(api.Box{Lo: g.o, Hi: g.d}, api.Box{Lo: g.d, Hi: g.o}), Join(api.Box{Lo: g.o, Hi: g.o}), Join())
		},
		"Holds": func(g takes) []api.Rat {
			var out []api.Rat
			for _, b := range g.boxes {
				out = append(out, told(Holds(b, g.o)), told(Holds(b, b.Lo)), told(Holds(api.Box{Lo: b.Lo, Hi: b.Lo}, b.Lo)), told(Holds(api.Box{Lo: b.Hi, Hi: g.d}, b.Lo)))
			}
			return out
		},
		"Clip": func(g takes) []api.Rat {
			var out []api.Rat
			for _, b := range g.boxes {
				for _, l := range []ray{{g.o, g.d}, {g.d, g.o}, {b.Lo, g.d}, {b.Lo, b.Hi}, {g.o, api.Vec{}}} {
					span, ok := Clip(l.o, l.d, b)
					out = append(out, span.From, span.To, told(span.Open), told(ok))
				}
			}
			return out
		},
	}
}

func numbersOfBoxes(l ...api.Box) []api.Rat {
	var out []api.Rat
	for _, b := range l {
		out = append(out, numbersOf(b.Lo, b.Hi)...)
	}
	return out
}

// givenRays are rays of which some go through the document's box, some touch it, some begin in it, some pass, some stand; canonical and not.
func givenRays() []ray {
	all := []ray{
		{words("-1 1/2 1/2"), words("2 0 0")}, {words("1/2 1/2 1/2"), words("0 0 0")}, {words("2 0 0"), words("1 0 0")}, {words("0 0 0"), words("0 1 0")},
		{words("-1 -1 -1"), words("1 1 1")}, {words("3 4 5"), words("-1 -1 -3/2")}, {words("-1 1 1/2"), words("1 -1 0")}, {words("1/3 2/3 1/2"), words("-1 2 1/7")},
		{words("-1 0 1/2"), words("1 2 0")}, {words("5 7 -11"), api.Vec{}}, {api.Vec{}, words("1 2 3")}, {api.Vec{}, api.Vec{}},
		{places()[38], words("1 2 3")}, {places()[33], places()[48]},
		{api.Vec{X: below(list(1), nil), Y: above(run(5, top), run(5, top)), Z: above(list(4), list(0, 0, 0))}, words("-1/3 -2/3 1/9")},
	}
	for _, l := range all[:9] {
		all = append(all, ray{loose(l.o), loose(l.d)})
	}
	return all
}

// given are arguments for which calls take each of their ways; in the last ones Vecs and lists are shared.
func given() []takes {
	r := source(21)
	var all []takes
	for i, b := range slices.Concat(full(), void(), []api.Box{looseBox(cube()), looseBox(slanted())}) {
		for j, l := range givenRays() {
			points := append(anyPoints(r, (i+j)%5), b.Lo, l.o, b.Hi, l.d)
			all = append(all, takes{points, append(anyBoxes(r, (i+2*j)%3), b, cube()), l.o, l.d})
		}
	}
	for _, p := range places() {
		all = append(all, takes{[]api.Vec{p, p, p}, []api.Box{{Lo: p, Hi: p}, {Lo: p, Hi: p}}, p, p}, takes{nil, nil, p, words("1 2 3")})
	}
	limbs := list(7, 8, 9, 0)
	shared := api.Vec{X: above(limbs, limbs[1:]), Y: above(limbs[:2], limbs), Z: below(limbs, limbs)}
	turned := api.Vec{X: shared.Z, Y: shared.X, Z: shared.Y}
	same := api.Vec{X: shared.X, Y: shared.X, Z: shared.X}
	return append(all, takes{[]api.Vec{shared, turned, same}, []api.Box{{Lo: shared, Hi: turned}, {Lo: same, Hi: same}}, shared, turned}, takes{[]api.Vec{same, same}, []api.Box{{Lo: turned, Hi: same}}, same, same})
}

// laid answers the number with its lists inside greater ones, so that what is written beyond their ends is seen, and those.
func laid(r api.Rat) (api.Rat, [][]uint32) {
	num, den := slices.Concat(list(77, 78), r.Num, list(79, 80, 81)), slices.Concat(list(77, 78), r.Den, list(79, 80, 81))
	return api.Rat{Neg: r.Neg, Num: num[2 : 2+len(r.Num)], Den: den[2 : 2+len(r.Den)]}, [][]uint32{num, den}
}

func laidVec(v api.Vec) (api.Vec, [][]uint32) {
	x, listsX := laid(v.X)
	y, listsY := laid(v.Y)
	z, listsZ := laid(v.Z)
	return api.Vec{X: x, Y: y, Z: z}, slices.Concat(listsX, listsY, listsZ)
}

func laidBox(b api.Box) (api.Box, [][]uint32) {
	lo, listsLo := laidVec(b.Lo)
	hi, listsHi := laidVec(b.Hi)
	return api.Box{Lo: lo, Hi: hi}, append(listsLo, listsHi...)
}

func (g takes) laid() (takes, [][]uint32) {
	o, lists := laidVec(g.o)
	d, listsD := laidVec(g.d)
	lists = append(lists, listsD...)
	h := takes{o: o, d: d}
	for _, p := range g.points {
		q, more := laidVec(p)
		h.points, lists = append(h.points, q), append(lists, more...)
	}
	for _, b := range g.boxes {
		c, more := laidBox(b)
		h.boxes, lists = append(h.boxes, c), append(lists, more...)
	}
	return h, lists
}

// numbers are all numbers of what is given.
func (g takes) numbers() []api.Rat {
	return slices.Concat(numbersOf(g.points...), numbersOfBoxes(g.boxes...), numbersOf(g.o, g.d))
}

func clones(lists [][]uint32) [][]uint32 {
	out := make([][]uint32, len(lists))
	for i, l := range lists {
		out[i] = slices.Clone(l)
	}
	return out
}

func areSame(t *testing.T, got, want [][]uint32, what ...any) {
	t.Helper()
	if !slices.EqualFunc(got, want, slices.Equal[[]uint32]) {
		t.Errorf("%v: got %v, want %v", what, got, want)
	}
}

func fill(a []uint32, limb uint32) {
	for i := range a {
		a[i] = limb
	}
}

// wholes are the lists of all numbers, up to their capacities.
func wholes(l []api.Rat) [][]uint32 {
	var lists [][]uint32
	for _, r := range l {
		lists = append(lists, r.Num[:cap(r.Num)], r.Den[:cap(r.Den)])
	}
	return lists
}

// R4: an argument is not changed, neither are the limbs beside it.
func TestArgumentsAreNotChanged(t *testing.T) {
	for name, call := range calls() {
		for _, g := range given() {
			h, lists := g.laid()
			kept := clones(lists)
			call(h)
			areSame(t, lists, kept, name, g)
			direct := wholes(g.numbers())
			kept = clones(direct)
			call(g)
			areSame(t, direct, kept, name, "direct", g)
		}
	}
}

// R4: a list that is handed over as it is keeps its points, or boxes, in their order, with their signs and lists, and so does what stands beside it.
func TestListsHandedOverAreNotChanged(t *testing.T) {
	r := source(22)
	for i := range 400 {
		points, boxes := anyPoints(r, 2+i%6), anyBoxes(r, 2+i%6)
		keptPoints, keptBoxes := slices.Clone(points), slices.Clone(boxes)
		Around(points[1 : len(points)-1]...)
		Around(points...)
		Join(boxes[1 : len(boxes)-1]...)
		Join(boxes...)
		before, after := append(numbersOf(keptPoints...), numbersOfBoxes(keptBoxes...)...), append(numbersOf(points...), numbersOfBoxes(boxes...)...)
		for place, number := range after {
			areAlike(t, number, before[place], place, keptPoints, keptBoxes)
		}
	}
}

// areAlike asks for the very same writing, in the same memory.
func areAlike(t *testing.T, got, want api.Rat, what ...any) {
	t.Helper()
	isSameList := func(a, b []uint32) bool {
		return len(a) == len(b) && cap(a) == cap(b) && (cap(a) == 0 || &a[:1][0] == &b[:1][0])
	}
	if got.Neg != want.Neg || !isSameList(got.Num, want.Num) || !isSameList(got.Den, want.Den) {
		t.Errorf("%v: got %v, want %v", what, got, want)
	}
}

// R4: what is written to a list of an answer, up to its capacity, is not seen in an argument, in its other lists or in another answer, nor the other way round.
func TestAnswersShareNoMemory(t *testing.T) {
	for name, call := range calls() {
		for _, g := range given() {
			h, arguments := g.laid()
			kept := clones(arguments)
			answers := wholes(slices.Concat(call(h), call(h)))
			for i, l := range answers {
				fill(l, uint32(4711+i))
			}
			areSame(t, arguments, kept, name, g)
			for _, l := range arguments {
				fill(l, 4710)
			}
			for i, l := range answers {
				areSame(t, [][]uint32{l}, [][]uint32{run(len(l), uint32(4711+i))}, name, g)
			}
		}
	}
}

// R3: nothing is kept, so a call answers the same again, also if the first answer was written to.
func TestCallsAnswerTheSameAgain(t *testing.T) {
	for name, call := range calls() {
		for _, g := range given() {
			first, second := call(g), call(g)
			for _, l := range wholes(first) {
				fill(l, 4711)
			}
			for i, answer := range call(g) {
				isNumber(t, answer, second[i], name, g)
			}
		}
	}
}

// R2: all answers are canonical, also where the last result is false.
func TestAnswersAreCanonical(t *testing.T) {
	for name, call := range calls() {
		for _, g := range given() {
			for i, answer := range call(g) {
				isNumber(t, answer, ratOf(valueOf(answer)), name, i, g)
			}
		}
	}
}

// Answers hang on the numbers alone, not on how they are written; also R5: an empty list is a nil one.
func TestWritingsAreOfNoMoment(t *testing.T) {
	all := append(full()[:8], void()[0], void()[6], void()[9])
	for name, call := range calls() {
		for i, b := range all {
			for j, l := range givenRays()[:12] {
				p := places()[(5*i+j)%50]
				want := call(takes{[]api.Vec{b.Lo, l.o, b.Hi, p}, []api.Box{b, {Lo: p, Hi: b.Lo}}, l.o, l.d})
				boxes, begins, directions, lows, points := boxWritings(b), vecWritings(l.o), vecWritings(l.d), vecWritings(b.Lo), vecWritings(p)
				for k := range 24 {
					box, begin, low, point := boxes[(5*k+j)%len(boxes)], begins[(7*k+i)%len(begins)], lows[(3*k+i)%len(lows)], points[(k+j)%len(points)]
					g := takes{[]api.Vec{low, begin, box.Hi, point}, []api.Box{box, {Lo: point, Hi: low}}, begin, directions[(3*k+j)%len(directions)]}
					for place, answer := range call(g) {
						isNumber(t, answer, want[place], name, g)
					}
				}
			}
		}
	}
}

// P10.2: one thing that is not canonical, beside canonical ones: the begin, the direction and each corner by themselves.
func TestClipBesideOneThingWrittenOtherwise(t *testing.T) {
	for _, l := range givenRays()[:14] {
		for _, b := range []api.Box{cube(), slanted(), boxWords("0 0 0", "0 1 1"), void()[1]} {
			want, ok := spanOf(l.o, l.d, b)
			for _, other := range boxWritings(b) {
				isSpan(t, l.o, l.d, other, want, ok)
			}
			for _, o := range vecWritings(l.o) {
				isSpan(t, o, l.d, b, want, ok)
			}
			for _, d := range vecWritings(l.d) {
				isSpan(t, l.o, d, b, want, ok)
			}
		}
	}
}

// P1: the calls end at long arguments, also at those that are long for limbs 0 alone.
func TestLongArguments(t *testing.T) {
	ones, nothing := run(40, top), run(1<<16, 0)
	long := []api.Rat{above(ones, ones[:17]), below(ones[:27], ones), above(nothing, ones), below(ones, nothing), above(nothing, nothing)}
	longVec := func(i int) api.Vec { return api.Vec{X: long[i%5], Y: long[(i+1)%5], Z: long[(i+2)%5]} }
	for _, call := range calls() {
		for i := range long {
			points := []api.Vec{longVec(i), longVec(i + 2), {}, longVec(i + 4)}
			call(takes{points, []api.Box{{Lo: longVec(i + 3), Hi: longVec(i + 1)}, {Lo: longVec(i + 2), Hi: longVec(i)}}, longVec(i + 2), longVec(i + 4)})
		}
	}
	single, zero := api.Rat{Num: append(run(60, top), nothing...), Den: append(run(60, top), nothing...)}, long[3]
	b := api.Box{Lo: api.Vec{X: zero, Y: long[2], Z: long[4]}, Hi: api.Vec{X: single, Y: single, Z: single}}
	isBox(t, Join(b, b), cube())
	isBox(t, Around(b.Lo, b.Hi), cube())
	isHolding(t, b, b.Hi, true)
	isFromTo(t, api.Vec{X: zero, Y: single, Z: zero}, api.Vec{X: zero, Y: api.Rat{Neg: true, Num: single.Num, Den: single.Den}, Z: zero}, b, none(), word("1"))
	isOpen(t, b.Lo, api.Vec{X: zero, Y: long[2], Z: long[4]}, b)
}
