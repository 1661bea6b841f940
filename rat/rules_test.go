package rat

import (
	"slices"
	"testing"

	"penumbra/api"
)

// calls are all the calls of the package on numbers, each as one of two numbers that answers numbers.
func calls() map[string]func(a, b api.Rat) []api.Rat {
	return map[string]func(a, b api.Rat) []api.Rat{
		"Read":  func(a, b api.Rat) []api.Rat { return []api.Rat{Read(a), Read(b)} },
		"Check": func(a, b api.Rat) []api.Rat { return []api.Rat{ofBool(Check(a)), ofBool(Check(b))} },
		"Same":  func(a, b api.Rat) []api.Rat { return []api.Rat{ofBool(Same(a, b))} },
		"Sum": func(a, b api.Rat) []api.Rat {
			return []api.Rat{Sum(), Sum(a), Sum(b), Sum(a, b), Sum(a, b, a), Sum(a, b, b, a, b)}
		},
		"Product": func(a, b api.Rat) []api.Rat {
			return []api.Rat{Product(), Product(a), Product(b), Product(a, b), Product(a, b, a), Product(a, b, b, a, b)}
		},
		"Neg": func(a, b api.Rat) []api.Rat { return []api.Rat{Neg(a), Neg(b)} },
		"Sub": func(a, b api.Rat) []api.Rat { return []api.Rat{Sub(a, b), Sub(b, a), Sub(a, a)} },
		"Div": func(a, b api.Rat) []api.Rat {
			quotient, _ := Div(a, b)
			turned, _ := Div(b, a)
			return []api.Rat{quotient, turned}
		},
		"Cmp":   func(a, b api.Rat) []api.Rat { return []api.Rat{Of(Cmp(a, b), 1)} },
		"Sign":  func(a, b api.Rat) []api.Rat { return []api.Rat{Of(Sign(a), 1)} },
		"Abs":   func(a, b api.Rat) []api.Rat { return []api.Rat{Abs(a), Abs(b)} },
		"Floor": func(a, b api.Rat) []api.Rat { return []api.Rat{Floor(a), Floor(b)} },
		"Sqrt": func(a, b api.Rat) []api.Rat {
			first, _ := Sqrt(a)
			second, _ := Sqrt(b)
			return []api.Rat{first, second}
		},
		"Of": func(a, b api.Rat) []api.Rat { return []api.Rat{Of(0, 0), Of(0, 1), Of(6, 4), Of(5, 3), Of(-5, 1)} },
	}
}

func ofBool(is bool) api.Rat {
	if is {
		return Of(1, 1)
	}
	return Of(0, 1)
}

// pairs are numbers for which calls take each of their ways: 0 and 1, with one Den, with whole numbers, squares; in the last ones lists are shared.
func pairs() [][2]api.Rat {
	one := list(7, 8, 9, 0)
	shared := above(one, one[1:])
	ones := []api.Rat{above(list(1), list(1)), below(list(1), list(1)), above(list(7, 0), list(7)), above(run(5, top), run(5, top))}
	others := slices.Concat(zeros(), ones, []api.Rat{
		above(list(2), list(3)), below(list(4), list(6)), below(list(9, 0), list(4, 0)), above(list(5), list(1)), below(list(1), list(5)), above(list(0, 0, 1), list(1, 2, 1)),
		above(run(6, top), run(4, top)), below(list(1, 2, 3, 4), list(5, 6, 7)),
	})
	all := [][2]api.Rat{{shared, shared}, {shared, above(one[:2], one)}, {below(one, one), shared}}
	for _, a := range others {
		for _, b := range others {
			all = append(all, [2]api.Rat{a, b})
		}
	}
	return all
}

// within is a list of these limbs inside a greater one, so that what is written beyond its end is seen.
func within(limbs []uint32) (whole, part []uint32) {
	whole = slices.Concat(list(77, 78), limbs, list(79, 80, 81))
	return whole, whole[2 : 2+len(limbs)]
}

// laid answers the number with its lists inside greater ones, and those.
func laid(r api.Rat) (api.Rat, [][]uint32) {
	wholeNum, num := within(r.Num)
	wholeDen, den := within(r.Den)
	return api.Rat{Neg: r.Neg, Num: num, Den: den}, [][]uint32{wholeNum, wholeDen}
}

func clones(lists [][]uint32) [][]uint32 {
	out := make([][]uint32, len(lists))
	for i, l := range lists {
		out[i] = slices.Clone(l)
	}
	return out
}

func areSame(t *testing.T, what string, got, want [][]uint32) {
	t.Helper()
	if !slices.EqualFunc(got, want, slices.Equal[[]uint32]) {
		t.Errorf("%s: got %v, want %v", what, got, want)
	}
}

func fill(a []uint32, limb uint32) {
	for i := range a {
		a[i] = limb
	}
}

// wholes are the lists of all numbers, up to their capacities.
func wholes(l []api.Rat) [][]uint32 {
	var lists [][]uint32
	for _, r := range l {
		lists = append(lists, r.Num[:cap(r.Num)], r.Den[:cap(r.Den)])
	}
	return lists
}

// R4: an argument is not changed, neither are the limbs beside it.
func TestArgumentsAreNotChanged(t *testing.T) {
	for name, call := range calls() {
		for _, p := range pairs() {
			a, listsA := laid(p[0])
			b, listsB := laid(p[1])
			lists := slices.Concat(listsA, listsB)
			kept := clones(lists)
			call(a, b)
			areSame(t, name+" "+text(p[:]...), lists, kept)
			keptPair := clones(wholes(p[:]))
			call(p[0], p[1])
			areSame(t, name+", shared "+text(p[:]...), wholes(p[:]), keptPair)
		}
	}
}

// R4: the list that sums and products are handed is not changed, nor what stands behind it.
func TestListsOfNumbersAreNotChanged(t *testing.T) {
	for n := range 9 {
		l := make([]api.Rat, 12)
		for i := range l {
			l[i] = api.Rat{Neg: i%3 == 0, Num: list(uint32(6*i), 0), Den: list(uint32(4*i), 0)}
		}
		kept, keptLists := slices.Clone(l), clones(wholes(l))
		Sum(l[:n]...)
		Product(l[:n]...)
		if !slices.EqualFunc(l, kept, equal) {
			t.Errorf("list of %d: got %v, want %v", n, l, kept)
		}
		areSame(t, "limbs", wholes(l), keptLists)
	}
}

// R4: what is written to a list of an answer, up to its capacity, is not seen in an argument, in its other list or in another answer, nor the other way round.
func TestAnswersShareNoMemory(t *testing.T) {
	for name, call := range calls() {
		for _, p := range pairs() {
			a, listsA := laid(p[0])
			b, listsB := laid(p[1])
			arguments := slices.Concat(listsA, listsB)
			kept := clones(arguments)
			answers := wholes(slices.Concat(call(a, b), call(a, b)))
			for i, l := range answers {
				fill(l, uint32(4711+i))
			}
			areSame(t, name+" "+text(p[:]...), arguments, kept)
			for _, l := range arguments {
				fill(l, 4710)
			}
			for i, l := range answers {
				areSame(t, name+" "+text(p[:]...), [][]uint32{l}, [][]uint32{run(len(l), uint32(4711+i))})
			}
		}
	}
}

// R3: nothing is kept, so a call answers the same again, also if the first answer was written to.
func TestCallsAnswerTheSameAgain(t *testing.T) {
	for name, call := range calls() {
		for _, p := range pairs() {
			first, second := call(p[0], p[1]), call(p[0], p[1])
			for _, l := range wholes(first) {
				fill(l, 4711)
			}
			for i, answer := range call(p[0], p[1]) {
				isJust(t, name+" "+text(p[:]...), answer, second[i])
			}
		}
	}
}

// All answers are canonical, and hang on the numbers alone, not on how they are written (but for Check's); also R5: an empty list is a nil one.
func TestWritingsAreOfNoMoment(t *testing.T) {
	for name, call := range calls() {
		if name == "Check" {
			continue
		}
		for _, a := range []api.Rat{Of(0, 1), Of(1, 1), Of(-9, 4), above(list(1, 2, 3), list(0, 1))} {
			for _, b := range []api.Rat{Of(0, 1), Of(-1, 1), Of(2, 3), above(list(1, 2, 3), list(0, 1))} {
				want := call(a, b)
				for _, x := range writings(a) {
					for _, y := range writings(b) {
						for i, answer := range call(x, y) {
							isJust(t, name+" "+text(x, y), answer, want[i])
							isJust(t, name+", canonical, "+text(x, y), answer, ratOf(valueOf(answer)))
						}
					}
				}
			}
		}
	}
}

// P1: the calls end at long arguments, also at those that are long for limbs 0 alone.
func TestLongArguments(t *testing.T) {
	ones, none := run(700, top), run(1<<18, 0)
	for _, call := range calls() {
		for _, a := range []api.Rat{above(ones, ones[:333]), below(ones[:500], ones), above(none, ones), below(ones, none), above(none, none)} {
			call(a, below(ones[:600], ones[:7]))
		}
	}
	part := append(list(1), run(999, 0)...)
	want := below(slices.Concat(part, part, list(1)), slices.Concat(part, list(1)))
	isJust(t, "long number", Read(below(run(3000, top), run(2000, top))), want)
}
