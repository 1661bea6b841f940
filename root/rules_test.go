package root

import (
	"fmt"
	"slices"
	"testing"
)

// answers are the lists that the calls answer, by their names.
func answers(a, b []uint32) map[string][]uint32 {
	first, _ := Sqrt(a)
	second, _ := Sqrt(b)
	return map[string][]uint32{"Gcd": Gcd(a, b), "Gcd turned": Gcd(b, a), "Sqrt": first, "Sqrt of the other": second}
}

// pairs are naturals for which the calls take each of their ways; in the last ones one list is both, or holds both.
func pairs() [][2][]uint32 {
	one := list(7, 8, 9, 10, 0)
	return [][2][]uint32{
		{nil, nil}, {list(), list(0)}, {list(5), nil}, {list(5, 0), list(0, 0)}, {nil, list(1, 2, 3, 4)}, {list(0), list(1, 2, 3, 4, 0)},
		{list(12), list(18)}, {list(1), list(1, 2, 3)}, {list(7, 7), list(5, 5)}, {list(0, 0, 0, 6), list(0, 0, 0, 4)}, {list(1, 2, 3, 4), list(1, 2, 3, 4, 0)},
		{list(1, 2, 3, 4, 5, 6, 7), list(9, 8, 7, 6, 5, 4, 3)}, {run(9, top), run(6, top)}, {run(9, top), list(0, 0, 1)},
		{one, one}, {one, one[1:]}, {one[:3], one},
	}
}

// within is a list of these limbs inside a greater one, so that what is written beyond its end is seen.
func within(limbs []uint32) (whole, part []uint32) {
	whole = slices.Concat(list(77, 78), limbs, list(79, 80, 81))
	return whole, whole[2 : 2+len(limbs)]
}

func fill(a []uint32, limb uint32) {
	for i := range a {
		a[i] = limb
	}
}

// R4: an argument is not changed, neither are the limbs beside it, nor one list that is both arguments.
func TestArgumentsAreNotChanged(t *testing.T) {
	for _, p := range pairs() {
		wholeA, a := within(p[0])
		wholeB, b := within(p[1])
		keptA, keptB := slices.Clone(wholeA), slices.Clone(wholeB)
		answers(a, b)
		isSame(t, "first argument", wholeA, keptA)
		isSame(t, "second argument", wholeB, keptB)
		kept := slices.Clone(p[0])
		answers(p[0], p[1])
		isSame(t, "shared argument", p[0], kept)
	}
}

// R4: what is written to an answer, up to its capacity, is not seen in an argument, nor the other way round; also where one of them is 0.
func TestAnswersShareNoMemory(t *testing.T) {
	for _, p := range pairs() {
		wholeA, a := within(p[0])
		wholeB, b := within(p[1])
		keptA, keptB := slices.Clone(wholeA), slices.Clone(wholeB)
		for name, answer := range answers(a, b) {
			fill(answer[:cap(answer)], 4711)
			isSame(t, name+": first argument", wholeA, keptA)
			isSame(t, name+": second argument", wholeB, keptB)
		}
		for name, answer := range answers(a, b) {
			kept := slices.Clone(answer)
			fill(wholeA, 4709)
			fill(wholeB, 4710)
			isSame(t, name+": answer", answer, kept)
			copy(wholeA, keptA)
			copy(wholeB, keptB)
		}
	}
}

// R3: nothing is kept, so a call answers the same again.
func TestCallsAnswerTheSameAgain(t *testing.T) {
	for _, p := range pairs() {
		first := answers(p[0], p[1])
		for name, answer := range answers(p[0], p[1]) {
			isSame(t, name, answer, first[name])
		}
	}
}

// R5: an empty list, a nil one and limbs 0 alone are one natural; limbs 0 at the end change nothing, and no answer has any there.
func TestLimbsAtTheEnd(t *testing.T) {
	for _, p := range pairs() {
		want := answers(p[0], p[1])
		for _, zeros := range [][]uint32{{}, {0}, {0, 0, 0}} {
			a := slices.Concat(p[0], zeros)
			for name, answer := range answers(a, slices.Concat(p[1], zeros)) {
				isSame(t, fmt.Sprint(name, a, p[1], zeros), answer, want[name])
				if n := len(answer); n > 0 && answer[n-1] == 0 {
					t.Errorf("%s: %v is not normal", name, answer)
				}
			}
			isSame(t, "divisor of a and 0", Gcd(a, zeros), Gcd(p[0], nil))
			isSame(t, "divisor of 0 and a", Gcd(zeros, a), Gcd(nil, p[0]))
		}
	}
}

// P1: the calls end at long arguments, also at those that are long for limbs 0 alone.
func TestLongArguments(t *testing.T) {
	ones, zeros := run(4000, top), run(1<<20, 0)
	for _, p := range [][2][]uint32{{ones, ones[:1999]}, {ones, zeros}, {zeros, zeros}, {ones, ones}} {
		answers(p[0], p[1])
	}
	isSame(t, "long divisor", Gcd(ones, ones[:3000]), ones[:1000])
}
