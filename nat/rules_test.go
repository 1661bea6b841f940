package nat

import (
	"fmt"
	"math"
	"slices"
	"testing"

	"penumbra/api"
)

// calls are all the calls of the package, each as one of two naturals that answers lists.
func calls() map[string]func(a, b []uint32) [][]uint32 {
	return map[string]func(a, b []uint32) [][]uint32{
		"Norm": func(a, b []uint32) [][]uint32 { return [][]uint32{Norm(a)} },
		"Bits": func(a, b []uint32) [][]uint32 { return [][]uint32{Of(uint64(Bits(a)))} },
		"Cmp":  func(a, b []uint32) [][]uint32 { return [][]uint32{Of(uint64(Cmp(a, b) + 1))} },
		"Add":  func(a, b []uint32) [][]uint32 { return [][]uint32{Add(a, b)} },
		"Sub": func(a, b []uint32) [][]uint32 {
			rest, _ := Sub(a, b)
			return [][]uint32{rest}
		},
		"Mul": func(a, b []uint32) [][]uint32 { return [][]uint32{Mul(a, b)} },
		"Shl 0": func(a, b []uint32) [][]uint32 {
			out, _ := Shl(a, 0)
			return [][]uint32{out}
		},
		"Shl 32": func(a, b []uint32) [][]uint32 {
			out, _ := Shl(a, 32)
			return [][]uint32{out}
		},
		"Shl 45": func(a, b []uint32) [][]uint32 {
			out, _ := Shl(a, 45)
			return [][]uint32{out}
		},
		"DivMod": func(a, b []uint32) [][]uint32 {
			q, r, _ := DivMod(a, b)
			return [][]uint32{q, r}
		},
	}
}

// pairs are naturals for which calls take each of their ways; one natural is one list twice.
func pairs() [][2][]uint32 {
	one := list(7, 8, 9, 0)
	return [][2][]uint32{
		{nil, nil}, {list(), list(0)}, {list(5), nil}, {nil, list(5)}, {list(5), list(0, 0)}, {list(5, 0), list(7, 0)}, {list(7), list(5)}, {list(9, 9), list(1)},
		{list(1, 2, 3), list(4, 5)}, {list(4, 5), list(1, 2, 3, 0)}, {list(1, 2, 3, 0, 0), list(1, 2, 3)}, {run(9, top), run(4, top)},
		{list(0, top, top), list(1, 1, 1)}, {one, one}, {one, one[1:]}, {one[:2], one},
	}
}

// within is a list of these limbs inside a greater one, so that what is written beyond its end is seen.
func within(limbs []uint32) (whole, part []uint32) {
	whole = join(list(77, 78), limbs, list(79, 80, 81))
	return whole, whole[2 : 2+len(limbs)]
}

func fill(a []uint32, limb uint32) {
	for i := range a {
		a[i] = limb
	}
}

// R4: an argument is not changed, neither are the limbs beside it.
func TestArgumentsAreNotChanged(t *testing.T) {
	for name, call := range calls() {
		for _, p := range pairs() {
			wholeA, a := within(p[0])
			wholeB, b := within(p[1])
			keptA, keptB := slices.Clone(wholeA), slices.Clone(wholeB)
			call(a, b)
			isSame(t, name+": first argument", wholeA, keptA)
			isSame(t, name+": second argument", wholeB, keptB)
			kept := slices.Clone(p[0])
			call(p[0], p[1])
			isSame(t, name+": shared argument", p[0], kept)
		}
	}
}

// R4: what is written to an answer, up to its capacity, is not seen in an argument or in another answer, nor the other way round.
func TestAnswersShareNoMemory(t *testing.T) {
	for name, call := range calls() {
		for _, p := range pairs() {
			wholeA, a := within(p[0])
			wholeB, b := within(p[1])
			keptA, keptB := slices.Clone(wholeA), slices.Clone(wholeB)
			answers := call(a, b)
			for i, answer := range answers {
				fill(answer[:cap(answer)], uint32(4711+i))
			}
			isSame(t, name+": first argument", wholeA, keptA)
			isSame(t, name+": second argument", wholeB, keptB)
			fill(wholeA, 4709)
			fill(wholeB, 4710)
			for i, answer := range answers {
				whole := answer[:cap(answer)]
				isSame(t, name+": answer", whole, run(len(whole), uint32(4711+i)))
			}
		}
	}
}

// R3: nothing is kept, so a call answers the same again.
func TestCallsAnswerTheSameAgain(t *testing.T) {
	for name, call := range calls() {
		for _, p := range pairs() {
			first := call(p[0], p[1])
			for i, answer := range call(p[0], p[1]) {
				isSame(t, name, answer, first[i])
			}
		}
	}
}

// R5 and P1.1: an empty list, a nil one and limbs 0 alone are one natural.
func TestEmptyIsNil(t *testing.T) {
	zeros := [][]uint32{nil, {}, {0}, {0, 0, 0}}
	for name, call := range calls() {
		for _, other := range [][]uint32{nil, list(5), list(1, 2, 3)} {
			for _, zero := range zeros {
				what := fmt.Sprint(name, zero, other)
				for i, answer := range call(zero, other) {
					isSame(t, what, answer, call(nil, other)[i])
				}
				for i, answer := range call(other, zero) {
					isSame(t, what, answer, call(other, nil)[i])
				}
			}
		}
	}
}

// P1.1 to P1.3: answers have no limbs 0 at their end.
func TestAnswersAreNormal(t *testing.T) {
	s := &source{state: 5}
	for range 2000 {
		a, b := join(s.natural(6), run(s.below(3), 0)), join(s.natural(6), run(s.below(3), 0))
		for name, call := range calls() {
			for _, answer := range call(a, b) {
				if n := len(answer); n > 0 && answer[n-1] == 0 {
					t.Errorf("%s %v %v: %v is not normal", name, a, b, answer)
				}
			}
		}
	}
}

// P1: calls end at long arguments, also at those that are long for limbs 0 alone.
func TestLongArguments(t *testing.T) {
	ones, zeros := run(4000, top), run(1<<20, 0)
	for _, call := range calls() {
		for _, p := range [][2][]uint32{{ones, ones}, {ones, ones[:1500]}, {ones[:1500], ones}, {zeros, ones}, {ones, zeros}, {zeros, zeros}} {
			call(p[0], p[1])
		}
	}
	for _, n := range []int{math.MinInt, -1, api.MaxShift, math.MaxInt} {
		if _, ok := Shl(ones, n); ok != (n == api.MaxShift) {
			t.Errorf("Shl by %d: %v", n, ok)
		}
	}
	q, r, ok := DivMod(Mul(ones, ones[:1500]), ones)
	if !ok {
		t.Error("DivMod: false")
	}
	isSame(t, "long quotient", q, ones[:1500])
	isSame(t, "long rest", r, nil)
}
