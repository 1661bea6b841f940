package decimal

import (
	"slices"
	"strings"
	"testing"

	"penumbra/api"
)

// numbers are such as Print takes each of its ways with; in the last ones lists are shared.
func numbers() []api.Rat {
	one := list(7, 8, 9, 0)
	return []api.Rat{
		{}, {Neg: true}, none(), below(list(0, 0), list(5)), above(list(5), list(0, 0)), above(list(3), list(1)), below(list(3), list(1)), above(list(2, 3), list(5)), below(list(1, 2, 3), list(4, 5)),
		above(list(6, 0), list(4, 0)), below(list(0, 0, 6), list(0, 4)), above(run(40, top), run(20, top)), below(run(33, top), run(32, 1)),
		above(one, one), below(one, one[1:]), above(one[:2], one),
	}
}

// texts are such as Parse takes each of its ways with.
func texts() []string {
	return []string{
		"", "-", "x", "1/0", "0", "-0", "7", "-12", "1.5", "-0.125", "6/4", "-1/3", "1/1", strings.Repeat("7", 500), strings.Repeat("3", 300) + "/" + strings.Repeat("11", 200), "0." + strings.Repeat("9", 400),
		noughts(api.MaxDigit), noughts(api.MaxDigit + 1),
	}
}

// within is a list of these limbs inside a greater one, so that what is written beyond its end is seen.
func within(limbs []uint32) (whole, part []uint32) {
	whole = slices.Concat(list(77, 78), limbs, list(79, 80, 81))
	return whole, whole[2 : 2+len(limbs)]
}

func fill(a []uint32, limb uint32) {
	for i := range a {
		a[i] = limb
	}
}

// R4: an argument is not changed, neither are the limbs beside it.
func TestArgumentsAreNotChanged(t *testing.T) {
	for _, a := range numbers() {
		wholeNum, num := within(a.Num)
		wholeDen, den := within(a.Den)
		keptNum, keptDen := slices.Clone(wholeNum), slices.Clone(wholeDen)
		Print(api.Rat{Neg: a.Neg, Num: num, Den: den})
		Natural(num)
		Natural(den)
		if !slices.Equal(wholeNum, keptNum) || !slices.Equal(wholeDen, keptDen) {
			t.Errorf("%v: changed", a)
		}
		kept := api.Rat{Neg: a.Neg, Num: slices.Clone(a.Num), Den: slices.Clone(a.Den)}
		Print(a)
		Natural(a.Num)
		if !equal(a, kept) {
			t.Errorf("%v: changed from %v", a, kept)
		}
	}
}

// R4: a text that is an answer stays as it is if the limbs change. (A number's limbs are no bytes of a text.)
func TestAnswersShareNoMemoryWithArguments(t *testing.T) {
	for _, a := range numbers() {
		num, den := slices.Clone(a.Num), slices.Clone(a.Den)
		text, digits := Print(api.Rat{Neg: a.Neg, Num: num, Den: den}), Natural(num)
		fill(num, 4711)
		fill(den, 4712)
		isText(t, a, text, printed(a))
		isText(t, a.Num, digits, bigOf(a.Num).String())
	}
}

// R4: what is written to a list of an answer, up to its capacity, is not seen in its other list or in another answer.
func TestAnswersShareNoMemory(t *testing.T) {
	var lists [][]uint32
	for range 2 {
		for _, s := range texts() {
			a, _ := Parse(s)
			lists = append(lists, a.Num[:cap(a.Num)], a.Den[:cap(a.Den)])
		}
	}
	for i, l := range lists {
		fill(l, uint32(4711+i))
	}
	for i, l := range lists {
		if !slices.Equal(l, run(len(l), uint32(4711+i))) {
			t.Errorf("list %d shares memory: %v", i, l)
		}
	}
}

// R3: nothing is kept, so a call answers the same again, also if the first answer was written to.
func TestCallsAnswerTheSameAgain(t *testing.T) {
	for _, s := range texts() {
		first, e := Parse(s)
		kept := api.Rat{Neg: first.Neg, Num: slices.Clone(first.Num), Den: slices.Clone(first.Den)}
		fill(first.Num, 4711)
		fill(first.Den, 4711)
		if again, other := Parse(s); other != e || !equal(again, kept) {
			t.Errorf("Parse %q: got %v, %d, want %v, %d", short(s), again, other, kept, e)
		}
	}
	for _, a := range numbers() {
		isText(t, a, Print(a), Print(a))
		isText(t, a, Natural(a.Num), Natural(a.Num))
	}
}

// R2: beside an error stands the canonical 0; where several errors apply the one named first is told.
func TestErrorsStandInTheirOrder(t *testing.T) {
	over := noughts(api.MaxDigit)
	for _, test := range []struct {
		text string
		want api.Errno
	}{
		{"1/0" + over, api.ErrNumLong}, {"x/0" + over, api.ErrNumLong}, {"x" + over, api.ErrNumLong}, {"x/0", api.ErrNumForm}, {"-1/0.", api.ErrNumForm}, {"1/0", api.ErrNumZero},
	} {
		isRefused(t, test.text, test.want)
	}
}

// R1: the calls end at long arguments, also at those that are long for limbs 0 alone. R5: an empty list is a nil one.
func TestLongAndEmptyArguments(t *testing.T) {
	long := run(1<<20, 0)
	isText(t, "limbs 0", Natural(long), "0")
	isText(t, "limbs 0", Print(above(long, long)), "0")
	isText(t, "limbs 0", Print(below(list(7), long)), "0")
	long[0] = 12
	isText(t, "limbs 0 at the end", Natural(long), "12")
	isText(t, "limbs 0 at the end", Print(below(long, append(list(18), long[1:]...))), "-2/3")
	for _, empty := range [][]uint32{nil, {}} {
		isText(t, empty, Natural(empty), "0")
		isText(t, empty, Print(above(empty, list(3))), "0")
		isText(t, empty, Print(below(list(3), empty)), "0")
	}
	isRefused(t, strings.Repeat("-", 1<<22), api.ErrNumLong)
}
