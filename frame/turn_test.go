package frame

import (
	"testing"

	"penumbra/api"
)

func inOf(f api.Frame, d api.Vec) api.Vec {
	v := valuesOf(d)
	return vecOf(values{dotOf(v, valuesOf(f.E1)), dotOf(v, valuesOf(f.E2)), dotOf(v, valuesOf(f.N))})
}

func outOf(f api.Frame, d api.Vec) api.Vec {
	v, first, second, third := valuesOf(d), valuesOf(f.E1), valuesOf(f.E2), valuesOf(f.N)
	var sum values
	for i := range sum {
		sum[i] = plus(plus(times(v[0], first[i]), times(v[1], second[i])), times(v[2], third[i]))
	}
	return vecOf(sum)
}

// isTurned holds In and Out against another reckoner.
func isTurned(t *testing.T, f api.Frame, d api.Vec) {
	t.Helper()
	isVec(t, In(f, d), inOf(f, d), "In", f, d)
	isVec(t, Out(f, d), outOf(f, d), "Out", f, d)
}

// told answers the frame that Of tells; the test ends where it tells none.
func told(t *testing.T, n api.Vec) api.Frame {
	t.Helper()
	f, ok := Of(n)
	if !ok {
		t.Fatalf("Of %v: false", n)
	}
	return f
}

// lengthOne are directions that have a frame.
func lengthOne() []api.Vec {
	return []api.Vec{
		words("0", "0", "1"), words("0", "0", "-1"), words("1", "0", "0"), words("0", "-1", "0"),
		words("2/3", "1/3", "2/3"), words("-6/7", "2/7", "-3/7"), words("0", "3/5", "4/5"), words("-3/5", "4/5", "0"),
	}
}

// P6.2: numbers that can be reckoned by hand, in frames that Of tells.
func TestInAndOutOfNamedFrames(t *testing.T) {
	straight, back, example := told(t, words("0", "0", "1")), told(t, words("0", "0", "-1")), told(t, words("2/3", "1/3", "2/3"))
	isVec(t, In(straight, words("3", "4", "2")), words("3", "4", "2"))
	isVec(t, Out(straight, words("3", "4", "2")), words("3", "4", "2"))
	isVec(t, In(back, words("3", "4", "2")), words("3", "4", "-2"))
	isVec(t, Out(back, words("3", "4", "2")), words("3", "4", "-2"))
	isVec(t, In(example, words("1", "2", "3")), words("1/3", "5/3", "10/3"))
	isVec(t, Out(example, words("1/3", "5/3", "10/3")), words("1", "2", "3"))
	isVec(t, In(example, words("2/3", "1/3", "2/3")), words("0", "0", "1"))
	isVec(t, Out(example, words("0", "0", "1")), words("2/3", "1/3", "2/3"))
	isVec(t, In(example, origin()), origin())
	isVec(t, Out(example, api.Vec{}), origin())
}

// P6.2: each number of the frame, and of the direction, by itself: In tells rows, Out tells columns.
func TestInAndOutOfSkewFrames(t *testing.T) {
	f := skews()[2]
	isVec(t, In(f, words("1", "0", "0")), words("1", "5", "13"))
	isVec(t, In(f, words("0", "1", "0")), words("2", "7", "17"))
	isVec(t, In(f, words("0", "0", "1")), words("3", "11", "19"))
	isVec(t, In(f, words("-1", "1/2", "2")), words("6", "41/2", "67/2"))
	isVec(t, Out(f, words("1", "0", "0")), words("1", "2", "3"))
	isVec(t, Out(f, words("0", "1", "0")), words("5", "7", "11"))
	isVec(t, Out(f, words("0", "0", "1")), words("13", "17", "19"))
	isVec(t, Out(f, words("-1", "1/2", "2")), words("55/2", "71/2", "81/2"))
	for _, d := range mixed() {
		for _, none := range []api.Frame{{}, noFrame()} {
			isVec(t, In(none, d), origin(), d)
			isVec(t, Out(none, d), origin(), d)
		}
	}
}

// P6.2: all kinds of numbers, in frames that Of tells and in ones that no n has.
func TestInAndOutOfKinds(t *testing.T) {
	frames := skews()
	for _, n := range lengthOne() {
		frames = append(frames, told(t, n))
	}
	for _, f := range frames {
		for _, d := range mixed() {
			isTurned(t, f, d)
			isTurned(t, looseFrame(f), loose(d))
		}
	}
}

// P6.2: one Vec in several places.
func TestInAndOutOfSameVec(t *testing.T) {
	for _, d := range append(mixed(), lengthOne()...) {
		isTurned(t, api.Frame{E1: d, E2: d, N: d}, d)
		isTurned(t, api.Frame{E1: d, E2: words("1", "-2", "1/3"), N: d}, d)
		isTurned(t, api.Frame{E1: words("1", "-2", "1/3"), E2: d, N: origin()}, d)
	}
}

// P6.2: numbers that are mostly not canonical.
func TestInAndOutOfManyFrames(t *testing.T) {
	r := source(3)
	for range 1500 {
		f, d := anyFrame(r, 1+r.IntN(5)), point(r, 1+r.IntN(5))
		isTurned(t, f, d)
		isTurned(t, told(t, vecOf(unit(r, 1+r.IntN(4)))), d)
	}
}
