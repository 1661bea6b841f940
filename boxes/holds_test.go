package boxes

import (
	"math/big"
	"slices"
	"testing"

	"penumbra/api"
)

// beyond answers a little more than x, or a little less.
func beyond(x *big.Rat, isMore bool) *big.Rat {
	if isMore {
		return plus(x, tiny())
	}
	return minus(x, tiny())
}

// spots are numbers of a side from lo to hi: at its ends, in its middle, and just beyond.
func spots(lo, hi *big.Rat) []*big.Rat {
	return []*big.Rat{lo, hi, times(big.NewRat(1, 2), plus(lo, hi)), plus(times(big.NewRat(1, 7), lo), times(big.NewRat(6, 7), hi)), beyond(lo, false), beyond(hi, true)}
}

// grid are points of each spot in each number: within the box, on its sides, edges and corners, beyond one of its sides, two, three.
func grid(b api.Box) []values {
	lo, hi := valuesOf(b.Lo), valuesOf(b.Hi)
	var all []values
	for _, x := range spots(lo[0], hi[0]) {
		for _, y := range spots(lo[1], hi[1]) {
			for _, z := range spots(lo[2], hi[2]) {
				all = append(all, values{x, y, z})
			}
		}
	}
	return all
}

// P10.1: points within, on each side, edge and corner, and beyond.
func TestHoldsNamedPoints(t *testing.T) {
	for _, c := range []struct {
		point   string
		isThere bool
	}{
		{"1/2 1/2 1/2", true}, {"0 0 0", true}, {"1 1 1", true}, {"1 0 1", true}, {"0 1/2 1", true}, {"1 1/3 2/3", true}, {"1/3 0 2/3", true}, {"1/3 2/3 1", true},
		{"-1 1/2 1/2", false}, {"2 1/2 1/2", false}, {"1/2 -1 1/2", false}, {"1/2 2 1/2", false}, {"1/2 1/2 -1", false}, {"1/2 1/2 2", false},
		{"-1/100 1/2 1/2", false}, {"101/100 1/2 1/2", false}, {"0 -1/100 0", false}, {"1 101/100 1", false}, {"0 1 -1/100", false}, {"1 0 101/100", false},
		{"2 2 2", false}, {"-1 -1 -1", false}, {"-1 2 1/2", false}, {"2 1/2 -1", false},
	} {
		isHolding(t, cube(), words(c.point), c.isThere)
		isHolding(t, looseBox(cube()), loose(words(c.point)), c.isThere)
	}
	isHolding(t, slanted(), words("0 1 6"), true)
	isHolding(t, slanted(), words("1 0 6"), false)
	isHolding(t, slanted(), words("6 0 1"), false)
	isHolding(t, slanted(), words("0 6 1"), false)
}

// P10.1: all sides of boxes of all kinds, at the side and just beyond it.
func TestHoldsAtEachSide(t *testing.T) {
	for _, b := range full() {
		count := 0
		for _, p := range grid(b) {
			want := isHeld(b, p)
			isHolding(t, b, vecOf(p), want)
			isHolding(t, looseBox(b), vecOf(p), want)
			isHolding(t, b, loose(vecOf(p)), want)
			if want {
				count++
			}
		}
		if count != 64 {
			t.Errorf("%v holds %d points of its grid", b, count)
		}
	}
}

// P10.1: a box whose Lo is above its Hi in any number holds nothing, not even its corners.
func TestBoxesThatHoldNothing(t *testing.T) {
	for _, b := range void() {
		for _, p := range grid(b) {
			isHolding(t, b, vecOf(p), false)
			isHolding(t, looseBox(b), vecOf(p), false)
		}
		for _, p := range append(places(), b.Lo, b.Hi) {
			isHolding(t, b, p, false)
		}
	}
}

// P10.1: one thing that is written otherwise, beside canonical ones.
func TestHoldsInAllWritings(t *testing.T) {
	for _, b := range []api.Box{cube(), slanted(), boxWords("0 0 0", "0 0 0"), void()[0], void()[9]} {
		for i, p := range grid(b) {
			if i%5 != 0 {
				continue
			}
			want := isHeld(b, p)
			for _, q := range vecWritings(vecOf(p)) {
				isHolding(t, b, q, want)
			}
			for _, c := range boxWritings(b) {
				isHolding(t, c, vecOf(p), want)
			}
		}
	}
}

// P10.1: boxes and points of all kinds.
func TestHoldsOfManyBoxes(t *testing.T) {
	r, count := source(3), 0
	for _, b := range slices.Concat(full(), void()) {
		for _, p := range places() {
			isHolding(t, b, p, isHeld(b, valuesOf(p)))
		}
	}
	for range 6000 {
		b, p := anyBox(r), anyPoint(r)
		want := isHeld(b, valuesOf(p))
		isHolding(t, b, p, want)
		if want {
			count++
		}
	}
	if count < 300 {
		t.Errorf("only %d points are held", count)
	}
}
