package frame

import (
	"testing"

	"penumbra/api"
	"penumbra/vec"
)

// directions are those that have a frame: named ones, and many of all sizes.
func directions() []api.Vec {
	all := lengthOne()
	r := source(6)
	for range 400 {
		all = append(all, vecOf(unit(r, 1+r.IntN(4))))
	}
	return all
}

// P6.4: the three have the length 1, and each two the Dot 0.
func TestFramesAreAtRightAngles(t *testing.T) {
	for _, n := range directions() {
		f := told(t, n)
		for i, a := range []api.Vec{f.E1, f.E2, f.N} {
			for j, b := range []api.Vec{f.E1, f.E2, f.N} {
				want := none()
				if i == j {
					want = word("1")
				}
				isNumber(t, vec.Dot(a, b), want, n, i, j)
			}
		}
	}
}

// P6.4: Out of In is the direction, and In of Out; Dots stay.
func TestInTakesOutBack(t *testing.T) {
	r := source(7)
	for _, n := range directions() {
		f := told(t, n)
		a, b := point(r, 1+r.IntN(4)), point(r, 1+r.IntN(4))
		isVec(t, Out(f, In(f, a)), vecOf(valuesOf(a)), n, a)
		isVec(t, In(f, Out(f, a)), vecOf(valuesOf(a)), n, a)
		isNumber(t, vec.Dot(In(f, a), In(f, b)), vec.Dot(a, b), n, a, b)
		isNumber(t, vec.Dot(Out(f, a), Out(f, b)), vec.Dot(a, b), n, a, b)
	}
	for _, n := range lengthOne() {
		for _, d := range mixed() {
			f := told(t, n)
			isVec(t, Out(f, In(f, d)), d, n, d)
			isVec(t, In(f, Out(f, d)), d, n, d)
		}
	}
}

// P6.4: in its frame the direction itself is (0 0 1), and has the slopes 0 and 0.
func TestDirectionInItsFrame(t *testing.T) {
	for _, n := range directions() {
		f := told(t, n)
		isVec(t, In(f, n), words("0", "0", "1"), n)
		isVec(t, Out(f, words("0", "0", "1")), n, n)
		isSlopes(t, f, n, none(), none(), word("1"))
		isVec(t, Along(f, none(), none()), n, n)
	}
}

// P6.4: the slopes of Along are those that it was given, with z 1.
func TestSlopesTakeAlongBack(t *testing.T) {
	for _, n := range lengthOne() {
		for _, u := range kinds() {
			for _, v := range kinds() {
				isSlopes(t, told(t, n), Along(told(t, n), u, v), u, v, word("1"))
			}
		}
	}
	r := source(8)
	for _, n := range directions() {
		f, u, v := told(t, n), number(r, 1+r.IntN(4)), number(r, 1+r.IntN(4))
		isSlopes(t, f, Along(f, u, v), ratOf(valueOf(u)), ratOf(valueOf(v)), word("1"))
	}
}

// P6.4: Along of d's slopes, times z, is d.
func TestAlongTakesSlopesBack(t *testing.T) {
	r := source(9)
	found := 0
	for _, n := range directions() {
		f := told(t, n)
		for _, d := range []api.Vec{point(r, 1+r.IntN(4)), point(r, 2), vecOf(unit(r, 3))} {
			u, v, z, ok := Slopes(f, d)
			if ok {
				found++
				isVec(t, vec.Scale(z, Along(f, u, v)), vecOf(valuesOf(d)), n, d)
			}
		}
	}
	if found < 700 {
		t.Errorf("with slopes: %d", found)
	}
}
