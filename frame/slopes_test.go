package frame

import (
	"testing"

	"penumbra/api"
)

// isSlopes holds what Slopes answers against the wanted numbers, which are canonical.
func isSlopes(t *testing.T, f api.Frame, d api.Vec, u, v, z api.Rat) {
	t.Helper()
	gotU, gotV, gotZ, ok := Slopes(f, d)
	isNumber(t, gotU, u, "u", f, d)
	isNumber(t, gotV, v, "v", f, d)
	isNumber(t, gotZ, z, "z", f, d)
	if !ok {
		t.Errorf("Slopes %v %v: false", f, d)
	}
}

// isNoSlopes holds it against 0, 0, 0 and false.
func isNoSlopes(t *testing.T, f api.Frame, d api.Vec) {
	t.Helper()
	u, v, z, ok := Slopes(f, d)
	isVec(t, api.Vec{X: u, Y: v, Z: z}, origin(), f, d)
	if ok {
		t.Errorf("Slopes %v %v: true", f, d)
	}
}

// areSlopes holds it against another reckoner, and tells the sign of z.
func areSlopes(t *testing.T, f api.Frame, d api.Vec) int {
	t.Helper()
	inner := valuesOf(inOf(f, d))
	if inner[2].Sign() == 0 {
		isNoSlopes(t, f, d)
		return 0
	}
	isSlopes(t, f, d, ratOf(over(inner[0], inner[2])), ratOf(over(inner[1], inner[2])), ratOf(inner[2]))
	return inner[2].Sign()
}

// P6.3: the document's example; z above 0, below 0 and 0.
func TestSlopesOfNamedDirections(t *testing.T) {
	straight, back, example := told(t, words("0", "0", "1")), told(t, words("0", "0", "-1")), told(t, words("2/3", "1/3", "2/3"))
	isSlopes(t, straight, words("3", "4", "2"), word("3/2"), word("2"), word("2"))
	isSlopes(t, straight, words("3", "4", "-2"), word("-3/2"), word("-2"), word("-2"))
	isSlopes(t, straight, words("-3", "0", "1/7"), word("-21"), none(), word("1/7"))
	isSlopes(t, straight, words("0", "5", "-10"), none(), word("-1/2"), word("-10"))
	isSlopes(t, straight, words("0", "0", "9"), none(), none(), word("9"))
	isSlopes(t, back, words("3", "4", "2"), word("-3/2"), word("-2"), word("-2"))
	isSlopes(t, example, words("1", "2", "3"), word("1/10"), word("1/2"), word("10/3"))
	isSlopes(t, example, words("-1", "-2", "-3"), word("1/10"), word("1/2"), word("-10/3"))
	isSlopes(t, example, words("2/3", "1/3", "2/3"), none(), none(), word("1"))
	for _, d := range []api.Vec{{}, origin(), words("3", "4", "0"), words("-3", "4/7", "0"), words("1", "0", "0"), words("0", "1", "0")} {
		isNoSlopes(t, straight, d)
		isNoSlopes(t, back, d)
	}
	isNoSlopes(t, example, words("-1", "-2", "2"))
	isNoSlopes(t, example, words("1/2", "1", "-1"))
}

// P6.3: where z is 0, also with numbers that are not canonical, all is 0 though a and b are not.
func TestSlopesWithoutHeight(t *testing.T) {
	straight := told(t, words("0", "0", "1"))
	for _, zero := range zeros() {
		isNoSlopes(t, straight, api.Vec{X: word("3"), Y: word("-4"), Z: zero})
		isNoSlopes(t, api.Frame{E1: words("1", "2", "3"), E2: words("3", "2", "1"), N: api.Vec{X: zero, Y: zero, Z: zero}}, words("1", "-1", "7"))
	}
	for _, d := range mixed() {
		isNoSlopes(t, api.Frame{}, d)
		isNoSlopes(t, noFrame(), d)
	}
}

// P6.3: frames that no n has, where each of a, b and z has numbers of its own.
func TestSlopesOfSkewFrames(t *testing.T) {
	f := skews()[2]
	isSlopes(t, f, words("1", "0", "0"), word("1/13"), word("5/13"), word("13"))
	isSlopes(t, f, words("0", "-1", "0"), word("2/17"), word("7/17"), word("-17"))
	isSlopes(t, f, words("-1", "1/2", "2"), word("12/67"), word("41/67"), word("67/2"))
	isNoSlopes(t, f, words("17", "-13", "0"))
	isNoSlopes(t, skews()[6], words("1", "2", "3"))
}

// P6.3: all kinds of numbers, and those that are mostly not canonical, with each sign of z.
func TestSlopesOfManyDirections(t *testing.T) {
	var signs [3]int
	for _, f := range skews() {
		for _, d := range mixed() {
			signs[1+areSlopes(t, f, d)]++
			signs[1+areSlopes(t, looseFrame(f), loose(d))]++
			areSlopes(t, api.Frame{E1: d, E2: d, N: d}, d)
			areSlopes(t, api.Frame{E1: f.E1, E2: f.E2, N: d}, d)
		}
	}
	r := source(4)
	for range 1500 {
		signs[1+areSlopes(t, anyFrame(r, 1+r.IntN(3)), point(r, 1+r.IntN(3)))]++
		signs[1+areSlopes(t, told(t, vecOf(unit(r, 1+r.IntN(4)))), point(r, 1+r.IntN(4)))]++
	}
	if signs[0] < 200 || signs[1] < 200 || signs[2] < 200 {
		t.Errorf("z below 0, 0 and above 0: %v", signs)
	}
}

// isAlong holds what Along answers against another reckoner.
func isAlong(t *testing.T, f api.Frame, u, v api.Rat) {
	t.Helper()
	isVec(t, Along(f, u, v), outOf(f, api.Vec{X: u, Y: v, Z: word("1")}), f, u, v)
}

// P6.3: slopes below 0, 0 and above 0, and with a Den.
func TestAlongNamedSlopes(t *testing.T) {
	straight, back, example := told(t, words("0", "0", "1")), told(t, words("0", "0", "-1")), told(t, words("2/3", "1/3", "2/3"))
	isVec(t, Along(straight, word("1"), word("2")), words("1", "2", "1"))
	isVec(t, Along(straight, word("-3/2"), word("5/7")), words("-3/2", "5/7", "1"))
	isVec(t, Along(straight, api.Rat{}, api.Rat{}), words("0", "0", "1"))
	isVec(t, Along(back, word("1"), word("-2")), words("1", "-2", "-1"))
	isVec(t, Along(example, none(), none()), words("2/3", "1/3", "2/3"))
	isVec(t, Along(example, word("3"), none()), words("-1/3", "-5/3", "8/3"))
	isVec(t, Along(example, none(), word("-3")), words("8/3", "-5/3", "-1/3"))
	isVec(t, Along(example, word("1/10"), word("1/2")), words("3/10", "3/5", "9/10"))
	isVec(t, Along(skews()[2], word("-1/2"), word("2")), words("45/2", "30", "79/2"))
	isVec(t, Along(api.Frame{}, word("7"), word("-1/3")), origin())
	isVec(t, Along(skews()[6], word("1"), word("-1/2")), words("6", "25/2", "-31/2"))
}

// P6.3: all kinds of slopes, in frames of both kinds, also one number in several places.
func TestAlongManySlopes(t *testing.T) {
	frames := skews()
	for _, n := range lengthOne() {
		frames = append(frames, told(t, n))
	}
	for _, f := range frames {
		for _, u := range kinds() {
			for _, v := range kinds() {
				isAlong(t, f, u, v)
				isAlong(t, looseFrame(f), looseNumber(u), looseNumber(v))
			}
			isAlong(t, f, f.E1.X, f.E1.X)
		}
	}
	r := source(5)
	for range 1500 {
		isAlong(t, anyFrame(r, 1+r.IntN(4)), number(r, 1+r.IntN(4)), number(r, 1+r.IntN(4)))
	}
}
